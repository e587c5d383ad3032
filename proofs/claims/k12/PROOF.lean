import PyProof.Rows.All
import Wide.All
import OpenK.AllK
import Wide.FinOn
import HandS.ForMost
import HandS.IsInst
import HandS.More
import HandS.Strs
import HandS.Wide
import HandS.SortInts
import HandS.Style
import HandS.Conv
import PyProof.TypeEq
import PyProof.ReprRoads
import HandS.ForExc
import HandS.Evl
import HandS.Zip
import HandS.SetFor
import HandS.Walk
import PyProof.Rows.CountFlat
import HandS.DictComp
import PyProof.Rows.SeqMore
import HandS.Text
import HandS.WideBits
import HandS.Gcd
import HandS.Defaults
import PyProof.Rows.RegReprOcc
import PyProof.StrOps2
import HandS.NamedTupSort
import KE.LtSeq
import KE.KMathG
import PyProof.Walk
import PyProof.WalkLemmas
import PyProof.Pure
import PyProof.TableTree
import PyProof.FactsTree
import HandS.Rev
import HandS.FStr
import KE.KxField
import PyProof.FString3
import PyProof.Rows.StrIntSpec
import PyProof.StrLawsChain
import PyProof.StrLawsTight
import PyProof.Rows.StrItems
import HandS.Property
import HandS.ExcOwn
import HandS.TryMany
import HandS.WordsExc
import HandS.MakeKwOnly
import HandS.GenList
import HandS.ExcIs
import HandS.ExcValue
import HandS.HotCalls
import OpenK.KMeth
import KE.KCallOwn
import HandS.DictTup
import KE.KDictList
import PyProof.InstNe
import HandS.RaiseMore
import PyProof.CallFns
import PyProof.ReprReads
import HandS.Small
import PySem.Challenge.RW_latepatches_k12_orders_of_few_patches
set_option Elab.async false
set_option linter.all false
set_option maxRecDepth 100000
namespace Lp
open PySem PySem.Spec PyProof.Rows L2

/-! ### operators that the layer lacks -/
def CPowW (i j : Int) : Prop := 0 ≤ j ∧ (Builtin.Int.intBits i : Int) * j ≤ 2 ^ 27
section
variable {X : Cx}
theorem op_powW : OpR X (binaryOp .Pow) (rI CPowW fun i j => .int (i ^ j.toNat)) := opI fun _ _ _ _ _ _ _ hc q => pow_int hc.1 hc.2 q
end
theorem powW_ok {i : Int} {n : Nat} {j : Int} (h : i.natAbs < 2 ^ n) (hj : 0 ≤ j) (hn : (n : Int) * j ≤ 100000000) : CPowW i j := by
  refine ⟨hj, ?_⟩
  have b := PyProof.Rows.intBits_le h
  have e : (2 : Int) ^ 27 = 134217728 := by decide
  rw [e]
  have h1 : (Builtin.Int.intBits i : Int) ≤ (n : Int) := by omega
  have h2 := Int.mul_le_mul_of_nonneg_right h1 hj
  omega

/-! ### repr -/
def rRepr (K : PySem.W.Frag) : List V → Hp → VK → Prop := fun xs H Q => ∃ (a : Addr) (d : PyData), xs = [.ref a] ∧ Dp K H (.ref a) d ∧ d.showable = true ∧ d.hasDict = false ∧ d.depth ≤ 60 ∧ d.shown.length ≤ sizeLine ∧ Q (.str d.shown) H
theorem call_repr {X : Cx} (hg : X.A.guards = some []) (hu : X.A.units + 64 < cLine) : CallR X (.builtin "repr") (rRepr X.K) := by
  intro pins s σ H xs us Q I r h
  obtain ⟨a, d, rfl, hd, h1, h2, h3, h4, q⟩ := h
  obtain ⟨u, rfl, rx⟩ := vals1 r
  obtain ⟨as, hr⟩ := Dp.reads I d _ u hd rx
  cases (show u = Value.ref a from rx)
  exact PySem.repr_of_reads' hr h1 (PyData.noDict_hsm h2) hg (by omega) (fun _ _ e => e) (fun h' t tk hk => ⟨.str d.shown, H, I.kept hk, ⟨t, rfl⟩, q⟩) h4
end Lp
set_option Elab.async false
set_option linter.all false
set_option maxRecDepth 100000
namespace Lp
open PySem PySem.Spec PyProof.Rows L2

/-! ### defs that are called where no repr is under way (guards = some []) -/
structure FnG (P : Program) (w : World) (K : PySem.W.Frag) (mg : Str → Option Value) (base : Heap) (CX : CXT) (k : Nat) (f : Addr) (fd : FuncData) (ps : List Str) (sp : Sp) : Prop where
  len : ∀ vs H Q E, sp vs H Q E → vs.length = ps.length
  runG : ∀ (A : Around) (out : List Env) (s : Shared) (H : Hp) (ar : Args) (us : List Value) (vs : List V) (Q : VK) (E : XK), A.guards = some [] → Room k A → Env0 P w K mg base A out s H →
    BindsTo s fd ar (ps.zip us) → Vals vs us → sp vs H Q E → codeAny (model P w) A (.call (.ref f) ar) (CR CX out P w H s Q E) s
section
variable {P : Program} {w : World} {K : PySem.W.Frag} {mg : Str → Option Value} {base : Heap}
theorem FnG.of {CX : CXT} {k : Nat} {f : Addr} {fd : FuncData} {ps : List Str} {sp : Sp} (F : FnOk P w K mg base CX k f fd ps sp) : FnG P w K mg base CX k f fd ps sp :=
  ⟨F.len, fun A out s H ar us vs Q E _ hr => F.run A out s H ar us vs Q E hr⟩
theorem fnG_of {CX : CXT} {k : Nat} {f : Addr} {name qual : Str} {params : Arguments} {body : List Stmt} {scope : Scope} {dV kV doc pm cdv ct oc : Value} {an od : Option Addr}
    {osl : Array (Option Value)} {N ps : List Str} {sp : Sp} (lk : K.lookup f = some ⟨oc, od, .func (PySem.W.fnOf name qual params body scope dV kV doc pm an cdv ct), osl⟩) (hcd : PySem.W.codeIn K cdv qual = true) (S : FnScope N ps scope)
    (ln : ∀ vs H Q E, sp vs H Q E → vs.length = ps.length)
    (hb : ∀ (A : Around) (out : List Env) (s : Shared) (H : Hp) (vs : List V) (Q : VK) (E : XK), A.guards = some [] → Room k (A.deeper (envOfC qual scope s.heap.objs.size f cdv)) → sp vs H Q E →
      ∃ t, PSs (cxOf CX P w K mg base N qual scope f cdv A out s H E) body t ∧ t { nx := fun _ H' => Q .non H', rt := Q } (start N vs) H) :
    FnG P w K mg base CX (k + 1) f (PySem.W.fnOf name qual params body scope dV kV doc pm an cdv ct) ps sp := by
  refine ⟨ln, fun A out s H ar us vs Q E hG room en bd rv hs => ?_⟩
  have KX : K.In s.heap := en.mod.kin.keeps fun b o e => (en.bs b o e).1
  have nl : s.heap.NoLimit := en.mod.nolimit.keeps fun b o e => (en.bs b o e).1
  have kd : ∀ y ∈ ps.zip us, scope.names.lookup y.1 = some .local ∨ (scope.names.lookup y.1 = some .cell ∧ ((cellsFrom (s.heap.objs.size + 1) scope.names []).lookup y.1).isSome = true) := by
    rintro ⟨n, v⟩ hy
    have hm := (List.of_mem_zip hy).1
    exact (S.par n hm).elim (fun q => .inl q) fun q => .inr ⟨q, PySem.W.cellsFrom_some _ _ _ (.inl q)⟩
  refine codeAny_call_function room.depth (KX _ _ lk) rfl S.co S.gen rfl (PySem.W.codeRec_of KX hcd) (bd _ _ _ _ ?_)
  refine wpAny_newFunctionEnv_cells S.kind kd fun e1 he s1 x => ?_
  subst he
  refine ⟨nl.keeps x.toInCall.keep, codeAny_func ?_⟩
  obtain ⟨t, ht, hq⟩ := hb A out s H vs Q E hG (room.deeper _) hs
  have J0 : Inv (cxOf CX P w K mg base N qual scope f cdv A out s H E) [] (start N vs) H s1 := inv_start S room.hd en (ln _ _ _ _ hs) rv x
  refine wpAny_mono (ht.run [] s1 (start N vs) H _ J0 hq) (fun fl s' h3 => ?_) fun _ _ h3 => h3
  cases fl with
  | ret u => exact let ⟨v, _, H', J, r2, q⟩ := h3; ⟨v, H', J.os, J.bare, J.base, J.hok, r2, q⟩
  | next => exact let ⟨_, H', J, q⟩ := h3; ⟨.non, H', J.os, J.bare, J.base, J.hok, rfl, q⟩
  | brk => exact (let ⟨_, _, _, q⟩ := h3; q : False).elim
  | cont => exact (let ⟨_, _, _, q⟩ := h3; q : False).elim
theorem okG {x qual : Str} {st : Stmt} {f : Addr} {fd : FuncData} {N ps : List Str} {k : Nat} {sp : Sp} (F : Fun K x qual st f fd) (S : FnScope N ps (defScope st)) (ln : ∀ vs H Q E, sp vs H Q E → vs.length = ps.length)
    (hb : ∀ (cdv : Value) (A : Around) (out : List Env) (s : Shared) (H : Hp) (vs : List V) (Q : VK) (E : XK), A.guards = some [] → Room k (A.deeper (envOfC qual (defScope st) s.heap.objs.size f cdv)) → sp vs H Q E →
      ∃ t, PSs (cxOf CX0 P w K mg base N qual (defScope st) f cdv A out s H E).nox (defBody st) t ∧ t { nx := fun _ H' => Q .non H', rt := Q } (start N vs) H) : FnG P w K mg base CX0 (k + 1) f fd ps sp := by
  obtain ⟨oc, od, kV, doc, pm, an, cdv, ct, osl, rfl, lk, hcd⟩ := F.ex
  refine fnG_of lk hcd S ln fun A out s H vs Q E hG room h => ?_
  obtain ⟨t, ht, q⟩ := hb cdv A out s H vs Q E hG room h
  exact ⟨t, ht.nox, q⟩
end
section
variable {X : Cx} {CX : CXT} {k : Nat} {f : Addr} {fd : FuncData} {ps : List Str} {sp : Sp} {dvs : List V} {ds : List Value} {E : XK} {x : Str} {p pos : Pos} {e : Expr} {es : List Expr} {t : TA}
theorem pe_callG (F : FnG X.prog X.w X.K X.mg X.base CX k f fd ps sp) (hG : X.A.guards = some []) (hr : Room k X.A) (hg : Gl X x) (hm : X.mg x = some (.ref f)) (hk : PySem.W.keepIn X.K (.ref f) = true) (hb : Binds X.K fd ps ds) (hd : Vals dvs ds) (hx : Passes CX X E)
    (ha : PA X (e :: es) t) (hdb : (x == ("__debug__" : Str)) = false := by decide) (he : starEach (e :: es) X.env = (false, eval e X.env) :: starEach es X.env := by rfl) (hpl : (backTo pos (starEach es X.env)).any (·.1) = false := by rfl) :
    PE X (.Call (.Name x p) (e :: es) [] pos) (tCall sp dvs E t) := by
  refine ⟨fun pins s σ H Q I h => wpAny_Call_Name_kw (ld_glob I hg hm ?_ hdb)⟩
  refine PySem.W.callWith_K (h₀ := X.base) I.ok.mod.kin hk (thn (ha.run pos pins s σ H _ I h) fun us s1 ⟨vs, H1, I1, r, q⟩ => ⟨I1.kIn, ?_⟩) he hpl
  have rr : Vals (vs ++ dvs) (us ++ ds) := r.append hd
  have hl : (us ++ ds).length = ps.length := rr.length.symm.trans (F.len _ _ _ _ q)
  refine wpAny_call (codeAny_mono (F.runG X.A X.stack s1 H1 ⟨us, []⟩ (us ++ ds) (vs ++ dvs) Q E hG hr I1.env0 (hb s1 us I1.kIn hl) rr q) fun r s' hq => ?_)
  cases r with
  | error e => exact hx pins σ H1 s1 e s' I1 hq
  | ok fl =>
    cases fl with
    | ret u => exact I1.after hq
    | next => exact False.elim hq
    | brk => exact False.elim hq
    | cont => exact False.elim hq
end

/-! ### the end of a law's row, for such a law -/
theorem law_callG {P : Program} {w : World} {K : PySem.W.Frag} {mg mb : Str → Option Value} {CX : CXT} {k : Nat} {fa a : Addr} {fd : FuncData} {x : Str} {sp : Sp} {s₁ : Shared} {vs : List Value} {ns : List Int}
    (KX : K.In s₁.heap) (hns : s₁.heap.Ns mainGlobals mg) (hb : s₁.heap.Ns builtinsNs mb) (hbb : ∀ x : Str, x ≠ "__name__" → mb x = bootBuiltins x) (hlim : s₁.heap.NoLimit) (hg : s₁.gens = #[])
    (ha : s₁.heap.get? a = some { cls := .type "list", data := .seq vs.toArray }) (hi : IntsAre vs ns) (hl : ns.length ≤ sizeLine) (hr : Room k callerA)
    (F : ∀ base : Heap, K.In base → base.Ns mainGlobals mg → FnG P w K mg base CX k fa fd [x] sp) (hbind : ∀ (s : Shared) (u : Value), BindsTo s fd ⟨[u], []⟩ [(x, u)])
    (hsp : ∀ H : Hp, Only H → SqL K H a (ns.map V.int) → sp [.ref a] H (fun v _ => v = .bl true) fun _ _ _ => False)
    (hCX : ∀ H e s', CX [] H s₁ (fun _ _ _ => False) e s' → False) :
    codeAny (model P w) callerA (.call (.ref fa) ⟨[.ref a], []⟩) (fun r s' => r = .ok (.ret (.bool true)) ∧ OldK s₁.heap s'.heap ∧ s'.os = s₁.os ∧ AllBare s'.gens) s₁ := by
  have rv := vals_ints hi
  have szV := hi.length
  have main : ∀ H : Hp, Only H → SqL K H a (ns.map V.int) → HOk P w H s₁.heap → (∀ b, H b ≠ none → b = a) → (H a ≠ none → K.lookup a = none) →
      codeAny (model P w) callerA (.call (.ref fa) ⟨[.ref a], []⟩) (fun r s' => r = .ok (.ret (.bool true)) ∧ OldK s₁.heap s'.heap ∧ s'.os = s₁.os ∧ AllBare s'.gens) s₁ := by
    intro H hO hS ok hA hK
    have free : ∀ {b : Addr}, b ≠ a → H b = none := fun {b} hb => by
      cases q : H b with
      | none => rfl
      | some u => exact absurd (hA b (by rw [q]; simp)) hb
    have nsK : ∀ {b : Addr} {m : Str → Option Value}, s₁.heap.Ns b m → (hidT s₁.heap H).Ns b m := by
      rintro b m ⟨o, es, ep, e, d, r⟩
      refine ⟨o, es, ep, hidT_get e (free fun z => ?_), d, r⟩
      subst z
      rw [ha] at e
      cases e
      exact nomatch (show Data.seq vs.toArray _ = Data.dict es ep from d)
    have hKb : K.In (hidT s₁.heap H) := by
      intro b o e
      refine hidT_get (KX b o e) ?_
      cases q : H b with
      | none => rfl
      | some u =>
        have z := hA b (by rw [q]; simp)
        subst z
        rw [hK (by rw [q]; simp)] at e
        cases e
    have hM : Mod K mg (hidT s₁.heap H) := ⟨hKb, nsK hns, ⟨mb, nsK hb, hbb⟩, let ⟨mc, h1, h2⟩ := hlim; ⟨mc, nsK h1, h2⟩⟩
    have e0 : Env0 P w K mg (hidT s₁.heap H) callerA [] s₁ H := ⟨rfl, hM, fun b o e => of_hidT e, Nat.le_of_eq (hidT_size _ _), trivial, fun b hb => absurd (show b ∈ ([] : List Addr) from hb) (by simp), ok, .of_eq hg⟩
    refine codeAny_mono ((F _ hKb (nsK hns)).runG callerA [] s₁ H ⟨[.ref a], []⟩ [.ref a] [.ref a] _ _ rfl hr e0 (hbind s₁ (.ref a)) (.cons rfl .nil) (hsp H hO hS)) fun r s' h => ?_
    cases r with
    | error e => exact (hCX H e s' h).elim
    | ok fl =>
      cases fl with
      | next => exact False.elim h
      | brk => exact False.elim h
      | cont => exact False.elim h
      | ret u =>
        obtain ⟨v, H', os, bare, un, hok', r', q⟩ := h
        cases (show v = .bl true from q)
        cases (show u = Value.bool true from r')
        refine ⟨rfl, OldK.of_keep fun b o e => ?_, os, bare⟩
        rcases hO b with z | ⟨ob, xs, z⟩
        · exact un.keep b o e z (fun z => absurd (show b ∈ ([] : List Addr) from z) (by simp)) (by simp)
        · obtain ⟨e1, _⟩ := ok b _ z
          obtain ⟨e2, _⟩ := hok' b _ (un.frzs b ob _ z)
          rw [e] at e1; cases e1
          exact e2
  cases hk : K.lookup a with
  | some o =>
    have e := KX a o hk
    rw [ha] at e
    cases e
    exact main (fun _ => none) (fun _ => .inl rfl) (.inr ⟨_, vs.toArray, _, hk, rfl, rfl, rfl, by rw [List.size_toArray, szV]; exact hl, by simpa using rv⟩) (fun b u z => nomatch z) (fun b z => absurd rfl z) fun z => absurd rfl z
  | none =>
    refine main (fun b => if b = a then some (.frz { cls := .type "list", data := .seq vs.toArray } (.lst (ns.map V.int))) else none) (fun b => ?_) (.inl (.inr ⟨{ cls := .type "list", data := .seq vs.toArray }, if_pos rfl⟩)) (fun b u z => ?_) (fun b z => ?_) fun _ => hk
    · by_cases h : b = a
      · exact .inr ⟨_, _, if_pos h⟩
      · exact .inl (if_neg h)
    · by_cases h : b = a
      · cases (if_pos h).symm.trans z
        subst h
        exact ⟨ha, by rw [List.length_map]; exact hl, vs, _, rv, ha⟩
      · cases (if_neg h).symm.trans z
    · by_cases h : b = a
      · exact h
      · exact absurd (if_neg h) z
theorem walk_ofG {l : PySem.W.OpenLaw} {n k : Nat} {q : Program} {loose : List Str} {XP : (Str → Option Value) → Heap → Prop} {YP : World → Heap → Prop} {d : DefRec} {K : Params → PySem.W.Frag} {CX : World → CXT} {sp : World → Sp} {x : Str}
    (hn : l.most = some n) (hn2 : n ≤ sizeLine) (hdf : d.params.defaults = []) (hr : Room k callerA)
    (hY : ∀ (w : World) (h : Heap), YP w h → (K w.params).In h)
    (F : ∀ (w : World) (mg : Str → Option Value) (fa : Addr) (h : Heap), (K w.params).In h → h.Ns mainGlobals mg → mg d.name = some (.ref fa) →
      ∃ fd : FuncData, (∀ (s : Shared) (u : Value), BindsTo s fd ⟨[u], []⟩ [(x, u)]) ∧
        ∀ base : Heap, (K w.params).In base → base.Ns mainGlobals mg → FnG l.prog w (K w.params) mg base (CX w) k fa fd [x] (sp w))
    (hsp : ∀ (w : World) (H : Hp) (a : Addr) (ns : List Int), ns.length ≤ n → Only H → SqL (K w.params) H a (ns.map V.int) → sp w [.ref a] H (fun v _ => v = .bl true) fun _ _ _ => False)
    (hCX : ∀ (w : World) (H : Hp) (s : Shared) (e : Value) (s' : Shared), CX w [] H s (fun _ _ _ => False) e s' → False) :
    PySem.W.WalkO q loose XP YP l.row.toRowW d [] (fun f vs => PySem.call f vs) := by
  refine Att.attach_call hn hdf fun w _ s₁ mg _ fa _ _ _ _ a vs ns G Y _ _ _ hmg hobj hints hlen hg => ?_
  obtain ⟨fd, hb, hF⟩ := F w mg fa _ (hY w _ Y) G.T.g hmg
  exact law_callG (hY w _ Y) G.T.g G.T.b G.T.builtins G.T.nolimit hg hobj hints (Nat.le_trans hlen hn2) hr hF hb (fun H hO hS => hsp w H a ns hlen hO hS) fun H e s' => hCX w H s₁ e s'
end Lp
set_option Elab.async false
set_option linter.all false
set_option maxRecDepth 100000
namespace Lp
open PySem PySem.Spec PyProof.Rows L2

/-- the names of the built-ins that the text leaves alone -/
structure NoB (mg : Str → Option Value) : Prop where
  len : mg "len" = none
  list : mg "list" = none
  int : mg "int" = none
  bool : mg "bool" = none
  str : mg "str" = none
  tuple : mg "tuple" = none
  max : mg "max" = none
  min : mg "min" = none
  range : mg "range" = none
  repr : mg "repr" = none
  isinstance : mg "isinstance" = none
  type : mg "type" = none
  all : mg "all" = none
  set : mg "set" = none
  zip : mg "zip" = none
  enumerate : mg "enumerate" = none
  sorted : mg "sorted" = none
  abs : mg "abs" = none

/-- a def that may be called by its name -/
structure Gc (P : Program) (w : World) (K : PySem.W.Frag) (mg : Str → Option Value) (base : Heap) (k : Nat) (x : Str) (sp : Sp) : Prop where
  ex : ∃ (f : Addr) (fd : FuncData) (ps : List Str), FnG P w K mg base CX0 k f fd ps sp ∧ mg x = some (.ref f) ∧ PySem.W.keepIn K (.ref f) = true ∧ Binds K fd ps []
theorem FnG.mono {P : Program} {w : World} {K : PySem.W.Frag} {mg : Str → Option Value} {base : Heap} {CX : CXT} {j k : Nat} {f : Addr} {fd : FuncData} {ps : List Str} {sp : Sp} (F : FnG P w K mg base CX j f fd ps sp) (h : j ≤ k) : FnG P w K mg base CX k f fd ps sp :=
  ⟨F.len, fun A out s H ar us vs Q E hG hr => F.runG A out s H ar us vs Q E hG (hr.mono h)⟩
section
variable {X : Cx} {k j : Nat} {x : Str} {sp : Sp} {p pos : Pos} {e : Expr} {es : List Expr} {t : TA}
theorem pe_g (c : Gc X.prog X.w X.K X.mg X.base k x sp) (hG : X.A.guards = some []) (hr : Room j X.A) (hk : k ≤ j) (hg : Gl X x) (ha : PA X (e :: es) t)
    (hdb : (x == ("__debug__" : Str)) = false := by decide) (he : starEach (e :: es) X.env = (false, eval e X.env) :: starEach es X.env := by rfl) (hpl : (backTo pos (starEach es X.env)).any (·.1) = false := by rfl) :
    PE X (.Call (.Name x p) (e :: es) [] pos) (tCall sp [] E0 t) := by
  obtain ⟨f, fd, ps, F, hm, kp, b⟩ := c.ex
  exact pe_callG F hG (hr.mono hk) hg hm kp b .nil pass0 ha hdb he hpl
end

/-! ### == and != of types -/
def rEqTy : R2 := fun x y H Q => ∃ a b, x = .ty a ∧ y = .ty b ∧ (∀ s' : Shared, s'.TypeIs (.type a) "type") ∧ (∀ s' : Shared, s'.TypeIs (.type b) "type") ∧ Q (.bl (decide (a = b))) H
def rNeTy : R2 := fun x y H Q => ∃ a b, x = .ty a ∧ y = .ty b ∧ (∀ s' : Shared, s'.TypeIs (.type a) "type") ∧ (∀ s' : Shared, s'.TypeIs (.type b) "type") ∧ Q (.bl (!decide (a = b))) H
section
variable {X : Cx}
theorem op_eqTy : OpR X (compareOp .Eq) rEqTy := by
  intro pins s σ H x y v u Q I rx ry h
  obtain ⟨a, b, rfl, rfl, ha, hb, q⟩ := h
  cases (show v = Value.type a from rx)
  cases (show u = Value.type b from ry)
  by_cases e : a = b
  · subst e
    exact PySem.TypeEq.eq_type_same ha ⟨.bl true, H, I, rfl, by simpa using q⟩
  · exact PySem.TypeEq.eq_type_other ha hb (by rw [ty_beq]; exact decide_eq_false e) ⟨.bl false, H, I, rfl, by simpa [e] using q⟩
end

open PySem.TypeEq
theorem slot_type_ne : Slot "type" (cmpInfo .NotEq).2.1 "object.__ne__" :=
  .of (owner := "object") (n := "__ne__") (by rw [typeLookup_type, builtinLookup_eq_fast]; kernel_rfl) (by decide +kernel) (by decide +kernel) (by decide +kernel)
    (by first | exact .inl (by decide +kernel) | exact .inr (by decide +kernel)) (by rw [isSubtype_type]; kernel_rfl)
section
variable {prog : Program} {w : World} {A : Around} {E : Value → Shared → Prop} {s : Shared} {Q : Value → Shared → Prop}
theorem ne_type_same {X : String} (hX : ∀ s' : Shared, s'.TypeIs (.type X) "type") (h : Q (.bool false) s) : wpAny (model prog w) A (compareOp .NotEq (.type X) (.type X)) Q E s := by
  show wpAny _ A (richCompare .NotEq _ _) Q E s
  refine PySem.wpAny_richCompare_same (T := "type") (hX s) (hX s) slot_type_ne (wpAny_call_entry slot_type_ne (hX s) F.entry_object_ne ?_ (F.args_object_ne_2 _ _))
  unfold Builtin.«object.__ne__»
  refine wpAny_bind (m := slotArgs "__ne__" 1 _) (wpAny_of_eq (a := ((Value.type X : Value), [Value.type X])) (by first | rfl | (simp only [slotArgs]; rfl)) ?_)
  refine wpAny_bind (wpAny_cRoomFor_or (.inl rfl) ?_)
  refine wpAny_bind (m := callSpecialIfBound? (.type X) (Str.ofString "__eq__") [.type X]) (wpAny_callSpecialIfBound?_slot (hX s) slot_type_eq
    (call_gives slot_type_eq (hX s) F.entry_object_eq (F.args_object_eq_2 _ _) (object_eq_same rfl (by simp)) ?_))
  show wpAny (model prog w) A.in1 (truthy (.bool true) >>= fun b => ret (Value.bool !b)) _ E s
  exact wpAny_bind (wpAny_of_eq (a := true) (by first | rfl | simp [truthy]) (wpAny_pure ⟨_, rfl, (by intro e; cases e), h⟩))
end

/-- a != b of the same built-in type -/
def rNeTyS : R2 := fun x y H Q => ∃ a, x = .ty a ∧ y = .ty a ∧ (∀ s' : Shared, s'.TypeIs (.type a) "type") ∧ Q (.bl false) H
theorem op_neTy {X : Cx} : OpR X (compareOp .NotEq) rNeTyS := by
  intro pins s σ H x y v u Q I rx ry h
  obtain ⟨a, rfl, rfl, ha, q⟩ := h
  cases (show v = Value.type a from rx)
  cases (show u = Value.type a from ry)
  exact ne_type_same ha ⟨.bl false, H, I, rfl, q⟩
/-! ### heaps -/
theorem same_new {H : Hp} {p : Addr} {o : HO} (h : H p = none) : Same H (upd H p o) := fun b x e => by
  rw [upd_ne (ne_of_none e h)]
  exact e
/-- all but what stands at a is as it was -/
def But (a : Addr) (H H' : Hp) : Prop := ∀ b, b ≠ a → ∀ o, H b = some o → H' b = some o
end Lp
set_option Elab.async false
set_option linter.all false
set_option maxRecDepth 100000
namespace Lp
open PySem PySem.Spec PyProof.Rows L2

/-! ### comprehensions that only add -/
def LcP (H1 : Hp) (D : Addr) (acc : Nat → List V) (i : Nat) (H : Hp) : Prop := H1 D = none ∧ Same H1 H ∧ H D = some (.lst (acc i))
section
variable {H1 H H4 : Hp} {D : Addr} {acc : Nat → List V} {i : Nat} {y : V}
theorem LcP.init (h : H1 D = none) (e : acc 0 = []) : LcP H1 D acc 0 (upd H1 D (.lst [])) := ⟨h, same_new h, by rw [upd_same, e]⟩
theorem LcP.put (p : LcP H1 D acc i H) (s : Same H H4) (e : acc (i + 1) = acc i ++ [y]) (hz : (acc i).length < 100000) :
    ∃ l, H4 D = some (.lst l) ∧ l.length < sizeLine ∧ LcP H1 D acc (i + 1) (upd H4 D (.lst (l ++ [y]))) := by
  obtain ⟨p1, p2, p3⟩ := p
  refine ⟨acc i, s _ _ p3, Nat.lt_of_lt_of_le hz (by decide), p1, fun b o h => ?_, by rw [upd_same, e]⟩
  rw [upd_ne (ne_of_none h p1)]
  exact s _ _ (p2 _ _ h)
theorem LcP.skip (p : LcP H1 D acc i H) (s : Same H H4) (e : acc (i + 1) = acc i) : LcP H1 D acc (i + 1) H4 := ⟨p.1, p.2.1.trans s, by rw [e]; exact s _ _ p.2.2⟩
end
theorem get_int {ns : List Int} {i : Nat} {x : V} (h : (ns.map V.int)[i]? = some x) : ∃ n, x = .int n ∧ ns[i]? = some n := by
  rw [List.getElem?_map] at h
  cases e : ns[i]? with
  | none => rw [e] at h; cases h
  | some n => rw [e] at h; cases h; exact ⟨n, rfl, rfl⟩
theorem mem_get {α : Type} {l : List α} {i : Nat} {x : α} (h : l[i]? = some x) : x ∈ l := List.mem_of_getElem? h
theorem lt_get {α : Type} {l : List α} {i : Nat} {x : α} (h : l[i]? = some x) : i < l.length := (List.getElem?_eq_some_iff.mp h).1
theorem take_get {α : Type} {l : List α} {i : Nat} {x : α} (h : l[i]? = some x) : l.take (i + 1) = l.take i ++ [x] := by
  rw [List.take_add_one, h]
  rfl
theorem zs {n : Nat} (h : n ≤ 100000) : n ≤ sizeLine := Nat.le_trans h (by decide)
theorem zl {n : Nat} (h : n < 100000) : n < sizeLine := Nat.lt_of_lt_of_le h (by decide)
theorem at0 {x : V} {r : List V} : atI (x :: r) 0 = some x := atI_nat (j := 0) rfl
theorem at1 {x y : V} {r : List V} : atI (x :: y :: r) 1 = some y := atI_nat (j := 1) rfl
theorem at2 {x y z : V} {r : List V} : atI (x :: y :: z :: r) 2 = some z := atI_nat (j := 2) rfl
theorem at_last {xs : List V} {y : V} : atI (xs ++ [y]) (-1) = some y := atI_last _ _
theorem dT {p : Prop} [Decidable p] (h : p) : V.bl (decide p) = V.bl true := congrArg V.bl (decide_eq_true h)
theorem dF {p : Prop} [Decidable p] (h : ¬ p) : V.bl (decide p) = V.bl false := congrArg V.bl (decide_eq_false h)
theorem nT {p : Prop} [Decidable p] (h : ¬ p) : V.bl (!decide p) = V.bl true := by rw [decide_eq_false h]; rfl
theorem nF {p : Prop} [Decidable p] (h : p) : V.bl (!decide p) = V.bl false := by rw [decide_eq_true h]; rfl
theorem vne {i j : Int} (h : i ≠ j) : ¬ V.int i = V.int j := fun e => h (V.int.inj e)

/-! ### a word behind a test, a value -/
def tMid (t : TT) : TT := fun σ H Q => ∃ M : Bool → Hp → Prop, t σ H M ∧ ∀ b H', M b H' → Q b H'
theorem pt_mid {X : Cx} {e : Expr} {t : TT} (h : PT X e t) : PT X e (tMid t) := ⟨fun pins s σ H _ I ⟨M, hm, hq⟩ => thn (h.run pins s σ H M I hm) fun b _ ⟨H', I', m⟩ => ⟨H', I', hq b H' m⟩⟩
def tMidE (t : TE) : TE := fun σ H Q => ∃ M : VK, t σ H M ∧ ∀ v H', M v H' → Q v H'
theorem pe_mid {X : Cx} {e : Expr} {t : TE} (h : PE X e t) : PE X e (tMidE t) := ⟨fun pins s σ H _ I ⟨M, hm, hq⟩ => thn (h.run pins s σ H M I hm) fun _ _ ⟨v, H', I', r, m⟩ => ⟨v, H', I', r, hq v H' m⟩⟩
/-! ### all but what stands at a is as it was -/
def Bt (a : Addr) (H H' : Hp) : Prop := ∀ b o, b ≠ a → H b = some o → H' b = some o
section
variable {a b p : Addr} {H H1 H2 H' : Hp} {o : HO}
theorem Bt.refl (a : Addr) (H : Hp) : Bt a H H := fun _ _ _ e => e
theorem Bt.trans (x : Bt a H H1) (y : Bt a H1 H2) : Bt a H H2 := fun b o n e => y b o n (x b o n e)
theorem Bt.of (x : Same H H') : Bt a H H' := fun b o _ e => x b o e
theorem Bt.at_ (a : Addr) (H : Hp) (o : HO) : Bt a H (upd H a o) := fun b u n e => by rw [upd_ne n]; exact e
theorem Bt.new (h : H p = none) : Bt a H (upd H p o) := .of (same_new h)
theorem Bt.mut (x : Bt a H H') (h : H p = none) : Bt a H (upd H' p o) := fun b u n e => by rw [upd_ne (ne_of_none e h)]; exact x b u n e
theorem Bt.add (x : Bt a H H') (h : H' p = none) : Bt a H (upd H' p o) := x.trans (.new h)
theorem Same.mut (x : Same H H') (h : H p = none) : Same H (upd H' p o) := fun b u e => by rw [upd_ne (ne_of_none e h)]; exact x b u e
theorem Same.add (x : Same H H') (h : H' p = none) : Same H (upd H' p o) := x.trans (same_new h)
theorem Bt.seq {K : PySem.W.Frag} {xs : List V} (x : Bt a H H') (n : b ≠ a) (h : SqL K H b xs) : SqL K H' b xs := by
  rcases h with (h | ⟨o, h⟩) | h
  · exact .inl (.inl (x _ _ n h))
  · exact .inl (.inr ⟨o, x _ _ n h⟩)
  · exact .inr h
end

/-! ### rules that name the written part outright: for the inside of comprehensions -/
section
variable {X : Cx} {K : PySem.W.Frag} {o e : Expr} {es : List Expr} {to : TE} {t : TA} {name : Str} {apos cpos : Pos} {T id : String} {r : V → List V → Hp → VK → Prop}
theorem k_bm (hK : X.K = K) (pa : PlainAttrs T) (slot : Slot T name id) (hty : typeOf (.builtin id) = pure (.type "method_descriptor")) (hm : MtR X id r) (ho : PE X o to) (ha : PA X (e :: es) t)
    (hbase : attributeBase o name X.env (eval o X.env) = eval o X.env := by rfl)
    (hfew : ((backTo cpos (starEach (e :: es) X.env)).all (fun x => !x.1) && (backToKw cpos (keywordEach [] X.env)).all (fun x => x.1.isSome)
      && decide ((e :: es).length + ([] : List Keyword).length + (if ([] : List Keyword).isEmpty then 0 else 1) < 30)) = true := by rfl)
    (hline : (apos.endLine == cpos.line) = true := by rfl) (hs : starEach (e :: es) X.env = (false, eval e X.env) :: starEach es X.env := by rfl) (hplain : (backTo cpos (starEach es X.env)).any (·.1) = false := by rfl) :
    PE X (.Call (.Attribute o name apos) (e :: es) [] cpos) (tBM K T r to t) := by
  subst hK
  exact pe_bm pa slot hty hm ho ha hbase hfew hline hs hplain
def rLenK (K : PySem.W.Frag) : List V → Hp → VK → Prop := fun xs H Q => ∃ p ys, xs = [.ref p] ∧ (SqL K H p ys ∨ SqT K H p ys) ∧ Q (.int ys.length) H
theorem k_len (hK : X.K = K) : CallR X (.builtin "len") (rLenK K) := by
  subst hK
  exact call_len_seq
theorem k_ix (hK : X.K = K) : IxR X (rIxL K) := by
  subst hK
  exact ix_list
theorem k_ixT (hK : X.K = K) : IxR X (rIxT K) := by
  subst hK
  exact ix_tup
theorem k_in (hK : X.K = K) : OpR X (compareOp .In) (rIn K false) := by
  subst hK
  exact op_in_seq
theorem k_notin (hK : X.K = K) : OpR X (compareOp .NotIn) (rIn K true) := by
  subst hK
  exact op_notIn_seq
theorem k_isi (hK : X.K = K) : CallR X (.builtin "isinstance") (rIsi K) := by
  subst hK
  exact call_isi
end
end Lp
set_option Elab.async false
set_option linter.all false
set_option maxRecDepth 100000
namespace Lp
open PySem PySem.Spec PyProof.Rows L2
/-! ### lists of ints as data -/
abbrev dI (ns : List Int) : PyData := .list (ns.map PyData.int)
theorem lay_ints : ∀ ns : List Int, PyData.canLayAll0 (ns.map PyData.int) = true
  | [] => rfl
  | _ :: r => by
    show (PyData.canLay0 (.int _) && PyData.canLayAll0 (r.map PyData.int)) = true
    rw [lay_ints r]
    rfl
theorem depth_ints : ∀ ns : List Int, PyData.depthAll (ns.map PyData.int) = 0
  | [] => rfl
  | _ :: r => by
    show max (PyData.depth (.int _)) (PyData.depthAll (r.map PyData.int)) = 0
    rw [depth_ints r]
    rfl
theorem shaped_ints (ns : List Int) : SeqAt.shaped (dI ns) = true := by
  show (PyData.canLayAll0 (ns.map PyData.int) && decide (PyData.depthAll (ns.map PyData.int) + 1 ≤ 64)) = true
  rw [lay_ints, depth_ints]
  rfl
theorem noDict_ints : ∀ ns : List Int, PyData.hasDictAll (ns.map PyData.int) = false
  | [] => rfl
  | _ :: r => by
    show (PyData.hasDict (.int _) || PyData.hasDictAll (r.map PyData.int)) = false
    rw [noDict_ints r]
    rfl
theorem show_ints : ∀ ns : List Int, (∀ n ∈ ns, n.natAbs.log2 < 1920) → PyData.showableAll (ns.map PyData.int) = true
  | [], _ => rfl
  | n :: r, h => by
    show (decide (n.natAbs.log2 < 1920) && PyData.showableAll (r.map PyData.int)) = true
    rw [show_ints r (fun m hm => h m (List.mem_cons_of_mem _ hm)), decide_eq_true (h n List.mem_cons_self)]
    rfl
theorem dpAll_ints {K : PySem.W.Frag} {H : Hp} : ∀ ns : List Int, DpAll K H (ns.map V.int) (ns.map PyData.int)
  | [] => .nil
  | n :: r => .cons (.int n) (dpAll_ints r)
theorem dp_ints {K : PySem.W.Frag} {H : Hp} {a : Addr} {ns : List Int} (h : SqL K H a (ns.map V.int)) : Dp K H (.ref a) (dI ns) := .lst h (dpAll_ints ns)
theorem eqvAll_ints : ∀ xs ys : List Int, PyData.eqvAll (xs.map PyData.int) (ys.map PyData.int) = decide (xs = ys)
  | [], [] => rfl
  | [], _ :: _ => rfl
  | _ :: _, [] => rfl
  | x :: r, y :: s => by
    show (PyData.eqv (.int x) (.int y) && PyData.eqvAll (r.map PyData.int) (s.map PyData.int)) = decide (x :: r = y :: s)
    rw [eqvAll_ints r s]
    show ((x == y) && decide (r = s)) = decide (x :: r = y :: s)
    by_cases e : x = y <;> by_cases e' : r = s <;> simp [e, e']
theorem eqv_ints (xs ys : List Int) : PyData.eqv (dI xs) (dI ys) = decide (xs = ys) := by
  show PyData.eqvAll (xs.map PyData.int) (ys.map PyData.int) = _
  exact eqvAll_ints xs ys
/-- [] == [], by the reading of == -/
theorem textFrom_le : ∀ (ts : List Str) (k : Nat) (acc : Str) (m : Nat), (∀ t ∈ ts, t.length ≤ m) → (textFrom k acc ts).length ≤ acc.length + ts.length * (m + 2)
  | [], k, acc, m, _ => by
    show acc.length ≤ _
    simp
  | t :: r, k, acc, m, h => by
    have ih := fun k' acc' => textFrom_le r k' acc' m (fun x hx => h x (List.mem_cons_of_mem _ hx))
    have ht := h t List.mem_cons_self
    have z := ih (k + 1) (acc ++ (if k > 0 then ", " else "" : String) ++ t)
    have e : (acc ++ (if k > 0 then ", " else "" : String) ++ t).length ≤ acc.length + 2 + t.length := by
      rw [Str.length_append, Str.length_append]
      by_cases hk : k > 0
      · rw [if_pos hk]
        exact Nat.le_refl _
      · rw [if_neg hk]
        show acc.length + 0 + t.length ≤ _
        omega
    show (textFrom (k + 1) (acc ++ (if k > 0 then ", " else "" : String) ++ t) r).length ≤ acc.length + (r.length + 1) * (m + 2)
    rw [Nat.succ_mul]
    omega
theorem num_len : ∀ n : Int, -100 ≤ n → n ≤ 100 → (Str.ofString (toString n)).length ≤ 4 := by
  intro n h0 h1
  have key : ∀ i : Fin 201, (Str.ofString (toString ((i.val : Int) - 100))).length ≤ 4 := by decide +kernel
  have e := key ⟨(n + 100).toNat, by omega⟩
  have e2 : (((n + 100).toNat : Nat) : Int) - 100 = n := by omega
  rw [e2] at e
  exact e
theorem shownAll_mem : ∀ (ns : List Int) (t : Str), t ∈ PyData.shownAll (ns.map PyData.int) → ∃ n ∈ ns, t = Str.ofString (toString n)
  | [], t, h => by
    have h' : t ∈ ([] : List Str) := h
    cases h'
  | n :: r, t, h => by
    have h' : t ∈ Str.ofString (toString n) :: PyData.shownAll (r.map PyData.int) := h
    rcases List.mem_cons.mp h' with e | e
    · exact ⟨n, List.mem_cons_self, e⟩
    · obtain ⟨m, hm, e⟩ := shownAll_mem r t e
      exact ⟨m, List.mem_cons_of_mem _ hm, e⟩
theorem shownAll_len : ∀ ns : List Int, (PyData.shownAll (ns.map PyData.int)).length = ns.length
  | [] => rfl
  | n :: r => congrArg (· + 1) (shownAll_len r)
theorem shown_ints {ns : List Int} (hb : ∀ n ∈ ns, -100 ≤ n ∧ n ≤ 100) (hl : ns.length ≤ 1000) : (dI ns).shown.length ≤ sizeLine := by
  show (textFrom 0 "[" (PyData.shownAll (ns.map PyData.int)) ++ ("]" : Str)).length ≤ sizeLine
  rw [Str.length_append]
  have z := textFrom_le (PyData.shownAll (ns.map PyData.int)) 0 "[" 4 (fun t ht => by
    obtain ⟨n, hn, e⟩ := shownAll_mem ns t ht
    rw [e]
    exact num_len n (hb n hn).1 (hb n hn).2)
  rw [shownAll_len] at z
  have e1 : ("[" : Str).length = 1 := rfl
  have e2 : ("]" : Str).length = 1 := rfl
  rw [e1] at z
  rw [e2]
  exact zs (by omega)
theorem log2_small {n : Int} (h0 : -100 ≤ n) (h1 : n ≤ 100) : n.natAbs.log2 < 1920 := by
  have h : n.natAbs < 2 ^ 7 := by omega
  exact Nat.lt_trans (PySem.Flt.log2_lt_of (by decide : 0 < 7) h) (by decide)
theorem rrepr_ints {K : PySem.W.Frag} {H : Hp} {a : Addr} {ns : List Int} {Q : VK} (hS : SqL K H a (ns.map V.int)) (hb : ∀ n ∈ ns, -100 ≤ n ∧ n ≤ 100) (hl : ns.length ≤ 1000) (q : Q (.str (dI ns).shown) H) : rRepr K [.ref a] H Q :=
  ⟨a, dI ns, rfl, dp_ints hS, show_ints ns (fun n hn => log2_small (hb n hn).1 (hb n hn).2), noDict_ints ns, by
    show PyData.depthAll (ns.map PyData.int) + 1 ≤ 60
    rw [depth_ints]
    decide, shown_ints hb hl, q⟩

/-! ### places -/
theorem erase_map {α β : Type} (f : α → β) : ∀ (l : List α) (j : Nat), (l.map f).eraseIdx j = (l.eraseIdx j).map f
  | [], _ => by simp
  | x :: r, 0 => rfl
  | x :: r, j + 1 => congrArg (f x :: ·) (erase_map f r j)
theorem get_at {al : List Int} {j : Nat} (h : j < al.length) : (al.map V.int)[j]? = some (.int al[j]) := by
  rw [List.getElem?_map, List.getElem?_eq_getElem h]
  rfl
theorem ix_at {j n : Nat} (h : j < n) : seqIndex? (j : Int) n = some j := (ixN_seq (Evl.ixN_nat h)).1
theorem nat_of {r : Int} (h : 0 ≤ r) : ∃ j : Nat, r = (j : Int) := ⟨r.toNat, by omega⟩
theorem nm {k : Nat} (h : k ≤ 100000) : -(2 ^ 63) ≤ (k : Int) ∧ (k : Int) < 2 ^ 63 := by omega
theorem free_of {a p : Addr} {H H' : Hp} (b : Bt a H H') (n : p ≠ a) (h : H' p = none) : H p = none := by
  cases e : H p with
  | none => rfl
  | some o =>
    rw [b _ _ n e] at h
    cases h
theorem erase_perm : ∀ (l : List Int) (j : Nat) (h : j < l.length), (l[j] :: l.eraseIdx j).Perm l
  | x :: r, 0, _ => .refl _
  | x :: r, j + 1, h => by
    have h' : j < r.length := Nat.lt_of_succ_lt_succ h
    exact (List.Perm.swap x (r[j]'h') (r.eraseIdx j)).trans ((erase_perm r j h').cons x)
end Lp
set_option Elab.async false
set_option linter.all false
set_option maxRecDepth 100000
namespace Lp
open PySem PySem.Spec PyProof.Rows L2
theorem lc_enum {K : PySem.W.Frag} {a : Addr} {xs : List V} {g : TG} {tt : TT} {te : TE} {vs : List Nat} {σ : L2.St} {H1 : Hp} {D : Addr} {Qd : Hp → Prop} (Pv : Nat → Hp → Prop) (h0 : Pv 0 (upd H1 D (.lst []))) (hl : ∀ i H, i ≤ xs.length → Pv i H → SqL K H a xs)
    (hs : ∀ (i : Nat) (x : V) (T : Addr) (H : Hp), xs[i]? = some x → H T = none → Pv i H → g (.ref T) (wipe σ vs) (upd H T (.tup [.int (i : Nat), x])) fun σ2 H2 => wipe σ2 vs = wipe σ vs ∧ tt σ2 H2 fun b H3 =>
      if b = true then te σ2 H3 fun y H4 => ∃ acc, H4 D = some (.lst acc) ∧ acc.length < sizeLine ∧ Pv (i + 1) (upd H4 D (.lst (acc ++ [y]))) else Pv (i + 1) H3) (hd : ∀ H, Pv xs.length H → Qd H) :
    ∃ W : Nat → Nat → Hp → Prop, (∃ m, W 0 m (upd H1 D (.lst []))) ∧ ∀ i m H, W i m H →
      ((Ite K a).stop i H ∧ Qd H) ∨ ((Ite K a).go i H ∧ ∃ Nx : Hp → Prop, (∀ H', Nx H' → ∃ m', m' < m ∧ W (i + 1) m' H') ∧ ∀ x H', (Ite K a).yld i H x H' → g x (wipe σ vs) H' fun σ2 H2 => wipe σ2 vs = wipe σ vs ∧ tt σ2 H2 fun b H3 =>
        if b = true then te σ2 H3 fun y H4 => ∃ acc, H4 D = some (.lst acc) ∧ acc.length < sizeLine ∧ Nx (upd H4 D (.lst (acc ++ [y]))) else Nx H3) := by
  refine ⟨fun i m H => m = xs.length - i ∧ i ≤ xs.length ∧ Pv i H, ⟨xs.length, by simp, Nat.zero_le _, h0⟩, ?_⟩
  rintro i m H ⟨rfl, hi, pv⟩
  have sq := hl i H hi pv
  rcases Nat.lt_or_ge i xs.length with hlt | hge
  · refine .inr ⟨⟨xs, xs[i], sq, List.getElem?_eq_getElem hlt⟩, Pv (i + 1), fun H' p' => ⟨xs.length - (i + 1), by omega, rfl, hlt, p'⟩, fun x H' y => ?_⟩
    obtain ⟨T, z, rfl, nT, rfl, ez⟩ := y
    exact hs i z T H (ez xs sq) nT pv
  · have e : i = xs.length := by omega
    subst e
    exact .inl ⟨⟨xs, sq, Nat.le_refl _⟩, hd H pv⟩
theorem cut_take (xs : List V) (k : Nat) (h : k ≤ xs.length) : cutV xs none (some (k : Int)) = xs.take k := by
  unfold cutV
  rw [HT.sIx_none, HT.sIx_nat, List.drop_zero, Nat.sub_zero, Nat.min_eq_left h]
theorem decV (i j : Int) : decide (V.int i = V.int j) = decide (i = j) := decide_eq_decide.mpr ⟨fun z => V.int.inj z, fun z => congrArg V.int z⟩
theorem k_sl {X : Cx} {K : PySem.W.Frag} (hK : X.K = K) : SlR X (rSlL K) := by
  subst hK
  exact sl_list
theorem k_tup {X : Cx} {K : PySem.W.Frag} {es : List Expr} {k : Nat} {pos : Pos} {t : TGs} {n : Nat} (hK : X.K = K) (hc : X.calm = true) (h : PGs X es t)
    (hn : (assignEach es X.env).length = n := by rfl) (hst : (assignEach es X.env).findIdx? (·.1) = none := by rfl) : PG X (.Tuple es k pos) (gTup K n t) := by
  subst hK
  exact pg_tup hc h hn hst
theorem seqN {K : PySem.W.Frag} {xs : List V} {H H1 H' : Hp} {a b : Addr} (h : SqL K H b xs) (n : H a = none) (s : Same H H1) (x : Bt a H1 H') : SqL K H' b xs := by
  rcases h with (h | ⟨o, h⟩) | h
  · exact .inl (.inl (x _ _ (ne_of_none h n) (s _ _ h)))
  · exact .inl (.inr ⟨o, x _ _ (ne_of_none h n) (s _ _ h)⟩)
  · exact .inr h
theorem rI1 {ns : List Int} (hb : ∀ n ∈ ns, -100 ≤ n ∧ n ≤ 100) : (dI ns).showable = true := show_ints ns (fun n hn => log2_small (hb n hn).1 (hb n hn).2)
theorem rI2 (ns : List Int) : (dI ns).depth ≤ 60 := by
  show PyData.depthAll (ns.map PyData.int) + 1 ≤ 60
  rw [depth_ints]
  decide
end Lp
set_option Elab.async false
set_option linter.all false
set_option maxRecDepth 100000
namespace Lp
open PySem PySem.Spec PyProof.Rows L2
theorem lc_zipL {K : PySem.W.Frag} {a b : Addr} {xs ys : List V} {g : TG} {tt : TT} {te : TE} {vs : List Nat} {σ : L2.St} {H1 : Hp} {D : Addr} {Qd : Hp → Prop} (le : xs.length = ys.length) (Pv : Nat → Hp → Prop) (h0 : Pv 0 (upd H1 D (.lst []))) (hl : ∀ i H, i ≤ xs.length → Pv i H → SqL K H a xs ∧ SqL K H b ys)
    (hs : ∀ (i : Nat) (x y : V) (T : Addr) (H : Hp), xs[i]? = some x → ys[i]? = some y → H T = none → Pv i H → g (.ref T) (wipe σ vs) (upd H T (.tup [x, y])) fun σ2 H2 => wipe σ2 vs = wipe σ vs ∧ tt σ2 H2 fun b H3 =>
      if b = true then te σ2 H3 fun y H4 => ∃ acc, H4 D = some (.lst acc) ∧ acc.length < sizeLine ∧ Pv (i + 1) (upd H4 D (.lst (acc ++ [y]))) else Pv (i + 1) H3) (hd : ∀ H, Pv xs.length H → Qd H) :
    ∃ W : Nat → Nat → Hp → Prop, (∃ m, W 0 m (upd H1 D (.lst []))) ∧ ∀ i m H, W i m H →
      ((Itz K a b).stop i H ∧ Qd H) ∨ ((Itz K a b).go i H ∧ ∃ Nx : Hp → Prop, (∀ H', Nx H' → ∃ m', m' < m ∧ W (i + 1) m' H') ∧ ∀ x H', (Itz K a b).yld i H x H' → g x (wipe σ vs) H' fun σ2 H2 => wipe σ2 vs = wipe σ vs ∧ tt σ2 H2 fun b H3 =>
        if b = true then te σ2 H3 fun y H4 => ∃ acc, H4 D = some (.lst acc) ∧ acc.length < sizeLine ∧ Nx (upd H4 D (.lst (acc ++ [y]))) else Nx H3) := by
  refine ⟨fun i m H => m = xs.length - i ∧ i ≤ xs.length ∧ Pv i H, ⟨xs.length, by simp, Nat.zero_le _, h0⟩, ?_⟩
  rintro i m H ⟨rfl, hi, pv⟩
  obtain ⟨sa, sb⟩ := hl i H hi pv
  rcases Nat.lt_or_ge i xs.length with hlt | hge
  · refine .inr ⟨⟨xs, ys, xs[i], ys[i]'(by omega), sa, sb, List.getElem?_eq_getElem hlt, List.getElem?_eq_getElem (by omega)⟩, Pv (i + 1), fun H' p' => ⟨xs.length - (i + 1), by omega, rfl, hlt, p'⟩, fun x H' y => ?_⟩
    obtain ⟨T, z1, z2, rfl, nT, rfl, e1, e2⟩ := y
    exact hs i z1 z2 T H (e1 xs sa) (e2 ys sb) nT pv
  · have e : i = xs.length := by omega
    subst e
    exact .inl ⟨⟨xs, ys, sa, sb, .inl (Nat.le_refl _)⟩, hd H pv⟩
theorem lc_zipT {K : PySem.W.Frag} {a b : Addr} {xs ys : List V} {g : TG} {tt : TT} {te : TE} {vs : List Nat} {σ : L2.St} {H1 : Hp} {D : Addr} {Qd : Hp → Prop} (le : xs.length = ys.length) (Pv : Nat → Hp → Prop) (h0 : Pv 0 (upd H1 D (.lst []))) (hl : ∀ i H, i ≤ xs.length → Pv i H → SqT K H a xs ∧ SqT K H b ys)
    (hs : ∀ (i : Nat) (x y : V) (T : Addr) (H : Hp), xs[i]? = some x → ys[i]? = some y → H T = none → Pv i H → g (.ref T) (wipe σ vs) (upd H T (.tup [x, y])) fun σ2 H2 => wipe σ2 vs = wipe σ vs ∧ tt σ2 H2 fun b H3 =>
      if b = true then te σ2 H3 fun y H4 => ∃ acc, H4 D = some (.lst acc) ∧ acc.length < sizeLine ∧ Pv (i + 1) (upd H4 D (.lst (acc ++ [y]))) else Pv (i + 1) H3) (hd : ∀ H, Pv xs.length H → Qd H) :
    ∃ W : Nat → Nat → Hp → Prop, (∃ m, W 0 m (upd H1 D (.lst []))) ∧ ∀ i m H, W i m H →
      ((RZ.ItzT K a b).stop i H ∧ Qd H) ∨ ((RZ.ItzT K a b).go i H ∧ ∃ Nx : Hp → Prop, (∀ H', Nx H' → ∃ m', m' < m ∧ W (i + 1) m' H') ∧ ∀ x H', (RZ.ItzT K a b).yld i H x H' → g x (wipe σ vs) H' fun σ2 H2 => wipe σ2 vs = wipe σ vs ∧ tt σ2 H2 fun b H3 =>
        if b = true then te σ2 H3 fun y H4 => ∃ acc, H4 D = some (.lst acc) ∧ acc.length < sizeLine ∧ Nx (upd H4 D (.lst (acc ++ [y]))) else Nx H3) := by
  refine ⟨fun i m H => m = xs.length - i ∧ i ≤ xs.length ∧ Pv i H, ⟨xs.length, by simp, Nat.zero_le _, h0⟩, ?_⟩
  rintro i m H ⟨rfl, hi, pv⟩
  obtain ⟨sa, sb⟩ := hl i H hi pv
  rcases Nat.lt_or_ge i xs.length with hlt | hge
  · refine .inr ⟨⟨xs, ys, xs[i], ys[i]'(by omega), sa, sb, List.getElem?_eq_getElem hlt, List.getElem?_eq_getElem (by omega)⟩, Pv (i + 1), fun H' p' => ⟨xs.length - (i + 1), by omega, rfl, hlt, p'⟩, fun x H' y => ?_⟩
    obtain ⟨T, z1, z2, rfl, nT, rfl, e1, e2⟩ := y
    exact hs i z1 z2 T H (e1 xs sa) (e2 ys sb) nT pv
  · have e : i = xs.length := by omega
    subst e
    exact .inl ⟨⟨xs, ys, sa, sb, .inl (Nat.le_refl _)⟩, hd H pv⟩
theorem tyx_l {K : PySem.W.Frag} {H : Hp} {a : Addr} {xs : List V} (h : SqL K H a xs) : TyX K H (.ref a) (.type "list") := by
  rcases h with (h | ⟨o, h⟩) | ⟨o, its, n, h, c, _⟩
  · exact .base (.lst h)
  · exact .base (.frz h)
  · exact .kList h c
theorem tyx_t {K : PySem.W.Frag} {H : Hp} {a : Addr} {xs : List V} (h : SqT K H a xs) : TyX K H (.ref a) (.type "tuple") := by
  rcases h with (h | ⟨o, h⟩) | ⟨o, its, n, h, c, _⟩
  · exact .base (.tup h)
  · exact .fTuple h
  · exact .kTuple h c
theorem seqT {K : PySem.W.Frag} {H H' : Hp} {a : Addr} {xs : List V} (e : Same H H') (h : SqT K H a xs) : SqT K H' a xs := by
  rcases h with (h | ⟨o, h⟩) | h
  · exact .inl (.inl (e _ _ h))
  · exact .inl (.inr ⟨o, e _ _ h⟩)
  · exact .inr h
mutual
theorem dp_same {K : PySem.W.Frag} {H H' : Hp} (s : Same H H') : ∀ {v : V} {d : PyData}, Dp K H v d → Dp K H' v d
  | _, _, .non => .non
  | _, _, .bl b => .bl b
  | _, _, .int i => .int i
  | _, _, .str x => .str x
  | _, _, .lst h1 h2 => .lst (s.seq h1) (dpAll_same s h2)
  | _, _, .tup h1 h2 => .tup (seqT s h1) (dpAll_same s h2)
theorem dpAll_same {K : PySem.W.Frag} {H H' : Hp} (s : Same H H') : ∀ {vs : List V} {ds : List PyData}, DpAll K H vs ds → DpAll K H' vs ds
  | _, _, .nil => .nil
  | _, _, .cons h1 h2 => .cons (dp_same s h1) (dpAll_same s h2)
end
theorem dpAll_len {K : PySem.W.Frag} {H : Hp} : ∀ {vs : List V} {ds : List PyData}, DpAll K H vs ds → vs.length = ds.length
  | _, _, .nil => rfl
  | _, _, .cons _ h => congrArg (· + 1) (dpAll_len h)
theorem dpAll_get {K : PySem.W.Frag} {H : Hp} : ∀ {vs : List V} {ds : List PyData} {i : Nat} {v : V}, DpAll K H vs ds → vs[i]? = some v → ∃ d, ds[i]? = some d ∧ Dp K H v d
  | _, _, 0, _, .cons h _, e => by cases e; exact ⟨_, rfl, h⟩
  | _, _, i + 1, _, .cons _ h, e => dpAll_get (i := i) h e
theorem depth_get : ∀ {ds : List PyData} {i : Nat} {d : PyData}, ds[i]? = some d → d.depth ≤ PyData.depthAll ds
  | x :: r, 0, d, e => by cases e; exact Nat.le_max_left _ _
  | x :: r, i + 1, d, e => Nat.le_trans (depth_get (ds := r) (i := i) e) (Nat.le_max_right _ _)
theorem kitA {K : PySem.W.Frag} {t c1 c2 : Value} {b : Bool} (h1 : PySem.W.kitOne K t c1 = some false) (h2 : PySem.W.kitOne K t c2 = some b) : PySem.W.kitAny K t [c1, c2] = some b := by
  unfold PySem.W.kitAny
  rw [h1]
  show PySem.W.kitAny K t [c2] = _
  unfold PySem.W.kitAny
  rw [h2]
  cases b <;> rfl
theorem kitT {K : PySem.W.Frag} {t c1 : Value} {cs : List Value} (h1 : PySem.W.kitOne K t c1 = some true) : PySem.W.kitAny K t (c1 :: cs) = some true := by
  unfold PySem.W.kitAny
  rw [h1]
/-! ### list(range(a, b, c)) -/
def tList3 (ta : TA) : TE := fun σ H Q => ta σ H fun vs H1 => ∃ (i j c : Int) (n : Nat), vs = [.int i, .int j, .int c] ∧ RgC i j c n ∧ n ≤ 100000 ∧ ∀ q, H1 q = none → Q (.ref q) (upd H1 q (.lst ((List.range n).map fun k : Nat => V.int (i + (k : Int) * c))))
theorem vals_rg3 {a c : Int} {n : Nat} {acc : Array Value} (h : ItemsOf (fun i v => ∃ t, v = .int (a + i * c) t) acc n) : Vals ((List.range n).map fun k : Nat => V.int (a + (k : Int) * c)) acc.toList := by
  have e : acc.toList.length = n := by rw [Array.length_toList]; exact h.1
  rw [← e]
  refine vals_of_get acc.toList _ fun j u hj => ?_
  obtain ⟨t, rfl⟩ := h.2 j u (by rw [← hj, Array.getElem?_toList])
  exact ⟨t, rfl⟩
theorem pe_list3 {X : Cx} {a b c : Expr} {ta : TA} {p p2 pos pos2 : Pos} (hc : X.calm = true) (hg : Gl X "list") (hm : X.mg "list" = none) (hg2 : Gl X "range") (hm2 : X.mg "range" = none) (ha : PA X [a, b, c] ta)
    (hs : starEach [a, b, c] X.env = (false, eval a X.env) :: starEach [b, c] X.env := by rfl) (hpl : (backTo pos2 (starEach [b, c] X.env)).any (·.1) = false := by rfl)
    (na : starEach [.Call (.Name "range" p2) [a, b, c] [] pos2] X.env = (false, eval (.Call (.Name "range" p2) [a, b, c] [] pos2) X.env) :: starEach [] X.env := by rfl) :
    PE X (.Call (.Name "list" p) [.Call (.Name "range" p2) [a, b, c] [] pos2] [] pos) (tList3 ta) := by
  refine ⟨fun pins s σ H Q I h => ?_⟩
  refine Call_ (ld_blt I hg hm boot_list (PyProof.Rows.callWith_type1 (args_cons (?_) na) na))
  refine Call_ (ld_blt I hg2 hm2 boot_range (PyProof.Rows.callWith_type1 (thn (ha.run pos2 pins s σ H _ I h) fun us s1 ⟨vs, H1, I1, r1, q1⟩ => ?_) hs hpl))
  obtain ⟨i, j, k, n, e, ⟨c0, c1, c2, c3⟩, hn, q⟩ := q1
  subst e
  cases r1 with
  | cons r rr =>
    cases rr with
    | cons r' rr =>
      cases rr with
      | cons r'' rr =>
        cases rr
        obtain ⟨t, rfl⟩ := r
        obtain ⟨t', rfl⟩ := r'
        obtain ⟨t'', rfl⟩ := r''
        refine call_range_3 c0 ?_ (.inl (PyProof.noPylong_small c1))
        refine args_nil ?_
        have I2 : Inv X pins σ H1 { s1 with heap := s1.heap.push { cls := .type "range", data := .fields #[.int i t, .int j t', .int k t''] } } := I1.kept (t' := s1.toks) fun b o e => Heap.get?_push_of_some _ e
        refine call_list_range (n := n) (I2.ok.hd hc) (IsRange.new ..) c2 c3 (by omega) fun h' tk acc c' hk e' hi => ?_
        refine ⟨.ref _, upd H1 _ (.lst ((List.range n).map fun m : Nat => V.int (i + (m : Int) * k))), I2.laid hk (Nat.le_refl _) (show ObjOk X.prog X.w _ _ _ (.lst _) from ⟨?_, acc.toList, c', vals_rg3 hi, ?_⟩), rfl, q _ (I2.hok.fresh (Nat.le_refl _))⟩
        · rw [List.length_map, List.length_range]
          exact zs hn
        · rw [Array.toArray_toList]; exact e'
end Lp
set_option Elab.async false
set_option linter.all false
set_option maxRecDepth 100000
namespace Lp
open PySem PySem.Spec PyProof.Rows L2
/-! ### xs.count(text) -/
theorem strCount {k : Str} : ∀ {us : List Value} {ys : List Str}, StrsAre us ys → us.countP (isStrOf k) = ys.countP (fun y => y == k)
  | _, _, .nil => rfl
  | _, _, .cons n t h => by
    have ih := strCount (k := k) h
    rw [List.countP_cons, List.countP_cons, ih] <;> rfl
def rCntS (K : PySem.W.Frag) : V → List V → Hp → VK → Prop := fun x xs H Q => ∃ (p : Addr) (ys : List Str) (k : Str), x = .ref p ∧ xs = [.str k] ∧ SqL K H p (ys.map V.str) ∧ Q (.int (ys.countP (fun y => y == k) : Nat)) H
theorem mt_lcountS {X : Cx} : MtR X "list.count" (rCntS X.K) := by
  intro pins s σ H x xs v us Q I rx rxs h
  obtain ⟨p, ys, k, rfl, rfl, hs, q⟩ := h
  cases rx
  obtain ⟨u, rfl, ru⟩ := rxs.one
  obtain ⟨t, rfl⟩ := ru
  obtain ⟨its, rv, ⟨⟨cls, dd, data, sl⟩, n, ho, hc, hdn, hd⟩, hlen⟩ := I.list hs
  simp only at hc hd
  subst hc hd
  have hi := Vals.strs rv
  refine call_meets PySem.F.slot_list_count ⟨_, ho, rfl⟩ PySem.F.entry_list_count (PySem.F.args_list_count_2 _ _)
    (SeqAt.list_countAt p its.toArray n dd sl (.str k t) (isStrOf k)) ⟨ho, fun y hy => (eq_isStrOf k t hi y (by simpa using hy)).at _ _, ?_⟩
  have ec : its.toArray.toList.countP (isStrOf k) = ys.countP (fun y => y == k) := strCount hi
  refine ⟨.int (ys.countP (fun y => y == k) : Nat), H, I.tok _, ⟨s.toks, ?_⟩, q⟩
  show Value.int ((its.toArray.toList.countP (isStrOf k) : Nat) : Int) s.toks = Value.int ((ys.countP (fun y => y == k) : Nat) : Int) s.toks
  rw [ec]
end Lp
set_option Elab.async false
set_option linter.all false
set_option maxRecDepth 100000
namespace Lp
open PySem PySem.Spec PyProof.Rows L2
/-! ### dict comprehensions over enumerate -/
theorem dc_enum {K : PySem.W.Frag} {a : Addr} {xs : List V} {g : TG} {tt : TT} {tk tv : TE} {vs : List Nat} {σ : L2.St} {H1 : Hp} {D : Addr} {Qd : Hp → Prop} (Pv : Nat → Hp → Prop) (h0 : Pv 0 (upd H1 D (.dK []))) (hl : ∀ i H, i ≤ xs.length → Pv i H → SqL K H a xs)
    (hs : ∀ (i : Nat) (x : V) (T : Addr) (H : Hp), xs[i]? = some x → H T = none → Pv i H → g (.ref T) (wipe σ vs) (upd H T (.tup [.int (i : Nat), x])) fun σ2 H2 => wipe σ2 vs = wipe σ vs ∧ tt σ2 H2 fun b H3 =>
      if b = true then tk σ2 H3 fun y H4 => tv σ2 H4 fun z H5 => ∃ kvs k, y = kV k ∧ H5 D = some (.dK kvs) ∧ kvs.length < sizeLine ∧ Pv (i + 1) (upd H5 D (.dK (putK kvs k z))) else Pv (i + 1) H3) (hd : ∀ H, Pv xs.length H → Qd H) :
    ∃ W : Nat → Nat → Hp → Prop, (∃ m, W 0 m (upd H1 D (.dK []))) ∧ ∀ i m H, W i m H →
      ((Ite K a).stop i H ∧ Qd H) ∨ ((Ite K a).go i H ∧ ∃ Nx : Hp → Prop, (∀ H', Nx H' → ∃ m', m' < m ∧ W (i + 1) m' H') ∧ ∀ x H', (Ite K a).yld i H x H' → g x (wipe σ vs) H' fun σ2 H2 => wipe σ2 vs = wipe σ vs ∧ tt σ2 H2 fun b H3 =>
        if b = true then tk σ2 H3 fun y H4 => tv σ2 H4 fun z H5 => ∃ kvs k, y = kV k ∧ H5 D = some (.dK kvs) ∧ kvs.length < sizeLine ∧ Nx (upd H5 D (.dK (putK kvs k z))) else Nx H3) := by
  refine ⟨fun i m H => m = xs.length - i ∧ i ≤ xs.length ∧ Pv i H, ⟨xs.length, by simp, Nat.zero_le _, h0⟩, ?_⟩
  rintro i m H ⟨rfl, hi, pv⟩
  have sq := hl i H hi pv
  rcases Nat.lt_or_ge i xs.length with hlt | hge
  · refine .inr ⟨⟨xs, xs[i], sq, List.getElem?_eq_getElem hlt⟩, Pv (i + 1), fun H' p' => ⟨xs.length - (i + 1), by omega, rfl, hlt, p'⟩, fun x H' y => ?_⟩
    obtain ⟨T, z, rfl, nT, rfl, e1⟩ := y
    exact hs i z T H (e1 xs sq) nT pv
  · have e : i = xs.length := by omega
    subst e
    exact .inl ⟨⟨xs, sq, Nat.le_refl _⟩, hd H pv⟩
end Lp
set_option Elab.async false
set_option linter.all false
set_option maxRecDepth 100000
namespace Lp
open PySem PySem.Spec PyProof.Rows L2
/-! ### list + list, the script's own list too -/
def rCatS (K : PySem.W.Frag) : R2 := fun x y H Q => ∃ l b xs zs, x = .ref l ∧ y = .ref b ∧ SqL K H l xs ∧ SqL K H b zs ∧ xs.length + zs.length ≤ sizeLine ∧ ∀ p, H p = none → Q (.ref p) (upd H p (.lst (xs ++ zs)))
theorem op_catS {X : Cx} : OpR X (binaryOp .Add) (rCatS X.K) := by
  intro pins s σ H x y v u Q I rx ry h
  obtain ⟨l, b, xs, zs, rfl, rfl, hl, hb, hz, q⟩ := h
  cases rx
  cases ry
  obtain ⟨its, r, ⟨⟨cls, dd, data, sl⟩, n, ho, hc, hdn, hd⟩, h1⟩ := I.list hl
  obtain ⟨its2, r2, ⟨⟨cls2, dd2, data2, sl2⟩, n2, ho2, hc2, hdn2, hd2⟩, h2⟩ := I.list hb
  simp only at hc hd hc2 hd2
  subst hc hd hc2 hd2
  have e1 := r.length
  have e2 := r2.length
  refine concat_meets ⟨_, ho, rfl⟩ ⟨_, ho2, rfl⟩ noFill_list_add seq_list_add PySem.F.slot_list_add PySem.F.entry_list_add (PySem.F.args_list_add_2 _ _) (list_addW l b its.toArray its2.toArray n n2 dd dd2 sl sl2 (by rw [List.size_toArray, List.size_toArray]; omega)) ⟨ho, ho2, ?_⟩
  have ea : its.toArray ++ its2.toArray = (its ++ its2).toArray := by simp
  rw [ea]
  exact ⟨.ref _, _, I.lnew (t' := s.toks) (r.append r2) (by rw [List.length_append]; omega), rfl, q _ I.fresh⟩
end Lp
set_option Elab.async false
set_option linter.all false
set_option maxRecDepth 100000
namespace Lp
open PySem PySem.Spec PyProof.Rows L2

/-! ### calls by keywords, of defs that are called where no repr is under way -/
structure Gk (P : Program) (w : World) (K : PySem.W.Frag) (mg : Str → Option Value) (base : Heap) (k : Nat) (x : Str) (n : Nat) (ks : List Str) (gV : List V → List V → List V) (sp : Sp) : Prop where
  ex : ∃ (f : Addr) (fd : FuncData) (ps : List Str) (g : List Value → List Value → List Value), FnG P w K mg base CX0 k f fd ps sp ∧ mg x = some (.ref f) ∧ PySem.W.keepIn K (.ref f) = true ∧ KBn K fd ps n ks g gV
theorem kb_of {K : PySem.W.Frag} {x qual : Str} {st : Stmt} {f : Addr} {fd : FuncData} {ps : List Str} (F : Fun K x qual st f fd) (n : Nat) (ks : List Str) (g : {α : Type} → List α → List α → List α)
    (hrel : ∀ {vs : List V} {us : List Value} {zs : List V} {ws : List Value}, Vals vs us → Vals zs ws → Vals (g vs zs) (g us ws))
    (h : ∀ (kV doc pm : Value) (an : Option Addr) (cdv ct : Value) (us ws : List Value), us.length = n → ws.length = ks.length → bindArgs (PySem.W.fnOf x qual (defArgs st) (defBody st) (defScope st) .none kV doc pm an cdv ct) ⟨us, ks.zip ws⟩ = pure (ps.zip (g us ws))) :
    KBn K fd ps n ks g g := by
  obtain ⟨oc, od, kV, doc, pm, an, cdv, ct, osl, rfl, lk, hcd⟩ := F.ex
  exact ⟨fun s us ws _ l1 l2 => .of_eq (h kV doc pm an cdv ct us ws l1 l2), hrel⟩
theorem kb_gApp0 {vs : List V} {us : List Value} {zs : List V} {ws : List Value} (a : Vals vs us) (b : Vals zs ws) : Vals (vs ++ zs) (us ++ ws) := a.append b
def gApp {α : Type} (us ws : List α) : List α := us ++ ws
def gRev {α : Type} (us ws : List α) : List α := us ++ ws.reverse
theorem kb_gApp {vs : List V} {us : List Value} {zs : List V} {ws : List Value} (a : Vals vs us) (b : Vals zs ws) : Vals (gApp vs zs) (gApp us ws) := a.append b
theorem vals_rev2 : ∀ {zs : List V} {ws : List Value}, Vals zs ws → Vals zs.reverse ws.reverse
  | _, _, .nil => .nil
  | _, _, .cons h t => by
    rw [List.reverse_cons, List.reverse_cons]
    exact (vals_rev2 t).append (.cons h .nil)
theorem kb_gRev {vs : List V} {us : List Value} {zs : List V} {ws : List Value} (a : Vals vs us) (b : Vals zs ws) : Vals (gRev vs zs) (gRev us ws) := a.append (vals_rev2 b)
def tCallG (n m : Nat) (sp : Sp) (gV : List V → List V → List V) (t tk : TA) : TE := fun σ H Q => t σ H fun vs H1 => tk σ H1 fun zs H2 => vs.length = n ∧ zs.length = m ∧ sp (gV vs zs) H2 Q E0
section
variable {X : Cx} {CX : CXT} {k n : Nat} {f : Addr} {fd : FuncData} {ps ks : List Str} {sp : Sp} {E : XK} {x : Str} {p pos : Pos} {e : Expr} {es : List Expr} {kws : List Keyword} {t tk : TA} {g : List Value → List Value → List Value} {gV : List V → List V → List V}
theorem run_fnG {pins : List (Addr × Obj)} {σ : L2.St} {H : Hp} {s : Shared} {Q : VK} {us ws : List Value} {vs zs : List V} (F : FnG X.prog X.w X.K X.mg X.base CX k f fd ps sp) (hG : X.A.guards = some []) (hr : Room k X.A) (hb : KBn X.K fd ps n ks g gV) (hx : Passes CX X E)
    (I : Inv X pins σ H s) (r : Vals vs us) (rz : Vals zs ws) (l1 : vs.length = n) (l2 : zs.length = ks.length) (h : sp (gV vs zs) H Q E) : wpAny (model X.prog X.w) X.A (call (.ref f) us (ks.zip ws)) (EP X pins σ Q) X.xe s := by
  have r2 := hb.rel r rz
  refine wpAny_call (codeAny_mono (F.runG X.A X.stack s H ⟨us, ks.zip ws⟩ (g us ws) (gV vs zs) Q E hG hr I.env0 (hb.to s us ws I.kIn (r.length.symm.trans l1) (rz.length.symm.trans l2)) r2 h) fun r s' hq => ?_)
  cases r with
  | error e => exact hx pins σ H s e s' I hq
  | ok fl =>
    cases fl with
    | ret u => exact I.after hq
    | next => exact False.elim hq
    | brk => exact False.elim hq
    | cont => exact False.elim hq
/-- f(k = v, ..) -/
theorem pe_gK0 {j : Nat} (c : Gk X.prog X.w X.K X.mg X.base k x 0 ks gV sp) (hG : X.A.guards = some []) (hr : Room j X.A) (hk : k ≤ j) (hg : Gl X x) (hkw : PK X kws tk)
    (hall : (backToKw pos (keywordEach kws X.env)).all (·.1.isSome) = true := by rfl) (hks : (backToKw pos (keywordEach kws X.env)).filterMap (·.1) = ks := by rfl) (hdb : (x == ("__debug__" : Str)) = false := by decide)
    (hpl : ((backTo pos (starEach [] X.env)).any (·.1) || (backToKw pos (keywordEach kws X.env)).any (·.1.isNone)) = false := by rfl) :
    PE X (.Call (.Name x p) [] kws pos) (tCallG 0 ks.length sp gV tNil tk) := by
  obtain ⟨f, fd, ps, g, F, hm, kp, hb⟩ := c.ex
  refine ⟨fun pins s σ H Q I h => ?_⟩
  refine wpAny_Call_Name_kw (ld_glob I hg hm ?_ hdb)
  refine PySem.W.callWith_KW0 (h₀ := X.base) I.ok.mod.kin kp hall ?_ hpl
  refine thn (hkw.run pos pins s σ H _ I h) fun ws s2 ⟨zs, H2, I2, rz, l1, l2, q2⟩ => ⟨I2.kIn, ?_⟩
  rw [hks]
  exact run_fnG (us := []) (vs := []) F hG (hr.mono hk) hb pass0 I2 .nil rz rfl l2 q2
/-- f(e, .., k = v, ..) -/
theorem pe_gK {j : Nat} (c : Gk X.prog X.w X.K X.mg X.base k x n ks gV sp) (hG : X.A.guards = some []) (hr : Room j X.A) (hk : k ≤ j) (hg : Gl X x) (ha : PA X (e :: es) t) (hkw : PK X kws tk)
    (hall : (backToKw pos (keywordEach kws X.env)).all (·.1.isSome) = true := by rfl) (hks : (backToKw pos (keywordEach kws X.env)).filterMap (·.1) = ks := by rfl) (hdb : (x == ("__debug__" : Str)) = false := by decide)
    (he : starEach (e :: es) X.env = (false, eval e X.env) :: starEach es X.env := by rfl) (hpl : ((backTo pos (starEach (e :: es) X.env)).any (·.1) || (backToKw pos (keywordEach kws X.env)).any (·.1.isNone)) = false := by rfl) :
    PE X (.Call (.Name x p) (e :: es) kws pos) (tCallG n ks.length sp gV t tk) := by
  obtain ⟨f, fd, ps, g, F, hm, kp, hb⟩ := c.ex
  refine ⟨fun pins s σ H Q I h => ?_⟩
  refine wpAny_Call_Name_kw (ld_glob I hg hm ?_ hdb)
  refine PySem.W.callWith_KW (h₀ := X.base) I.ok.mod.kin kp hall (thn (ha.run pos pins s σ H _ I h) fun us s1 ⟨vs, H1, I1, r, q⟩ => ?_) hpl he
  refine thn (hkw.run pos pins s1 σ H1 _ I1 q) fun ws s2 ⟨zs, H2, I2, rz, l1, l2, q2⟩ => ⟨I2.kIn, ?_⟩
  rw [hks]
  exact run_fnG F hG (hr.mono hk) hb pass0 I2 r rz l1 l2 q2
end

/-! ### i *= j of great ints -/
def ipC (C : Int → Int → Prop) (f : Int → Int → Int) : TIp := fun x y H Q => ∃ i j, x = .int i ∧ y = .int j ∧ C i j ∧ Q (.int (f i j)) H
section
variable {X : Cx}
theorem ip_mulW : PIp X .Mult (ipC CMulW fun i j => i * j) := by
  intro pins s σ H x y v u Q I r1 r2 h
  obtain ⟨i, j, e1, e2, hc, q⟩ := h
  subst e1; subst e2
  obtain ⟨t, rfl⟩ := r1
  obtain ⟨t', rfl⟩ := r2
  exact imul_int ⟨.int _, H, I.tok _, ⟨_, rfl⟩, q⟩ hc.ok
/-! ### text * int -/
theorem foldl_repN (l : List Nat) : ∀ (n : Nat) (acc : List Nat), List.foldl (fun x1 x2 => x1 ++ x2) acc.toArray (List.replicate n l.toArray) = (acc ++ (List.replicate n l).flatten).toArray
  | 0, acc => by simp
  | n + 1, acc => by
    rw [List.replicate_succ, List.foldl_cons, List.append_toArray, foldl_repN l n (acc ++ l), List.replicate_succ, List.flatten_cons, List.append_assoc]
theorem op_repS : OpR X (binaryOp .Mult) (fun x y H Q => ∃ (z : Str) (n : Nat), x = .str z ∧ y = .int (n : Int) ∧ 2 ≤ n ∧ z.length ≠ 0 ∧ z.length * n ≤ 100000 ∧ Q (.str ⟨(List.replicate n z.cps.toList).flatten.toArray⟩) H) := by
  intro pins s σ H x y v u Q I r1 r2 h
  obtain ⟨z, n, e1, e2, h1, h3, h4, q⟩ := h
  subst e1; subst e2
  obtain ⟨t, rfl⟩ := r1
  obtain ⟨t', rfl⟩ := r2
  have hn : ¬ (n : Int) < 1 := by omega
  have hz1 : 1 ≤ z.length := Nat.pos_of_ne_zero h3
  have hn2 : n ≤ 100000 := Nat.le_trans (Nat.le_mul_of_pos_left n hz1) h4
  have hb : ((n : Int) == 1 || z.length == 0) = false := by
    have a : ((n : Int) == 1) = false := beq_eq_false_iff_ne.mpr (by omega)
    have b : (z.length == 0) = false := beq_eq_false_iff_ne.mpr h3
    rw [a, b]
    rfl
  have hsz : z.length * n ≤ sizeLine := zs h4
  have f0 : List.foldl (fun x1 x2 => x1 ++ x2) #[] (List.replicate n z.cps) = (List.replicate n z.cps.toList).flatten.toArray := by
    have := foldl_repN z.cps.toList n []
    rw [List.nil_append, Array.toArray_toList] at this
    exact this
  have hl : (⟨(List.replicate n z.cps.toList).flatten.toArray⟩ : Str).length = n * z.length := by
    show ((List.replicate n z.cps.toList).flatten.toArray).size = n * z.length
    rw [List.size_toArray, List.length_flatten, List.map_replicate, List.sum_replicate_nat, Array.length_toList]
    rfl
  refine PySem.P.mul_str ?_ (fun _ _ => ?_) (fun _ _ => ?_) ?_
  · have a : ¬ (n : Int) < -(2 ^ 63 : Int) := by omega
    have b : ¬ (n : Int) ≥ 2 ^ 63 := by omega
    rw [decide_eq_false a, decide_eq_false b]
    rfl
  · have h5 : (z.length : Int) * (n : Int) ≤ 100000 := by
      have := Int.ofNat_le.mpr h4
      rwa [Int.natCast_mul] at this
    have := (Int.le_ediv_iff_mul_le (show (0 : Int) < n by omega)).mpr (show (z.length : Int) * (n : Int) ≤ 2 ^ 63 - 1 by omega)
    omega
  · have e : (n : Int).toNat = n := rfl
    rw [e]
    unfold Builtin.Str.tooLong
    exact decide_eq_false (by omega)
  · rw [if_neg hn, hb, if_neg Bool.false_ne_true]
    have e : (n : Int).toNat = n := rfl
    rw [e, f0]
    exact ⟨by rw [hl]; rw [Nat.mul_comm]; exact hsz, .str _, H, I.tok _, ⟨_, rfl⟩, q⟩
end
/-! ### math.factorial, math.comb -/
def facN : Nat → Nat
  | 0 => 1
  | n + 1 => facN n * (n + 1)
theorem fac_eq : ∀ n : Nat, Builtin.Math.factorialNat n = facN n
  | 0 => rfl
  | n + 1 => by
    have e : Builtin.Math.factorialNat (n + 1) = Builtin.Math.factorialNat n * (n + 1) := by
      unfold Builtin.Math.factorialNat
      rw [List.range_succ, List.foldl_append]
      rfl
    rw [e, fac_eq n]
    rfl
theorem fac_lt : ∀ n : Nat, n ≤ 1000 → facN n < 2 ^ (10 * n + 1)
  | 0, _ => by decide
  | n + 1, h => by
    have z := fac_lt n (by omega)
    have e : 10 * (n + 1) + 1 = (10 * n + 1) + 10 := by omega
    show facN n * (n + 1) < _
    rw [e, Nat.pow_add]
    exact Nat.mul_lt_mul_of_lt_of_le z (by have : (2 : Nat) ^ 10 = 1024 := by decide
                                           omega) (by decide)
def rFac : List V → Hp → VK → Prop := fun vs H Q => ∃ n : Nat, vs = [.int (n : Int)] ∧ n ≤ 1000 ∧ Q (.int ((facN n : Nat) : Int)) H
theorem cr_fac {X : Cx} : CallR X (.builtin "math.factorial") rFac := by
  intro pins s σ H vs us Q I r h
  obtain ⟨n, rfl, hn, q⟩ := h
  obtain ⟨u, rfl, t, rfl⟩ := vals1 r
  have hl := fac_lt n hn
  have e : Builtin.Math.factorialNat (n : Int).toNat = facN n := fac_eq n
  refine PySem.W.mg_factorial (by show ¬ (n : Int) > 2 ^ 63 - 1; omega) (by omega) (by show ¬ (n : Int) > 20000; omega) ?_ ?_
  · rw [e]
    show (facN n).log2 < bitsLine
    have b := PySem.Flt.log2_lt_of (by omega : 0 < 10 * n + 1) hl
    have e2 : bitsLine = 134217728 := by decide
    rw [e2]
    omega
  · rw [e]
    exact ⟨.int _, H, I.tok _, ⟨_, rfl⟩, q⟩
/-! ### lists of great ints as text -/
theorem shown_big {ns : List Int} (hb : ∀ n ∈ ns, n.natAbs.log2 < 1920) (hl : ns.length ≤ 40) : (dI ns).shown.length ≤ sizeLine := by
  show (textFrom 0 "[" (PyData.shownAll (ns.map PyData.int)) ++ ("]" : Str)).length ≤ sizeLine
  rw [Str.length_append]
  have z := textFrom_le (PyData.shownAll (ns.map PyData.int)) 0 "[" 1921 (fun t ht => by
    obtain ⟨n, hn, e⟩ := shownAll_mem ns t ht
    rw [e]
    exact PyProof.Rows.int_text_len_1921 (hb n hn))
  rw [shownAll_len] at z
  have e1 : ("[" : Str).length = 1 := rfl
  have e2 : ("]" : Str).length = 1 := rfl
  rw [e1] at z
  rw [e2]
  exact zs (by omega)
theorem rrepr_big {K : PySem.W.Frag} {H : Hp} {a : Addr} {ns : List Int} {Q : VK} (hS : SqL K H a (ns.map V.int)) (hb : ∀ n ∈ ns, n.natAbs.log2 < 1920) (hl : ns.length ≤ 40) (q : Q (.str (dI ns).shown) H) : rRepr K [.ref a] H Q :=
  ⟨a, dI ns, rfl, dp_ints hS, show_ints ns hb, noDict_ints ns, rI2 ns, shown_big hb hl, q⟩
theorem log_nat {n k : Nat} (h : n < 2 ^ k) (h0 : 0 < k) (hk : k ≤ 1920) : ((n : Nat) : Int).natAbs.log2 < 1920 := Nat.lt_of_lt_of_le (PySem.Flt.log2_lt_of h0 (show ((n : Nat) : Int).natAbs < 2 ^ k from h)) hk
end Lp
set_option Elab.async false
set_option linter.all false
set_option maxRecDepth 100000
namespace Lp
open PySem PySem.Spec PyProof.Rows L2
theorem filtG {α : Type} {l : List α} {f : α → Bool} {i : Nat} {e : α} (he : l[i]? = some e) : (l.take (i + 1)).filter f = (l.take i).filter f ++ (if f e = true then [e] else []) := by
  rw [take_get he, List.filter_append]
  congr 1
  simp only [List.filter_cons, List.filter_nil]
theorem filtG_len {α : Type} {l : List α} {f : α → Bool} (i : Nat) : ((l.take i).filter f).length ≤ l.length := Nat.le_trans (List.length_filter_le _ _) (by rw [List.length_take]; exact Nat.min_le_right _ _)
theorem inVI (x : Int) : ∀ ns : List Int, inV (.int x) (ns.map V.int) = decide (x ∈ ns)
  | [] => rfl
  | n :: r => by
    show (eqV (.int n) (.int x) || inV (.int x) (r.map V.int)) = _
    rw [inVI x r]
    show ((n == x) || decide (x ∈ r)) = _
    by_cases e : n = x
    · subst e
      simp
    · have e' : ¬ x = n := fun z => e z.symm
      simp [e, e']
theorem flatI (ns : List Int) : (ns.map V.int).all flatV = true := by
  rw [List.all_eq_true]
  intro v hv
  obtain ⟨n, _, rfl⟩ := List.mem_map.mp hv
  rfl
theorem notInT {x : Int} {ns : List Int} (h : x ∉ ns) : V.bl (if true = true then !inV (.int x) (ns.map V.int) else inV (.int x) (ns.map V.int)) = V.bl true := by
  rw [if_pos rfl, inVI, decide_eq_false h]
  rfl
theorem notInF {x : Int} {ns : List Int} (h : x ∈ ns) : V.bl (if true = true then !inV (.int x) (ns.map V.int) else inV (.int x) (ns.map V.int)) = V.bl false := by
  rw [if_pos rfl, inVI, decide_eq_true h]
  rfl

/-! ### rows of ints in the heap -/
def RowsR (H : Hp) (rs : List V) (rows : List (List Int)) : Prop := rs.length = rows.length ∧ ∀ (i : Nat) (row : List Int), rows[i]? = some row → ∃ a, rs[i]? = some (.ref a) ∧ H a = some (.lst (row.map V.int))
theorem RowsR.same {H H' : Hp} {rs : List V} {rows : List (List Int)} (h : RowsR H rs rows) (s : Same H H') : RowsR H' rs rows := ⟨h.1, fun i row e => by
  obtain ⟨a, b, c⟩ := h.2 i row e
  exact ⟨a, b, s _ _ c⟩⟩
theorem RowsR.upd {H : Hp} {rs : List V} {rows : List (List Int)} {q : Addr} {o : HO} (h : RowsR H rs rows) (n : V.ref q ∉ rs) : RowsR (upd H q o) rs rows := ⟨h.1, fun i row e => by
  obtain ⟨a, b, c⟩ := h.2 i row e
  have ne : a ≠ q := fun z => n (by rw [← z]; exact List.mem_of_getElem? b)
  refine ⟨a, b, ?_⟩
  rw [upd_ne ne]
  exact c⟩
theorem RowsR.nil (H : Hp) : RowsR H [] [] := ⟨rfl, fun i row e => by simp at e⟩
theorem RowsR.app {H : Hp} {rs ss : List V} {rows sows : List (List Int)} (h : RowsR H rs rows) (g : RowsR H ss sows) : RowsR H (rs ++ ss) (rows ++ sows) := by
  refine ⟨by rw [List.length_append, List.length_append, h.1, g.1], fun i row e => ?_⟩
  by_cases hi : i < rows.length
  · rw [List.getElem?_append_left hi] at e
    rw [List.getElem?_append_left (by rw [h.1]; exact hi)]
    exact h.2 i row e
  · rw [List.getElem?_append_right (by omega)] at e
    rw [List.getElem?_append_right (by rw [h.1]; omega), h.1]
    exact g.2 _ row e
theorem RowsR.one {H : Hp} {a : Addr} {row : List Int} (h : H a = some (.lst (row.map V.int))) : RowsR H [.ref a] [row] := ⟨rfl, fun i r e => by
  cases i with
  | zero => cases e; exact ⟨a, rfl, h⟩
  | succ i => simp at e⟩
theorem RowsR.dp {K : PySem.W.Frag} {H : Hp} : ∀ {rs : List V} {rows : List (List Int)}, RowsR H rs rows → DpAll K H rs (rows.map dI)
  | [], [], _ => .nil
  | [], _ :: _, h => absurd h.1 (by simp)
  | _ :: _, [], h => absurd h.1 (by simp)
  | v :: rs, r :: rows, h => by
    obtain ⟨a, b, c⟩ := h.2 0 r rfl
    have e : v = .ref a := Option.some.inj b
    subst e
    exact .cons (dp_ints (.of c)) (RowsR.dp ⟨Nat.succ.inj h.1, fun i row e => h.2 (i + 1) row e⟩)
theorem flatMap_take_len {α β : Type} {f : α → List β} (l : List α) (j : Nat) : ((l.take j).flatMap f).length ≤ (l.flatMap f).length := by
  have e : l.flatMap f = (l.take j).flatMap f ++ (l.drop j).flatMap f := by rw [← List.flatMap_append, List.take_append_drop]
  rw [e, List.length_append]
  omega
theorem flatMap_take_succ {α β : Type} {f : α → List β} {l : List α} {j : Nat} {x : α} (h : l[j]? = some x) : (l.take (j + 1)).flatMap f = (l.take j).flatMap f ++ f x := by
  rw [take_get h, List.flatMap_append]
  simp
end Lp
set_option Elab.async false
set_option linter.all false
set_option maxRecDepth 100000
namespace Lp
open PySem PySem.Spec PyProof.Rows L2
theorem rgc_two (n : Nat) (h : n ≤ 1000) : RgC 1 (2 * (n : Int)) 2 n := by
  have hs : Builtin.Range.rangeSize 1 (2 * (n : Int)) 2 = (n : Int) := by
    unfold Builtin.Range.rangeSize
    rw [if_pos (by decide)]
    by_cases h0 : n = 0
    · subst h0
      rw [if_neg (by omega)]
      rfl
    · rw [if_pos (by omega)]
      omega
  refine ⟨by decide, by decide, ?_, hs⟩
  unfold Builtin.Range.small
  rw [hs]
  have f : ∀ z : Int, -1000000 ≤ z → z ≤ 1000000 → Builtin.Range.rangeFitsLong z = true := fun z a b => by
    unfold Builtin.Range.rangeFitsLong
    rw [decide_eq_true (show -2 ^ 63 ≤ z by omega), decide_eq_true (show z < 2 ^ 63 by omega)]
    rfl
  rw [f 1 (by decide) (by decide), f (2 * (n : Int)) (by omega) (by omega), f 2 (by decide) (by decide), f (n : Int) (by omega) (by omega), if_pos (by decide), f (2 * (n : Int) + (2 - 1)) (by omega) (by omega), Bool.or_true]
  rfl
/-! ### lists of objects in the heap -/
def ObjR {α : Type} (o : α → HO) (H : Hp) (rs : List V) (l : List α) : Prop := rs.length = l.length ∧ ∀ (i : Nat) (x : α), l[i]? = some x → ∃ a, rs[i]? = some (.ref a) ∧ H a = some (o x)
section
variable {α : Type} {o : α → HO} {H H' : Hp} {rs ss : List V} {l m : List α}
theorem ObjR.same (h : ObjR o H rs l) (s : Same H H') : ObjR o H' rs l := ⟨h.1, fun i x e => by
  obtain ⟨a, b, c⟩ := h.2 i x e
  exact ⟨a, b, s _ _ c⟩⟩
theorem ObjR.upd {q : Addr} {u : HO} (h : ObjR o H rs l) (n : V.ref q ∉ rs) : ObjR o (upd H q u) rs l := ⟨h.1, fun i x e => by
  obtain ⟨a, b, c⟩ := h.2 i x e
  have ne : a ≠ q := fun z => n (by rw [← z]; exact List.mem_of_getElem? b)
  refine ⟨a, b, ?_⟩
  rw [upd_ne ne]
  exact c⟩
theorem ObjR.nil : ObjR o H [] [] := ⟨rfl, fun i x e => by simp at e⟩
theorem ObjR.app (h : ObjR o H rs l) (g : ObjR o H ss m) : ObjR o H (rs ++ ss) (l ++ m) := by
  refine ⟨by rw [List.length_append, List.length_append, h.1, g.1], fun i x e => ?_⟩
  by_cases hi : i < l.length
  · rw [List.getElem?_append_left hi] at e
    rw [List.getElem?_append_left (by rw [h.1]; exact hi)]
    exact h.2 i x e
  · rw [List.getElem?_append_right (by omega)] at e
    rw [List.getElem?_append_right (by rw [h.1]; omega), h.1]
    exact g.2 _ x e
theorem ObjR.one {a : Addr} {x : α} (h : H a = some (o x)) : ObjR o H [.ref a] [x] := ⟨rfl, fun i r e => by
  cases i with
  | zero => cases e; exact ⟨a, rfl, h⟩
  | succ i => simp at e⟩
end
theorem rep_one (b : Bool) (v : V) : (List.replicate (if b = true then (1 : Int) else 0).toNat [v]).flatten = if b = true then [v] else [] := by cases b <;> rfl
theorem rep_sz (b : Bool) (v : V) : [v].length * (if b = true then (1 : Int) else 0).toNat ≤ sizeLine := by
  cases b
  · exact Nat.zero_le _
  · exact Lp.zs (show 1 * 1 ≤ 100000 by decide)
theorem ifs_len (b : Bool) (v : V) : (if b = true then [v] else []).length ≤ 1 := by
  cases b
  · exact Nat.zero_le _
  · exact Nat.le_refl _
theorem ints_get {ns : List Int} {i : Nat} {n : Int} (h : ns[i]? = some n) : (ns.map V.int)[i]? = some (.int n) := by rw [List.getElem?_map, h]; rfl
end Lp
set_option Elab.async false
set_option linter.all false
set_option maxRecDepth 100000
namespace Lp
open PySem PySem.Spec PyProof.Rows L2
/-! ### lists of ints, by < -/
theorem firstLt_map (e r : Nat → Bool) (fin : Bool) (f : Nat → Nat) : ∀ l : List Nat, SeqAt.firstLt e r fin (l.map f) = SeqAt.firstLt (fun j => e (f j)) (fun j => r (f j)) fin l
  | [] => rfl
  | j :: t => by
    show (if e (f j) = true then SeqAt.firstLt e r fin (t.map f) else r (f j)) = (if e (f j) = true then SeqAt.firstLt (fun j => e (f j)) (fun j => r (f j)) fin t else r (f j))
    rw [firstLt_map e r fin f t]
theorem first_lex : ∀ ns ms : List Int, SeqAt.firstLt (fun j => ns.getD j 0 == ms.getD j 0) (fun j => decide (ns.getD j 0 < ms.getD j 0)) (decide (ns.length < ms.length)) (List.range (min ns.length ms.length)) = HT.lexLt ns ms
  | [], [] => rfl
  | [], _ :: _ => rfl
  | _ :: _, [] => rfl
  | n :: ns, m :: ms => by
    have e : min (n :: ns).length (m :: ms).length = min ns.length ms.length + 1 := by
      simp only [List.length_cons]
      omega
    have e2 : decide ((n :: ns).length < (m :: ms).length) = decide (ns.length < ms.length) := decide_eq_decide.mpr (by simp only [List.length_cons]; omega)
    rw [e, e2, List.range_succ_eq_map]
    show (if (n == m) = true then SeqAt.firstLt _ _ _ ((List.range (min ns.length ms.length)).map Nat.succ) else decide (n < m)) = if n = m then HT.lexLt ns ms else decide (n < m)
    rw [firstLt_map]
    by_cases h : n = m
    · rw [if_pos (beq_iff_eq.mpr h), if_pos h]
      exact first_lex ns ms
    · rw [if_neg (fun z => h (beq_iff_eq.mp z)), if_neg h]
def IsLs (h : Heap) (v : Value) (ns : List Int) : Prop := ∃ (a : Addr) (items : List Value), v = .ref a ∧ h.IsList a items.toArray ∧ IntsAre items ns
theorem IsLs.keeps {h h' : Heap} {v : Value} {ns : List Int} (x : IsLs h v ns) (k : ∀ b o, v = .ref b → h.get? b = some o → h'.get? b = some o) : IsLs h' v ns := by
  obtain ⟨a, its, rfl, ⟨o, ho, hc, n, hd⟩, hi⟩ := x
  exact ⟨a, its, rfl, ⟨o, k a o rfl ho, hc, n, hd⟩, hi⟩
theorem ints_at : ∀ {us : List Value} {ns : List Int}, IntsAre us ns → ∀ j (h : j < us.length), ∃ t, us[j] = .int (ns.getD j 0) t
  | _, _, .cons n t r, 0, _ => ⟨t, rfl⟩
  | _, _, .cons n t r, j + 1, h => by
    obtain ⟨u, e⟩ := ints_at r j (Nat.lt_of_succ_lt_succ h)
    exact ⟨u, e⟩
section
variable {prog : Program} {w : World} {A : Around} {E : Value → Shared → Prop} {s : Shared}
theorem rcLt_int (A : Around) (s : Shared) (a : Int) (t : Tok) (b : Int) (u : Tok) : SeqAt.RcLt A s (.int a t) (.int b u) (decide (a < b)) := fun prog w E Q h => by
  have z : wpAny (model prog w) A (compareOp .Lt (.int a t) (.int b u)) Q E s := lt_int h
  exact z
theorem lt_ls {v u : Value} {ns ms : List Int} {Q : Bool → Shared → Prop} (hu : A.units < cLine) (hv : IsLs s.heap v ns) (hw : IsLs s.heap u ms) (h : Q (HT.lexLt ns ms) s) : wpAny (model prog w) A (keyLt' oneType' v u) Q E s := by
  obtain ⟨a, its, rfl, la, ia⟩ := hv
  obtain ⟨b, its2, rfl, lb, ib⟩ := hw
  have l1 := ia.length
  have l2 := ib.length
  rw [keyLt'_oneType, oneLt'_eq]
  simp only [if_true]
  refine wpAny_bind (wpAny_cRoomFor hu ?_)
  refine wpAny_bind (wpAny_callSpecialIfBound?_slot la.typeIs PySem.F.slot_list_lt (SeqAt.call_list_lt (e := fun j => ns.getD j 0 == ms.getD j 0) (r := fun j => decide (ns.getD j 0 < ms.getD j 0)) la lb (fun j h1 h2 => ?_) (fun j h1 h2 _ => ?_) ?_))
  · obtain ⟨t, e⟩ := ints_at ia j (by simpa using h1)
    obtain ⟨t', e'⟩ := ints_at ib j (by simpa using h2)
    rw [List.getElem_toArray, List.getElem_toArray, e, e']
    exact SeqAt.EqAt.int_int _ t _ t'
  · obtain ⟨t, e⟩ := ints_at ia j (by simpa using h1)
    obtain ⟨t', e'⟩ := ints_at ib j (by simpa using h2)
    rw [List.getElem_toArray, List.getElem_toArray, e, e']
    exact rcLt_int _ _ _ t _ t'
  · rw [List.size_toArray, List.size_toArray, l1, l2, first_lex]
    exact wpAny_truthy_bool h
theorem ls_cmp {vs : List Value} {k : Value → List Int} (hu : A.units < cLine) (hv : ∀ v ∈ vs, IsLs s.heap v (k v)) : SrtO.Cmp prog w A s oneType' (fun p => p.1 ∈ vs) (SrtO.lt2 fun v u => HT.lexLt (k v) (k u)) := by
  intro p q hp hq
  exact lt_ls (Q := fun r s' => s' = s ∧ r = HT.lexLt (k p.1) (k q.1)) (E := fun _ _ => False) hu (hv p.1 hp) (hv q.1 hq) ⟨rfl, rfl⟩
theorem ls_sortable {a : Addr} {vs : List Value} {k : Value → List Int} (h2 : 2 ≤ vs.length) (hu : A.units < cLine) (hv : ∀ v ∈ vs, IsLs s.heap v (k v)) (ha : ∀ v ∈ vs, v ≠ .ref a) :
    SrtO.SortableO prog w A s a vs fun v u => HT.lexLt (k v) (k u) := by
  intro h' keep
  have hv' : ∀ v ∈ vs, IsLs h' v (k v) := fun v hm => (hv v hm).keeps fun b o e g => keep b o (fun z => ha v hm (by rw [e, z])) g
  refine ⟨oneType', fun Q E hq => ?_, ls_cmp (s := { s with heap := h' }) hu hv'⟩
  refine PySem.W.kas_kind (s := { s with heap := h' }) (T := .type "list") h2 (fun v hm => ?_) (by rfl) (by simp) hq
  obtain ⟨a, its, rfl, ⟨o, ho, hc, n, hd⟩, hi⟩ := hv' v hm
  rw [← hc]
  exact (PySem.W.Looks.ld ho).andThen .now
end
/-- sorted(xs), xs a list of lists of ints of any length (k says which) -/
def rSortedLL (K : PySem.W.Frag) : List V → Hp → VK → Prop := fun vs H Q => ∃ (a : Addr) (xs : List V) (k : V → List Int), vs = [V.ref a] ∧ SqL K H a xs ∧ (∀ x ∈ xs, ∃ t, x = V.ref t ∧ SqL K H t ((k x).map V.int)) ∧
  ∀ ys p, ys.Perm xs → ys.Pairwise (fun x y => HT.lexLt (k y) (k x) = false) → H p = none → Q (.ref p) (upd H p (.lst ys))
theorem cr_sortedLL {X : Cx} (hu : X.A.units + 64 < cLine) : CallR X (.builtin "sorted") (rSortedLL X.K) := by
  intro pins s σ H vs us Q I r h
  obtain ⟨a, xs, k, rfl, hs, hx, q⟩ := h
  obtain ⟨its, rv, hl, hz⟩ := I.list hs
  obtain ⟨u, rfl, ru⟩ := vals1 r
  obtain rfl : u = Value.ref a := ru
  obtain ⟨e1, e2⟩ := refs_back rv fun x m => by
    obtain ⟨t, e, _⟩ := hx x m
    exact ⟨t, e⟩
  have hv : ∀ v ∈ its, IsLs s.heap v (k (backV v)) := fun v hv => by
    obtain ⟨t, rfl⟩ := e2 v hv
    have hm : V.ref t ∈ xs := by rw [e1]; exact List.mem_map.mpr ⟨_, hv, rfl⟩
    obtain ⟨t', e, ht⟩ := hx _ hm
    cases e
    obtain ⟨its2, r2, l2, _⟩ := I.list ht
    exact ⟨t, its2, rfl, l2.isList, r2.ints⟩
  refine SrtO.sorted_ord (NtL.swo_lexL fun u => k (backV u)) hl.isList (by rw [← rv.length]; exact hz) (fun h2 h₁ a' g keep => ls_sortable h2 (by show X.A.units + 1 + 1 < cLine; omega) (fun v hm => (hv v hm).keeps fun b o _ g => (keep b o g).2) fun v hm z => ?_) fun out h1 h2 => ?_
  · obtain ⟨b, its3, e, ⟨o, ho, _⟩, _⟩ := hv v hm
    rw [z] at e
    cases e
    exact (keep _ o ho).1 rfl
  · have h3 : ∀ u ∈ out, ∃ a, u = Value.ref a := fun u hu => e2 u (h2.perm.mem_iff.mp hu)
    obtain ⟨ep, he'⟩ := PyProof.Rows.sortedAll_at s.heap its out.toArray
    have hp : (out.map backV).Perm xs := by
      rw [e1]
      exact h2.perm.map backV
    have hlen : (out.map backV).length ≤ sizeLine := by
      rw [hp.length_eq]
      exact hz
    exact ⟨.ref _, upd H (s.heap.objs.size + 1) (.lst (out.map backV)), I.laid (t' := s.toks) (fun _ _ => PyProof.Rows.sortedAll_old) (Nat.le_succ _) ⟨hlen, out, ep, vals_back h3, he'⟩, rfl, q _ _ hp (List.pairwise_map.mpr (h1.imp fun {x y} z => z)) (I.hok.fresh (Nat.le_succ _))⟩
end Lp
set_option Elab.async false
set_option linter.all false
set_option maxRecDepth 100000
namespace Lp
open PySem PySem.Spec PyProof.Rows L2
theorem all_bounds (n : Nat) : PySem.sliceBounds none none none n = (0, (n : Int), 1) := by
  simp [PySem.sliceBounds]
section
variable {prog : Program} {w : World} {A : Around} {E : Value → Shared → Prop} {s : Shared}
/-- xs[:] = ys -/
theorem whole_set {p q z : Addr} {old new : Array Value} {n1 n2 : Nat} {R : Unit → Shared → Prop} (hp : s.heap.get? p = some { cls := .type "list", data := .seq old n1 }) (hq : s.heap.get? q = some { cls := .type "list", data := .seq new n2 })
    (npq : p ≠ q) (hz : s.heap.IsSliceOf z .none .none .none) (fit : old.size + new.size ≤ sizeLine) (h : R () { s with heap := s.heap.update p (Obj.mapSeq fun xs => xs.extract 0 0 ++ new ++ xs.extract old.size xs.size) }) :
    wpAny (model prog w) A (setItem (.ref p) (.ref z) (.ref q)) R E s := by
  have tp : s.heap.IsList p old := PySem.IsL.isList hp
  have tq : s.heap.IsList q new := PySem.IsL.isList hq
  obtain ⟨oz, goz, coz, doz⟩ := id hz
  have tz : s.TypeIs (.ref z) "slice" := ⟨oz, goz, coz⟩
  have noZero : ¬ ((rawPart none == rawInt 0) = true) := Bool.false_ne_true
  have two : Builtin.List.listSameRef (.ref p) (.ref q) = false := by unfold Builtin.List.listSameRef; exact beq_eq_false_iff_ne.mpr npq
  have upper : (max (0 : Int) (old.size : Int)).toNat = old.size := by omega
  have fit' : ((fun xs : Array Value => xs.extract 0 0 ++ new ++ xs.extract old.size xs.size) old).size ≤ sizeLine + 1 := by simp only [Array.size_append, Array.size_extract]; omega
  unfold setItem; try with_reducible refine wpAny_holding ?_
  first | refine wpAny_bind (wpAny_pure ?_) | skip
  refine wpAny_bind (wpAny_sequenceKey tp.typeIs (by decide) (wpAny_bind (wpAny_callSpecial?_slot (name := Str.ofString "__setitem__") tp.typeIs slot_list_setitem (wpAny_call_entry slot_list_setitem tp.typeIs entry_list_setitem ?_ (args_list_setitem _ _ _)))))
  show wpAny _ _ (Builtin.List.listSubscript? (.ref z) >>= _) _ _ s
  refine wpAny_bind ?_
  unfold Builtin.List.listSubscript?
  refine wpAny_bind (wpAny_specialOf tz slice_no_index ?_)
  simp only [Option.isNone_none, if_true]
  refine wpAny_pure (?_ : wpAny _ _ (typeOf (.ref z) >>= _) _ _ s)
  refine wpAny_bind (wpAny_typeOf tz ?_)
  first | rw [if_neg (by decide)] | refine PySem.W.KFB.if_not (by decide) ?_
  rw [listSliceParts_eq]
  refine wpAny_bind (wpAny_bind (wpAny_field goz doz (x := .none) rfl (wpAny_bind (wpAny_listPart .none (?_ : wpAny _ _ _ _ _ _)))))
  rw [if_neg noZero]
  refine wpAny_bind (wpAny_field goz doz (x := .none) rfl (wpAny_bind (wpAny_listPart .none (wpAny_bind (wpAny_field goz doz (x := .none) rfl (wpAny_bind (wpAny_listPart .none (wpAny_pure ?_))))))))
  first | simp only [two, Bool.false_eq_true, if_false] | refine PySem.W.KFB.if_not two ?_ | (dsimp only; rw [if_neg (by rw [two]; exact Bool.false_ne_true)])
  refine wpAny_bind (m := Builtin.List.listAllItems (.ref q) "must assign iterable to extended slice") ?_
  unfold Builtin.List.listAllItems; refine wpAny_bind (wpAny_typeOf tq.typeIs ?_)
  first | refine PySem.W.KFB.if_so (by decide) ?_ | rw [if_pos (by decide)] | simp only [beq_self_eq_true, Bool.true_or, if_true]
  unfold Builtin.List.listItems; refine wpAny_bind (wpAny_seqItems hq rfl (wpAny_pure (wpAny_bind (wpAny_bind (wpAny_seqItems hp rfl (wpAny_pure ?_))))))
  refine wpAny_bind (wpAny_of_eq ((sliceIndices_raw none none none old.size (by simp)).trans (congrArg (pure : Int × Int × Int → Sem (Int × Int × Int)) (all_bounds old.size))) ?_)
  show wpAny _ _ (if ((1 : Int) == 1) = true then _ else _) _ _ s
  rw [if_pos (by decide)]; refine wpAny_bind (wpAny_rule ?_)
  first | simp only [notLongL fit, Bool.false_eq_true, if_false] | refine PySem.W.KFB.if_not (notLongL fit) ?_
  first | refine wpAny_bind (wpAny_pure ?_) | skip
  show wpAny _ _ (updateSeq p (fun xs => xs.extract 0 ((0 : Int)).toNat ++ new ++ xs.extract (max (0 : Int) (old.size : Int)).toNat xs.size) >>= _) _ _ s
  rw [upper]; refine wpAny_bind (wpAny_updateSeq (hz := Nat.le_trans (Nat.le_add_right _ _) fit) (_hz' := fit') hp rfl (wpAny_bind (wpAny_letGo ?_)))
  first | exact wpAny_bind (wpAny_pure (wpAny_pure ⟨.none, rfl, wpAny_pure h⟩)) | exact wpAny_pure ⟨.none, rfl, wpAny_pure h⟩
end
/-- the slice object of [:] -/
def SlO (a : Addr) : HO := .ext fun h => h.IsSliceOf a .none .none .none
section
variable {X : Cx} {pos : Pos}
def tSlAll : TE := fun _ H Q => ∀ p, H p = none → Q (.ref p) (upd H p (SlO p))
theorem pe_slAll : PE X (.Slice none none none pos) tSlAll := by
  refine ⟨fun pins s σ H Q I h => ?_⟩
  refine wpAny_Slice ?_
  rw [evalPart_none]
  refine wpAny_pure (wpAny_pure (wpAny_pure ?_))
  refine ⟨.ref s.heap.objs.size, upd H s.heap.objs.size (SlO s.heap.objs.size), I.laid (t' := s.toks) (fun b ob q => Heap.get?_push_of_some _ q) (Nat.le_refl _) ⟨Heap.IsSliceOf.new .., ⟨_, Heap.get?_push_size s.heap rfl⟩, fun h1 h2 x k => ?_⟩, rfl, h _ (I.hok.fresh (Nat.le_refl _))⟩
  obtain ⟨o, e, c, d⟩ := x
  exact ⟨o, k o e, c, d⟩
def sAll : TSet := fun x y z H Q => ∃ (l b sl : Addr) (xs ys : List V), x = .ref l ∧ y = .ref sl ∧ z = .ref b ∧ H sl = some (SlO sl) ∧ H l = some (.lst xs) ∧ H b = some (.lst ys) ∧ l ≠ b ∧ xs.length + ys.length ≤ sizeLine ∧ Q (upd H l (.lst ys))
theorem set_all : PSet X sAll := by
  intro pins s σ H o i v ov iv u Q I r1 r2 r3 h
  obtain ⟨l, b, sl, xs, ys, rfl, rfl, rfl, hsl, hl, hb, ne, hz, q⟩ := h
  cases r1
  cases r2
  cases r3
  obtain ⟨z, its, n, r, el, e⟩ := I.lstM hl
  obtain ⟨z2, its2, n2, r', el2, e2⟩ := I.lstM hb
  have os : ObjOk X.prog X.w H s.heap sl (SlO sl) := I.hok sl _ hsl
  refine whole_set e e2 ne os.1 (by rw [List.size_toArray, List.size_toArray]; omega) ⟨_, I.lset (its' := its2) (t' := s.toks) hl e ?_ r' (by omega), q⟩
  apply Array.toList_inj.mp
  simp
/-- xs[..] = as a target, a slice without a step -/
theorem pg_slAll {o i : Expr} {to ti : TE} {t : TSet} (ho : PE X o to) (hi : PE X i ti) (hs : PSet X t)
    (ha : ∀ v, assign (.Subscript o i pos) X.env v = (holding [v] (eval o X.env) >>= fun ov => holding [v, ov] (eval i X.env) >>= fun iv => standAt pos >>= fun _ => holding [v, ov, iv] (setItem ov iv v) >>= fun _ => release [iv, v, ov] []) := by intro _; rfl) : PG X (.Subscript o i pos) (gSub to ti t) := by
  refine ⟨fun pins s σ H v u Q I r h => ?_⟩
  rw [ha u]
  refine wpAny_bind (wpAny_holding (thn (ho.run pins s σ H _ I h) fun ov sA ⟨x, HA, IA, rA, qA⟩ => wpAny_bind (wpAny_holding (thn (hi.run pins sA σ HA _ IA qA) fun iv sB ⟨y, HB, IB, rB, qB⟩ =>
    wpAny_bind (wpAny_standAt (wpAny_bind (wpAny_holding (thn (hs pins sB σ HB x y v ov iv u _ IB rA rB r qB) fun _ sC ⟨HC, IC, qC⟩ => wpAny_release ⟨σ, HC, IC, qC⟩))))))))
end
end Lp
set_option Elab.async false
set_option linter.all false
set_option maxRecDepth 100000
namespace Lp
open PySem PySem.Calls
theorem comb_entry : entryFor table "math.comb" = some Builtin.«math.comb» := entryFor_of_tree (by kernel_rfl)
theorem comb_kind : builtinKind "math.comb" = none := by kernel_rfl
theorem comb_plain : plainId "math.comb" = true := by decide +kernel
theorem comb_args (a b : Value) : argsOk "math.comb" ⟨[a, b], []⟩ := by unfold argsOk; kernel_rfl
theorem comb_run (a : Int) (t : Tok) (b : Int) (u : Tok) (h0 : ¬ a < 0) (h1 : ¬ b < 0) (h2 : ¬ b > a) (h3 : ¬ min b (a - b) > Builtin.Math.maxSsize) (h4 : ¬ min b (a - b) > Builtin.Math.manyFactors) (h5 : ¬ min b (a - b) > 9000)
    (hs : (Builtin.Math.fallingProduct a (min b (a - b)).toNat / Builtin.Math.fallingProduct (min b (a - b)) (min b (a - b)).toNat).natAbs.log2 < bitsLine) :
    Gives (Builtin.«math.comb» ⟨[.int a t, .int b u], []⟩) (.int (Builtin.Math.fallingProduct a (min b (a - b)).toNat / Builtin.Math.fallingProduct (min b (a - b)) (min b (a - b)).toNat)) :=
  .of_wp fun M A E s Q h => by obtain ⟨hp, g, d, tk, os⟩ := s; wp_walk; (try (refine wpAny_ite_false (decide_eq_false (Nat.not_le.mpr hs)) ?_; wp_walk)); exact ⟨_, rfl, h⟩
end Lp
namespace Lp
open PySem PySem.Spec PySem.Calls PyProof.Rows L2
/-! ### binomial coefficients -/
theorem facN_pos' : ∀ n, 0 < facN n
  | 0 => by decide
  | n + 1 => Nat.mul_pos (facN_pos' n) (Nat.succ_pos n)
def chN (n k : Nat) : Nat := facN n / (facN k * facN (n - k))
def chP : Nat → Nat → Nat
  | _, 0 => 1
  | 0, _ + 1 => 0
  | n + 1, k + 1 => chP n k + chP n (k + 1)
theorem chP_zero (n : Nat) : chP n 0 = 1 := by cases n <;> rfl
theorem chP_gt : ∀ n k, n < k → chP n k = 0
  | 0, k + 1, _ => rfl
  | n + 1, k + 1, h => by
    show chP n k + chP n (k + 1) = 0
    rw [chP_gt n k (by omega), chP_gt n (k + 1) (by omega)]
theorem chP_self : ∀ n, chP n n = 1
  | 0 => rfl
  | n + 1 => by
    show chP n n + chP n (n + 1) = 1
    rw [chP_self n, chP_gt n (n + 1) (by omega)]
theorem chP_fac : ∀ n k, k ≤ n → chP n k * (facN k * facN (n - k)) = facN n
  | n, 0, _ => by
    rw [chP_zero, Nat.sub_zero]
    show 1 * (1 * facN n) = facN n
    rw [Nat.one_mul, Nat.one_mul]
  | n + 1, k + 1, h => by
    show (chP n k + chP n (k + 1)) * (facN k * (k + 1) * facN (n + 1 - (k + 1))) = facN n * (n + 1)
    have e : n + 1 - (k + 1) = n - k := by omega
    rw [e]
    have a := chP_fac n k (by omega)
    rcases Nat.lt_or_ge k n with hk | hk
    · have b := chP_fac n (k + 1) (by omega)
      have b2 : facN (n - k) = facN (n - (k + 1)) * (n - k) := by
        have e2 : n - k = (n - (k + 1)) + 1 := by omega
        rw [e2]
        rfl
      have x1 : chP n k * (facN k * (k + 1) * facN (n - k)) = facN n * (k + 1) := by
        rw [← a]
        simp only [Nat.mul_assoc, Nat.mul_comm, Nat.mul_left_comm]
      have x2 : chP n (k + 1) * (facN k * (k + 1) * facN (n - k)) = facN n * (n - k) := by
        rw [← b, b2]
        show _ = chP n (k + 1) * (facN k * (k + 1) * facN (n - (k + 1))) * (n - k)
        simp only [Nat.mul_assoc, Nat.mul_comm, Nat.mul_left_comm]
      rw [Nat.add_mul, x1, x2, ← Nat.mul_add]
      congr 1
      omega
    · have ek : k = n := by omega
      subst ek
      have x : chP k k * (facN k * (k + 1) * facN (k - k)) = chP k k * (facN k * facN (k - k)) * (k + 1) := by
        simp only [Nat.mul_assoc, Nat.mul_comm, Nat.mul_left_comm]
      rw [chP_gt k (k + 1) (by omega), Nat.add_zero, x, a]
theorem ch_eq {n k : Nat} (h : k ≤ n) : chN n k = chP n k := by
  unfold chN
  rw [← chP_fac n k h]
  exact Nat.mul_div_cancel _ (Nat.mul_pos (facN_pos' k) (facN_pos' _))
theorem ch_sym {n k : Nat} (h : k ≤ n) : chN n (n - k) = chN n k := by
  unfold chN
  have e : n - (n - k) = k := by omega
  rw [e, Nat.mul_comm]
theorem ch_le (n k : Nat) : chN n k ≤ facN n := Nat.div_le_self _ _
theorem fall_fac (n : Nat) : ∀ k, k ≤ n → Builtin.Math.fallingProduct (n : Int) k * ((facN (n - k) : Nat) : Int) = ((facN n : Nat) : Int)
  | 0, _ => by
    show 1 * _ = _
    rw [Int.one_mul, Nat.sub_zero]
  | k + 1, h => by
    have e : Builtin.Math.fallingProduct (n : Int) (k + 1) = Builtin.Math.fallingProduct (n : Int) k * ((n : Int) - (k : Int)) := by
      unfold Builtin.Math.fallingProduct
      rw [List.range_succ, List.foldl_append]
      rfl
    have ih := fall_fac n k (by omega)
    have e2 : facN (n - k) = facN (n - (k + 1)) * (n - k) := by
      have e3 : n - k = (n - (k + 1)) + 1 := by omega
      rw [e3]
      rfl
    rw [← ih, e, e2, Int.natCast_mul, Int.mul_assoc]
    congr 1
    rw [Int.mul_comm]
    congr 1
    omega
theorem comb_val {n k : Nat} (h : k ≤ n) : Builtin.Math.fallingProduct (n : Int) k / Builtin.Math.fallingProduct (k : Int) k = ((chN n k : Nat) : Int) := by
  have a := fall_fac n k h
  have b := fall_fac k k (Nat.le_refl k)
  have c := chP_fac n k h
  rw [Nat.sub_self] at b
  have b' : Builtin.Math.fallingProduct (k : Int) k = ((facN k : Nat) : Int) := by
    rw [← b]
    exact (Int.mul_one _).symm
  have fp : ((facN (n - k) : Nat) : Int) ≠ 0 := by
    have := facN_pos' (n - k)
    omega
  have a' : Builtin.Math.fallingProduct (n : Int) k = ((chP n k * facN k : Nat) : Int) := by
    refine Int.eq_of_mul_eq_mul_right fp ?_
    rw [a, ← c, ← Int.natCast_mul, Nat.mul_assoc]
  rw [a', b', ← Int.natCast_ediv, Nat.mul_div_cancel _ (facN_pos' k), ch_eq h]
def rComb : List V → Hp → VK → Prop := fun vs H Q => ∃ n k : Nat, vs = [.int (n : Int), .int (k : Int)] ∧ k ≤ n ∧ n ≤ 1000 ∧ Q (.int ((chN n k : Nat) : Int)) H
theorem cr_comb {X : Cx} : CallR X (.builtin "math.comb") rComb := by
  intro pins s σ H vs us Q I r h
  obtain ⟨n, k, rfl, hk, hn, q⟩ := h
  obtain ⟨t, u, rfl⟩ := Vals.int2 r
  obtain ⟨m, em, hm, ech⟩ : ∃ m : Nat, min (k : Int) ((n : Int) - (k : Int)) = (m : Int) ∧ m ≤ n ∧ chN n m = chN n k := by
    rcases Nat.le_total k (n - k) with c | c
    · exact ⟨k, by omega, hk, rfl⟩
    · exact ⟨n - k, by omega, by omega, ch_sym hk⟩
  have v : Builtin.Math.fallingProduct (n : Int) (min (k : Int) ((n : Int) - (k : Int))).toNat / Builtin.Math.fallingProduct (min (k : Int) ((n : Int) - (k : Int))) (min (k : Int) ((n : Int) - (k : Int))).toNat = ((chN n k : Nat) : Int) := by
    rw [em, Int.toNat_natCast, comb_val hm, ech]
  have fl := fac_lt n hn
  refine call_function_meets comb_kind comb_plain comb_entry (comb_args _ _) (comb_run (n : Int) t (k : Int) u (by omega) (by omega) (by omega) (by rw [em]; show ¬ (m : Int) > 2 ^ 63 - 1; omega) (by rw [em]; show ¬ (m : Int) > 20000; omega) (by omega) ?_).meets ?_
  · rw [v]
    show (chN n k).log2 < bitsLine
    have b := PySem.Flt.log2_lt_of (by omega : 0 < 10 * n + 1) (Nat.lt_of_le_of_lt (ch_le n k) fl)
    have e2 : bitsLine = 134217728 := by decide
    rw [e2]
    omega
  · rw [v]
    exact ⟨.int _, H, I.tok _, ⟨_, rfl⟩, q⟩
end Lp
set_option Elab.async false
set_option linter.all false
set_option maxRecDepth 100000
namespace Lp
open PySem PySem.Spec PyProof.Rows L2
/-! ### a text read from its end -/
theorem fm_all {α : Type} : ∀ m : List α, List.filterMap (fun k => m[k]?) (List.range m.length) = m
  | [] => rfl
  | a :: m => by
    rw [List.length_cons, List.range_succ_eq_map, List.filterMap_cons]
    show a :: List.filterMap (fun k => (a :: m)[k]?) (List.map Nat.succ (List.range m.length)) = a :: m
    rw [List.filterMap_map]
    exact congrArg (a :: ·) (fm_all m)
theorem fm_congr {α β : Type} {f g : α → Option β} : ∀ {l : List α}, (∀ x ∈ l, f x = g x) → l.filterMap f = l.filterMap g
  | [], _ => rfl
  | a :: l, h => by
    rw [List.filterMap_cons, List.filterMap_cons, h a (List.mem_cons_self ..), fm_congr fun x hx => h x (List.mem_cons_of_mem _ hx)]
theorem fm_rev {α : Type} (l : List α) : List.filterMap (fun k => l[l.length - 1 - k]?) (List.range l.length) = l.reverse := by
  refine Eq.trans (fm_congr (g := fun k => l.reverse[k]?) fun k hk => ?_) ((congrArg (fun n => List.filterMap (fun k => l.reverse[k]?) (List.range n)) (List.length_reverse (as := l)).symm).trans (fm_all l.reverse))
  rw [List.getElem?_reverse (List.mem_range.mp hk)]
theorem rev_idx (n : Nat) : Builtin.Str.strSliceIndices none none (-1) n = (List.range n).map fun k => n - 1 - k := by
  show sliceRange ((n : Int) - 1) (-1) (-1) = _
  have e : sliceRange ((n : Int) - 1) (-1) (-1) = List.map (fun k : Nat => ((n : Int) - 1 + (-1) * (k : Int)).toNat) (List.range (if (n : Int) - 1 > -1 then ((n : Int) - 1 - (-1) - (-1) - 1) / 1 else (0 : Int)).toNat) := rfl
  rw [e]
  have c : (if (n : Int) - 1 > -1 then ((n : Int) - 1 - (-1) - (-1) - 1) / 1 else (0 : Int)).toNat = n := by
    split <;> omega
  rw [c]
  exact List.map_congr_left fun k hk => by omega
def revS (x : Str) : Str := ⟨x.cps.toList.reverse.toArray⟩
theorem rev_made (x : Str) (t q : Tok) : sliceMade x t none none (some (-1, q)) = .str (revS x) := by
  show (if ((-1 : Int) == 1 && _) = true then _ else _) = _
  rw [if_neg (by simp)]
  show Made.str ⟨(List.filterMap (fun i => x.cps[i]?) (Builtin.Str.strSliceIndices none none (-1) x.length)).toArray⟩ = _
  rw [rev_idx, List.filterMap_map]
  have := fm_rev x.cps.toList
  simp only [Array.getElem?_toList, Array.length_toList] at this
  exact congrArg (fun l => Made.str ⟨List.toArray l⟩) this
section
variable {X : Cx}
def tRevS (te : TE) : TE := fun σ H Q => te σ H fun x H1 => ∃ z, x = .str z ∧ z.cps.size ≤ sizeLine ∧ Q (.str (revS z)) H1
theorem pe_revS {e : Expr} {te : TE} {k : Nat} {p1 p2 p3 pos : Pos} (he : PE X e te) : PE X (e.Subscript (Expr.Slice none none (some (Expr.UnaryOp UnaryOp.USub (Expr.Constant (Const.int 1) k p1) p2)) p3) pos) (tRevS te) := by
  refine ⟨fun pins s σ H Q I h => ?_⟩
  refine Subscript_ (thn (he.run pins s σ H _ I h) fun o s1 ⟨v, H1, I1, r1, q1⟩ => ?_)
  obtain ⟨z, rfl, hz, q⟩ := q1
  obtain ⟨t, rfl⟩ := r1
  refine wpAny_Slice ?_
  rw [evalPart_none]
  refine wpAny_pure (wpAny_pure ?_)
  refine thn ((po_some (pe_un un_neg pe_int)).run pins s1 σ H1 (fun o H2 => o = some (-1) ∧ H2 = H1) I1 ⟨1, rfl, _, rfl, rfl, rfl⟩) fun u s2 ⟨o, H2, I2, ip, eo, eh⟩ => ?_
  subst eo
  subst eh
  cases ip with
  | int i tk =>
    refine tail_any (typeIs_str _ _ _) F.slot_str_getitem.lookup ?_ rfl
    refine wpAny_getItem_str_slice (l := none) (u := none) (st := some (-1, tk)) (Heap.IsSliceOf.new ..) rfl ?_
    rw [rev_made]
    have I3 : Inv X pins σ H2 { s2 with heap := s2.heap.push { cls := .type "slice", data := .fields #[.none, .none, .int (-1) tk] } } := I2.kept (t' := s2.toks) fun b o e => Heap.get?_push_of_some _ e
    have hl : (revS z).length ≤ sizeLine := by
      show (z.cps.toList.reverse.toArray).size ≤ sizeLine
      rw [List.size_toArray, List.length_reverse, Array.length_toList]
      exact hz
    exact ⟨hl, .str (revS z), H2, I3.tok _, ⟨_, rfl⟩, q⟩
/-! ### list and tuple of a text -/
def chL (z : Str) : List V := z.cps.toList.map fun c => V.str ⟨#[c]⟩
theorem vals_ch {z : Str} {acc : Array Value} (h : ItemsOf (SignAt z) acc z.cps.size) : Vals (chL z) acc.toList := by
  have e : chL z = (List.range acc.toList.length).map fun j => V.str ⟨#[z.cps.toList.getD j 0]⟩ := by
    unfold chL
    rw [Array.length_toList, h.1]
    apply List.ext_getElem?
    intro i
    rw [List.getElem?_map, List.getElem?_map]
    by_cases c : i < z.cps.size
    · rw [List.getElem?_range (by omega), List.getElem?_eq_getElem (by rw [Array.length_toList]; exact c)]
      simp [c]
    · rw [List.getElem?_eq_none (by rw [Array.length_toList]; omega), List.getElem?_eq_none (by rw [List.length_range]; omega)]
      rfl
  rw [e]
  refine vals_of_get acc.toList _ fun j u hj => ?_
  obtain ⟨c, t, hc, rfl⟩ := h.2 j u (by rw [← hj, Array.getElem?_toList])
  refine ⟨t, ?_⟩
  have : z.cps.toList.getD j 0 = c := by
    rw [List.getD_eq_getElem?_getD, Array.getElem?_toList, hc]
    rfl
  rw [this]
def rLStr : List V → Hp → VK → Prop := fun xs H Q => ∃ z, xs = [.str z] ∧ z.cps.size ≤ sizeLine ∧ ∀ p, H p = none → Q (.ref p) (upd H p (.lst (chL z)))
theorem cr_listStr (hc : X.calm = true) : CallR X (.type "list") rLStr := by
  intro pins s σ H xs us Q I r h
  obtain ⟨z, rfl, hz, q⟩ := h
  cases r with
  | cons r rr =>
    cases rr
    obtain ⟨t, rfl⟩ := r
    refine call_list_str (I.ok.hd hc) z t (fun h' tk acc' c' hk e hi => ?_) hz
    refine ⟨.ref _, upd H _ (.lst (chL z)), I.laid hk (Nat.le_refl _) (show ObjOk X.prog X.w _ _ _ (.lst _) from ⟨?_, acc'.toList, c', vals_ch hi, ?_⟩), rfl, q _ (I.hok.fresh (Nat.le_refl _))⟩
    · unfold chL
      rw [List.length_map, Array.length_toList]
      exact hz
    · rw [Array.toArray_toList]; exact e
def rTStr : List V → Hp → VK → Prop := fun xs H Q => ∃ z, xs = [.str z] ∧ z.cps.size ≤ sizeLine ∧ ∀ p, H p = none → Q (.ref p) (upd H p (.tup (chL z)))
theorem cr_tupStr (hc : X.calm = true) : CallR X (.type "tuple") rTStr := by
  intro pins s σ H xs us Q I r h
  obtain ⟨z, rfl, hz, q⟩ := h
  cases r with
  | cons r rr =>
    cases rr
    obtain ⟨t, rfl⟩ := r
    refine call_tuple_str (I.ok.hd hc) z t (fun h' tk acc hk hi => ?_) hz
    have I2 : Inv X pins σ H { s with heap := h', toks := tk } := I.kept (t' := tk) hk
    refine ⟨.ref _, upd H _ (.tup (chL z)), I2.laid (fun b o e => Heap.get?_push_of_some _ e) (Nat.le_refl _) (show ObjOk X.prog X.w _ _ _ (.tup _) from ?_), rfl, q _ (I2.hok.fresh (Nat.le_refl _))⟩
    simp only [ObjOk]
    refine ⟨by unfold chL; rw [List.length_map, Array.length_toList]; exact hz, acc.toList, vals_ch hi, ?_⟩
    rw [Array.toArray_toList]
    exact ⟨_, Heap.get?_push_size _ rfl, rfl, _, rfl⟩
end
end Lp
set_option Elab.async false
set_option linter.all false
set_option maxRecDepth 100000
namespace Lp
open PySem PySem.Spec PyProof.Rows L2
section
variable {prog : Program} {w : World} {A : Around} {E : Value → Shared → Prop} {s : Shared}
theorem zipS_next_item {z TI TO i1 i2 l1 : Addr} {k1 k2 : Nat} {xs : Array Value} {ty : String} {t : Str} {tk : Tok} {x a b : Value} {c : Nat} {Q : Value → Shared → Prop}
    (nx : ∀ (s : Shared) (Q : Value → Shared → Prop) (E : Value → Shared → Prop), s.heap.IsStrIter i2 ty t tk k2 → (∀ h', h'.IsStrIter i2 ty t tk (k2 + 1) → Heap.SameBut i2 s.heap h' → Q (.str ⟨#[c]⟩ s.toks) { heap := h', gens := s.gens, drawn := s.drawn, toks := s.toks + 1, os := s.os }) → wpAny (model prog w) A (Builtin.SmallTypes.nextOf (.ref i2)) Q E s)
    (TIz : TI ≠ z) (TOz : TO ≠ z) (i1z : i1 ≠ z) (i2z : i2 ≠ z) (TITO : TI ≠ TO) (TOi1 : TO ≠ i1) (TOi2 : TO ≠ i2) (i12 : i1 ≠ i2) (l1z : l1 ≠ z)
    (hz : IsZip s.heap z TI TO .none) (hTI : IsPair s.heap TI (.ref i1) (.ref i2)) (hTO : IsPair s.heap TO a b) (h1 : s.heap.IsListIter i1 l1 k1) (h2 : s.heap.IsStrIter i2 ty t tk k2) (hl : s.heap.IsList l1 xs) (hx : xs[k1]? = some x)
    (q : ∀ h' : Heap, IsZip h' z TI TO (rawInt ↑s.heap.objs.size) → IsPair h' TO x (.str ⟨#[c]⟩ s.toks) → h'.IsListIter i1 l1 (k1 + 1) → h'.IsStrIter i2 ty t tk (k2 + 1) → IsPair h' s.heap.objs.size x (.str ⟨#[c]⟩ s.toks) → h'.objs.size = s.heap.objs.size + 1 →
      (∀ (e : Addr) (o : Obj), e ≠ z → e ≠ TO → e ≠ i1 → e ≠ i2 → s.heap.get? e = some o → h'.get? e = some o) → Q (.ref s.heap.objs.size) { heap := h', gens := s.gens, drawn := s.drawn, toks := s.toks + 1, os := s.os }) :
    wpAny (model prog w) A (Builtin.«zip.__next__» { pos := [.ref z] }) (fun fin s' => ∃ v, fin = Fin.done (Flow.ret v) ∧ Q v s') E s := by
  unfold Builtin.«zip.__next__»
  refine wpAny_bind (m := slotArgs "__next__" 0 _) (wpAny_of_eq (a := ((Value.ref z : Value), ([] : List Value))) (by first | rfl | (simp only [slotArgs]; rfl)) ?_)
  refine wpAny_bind (wpAny_field hz rfl rfl ?_)
  refine wpAny_bind (wpAny_field hz rfl rfl ?_)
  refine wpAny_bind (wpAny_seqItems hTI rfl ?_)
  refine wpAny_bind (m := Builtin.SmallTypes.ownedTupleIsFree (.ref z)) ?_
  unfold Builtin.SmallTypes.ownedTupleIsFree
  refine wpAny_bind (wpAny_field hz rfl rfl (wpAny_pure ?_))
  show wpAny _ _ (rule _ >>= _) _ _ _
  refine wpAny_bind (wpAny_rule ?_)
  refine wpAny_bind (wpAny_field hz rfl rfl ?_)
  refine wpAny_bind (wpAny_setField_rec hz (by show 0 < 5; decide) fun g1 gz1 sb1 => ?_)
  refine wpAny_bind ?_
  rw [show (#[Value.ref i1, Value.ref i2] : Array Value).toList.zipIdx = [(Value.ref i1, 0), (Value.ref i2, 1)] from rfl, List.forIn_cons]
  refine wpAny_bind (wpAny_bind (wpAny_onRaise ?_))
  show wpAny _ _ (Builtin.SmallTypes.nextOf (.ref i1) >>= fun v => pure (some v)) _ _ _
  have x1 := sb1.extBut
  have hl1 : g1.IsList l1 xs := hl.extBut x1 l1z
  refine wpAny_bind (wpAny_nextOf_list_item (h1.extBut x1 i1z) hl1 hx fun g2 it2 sb2 => ?_)
  refine wpAny_pure ?_
  have TO2 : IsPair g2 TO a b := by
    show g2.get? TO = _
    rw [sb2.2 TO TOi1, sb1.2 TO TOz]
    exact hTO
  refine wpAny_bind (wpAny_seqItems TO2 rfl ?_)
  refine wpAny_bind (wpAny_updateSeq_pair TO2 fun g3 gt3 sb3 => ?_)
  refine wpAny_bind (wpAny_letGo ?_)
  refine wpAny_pure ?_
  show wpAny _ _ (forIn [((Value.ref i2 : Value), 1)] ((none : Option PySem.Fin), ()) _) _ _ _
  rw [List.forIn_cons]
  refine wpAny_bind (wpAny_bind (wpAny_onRaise ?_))
  show wpAny _ _ (Builtin.SmallTypes.nextOf (.ref i2) >>= fun v => pure (some v)) _ _ _
  have h23 : g3.IsStrIter i2 ty t tk k2 := ((h2.extBut x1 i2z).extBut sb2.extBut i12.symm).extBut sb3.extBut TOi2.symm
  refine wpAny_bind (nx _ _ _ h23 fun g4 it4 sb4 => ?_)
  refine wpAny_pure ?_
  have TO4 : IsPair g4 TO x b := by
    show g4.get? TO = _
    rw [sb4.2 TO TOi2]
    exact gt3
  refine wpAny_bind (wpAny_seqItems TO4 rfl ?_)
  refine wpAny_bind (wpAny_updateSeq_pair TO4 fun g5 gt5 sb5 => ?_)
  refine wpAny_bind (wpAny_letGo ?_)
  refine wpAny_pure ?_
  show wpAny _ _ (forIn [] ((none : Option PySem.Fin), ()) _) _ _ _
  rw [List.forIn_nil]
  refine wpAny_pure ?_
  refine wpAny_bind (wpAny_seqItems gt5 rfl ?_)
  refine wpAny_bind (wpAny_newTuple ?_ (by show 2 ≤ sizeLine; decide))
  refine wpAny_bind ?_
  unfold Builtin.SmallTypes.ownedTupleHandOut
  have gz5 : g5.get? z = some { cls := Value.type "zip", data := Data.fields #[Value.ellipsis, Value.bool false, Value.bool false, Value.ref TI, Value.ref TO] } := by
    rw [sb5.2 z TOz.symm, sb4.2 z i2z.symm, sb3.2 z TOz.symm, sb2.2 z i1z.symm]
    exact gz1
  show wpAny _ _ (setField (.ref z) 0 (rawInt ↑g5.objs.size) >>= fun _ => setField (.ref z) 1 (.bool false)) _ _ _
  have zlt : z < g5.objs.size := Heap.lt_size gz5
  refine wpAny_bind (wpAny_setField_rec (Heap.get?_push_of_some _ gz5) (by show 0 < 5; decide) fun g6 gz6 sb6 => ?_)
  refine wpAny_setField_rec gz6 (by show 1 < 5; decide) fun g7 gz7 sb7 => ?_
  refine wpAny_pure ⟨_, rfl, ?_⟩
  have sz : g5.objs.size = s.heap.objs.size := by rw [sb5.1, sb4.1, sb3.1, sb2.1, sb1.1]
  rw [← sz] at q
  have at7 : ∀ e : Addr, e ≠ z → g7.get? e = (g5.push { cls := Value.type "tuple", data := Data.seq (#[x, b].setIfInBounds 1 (.str ⟨#[c]⟩ s.toks)).toList.toArray }).get? e := fun e he => by
    rw [sb7.2 e he, sb6.2 e he]
  refine q g7 gz7 ?_ ?_ ?_ ?_ ?_ ?_
  · show g7.get? TO = _
    rw [at7 TO TOz]
    exact Heap.get?_push_of_some _ gt5
  · have y := ((it2.extBut sb3.extBut TOi1.symm).extBut sb4.extBut i12).extBut sb5.extBut TOi1.symm
    obtain ⟨o, h, c1, c2⟩ := y
    exact ⟨o, by rw [at7 i1 i1z]; exact Heap.get?_push_of_some _ h, c1, c2⟩
  · obtain ⟨o, h, c1, c2⟩ := it4.extBut sb5.extBut TOi2.symm
    exact ⟨o, by rw [at7 i2 i2z]; exact Heap.get?_push_of_some _ h, c1, c2⟩
  · show g7.get? g5.objs.size = _
    rw [at7 _ (Nat.ne_of_gt zlt)]
    exact Heap.get?_push_size _ rfl
  · rw [sb7.1, sb6.1]
    exact Heap.size_push ..
  · intro e o n1 n2 n3 n4 he
    rw [at7 e n1]
    refine Heap.get?_push_of_some _ ?_
    rw [sb5.2 e n2, sb4.2 e n4, sb3.2 e n2, sb2.2 e n3, sb1.2 e n1]
    exact he
theorem zipS_next_end {z TI TO i1 i2 l1 : Addr} {k1 : Nat} {xs : Array Value} {Q : PySem.Fin → Shared → Prop} (hh : A.handled = none)
    (i1z : i1 ≠ z) (l1z : l1 ≠ z)
    (hz : IsZip s.heap z TI TO .none) (hTI : IsPair s.heap TI (.ref i1) (.ref i2)) (h1 : s.heap.IsListIter i1 l1 k1) (hl : s.heap.IsList l1 xs) (hx : xs[k1]? = none)
    (q : ∀ (h' : Heap) (e : Addr), (∀ (c : Addr) (o : Obj), c ≠ z → c ≠ TO → c ≠ i1 → c ≠ i2 → s.heap.get? c = some o → h'.get? c = some o) → (∃ o, h'.get? e = some o ∧ o.cls = Value.type "StopIteration") → E (.ref e) { heap := h', gens := s.gens, drawn := s.drawn, toks := s.toks, os := s.os }) :
    wpAny (model prog w) A (Builtin.«zip.__next__» { pos := [.ref z] }) Q E s := by
  unfold Builtin.«zip.__next__»
  refine wpAny_bind (m := slotArgs "__next__" 0 _) (wpAny_of_eq (a := ((Value.ref z : Value), ([] : List Value))) (by first | rfl | (simp only [slotArgs]; rfl)) ?_)
  refine wpAny_bind (wpAny_field hz rfl rfl ?_)
  refine wpAny_bind (wpAny_field hz rfl rfl ?_)
  refine wpAny_bind (wpAny_seqItems hTI rfl ?_)
  refine wpAny_bind (m := Builtin.SmallTypes.ownedTupleIsFree (.ref z)) ?_
  unfold Builtin.SmallTypes.ownedTupleIsFree
  refine wpAny_bind (wpAny_field hz rfl rfl (wpAny_pure ?_))
  show wpAny _ _ (rule _ >>= _) _ _ _
  refine wpAny_bind (wpAny_rule ?_)
  refine wpAny_bind (wpAny_field hz rfl rfl ?_)
  refine wpAny_bind (wpAny_setField_rec hz (by show 0 < 5; decide) fun g1 gz1 sb1 => ?_)
  refine wpAny_bind ?_
  rw [show (#[Value.ref i1, Value.ref i2] : Array Value).toList.zipIdx = [(Value.ref i1, 0), (Value.ref i2, 1)] from rfl, List.forIn_cons]
  refine wpAny_bind (wpAny_bind (wpAny_onRaise ?_))
  show wpAny _ _ (Builtin.SmallTypes.nextOf (.ref i1) >>= fun v => pure (some v)) _ _ _
  have x1 := sb1.extBut
  have hl1 : g1.IsList l1 xs := hl.extBut x1 l1z
  refine wpAny_bind (wpAny_nextOf_list_end hh (h1.extBut x1 i1z) hl1 hx fun g2 e x2 so => ?_)
  refine wpAny_setField_rec (x2 z _ i1z.symm gz1) (by show 0 < 5; decide) fun g3 gz3 sb3 => ?_
  refine q g3 e (fun c o n1 n2 n3 n4 hc => ?_) ?_
  · rw [sb3.2 c n1]
    refine x2 c o n3 ?_
    rw [sb1.2 c n1]
    exact hc
  · obtain ⟨o, ho, hc⟩ := so
    by_cases ez : e = z
    · subst ez
      rw [x2 e _ i1z.symm gz1] at ho
      cases ho
      exact absurd (show Value.type "zip" = Value.type "StopIteration" from hc) (by decide)
    · exact ⟨o, by rw [sb3.2 e ez]; exact ho, hc⟩
/-- how an iterator of a text goes on -/
def NxS (prog : Program) (w : World) (ty : String) : Prop := ∀ (A : Around) (E : Value → Shared → Prop) (s : Shared) (it : Addr) (x : Str) (t : Tok) (i c : Nat) (Q : Value → Shared → Prop), s.heap.IsStrIter it ty x t i → x.cps[i]? = some c →
  (∀ h' : Heap, h'.IsStrIter it ty x t (i + 1) → Heap.SameBut it s.heap h' → Q (.str ⟨#[c]⟩ s.toks) { heap := h', gens := s.gens, drawn := s.drawn, toks := s.toks + 1, os := s.os }) → wpAny (model prog w) A (Builtin.SmallTypes.nextOf (.ref it)) Q E s
theorem nxs_ascii : NxS prog w "str_ascii_iterator" := fun _ _ _ _ _ _ _ _ _ h1 h2 h3 => wpAny_nextOf_ascii_item h1 h2 h3
theorem nxs_wide : NxS prog w "str_iterator" := fun _ _ _ _ _ _ _ _ _ h1 h2 h3 => wpAny_nextOf_wide_item h1 h2 h3
theorem pyNext_zipS_item {z TI TO i1 i2 l1 : Addr} {k1 : Nat} {xs : Array Value} {ty : String} {t : Str} {tk : Tok} {x a b : Value} {c : Nat} {Q : Option Value → Shared → Prop}
    (nx : NxS prog w ty) (D : ZipApart z TI TO i1 i2 l1 l1)
    (hz : IsZip s.heap z TI TO .none) (hTI : IsPair s.heap TI (.ref i1) (.ref i2)) (hTO : IsPair s.heap TO a b) (h1 : s.heap.IsListIter i1 l1 k1) (h2 : s.heap.IsStrIter i2 ty t tk k1) (hl : s.heap.IsList l1 xs) (hx : xs[k1]? = some x) (hc : t.cps[k1]? = some c)
    (q : ∀ h' : Heap, IsZip h' z TI TO (rawInt ↑s.heap.objs.size) → IsPair h' TO x (.str ⟨#[c]⟩ s.toks) → h'.IsListIter i1 l1 (k1 + 1) → h'.IsStrIter i2 ty t tk (k1 + 1) → IsPair h' s.heap.objs.size x (.str ⟨#[c]⟩ s.toks) → h'.objs.size = s.heap.objs.size + 1 →
      (∀ (e : Addr) (o : Obj), e ≠ z → e ≠ TO → e ≠ i1 → e ≠ i2 → s.heap.get? e = some o → h'.get? e = some o) → Q (some (.ref s.heap.objs.size)) { heap := h', gens := s.gens, drawn := s.drawn, toks := s.toks + 1, os := s.os }) :
    wpAny (model prog w) A (pyNext (.ref z)) Q E s := by
  have hT : s.TypeIs (.ref z) "zip" := ⟨_, hz, rfl⟩
  unfold pyNext
  exact wpAny_bind (wpAny_attempt (wpAny_callSpecial?_slot hT F.slot_zip_next (wpAny_call_entry F.slot_zip_next hT F.entry_zip_next
    (zipS_next_item (fun s Q E h k => nx _ E s i2 t tk k1 c Q h hc k) D.TIz D.TOz D.i1z D.i2z D.TITO D.TOi1 D.TOi2 D.i12 D.l1z hz hTI hTO h1 h2 hl hx fun h' a1 a2 a3 a4 a5 a6 a7 => wpAny_pure (q h' a1 a2 a3 a4 a5 a6 a7)) (F.args_zip_next_1 (.ref z)))))
theorem pyNext_zipS_end {z TI TO i1 i2 l1 : Addr} {k1 : Nat} {xs : Array Value} {Q : Option Value → Shared → Prop} (hh : A.handled = none) (D : ZipApart z TI TO i1 i2 l1 l1)
    (hz : IsZip s.heap z TI TO .none) (hTI : IsPair s.heap TI (.ref i1) (.ref i2)) (h1 : s.heap.IsListIter i1 l1 k1) (hl : s.heap.IsList l1 xs) (hx : xs[k1]? = none)
    (q : ∀ h' : Heap, (∀ (c : Addr) (o : Obj), c ≠ z → c ≠ TO → c ≠ i1 → c ≠ i2 → s.heap.get? c = some o → h'.get? c = some o) → Q none { heap := h', gens := s.gens, drawn := s.drawn, toks := s.toks, os := s.os }) :
    wpAny (model prog w) A (pyNext (.ref z)) Q E s := by
  have hT : s.TypeIs (.ref z) "zip" := ⟨_, hz, rfl⟩
  unfold pyNext
  exact wpAny_bind (wpAny_attempt (wpAny_callSpecial?_slot hT F.slot_zip_next (wpAny_call_entry F.slot_zip_next hT F.entry_zip_next
    (zipS_next_end hh D.i1z D.l1z hz hTI h1 hl hx fun h' e hk he => by
      obtain ⟨o, ho, hc⟩ := he
      exact wpAny_bind (wpAny_isInstance ⟨o, ho, hc⟩ isSubtype_stop (wpAny_pure (q h' hk)))) (F.args_zip_next_1 (.ref z)))))
def zsH1 (h : Heap) (l1 : Addr) : Heap := h.push { cls := .type "list_iterator", data := .fields #[.ref l1, .int 0 0] }
def zsH2 (h : Heap) (l1 : Addr) (x : Str) (t : Tok) : Heap := (zsH1 h l1).push { cls := .type "str_ascii_iterator", data := .fields #[.str x t, .int 0 0] }
def zsH3 (h : Heap) (l1 : Addr) (x : Str) (t : Tok) : Heap := (zsH2 h l1 x t).push { cls := .type "tuple", data := .seq #[.ref h.objs.size, .ref (zsH1 h l1).objs.size] }
def zsH4 (h : Heap) (l1 : Addr) (x : Str) (t : Tok) : Heap := (zsH3 h l1 x t).push { cls := .type "tuple", data := .seq #[.none, .none] }
def zsH5 (h : Heap) (l1 : Addr) (x : Str) (t : Tok) : Heap := (zsH4 h l1 x t).push { cls := .type "zip", data := .fields #[.none, .bool false, .bool false, .ref (zsH2 h l1 x t).objs.size, .ref (zsH3 h l1 x t).objs.size] }
end
theorem meets_zipS_new (l1 : Addr) (x : Str) (t : Tok) (xs : Array Value) (ha : (x.cps.all fun c => decide (c < 128)) = true) : Meets (Builtin.«zip.__new__» { pos := [.type "zip", .ref l1, .str x t] }) fun _ R s =>
    s.heap.IsList l1 xs ∧ R (Except.ok (Flow.ret (.ref (zsH4 s.heap l1 x t).objs.size))) { heap := zsH5 s.heap l1 x t, gens := s.gens, drawn := s.drawn, toks := s.toks, os := s.os } :=
  Meets.of_wp fun prog w A R s h => by
    obtain ⟨hp, g, d, tk, os⟩ := s
    obtain ⟨hl1, hR⟩ := h
    unfold Builtin.«zip.__new__»
    refine wpAny_bind ?_
    unfold Builtin.SmallTypes.newClass
    refine wpAny_bind (m := isType _) (wpAny_pure ?_)
    refine wpAny_ite_false rfl ?_
    refine wpAny_bind (wpAny_of_eq sub_zip (wpAny_ite_false rfl (wpAny_pure ?_)))
    refine wpAny_ite_false rfl ?_
    refine wpAny_bind (m := Builtin.SmallTypes.iterAll _) ?_
    unfold Builtin.SmallTypes.iterAll
    refine wpAny_bind ?_
    rw [List.forIn_cons]
    refine wpAny_bind (wpAny_bind (wpAny_holding (wpAny_pyIter_list hl1 (wpAny_pure ?_))))
    show wpAny _ _ (forIn [Value.str x t] _ _) _ _ _
    rw [List.forIn_cons]
    refine wpAny_bind (wpAny_bind (wpAny_holding (wpAny_pyIter_ascii ha (wpAny_pure ?_))))
    show wpAny _ _ (forIn [] _ _) _ _ _
    rw [List.forIn_nil]
    refine wpAny_pure (wpAny_pure ?_)
    refine wpAny_bind (wpAny_newTuple ?_ (by show 2 ≤ sizeLine; decide))
    refine wpAny_bind (wpAny_newTuple ?_ (by show 2 ≤ sizeLine; decide))
    refine wpAny_bind ?_
    unfold Builtin.SmallTypes.newRecord
    show wpAny _ _ (newObj _ _) _ _ _
    unfold newObj
    refine wpAny_bind (wpAny_alloc' ?_)
    refine wpAny_pure ?_
    exact wpAny_pure ⟨_, rfl, hR⟩
theorem call_zipS {prog : Program} {w : World} {A : Around} {E : Value → Shared → Prop} {s : Shared} {l1 : Addr} {xs : Array Value} {x : Str} {t : Tok} {Q : Value → Shared → Prop} (ha : (x.cps.all fun c => decide (c < 128)) = true) (hl1 : s.heap.IsList l1 xs)
    (h : ∀ h' : Heap, IsZip h' (s.heap.objs.size + 4) (s.heap.objs.size + 2) (s.heap.objs.size + 3) .none → IsPair h' (s.heap.objs.size + 2) (.ref s.heap.objs.size) (.ref (s.heap.objs.size + 1)) → IsPair h' (s.heap.objs.size + 3) .none .none → h'.IsListIter s.heap.objs.size l1 0 →
      h'.IsStrIter (s.heap.objs.size + 1) "str_ascii_iterator" x t 0 → h'.objs.size = s.heap.objs.size + 5 → (∀ (c : Addr) (o : Obj), s.heap.get? c = some o → h'.get? c = some o) → Q (.ref (s.heap.objs.size + 4)) { heap := h', gens := s.gens, drawn := s.drawn, toks := s.toks, os := s.os }) :
    wpAny (model prog w) A (call (.type "zip") [.ref l1, .str x t]) Q E s := by
  have z1 : (zsH1 s.heap l1).objs.size = s.heap.objs.size + 1 := Heap.size_push ..
  have z2 : (zsH2 s.heap l1 x t).objs.size = s.heap.objs.size + 2 := (Heap.size_push ..).trans (by rw [z1])
  have z3 : (zsH3 s.heap l1 x t).objs.size = s.heap.objs.size + 3 := (Heap.size_push ..).trans (by rw [z2])
  have z4 : (zsH4 s.heap l1 x t).objs.size = s.heap.objs.size + 4 := (Heap.size_push ..).trans (by rw [z3])
  have z5 : (zsH5 s.heap l1 x t).objs.size = s.heap.objs.size + 5 := (Heap.size_push ..).trans (by rw [z4])
  have g5 : (zsH5 s.heap l1 x t).get? (zsH4 s.heap l1 x t).objs.size = _ := Heap.get?_push_size _ rfl
  have g4 : (zsH5 s.heap l1 x t).get? (zsH3 s.heap l1 x t).objs.size = _ := Heap.get?_push_of_some _ (Heap.get?_push_size _ rfl)
  have g3 : (zsH5 s.heap l1 x t).get? (zsH2 s.heap l1 x t).objs.size = _ := Heap.get?_push_of_some _ (Heap.get?_push_of_some _ (Heap.get?_push_size _ rfl))
  have g2 : (zsH5 s.heap l1 x t).get? (zsH1 s.heap l1).objs.size = _ := Heap.get?_push_of_some _ (Heap.get?_push_of_some _ (Heap.get?_push_of_some _ (Heap.get?_push_size _ rfl)))
  have g1 : (zsH5 s.heap l1 x t).get? s.heap.objs.size = _ := Heap.get?_push_of_some _ (Heap.get?_push_of_some _ (Heap.get?_push_of_some _ (Heap.get?_push_of_some _ (Heap.get?_push_size _ rfl))))
  have gk : ∀ (c : Addr) (o : Obj), s.heap.get? c = some o → (zsH5 s.heap l1 x t).get? c = some o := fun c o e => Heap.get?_push_of_some _ (Heap.get?_push_of_some _ (Heap.get?_push_of_some _ (Heap.get?_push_of_some _ (Heap.get?_push_of_some _ e))))
  rw [z1] at g2 g3
  rw [z2] at g3 g5
  rw [z3] at g4 g5
  rw [z4] at g5
  refine callType_new F.called_zip (by decide) (F.typeCall_zip_2 (.ref l1) (.str x t)) (F.newCall_zip_2 (.ref l1) (.str x t)) (fun obj => F.args_object_init_3 obj (.ref l1) (.str x t)) F.entry_zip_new (meets_zipS_new l1 x t xs ha) ⟨hl1, ?_⟩
  show Shared.TypeIs _ (.ref (zsH4 s.heap l1 x t).objs.size) "zip" ∧ Q (.ref (zsH4 s.heap l1 x t).objs.size) _
  rw [z4]
  exact ⟨⟨_, g5, rfl⟩, h _ g5 g3 g4 ⟨_, g1, rfl, rfl⟩ ⟨_, g2, rfl, rfl⟩ z5 gk⟩
/-! ### for one, sign in zip(a list, a text) -/
def ItzS (K : PySem.W.Frag) (a : Addr) (z : Str) : It where
  go i H := ∃ xs x c, SqL K H a xs ∧ xs[i]? = some x ∧ z.cps[i]? = some c
  yld i H v H' := ∃ T x c, v = V.ref T ∧ H T = none ∧ H' = upd H T (.tup [x, .str ⟨#[c]⟩]) ∧ (∀ xs, SqL K H a xs → xs[i]? = some x) ∧ z.cps[i]? = some c
  stop i H := ∃ xs, SqL K H a xs ∧ xs.length ≤ i
theorem walk_zipS {K : PySem.W.Frag} {a : Addr} {xs : List V} {z : Str} (le : xs.length = z.cps.size) :
    Walk (ItzS K a z) xs.length (fun H => SqL K H a xs) (fun i H v H' => ∃ T x c, v = V.ref T ∧ H T = none ∧ H' = upd H T (.tup [x, .str ⟨#[c]⟩]) ∧ xs[i]? = some x ∧ z.cps[i]? = some c) where
  goes i H hi h := ⟨xs, _, _, h, List.getElem?_eq_getElem hi, Array.getElem?_eq_getElem (by omega)⟩
  stops H h := ⟨xs, h, Nat.le_refl _⟩
  yields i H v H' hi h y := by
    obtain ⟨T, x, c, e1, e2, e3, e4, e5⟩ := y
    exact ⟨T, x, c, e1, e2, e3, e4 xs h, e5⟩
theorem turn_zipS {P : Program} {w : World} {K : PySem.W.Frag} {elts : List Expr} {kk : Nat} {tpos : Pos} {a z TI TO i1 i2 : Addr} {x : Str} {t : Tok} (D : ZipApart z TI TO i1 i2 a a) :
    Turn P w K (Expr.Tuple elts kk tpos) (ItzS K a x) [z, TI, TO, i1, i2] z fun i h => IsZip h z TI TO .none ∧ IsPair h TI (.ref i1) (.ref i2) ∧ (∃ x y, IsPair h TO x y) ∧ h.IsListIter i1 a i ∧ h.IsStrIter i2 "str_ascii_iterator" x t i where
  mem := by simp
  obj i h st c hc := by
    obtain ⟨hz, hTI, ⟨u, v, hTO⟩, ⟨o1, e1, _, d1⟩, ⟨o2, e2, _, d2⟩⟩ := st
    simp only [List.mem_cons, List.not_mem_nil, or_false] at hc
    rcases hc with rfl | rfl | rfl | rfl | rfl
    · exact ⟨_, hz, fun v q => nomatch q⟩
    · exact ⟨_, hTI, fun v q => nomatch q⟩
    · exact ⟨_, hTO, fun v q => nomatch q⟩
    · exact ⟨_, e1, fun v q => by rw [d1] at q; cases q⟩
    · exact ⟨_, e2, fun v q => by rw [d2] at q; cases q⟩
  keep i h h' st k := by
    obtain ⟨hz, hTI, ⟨u, v, hTO⟩, ⟨o1, e1, c1, d1⟩, ⟨o2, e2, c2, d2⟩⟩ := st
    exact ⟨k z (by simp) _ hz, k TI (by simp) _ hTI, ⟨u, v, k TO (by simp) _ hTO⟩, ⟨o1, k i1 (by simp) _ e1, c1, d1⟩, ⟨o2, k i2 (by simp) _ e2, c2, d2⟩⟩
  item X hP hw hK hc i pins s σ H E I hf st hg := by
    subst hP
    subst hw
    subst hK
    obtain ⟨hz, hTI, ⟨x0, y0, hTO⟩, h1, h2⟩ := st
    obtain ⟨xs, v, c, hq, hx, hcx⟩ := hg
    obtain ⟨its, rv, p, _⟩ := I.list hq
    obtain ⟨u, hu, ru⟩ := rv.get hx
    have hzl := Heap.lt_size hz
    refine pyNext_zipS_item nxs_ascii D hz hTI hTO h1 h2 p.isList (by rw [List.getElem?_toArray]; exact hu) hcx fun h' z' TO' h1' h2' hT hsz hk => ?_
    refine ⟨.ref s.heap.objs.size, rfl, wpAny_letOwnedTupleGo_zip z' fun h'' z'' sb => ?_⟩
    have hT2 : h''.get? s.heap.objs.size = _ := (sb.2 s.heap.objs.size (Nat.ne_of_gt hzl)).trans hT
    have new : ObjOk X.prog X.w (upd H s.heap.objs.size (.tup [v, .str ⟨#[c]⟩])) h'' s.heap.objs.size (.tup [v, .str ⟨#[c]⟩]) := ⟨by show 2 ≤ sizeLine; decide, [u, .str ⟨#[c]⟩ s.toks], .cons ru (.cons ⟨_, rfl⟩ .nil), ⟨_, hT2, rfl, 0, rfl⟩⟩
    have I1 := I.turnedNew (h' := h'') (t' := s.toks + 1) (ch := [z, TI, TO, i1, i2]) (T := s.heap.objs.size) (ob := .tup [v, .str ⟨#[c]⟩]) (fun e o hb q => by
      simp only [List.mem_cons, List.not_mem_nil, or_false, not_or] at hb
      rw [sb.2 e hb.1]
      exact hk e o hb.1 hb.2.2.1 hb.2.2.2.1 hb.2.2.2.2 q) hf (Nat.le_refl _) new
    have fr : H s.heap.objs.size = none := I.hok.fresh (Nat.le_refl _)
    have lt : ∀ b : Addr, b ∈ [z, TI, TO, i1, i2] → b ≠ s.heap.objs.size := fun b hb => by
      simp only [List.mem_cons, List.not_mem_nil, or_false] at hb
      obtain ⟨o1, e1, _⟩ := h1
      obtain ⟨o2, e2, _⟩ := h2
      rcases hb with rfl | rfl | rfl | rfl | rfl
      · exact Nat.ne_of_lt hzl
      · exact Nat.ne_of_lt (Heap.lt_size hTI)
      · exact Nat.ne_of_lt (Heap.lt_size hTO)
      · exact Nat.ne_of_lt (Heap.lt_size e1)
      · exact Nat.ne_of_lt (Heap.lt_size e2)
    refine ⟨.ref _, _, I1, rfl, ⟨_, v, c, rfl, fr, rfl, fun xs2 q2 => by rw [I.list_inj q2 hq]; exact hx, hcx⟩, ⟨z'', (sb.2 TI D.TIz).trans (hk TI _ D.TIz D.TITO D.TIi1 D.TIi2 hTI), ⟨_, _, (sb.2 TO D.TOz).trans TO'⟩, h1'.extBut sb.extBut D.i1z, h2'.extBut sb.extBut D.i2z⟩, fun b hb => ?_⟩
    rw [upd_ne (lt b hb)]
    exact (hf b hb).1
  done X hP hw hK hc i pins s σ H E I hf st hg := by
    subst hP
    subst hw
    subst hK
    obtain ⟨hz, hTI, _, h1, h2⟩ := st
    obtain ⟨xs, hq, hle⟩ := hg
    obtain ⟨its, rv, p, _⟩ := I.list hq
    have hl := rv.length
    refine pyNext_zipS_end (I.ok.hd hc) D hz hTI h1 p.isList (by rw [List.getElem?_toArray]; exact List.getElem?_eq_none (by omega)) fun h' hk => ⟨rfl, I.turnedL (ch := [z, TI, TO, i1, i2]) (fun e o hb q => ?_) hf⟩
    simp only [List.mem_cons, List.not_mem_nil, or_false, not_or] at hb
    exact hk e o hb.1 hb.2.2.1 hb.2.2.2.1 hb.2.2.2.2 q
  self A i s Q E st h := wpAny_pyIter_zip st.1 h
def iZipS (K : PySem.W.Frag) (ta : TA) : TI := fun σ H R => ta σ H fun vs H1 => ∃ a xs z, vs = [V.ref a, .str z] ∧ SqL K H1 a xs ∧ (z.cps.all fun c => decide (c < 128)) = true ∧ R (ItzS K a z) H1
theorem pi_zipS {X : Cx} {e e2 : Expr} {ta : TA} {p pos tpos : Pos} {elts : List Expr} {kk : Nat} (hg : Gl X "zip") (hm : X.mg "zip" = none) (ha : PA X [e, e2] ta)
    (hs : starEach [e, e2] X.env = (false, eval e X.env) :: starEach [e2] X.env := by rfl) (hpl : (backTo pos (starEach [e2] X.env)).any (·.1) = false := by rfl) :
    PI X (.Tuple elts kk tpos) (.Call (.Name "zip" p) [e, e2] [] pos) (iZipS X.K ta) := by
  refine ⟨fun pins s σ H R I h => ?_⟩
  refine Call_ (ld_blt I hg hm boot_zip (PyProof.Rows.callWith_type1 (thn (ha.run pos pins s σ H _ I h) fun us s1 ⟨vs, H1, I1, r1, q1⟩ => ?_) hs hpl))
  obtain ⟨a, xs, z, ev, hq, hz, q⟩ := q1
  subst ev
  cases r1 with
  | cons r rr =>
    cases rr with
    | cons r' rr =>
      cases rr
      obtain ⟨t', rfl⟩ := r'
      cases (show _ = Value.ref a from r)
      obtain ⟨its, rv, pl, _⟩ := I1.list hq
      refine call_zipS hz pl.isList fun h' a1 a2 a3 a4 a5 a6 a7 => wpAny_pyIter_zip a1 ?_
      have fp : ∀ b : Addr, b ∈ [s1.heap.objs.size + 4, s1.heap.objs.size + 2, s1.heap.objs.size + 3, s1.heap.objs.size, s1.heap.objs.size + 1] → s1.heap.objs.size ≤ b := fun b hb => by
        simp only [List.mem_cons, List.not_mem_nil, or_false] at hb
        rcases hb with rfl | rfl | rfl | rfl | rfl <;> omega
      exact ⟨_, _, _, ItzS X.K a z, H1, rfl, I1.kept (t' := s1.toks) a7, turn_zipS (W.ktu_apart _ a a pl.lt pl.lt), ⟨a1, a2, ⟨_, _, a3⟩, a4, a5⟩, fun b hb => I1.fpOk (fp b hb) (I1.hok.fresh (fp b hb)), q⟩
end Lp
set_option Elab.async false
set_option linter.all false
set_option maxRecDepth 100000
namespace Lp
open PySem PySem.Spec PyProof.Rows L2
/-! ### set(a list of ints) -/
theorem call_set_listI {P : Program} {w : World} {A : Around} {E : Value → Shared → Prop} {s : Shared} {l : Addr} {items : Array Value} (ns : List Int) {Q : Value → Shared → Prop} (hh : A.handled = none) (hl : s.heap.IsList l items) (hit : IntsAre items.toList ns) (hb : ns.length + 1 < scanBound)
    (h : ∀ (h' : Heap) (tk c : Nat), SetR w h' s.heap.objs.size (fun j => decide (j ∈ ns)) c → c ≤ ns.length → (∀ (b : Addr) (o : Obj), s.heap.get? b = some o → h'.get? b = some o) → Q (.ref s.heap.objs.size) { heap := h', gens := s.gens, drawn := s.drawn, toks := tk, os := s.os }) :
    wpAny (model P w) A (call (.type "set") [.ref l]) Q E s := by
  have hisz : items.size = ns.length := by
    have q := hit.length
    rwa [Array.length_toList] at q
  obtain ⟨c, tl, hmro⟩ := F.called_set.mro
  have hmade := F.called_set.made
  have hsub := F.called_set.sub
  refine wpAny_call (codeAny_of_tree ?_)
  refine wpAny_pure ⟨Code.quiet_builtin _ (by decide +kernel), codeAny_builtin F.entry_type_call ?_⟩
  rw [Around.under_plain (weight_type_call_type "set" [.ref l] []) rfl]
  have h1 := F.called_set.notType
  have h2 := F.called_set.canCreate
  have hct := F.typeCall_set_1 (.ref l)
  unfold Builtin.«type.__call__»
  refine wpAny_ite_false rfl (wpAny_ite_false rfl ?_)
  refine wpAny_bind (wpAny_of_eq hct ?_)
  refine wpAny_bind (wpAny_of_eq hmro (wpAny_ite_false rfl ?_))
  refine wpAny_bind (wpAny_of_eq hmade ?_)
  refine wpAny_bind (wpAny_pure (wpAny_bind (wpAny_holding (wpAny_call (codeAny_mono (code_set_led1 (.ref l) (Q₁ := fun obj s₁ => obj = .ref s.heap.objs.size ∧ s₁ = { heap := s.heap.push { cls := .type "set", data := .set #[] 0 (SetTable.fresh 0 0 !w.params.followText "set-order") }, gens := s.gens, drawn := s.drawn, toks := s.toks, os := s.os }) (E := E) ⟨rfl, rfl⟩) fun r s₁ hr => ?_)))))
  cases r with
  | error e => exact hr
  | ok fl =>
    cases fl with
    | next => exact hr.elim
    | brk => exact hr.elim
    | cont => exact hr.elim
    | ret v =>
      obtain ⟨rfl, rfl⟩ := hr
      have hS : (s.heap.push { cls := .type "set", data := .set #[] 0 (SetTable.fresh 0 0 !w.params.followText "set-order") }).get? s.heap.objs.size = _ := Heap.get?_push_size s.heap rfl
      have hT : Shared.TypeIs { heap := s.heap.push { cls := .type "set", data := .set #[] 0 (SetTable.fresh 0 0 !w.params.followText "set-order") }, gens := s.gens, drawn := s.drawn, toks := s.toks, os := s.os } (.ref s.heap.objs.size) "set" := ⟨_, hS, rfl⟩
      have hli := F.called_set.init.lookup
      have hbi := F.called_set.init.bind (.ref s.heap.objs.size)
      refine wpAny_bind (wpAny_isInstance hT hsub (wpAny_ite_false rfl (wpAny_bind (wpAny_holding ?_))))
      unfold callSpecial?
      refine wpAny_bind (wpAny_specialOf hT hli (wpAny_holding (wpAny_bind (wpAny_of_eq hbi (wpAny_bind (wpAny_call (codeAny_mono (R := wants (fun r s₂ => r = Value.none ∧ ∃ h' tk c, s₂ = { heap := h', gens := s.gens, drawn := s.drawn, toks := tk, os := s.os } ∧ SetR w h' s.heap.objs.size (fun j => decide (j ∈ ns)) c ∧ c ≤ ns.length ∧ ∀ (b : Addr) (o : Obj), s.heap.get? b = some o → h'.get? b = some o) E) (codeAny_call_builtin F.called_set.init.plain F.entry_set_init (check_set_init_1 hT ?_)) fun r s₂ hr => ?_)))))))
      · obtain ⟨ol, hol, hcl, nl, hdl⟩ := hl
        obtain ⟨ocls, odict, odata, oslots⟩ := ol
        cases (show ocls = Value.type "list" from hcl)
        cases (show odata = Data.seq items nl from hdl)
        have hol' := Heap.get?_push_of_some { cls := .type "set", data := .set #[] 0 (SetTable.fresh 0 0 !w.params.followText "set-order") } hol
        have hsls := F.sub_list_set
        have hslf := F.sub_list_frozenset
        have hl1 : (s.heap.push { cls := .type "set", data := .set #[] 0 (SetTable.fresh 0 0 !w.params.followText "set-order") }).IsList l items := ⟨_, hol', rfl, nl, rfl⟩
        unfold Builtin.«set.__init__»
        refine wpAny_bind (wpAny_ite_true rfl (wpAny_pure ?_))
        refine wpAny_bind (wpAny_bind (wpAny_bind (wpAny_typeOf hT (wpAny_ite_false rfl (wpAny_pure (wpAny_pure ?_))))))
        refine wpAny_bind ?_
        unfold checkCount
        refine wpAny_ite_false rfl (wpAny_ite_false rfl (wpAny_ite_false rfl (wpAny_pure ?_)))
        refine wpAny_bind ?_
        unfold Builtin.Frozenset.addrOf
        refine wpAny_pure ?_
        refine wpAny_bind ?_
        unfold setUsed
        refine wpAny_bind ?_
        unfold setState
        refine wpAny_bind (wpAny_load' hS (wpAny_ite_false rfl (wpAny_pure (wpAny_pure (wpAny_ite_false rfl ?_)))))
        refine wpAny_bind ?_
        unfold Builtin.Frozenset.updateFrom
        refine wpAny_bind ?_
        unfold Builtin.Frozenset.isAnySet
        refine wpAny_bind (m := isInstance (.ref l) (.type "set")) (wpAny_isInstance hl1.typeIs hsls ?_)
        show wpAny _ _ (isInstance (.ref l) (.type "frozenset")) _ _ _
        refine wpAny_isInstance hl1.typeIs hslf ?_
        refine wpAny_ite_false rfl ?_
        refine wpAny_bind (wpAny_typeOf hl1.typeIs (wpAny_ite_false rfl ?_))
        refine wpAny_bind (wpAny_pyIter_list hl1 ?_)
        refine wpAny_bind (wpAny_runValue ?_)
        have hlS := Heap.lt_size hol
        have hneI : l ≠ (s.heap.push { cls := .type "set", data := .set #[] 0 (SetTable.fresh 0 0 !w.params.followText "set-order") }).objs.size := by
          rw [Heap.size_push]
          exact Nat.ne_of_lt (Nat.lt_succ_of_lt hlS)
        have hSf : ¬ s.heap.objs.size ∈ [(s.heap.push { cls := .type "set", data := .set #[] 0 (SetTable.fresh 0 0 !w.params.followText "set-order") }).objs.size, l] := by
          rw [Heap.size_push]
          intro hm
          rcases List.mem_cons.mp hm with e | e
          · exact Nat.ne_of_lt (Nat.lt_succ_self _) e
          · exact Nat.ne_of_gt hlS (List.mem_singleton.mp e)
        have hval : ∀ (i : Nat) (v : Value), items[i]? = some v → ∃ k t, ns[i]? = some k ∧ v = Value.int k t := fun i v hv => by
          have hi : i < ns.length := by
            rw [← hisz]
            exact (Array.getElem?_eq_some_iff.mp hv).1
          obtain ⟨t, e⟩ := hit.int_at i v (by rw [Array.getElem?_toList]; exact hv)
          exact ⟨ns[i], t, List.getElem?_eq_getElem hi, by rw [e, List.getD_eq_getElem?_getD, List.getElem?_eq_getElem hi]; rfl⟩
        refine set_update_ints (Walks.toS (Walks.list (A := A.in1.in1.in1) (show A.in1.in1.in1.handled = none from hh) _ l hneI items)) s.heap.objs.size hSf ns hisz hb hval (items.size - 0) 0 _ rfl (Nat.zero_le _) ⟨⟨_, Heap.get?_push_size _ rfl, rfl, rfl⟩, hl1.push _⟩ ⟨0, Nat.le_refl 0, setR_new_at (Heap.get?_push_of_some _ hS)⟩ fun s' c' hm hc' hS' => ?_
        obtain ⟨h', g2, d', tk', os'⟩ := s'
        have eg := hm.gens
        have ed := hm.drawn
        have eo := hm.os
        cases eg
        cases ed
        cases eo
        have hk : ∀ (b : Addr) (o : Obj), s.heap.get? b = some o → h'.get? b = some o := fun b o e => by
          have hlt := Heap.lt_size e
          refine hm.heap b o ?_ (Heap.get?_push_of_some _ (Heap.get?_push_of_some _ e))
          intro hb'
          rcases List.mem_cons.mp hb' with e1 | e1
          · exact Nat.ne_of_lt hlt e1
          · rw [List.mem_singleton] at e1
            have e2 : b = s.heap.objs.size + 1 := e1.trans (Heap.size_push ..)
            rw [e2] at hlt
            exact absurd hlt (Nat.not_lt_of_le (Nat.le_succ _))
        exact wpAny_pure (wpAny_pure ⟨rfl, h', tk', c', rfl, hS', by rw [← hisz]; exact hc', hk⟩)
      · cases r with
        | error e => exact hr
        | ok fl =>
          cases fl with
          | next => exact hr.elim
          | brk => exact hr.elim
          | cont => exact hr.elim
          | ret v =>
            obtain ⟨rfl, h', tk, c', rfl, hs, hc, hk⟩ := hr
            exact wpAny_pure (wpAny_ite_false rfl (wpAny_pure (h h' tk c' hs hc hk)))
def rSetL (K : PySem.W.Frag) (w : World) : List V → Hp → VK → Prop := fun xs H Q => ∃ (a : Addr) (ns : List Int), xs = [V.ref a] ∧ SqL K H a (ns.map V.int) ∧ ns.length ≤ 60 ∧ ∀ (p : Addr) (c : Nat), H p = none → c ≤ ns.length → Q (.ref p) (upd H p (SetO w p (fun j => decide (j ∈ ns)) c))
theorem cr_setL {X : Cx} (hc : X.calm = true) : CallR X (.type "set") (rSetL X.K X.w) := by
  intro pins s σ H xs us Q I r h
  obtain ⟨a, ns, rfl, hq, hl, q⟩ := h
  cases r with
  | cons r rr =>
    cases rr
    cases (show _ = Value.ref a from r)
    obtain ⟨its, rv, p, _⟩ := I.list hq
    refine call_set_listI ns (I.ok.hd hc) p.isList (RZ.intsAre_vals rv) (Nat.lt_of_le_of_lt (Nat.succ_le_succ hl) (by decide)) fun h' tk c hs hcn hk => ?_
    refine ⟨.ref _, upd H _ (SetO X.w s.heap.objs.size (fun j => decide (j ∈ ns)) c), I.laid hk (Nat.le_refl _) ⟨hs, ?_, fun h1 h2 x k => ?_⟩, rfl, q _ c (I.hok.fresh (Nat.le_refl _)) hcn⟩
    · obtain ⟨o, _, _, _, e, _⟩ := hs
      exact ⟨o, e⟩
    · obtain ⟨o, es, ep, t, e, r⟩ := x
      exact ⟨o, es, ep, t, k o e, r⟩
theorem op_ltLL {X : Cx} (hu : X.A.units + 64 < cLine) : OpR X (compareOp .Lt) (fun x y H Q => ∃ (a b : Addr) (xs ys : List Int), x = V.ref a ∧ y = V.ref b ∧ SqL X.K H a (xs.map V.int) ∧ SqL X.K H b (ys.map V.int) ∧ Q (.bl (HT.lexLt xs ys)) H) := by
  intro pins s σ H x y v u Q I r1 r2 h
  obtain ⟨a, b, xs, ys, rfl, rfl, h1, h2, q⟩ := h
  cases (show v = Value.ref a from r1)
  cases (show u = Value.ref b from r2)
  obtain ⟨its, rv, p, _⟩ := I.list h1
  obtain ⟨its2, rv2, p2, _⟩ := I.list h2
  have ia := RZ.intsAre_vals rv
  have ib := RZ.intsAre_vals rv2
  have l1 := ia.length
  have l2 := ib.length
  show wpAny _ _ (richCompare .Lt _ _) _ _ s
  refine SeqAt.RcLt.lists (e := fun j => xs.getD j 0 == ys.getD j 0) (r := fun j => decide (xs.getD j 0 < ys.getD j 0)) p.isList p2.isList (by omega) (fun j h1 h2 => ?_) (fun j h1 h2 _ => ?_) _ _ _ _ ?_
  · obtain ⟨t, e⟩ := ints_at ia j (by simpa using h1)
    obtain ⟨t', e'⟩ := ints_at ib j (by simpa using h2)
    rw [List.getElem_toArray, List.getElem_toArray, e, e']
    exact SeqAt.EqAt.int_int _ t _ t'
  · obtain ⟨t, e⟩ := ints_at ia j (by simpa using h1)
    obtain ⟨t', e'⟩ := ints_at ib j (by simpa using h2)
    rw [List.getElem_toArray, List.getElem_toArray, e, e']
    exact rcLt_int _ _ _ t _ t'
  · rw [List.size_toArray, List.size_toArray, l1, l2, first_lex]
    exact ⟨.bl _, H, I, rfl, q⟩
end Lp
set_option Elab.async false
set_option linter.all false
set_option maxRecDepth 100000
namespace Lp
open PySem PySem.Spec PyProof.Rows L2
/-! ### a space, so many times -/
def spc (n : Nat) : Str := ⟨(List.replicate n 32).toArray⟩
theorem spc1 : spc 1 = (" " : Str) := by decide +kernel
theorem spc_len (n : Nat) : (spc n).length = n := by
  show ((List.replicate n 32).toArray).size = n
  rw [List.size_toArray, List.length_replicate]
section
variable {X : Cx}
theorem op_repB : OpR X (binaryOp .Mult) (fun x y H Q => ∃ n : Nat, x = .str (" " : Str) ∧ y = .int (n : Int) ∧ n ≤ 1000 ∧ Q (.str (spc n)) H) := by
  intro pins s σ H x y v u Q I r1 r2 h
  obtain ⟨n, e1, e2, hn, q⟩ := h
  subst e1; subst e2
  obtain ⟨t, rfl⟩ := r1
  obtain ⟨t', rfl⟩ := r2
  have hz : (" " : Str).length = 1 := by decide +kernel
  have hc : (" " : Str).cps = [32].toArray := by decide +kernel
  refine PySem.P.mul_str ?_ (fun c _ => ?_) (fun _ _ => ?_) ?_
  · rw [decide_eq_false (show ¬ (n : Int) < -(2 ^ 63 : Int) by omega), decide_eq_false (show ¬ (n : Int) ≥ 2 ^ 63 by omega)]
    rfl
  · rw [hz]
    have := (Int.le_ediv_iff_mul_le (show (0 : Int) < n by omega)).mpr (show ((1 : Nat) : Int) * (n : Int) ≤ 2 ^ 63 - 1 by omega)
    omega
  · rw [hz]
    unfold Builtin.Str.tooLong
    refine decide_eq_false ?_
    have e : (n : Int).toNat = n := rfl
    have z := zs (show n ≤ 100000 by omega)
    omega
  · by_cases h0 : n = 0
    · subst h0
      rw [if_pos (by decide)]
      exact ⟨by decide, .str _, H, I.tok _, ⟨_, rfl⟩, q⟩
    · rw [if_neg (show ¬ (n : Int) < 1 by omega), hz]
      by_cases h1 : n = 1
      · subst h1
        rw [if_pos (by rfl)]
        rw [spc1] at q
        exact ⟨.str _, H, I, ⟨_, rfl⟩, q⟩
      · have hb : ((n : Int) == 1 || (1 : Nat) == 0) = false := by
          rw [beq_eq_false_iff_ne.mpr (show (n : Int) ≠ 1 by omega)]
          rfl
        rw [hb, if_neg Bool.false_ne_true]
        have e : (n : Int).toNat = n := rfl
        have f0 : List.foldl (fun x1 x2 => x1 ++ x2) #[] (List.replicate n [32].toArray) = (List.replicate n 32).toArray := by
          have := foldl_repN [32] n []
          rw [List.nil_append] at this
          rw [this]
          congr 1
          clear this hb h1 h0 q
          induction n with
          | zero => rfl
          | succ m ih => rw [List.replicate_succ, List.flatten_cons, ih (by omega) rfl, List.replicate_succ]; rfl
        rw [e, hc, f0]
        exact ⟨by rw [show (⟨(List.replicate n 32).toArray⟩ : Str).length = n from spc_len n]; exact zs (by omega), .str _, H, I.tok _, ⟨_, rfl⟩, q⟩
/-! ### an int, written in a form -/
def FmtI (i : Int) (sp y : Str) : Prop := ∀ (prog : Program) (w : World) (A : Around) (E : Value → Shared → Prop) (s : Shared) (t : Tok) (Q : Value → Shared → Prop), (∀ t' k, Q (.str y t') { s with toks := k }) → wpAny (model prog w) A (formatField (.int i t) sp) Q E s
def tFmtS (te ts : TE) : TE := fun σ H Q => te σ H fun x H1 => ts σ H1 fun y H2 => ∃ (i : Int) (f z : Str), x = .int i ∧ y = .str f ∧ FmtI i f z ∧ Q (.str z) H2
theorem pe_fmtS {e sp : Expr} {te ts : TE} {pos : Pos} (he : PE X e te) (hs : PE X sp ts) : PE X (.FormattedValue e (-1) (some sp) pos) (tFmtS te ts) := by
  refine ⟨fun pins s σ H Q I h => ?_⟩
  refine wpAny_FormattedValue_spec (thn (he.run pins s σ H _ I h) fun v s1 ⟨x, H1, I1, r1, q1⟩ => thn (hs.run pins s1 σ H1 _ I1 q1) fun u s2 ⟨y, H2, I2, r2, i, f, z, e1, e2, hf, q⟩ => ?_)
  subst e1
  subst e2
  obtain ⟨t, rfl⟩ := r1
  obtain ⟨t', rfl⟩ := r2
  exact ⟨f, t', rfl, hf _ _ _ _ _ _ _ fun _ _ => ⟨.str z, H2, I2.tok _, ⟨_, rfl⟩, q⟩⟩
end
open Builtin Builtin.Int Builtin.Float in
def fmF (f : FormatSpec) (i : Int) : Str := intField' f (decide (i < 0)) [] ((Nat.toDigits 10 i.natAbs).map fun c => (if (100 : Nat) == 88 then c.toUpper else c).toNat) [] 3
abbrev fs3 : Builtin.Float.FormatSpec := { align := 62, width := some 3 }
abbrev fs4 : Builtin.Float.FormatSpec := { align := 62, width := some 4 }
abbrev fs5 : Builtin.Float.FormatSpec := { align := 62, width := some 5, sign := some 43 }
abbrev fsD : Builtin.Float.FormatSpec := { align := 62, sign := some 43, type := some 100 }
section
open Builtin Builtin.Int Builtin.Float PySem.W
theorem par3 : parseFormatSpec (">3" : Str).cps.toList "int" 62 = .ok fs3 := by kernel_rfl
theorem par4 : parseFormatSpec (">4" : Str).cps.toList "int" 62 = .ok fs4 := by kernel_rfl
theorem par5 : parseFormatSpec (">+5" : Str).cps.toList "int" 62 = .ok fs5 := by kernel_rfl
theorem parD : parseFormatSpec ("+d" : Str).cps.toList "int" 62 = .ok fsD := by kernel_rfl
theorem fmt_3 {i : Int} (hi : i.natAbs.log2 < 1920) (hl : (fmF fs3 i).length ≤ sizeLine) : FmtI i (">3" : Str) (fmF fs3 i) := by
  intro prog w A E s t Q h
  refine KXf.field_int rfl (by decide +kernel) (by decide +kernel) (fun u => KPc.meets_of ?_) h
  intro _ _ _ _ _ _ hh
  unfold Builtin.«int.__format__»; refine wpAny_bind (wpAny_of_eq (a := (_, _)) rfl (wpAny_bind (wpAny_of_eq (a := _) rfl ?_)))
  kxf_if; refine wpAny_bind (wpAny_typeNameOf (T := "str") (typeIs_str _ _ _) (by decide) fun _ => wpAny_bind (wpAny_of_eq (a := some _) rfl ?_))
  kxf_if; kxf_if; refine wpAny_bind (wpAny_typeNameOfCut_int ?_); rw [par3]
  have e100 : (none : Option Nat).getD (if ((">3" : Str).cps.back? == some 0) = true then 0 else 100) = 100 := by decide +kernel
  dsimp only
  rw [e100]
  refine wpAny_ite (KPc.ite_yes (by decide +kernel) ?_)
  refine wpAny_bind (m := Builtin.overDigitLimit? i) (wpAny_of_eq (PySem.overDigitLimit_small hi) (KXf.ret_text (T := fmF fs3 i) rfl hl ?_))
  assumption
theorem fmt_4 {i : Int} (hi : i.natAbs.log2 < 1920) (hl : (fmF fs4 i).length ≤ sizeLine) : FmtI i (">4" : Str) (fmF fs4 i) := by
  intro prog w A E s t Q h
  refine KXf.field_int rfl (by decide +kernel) (by decide +kernel) (fun u => KPc.meets_of ?_) h
  intro _ _ _ _ _ _ hh
  unfold Builtin.«int.__format__»; refine wpAny_bind (wpAny_of_eq (a := (_, _)) rfl (wpAny_bind (wpAny_of_eq (a := _) rfl ?_)))
  kxf_if; refine wpAny_bind (wpAny_typeNameOf (T := "str") (typeIs_str _ _ _) (by decide) fun _ => wpAny_bind (wpAny_of_eq (a := some _) rfl ?_))
  kxf_if; kxf_if; refine wpAny_bind (wpAny_typeNameOfCut_int ?_); rw [par4]
  have e100 : (none : Option Nat).getD (if ((">4" : Str).cps.back? == some 0) = true then 0 else 100) = 100 := by decide +kernel
  dsimp only
  rw [e100]
  refine wpAny_ite (KPc.ite_yes (by decide +kernel) ?_)
  refine wpAny_bind (m := Builtin.overDigitLimit? i) (wpAny_of_eq (PySem.overDigitLimit_small hi) (KXf.ret_text (T := fmF fs4 i) rfl hl ?_))
  assumption
theorem fmt_5 {i : Int} (hi : i.natAbs.log2 < 1920) (hl : (fmF fs5 i).length ≤ sizeLine) : FmtI i (">+5" : Str) (fmF fs5 i) := by
  intro prog w A E s t Q h
  refine KXf.field_int rfl (by decide +kernel) (by decide +kernel) (fun u => KPc.meets_of ?_) h
  intro _ _ _ _ _ _ hh
  unfold Builtin.«int.__format__»; refine wpAny_bind (wpAny_of_eq (a := (_, _)) rfl (wpAny_bind (wpAny_of_eq (a := _) rfl ?_)))
  kxf_if; refine wpAny_bind (wpAny_typeNameOf (T := "str") (typeIs_str _ _ _) (by decide) fun _ => wpAny_bind (wpAny_of_eq (a := some _) rfl ?_))
  kxf_if; kxf_if; refine wpAny_bind (wpAny_typeNameOfCut_int ?_); rw [par5]
  have e100 : (none : Option Nat).getD (if ((">+5" : Str).cps.back? == some 0) = true then 0 else 100) = 100 := by decide +kernel
  dsimp only
  rw [e100]
  refine wpAny_ite (KPc.ite_yes (by decide +kernel) ?_)
  refine wpAny_bind (m := Builtin.overDigitLimit? i) (wpAny_of_eq (PySem.overDigitLimit_small hi) (KXf.ret_text (T := fmF fs5 i) rfl hl ?_))
  assumption
theorem fmt_D {i : Int} (hi : i.natAbs.log2 < 1920) (hl : (fmF fsD i).length ≤ sizeLine) : FmtI i ("+d" : Str) (fmF fsD i) := by
  intro prog w A E s t Q h
  refine KXf.field_int rfl (by decide +kernel) (by decide +kernel) (fun u => KPc.meets_of ?_) h
  intro _ _ _ _ _ _ hh
  unfold Builtin.«int.__format__»; refine wpAny_bind (wpAny_of_eq (a := (_, _)) rfl (wpAny_bind (wpAny_of_eq (a := _) rfl ?_)))
  kxf_if; refine wpAny_bind (wpAny_typeNameOf (T := "str") (typeIs_str _ _ _) (by decide) fun _ => wpAny_bind (wpAny_of_eq (a := some _) rfl ?_))
  kxf_if; kxf_if; refine wpAny_bind (wpAny_typeNameOfCut_int ?_); rw [parD]
  have e100 : (some 100 : Option Nat).getD (if (("+d" : Str).cps.back? == some 0) = true then 0 else 100) = 100 := by decide +kernel
  dsimp only
  rw [e100]
  refine wpAny_ite (KPc.ite_yes (by decide +kernel) ?_)
  refine wpAny_bind (m := Builtin.overDigitLimit? i) (wpAny_of_eq (PySem.overDigitLimit_small hi) (KXf.ret_text (T := fmF fsD i) rfl hl ?_))
  assumption
end
end Lp
set_option Elab.async false
set_option linter.all false
set_option maxRecDepth 100000
namespace Lp
open PySem PySem.Spec PyProof.Rows L2
/-! ### dict comprehensions over a range -/
theorem dc_range {lo : Int} {n : Nat} {g : TG} {tt : TT} {tk tv : TE} {vs : List Nat} {σ : L2.St} {H1 : Hp} {D : Addr} {Qd : Hp → Prop} (Pv : Nat → Hp → Prop) (h0 : Pv 0 (upd H1 D (.dK [])))
    (hs : ∀ (i : Nat) (H : Hp), i < n → Pv i H → g (.int (lo + i)) (wipe σ vs) H fun σ2 H2 => wipe σ2 vs = wipe σ vs ∧ tt σ2 H2 fun b H3 =>
      if b = true then tk σ2 H3 fun y H4 => tv σ2 H4 fun z H5 => ∃ kvs k, y = kV k ∧ H5 D = some (.dK kvs) ∧ kvs.length < sizeLine ∧ Pv (i + 1) (upd H5 D (.dK (putK kvs k z))) else Pv (i + 1) H3) (hd : ∀ H, Pv n H → Qd H) :
    ∃ W : Nat → Nat → Hp → Prop, (∃ m, W 0 m (upd H1 D (.dK []))) ∧ ∀ i m H, W i m H →
      ((Itr lo n).stop i H ∧ Qd H) ∨ ((Itr lo n).go i H ∧ ∃ Nx : Hp → Prop, (∀ H', Nx H' → ∃ m', m' < m ∧ W (i + 1) m' H') ∧ ∀ x H', (Itr lo n).yld i H x H' → g x (wipe σ vs) H' fun σ2 H2 => wipe σ2 vs = wipe σ vs ∧ tt σ2 H2 fun b H3 =>
        if b = true then tk σ2 H3 fun y H4 => tv σ2 H4 fun z H5 => ∃ kvs k, y = kV k ∧ H5 D = some (.dK kvs) ∧ kvs.length < sizeLine ∧ Nx (upd H5 D (.dK (putK kvs k z))) else Nx H3) := by
  refine ⟨fun i m H => m = n - i ∧ i ≤ n ∧ Pv i H, ⟨n, by simp, Nat.zero_le _, h0⟩, ?_⟩
  rintro i m H ⟨rfl, hi, pv⟩
  rcases Nat.lt_or_ge i n with hlt | hge
  · refine .inr ⟨hlt, Pv (i + 1), fun H' p' => ⟨n - (i + 1), by omega, rfl, hlt, p'⟩, fun x H' y => ?_⟩
    obtain ⟨rfl, rfl⟩ := y
    exact hs i _ hlt pv
  · have e : i = n := by omega
    subst e
    exact .inl ⟨Nat.le_refl _, hd H pv⟩
/-! ### words with single spaces between -/
abbrev jn (l : List Str) : Str := Str.join (" " : Str) l
theorem jn_snoc (x : Str) : ∀ l : List Str, jn (l ++ [x]) = if l = [] then x else jn l ++ (" " : Str) ++ x
  | [] => rfl
  | [y] => rfl
  | y :: z :: r => by
    have ih := jn_snoc x (z :: r)
    rw [if_neg (by simp)] at ih
    rw [if_neg (by simp)]
    show y ++ (" " : Str) ++ jn (z :: r ++ [x]) = y ++ (" " : Str) ++ jn (z :: r) ++ (" " : Str) ++ x
    rw [ih]
    simp only [Str.append_assoc]
theorem space1 : (" " : Str) = ⟨#[32]⟩ := by decide +kernel
def jc : List (List Nat) → List Nat
  | [] => []
  | [x] => x
  | x :: y :: r => x ++ 32 :: jc (y :: r)
theorem jn_jc : ∀ l : List Str, (jn l).cps.toList = jc (l.map fun x => x.cps.toList)
  | [] => rfl
  | [x] => rfl
  | x :: y :: r => by
    have ih := jn_jc (y :: r)
    show (x ++ (" " : Str) ++ jn (y :: r)).cps.toList = x.cps.toList ++ 32 :: jc ((y :: r).map fun x => x.cps.toList)
    rw [← ih, space1, Str.cps_append, Str.cps_append]
    simp
theorem cut32 : ∀ {x y a b : List Nat}, 32 ∉ x → 32 ∉ y → x ++ 32 :: a = y ++ 32 :: b → x = y ∧ a = b
  | [], [], a, b, _, _, h => ⟨rfl, (List.cons.inj h).2⟩
  | [], c :: y, a, b, _, hy, h => absurd ((List.cons.inj h).1 ▸ List.mem_cons_self) hy
  | c :: x, [], a, b, hx, _, h => absurd ((List.cons.inj h).1 ▸ List.mem_cons_self) hx
  | c :: x, d :: y, a, b, hx, hy, h => by
    obtain ⟨e1, e2⟩ := List.cons.inj h
    obtain ⟨e3, e4⟩ := cut32 (fun z => hx (List.mem_cons_of_mem _ z)) (fun z => hy (List.mem_cons_of_mem _ z)) e2
    exact ⟨by rw [e1, e3], e4⟩
theorem jc_inj : ∀ {l m : List (List Nat)}, l ≠ [] → m ≠ [] → (∀ x ∈ l, 32 ∉ x) → (∀ x ∈ m, 32 ∉ x) → jc l = jc m → l = m
  | [], _, h, _, _, _, _ => absurd rfl h
  | _ :: _, [], _, h, _, _, _ => absurd rfl h
  | [x], [y], _, _, _, _, h => by rw [show x = y from h]
  | [x], y :: z :: r, _, _, hx, _, h => absurd (show 32 ∈ x by rw [show x = y ++ 32 :: jc (z :: r) from h]; simp) (hx x List.mem_cons_self)
  | x :: z :: r, [y], _, _, _, hy, h => absurd (show 32 ∈ y by rw [← show x ++ 32 :: jc (z :: r) = y from h]; simp) (hy y List.mem_cons_self)
  | x :: z :: r, y :: u :: s, _, _, hx, hy, h => by
    obtain ⟨e1, e2⟩ := cut32 (hx x List.mem_cons_self) (hy y List.mem_cons_self) (show x ++ 32 :: jc (z :: r) = y ++ 32 :: jc (u :: s) from h)
    rw [e1, jc_inj (l := z :: r) (m := u :: s) (by simp) (by simp) (fun q hq => hx q (List.mem_cons_of_mem _ hq)) (fun q hq => hy q (List.mem_cons_of_mem _ hq)) e2]
theorem map_cps_inj : ∀ {l m : List Str}, (l.map fun x => x.cps.toList) = (m.map fun x => x.cps.toList) → l = m
  | [], [], _ => rfl
  | [], _ :: _, h => nomatch h
  | _ :: _, [], h => nomatch h
  | x :: l, y :: m, h => by
    obtain ⟨e1, e2⟩ := List.cons.inj h
    have e3 : x = y := Str.ext' (Array.toList_inj.mp e1)
    rw [e3, map_cps_inj e2]
theorem split_jn {l : List Str} (h : l ≠ []) (hf : ∀ x ∈ l, 32 ∉ x.cps.toList) : Txt.split (jn l) (" " : Str) = l := by
  have e1 : jn (Txt.split (jn l) (" " : Str)) = jn l := StrLaws.join_split _ _
  have e2 : ∀ p ∈ Txt.split (jn l) (" " : Str), 32 ∉ p.cps.toList := by
    rw [space1]
    exact StrLaws.split_free _ 32
  have e3 : Txt.split (jn l) (" " : Str) ≠ [] := fun z => by
    have := split_pos (jn l) (" " : Str)
    rw [z] at this
    simp at this
  refine map_cps_inj (jc_inj (by simpa using e3) (by simpa using h) ?_ ?_ ?_)
  · intro x hx
    obtain ⟨p, hp, rfl⟩ := List.mem_map.mp hx
    exact e2 p hp
  · intro x hx
    obtain ⟨p, hp, rfl⟩ := List.mem_map.mp hx
    exact hf p hp
  · rw [← jn_jc, ← jn_jc, e1]
end Lp
set_option Elab.async false
set_option linter.all false
set_option maxRecDepth 100000
namespace Lp
open PySem PySem.Spec PyProof.Rows L2
/-! ### defs, methods, classes, properties that may be used by their names -/
structure Cal (P : Program) (w : World) (K : PySem.W.Frag) (mg : Str → Option Value) (base : Heap) (k : Nat) (x : Str) (sp : Sp) : Prop where
  ex : ∃ (f : Addr) (fd : FuncData) (ps : List Str), FnOk P w K mg base CX0 k f fd ps sp ∧ mg x = some (.ref f) ∧ PySem.W.keepIn K (.ref f) = true ∧ Binds K fd ps []
structure Met (P : Program) (w : World) (K : PySem.W.Frag) (mg : Str → Option Value) (base : Heap) (k : Nat) (C : Addr) (m : Str) (sp : Sp) : Prop where
  ex : ∃ (f : Addr) (fd : FuncData) (ps : List Str), Cls K C ∧ Meth K C m f ∧ FnOk P w K mg base CX0 k f fd ps sp ∧ Binds K fd ps []
structure Mak (P : Program) (w : World) (K : PySem.W.Frag) (mg : Str → Option Value) (base : Heap) (k : Nat) (x : Str) (C : Addr) (sp : Sp) : Prop where
  ex : ∃ (f : Addr) (fd : FuncData) (ps : List Str), Mk K C f ∧ FnOk P w K mg base CX0 k f fd ps sp ∧ mg x = some (.ref C) ∧ Binds K fd ps []
structure Prp (P : Program) (w : World) (K : PySem.W.Frag) (mg : Str → Option Value) (base : Heap) (k : Nat) (C : Addr) (f : Str) (sp : Sp) : Prop where
  ex : ∃ (p g : Addr) (fd : FuncData) (ps : List Str), Cls K C ∧ PropOf K C f p g ∧ FnOk P w K mg base CX0 k g fd ps sp ∧ Binds K fd ps []
theorem Cal.gc {P : Program} {w : World} {K : PySem.W.Frag} {mg : Str → Option Value} {base : Heap} {k : Nat} {x : Str} {sp : Sp} (c : Cal P w K mg base k x sp) : Gc P w K mg base k x sp := by
  obtain ⟨f, fd, ps, F, h⟩ := c.ex
  exact ⟨f, fd, ps, .of F, h⟩
section
variable {X : Cx} {k j : Nat} {C : Addr} {x m f : Str} {sp : Sp} {p pos apos : Pos} {e o : Expr} {es : List Expr} {ta : TE} {t : TA}
theorem pe_c (c : Cal X.prog X.w X.K X.mg X.base k x sp) (hr : Room j X.A) (hk : k ≤ j) (hg : Gl X x) (ha : PA X (e :: es) t)
    (hdb : (x == ("__debug__" : Str)) = false := by decide) (he : starEach (e :: es) X.env = (false, eval e X.env) :: starEach es X.env := by rfl) (hpl : (backTo pos (starEach es X.env)).any (·.1) = false := by rfl) :
    PE X (.Call (.Name x p) (e :: es) [] pos) (tCall sp [] E0 t) := by
  obtain ⟨g, fd, ps, F, hm, kp, b⟩ := c.ex
  exact pe_call F (hr.mono hk) hg hm kp b .nil pass0 ha hdb he hpl
theorem pe_mk (c : Mak X.prog X.w X.K X.mg X.base k x C sp) (hr : Room j X.A) (hk : k + 1 ≤ j) (hg : Gl X x) (ha : PA X (e :: es) t)
    (hdb : (x == ("__debug__" : Str)) = false := by decide) (he : starEach (e :: es) X.env = (false, eval e X.env) :: starEach es X.env := by rfl) (hpl : (backTo pos (starEach es X.env)).any (·.1) = false := by rfl) :
    PE X (.Call (.Name x p) (e :: es) [] pos) (tMake C sp [] E0 t) := by
  obtain ⟨g, fd, ps, M, F, hm, b⟩ := c.ex
  exact pe_make M F (hr.mono hk) hg hm b .nil pass0 ha hdb he hpl
theorem pe_mt {pl : Sem Bool} (c : Met X.prog X.w X.K X.mg X.base k C m sp) (hr : Room j X.A) (hk : k ≤ j) (he : PE X o ta) (ha : PA X (e :: es) t)
    (hst : starEach (e :: es) X.env = (false, eval e X.env) :: starEach es X.env := by rfl) (hpl : (backTo pos (starEach es X.env)).any (·.1) = false := by rfl)
    (ht : eval (.Call (.Attribute o m apos) (e :: es) [] pos) X.env = (eval o X.env >>= fun ov => standAt apos.atName >>= fun _ => holding [ov] (getMethod ov m pl) >>= fun r => callWith pos r.1 r.2 (backTo pos (starEach (e :: es) X.env)) (backToKw pos (keywordEach [] X.env))) := by rfl) :
    PE X (.Call (.Attribute o m apos) (e :: es) [] pos) (tMeth C m sp [] E0 ta t) := by
  obtain ⟨g, fd, ps, hc, hm, F, b⟩ := c.ex
  exact pe_meth (pl := pl) he hc hm F (hr.mono hk) b .nil pass0 ha hst hpl ht
theorem pe_mt0 {pl : Sem Bool} (c : Met X.prog X.w X.K X.mg X.base k C m sp) (hr : Room j X.A) (hk : k ≤ j) (he : PE X o ta)
    (ht : eval (.Call (.Attribute o m apos) [] [] pos) X.env = (eval o X.env >>= fun ov => standAt apos.atName >>= fun _ => holding [ov] (getMethod ov m pl) >>= fun r => callWith pos r.1 r.2 (backTo pos (starEach [] X.env)) (backToKw pos (keywordEach [] X.env))) := by rfl) :
    PE X (.Call (.Attribute o m apos) [] [] pos) (tMeth C m sp [] E0 ta tNil) := by
  obtain ⟨g, fd, ps, hc, hm, F, b⟩ := c.ex
  exact pe_meth0 (pl := pl) he hc hm F (hr.mono hk) b .nil pass0 ht
theorem pe_pr (c : Prp X.prog X.w X.K X.mg X.base k C f sp) (hr : Room j X.A) (hk : k + 1 ≤ j) (he : PE X e ta) (hab : attributeBase e f X.env (eval e X.env) = eval e X.env := by rfl) : PE X (.Attribute e f pos) (tProp C sp [] E0 ta) := by
  obtain ⟨p, g, fd, ps, hc, hp, F, b⟩ := c.ex
  exact pe_prop he hc hp F (hr.mono hk) b .nil pass0 hab
end
/-! ### slices that end one before the end -/
theorem cut_init (xs : List V) : cutV xs none (some (-1)) = xs.dropLast := by
  have e : HT.sIx xs.length xs.length (some (-1)) = xs.length - 1 := by
    show (if (-1 : Int) < 0 then ((-1 : Int) + (xs.length : Int)).toNat else min (-1 : Int).toNat xs.length) = _
    rw [if_pos (by decide)]
    omega
  unfold cutV
  rw [HT.sIx_none, e, List.drop_zero, Nat.sub_zero, List.dropLast_eq_take]
end Lp
set_option Elab.async false
set_option linter.all false
set_option maxRecDepth 100000
namespace Lp
open PySem PySem.Spec PyProof.Rows L2
/-! ### methods that may raise, called where it is caught -/
structure MetX (P : Program) (w : World) (K : PySem.W.Frag) (mg : Str → Option Value) (base : Heap) (k : Nat) (C : Addr) (m : Str) (sp : Sp) : Prop where
  ex : ∃ (f : Addr) (fd : FuncData) (ps : List Str), Cls K C ∧ Meth K C m f ∧ FnOk P w K mg base (L2.CX P w) k f fd ps sp ∧ Binds K fd ps []
def tMtX0 (C : Addr) (m : Str) (sp : Sp) (W : WX) (ta : TE) : TE := fun σ H Q => ta σ H fun x H1 => ∃ a dx fs, x = .ref a ∧ H1 a = some (.ins C dx fs) ∧ fs.lookup m = none ∧ sp [x] H1 Q (WE W σ)
/-- classes made by keywords alone -/
structure MakK (P : Program) (w : World) (K : PySem.W.Frag) (mg : Str → Option Value) (base : Heap) (k : Nat) (x : Str) (C : Addr) (ks : List Str) (gV : List V → List V → List V) (sp : Sp) : Prop where
  ex : ∃ (f : Addr) (fd : FuncData) (ps : List Str) (g : List Value → List Value → List Value), Mk K C f ∧ FnOk P w K mg base CX0 k f fd ps sp ∧ mg x = some (.ref C) ∧ KBn K fd ps 1 ks g gV
section
variable {X : Cx} {k j : Nat} {C : Addr} {x m : Str} {sp : Sp} {p pos apos : Pos} {o : Expr} {ta : TE} {tk' : TA} {kws : List Keyword} {ks : List Str} {gV : List V → List V → List V}
theorem pe_mtX0 {pl : Sem Bool} {W : WX} (c : MetX X.prog X.w X.K X.mg X.base k C m sp) (hr : Room j X.A) (hk : k ≤ j) (tk : Takes X W) (he : PE X o ta)
    (ht : eval (.Call (.Attribute o m apos) [] [] pos) X.env = (eval o X.env >>= fun ov => standAt apos.atName >>= fun _ => holding [ov] (getMethod ov m pl) >>= fun r => callWith pos r.1 r.2 (backTo pos (starEach [] X.env)) (backToKw pos (keywordEach [] X.env))) := by rfl) :
    PE X (.Call (.Attribute o m apos) [] [] pos) (tMtX0 C m sp W ta) := by
  obtain ⟨g, fd, ps, hc, hm, F, b⟩ := c.ex
  refine ⟨fun pins s σ H Q I h => ?_⟩
  refine PySem.W.methodCall_KW (pl := pl) (thn (he.run pins s σ H _ I h) fun u s1 ⟨y, H1, I1, rx, a, dx, fs, ex, ea, l, q⟩ => ?_) ht
  subst ex
  obtain rfl : u = Value.ref a := rx
  refine getmeth_ok I1 ea hc hm l (PySem.W.callWith_K0 (first := [.ref a]) I1.kIn hm.kp ?_)
  exact run_fnS (us := [.ref a]) (vs := [.ref a]) F (hr.mono hk) b (passAt tk σ) I1 (.cons rfl .nil) q
theorem pe_mkK (c : MakK X.prog X.w X.K X.mg X.base k x C ks gV sp) (hr : Room j X.A) (hk : k + 1 ≤ j) (hg : Gl X x) (hkw : PK X kws tk')
    (hall : (backToKw pos (keywordEach kws X.env)).all (·.1.isSome) = true := by rfl) (hks : (backToKw pos (keywordEach kws X.env)).filterMap (·.1) = ks := by rfl) (hdb : (x == ("__debug__" : Str)) = false := by decide)
    (hpl : ((backTo pos (starEach [] X.env)).any (·.1) || (backToKw pos (keywordEach kws X.env)).any (·.1.isNone)) = false := by rfl) : PE X (.Call (.Name x p) [] kws pos) (tMakeK C 0 ks.length sp gV E0 tNil tk') := by
  obtain ⟨f, fd, ps, g, M, F, hm, hb⟩ := c.ex
  exact pe_makeK0 M F (hr.mono hk) hg hm hb pass0 hkw hall hks hdb hpl
end
end Lp
set_option Elab.async false
set_option linter.all false
set_option maxRecDepth 100000
set_option maxHeartbeats 1000000
namespace Lp
open PySem PySem.Spec PyProof.Rows L2 GenW
/-! ### yield from a list -/
section
variable {prog : Program} {w : World} {A : Around} {E : Value → Shared → Prop} {s : Shared}
theorem special_lst_item {it l : Addr} {i : Nat} {items : Array Value} {x : Value} {Q : Option Value → Shared → Prop} (hit : s.heap.IsListIter it l i)
    (hl : s.heap.IsList l items) (hx : items[i]? = some x)
    (hQ : ∀ h', h'.IsListIter it l (i + 1) → Heap.SameBut it s.heap h' → Q (some x) { s with heap := h' }) :
    wpAny (model prog w) A (callSpecial? (.ref it) "__next__") Q E s := by
  obtain ⟨o, ho, hc, hd⟩ := id hit
  obtain ⟨ol, hol, _, nl, hdl⟩ := hl
  refine wpAny_callSpecial?_slot (name := Str.ofString "__next__") hit.typeIs slot_listiter_next (wpAny_call_entry slot_listiter_next hit.typeIs entry_listiter_next ?_ (args_listiter_next _))
  show wpAny _ _ (field (.ref it) 0 >>= _) _ _ s
  refine wpAny_bind (wpAny_field ho hd (x := .ref l) rfl ?_)
  show wpAny _ _ (if (Value.ref l == Value.none) = true then _ else _) _ _ s
  rw [if_neg (show ¬ ((Value.ref l == Value.none) = true) from Bool.false_ne_true)]
  show wpAny _ _ (field (.ref it) 1 >>= _) _ _ s
  refine wpAny_bind (wpAny_field ho hd (x := .int i 0) rfl ?_)
  show wpAny _ _ (seqItems? (.ref l) >>= _) _ _ s
  refine wpAny_bind (wpAny_seqItems hol hdl ?_)
  simp only [Int.toNat_natCast, hx]
  refine wpAny_bind (wpAny_setField ho hd (by simp) (wpAny_pure ⟨x, rfl, hQ _ ?_ (Heap.SameBut.update ..)⟩))
  exact ⟨_, Heap.get?_update_self _ ho (Obj.isFreed_of_fields (Obj.data_mapFields hd _)), (Obj.cls_mapFields ..).trans hc, by
    rw [Obj.data_mapFields hd]; simp [rawInt]⟩
theorem special_lst_end {it l : Addr} {i : Nat} {items : Array Value} {Q : Option Value → Shared → Prop} (hh : A.handled = none) (hit : s.heap.IsListIter it l i) (hl : s.heap.IsList l items) (hx : items[i]? = none)
    (hE : ∀ e h', StopX e h' → Heap.ExtBut it s.heap h' → E e { s with heap := h' }) : wpAny (model prog w) A (callSpecial? (.ref it) "__next__") Q E s := by
  obtain ⟨o, ho, hc, hd⟩ := id hit
  obtain ⟨ol, hol, _, nl, hdl⟩ := hl
  refine wpAny_callSpecial?_slot (name := Str.ofString "__next__") hit.typeIs slot_listiter_next (wpAny_call_entry slot_listiter_next hit.typeIs entry_listiter_next ?_ (args_listiter_next _))
  show wpAny _ _ (field (.ref it) 0 >>= _) _ _ s
  refine wpAny_bind (wpAny_field ho hd (x := .ref l) rfl ?_)
  show wpAny _ _ (if (Value.ref l == Value.none) = true then _ else _) _ _ s
  rw [if_neg (show ¬ ((Value.ref l == Value.none) = true) from Bool.false_ne_true)]
  show wpAny _ _ (field (.ref it) 1 >>= _) _ _ s
  refine wpAny_bind (wpAny_field ho hd (x := .int i 0) rfl ?_)
  show wpAny _ _ (seqItems? (.ref l) >>= _) _ _ s
  refine wpAny_bind (wpAny_seqItems hol hdl ?_)
  simp only [Int.toNat_natCast, hx]
  refine wpAny_bind (wpAny_rule (wpAny_bind (wpAny_setField ho hd (by simp) ?_)))
  show wpAny _ _ (newExc (.type "StopIteration") [] >>= _) _ _ _
  refine wpAny_bind ?_
  simp only [newExc, newTuple]
  refine wpAny_bind (wpAny_newObj_type ?_ (by size_fits))
  refine wpAny_bind (m := firstArgMember _ _) (wpAny_of_eq (a := Value.none) (by first | rfl | (simp only [firstArgMember]; rfl)) ?_)
  refine wpAny_newObj_type ?_ (by size_fits)
  simp only [raiseNew]
  refine wpAny_bind (wpAny_handled ?_)
  first | rw [show A.in1.handled = none from hh] | rw [hh]
  refine wpAny_bind (wpAny_pure (wpAny_throw ?_))
  refine hE _ _ ⟨_, _, _, rfl, Heap.get?_push_size _ rfl, rfl, rfl, ?_⟩ (((Heap.SameBut.update ..).extBut.push _).push _)
  first
    | rfl
    | (rw [Array.getElem?_append_left (by decide)]; rfl)
    | kernel_rfl
end
section
variable {X : Cx} {e : Expr} {te : TE}
def tYfLst (te : TE) : TYf := fun σ H Q => te σ H fun x H1 => ∃ a xs, x = .ref a ∧ H1 a = some (.lst xs) ∧ Q xs H1
theorem close_lst : typeLookup (.type "list_iterator") "close" = pure none := by rw [typeLookup_type, builtinLookup_eq_fast]; kernel_rfl
theorem yf_lst (he : PE X e te) : YfE X e (tYfLst te) := by
  refine ⟨fun pins s σ H Q I h => ?_⟩
  refine thn (he.run pins s σ H _ I h) fun v s1 ⟨x, H1, I1, r1, a, xs, ex, ha, hq⟩ => ?_
  subst ex
  obtain rfl : v = Value.ref a := r1
  obtain ⟨hlen, its, c, rits, hg⟩ := I1.hok a _ ha
  have ht : s1.heap.IsList a its.toArray := ⟨_, hg, rfl, _, rfl⟩
  refine ⟨"list", ht.typeIs, by decide, wpAny_pyIter_list ht ?_⟩
  have ksz : ∀ b o, s1.heap.get? b = some o → b ≠ s1.heap.objs.size := fun b o e => Nat.ne_of_lt (Heap.lt_size e)
  have kp : ∀ b o, s1.heap.get? b = some o → (s1.heap.push { cls := .type "list_iterator", data := .fields #[.ref a, .int 0 0] }).get? b = some o := fun b o e => Heap.get?_push_of_some _ e
  refine ⟨s1.heap.objs.size, H1, xs, fun j h => h.IsListIter s1.heap.objs.size a j ∧ h.IsList a its.toArray, rfl, I1.kept (t' := s1.toks) kp, .inr I1.sz, Nat.ne_of_gt I1.lt, fun y c hy => ?_, I1.hok.fresh (Nat.le_refl _), fun p hp => ?_,
    ⟨⟨_, Heap.get?_push_size _ rfl, rfl, rfl⟩, ⟨_, kp _ _ hg, rfl, _, rfl⟩⟩, ⟨⟨"list_iterator", fun j h q => ?_, close_lst, by decide⟩, fun j h h' q hk => ?_, fun A' j x s2 Q' E' hA hx q hQ => ?_, fun A' s2 Q' E' hA q hE => ?_⟩, hq⟩
  · obtain ⟨v, o, ho, _⟩ := I1.cell y c hy
    exact ksz c o ho
  · exact ksz p.1 _ (I1.pin p hp).1
  · obtain ⟨⟨o, ho, hc, _⟩, _⟩ := q
    exact ⟨o, ho, hc⟩
  · obtain ⟨⟨o, ho, r⟩, o2, ho2, r2⟩ := q
    exact ⟨⟨o, hk _ o (.inl rfl) ho, r⟩, o2, hk _ o2 (.inr (by rw [ha]; exact fun z => by cases z)) ho2, r2⟩
  · obtain ⟨q1, q2⟩ := q
    obtain ⟨u, hu, ru⟩ := rits.get hx
    have hne : a ≠ s1.heap.objs.size := Nat.ne_of_lt (Heap.lt_size hg)
    exact special_lst_item q1 q2 (x := u) (by simpa using hu) fun h' q1' hs => hQ u h' s2.toks ru ⟨q1', (by obtain ⟨o2, ho2, r2⟩ := q2; exact ⟨o2, hs.extBut _ _ hne ho2, r2⟩)⟩ fun b o hb eb => hs.extBut b o hb eb
  · obtain ⟨q1, q2⟩ := q
    have hnone : its.toArray[xs.length]? = none := by
      have e := rits.length
      have e2 : its[xs.length]? = none := List.getElem?_eq_none_iff.mpr (by omega)
      simpa using e2
    exact special_lst_end hA q1 q2 hnone fun e h' hS hk => hE e h' s2.toks hS fun b o hb eb => hk b o hb eb
end
/-! ### generator defs by their names -/
section
variable {P : Program} {w : World} {K : PySem.W.Frag} {mg : Str → Option Value} {base : Heap}
theorem okGen {x qual : Str} {st : Stmt} {f : Addr} {fd : FuncData} {N ps : List Str} {k : Nat} {sp : SpG} (F : Fun K x qual st f fd) (S : GScope N ps (defScope st)) (ln : ∀ vs H Q E, sp vs H Q E → vs.length = ps.length)
    (hb : ∀ (cdv : Value) (A : Around) (outer : List Env) (s : Shared) (H : Hp) (vs : List V) (Q : List V → Hp → Prop) (E : XK) (pn : List (Addr × Obj)), Room k (A.deeper (envOfC qual (defScope st) s.heap.objs.size f cdv)) → sp vs H Q E →
      ∃ t, GSs (gcxOf P w K mg base N qual (defScope st) f cdv A outer s H E pn) (defBody st) t ∧ t { nx := fun ys _ H' => Q ys H', rt := fun ys v H' => v = .non ∧ Q ys H' } [] (start N vs) H) : GFn P w K mg base (k + 1) f fd ps sp := by
  obtain ⟨oc, od, kV, doc, pm, an, cdv, ct, osl, rfl, lk, hcd⟩ := F.ex
  exact gfn_of lk hcd S ln (hb cdv)
structure Gnr (P : Program) (w : World) (K : PySem.W.Frag) (mg : Str → Option Value) (base : Heap) (k : Nat) (x : Str) (sp : SpG) : Prop where
  ex : ∃ (f : Addr) (fd : FuncData) (ps : List Str), GFn P w K mg base k f fd ps sp ∧ mg x = some (.ref f) ∧ PySem.W.keepIn K (.ref f) = true ∧ Binds K fd ps []
end
section
variable {X : Cx} {k j : Nat} {x nm : Str} {sp : SpG} {p p2 pos pos' : Pos} {e : Expr} {es : List Expr} {t : TA}
theorem noStop0 {K : PySem.W.Frag} : NoStop K E0 := fun _ _ _ h => h.elim
theorem passes0 : Passes (CX X.prog X.w) X E0 := fun pins σ H s1 e s' I h => by
  obtain ⟨a, B, H', cls, d, _, _, _, _, _, _, _, z⟩ := h
  exact z.elim
/-- list(f(e, ..)) of a generator def -/
theorem pe_lg (c : Gnr X.prog X.w X.K X.mg X.base k x sp) (hr : Room j X.A) (hk : k + 3 ≤ j) (hg : Gl X x) (ha : PA X (e :: es) t) (hg2 : Gl X nm) (hmg : X.mg nm = none) (hv : bootBuiltins nm = some (.type "list")) (hnm : nm ≠ "__name__" := by decide) (hdb2 : (nm == ("__debug__" : Str)) = false := by decide)
    (hdb : (x == ("__debug__" : Str)) = false := by decide) (he : starEach (e :: es) X.env = (false, eval e X.env) :: starEach es X.env := by rfl) (hpl : (backTo pos' (starEach es X.env)).any (·.1) = false := by rfl)
    (he2 : starEach [.Call (.Name x p2) (e :: es) [] pos'] X.env = (false, eval (.Call (.Name x p2) (e :: es) [] pos') X.env) :: starEach [] X.env := by rfl) :
    PE X (.Call (.Name nm p) [.Call (.Name x p2) (e :: es) [] pos'] [] pos) (tListG (L2.tCallG sp [] E0 t)) := by
  obtain ⟨g, fd, ps, F, hm, kp, b⟩ := c.ex
  exact pe_listG (pgen_call F (hr.mono (by omega)) hg hm kp b .nil ha hdb he hpl) passes0 noStop0 (hr.mono hk) hg2 hmg hv hnm hdb2 he2
end
end Lp
set_option Elab.async false
set_option linter.all false
set_option maxRecDepth 100000
set_option maxHeartbeats 1000000
namespace Lp
open PySem PySem.Spec PyProof.Rows L2
/-! ### isinstance of an exception that is a value, or that an outer suite holds -/
def rIsX (K : PySem.W.Frag) : List V → Hp → VK → Prop := fun xs H Q => ∃ (a D : Addr) (c : V) (cv : Value) (b : Bool), xs = [.ref a, c] ∧ H a = some (ExO (.ref D) a) ∧ ExcC K D ∧ (∀ u, RelV c u → u = cv) ∧ PySem.W.kitOne K (.ref D) cv = some b ∧ Q (.bl b) H
theorem call_isX {X : Cx} : CallR X (.builtin "isinstance") (rIsX X.K) := by
  intro pins s σ H xs us Q I r h
  obtain ⟨a, D, c, cv, b, rfl, ha, C, hcv, e, q⟩ := h
  cases r with
  | cons rx rr =>
    cases rr with
    | cons rt rr =>
      cases rr
      cases rx
      cases hcv _ rt
      obtain ⟨⟨oe, vs, hget, hz, hv, _⟩, _, _⟩ := I.hok a _ ha
      have J : PySem.W.InstAt s.heap a oe D none := by
        obtain ⟨oc, od, oda, osl⟩ := oe
        obtain ⟨h1, h2⟩ := hz
        dsimp only at h1 h2 hv
        subst h1 h2 hv
        exact ⟨hget, rfl, rfl, trivial⟩
      exact PySem.W.kia_one (PySem.W.handS_kitx_exc C.hg C.hk C.hs C.hd C.ha C.hn C.ht C.hm) I.kIn J e (fun z => nomatch z) fun tk => ⟨.bl b, H, I.kept (t' := tk) fun _ _ z => z, rfl, q⟩
def rIsP (K : PySem.W.Frag) (p : Addr × Obj) : List V → Hp → VK → Prop := fun xs H Q => ∃ (D : Addr) (c : V) (cv : Value) (b : Bool), xs = [.ref p.1, c] ∧ Zc (.ref D) none p.2 ∧ (∃ vs, p.2.data = .fields vs) ∧ ExcC K D ∧ (∀ u, RelV c u → u = cv) ∧ PySem.W.kitOne K (.ref D) cv = some b ∧ Q (.bl b) H
theorem call_isP {X : Cx} {p : Addr × Obj} (hp : p ∈ X.pn) : CallR X (.builtin "isinstance") (rIsP X.K p) := by
  intro pins s σ H xs us Q I r h
  obtain ⟨D, c, cv, b, rfl, hz, ⟨vs, hv⟩, C, hcv, e, q⟩ := h
  cases r with
  | cons rx rr =>
    cases rr with
    | cons rt rr =>
      cases rr
      cases rx
      cases hcv _ rt
      have hget := (I.pin p (List.mem_append_left _ hp)).1
      obtain ⟨a, oe⟩ := p
      have J : PySem.W.InstAt s.heap a oe D none := by
        obtain ⟨oc, od, oda, osl⟩ := oe
        obtain ⟨h1, h2⟩ := hz
        dsimp only at h1 h2 hv
        subst h1 h2 hv
        exact ⟨hget, rfl, rfl, trivial⟩
      exact PySem.W.kia_one (PySem.W.handS_kitx_exc C.hg C.hk C.hs C.hd C.ha C.hn C.ht C.hm) I.kIn J e (fun z => nomatch z) fun tk => ⟨.bl b, H, I.kept (t' := tk) fun _ _ z => z, rfl, q⟩
/-! ### defs that are given the exception that is held -/
structure FnE (P : Program) (w : World) (K : PySem.W.Frag) (mg : Str → Option Value) (base : Heap) (k : Nat) (f : Addr) (fd : FuncData) (ps : List Str) (sp : Addr × Obj → Sp) : Prop where
  len : ∀ p vs H Q E, sp p vs H Q E → vs.length = ps.length
  run : ∀ (p : Addr × Obj) (A : Around) (out : List Env) (s : Shared) (H : Hp) (ar : Args) (us : List Value) (vs : List V) (Q : VK) (E : XK), L2H.RoomH k A → L2H.PinOk out H s p → Env0 P w K mg base A out s H →
    BindsTo s fd ar (ps.zip us) → Vals vs us → sp p vs H Q E → codeAny (model P w) A (.call (.ref f) ar) (CR CX0 out P w H s Q E) s
section
variable {P : Program} {w : World} {K : PySem.W.Frag} {mg : Str → Option Value} {base : Heap}
theorem okE {x qual : Str} {st : Stmt} {f : Addr} {fd : FuncData} {N ps : List Str} {k : Nat} {sp : Addr × Obj → Sp} (F : Fun K x qual st f fd) (S : FnScope N ps (defScope st)) (ln : ∀ p vs H Q E, sp p vs H Q E → vs.length = ps.length)
    (hb : ∀ (cdv : Value) (p : Addr × Obj) (A : Around) (out : List Env) (s : Shared) (H : Hp) (vs : List V) (Q : VK) (E : XK), L2H.RoomH k (A.deeper (envOfC qual (defScope st) s.heap.objs.size f cdv)) → sp p vs H Q E →
      ∃ t, PSs (L2H.cxH CX0 P w K mg base N qual (defScope st) f cdv A out s H E p) (defBody st) t ∧ t { nx := fun _ H' => Q .non H', rt := Q } (start N vs) H) : FnE P w K mg base (k + 1) f fd ps sp := by
  obtain ⟨oc, od, kV, doc, pm, an, cdv, ct, osl, rfl, lk, hcd⟩ := F.ex
  refine ⟨ln, fun p A out s H ar us vs Q E room hpin en bd rv hs => ?_⟩
  have KX : K.In s.heap := en.mod.kin.keeps fun b o e => (en.bs b o e).1
  have nl : s.heap.NoLimit := en.mod.nolimit.keeps fun b o e => (en.bs b o e).1
  have kd : ∀ y ∈ ps.zip us, (defScope st).names.lookup y.1 = some .local ∨ ((defScope st).names.lookup y.1 = some .cell ∧ ((cellsFrom (s.heap.objs.size + 1) (defScope st).names []).lookup y.1).isSome = true) := by
    rintro ⟨n, v⟩ hy
    have hm := (List.of_mem_zip hy).1
    exact (S.par n hm).elim (fun q => .inl q) fun q => .inr ⟨q, PySem.W.cellsFrom_some _ _ _ (.inl q)⟩
  refine codeAny_call_function room.depth (KX _ _ lk) rfl S.co S.gen rfl (PySem.W.codeRec_of KX hcd) (bd _ _ _ _ ?_)
  refine wpAny_newFunctionEnv_cells S.kind kd fun e1 he s1 x => ?_
  subst he
  refine ⟨nl.keeps x.toInCall.keep, codeAny_func ?_⟩
  obtain ⟨t, ht, hq⟩ := hb cdv p A out s H vs Q E (room.deeper _) hs
  have J0 : Inv (L2H.cxH CX0 P w K mg base N qual (defScope st) f cdv A out s H E p) [] (start N vs) H s1 := L2H.inv_startH S hpin en (ln _ _ _ _ _ hs) rv x
  refine wpAny_mono (ht.run [] s1 (start N vs) H _ J0 hq) (fun fl s' h3 => ?_) fun _ _ h3 => h3
  cases fl with
  | ret u => exact let ⟨v, _, H', J, r2, q⟩ := h3; ⟨v, H', J.os, J.bare, J.base, J.hok, r2, q⟩
  | next => exact let ⟨_, H', J, q⟩ := h3; ⟨.non, H', J.os, J.bare, J.base, J.hok, rfl, q⟩
  | brk => exact (let ⟨_, _, _, q⟩ := h3; q : False).elim
  | cont => exact (let ⟨_, _, _, q⟩ := h3; q : False).elim
structure CalE (P : Program) (w : World) (K : PySem.W.Frag) (mg : Str → Option Value) (base : Heap) (k : Nat) (x : Str) (sp : Addr × Obj → Sp) : Prop where
  ex : ∃ (f : Addr) (fd : FuncData) (ps : List Str), FnE P w K mg base k f fd ps sp ∧ mg x = some (.ref f) ∧ PySem.W.keepIn K (.ref f) = true ∧ Binds K fd ps []
structure CalX (P : Program) (w : World) (K : PySem.W.Frag) (mg : Str → Option Value) (base : Heap) (k : Nat) (x : Str) (sp : Sp) : Prop where
  ex : ∃ (f : Addr) (fd : FuncData) (ps : List Str), FnOk P w K mg base (L2.CX P w) k f fd ps sp ∧ mg x = some (.ref f) ∧ PySem.W.keepIn K (.ref f) = true ∧ Binds K fd ps []
end
section
variable {X : Cx} {k j : Nat} {x : Str} {p pos : Pos} {e : Expr} {es : List Expr} {t : TA}
def tCe (sp : Addr × Obj → Sp) (pr : Addr × Obj) (t : TA) : TE := fun σ H Q => t σ H fun vs H1 => sp pr vs H1 Q E0
theorem pe_ce {sp : Addr × Obj → Sp} {pr : Addr × Obj} (c : CalE X.prog X.w X.K X.mg X.base k x sp) (hr : L2H.RoomH k X.A) (hp : pr ∈ X.pn) (hg : Gl X x) (ha : PA X (e :: es) t)
    (hdb : (x == ("__debug__" : Str)) = false := by decide) (he : starEach (e :: es) X.env = (false, eval e X.env) :: starEach es X.env := by rfl) (hpl : (backTo pos (starEach es X.env)).any (·.1) = false := by rfl) :
    PE X (.Call (.Name x p) (e :: es) [] pos) (tCe sp pr t) := by
  obtain ⟨f, fd, ps, F, hm, kp, hb⟩ := c.ex
  refine ⟨fun pins s σ H Q I h => ?_⟩
  refine wpAny_Call_Name_kw (ld_glob I hg hm ?_ hdb)
  refine PySem.W.callWith_K (h₀ := X.base) I.ok.mod.kin kp (thn (ha.run pos pins s σ H _ I h) fun us s1 ⟨vs, H1, I1, r, q⟩ => ⟨I1.kIn, ?_⟩) he hpl
  have hl : us.length = ps.length := by rw [← r.length]; exact F.len _ _ _ _ _ q
  have b := hb s1 us I1.kIn (by rw [List.append_nil]; exact hl)
  rw [List.append_nil] at b
  have P1 := I1.pin pr (List.mem_append_left _ hp)
  have hpin : L2H.PinOk X.stack H1 s1 pr := ⟨P1.1, P1.2.1, fun hm => (List.mem_cons.mp (I1.stkSub pr.1 hm)).elim P1.2.2.1 P1.2.2.2.1, P1.2.2.2.2⟩
  refine wpAny_call (codeAny_mono (F.run pr X.A X.stack s1 H1 ⟨us, []⟩ us vs Q E0 hr hpin I1.env0 b r q) fun r s' hq => ?_)
  cases r with
  | error e => exact pass0 pins σ H1 s1 e s' I1 hq
  | ok fl =>
    cases fl with
    | ret u => exact I1.after hq
    | next => exact False.elim hq
    | brk => exact False.elim hq
    | cont => exact False.elim hq
def tCx (sp : Sp) (W : WX) (t : TA) : TE := fun σ H Q => t σ H fun vs H1 => sp vs H1 Q (WE W σ)
theorem pe_cx {sp : Sp} {W : WX} (c : CalX X.prog X.w X.K X.mg X.base k x sp) (hr : Room j X.A) (hk : k ≤ j) (tk : Takes X W) (hg : Gl X x) (ha : PA X (e :: es) t)
    (hdb : (x == ("__debug__" : Str)) = false := by decide) (he : starEach (e :: es) X.env = (false, eval e X.env) :: starEach es X.env := by rfl) (hpl : (backTo pos (starEach es X.env)).any (·.1) = false := by rfl) :
    PE X (.Call (.Name x p) (e :: es) [] pos) (tCx sp W t) := by
  obtain ⟨f, fd, ps, F, hm, kp, hb⟩ := c.ex
  refine ⟨fun pins s σ H Q I h => ?_⟩
  refine wpAny_Call_Name_kw (ld_glob I hg hm ?_ hdb)
  refine PySem.W.callWith_K (h₀ := X.base) I.ok.mod.kin kp (thn (ha.run pos pins s σ H _ I h) fun us s1 ⟨vs, H1, I1, r, q⟩ => ⟨I1.kIn, ?_⟩) he hpl
  exact run_fnS F (hr.mono hk) hb (passAt tk σ) I1 r q
end
/-! ### != of two built-in types -/
section
variable {M : Model} {A : Around} {E : Value → Shared → Prop} {s : Shared}
theorem richNe_decline {a b : Value} {T id : String} {k : Bool} {Q : Value → Shared → Prop} (ha : ∀ s' : Shared, s'.TypeIs a T) (hb : ∀ s' : Shared, s'.TypeIs b T)
    (h1 : Slot T (cmpInfo .NotEq).2.1 id) (h2 : Slot T (cmpInfo .NotEq).2.2 id) (hv : [a, b].any Value.onHeap = false) (hk : isSame a b = pure k)
    (hc : wpAny M A (call (.builtin id) [a, b]) (fun v s₁ => v = .notImplemented ∧ wpAny M A (call (.builtin id) [b, a]) (fun v s₂ => v = .notImplemented ∧ Q (.bool !k) s₂) E s₁) E s) :
    wpAny M A (richCompare .NotEq a b) Q E s := by
  rcases hi : cmpInfo CmpOp.NotEq with ⟨sym, f, r⟩
  rw [hi] at h1 h2
  simp only [richCompare, hi, (ha s).oneThing_none]
  try with_reducible refine wpAny_holding ?_
  refine wpAny_bind (wpAny_cRoomFor_or (.inl hv) ?_)
  refine wpAny_bind (wpAny_typeOf (ha s) (wpAny_bind (wpAny_typeOf (hb s) ?_)))
  simp only [bne_self_eq_false, Bool.false_eq_true, if_false, pure_bind, Bool.not_false, if_true]
  refine wpAny_bind (m := tryCompare a _ b) (wpAny_tryCompare_declines (ha s) h1 (wpAny_mono hc (fun v s₁ h₁ => ⟨h₁.1, ?_⟩) fun _ _ x => x))
  refine wpAny_bind (m := tryCompare b _ a) (wpAny_tryCompare_declines (hb s₁) h2 (wpAny_mono h₁.2 (fun v s₂ h₂ => ⟨h₂.1, ?_⟩) fun _ _ x => x))
  first
    | exact wpAny_bind (wpAny_rule (wpAny_bind (wpAny_of_eq hk (wpAny_pure h₂.2))))
    | exact wpAny_bind (wpAny_of_eq hk (wpAny_pure h₂.2))
end
section
variable {prog : Program} {w : World} {A : Around} {E : Value → Shared → Prop} {s : Shared} {Q : Value → Shared → Prop}
theorem slot_type_ne2 : Slot "type" (cmpInfo .NotEq).2.2 "object.__ne__" := slot_type_ne
theorem call_object_ne {X Y : String} (hX : ∀ s' : Shared, s'.TypeIs (.type X) "type") (hne : (Value.type X == Value.type Y) = false) (h : Q .notImplemented s) : wpAny (model prog w) A (call (.builtin "object.__ne__") [.type X, .type Y]) Q E s := by
  refine wpAny_call_entry slot_type_ne (hX s) F.entry_object_ne ?_ (F.args_object_ne_2 _ _)
  unfold Builtin.«object.__ne__»
  refine wpAny_bind (m := slotArgs "__ne__" 1 _) (wpAny_of_eq (a := ((Value.type X : Value), [Value.type Y])) (by first | rfl | (simp only [slotArgs]; rfl)) ?_)
  refine wpAny_bind (wpAny_cRoomFor_or (.inl rfl) ?_)
  refine wpAny_bind (m := callSpecialIfBound? (.type X) (Str.ofString "__eq__") [.type Y]) (wpAny_callSpecialIfBound?_slot (hX s) PySem.TypeEq.slot_type_eq
    (call_gives PySem.TypeEq.slot_type_eq (hX s) F.entry_object_eq (F.args_object_eq_2 _ _) (PySem.TypeEq.object_eq_other rfl hne) ?_))
  first
    | exact wpAny_pure ⟨_, rfl, h⟩
    | exact wpAny_pure h
    | exact wpAny_pure ⟨_, rfl, rfl, h⟩
theorem ne_type_other {X Y : String} (hX : ∀ s' : Shared, s'.TypeIs (.type X) "type") (hY : ∀ s' : Shared, s'.TypeIs (.type Y) "type") (hne : (Value.type X == Value.type Y) = false) (hne' : (Value.type Y == Value.type X) = false) (h : Q (.bool true) s) : wpAny (model prog w) A (compareOp .NotEq (.type X) (.type Y)) Q E s := by
  show wpAny _ A (richCompare .NotEq _ _) Q E s
  exact richNe_decline (T := "type") (k := false) hX hY slot_type_ne slot_type_ne2 rfl (by rw [isSame_plain rfl, hne]) (call_object_ne hX hne ⟨rfl, call_object_ne hY hne' ⟨rfl, h⟩⟩)
end
def rNeTyG : R2 := fun x y H Q => (∃ a, x = .ty a ∧ y = .ty a ∧ (∀ s' : Shared, s'.TypeIs (.type a) "type") ∧ Q (.bl false) H) ∨ ∃ a b, x = .ty a ∧ y = .ty b ∧ (∀ s' : Shared, s'.TypeIs (.type a) "type") ∧ (∀ s' : Shared, s'.TypeIs (.type b) "type") ∧ (Value.type a == Value.type b) = false ∧ (Value.type b == Value.type a) = false ∧ Q (.bl true) H
theorem op_neTyG {X : Cx} : OpR X (compareOp .NotEq) rNeTyG := by
  intro pins s σ H x y v u Q I rx ry h
  rcases h with ⟨a, rfl, rfl, ha, q⟩ | ⟨a, b, rfl, rfl, ha, hb, n1, n2, q⟩
  · cases (show v = Value.type a from rx)
    cases (show u = Value.type a from ry)
    exact ne_type_same ha ⟨.bl false, H, I, rfl, q⟩
  · cases (show v = Value.type a from rx)
    cases (show u = Value.type b from ry)
    exact ne_type_other ha hb n1 n2 ⟨.bl true, H, I, rfl, q⟩
/-! ### xs[i] op= e; one sign * n -/
def rGetL (K : PySem.W.Frag) : V → V → Hp → VK → Prop := fun o i H Q => ∃ p xs j v, o = .ref p ∧ i = .int j ∧ SqL K H p xs ∧ 0 ≤ j ∧ atI xs j = some v ∧ Q v H
theorem get_list {X : Cx} : PGet X (rGetL X.K) := by
  intro pins s σ H o i ov iv Q I ro ri h
  obtain ⟨p, xs, k, z, rfl, rfl, hq, h0, he, q⟩ := h
  cases ro
  obtain ⟨t, rfl⟩ := ri
  obtain ⟨its, r, pl, hz⟩ := I.list hq
  obtain ⟨j, h1, h2, h3, h4, h5⟩ := atI_get he
  obtain ⟨w, ew, rw'⟩ := r.get h2
  have hj : k.toNat = j := by
    rw [seqIndex_of h0 h5] at h1
    exact Option.some.inj h1
  have hl := r.length
  have hn := line63
  exact wpAny_getItem_list pl.isList h0 (by omega) (by rw [hj]; simpa using ew) ⟨z, H, I, rw', q⟩
theorem op_repA {X : Cx} : OpR X (binaryOp .Mult) (fun x y H Q => ∃ (z : Str) (n : Nat), x = .str z ∧ y = .int (n : Int) ∧ z.length = 1 ∧ n ≤ 1000 ∧ ∀ y, Q (.str y) H) := by
  intro pins s σ H x y v u Q I r1 r2 h
  obtain ⟨z, n, e1, e2, hz, hn, q⟩ := h
  subst e1; subst e2
  obtain ⟨t, rfl⟩ := r1
  obtain ⟨t', rfl⟩ := r2
  refine PySem.P.mul_str ?_ (fun c _ => ?_) (fun _ _ => ?_) ?_
  · rw [decide_eq_false (show ¬ (n : Int) < -(2 ^ 63 : Int) by omega), decide_eq_false (show ¬ (n : Int) ≥ 2 ^ 63 by omega)]
    rfl
  · rw [hz]
    have := (Int.le_ediv_iff_mul_le (show (0 : Int) < n by omega)).mpr (show ((1 : Nat) : Int) * (n : Int) ≤ 2 ^ 63 - 1 by omega)
    omega
  · rw [hz]
    unfold Builtin.Str.tooLong
    refine decide_eq_false ?_
    have e : (n : Int).toNat = n := rfl
    have z := zs (show n ≤ 100000 by omega)
    omega
  · by_cases h0 : n = 0
    · subst h0
      rw [if_pos (by decide)]
      exact ⟨by decide, .str _, H, I.tok _, ⟨_, rfl⟩, q _⟩
    · rw [if_neg (show ¬ (n : Int) < 1 by omega), hz]
      by_cases h1 : n = 1
      · subst h1
        rw [if_pos (by rfl)]
        exact ⟨.str _, H, I, ⟨_, rfl⟩, q _⟩
      · have hb : ((n : Int) == 1 || (1 : Nat) == 0) = false := by
          rw [beq_eq_false_iff_ne.mpr (show (n : Int) ≠ 1 by omega)]
          rfl
        rw [hb, if_neg Bool.false_ne_true]
        refine ⟨?_, .str _, H, I.tok _, ⟨_, rfl⟩, q _⟩
        have f0 := foldl_repN z.cps.toList n []
        rw [List.nil_append] at f0
        have e : (n : Int).toNat = n := rfl
        have e3 : z.cps = z.cps.toList.toArray := rfl
        rw [e]
        have f1 : List.foldl (fun x1 x2 => x1 ++ x2) #[] (List.replicate n z.cps) = ((List.replicate n z.cps.toList).flatten).toArray := f0
        show (List.foldl (fun (x1 x2 : Array Nat) => x1 ++ x2) #[] (List.replicate n z.cps)).size ≤ _
        rw [f1, List.size_toArray]
        have : ∀ m : Nat, ((List.replicate m z.cps.toList).flatten).length = m := fun m => by
          induction m with
          | zero => rfl
          | succ m ih =>
            rw [List.replicate_succ, List.flatten_cons, List.length_append, ih]
            have : z.cps.toList.length = 1 := hz
            omega
        rw [this]
        exact zs (by omega)
end Lp
set_option Elab.async false
set_option linter.all false
set_option maxRecDepth 100000
set_option maxHeartbeats 1000000
namespace Lp
open PySem PySem.Spec PyProof.Rows L2
/-! ### len(x), y in x: by a method of an own class -/
section
variable {X : Cx} {k j : Nat} {C : Addr} {sp : Sp}
theorem inst_of {pins : List (Addr × Obj)} {σ : L2.St} {H : Hp} {s : Shared} {a dx : Addr} {fs : List (Str × V)} (I : Inv X pins σ H s) (e : H a = some (.ins C dx fs)) : ∃ ox od, PySem.W.InstAt s.heap a ox C od := by
  obtain ⟨mA, O, _⟩ := ins_get I.hok e
  obtain ⟨od, J, _⟩ := O.look
  exact ⟨_, _, J⟩
/-- a call of a method's def, wherever the machine stands -/
theorem run_at {A : Around} {pins : List (Addr × Obj)} {σ : L2.St} {H : Hp} {s : Shared} {f : Addr} {fd : FuncData} {ps : List Str} {us : List Value} {vs : List V} {Q : VK} {E1 : Value → Shared → Prop} (F : FnOk X.prog X.w X.K X.mg X.base CX0 k f fd ps sp) (hr : Room k A) (b : Binds X.K fd ps []) (I : Inv X pins σ H s) (en : Env0 X.prog X.w X.K X.mg X.base A X.stack s H)
    (r : Vals vs us) (q : sp vs H Q E0) : wpAny (model X.prog X.w) A (call (.ref f) us) (EP X pins σ Q) E1 s := by
  have hl : us.length = ps.length := by rw [← r.length]; exact F.len _ _ _ _ q
  have bd := b s us I.kIn (by rw [List.append_nil]; exact hl)
  rw [List.append_nil] at bd
  refine wpAny_call (codeAny_mono (F.run A X.stack s H ⟨us, []⟩ us vs Q E0 hr en bd r q) fun r s' hq => ?_)
  cases r with
  | error e => exact hq.elim
  | ok fl =>
    cases fl with
    | ret u => exact I.after hq
    | next => exact False.elim hq
    | brk => exact False.elim hq
    | cont => exact False.elim hq
def rLenO (C : Addr) (sp : Sp) : List V → Hp → VK → Prop := fun xs H Q => ∃ (a dx : Addr) (fs : List (Str × V)), xs = [.ref a] ∧ H a = some (.ins C dx fs) ∧ sp [.ref a] H (fun v H' => ∃ n : Int, v = .int n ∧ 0 ≤ n ∧ n < 2 ^ 63 ∧ Q (.int n) H') E0
theorem call_lenO (c : Met X.prog X.w X.K X.mg X.base k C "__len__" sp) (hr : Room j X.A) (hk : k + 1 ≤ j) : CallR X (.builtin "len") (rLenO C sp) := by
  intro pins s σ H xs us Q I r h
  obtain ⟨a, dx, fs, rfl, ha, q⟩ := h
  obtain ⟨f, fd, ps, hc, hm, F, b⟩ := c.ex
  obtain ⟨u, rfl, ru⟩ := vals1 r
  cases (show u = Value.ref a from ru)
  obtain ⟨ox, od, J⟩ := inst_of I ha
  refine Calls.call_function_entry PySem.kind_len PySem.plain_len PySem.entry_len (PySem.args_len1 _) ?_
  unfold Builtin.«len»
  refine wpAny_bind (m := oneArg "len" _) (wpAny_pure ?_)
  refine wpAny_bind (m := callSpecial? (.ref a) (Str.ofString "__len__")) (PySem.W.special_fn I.kIn J hm.at_ (beq_iff_eq.mp hm.fn) (wpAny_mono (run_at (A := X.A.in1) (vs := [.ref a]) F (hr.mono hk).in1 b I I.env0.in1 (.cons rfl .nil) q) (fun v s' hv => ?_) fun _ _ z => z))
  obtain ⟨v, H', I', rv, n, rfl, h0, h1, hq⟩ := hv
  obtain ⟨t, rfl⟩ := rv
  refine wpAny_bind (wpAny_holding (wpAny_pure ?_))
  refine wpAny_bind (wpAny_letGo ?_)
  show wpAny _ _ (if n < 0 then _ else _) _ _ _
  rw [if_neg (by omega)]
  show wpAny _ _ (if n ≥ 2 ^ 63 then _ else _) _ _ _
  rw [if_neg (by omega)]
  exact wpAny_bind (wpAny_mkInt (wpAny_pure ⟨_, rfl, .int n, H', I'.tok _, ⟨_, rfl⟩, hq⟩))
def tInO (C : Addr) (sp : Sp) (ty td : TE) (neg : Bool) : TE := fun σ H Q => ty σ H fun y H1 => td σ H1 fun x H2 => ∃ (a dx : Addr) (fs : List (Str × V)), x = .ref a ∧ H2 a = some (.ins C dx fs) ∧ sp [.ref a, y] H2 (fun v H' => ∃ b : Bool, v = .bl b ∧ Q (.bl (if neg then !b else b)) H') E0
theorem pc_inO {i o : Expr} {ty td : TE} (c : Met X.prog X.w X.K X.mg X.base k C "__contains__" sp) (hr : Room j X.A) (hk : k ≤ j) (hi : PE X i ty) (ho : PE X o td) : PC X .In i o (tInO C sp ty td false) := by
  obtain ⟨f, fd, ps, hc, hm, F, b⟩ := c.ex
  refine ⟨fun pins s σ H Q I h => ?_⟩
  refine thn (hi.run pins s σ H _ I h) fun iv s1 ⟨y, H1, I1, ry, q1⟩ => thn (ho.run pins s1 σ H1 _ I1 q1) fun u s2 ⟨x, H2, I2, rx, a, dx, fs, ex, ea, q2⟩ => ?_
  subst ex
  cases (show u = Value.ref a from rx)
  obtain ⟨ox, od, J⟩ := inst_of I2 ea
  refine wpAny_bind ?_
  unfold contains
  refine wpAny_holding (wpAny_bind (wpAny_bind (J.type.here ((PySem.W.looks_findIn I2.kIn hm.at_).here ?_))))
  rw [if_neg (by simp)]
  refine wpAny_bind (PySem.W.unlessNone_K I2.kIn J hm.at_ hm.fn (wpAny_mono (run_at (vs := [.ref a, y]) F (hr.mono hk) b I2 I2.env0 (.cons rfl (.cons ry .nil)) q2) (fun v s' hv => ?_) fun _ _ z => z))
  obtain ⟨v, H', I', rv, b', rfl, hq⟩ := hv
  cases rv
  refine wpAny_of_eq (a := b') (by first | rfl | simp [truthy]) ?_
  exact wpAny_pure ⟨.bl b', H', I', rfl, hq⟩
end
end Lp
namespace Lp
open PySem PySem.Spec PyProof.Rows L2
/-! ### a + b of two instances, by __add__ -/
theorem binop_own {prog : Program} {w : World} {A : Around} {E : Value → Shared → Prop} {s : Shared} {K : PySem.W.Frag} {x C f : Addr} {ox : Obj} {od : Option Obj} {op : Operator} {b : Value} {Q : Value → Shared → Prop} (kin : K.In s.heap) (J : PySem.W.InstAt s.heap x ox C od) (tb : PySem.W.Looks (model prog w) s.heap (typeOf b) (.ref C)) (sf : PySem.W.selfFirst K C = true)
    (at_ : PySem.W.findIn K (.ref C) (PySem.dunder op.info.2) = some (some (.ref f))) (isf : PySem.W.isFn K (.ref f) = true) (go : wpAny (model prog w) A (call (.ref f) [.ref x, b]) (fun v s' => v ≠ .notImplemented ∧ Q v s') E s) : wpAny (model prog w) A (binaryOp op (.ref x) b) Q E s := by
  obtain ⟨cd, e1, e2⟩ := PySem.W.any_some sf
  have e3 : ∃ rest, cd.mro = .ref C :: rest := by
    cases hq : cd.mro with
    | nil =>
      rw [hq] at e2
      cases e2
    | cons u r =>
      rw [hq, List.head?_cons] at e2
      cases (beq_iff_eq.mp e2)
      exact ⟨r, rfl⟩
  obtain ⟨rest, e3⟩ := e3
  unfold binaryOp
  refine wpAny_holding (wpAny_bind ?_)
  unfold binaryOp1
  refine wpAny_bind (J.type.here (wpAny_bind (tb.here (wpAny_bind ((PySem.W.fills_K kin e1 e3 at_).here ?_)))))
  simp only [beq_self_eq_true, if_true]
  refine wpAny_bind (wpAny_pure ?_)
  simp only [Bool.and_false, Bool.false_eq_true, if_false, Bool.false_and]
  refine wpAny_bind (wpAny_pure ?_)
  simp only [Bool.false_eq_true, if_false]
  refine wpAny_bind (m := tryMethod (.ref x) _ b) ?_
  unfold tryMethod
  refine wpAny_bind (PySem.W.special_fn kin J at_ (beq_iff_eq.mp isf) (wpAny_mono go (fun v s' hv => ?_) fun _ _ z => z))
  obtain ⟨nv, hv⟩ := hv
  cases v <;> first | exact absurd rfl nv | exact wpAny_pure (wpAny_pure (wpAny_pure hv))
section
variable {X : Cx} {k j : Nat} {C : Addr} {sp : Sp}
theorem relV_ni {v : V} {u : Value} (r : RelV v u) : u ≠ .notImplemented := by
  intro e
  subst e
  cases v <;> first | (obtain ⟨_, h⟩ := r; cases h) | cases r | (exact nomatch r)
def rAddO (C : Addr) (sp : Sp) : R2 := fun x y H Q => ∃ (a b dx dy : Addr) (fs gs : List (Str × V)), x = .ref a ∧ y = .ref b ∧ H a = some (.ins C dx fs) ∧ H b = some (.ins C dy gs) ∧ sp [.ref a, .ref b] H Q E0
theorem op_addO (c : Met X.prog X.w X.K X.mg X.base k C "__add__" sp) (hr : Room j X.A) (hk : k ≤ j) (sf : PySem.W.selfFirst X.K C = true) : OpR X (binaryOp .Add) (rAddO C sp) := by
  intro pins s σ H x y v u Q I rx ry h
  obtain ⟨a, b, dx, dy, fs, gs, rfl, rfl, ha, hb, q⟩ := h
  obtain ⟨f, fd, ps, hc, hm, F, bd⟩ := c.ex
  cases (show v = Value.ref a from rx)
  cases (show u = Value.ref b from ry)
  obtain ⟨ox, od, J⟩ := inst_of I ha
  obtain ⟨ox2, od2, J2⟩ := inst_of I hb
  refine binop_own I.kIn J J2.type sf hm.at_ hm.fn (wpAny_mono (run_at (vs := [.ref a, .ref b]) F (hr.mono hk) bd I I.env0 (.cons rfl (.cons rfl .nil)) q) (fun w s' hw => ?_) fun _ _ z => z)
  exact ⟨by obtain ⟨z, _, _, r, _⟩ := hw; exact relV_ni r, hw⟩
end
end Lp
namespace Lp
open PySem PySem.Spec PyProof.Rows L2
/-! ### a == b of two instances, by __eq__ -/
theorem eq_own {prog : Program} {w : World} {A : Around} {E : Value → Shared → Prop} {s : Shared} {K : PySem.W.Frag} {x C f : Addr} {ox : Obj} {od : Option Obj} {op : CmpOp} {b tb : Value} {Q : Value → Shared → Prop} (hu : A.units < cLine) (kin : K.In s.heap) (J : PySem.W.InstAt s.heap x ox C od) (tyb : PySem.W.Looks (model prog w) s.heap (typeOf b) tb)
    (nf : PySem.W.notFirst K C tb = true) (at_ : PySem.W.findIn K (.ref C) (cmpInfo op).2.1 = some (some (.ref f))) (isf : PySem.W.isFn K (.ref f) = true) (go : wpAny (model prog w) A (call (.ref f) [.ref x, b]) (fun v s' => v ≠ .notImplemented ∧ Q v s') E s) : wpAny (model prog w) A (richCompare op (.ref x) b) Q E s := by
  have mine : wpAny (model prog w) A (tryCompare (.ref x) (cmpInfo op).2.1 b) (fun r s' => ∃ v, r = some v ∧ Q v s') E s := by
    unfold tryCompare
    refine wpAny_bind (PySem.W.ifBound_K kin J at_ isf (wpAny_mono go (fun v s' hv => ?_) fun _ _ z => z))
    obtain ⟨nv, hv⟩ := hv
    cases v <;> first | exact absurd rfl nv | exact wpAny_pure ⟨_, rfl, hv⟩
  have last : ∀ {g : Option Value → Sem Value}, (∀ v, g (some v) = pure v) → wpAny (model prog w) A (tryCompare (.ref x) (cmpInfo op).2.1 b >>= g) Q E s := fun {g} hg => wpAny_bind (wpAny_mono mine (fun r s' ⟨v, er, hq⟩ => by rw [er, hg]; exact wpAny_pure hq) fun _ _ z => z)
  unfold richCompare
  simp only [oneThing_ref]
  refine wpAny_holding (wpAny_bind (wpAny_cRoomFor hu ?_))
  refine wpAny_bind (J.type.here (wpAny_bind (tyb.here ?_)))
  split
  · rename_i q
    have sb : PySem.W.subIn K tb (.ref C) = some false := by
      rcases Bool.or_eq_true_iff.mp nf with z | z
      · rw [beq_iff_eq.mp z] at q
        simp at q
      · exact beq_iff_eq.mp z
    refine wpAny_bind ((PySem.W.looks_subIn kin sb).here ?_)
    simp only [Bool.false_eq_true, if_false]
    exact last fun v => rfl
  · refine wpAny_bind (wpAny_pure ?_)
    simp only [Bool.false_eq_true, if_false]
    exact last fun v => rfl
section
variable {X : Cx} {k j : Nat} {C : Addr} {sp : Sp}
theorem op_eqO (c : Met X.prog X.w X.K X.mg X.base k C "__eq__" sp) (hr : Room j X.A) (hk : k ≤ j) (nf : PySem.W.notFirst X.K C (.ref C) = true) : OpR X (compareOp .Eq) (rAddO C sp) := by
  intro pins s σ H x y v u Q I rx ry h
  obtain ⟨a, b, dx, dy, fs, gs, rfl, rfl, ha, hb, q⟩ := h
  obtain ⟨f, fd, ps, hc, hm, F, bd⟩ := c.ex
  cases (show v = Value.ref a from rx)
  cases (show u = Value.ref b from ry)
  obtain ⟨ox, od, J⟩ := inst_of I ha
  obtain ⟨ox2, od2, J2⟩ := inst_of I hb
  have hu : X.A.units < cLine := by have := hr.units; omega
  show wpAny _ X.A (richCompare .Eq _ _) _ _ s
  refine eq_own (op := .Eq) hu I.kIn J J2.type nf hm.at_ hm.fn (wpAny_mono (run_at (vs := [.ref a, .ref b]) F (hr.mono hk) bd I I.env0 (.cons rfl (.cons rfl .nil)) q) (fun w s' hw => ?_) fun _ _ z => z)
  exact ⟨by obtain ⟨z, _, _, r, _⟩ := hw; exact relV_ni r, hw⟩
end
end Lp
set_option Elab.async false
set_option linter.all false
set_option maxRecDepth 100000
set_option maxHeartbeats 1000000
namespace Lp
open PySem PySem.Spec PyProof.Rows L2
/-! ### x(e, ..) of an instance, by __call__ -/
theorem inst_plain {X : Cx} {C : Addr} {pins : List (Addr × Obj)} {σ : L2.St} {H : Hp} {s : Shared} {a dx : Addr} {fs : List (Str × V)} (I : Inv X pins σ H s) (e : H a = some (.ins C dx fs)) : ∃ ox od, PySem.W.InstAt s.heap a ox C od ∧ ox.data = .plain := by
  obtain ⟨mA, O, _⟩ := ins_get I.hok e
  obtain ⟨od, J, _⟩ := O.look
  exact ⟨_, _, J, rfl⟩
theorem callWith_obj {M : Model} {A : Around} {E : Value → Shared → Prop} {s : Shared} {pos : Pos} {x : Addr} {first : List Value} {Q : Value → Shared → Prop} {args : List (Bool × Sem Value)} {kws : List (Option Str × Sem Value)} (hp : (args.any (·.1) || kws.any (·.1.isNone)) = false)
    (h : wpAny M A (evalArgs (.ref x) true args kws) (fun a s₁ => (∃ C ox od, PySem.W.InstAt s₁.heap x ox C od ∧ ox.data = .plain) ∧ wpAny M A (call (.ref x) (first ++ a.pos) a.kw) Q E s₁) E s) : wpAny M A (callWith pos (.ref x) first args kws) Q E s := by
  unfold callWith
  refine wpAny_bind (wpAny_holding (wpAny_mono h (fun a s₁ ⟨⟨C, ox, od, J, hd⟩, hq⟩ => wpAny_bind (wpAny_standAt ?_)) fun _ _ z => z))
  have kl := PySem.W.kco_keeper (M := M) J hd
  simp only [hp]
  refine wpAny_bind (kl.here ?_)
  have tl : ∀ {t : Sem Value}, wpAny M A t Q E s₁ → wpAny M A (t >>= fun r => holding [r] point >>= fun _ => pure r) Q E s₁ :=
    fun ht => wpAny_bind (wpAny_mono ht (fun r s₂ hr => wpAny_bind (wpAny_holding (wpAny_point (wpAny_pure hr)))) fun _ _ z => z)
  exact tl (wpAny_operateT hq)
section
variable {X : Cx} {k j i : Nat} {C : Addr} {sp : Sp} {x : Str} {p pos : Pos} {e : Expr} {es : List Expr} {t : TA}
def tCallO (i : Nat) (C : Addr) (sp : Sp) (t : TA) : TE := fun σ H Q => ∃ a : Addr, σ[i]? = some (some (.ref a)) ∧ t σ H fun vs H1 => ∃ (dx : Addr) (fs : List (Str × V)), H1 a = some (.ins C dx fs) ∧ sp (.ref a :: vs) H1 Q E0
theorem pe_callO (c : Met X.prog X.w X.K X.mg X.base k C "__call__" sp) (fi : ∀ f, PySem.W.findIn X.K (.ref C) "__call__" = some (some (.ref f)) → PySem.W.fnIn X.K f = true) (hr : Room j X.A) (hk : k ≤ j) (hN : X.N[i]? = some x) (hv : Vis X.env.scope x) (ha : PA X (e :: es) t)
    (hdb : (x == ("__debug__" : Str)) = false := by decide) (hcd : (x == ("__classdict__" : Str)) = false := by decide)
    (he : starEach (e :: es) X.env = (false, eval e X.env) :: starEach es X.env := by rfl) (hpl : (backTo pos (starEach es X.env)).any (·.1) = false := by rfl) : PE X (.Call (.Name x p) (e :: es) [] pos) (tCallO i C sp t) := by
  obtain ⟨f, fd, ps, hc, hm, F, b⟩ := c.ex
  refine ⟨fun pins s σ H Q I h => ?_⟩
  obtain ⟨a, hs, ht⟩ := h
  refine wpAny_Call_Name_kw (thn ((pe_var (pos := p) hN hv hdb hcd).run pins s σ H (fun v H1 => v = .ref a ∧ H1 = H) I ⟨.ref a, hs, rfl, rfl⟩) fun u s1 ⟨v, H1, I1, r1, q1⟩ => ?_)
  obtain ⟨rfl, rfl⟩ := q1
  cases r1
  have go := ha.run pos pins s1 σ _ _ I1 ht
  rw [he] at go ⊢
  refine callWith_obj (by show ((false || (backTo pos (starEach es X.env)).any (·.1)) || false) = false; rw [hpl]; rfl) (Calls.evalArgs_plain ?_)
  refine thn go fun us s2 ⟨vs, H2, I2, r, dx, fs, ea, q⟩ => ?_
  obtain ⟨ox, od, J, hd⟩ := inst_plain I2 ea
  refine ⟨⟨C, ox, od, J, hd⟩, ?_⟩
  have rr : Vals (.ref a :: vs) (.ref a :: us) := .cons rfl r
  have hl : (Value.ref a :: us).length = ps.length := by rw [← rr.length]; exact F.len _ _ _ _ q
  have bd := b s2 (.ref a :: us) I2.kIn (by rw [List.append_nil]; exact hl)
  rw [List.append_nil] at bd
  refine wpAny_call (PySem.W.kco_code I2.kIn J hd hm.at_ hm.fn (fi f hm.at_) (codeAny_mono (F.run X.A X.stack s2 H2 ⟨.ref a :: us, []⟩ (.ref a :: us) (.ref a :: vs) Q E0 (hr.mono hk) I2.env0 bd rr q) fun r s' hq => ?_))
  cases r with
  | error e => exact hq.elim
  | ok fl =>
    cases fl with
    | ret u => exact I2.after hq
    | next => exact False.elim hq
    | brk => exact False.elim hq
    | cont => exact False.elim hq
end
end Lp
set_option Elab.async false
set_option linter.all false
set_option maxRecDepth 100000
set_option maxHeartbeats 1000000
namespace Lp
open PySem PySem.Spec PyProof.Rows L2
/-! ### sorted(d) of a dict with int keys, any number of them -/
def rSortedDIO : List V → Hp → VK → Prop := fun xs H Q => ∃ (a : Addr) (kvs : List (Key × V)) (ks : List Int), xs = [.ref a] ∧ Rd H a (.dK kvs) ∧ kvs.map (·.1) = ks.map Sum.inl ∧
  ∀ (ys : List Int) (p : Addr), ys.Perm ks → ys.Pairwise (· ≤ ·) → H p = none → Q (.ref p) (upd H p (.lst (ys.map V.int)))
theorem call_sortedDIO {X : Cx} (hcalm : X.calm = true) : CallR X (.builtin "sorted") rSortedDIO := by
  intro pins s σ H xs us Q I r q
  obtain ⟨a, kvs, ks, ex, hd, hks, q⟩ := q
  subst ex
  obtain ⟨u, eu, rx⟩ := vals1 r
  subst eu
  cases rx
  obtain ⟨z, lo, vs, rel, dd⟩ := dk_rd I.hok hd
  obtain ⟨ep, hat⟩ := dd.dictAt
  have hkeys : vs.map (·.1) = ks.map Sum.inl := rel.keys.symm.trans hks
  have hl : vs.length = ks.length := by
    have e := congrArg List.length hkeys
    rw [List.length_map, List.length_map] at e
    exact e
  have hl2 : kvs.length = ks.length := by
    have e := congrArg List.length hks
    rw [List.length_map, List.length_map] at e
    exact e
  have h16 : vs.length ≤ sizeLine := by rw [hl, ← hl2]; exact z
  refine Calls.call_function_entry PyProof.Rows.kind_sorted PyProof.Rows.plain_sorted PyProof.Rows.entry_sorted (PyProof.Rows.args_sorted1 _) ?_
  unfold Builtin.«sorted»
  refine wpAny_bind (m := checkCount "sorted" 1 1 _) (wpAny_pure ?_)
  refine wpAny_bind (PySem.W.kdu_collect (A := X.A.in1) (PySem.W.kdl_dict (knd := mixKind X.prog X.w) (kvs := vs) (ep := ep) lo) (I.ok.hd hcalm) hat h16 fun h' tk acc hk hacc => ?_)
  have hal : acc.toList.length = ks.length := by rw [Array.length_toList, hacc.1, hl]
  have hS : IntsAre acc.toList ks := ints_each hal fun j v e => by
    obtain ⟨k, x, e1, e2⟩ := hacc.2 j v (by rw [← Array.getElem?_toList]; exact e)
    have e3 : (vs.map (·.1))[j]? = some k := by rw [List.getElem?_map, e1]; rfl
    rw [hkeys, List.getElem?_map] at e3
    cases e4 : ks[j]? with
    | none => rw [e4] at e3; cases e3
    | some y =>
      rw [e4] at e3
      have e5 : Sum.inl y = k := Option.some.inj e3
      subst e5
      rcases keyIs_shape (show keyIs (Sum.inl y) v = true from e2) with ⟨i, t, ek, ev⟩ | ⟨z, t, ek, ev⟩
      · cases ek
        exact ⟨y, t, rfl, ev⟩
      · cases ek
  have I1 : Inv X pins σ H { s with heap := h', toks := tk } := I.kept hk
  have hz2 : acc.toList.length ≤ sizeLine := by rw [hal, ← hl2]; exact z
  refine wpAny_bind (wpAny_newList ?_ hz2)
  have hoL : (h'.push (seqObj "list" acc.toList.toArray 0)).get? h'.objs.size = some (seqObj "list" acc.toList.toArray 0) := Heap.get?_push_size _ rfl
  show wpAny _ _ _ _ _ { s with heap := h'.push (seqObj "list" acc.toList.toArray 0), toks := tk }
  refine wpAny_bind (wpAny_holding (wpAny_call_entry PyProof.Rows.slot_list_sort ⟨_, hoL, rfl⟩ PyProof.Rows.entry_list_sort
    (SrtO.list_sort_ord (s := { s with heap := h'.push (seqObj "list" acc.toList.toArray 0), toks := tk }) SrtO.swo_int hoL hz2 (fun h2 => SrtO.ints_sortable hS h2) fun out g1 g2 => ⟨_, rfl, ?_⟩) (PyProof.Rows.args_list_sort _)))
  obtain ⟨k1, k2, k3⟩ := SrtO.ints_out hS g1 g2
  obtain ⟨e', he'⟩ := PyProof.Rows.sortedHeap_at (vs := acc.toList) (out := out.toArray) hoL
  have hlen : ((out.map SrtO.iv).map V.int).length ≤ sizeLine := by
    rw [List.length_map, k2.length_eq, ← hl2]
    exact z
  refine wpAny_pure ⟨_, rfl, .ref h'.objs.size, upd H h'.objs.size (.lst ((out.map SrtO.iv).map V.int)), I1.laid (t' := tk) (fun b u e => ?_) (Nat.le_refl _)
    (show ObjOk X.prog X.w _ _ _ (.lst ((out.map SrtO.iv).map V.int)) from ⟨hlen, out, e', vals_of_ints k1, he'⟩), rfl, q _ _ k2 k3 (I1.hok.fresh (Nat.le_refl _))⟩
  have hb : b < h'.objs.size := Heap.lt_size e
  rw [PyProof.Rows.sortedHeap_old (Nat.ne_of_lt hb) (by rw [size_push']; exact Nat.lt_succ_of_lt hb)]
  exact Heap.get?_push_of_some _ e
end Lp
set_option Elab.async false
set_option linter.all false
set_option maxRecDepth 100000
set_option maxHeartbeats 1000000
namespace Lp
open PySem PySem.Spec PyProof.Rows L2 L2.DX
/-! ### d.items() and sorted(d.items()) of a dict of ints by ints, any number of them -/
def rItemsI : V → List V → Hp → VK → Prop := fun x xs H Q => ∃ (a : Addr) (kvs : List (Key × V)), x = .ref a ∧ xs = [] ∧ H a = some (.dK kvs) ∧ ∀ p, H p = none → Q (.ref p) (upd H p (itemsO p a))
theorem mt_itemsI {X : Cx} : MtR X "dict.items" rItemsI := by
  intro pins s σ H x xs v us Q I rx rxs h
  obtain ⟨a, kvs, rfl, rfl, ha, q⟩ := h
  cases rx
  cases rxs
  obtain ⟨z, hd, vs, rel, dd⟩ := dk_of I.hok ha
  obtain ⟨o, es, ep, ho, hx, hdat, _⟩ := dd
  refine DT.callItems (es := es) (ep := ep) hd ⟨o, ho, hx, hdat⟩ ?_
  have hf : H s.heap.objs.size = none := I.hok.fresh (Nat.le_refl _)
  exact ⟨.ref s.heap.objs.size, upd H s.heap.objs.size (itemsO s.heap.objs.size a), I.laid (t' := s.toks) (fun b u e => Heap.get?_push_of_some _ e) (Nat.le_refl _) (itemsO_ok (Heap.get?_push_size _ rfl)), rfl, q _ hf⟩
abbrev entI (e : Int × Int) : Key × V := (Sum.inl e.1, V.int e.2)
def rSortItI : List V → Hp → VK → Prop := fun vs H Q => ∃ (p a : Addr) (ks : List (Int × Int)), vs = [.ref p] ∧ H p = some (itemsO p a) ∧ H a = some (.dK (ks.map entI)) ∧
  ∀ (H' : Hp) (l : Addr) (ps : List (Addr × Int × Int)), (∀ b o, H b = some o → H' b = some o) → (ps.map (·.2)).Perm ks → (ps.map (·.2)).Pairwise (fun e f => e.1 ≤ f.1) → H' l = some (.lst (ps.map fun z => V.ref z.1)) →
    (∀ z ∈ ps, H' z.1 = some (.tup [.int z.2.1, .int z.2.2])) → H l = none → (∀ z ∈ ps, H z.1 = none) → Q (.ref l) H'
def pairOf (as : List Addr) (ks : List (Int × Int)) : Value → Int × Int
  | .ref b => (ks[as.idxOf b]?).getD (0, 0)
  | _ => (0, 0)
theorem pairOf_at {as : List Addr} {ks : List (Int × Int)} (nd : as.Nodup) {j : Nat} {b : Addr} {e : Int × Int} (hj : as[j]? = some b) (he : ks[j]? = some e) : pairOf as ks (.ref b) = e := by
  obtain ⟨hl, hb⟩ := List.getElem?_eq_some_iff.mp hj
  have hi : as.idxOf b = j := by
    subst hb
    exact nd.idxOf_getElem j hl
  show (ks[as.idxOf b]?).getD (0, 0) = e
  rw [hi, he]
  rfl
theorem pairOf_all {as : List Addr} {ks : List (Int × Int)} (nd : as.Nodup) (hl : as.length = ks.length) : as.map (fun b => pairOf as ks (.ref b)) = ks := by
  refine List.ext_getElem? fun j => ?_
  rw [List.getElem?_map]
  cases hj : as[j]? with
  | none =>
    have h1 := List.getElem?_eq_none_iff.mp hj
    exact (List.getElem?_eq_none (by omega)).symm
  | some b =>
    obtain ⟨h1, _⟩ := List.getElem?_eq_some_iff.mp hj
    have he : ks[j]? = some (ks[j]'(by omega)) := List.getElem?_eq_getElem (by omega)
    rw [he]
    exact congrArg some (pairOf_at nd hj he)
def adOf : Value → Addr
  | .ref b => b
  | _ => 0
theorem adOf_ref : ∀ {out : List Value}, (∀ v ∈ out, ∃ b, v = Value.ref b) → out = (out.map adOf).map Value.ref
  | [], _ => rfl
  | v :: out, h => by
    obtain ⟨b, rfl⟩ := h v List.mem_cons_self
    show Value.ref b :: out = Value.ref b :: (out.map adOf).map Value.ref
    rw [← adOf_ref fun u hu => h u (List.mem_cons_of_mem _ hu)]
theorem adOf_map (as : List Addr) : (as.map Value.ref).map adOf = as := by
  rw [List.map_map]
  exact List.map_id as
theorem cr_sortedItemsI {X : Cx} (hc : X.calm = true) : CallR X (.builtin "sorted") rSortItI := by
  intro pins s σ H xs us Q I r h
  obtain ⟨p, a, ks, rfl, hp, ha, q⟩ := h
  obtain rfl := Vals.ref1 r
  have view : s.heap.IsItemsView p a := (show ObjOk X.prog X.w H s.heap p (itemsO p a) from I.hok p _ hp).1
  obtain ⟨z, hd, vs, rel, o, es, ep, ho, hx, hdat, hes, hprs, hn⟩ := dk_of I.hok ha
  have l1 : (ks.map entI).length = vs.length := rel.length
  have l0 : (ks.map entI).length = ks.length := List.length_map ..
  have l2 : es.size = vs.length := by rw [← hprs.length]; simp
  have hh : X.A.handled = none := I.ok.hd hc
  refine DT.sortedI (es := es) (ep := ep) hh view ⟨o, ho, hx, hdat⟩ (by omega) fun h' tk as hk hlt hl hG => ?_
  have lak : as.length = ks.length := by omega
  have nd : as.Nodup := List.Pairwise.imp (fun h => Nat.ne_of_lt h) hG.rise
  -- the pairs that were made
  have pr : ∀ (j : Nat) (b : Addr), as[j]? = some b → ∃ (e : Int × Int) (t1 t2 : Tok), ks[j]? = some e ∧ h'.get? b = some { cls := .type "tuple", data := .seq #[Value.int e.1 t1, Value.int e.2 t2] } := by
    intro j b hj
    obtain ⟨en, he, hg⟩ := hG.pairs j b hj
    obtain ⟨hjl, _⟩ := List.getElem?_eq_some_iff.mp hj
    have hkj : ks[j]? = some (ks[j]'(by omega)) := List.getElem?_eq_getElem (by omega)
    have hvj : vs[j]? = some (vs[j]'(by omega)) := List.getElem?_eq_getElem (by omega)
    obtain ⟨e1, e2⟩ := hprs.get? (e := en) (by rw [Array.getElem?_toList]; exact he) (show vs[j]? = some ((vs[j]'(by omega)).1, (vs[j]'(by omega)).2) from hvj)
    obtain ⟨x, hx1, hx2⟩ := KV.at' rel (show vs[j]? = some ((vs[j]'(by omega)).1, (vs[j]'(by omega)).2) from hvj)
    rw [List.getElem?_map, hkj] at hx1
    have e3 := Option.some.inj hx1
    have e4 : Sum.inl (ks[j]'(by omega)).1 = (vs[j]'(by omega)).1 := congrArg Prod.fst e3
    have e5 : V.int (ks[j]'(by omega)).2 = x := congrArg Prod.snd e3
    subst e5
    obtain ⟨t2, e6⟩ := hx2
    rw [← e4] at e1
    rcases keyIs_shape (show keyIs (Sum.inl (ks[j]'(by omega)).1) en.key = true from e1) with ⟨i, t, ek, ev⟩ | ⟨z, t, ek, ev⟩
    · cases ek
      refine ⟨_, t, t2, hkj, ?_⟩
      rw [hg, ev, e2, e6]
    · cases ek
  have hob : (h'.push { cls := .type "list", data := .seq (as.map Value.ref).toArray }).get? h'.objs.size = some (seqObj "list" (as.map Value.ref).toArray 0) := Heap.get?_push_size _ rfl
  have kb : ∀ b o, s.heap.get? b = some o → (h'.push { cls := .type "list", data := .seq (as.map Value.ref).toArray }).get? b = some o := fun b o e => Heap.get?_push_of_some _ (hk b o e)
  have ne0 : ∀ b o, h'.get? b = some o → b ≠ h'.objs.size := fun b o e => Nat.ne_of_lt (Heap.lt_size e)
  generalize hh2 : h'.push { cls := .type "list", data := .seq (as.map Value.ref).toArray } = h2 at hob kb ⊢
  have ka : ∀ b o, h'.get? b = some o → h2.get? b = some o := fun b o e => by rw [← hh2]; exact Heap.get?_push_of_some _ e
  have at_ : ∀ v ∈ as.map Value.ref, ∃ (j : Nat) (b : Addr), v = .ref b ∧ as[j]? = some b := by
    intro v hv'
    obtain ⟨b, hb, rfl⟩ := List.mem_map.mp hv'
    obtain ⟨j, hj⟩ := List.mem_iff_getElem?.mp hb
    exact ⟨j, b, rfl, hj⟩
  have isp : ∀ v ∈ as.map Value.ref, Srt.IsPair h2 v (pairOf as ks v).1 (pairOf as ks v).2 := by
    intro v hv'
    obtain ⟨j, b, rfl, hj⟩ := at_ v hv'
    obtain ⟨e, t1, t2, he, hg⟩ := pr j b hj
    rw [pairOf_at nd hj he]
    exact ⟨b, _, t1, t2, _, rfl, ka _ _ hg, rfl, rfl⟩
  have hz2 : (as.map Value.ref).length ≤ sizeLine := by rw [List.length_map]; omega
  refine wpAny_call_entry PyProof.Rows.slot_list_sort ⟨_, hob, rfl⟩ PyProof.Rows.entry_list_sort
    (SrtO.list_sort_ord (s := { s with heap := h2, toks := tk }) (SrtO.swo_lex (pairOf as ks)) hob hz2 (fun h2' => SrtO.pairs_sortableO (s := { s with heap := h2, toks := tk }) (by omega) isp fun o e => ?_) fun out o1 o2 => ⟨.none, rfl, ?_⟩) (PyProof.Rows.args_list_sort _)
  · have e' : some o = some (seqObj "list" (as.map Value.ref).toArray 0) := e.symm.trans hob
    cases e'
    intro c
    exact absurd (Value.type.inj c) (by decide)
  · show EP X pins σ Q (.ref h'.objs.size) { s with heap := sortedHeap h2 h'.objs.size (as.map Value.ref) out.toArray, toks := tk }
    have rfs : ∀ v ∈ out, ∃ b, v = Value.ref b := fun v hv => by
      obtain ⟨_, b, e, _⟩ := at_ v (o2.perm.mem_iff.mp hv)
      exact ⟨b, e⟩
    have eo := adOf_ref rfs
    have pz : (out.map adOf).Perm as := by
      have e := o2.perm.map adOf
      rw [adOf_map] at e
      exact e
    generalize hzs : out.map adOf = zs at eo pz
    have hall := pairOf_all nd lak
    have hperm : (zs.map fun b => pairOf as ks (.ref b)).Perm ks := by
      have e := pz.map fun b => pairOf as ks (.ref b)
      rw [hall] at e
      exact e
    have hsort : (zs.map fun b => pairOf as ks (.ref b)).Pairwise (fun e f => e.1 ≤ f.1) := by
      rw [eo] at o1
      have o3 := List.pairwise_map.mp (show ((zs.map Value.ref).Pairwise fun x y => SrtO.lexB (pairOf as ks y) (pairOf as ks x) = false) from o1)
      refine List.pairwise_map.mpr (o3.imp fun {x y} h => ?_)
      have h' := SrtO.lexB_no.mp h
      omega
    -- behind the sort
    have kF : ∀ b o, b ≠ h'.objs.size → h2.get? b = some o → (sortedHeap h2 h'.objs.size (as.map Value.ref) out.toArray).get? b = some o := fun b o hb e => (PyProof.Rows.sortedHeap_old hb (Heap.lt_size e)).trans e
    have kS : ∀ b o, s.heap.get? b = some o → (sortedHeap h2 h'.objs.size (as.map Value.ref) out.toArray).get? b = some o := fun b o e => kF b o (ne0 _ _ (hk b o e)) (kb b o e)
    obtain ⟨eF, heF⟩ := PyProof.Rows.sortedHeap_at (vs := as.map Value.ref) (out := out.toArray) hob
    have I1 : Inv X pins σ H { s with heap := sortedHeap h2 h'.objs.size (as.map Value.ref) out.toArray, toks := tk } := I.kept (t' := tk) kS
    have hn0 : H h'.objs.size = none := I.hok.fresh (Nat.le_of_lt hlt)
    have hlen : (zs.map fun z => V.ref z).length ≤ sizeLine := by
      have e := hperm.length_eq
      rw [List.length_map] at e
      rw [List.length_map]
      omega
    have rv : Vals (zs.map fun z => V.ref z) out := by
      rw [eo]
      exact vals_maps (fun z : Addr => V.ref z) (fun z => Value.ref z) zs fun _ _ => rfl
    have I2 : Inv X pins σ (upd H h'.objs.size (.lst (zs.map fun z => V.ref z))) { s with heap := sortedHeap h2 h'.objs.size (as.map Value.ref) out.toArray, toks := tk } :=
      I1.take (h' := sortedHeap h2 h'.objs.size (as.map Value.ref) out.toArray) (t' := tk) (fun b ob _ e => e) (I.fpOk (Nat.le_of_lt hlt) hn0) ⟨hlen, out, eF, rv, heF⟩
    obtain ⟨H2, I3, g, qt⟩ := takeT (P := fun b vs => vs = [V.int (pairOf as ks (.ref b)).1, V.int (pairOf as ks (.ref b)).2]) I as _ I2 nd fun b hb => by
      obtain ⟨j, hj⟩ := List.mem_iff_getElem?.mp hb
      obtain ⟨e, t1, t2, he, hg⟩ := pr j b hj
      have hbl : s.heap.objs.size ≤ b := Nat.le_of_lt (hG.above b hb)
      refine ⟨hbl, ?_, _, rfl, fun H3 => ⟨(by rw [sizeLine_eq]; show 2 ≤ 16777216; omega), [Value.int e.1 t1, Value.int e.2 t2], ?_, ⟨_, kF _ _ (ne0 _ _ hg) (ka _ _ hg), rfl, 0, rfl⟩⟩⟩
      · rw [upd_ne (ne0 _ _ hg)]
        exact I.hok.fresh hbl
      · rw [pairOf_at nd hj he]
        exact .cons ⟨t1, rfl⟩ (.cons ⟨t2, rfl⟩ .nil)
    have gr : ∀ b o, H b = some o → H2 b = some o := fun b o e => g b o (by rw [upd_ne (ne_of_none e hn0)]; exact e)
    have em : (zs.map fun b => (b, pairOf as ks (.ref b))).map (·.2) = zs.map fun b => pairOf as ks (.ref b) := by
      rw [List.map_map]
      all_goals rfl
    have em1 : ((zs.map fun b => (b, pairOf as ks (.ref b))).map fun z => V.ref z.1) = zs.map fun z => V.ref z := by
      rw [List.map_map]
      all_goals rfl
    refine ⟨.ref h'.objs.size, H2, I3, rfl, q H2 h'.objs.size (zs.map fun b => (b, pairOf as ks (.ref b))) gr (by rw [em]; exact hperm) (by rw [em]; exact hsort) (by rw [em1]; exact g _ _ upd_same) (fun z' hz' => ?_) hn0 fun z' hz' => ?_⟩
    · obtain ⟨b, hb, rfl⟩ := List.mem_map.mp hz'
      obtain ⟨vs', ev, hH⟩ := qt b (pz.mem_iff.mp hb)
      rw [ev] at hH
      exact hH
    · obtain ⟨b, hb, rfl⟩ := List.mem_map.mp hz'
      exact I.hok.fresh (Nat.le_of_lt (hG.above b (pz.mem_iff.mp hb)))
end Lp
set_option Elab.async false
set_option linter.all false
set_option maxRecDepth 100000
set_option maxHeartbeats 1000000
namespace Lp
open PySem PySem.Spec PyProof.Rows L2
/-! ### y not in x: by __contains__ of an own class -/
section
variable {X : Cx} {k j : Nat} {C : Addr} {sp : Sp}
theorem pc_notinO {i o : Expr} {ty td : TE} (c : Met X.prog X.w X.K X.mg X.base k C "__contains__" sp) (hr : Room j X.A) (hk : k ≤ j) (hi : PE X i ty) (ho : PE X o td) : PC X .NotIn i o (tInO C sp ty td true) := by
  obtain ⟨f, fd, ps, hc, hm, F, b⟩ := c.ex
  refine ⟨fun pins s σ H Q I h => ?_⟩
  refine thn (hi.run pins s σ H _ I h) fun iv s1 ⟨y, H1, I1, ry, q1⟩ => thn (ho.run pins s1 σ H1 _ I1 q1) fun u s2 ⟨x, H2, I2, rx, a, dx, fs, ex, ea, q2⟩ => ?_
  subst ex
  cases (show u = Value.ref a from rx)
  obtain ⟨ox, od, J⟩ := inst_of I2 ea
  refine wpAny_bind ?_
  unfold contains
  refine wpAny_holding (wpAny_bind (wpAny_bind (J.type.here ((PySem.W.looks_findIn I2.kIn hm.at_).here ?_))))
  rw [if_neg (by simp)]
  refine wpAny_bind (PySem.W.unlessNone_K I2.kIn J hm.at_ hm.fn (wpAny_mono (run_at (vs := [.ref a, y]) F (hr.mono hk) b I2 I2.env0 (.cons rfl (.cons ry .nil)) q2) (fun v s' hv => ?_) fun _ _ z => z))
  obtain ⟨v, H', I', rv, b', rfl, hq⟩ := hv
  cases rv
  refine wpAny_of_eq (a := b') (by first | rfl | simp [truthy]) ?_
  exact wpAny_pure ⟨.bl (!b'), H', I', rfl, hq⟩
end
end Lp
set_option Elab.async false
set_option linter.all false
set_option maxRecDepth 100000
set_option maxHeartbeats 1000000
namespace Lp
open PySem PySem.Spec PyProof.Rows L2 L2.DX
/-! ### x(e, ..) and x(k = e) of an instance, by __call__; x any expression -/
structure MetK (P : Program) (w : World) (K : PySem.W.Frag) (mg : Str → Option Value) (base : Heap) (k : Nat) (C : Addr) (m : Str) (n : Nat) (ks : List Str) (gV : List V → List V → List V) (sp : Sp) : Prop where
  ex : ∃ (f : Addr) (fd : FuncData) (ps : List Str) (g : List Value → List Value → List Value), Cls K C ∧ Meth K C m f ∧ FnOk P w K mg base CX0 k f fd ps sp ∧ KBn K fd ps n ks g gV
section
variable {X : Cx} {k j : Nat} {C : Addr} {sp : Sp} {p pos : Pos} {fe e : Expr} {es : List Expr} {t tk' : TA} {tf : TE} {kws : List Keyword} {ks : List Str} {gV : List V → List V → List V}
def tCallE (C : Addr) (sp : Sp) (tf : TE) (t : TA) : TE := fun σ H Q => tf σ H fun x H1 => ∃ a : Addr, x = .ref a ∧ t σ H1 fun vs H2 => ∃ (dx : Addr) (fs : List (Str × V)), H2 a = some (.ins C dx fs) ∧ sp (.ref a :: vs) H2 Q E0
theorem pe_callE (c : Met X.prog X.w X.K X.mg X.base k C "__call__" sp) (fi : ∀ f, PySem.W.findIn X.K (.ref C) "__call__" = some (some (.ref f)) → PySem.W.fnIn X.K f = true) (hr : Room j X.A) (hk : k ≤ j) (hf : PE X fe tf) (ha : PA X (e :: es) t)
    (hc : eval (.Call fe (e :: es) [] pos) X.env = (do callWith pos (← eval fe X.env) [] (backTo pos (starEach (e :: es) X.env)) (backToKw pos (keywordEach [] X.env))) := by rfl)
    (he : starEach (e :: es) X.env = (false, eval e X.env) :: starEach es X.env := by rfl) (hpl : (backTo pos (starEach es X.env)).any (·.1) = false := by rfl) : PE X (.Call fe (e :: es) [] pos) (tCallE C sp tf t) := by
  obtain ⟨f, fd, ps, hc', hm, F, b⟩ := c.ex
  refine ⟨fun pins s σ H Q I h => ?_⟩
  refine Call_ (thn (hf.run pins s σ H _ I h) fun u s1 ⟨v, H1, I1, r1, a, ev, ht⟩ => ?_) hc
  subst ev
  cases (show u = Value.ref a from r1)
  have go := ha.run pos pins s1 σ _ _ I1 ht
  rw [he] at go ⊢
  refine callWith_obj (by show ((false || (backTo pos (starEach es X.env)).any (·.1)) || false) = false; rw [hpl]; rfl) (Calls.evalArgs_plain ?_)
  refine thn go fun us s2 ⟨vs, H2, I2, r, dx, fs, ea, q⟩ => ?_
  obtain ⟨ox, od, J, hd⟩ := inst_plain I2 ea
  refine ⟨⟨C, ox, od, J, hd⟩, ?_⟩
  have rr : Vals (.ref a :: vs) (.ref a :: us) := .cons rfl r
  have hl : (Value.ref a :: us).length = ps.length := by rw [← rr.length]; exact F.len _ _ _ _ q
  have bd := b s2 (.ref a :: us) I2.kIn (by rw [List.append_nil]; exact hl)
  rw [List.append_nil] at bd
  refine wpAny_call (PySem.W.kco_code I2.kIn J hd hm.at_ hm.fn (fi f hm.at_) (codeAny_mono (F.run X.A X.stack s2 H2 ⟨.ref a :: us, []⟩ (.ref a :: us) (.ref a :: vs) Q E0 (hr.mono hk) I2.env0 bd rr q) fun r s' hq => ?_))
  cases r with
  | error e => exact hq.elim
  | ok fl =>
    cases fl with
    | ret u => exact I2.after hq
    | next => exact False.elim hq
    | brk => exact False.elim hq
    | cont => exact False.elim hq
def tCallEK (C : Addr) (m : Nat) (sp : Sp) (gV : List V → List V → List V) (tf : TE) (t : TA) : TE := fun σ H Q => tf σ H fun x H1 => ∃ a : Addr, x = .ref a ∧ t σ H1 fun zs H2 => ∃ (dx : Addr) (fs : List (Str × V)), zs.length = m ∧ H2 a = some (.ins C dx fs) ∧ sp (gV [.ref a] zs) H2 Q E0
theorem pe_callEK (c : MetK X.prog X.w X.K X.mg X.base k C "__call__" 1 ks gV sp) (fi : ∀ f, PySem.W.findIn X.K (.ref C) "__call__" = some (some (.ref f)) → PySem.W.fnIn X.K f = true) (hr : Room j X.A) (hk : k ≤ j) (hf : PE X fe tf) (hkw : PK X kws tk')
    (hc : eval (.Call fe [] kws pos) X.env = (do callWith pos (← eval fe X.env) [] (backTo pos (starEach [] X.env)) (backToKw pos (keywordEach kws X.env))) := by rfl)
    (hall : (backToKw pos (keywordEach kws X.env)).all (·.1.isSome) = true := by rfl) (hks : (backToKw pos (keywordEach kws X.env)).filterMap (·.1) = ks := by rfl)
    (hpl : ((backTo pos (starEach [] X.env)).any (·.1) || (backToKw pos (keywordEach kws X.env)).any (·.1.isNone)) = false := by rfl) : PE X (.Call fe [] kws pos) (tCallEK C ks.length sp gV tf tk') := by
  obtain ⟨f, fd, ps, g, hc', hm, F, b⟩ := c.ex
  refine ⟨fun pins s σ H Q I h => ?_⟩
  rw [hc]
  refine wpAny_bind (thn (hf.run pins s σ H _ I h) fun u s1 ⟨v, H1, I1, r1, a, ev, ht⟩ => ?_)
  subst ev
  cases (show u = Value.ref a from r1)
  refine callWith_obj hpl (evalArgs_kw2_nil hall ?_)
  refine thn (hkw.run pos pins s1 σ _ _ I1 ht) fun ws s2 ⟨zs, H2, I2, rz, dx, fs, lz, ea, q⟩ => ?_
  obtain ⟨ox, od, J, hd⟩ := inst_plain I2 ea
  refine ⟨⟨C, ox, od, J, hd⟩, ?_⟩
  have r0 : Vals [.ref a] [Value.ref a] := .cons rfl .nil
  have rr := b.rel r0 rz
  have bd := b.to s2 [.ref a] ws I2.kIn rfl (rz.length.symm.trans lz)
  rw [hks]
  refine wpAny_call (PySem.W.kco_code I2.kIn J hd hm.at_ hm.fn (fi f hm.at_) (codeAny_mono (F.run X.A X.stack s2 H2 ⟨[.ref a], ks.zip ws⟩ (g [.ref a] ws) (gV [.ref a] zs) Q E0 (hr.mono hk) I2.env0 bd rr q) fun r s' hq => ?_))
  cases r with
  | error e => exact hq.elim
  | ok fl =>
    cases fl with
    | ret u => exact I2.after hq
    | next => exact False.elim hq
    | brk => exact False.elim hq
    | cont => exact False.elim hq
end
/-! ### d.values() and list(d.values()) -/
def valsO (p d : Addr) : HO := .ext fun h => h.IsValuesView p d
theorem valsO_ok {P : Program} {w : World} {H : Hp} {h : Heap} {p d : Addr} (e : h.get? p = some { cls := .type "dict_values", data := .fields #[.ref d] }) : ObjOk P w H h p (valsO p d) :=
  ⟨⟨_, e, rfl, rfl⟩, ⟨_, e⟩, fun h1 h2 x k => let ⟨o, ho, r⟩ := x; ⟨o, k o ho, r⟩⟩
def rValuesI : V → List V → Hp → VK → Prop := fun x xs H Q => ∃ (a : Addr) (kvs : List (L2.Key × V)), x = .ref a ∧ xs = [] ∧ H a = some (.dK kvs) ∧ ∀ p, H p = none → Q (.ref p) (upd H p (valsO p a))
theorem mt_valuesI {X : Cx} : MtR X "dict.values" rValuesI := by
  intro pins s σ H x xs v us Q I rx rxs h
  obtain ⟨a, kvs, rfl, rfl, ha, q⟩ := h
  cases rx
  cases rxs
  obtain ⟨z, hd, vs, rel, dof⟩ := dk_of I.hok ha
  obtain ⟨ep, dat⟩ := dof.dictAt
  obtain ⟨ob, es, ho, ex, hdat, hko, hpr, hnd⟩ := id dat
  refine call_meetsIn PySem.F.slot_dict_values ⟨ob, ho, ex.1⟩ PySem.F.entry_dict_values (PySem.F.args_dict_values_1 _) (meets_dict_values (mixKind X.prog X.w) a hd) ⟨⟨vs, dof⟩, ?_⟩
  have hf : H s.heap.objs.size = none := I.hok.fresh (Nat.le_refl _)
  exact ⟨.ref s.heap.objs.size, upd H s.heap.objs.size (valsO s.heap.objs.size a), I.laid (t' := s.toks) (fun b u e => Heap.get?_push_of_some _ e) (Nat.le_refl _) (valsO_ok (Heap.get?_push_size _ rfl)), rfl, q _ hf⟩
def rListVals : List V → Hp → VK → Prop := fun xs H Q => ∃ (p a : Addr) (kvs : List (L2.Key × V)), xs = [.ref p] ∧ H p = some (valsO p a) ∧ H a = some (.dK kvs) ∧ ∀ q, H q = none → Q (.ref q) (upd H q (.lst (kvs.map (·.2))))
theorem call_listVals {X : Cx} (hc : X.calm = true) : CallR X (.type "list") rListVals := by
  intro pins s σ H xs us Q I r h
  obtain ⟨p, a, kvs, e, hp, hk, q⟩ := h
  subst e
  obtain ⟨u, eu, rx⟩ := vals1 r
  subst eu
  obtain rfl : u = Value.ref p := rx
  have view : s.heap.IsValuesView p a := (show ObjOk X.prog X.w H s.heap p (valsO p a) from I.hok p _ hp).1
  obtain ⟨z, lo, vs, rk, hd⟩ := (show ObjOk X.prog X.w H s.heap a (.dK kvs) from I.hok a _ hk)
  obtain ⟨ep, hat⟩ := hd.dictAt
  have hl : kvs.length = vs.length := Paired.length rk
  refine PySem.W.kdl_call (PySem.W.kdl_values (knd := mixKind X.prog X.w) (kvs := vs) (ep := ep)) (I.ok.hd hc) ⟨view, hat⟩ (by rw [← hl]; exact z) fun h' tk acc' c' hkeep hS hacc => ?_
  refine ⟨.ref s.heap.objs.size, upd H s.heap.objs.size (.lst (kvs.map (·.2))), I.laid hkeep (Nat.le_refl _) (show ObjOk X.prog X.w _ _ _ (.lst (kvs.map (·.2))) from ⟨?_, acc'.toList, c', ?_, ?_⟩), rfl, q _ (I.hok.fresh (Nat.le_refl _))⟩
  · rw [List.length_map]; exact z
  · have el : acc'.toList.length = acc'.size := by simp
    refine vals_of_at (by rw [List.length_map, el, hacc.1, hl]) fun j x w h1 h2 => ?_
    obtain ⟨k, hky⟩ := hacc.2 j w (by rw [← Array.getElem?_toList]; exact h2)
    obtain ⟨y, e1, e2⟩ := KV.at' rk hky
    rw [List.getElem?_map, e1] at h1
    cases h1
    exact e2
  · rw [Array.toArray_toList]; exact hS
end Lp
set_option Elab.async false
set_option linter.all false
set_option maxRecDepth 100000
set_option maxHeartbeats 1000000
namespace Lp
open PySem PySem.Spec PyProof.Rows L2
/-! ### set(xs) and sorted(set(xs)) of ints, any number of them -/
def rSetLG (K : PySem.W.Frag) (w : World) : List V → Hp → VK → Prop := fun xs H Q => ∃ (a : Addr) (ns : List Int), xs = [V.ref a] ∧ SqL K H a (ns.map V.int) ∧ ns.length ≤ 1000 ∧ ∀ (p : Addr) (c : Nat), H p = none → c ≤ ns.length → Q (.ref p) (upd H p (SetO w p (fun j => decide (j ∈ ns)) c))
theorem cr_setLG {X : Cx} (hc : X.calm = true) : CallR X (.type "set") (rSetLG X.K X.w) := by
  intro pins s σ H xs us Q I r h
  obtain ⟨a, ns, rfl, hq, hl, q⟩ := h
  cases r with
  | cons r rr =>
    cases rr
    cases (show _ = Value.ref a from r)
    obtain ⟨its, rv, p, _⟩ := I.list hq
    refine call_set_listI ns (I.ok.hd hc) p.isList (RZ.intsAre_vals rv) (Nat.lt_of_le_of_lt (Nat.succ_le_succ hl) (by decide)) fun h' tk c hs hcn hk => ?_
    refine ⟨.ref _, upd H _ (SetO X.w s.heap.objs.size (fun j => decide (j ∈ ns)) c), I.laid hk (Nat.le_refl _) ⟨hs, ?_, fun h1 h2 x k => ?_⟩, rfl, q _ c (I.hok.fresh (Nat.le_refl _)) hcn⟩
    · obtain ⟨o, _, _, _, e, _⟩ := hs
      exact ⟨o, e⟩
    · obtain ⟨o, es, ep, t, e, r⟩ := x
      exact ⟨o, es, ep, t, k o e, r⟩
section
variable {P : Program} {w : World} {A : Around} {E : Value → Shared → Prop} {s : Shared} {a : Addr}
theorem sorted_setG {S : Int → Bool} {n : Nat} {Q : Value → Shared → Prop} (R : SetR w s.heap a S n) (hh : A.handled = none) (hn : n ≤ 100000)
    (hQ : ∀ s' p (out : Array Value) (c : Nat) (ns : List Int), (∀ b o, s.heap.get? b = some o → s'.heap.get? b = some o) → s'.gens = s.gens → s'.os = s.os → s.heap.objs.size ≤ p →
      s'.heap.get? p = some (seqObj "list" out c) → IntsAre out.toList ns → ns.Pairwise (· ≤ ·) → ns.Nodup → (∀ k, k ∈ ns ↔ S k = true) → ns.length = n → Q (.ref p) s') :
    wpAny (model P w) A (call (.builtin "sorted") [.ref a]) Q E s := by
  obtain ⟨o, es, ep, t, ho, hex, hd, g, nd, hm, hb, hf, hn', hr, hl⟩ := R
  refine Calls.call_function_entry PyProof.Rows.kind_sorted PyProof.Rows.plain_sorted PyProof.Rows.entry_sorted (PyProof.Rows.args_sorted1 _) ?_
  unfold Builtin.«sorted»
  refine wpAny_bind (m := checkCount "sorted" 1 1 _) (wpAny_pure ?_)
  refine wpAny_bind (collect_set (A := A.in1) hh ⟨o, ho, hex.1, hd⟩ hf hb hr hl fun s1 vs k1 hz g1 o1 pm => ?_)
  have hvl : vs.length = n := by rw [pm.length_eq, List.length_map, Array.length_toList]; exact hn'
  have hI : IntsAre vs (vs.map Builtin.Re.reRawOf) := ints_of vs fun v hv => by
    obtain ⟨e, he, q⟩ := List.mem_map.mp (pm.mem_iff.mp hv)
    obtain ⟨k, tk, h1, _⟩ := g e he
    exact ⟨k, tk, by rw [← q]; exact h1⟩
  have pk : (vs.map Builtin.Re.reRawOf).Perm (es.toList.map keyOf) := by
    have q := pm.map Builtin.Re.reRawOf
    rw [List.map_map] at q
    exact q
  have hz2 : vs.length ≤ sizeLine := by rw [hvl]; exact zs hn
  refine wpAny_bind (wpAny_newList ?_ hz2)
  have hoL : (s1.heap.push (seqObj "list" vs.toArray 0)).get? s1.heap.objs.size = some (seqObj "list" vs.toArray 0) := Heap.get?_push_size _ rfl
  refine wpAny_bind (wpAny_holding (wpAny_call_entry PyProof.Rows.slot_list_sort ⟨_, hoL, rfl⟩ PyProof.Rows.entry_list_sort
    (SrtO.list_sort_ord SrtO.swo_int hoL hz2 (fun h2 => SrtO.ints_sortable hI h2) fun out g1' g2 => ⟨_, rfl, ?_⟩) (PyProof.Rows.args_list_sort _)))
  obtain ⟨q1, q2, q3⟩ := SrtO.ints_out hI g1' g2
  obtain ⟨c, hc⟩ := PyProof.Rows.sortedHeap_at (vs := vs) (out := out.toArray) hoL
  have pn : (out.map SrtO.iv).Perm (es.toList.map keyOf) := q2.trans pk
  refine wpAny_pure ⟨_, rfl, hQ _ s1.heap.objs.size out.toArray c (out.map SrtO.iv) (fun b u e => ?_) g1 o1 hz hc (by simpa using q1) q3 (pn.nodup_iff.mpr nd) (fun k => by rw [pn.mem_iff, ← hm k]) ?_⟩
  · have q := k1 b u e
    have hlt := Heap.lt_size q
    show (PyProof.Rows.sortedHeap (s1.heap.push (seqObj "list" vs.toArray 0)) s1.heap.objs.size vs out.toArray).get? b = some u
    rw [PyProof.Rows.sortedHeap_old (Nat.ne_of_lt hlt) (by rw [size_push']; exact Nat.lt_succ_of_lt hlt)]
    exact Heap.get?_push_of_some _ q
  · rw [pn.length_eq, List.length_map, Array.length_toList]; exact hn'
end
section
variable {X : Cx}
def rSortedSetG (w : World) : List V → Hp → VK → Prop := fun vs H Q => ∃ (a : Addr) (S : Int → Bool) (n : Nat), vs = [V.ref a] ∧ H a = some (SetO w a S n) ∧ n ≤ 100000 ∧
  ∀ (ns : List Int) (p : Addr), ns.Pairwise (· ≤ ·) → ns.Nodup → (∀ k : Int, k ∈ ns ↔ S k = true) → H p = none → Q (.ref p) (upd H p (.lst (ns.map V.int)))
theorem cr_sortedSetG (hc : X.calm = true) : CallR X (.builtin "sorted") (rSortedSetG X.w) := by
  intro pins s σ H vs us Q I r h
  obtain ⟨a, S, n, rfl, ha, h64, q⟩ := h
  have R := setO_get I ha
  rw [Vals.ref1 r]
  refine sorted_setG R (I.ok.hd hc) h64 fun s' p out c ns k g o hp hg hi hs hnd hm hl => ?_
  have hlen : (ns.map V.int).length ≤ sizeLine := by rw [List.length_map, hl]; exact zs h64
  have hn : H p = none := I.hok.fresh hp
  have J : Inv X pins σ (upd H p (.lst (ns.map V.int))) { s with heap := s'.heap, gens := s'.gens, drawn := s'.drawn, toks := s'.toks } :=
    I.call (ch := []) (Un.laid k hp hn) (I.hok.laid k hp ⟨hlen, out.toList, c, vals_of_ints hi, hg⟩) (by rw [g]; exact I.bare) (fun _ z => nomatch z)
  have e : s' = { s with heap := s'.heap, gens := s'.gens, drawn := s'.drawn, toks := s'.toks } := by
    cases s'
    cases s
    cases o
    rfl
  rw [e]
  exact ⟨.ref p, _, J, rfl, q ns p hs hnd hm hn⟩
end
end Lp
set_option Elab.async false
set_option linter.all false
set_option maxRecDepth 100000
set_option maxHeartbeats 1000000
namespace Lp
open PySem PySem.Spec PyProof.Rows L2
/-! ### a != b of two instances whose class has __eq__ alone -/
theorem one_bind (self : Value) : bindSpecial (.builtin "object.__ne__") self = pure (.builtin "object.__ne__", [self]) :=
  (Slot.of (T := "object") (name := "__ne__") (owner := "object") (n := "__ne__") (by rw [typeLookup_type, builtinLookup_eq_fast]; kernel_rfl) (by decide +kernel) (by decide +kernel) (by decide +kernel)
    (.inl (by decide +kernel)) (by rw [isSubtype_type]; kernel_rfl)).bind self
theorem ifBound_ne {M : Model} {A : Around} {E : Value → Shared → Prop} {s : Shared} {K : PySem.W.Frag} {x C : Addr} {ox : Obj} {od : Option Obj} {args : List Value} {Q : Option Value → Shared → Prop} (X : K.In s.heap) (I : PySem.W.InstAt s.heap x ox C od) (hs : PySem.W.findIn K (.ref C) "__ne__" = some (some (.builtin "object.__ne__")))
    (h : wpAny M A (call (.builtin "object.__ne__") (.ref x :: args)) (fun v => Q (some v)) E s) : wpAny M A (callSpecialIfBound? (.ref x) "__ne__" args) Q E s := by
  simp only [callSpecialIfBound?, bindSpecialIfBound?]
  refine wpAny_holding (wpAny_bind (wpAny_bind (wpAny_bind (I.type.here ((PySem.W.looks_findIn X hs).here ?_)))))
  refine wpAny_bind (wpAny_askSetting (wpAny_ite ?_))
  have fin : wpAny M A (call (.builtin "object.__ne__") ([.ref x] ++ args) >>= fun v => pure (some v)) Q E s := wpAny_bind (wpAny_mono h (fun v s' h' => wpAny_pure h') fun _ _ h' => h')
  have bnd : PySem.W.Looks M s.heap (bindSpecial (.builtin "object.__ne__") (.ref x)) (.builtin "object.__ne__", [.ref x]) := PySem.W.Looks.of_pure (one_bind _)
  split
  · exact wpAny_bind (bnd.here (wpAny_pure (by exact fin)))
  · exact wpAny_tryCatch (wpAny_bind (bnd.here (wpAny_pure (by exact fin))))
theorem ne_entry {prog : Program} {w : World} {A : Around} {E : Value → Shared → Prop} {s : Shared} {K : PySem.W.Frag} {x C f : Addr} {ox : Obj} {od : Option Obj} {b : Value} {Q : Value → Shared → Prop} (hu : A.in1.units < cLine) (X : K.In s.heap) (I : PySem.W.InstAt s.heap x ox C od)
    (hob : PySem.W.subIn K (.ref C) (.type "object") = some true) (at_ : PySem.W.findIn K (.ref C) "__eq__" = some (some (.ref f))) (isf : PySem.W.isFn K (.ref f) = true)
    (go : wpAny (model prog w) A.in1 (call (.ref f) [.ref x, b]) (fun v s' => ∃ c, v = .bool c ∧ Q (.bool (!c)) s') E s) : wpAny (model prog w) A (call (.builtin "object.__ne__") [.ref x, b]) Q E s := by
  have hi : PySem.W.Looks (model prog w) s.heap (isInstance (.ref x) (.type "object")) true := I.type.andThen (PySem.W.looks_subIn X hob)
  refine wpAny_call (codeAny_call_builtin (by decide +kernel) F.cmpEntry_ne (PySem.W.check_slot F.cmpKind_ne F.cmpSplit_ne hi (F.cmpArgs_ne _ _) ?_))
  unfold Builtin.«object.__ne__»
  refine wpAny_bind (m := slotArgs "__ne__" 1 _) (wpAny_of_eq (a := ((Value.ref x : Value), [b])) (by first | rfl | (simp only [slotArgs]; rfl)) ?_)
  refine wpAny_bind (wpAny_cRoomFor hu ?_)
  refine wpAny_bind (m := callSpecialIfBound? (.ref x) (Str.ofString "__eq__") [b]) (PySem.W.ifBound_K X I at_ isf (wpAny_mono go (fun v s' hv => ?_) fun _ _ z => z))
  obtain ⟨c, rfl, hq⟩ := hv
  show wpAny (model prog w) A.in1 (truthy (.bool c) >>= fun b => ret (Value.bool !b)) _ E s'
  exact wpAny_bind (wpAny_of_eq (a := c) (by first | rfl | simp [truthy]) (wpAny_pure hq))
theorem ne_own {prog : Program} {w : World} {A : Around} {E : Value → Shared → Prop} {s : Shared} {K : PySem.W.Frag} {x C f : Addr} {ox : Obj} {od : Option Obj} {b tb : Value} {Q : Value → Shared → Prop} (hu : A.units < cLine) (hu1 : A.in1.units < cLine) (X : K.In s.heap) (I : PySem.W.InstAt s.heap x ox C od) (tyb : PySem.W.Looks (model prog w) s.heap (typeOf b) tb)
    (nf : PySem.W.notFirst K C tb = true) (hne : PySem.W.findIn K (.ref C) "__ne__" = some (some (.builtin "object.__ne__"))) (hob : PySem.W.subIn K (.ref C) (.type "object") = some true) (at_ : PySem.W.findIn K (.ref C) "__eq__" = some (some (.ref f))) (isf : PySem.W.isFn K (.ref f) = true)
    (go : wpAny (model prog w) A.in1 (call (.ref f) [.ref x, b]) (fun v s' => ∃ c, v = .bool c ∧ Q (.bool (!c)) s') E s) : wpAny (model prog w) A (richCompare .NotEq (.ref x) b) Q E s := by
  have mine : wpAny (model prog w) A (tryCompare (.ref x) (cmpInfo .NotEq).2.1 b) (fun r s' => ∃ v, r = some v ∧ Q v s') E s := by
    show wpAny (model prog w) A (tryCompare (.ref x) "__ne__" b) _ E s
    unfold tryCompare
    have ent : wpAny (model prog w) A (call (.builtin "object.__ne__") [.ref x, b]) (fun v s' => ∃ c, v = .bool c ∧ Q (.bool c) s') E s :=
      ne_entry (Q := fun v s' => ∃ c, v = .bool c ∧ Q (.bool c) s') hu1 X I hob at_ isf (wpAny_mono go (fun v s' hv => by
        obtain ⟨c, rfl, hq⟩ := hv
        exact ⟨c, rfl, !c, rfl, hq⟩) fun _ _ z => z)
    refine wpAny_bind (ifBound_ne X I hne (wpAny_mono ent (fun v s' hv => ?_) fun _ _ z => z))
    obtain ⟨c, rfl, hq⟩ := hv
    exact wpAny_pure ⟨_, rfl, hq⟩
  have last : ∀ {g : Option Value → Sem Value}, (∀ v, g (some v) = pure v) → wpAny (model prog w) A (tryCompare (.ref x) (cmpInfo .NotEq).2.1 b >>= g) Q E s := fun {g} hg => wpAny_bind (wpAny_mono mine (fun r s' ⟨v, er, hq⟩ => by rw [er, hg]; exact wpAny_pure hq) fun _ _ z => z)
  unfold richCompare
  simp only [oneThing_ref]
  refine wpAny_holding (wpAny_bind (wpAny_cRoomFor hu ?_))
  refine wpAny_bind (I.type.here (wpAny_bind (tyb.here ?_)))
  split
  · rename_i q
    have sb : PySem.W.subIn K tb (.ref C) = some false := by
      rcases Bool.or_eq_true_iff.mp nf with z | z
      · rw [beq_iff_eq.mp z] at q
        simp at q
      · exact beq_iff_eq.mp z
    refine wpAny_bind ((PySem.W.looks_subIn X sb).here ?_)
    simp only [Bool.false_eq_true, if_false]
    exact last fun v => rfl
  · refine wpAny_bind (wpAny_pure ?_)
    simp only [Bool.false_eq_true, if_false]
    exact last fun v => rfl
section
variable {X : Cx} {k j : Nat} {C : Addr} {sp : Sp}
def rNeO (C : Addr) (sp : Sp) : R2 := fun x y H Q => ∃ (a b dx dy : Addr) (fs gs : List (Str × V)), x = .ref a ∧ y = .ref b ∧ H a = some (.ins C dx fs) ∧ H b = some (.ins C dy gs) ∧ sp [.ref a, .ref b] H (fun v H' => ∃ c : Bool, v = .bl c ∧ Q (.bl (!c)) H') E0
theorem op_neO (c : Met X.prog X.w X.K X.mg X.base k C "__eq__" sp) (hr : Room j X.A) (hk : k + 1 ≤ j) (nf : PySem.W.notFirst X.K C (.ref C) = true) (hne : PySem.W.findIn X.K (.ref C) "__ne__" = some (some (.builtin "object.__ne__"))) (hob : PySem.W.subIn X.K (.ref C) (.type "object") = some true) : OpR X (compareOp .NotEq) (rNeO C sp) := by
  intro pins s σ H x y v u Q I rx ry h
  obtain ⟨a, b, dx, dy, fs, gs, rfl, rfl, ha, hb, q⟩ := h
  obtain ⟨f, fd, ps, hc, hm, F, bd⟩ := c.ex
  cases (show v = Value.ref a from rx)
  cases (show u = Value.ref b from ry)
  obtain ⟨ox, od, J⟩ := inst_of I ha
  obtain ⟨ox2, od2, J2⟩ := inst_of I hb
  have hu : X.A.units < cLine := by have := hr.units; omega
  have hu1 : X.A.in1.units < cLine := by
    have := hr.units
    show X.A.units + 1 < cLine
    omega
  show wpAny _ X.A (richCompare .NotEq _ _) _ _ s
  refine ne_own hu hu1 I.kIn J J2.type nf hne hob hm.at_ hm.fn (wpAny_mono (run_at (A := X.A.in1) (vs := [.ref a, .ref b]) F (hr.mono hk).in1 bd I I.env0.in1 (.cons rfl (.cons rfl .nil)) q) (fun w s' hw => ?_) fun _ _ z => z)
  obtain ⟨z, H', I', r, c, rfl, hq⟩ := hw
  cases r
  exact ⟨c, rfl, .bl (!c), H', I', rfl, hq⟩
end
end Lp
set_option Elab.async false
set_option linter.all false
set_option maxRecDepth 100000
set_option maxHeartbeats 1000000
namespace Lp
open PySem PySem.Spec PyProof.Rows L2
/-! ### a == y, a != y of an instance and any value -/
section
variable {X : Cx} {k j : Nat} {C : Addr} {sp : Sp}
def rEqOV (K : PySem.W.Frag) (C : Addr) (sp : Sp) : R2 := fun x y H Q => ∃ (a dx : Addr) (fs : List (Str × V)) (t : Value), x = .ref a ∧ H a = some (.ins C dx fs) ∧ TyX K H y t ∧ PySem.W.notFirst K C t = true ∧ sp [.ref a, y] H Q E0
theorem op_eqOV (c : Met X.prog X.w X.K X.mg X.base k C "__eq__" sp) (hr : Room j X.A) (hk : k ≤ j) : OpR X (compareOp .Eq) (rEqOV X.K C sp) := by
  intro pins s σ H x y v u Q I rx ry h
  obtain ⟨a, dx, fs, t, rfl, ha, ty, nf, q⟩ := h
  obtain ⟨f, fd, ps, hc, hm, F, bd⟩ := c.ex
  cases (show v = Value.ref a from rx)
  obtain ⟨ox, od, J⟩ := inst_of I ha
  obtain ⟨P, Z, p, _⟩ := kit_of I ry ty
  have hu : X.A.units < cLine := by have := hr.units; omega
  show wpAny _ X.A (richCompare .Eq _ _) _ _ s
  refine eq_own (op := .Eq) hu I.kIn J (Z.ty _ _ I.kIn p) nf hm.at_ hm.fn (wpAny_mono (run_at (vs := [.ref a, y]) F (hr.mono hk) bd I I.env0 (.cons rfl (.cons ry .nil)) q) (fun w s' hw => ?_) fun _ _ z => z)
  exact ⟨by obtain ⟨z, _, _, r, _⟩ := hw; exact relV_ni r, hw⟩
def rNeOV (K : PySem.W.Frag) (C : Addr) (sp : Sp) : R2 := fun x y H Q => ∃ (a dx : Addr) (fs : List (Str × V)) (t : Value), x = .ref a ∧ H a = some (.ins C dx fs) ∧ TyX K H y t ∧ PySem.W.notFirst K C t = true ∧ sp [.ref a, y] H (fun v H' => ∃ c : Bool, v = .bl c ∧ Q (.bl (!c)) H') E0
theorem op_neOV (c : Met X.prog X.w X.K X.mg X.base k C "__eq__" sp) (hr : Room j X.A) (hk : k + 1 ≤ j) (hne : PySem.W.findIn X.K (.ref C) "__ne__" = some (some (.builtin "object.__ne__"))) (hob : PySem.W.subIn X.K (.ref C) (.type "object") = some true) : OpR X (compareOp .NotEq) (rNeOV X.K C sp) := by
  intro pins s σ H x y v u Q I rx ry h
  obtain ⟨a, dx, fs, t, rfl, ha, ty, nf, q⟩ := h
  obtain ⟨f, fd, ps, hc, hm, F, bd⟩ := c.ex
  cases (show v = Value.ref a from rx)
  obtain ⟨ox, od, J⟩ := inst_of I ha
  obtain ⟨P, Z, p, _⟩ := kit_of I ry ty
  have hu : X.A.units < cLine := by have := hr.units; omega
  have hu1 : X.A.in1.units < cLine := by
    have := hr.units
    show X.A.units + 1 < cLine
    omega
  show wpAny _ X.A (richCompare .NotEq _ _) _ _ s
  refine ne_own hu hu1 I.kIn J (Z.ty _ _ I.kIn p) nf hne hob hm.at_ hm.fn (wpAny_mono (run_at (A := X.A.in1) (vs := [.ref a, y]) F (hr.mono hk).in1 bd I I.env0.in1 (.cons rfl (.cons ry .nil)) q) (fun w s' hw => ?_) fun _ _ z => z)
  obtain ⟨z, H', I', r, c, rfl, hq⟩ := hw
  cases r
  exact ⟨c, rfl, .bl (!c), H', I', rfl, hq⟩
end
end Lp
set_option Elab.async false
set_option linter.all false
set_option maxRecDepth 100000
namespace Lp
open PySem PySem.Spec PyProof.Rows L2
/-! ### the same, with K told apart (for comprehensions) -/
section
variable {X : Cx} {K : PySem.W.Frag} {k j : Nat} {C : Addr} {sp : Sp}
theorem k_eqOV (e : X.K = K) (c : Met X.prog X.w X.K X.mg X.base k C "__eq__" sp) (hr : Room j X.A) (hk : k ≤ j) : OpR X (compareOp .Eq) (rEqOV K C sp) := by
  subst e
  exact op_eqOV c hr hk
theorem k_neOV (e : X.K = K) (c : Met X.prog X.w X.K X.mg X.base k C "__eq__" sp) (hr : Room j X.A) (hk : k + 1 ≤ j) (hne : PySem.W.findIn X.K (.ref C) "__ne__" = some (some (.builtin "object.__ne__"))) (hob : PySem.W.subIn X.K (.ref C) (.type "object") = some true) : OpR X (compareOp .NotEq) (rNeOV K C sp) := by
  subst e
  exact op_neOV c hr hk hne hob
end
end Lp
set_option Elab.async false
set_option linter.all false
set_option maxRecDepth 100000
namespace Lp
open PySem PySem.Spec PyProof.Rows L2
/-! ### values of any kind: None, bools, ints, texts, lists, tuples, the empty dict -/
mutual
inductive Ox (K : PySem.W.Frag) (H : Hp) : V → PyData → Prop
  | non : Ox K H .non .none
  | bl (b : Bool) : Ox K H (.bl b) (.bool b)
  | int (i : Int) : Ox K H (.int i) (.int i)
  | str (x : Str) : Ox K H (.str x) (.str x)
  | lst {a : Addr} {xs : List V} {ds : List PyData} : SqL K H a xs → OxAll K H xs ds → Ox K H (.ref a) (.list ds)
  | tup {a : Addr} {xs : List V} {ds : List PyData} : SqT K H a xs → OxAll K H xs ds → Ox K H (.ref a) (.tuple ds)
  | dct {a : Addr} : H a = some (.dK []) → Ox K H (.ref a) (.dict [])
inductive OxAll (K : PySem.W.Frag) (H : Hp) : List V → List PyData → Prop
  | nil : OxAll K H [] []
  | cons {v : V} {vs : List V} {d : PyData} {ds : List PyData} : Ox K H v d → OxAll K H vs ds → OxAll K H (v :: vs) (d :: ds)
end
section
variable {X : Cx} {pins : List (Addr × Obj)} {σ : L2.St} {H : Hp} {s : Shared}
open PySem
/-- the empty dict, as it stands -/
theorem Ox.dctAt (I : Inv X pins σ H s) {a : Addr} (ha : H a = some (.dK [])) : ∃ o es ep, s.heap.get? a = some o ∧ o.cls = .type "dict" ∧ o.data = .dict es ep ∧ es.toList = [] ∧ (a == sysModules) = false := by
  obtain ⟨_, hns, vs, hkv, o, es, ep, e1, ex, ed, _, pr, _⟩ := (show ObjOk X.prog X.w H s.heap a (.dK []) from I.hok _ _ ha)
  cases hkv
  exact ⟨o, es, ep, e1, ex.1, ed, List.length_eq_zero_iff.mp pr.length, hns⟩
mutual
theorem Ox.rk (I : Inv X pins σ H s) : ∀ (d : PyData) (v : V) (u : Value), Ox X.K H v d → RelV v u → d.showable = true → d.shown.length ≤ sizeLine → ∃ bs as, Reads s.heap u d as ∧ ReadAtMost s.heap d.depth bs ∧ ReprK X.prog X.w bs s.heap d.depth u d.shown
  | .none, _, _, h, r, _, _ => by
    cases h
    cases r
    exact ⟨[], _, Reads.none, (fun _ z => absurd z List.not_mem_nil), .of_is ReprIs.none _ _ _⟩
  | .bool b, _, _, h, r, _, _ => by
    cases h
    cases r
    exact ⟨[], _, Reads.bool b, (fun _ z => absurd z List.not_mem_nil), .of_is (ReprIs.bool b) _ _ _⟩
  | .int i, _, _, h, r, sh, _ => by
    cases h
    obtain ⟨t, rfl⟩ := r
    exact ⟨[], _, Reads.int i t, (fun _ z => absurd z List.not_mem_nil), .of_is (ReprIs.int t (of_decide_eq_true sh)) _ _ _⟩
  | .str x, _, _, h, r, _, hz => by
    cases h
    obtain ⟨t, rfl⟩ := r
    exact ⟨[], _, Reads.str x t, (fun _ z => absurd z List.not_mem_nil), .of_is (ReprIs.str x t hz) _ _ _⟩
  | .list ds, _, _, h, r, sh, hz => by
    cases h with
    | @lst a xs _ hs ha =>
      cases r
      obtain ⟨its, rv, ⟨o, n, ho, hc, _, hd⟩, _⟩ := I.list hs
      have len : (listText (PyData.shownAll ds)).length ≤ sizeLine := hz
      obtain ⟨bs, as, ra, rb, rk⟩ := Ox.rkAll I ds xs its ha rv sh (fun t ht => Nat.le_trans (listText_mem_le ht) len)
      have rr := Reads.list ho hc hd ra
      have fresh : a ∉ bs := not_mem_of_deeper rr (Nat.lt_succ_self (PyData.depthAll ds)) rb
      refine ⟨a :: bs, _, rr, ReadAtMost.cons rr (Nat.le_succ (PyData.depthAll ds)) rb, ?_⟩
      show ReprK X.prog X.w (a :: bs) s.heap (PyData.depthAll ds + 1) (.ref a) (listText (PyData.shownAll ds))
      cases its with
      | nil =>
        cases ra
        show ReprK X.prog X.w (a :: bs) s.heap _ (.ref a) (listText [])
        rw [listText_nil]
        exact ReprK.listEmpty ho hc hd
      | cons y l => exact ReprK.list ho hc hd fresh (by simpa using rk.length_eq) (fun i z e => rk.item i z (by simpa using e))
  | .tuple ds, _, _, h, r, sh, hz => by
    cases h with
    | @tup a xs _ hs ha =>
      cases r
      obtain ⟨its, rv, ⟨o, ho, hc, n, hd⟩, _⟩ := I.tuple hs
      have len : (tupleText (PyData.shownAll ds)).length ≤ sizeLine := hz
      obtain ⟨bs, as, ra, rb, rk⟩ := Ox.rkAll I ds xs its ha rv sh (fun t ht => Nat.le_trans (tupleText_mem_le ht) len)
      have rr := Reads.tuple ho hc hd ra
      have fresh : a ∉ bs := not_mem_of_deeper rr (Nat.lt_succ_self (PyData.depthAll ds)) rb
      exact ⟨a :: bs, _, rr, ReadAtMost.cons rr (Nat.le_succ (PyData.depthAll ds)) rb, ReprK.tuple ho hc hd fresh rk⟩
  | .dict kvs, _, _, h, r, _, _ => by
    cases h with
    | @dct a ha =>
      cases r
      obtain ⟨o, es, ep, e1, ec, ed, e0, hns⟩ := Ox.dctAt I ha
      have rr : Reads s.heap (.ref a) (.dict []) [a] := Reads.dict (kvs := []) (as := []) (bs := []) e1 ec ed (by rw [e0]; exact ReadsAll.nil) (by rw [e0]; exact ReadsAll.nil)
      refine ⟨[a], _, rr, ReadAtMost.cons (n := 0) rr (Nat.zero_le _) (fun _ z => absurd z List.not_mem_nil), ?_⟩
      exact ReprK.dict (d := 0) e1 ec ed hns List.not_mem_nil (by rw [e0]; exact ReprEntriesK.of_two [] [] [] .nil .nil)
theorem Ox.rkAll (I : Inv X pins σ H s) : ∀ (ds : List PyData) (vs : List V) (us : List Value), OxAll X.K H vs ds → Vals vs us → PyData.showableAll ds = true → (∀ t ∈ PyData.shownAll ds, t.length ≤ sizeLine) → ∃ bs as, ReadsAll s.heap us ds as ∧ ReadAtMost s.heap (PyData.depthAll ds) bs ∧ ReprAllK X.prog X.w bs s.heap (PyData.depthAll ds) us (PyData.shownAll ds)
  | [], _, _, h, r, _, _ => by
    cases h
    cases r
    exact ⟨[], _, ReadsAll.nil, (fun _ z => absurd z List.not_mem_nil), .nil⟩
  | d :: ds, _, _, h, r, sh, hz => by
    cases h with
    | cons h1 h2 =>
      cases r with
      | cons r1 r2 =>
        have sh2 : (d.showable && PyData.showableAll ds) = true := sh
        rw [Bool.and_eq_true] at sh2
        obtain ⟨b1, a1, q1, m1, k1⟩ := Ox.rk I d _ _ h1 r1 sh2.1 (hz _ List.mem_cons_self)
        obtain ⟨b2, a2, q2, m2, k2⟩ := Ox.rkAll I ds _ _ h2 r2 sh2.2 (fun t ht => hz t (List.mem_cons_of_mem _ ht))
        have l1 : d.depth ≤ PyData.depthAll (d :: ds) := Nat.le_max_left _ _
        have l2 : PyData.depthAll ds ≤ PyData.depthAll (d :: ds) := Nat.le_max_right _ _
        exact ⟨b1 ++ b2, _, ReadsAll.cons q1 q2, (m1.mono l1).append (m2.mono l2), .cons ((k1.more fun b z => List.mem_append_left _ z).level_le l1) (k2.more_le (fun b z => List.mem_append_right _ z) l2)⟩
end
end
section
variable {K : PySem.W.Frag} {H H' : Hp}
mutual
theorem ox_same (s : Same H H') : ∀ {v : V} {d : PyData}, Ox K H v d → Ox K H' v d
  | _, _, .non => .non
  | _, _, .bl b => .bl b
  | _, _, .int i => .int i
  | _, _, .str x => .str x
  | _, _, .lst h1 h2 => .lst (s.seq h1) (oxAll_same s h2)
  | _, _, .tup h1 h2 => .tup (seqT s h1) (oxAll_same s h2)
  | _, _, .dct h => .dct (s _ _ h)
theorem oxAll_same (s : Same H H') : ∀ {vs : List V} {ds : List PyData}, OxAll K H vs ds → OxAll K H' vs ds
  | _, _, .nil => .nil
  | _, _, .cons h1 h2 => .cons (ox_same s h1) (oxAll_same s h2)
end
mutual
theorem ox_dp : ∀ {v : V} {d : PyData}, Dp K H v d → Ox K H v d
  | _, _, .non => .non
  | _, _, .bl b => .bl b
  | _, _, .int i => .int i
  | _, _, .str x => .str x
  | _, _, .lst h1 h2 => .lst h1 (oxAll_dp h2)
  | _, _, .tup h1 h2 => .tup h1 (oxAll_dp h2)
theorem oxAll_dp : ∀ {vs : List V} {ds : List PyData}, DpAll K H vs ds → OxAll K H vs ds
  | _, _, .nil => .nil
  | _, _, .cons h1 h2 => .cons (ox_dp h1) (oxAll_dp h2)
end
theorem oxAll_len : ∀ {vs : List V} {ds : List PyData}, OxAll K H vs ds → vs.length = ds.length
  | _, _, .nil => rfl
  | _, _, .cons _ h => congrArg (· + 1) (oxAll_len h)
theorem oxAll_get : ∀ {vs : List V} {ds : List PyData} {i : Nat} {v : V}, OxAll K H vs ds → vs[i]? = some v → ∃ d, ds[i]? = some d ∧ Ox K H v d
  | _, _, 0, _, .cons h _, e => by cases e; exact ⟨_, rfl, h⟩
  | _, _, i + 1, _, .cons _ h, e => oxAll_get (i := i) h e
theorem oxAll_app : ∀ {vs ws : List V} {ds es : List PyData}, OxAll K H vs ds → OxAll K H ws es → OxAll K H (vs ++ ws) (ds ++ es)
  | _, _, _, _, .nil, h => h
  | _, _, _, _, .cons h1 h2, h => .cons h1 (oxAll_app h2 h)
theorem oxAll_take : ∀ {vs : List V} {ds : List PyData} (n : Nat), OxAll K H vs ds → OxAll K H (vs.take n) (ds.take n)
  | _, _, 0, _ => .nil
  | _, _, _ + 1, .nil => .nil
  | _, _, n + 1, .cons h1 h2 => .cons h1 (oxAll_take n h2)
theorem oxAll_drop : ∀ {vs : List V} {ds : List PyData} (n : Nat), OxAll K H vs ds → OxAll K H (vs.drop n) (ds.drop n)
  | _, _, 0, h => h
  | _, _, _ + 1, .nil => .nil
  | _, _, n + 1, .cons _ h2 => oxAll_drop n h2
theorem oxAll_ints : ∀ ns : List Int, OxAll K H (ns.map V.int) (ns.map PyData.int)
  | [] => .nil
  | n :: r => .cons (.int n) (oxAll_ints r)
end
/-- the type of a value by its data -/
def tyD : PyData → String
  | .none => "NoneType" | .bool _ => "bool" | .int _ => "int" | .str _ => "str" | .list _ => "list" | .tuple _ => "tuple" | .dict _ => "dict"
section
variable {K : PySem.W.Frag} {H : Hp}
theorem Ox.tyx {v : V} {d : PyData} (h : Ox K H v d) : TyX K H v (.type (tyD d)) := by
  cases h with
  | non => exact .base .non
  | bl b => exact .base (.bl b)
  | int i => exact .base (.int i)
  | str x => exact .base (.str x)
  | lst h1 _ => exact tyx_l h1
  | tup h1 _ => exact tyx_t h1
  | dct h => exact .base (.dK h)
theorem Ox.tyb {v : V} {d : PyData} (h : Ox K H v d) : TyB K H v (tyD d) := by
  cases h with
  | non => exact .non
  | bl b => exact .bl b
  | int i => exact .int i
  | str x => exact .str x
  | lst h1 _ => exact .lst h1
  | tup h1 _ => exact .tup h1
  | dct h => exact .dK h
theorem tyD_meta (d : PyData) : ∀ s' : Shared, s'.TypeIs (.type (tyD d)) "type" := by
  cases d with
  | none => exact PySem.TypeEq.meta_NoneType
  | bool _ => exact PySem.TypeEq.meta_bool
  | int _ => exact PySem.TypeEq.meta_int
  | str _ => exact PySem.TypeEq.meta_str
  | list _ => exact PySem.TypeEq.meta_list
  | tuple _ => exact PySem.TypeEq.meta_tuple
  | dict _ => exact PySem.TypeEq.meta_dict
end
def isI : PyData → Bool | .int _ => true | _ => false
def isB : PyData → Bool | .bool _ => true | _ => false
def isL : PyData → Bool | .list _ => true | _ => false
def isT : PyData → Bool | .tuple _ => true | _ => false
def isS : PyData → Bool | .str _ => true | _ => false
def isN : PyData → Bool | .none => true | _ => false
theorem kit_int {K : PySem.W.Frag} (d : PyData) : PySem.W.kitOne K (.type (tyD d)) (.type "int") = some (isI d || isB d) :=
  match d with
  | .none => kit_ty (show kitB "NoneType" "int" = some false by decide +kernel)
  | .bool _ => kit_ty (show kitB "bool" "int" = some true by decide +kernel)
  | .int _ => kit_ty (show kitB "int" "int" = some true by decide +kernel)
  | .str _ => kit_ty (show kitB "str" "int" = some false by decide +kernel)
  | .list _ => kit_ty (show kitB "list" "int" = some false by decide +kernel)
  | .tuple _ => kit_ty (show kitB "tuple" "int" = some false by decide +kernel)
  | .dict _ => kit_ty (show kitB "dict" "int" = some false by decide +kernel)
theorem kit_bool {K : PySem.W.Frag} (d : PyData) : PySem.W.kitOne K (.type (tyD d)) (.type "bool") = some (isB d) :=
  match d with
  | .none => kit_ty (show kitB "NoneType" "bool" = some false by decide +kernel)
  | .bool _ => kit_ty (show kitB "bool" "bool" = some true by decide +kernel)
  | .int _ => kit_ty (show kitB "int" "bool" = some false by decide +kernel)
  | .str _ => kit_ty (show kitB "str" "bool" = some false by decide +kernel)
  | .list _ => kit_ty (show kitB "list" "bool" = some false by decide +kernel)
  | .tuple _ => kit_ty (show kitB "tuple" "bool" = some false by decide +kernel)
  | .dict _ => kit_ty (show kitB "dict" "bool" = some false by decide +kernel)
theorem kit_list {K : PySem.W.Frag} (d : PyData) : PySem.W.kitOne K (.type (tyD d)) (.type "list") = some (isL d) :=
  match d with
  | .none => kit_ty (show kitB "NoneType" "list" = some false by decide +kernel)
  | .bool _ => kit_ty (show kitB "bool" "list" = some false by decide +kernel)
  | .int _ => kit_ty (show kitB "int" "list" = some false by decide +kernel)
  | .str _ => kit_ty (show kitB "str" "list" = some false by decide +kernel)
  | .list _ => kit_ty (show kitB "list" "list" = some true by decide +kernel)
  | .tuple _ => kit_ty (show kitB "tuple" "list" = some false by decide +kernel)
  | .dict _ => kit_ty (show kitB "dict" "list" = some false by decide +kernel)
theorem kit_tuple {K : PySem.W.Frag} (d : PyData) : PySem.W.kitOne K (.type (tyD d)) (.type "tuple") = some (isT d) :=
  match d with
  | .none => kit_ty (show kitB "NoneType" "tuple" = some false by decide +kernel)
  | .bool _ => kit_ty (show kitB "bool" "tuple" = some false by decide +kernel)
  | .int _ => kit_ty (show kitB "int" "tuple" = some false by decide +kernel)
  | .str _ => kit_ty (show kitB "str" "tuple" = some false by decide +kernel)
  | .list _ => kit_ty (show kitB "list" "tuple" = some false by decide +kernel)
  | .tuple _ => kit_ty (show kitB "tuple" "tuple" = some true by decide +kernel)
  | .dict _ => kit_ty (show kitB "dict" "tuple" = some false by decide +kernel)
theorem kit_str {K : PySem.W.Frag} (d : PyData) : PySem.W.kitOne K (.type (tyD d)) (.type "str") = some (isS d) :=
  match d with
  | .none => kit_ty (show kitB "NoneType" "str" = some false by decide +kernel)
  | .bool _ => kit_ty (show kitB "bool" "str" = some false by decide +kernel)
  | .int _ => kit_ty (show kitB "int" "str" = some false by decide +kernel)
  | .str _ => kit_ty (show kitB "str" "str" = some true by decide +kernel)
  | .list _ => kit_ty (show kitB "list" "str" = some false by decide +kernel)
  | .tuple _ => kit_ty (show kitB "tuple" "str" = some false by decide +kernel)
  | .dict _ => kit_ty (show kitB "dict" "str" = some false by decide +kernel)
/-- type(x) != T -/
theorem neTyL {σ : L2.St} {H : Hp} {d : PyData} {Q : VK} (q : Q (.bl (!isL d)) H) : tC (.ty "list") σ H (fun y H2 => rNeTyG (.ty (tyD d)) y H2 Q) := by
  show rNeTyG (.ty (tyD d)) (.ty "list") H Q
  cases d with
  | list ds => exact .inl ⟨_, rfl, rfl, PySem.TypeEq.meta_list, q⟩
  | none => exact .inr ⟨_, _, rfl, rfl, PySem.TypeEq.meta_NoneType, PySem.TypeEq.meta_list, (show (Value.type "NoneType" == Value.type "list") = false by decide +kernel), (show (Value.type "list" == Value.type "NoneType") = false by decide +kernel), q⟩
  | bool _ => exact .inr ⟨_, _, rfl, rfl, PySem.TypeEq.meta_bool, PySem.TypeEq.meta_list, (show (Value.type "bool" == Value.type "list") = false by decide +kernel), (show (Value.type "list" == Value.type "bool") = false by decide +kernel), q⟩
  | int _ => exact .inr ⟨_, _, rfl, rfl, PySem.TypeEq.meta_int, PySem.TypeEq.meta_list, (show (Value.type "int" == Value.type "list") = false by decide +kernel), (show (Value.type "list" == Value.type "int") = false by decide +kernel), q⟩
  | str _ => exact .inr ⟨_, _, rfl, rfl, PySem.TypeEq.meta_str, PySem.TypeEq.meta_list, (show (Value.type "str" == Value.type "list") = false by decide +kernel), (show (Value.type "list" == Value.type "str") = false by decide +kernel), q⟩
  | tuple _ => exact .inr ⟨_, _, rfl, rfl, PySem.TypeEq.meta_tuple, PySem.TypeEq.meta_list, (show (Value.type "tuple" == Value.type "list") = false by decide +kernel), (show (Value.type "list" == Value.type "tuple") = false by decide +kernel), q⟩
  | dict _ => exact .inr ⟨_, _, rfl, rfl, PySem.TypeEq.meta_dict, PySem.TypeEq.meta_list, (show (Value.type "dict" == Value.type "list") = false by decide +kernel), (show (Value.type "list" == Value.type "dict") = false by decide +kernel), q⟩
theorem neTyT {σ : L2.St} {H : Hp} {d : PyData} {Q : VK} (q : Q (.bl (!isT d)) H) : tC (.ty "tuple") σ H (fun y H2 => rNeTyG (.ty (tyD d)) y H2 Q) := by
  show rNeTyG (.ty (tyD d)) (.ty "tuple") H Q
  cases d with
  | tuple ds => exact .inl ⟨_, rfl, rfl, PySem.TypeEq.meta_tuple, q⟩
  | none => exact .inr ⟨_, _, rfl, rfl, PySem.TypeEq.meta_NoneType, PySem.TypeEq.meta_tuple, (show (Value.type "NoneType" == Value.type "tuple") = false by decide +kernel), (show (Value.type "tuple" == Value.type "NoneType") = false by decide +kernel), q⟩
  | bool _ => exact .inr ⟨_, _, rfl, rfl, PySem.TypeEq.meta_bool, PySem.TypeEq.meta_tuple, (show (Value.type "bool" == Value.type "tuple") = false by decide +kernel), (show (Value.type "tuple" == Value.type "bool") = false by decide +kernel), q⟩
  | int _ => exact .inr ⟨_, _, rfl, rfl, PySem.TypeEq.meta_int, PySem.TypeEq.meta_tuple, (show (Value.type "int" == Value.type "tuple") = false by decide +kernel), (show (Value.type "tuple" == Value.type "int") = false by decide +kernel), q⟩
  | str _ => exact .inr ⟨_, _, rfl, rfl, PySem.TypeEq.meta_str, PySem.TypeEq.meta_tuple, (show (Value.type "str" == Value.type "tuple") = false by decide +kernel), (show (Value.type "tuple" == Value.type "str") = false by decide +kernel), q⟩
  | list _ => exact .inr ⟨_, _, rfl, rfl, PySem.TypeEq.meta_list, PySem.TypeEq.meta_tuple, (show (Value.type "list" == Value.type "tuple") = false by decide +kernel), (show (Value.type "tuple" == Value.type "list") = false by decide +kernel), q⟩
  | dict _ => exact .inr ⟨_, _, rfl, rfl, PySem.TypeEq.meta_dict, PySem.TypeEq.meta_tuple, (show (Value.type "dict" == Value.type "tuple") = false by decide +kernel), (show (Value.type "tuple" == Value.type "dict") = false by decide +kernel), q⟩

/-! ### how long the text of a value is -/
mutual
def wt : PyData → Nat
  | .none => 4
  | .bool _ => 5
  | .int i => (Str.ofString (toString i)).length
  | .str x => (reprText x).length
  | .list ds => 2 + wtAll ds
  | .tuple ds => 3 + wtAll ds
  | .dict _ => 2
def wtAll : List PyData → Nat
  | [] => 0
  | d :: ds => wt d + 2 + wtAll ds
end
/-! no dict but the empty one -/
mutual
def nod : PyData → Bool
  | .dict kvs => kvs.isEmpty
  | .list ds => nodAll ds
  | .tuple ds => nodAll ds
  | _ => true
def nodAll : List PyData → Bool
  | [] => true
  | d :: ds => nod d && nodAll ds
end
def sumLen (ts : List Str) : Nat := (ts.map fun t => t.length + 2).sum
theorem textFrom_sum : ∀ (ts : List Str) (k : Nat) (acc : Str), (textFrom k acc ts).length ≤ acc.length + sumLen ts
  | [], k, acc => by
    show acc.length ≤ _
    exact Nat.le_add_right _ _
  | t :: r, k, acc => by
    have z := textFrom_sum r (k + 1) (acc ++ (if k > 0 then ", " else "" : String) ++ t)
    have e : (acc ++ (if k > 0 then ", " else "" : String) ++ t).length ≤ acc.length + 2 + t.length := by
      rw [Str.length_append, Str.length_append]
      by_cases hk : k > 0
      · rw [if_pos hk]
        exact Nat.le_refl _
      · rw [if_neg hk]
        show acc.length + 0 + t.length ≤ _
        omega
    show (textFrom (k + 1) (acc ++ (if k > 0 then ", " else "" : String) ++ t) r).length ≤ acc.length + (t.length + 2 + sumLen r)
    omega
theorem join_sum : ∀ ts : List Str, (Str.join ", " ts).length ≤ sumLen ts
  | [] => Nat.zero_le _
  | [x] => by show x.length ≤ x.length + 2 + 0; omega
  | x :: y :: r => by
    have ih := join_sum (y :: r)
    show (x ++ ", " ++ Str.join ", " (y :: r)).length ≤ x.length + 2 + sumLen (y :: r)
    have e2 : ((", " : String) : Str).length = 2 := rfl
    rw [Str.length_append, Str.length_append, e2]
    omega
mutual
theorem shown_wt : ∀ d : PyData, nod d = true → d.shown.length ≤ wt d
  | .none, _ => by decide
  | .bool b, _ => by cases b <;> decide
  | .int i, _ => Nat.le_refl _
  | .str x, _ => Nat.le_refl _
  | .list ds, h => by
    have z := textFrom_sum (PyData.shownAll ds) 0 "["
    have z2 := shownAll_wt ds h
    show (textFrom 0 "[" (PyData.shownAll ds) ++ ("]" : Str)).length ≤ 2 + wtAll ds
    rw [Str.length_append]
    have e1 : ("[" : Str).length = 1 := rfl
    have e2 : ("]" : Str).length = 1 := rfl
    omega
  | .tuple ds, h => by
    have z := join_sum (PyData.shownAll ds)
    have z2 := shownAll_wt ds h
    show (("(" : Str) ++ Str.join ", " (PyData.shownAll ds) ++ (if (PyData.shownAll ds).length == 1 then ",)" else ")" : String)).length ≤ 3 + wtAll ds
    rw [Str.length_append, Str.length_append]
    have e1 : ("(" : Str).length = 1 := rfl
    have e2 : (((if (PyData.shownAll ds).length == 1 then ",)" else ")" : String)) : Str).length ≤ 2 := by split <;> decide
    omega
  | .dict kvs, h => by
    cases kvs with
    | nil => decide
    | cons _ _ => cases h
theorem shownAll_wt : ∀ ds : List PyData, nodAll ds = true → sumLen (PyData.shownAll ds) ≤ wtAll ds
  | [], _ => Nat.le_refl _
  | d :: ds, h => by
    have h : (nod d && nodAll ds) = true := h
    rw [Bool.and_eq_true] at h
    have a := shown_wt d h.1
    have b := shownAll_wt ds h.2
    show d.shown.length + 2 + sumLen (PyData.shownAll ds) ≤ wt d + 2 + wtAll ds
    omega
end
/-- data that is to be shown: its text, its depth -/
structure Bd (m k : Nat) (d : PyData) : Prop where
  w : wt d ≤ m
  dp : d.depth ≤ k
  s : d.showable = true
  n : nod d = true
structure BdAll (m k : Nat) (ds : List PyData) : Prop where
  w : wtAll ds ≤ m
  dp : PyData.depthAll ds ≤ k
  s : PyData.showableAll ds = true
  n : nodAll ds = true
theorem Bd.mono {m k m' k' : Nat} {d : PyData} (h : Bd m k d) (a : m ≤ m') (b : k ≤ k') : Bd m' k' d := ⟨Nat.le_trans h.w a, Nat.le_trans h.dp b, h.s, h.n⟩
theorem BdAll.mono {m k m' k' : Nat} {d : List PyData} (h : BdAll m k d) (a : m ≤ m') (b : k ≤ k') : BdAll m' k' d := ⟨Nat.le_trans h.w a, Nat.le_trans h.dp b, h.s, h.n⟩
theorem Bd.list {m k : Nat} {ds : List PyData} (h : BdAll m k ds) : Bd (2 + m) (k + 1) (.list ds) := ⟨Nat.add_le_add_left h.w 2, Nat.succ_le_succ h.dp, h.s, h.n⟩
theorem Bd.tuple {m k : Nat} {ds : List PyData} (h : BdAll m k ds) : Bd (3 + m) (k + 1) (.tuple ds) := ⟨Nat.add_le_add_left h.w 3, Nat.succ_le_succ h.dp, h.s, h.n⟩
theorem BdAll.nil {k : Nat} : BdAll 0 k [] := ⟨Nat.le_refl _, Nat.zero_le _, rfl, rfl⟩
theorem BdAll.cons {m n k : Nat} {d : PyData} {ds : List PyData} (h : Bd m k d) (g : BdAll n k ds) : BdAll (m + 2 + n) k (d :: ds) := by
  refine ⟨?_, Nat.max_le.mpr ⟨h.dp, g.dp⟩, ?_, ?_⟩
  · show wt d + 2 + wtAll ds ≤ _
    have := h.w
    have := g.w
    omega
  · show (d.showable && PyData.showableAll ds) = true
    rw [h.s, g.s]
    rfl
  · show (nod d && nodAll ds) = true
    rw [h.n, g.n]
    rfl
theorem BdAll.app {m n k : Nat} {as bs : List PyData} (h : BdAll m k as) (g : BdAll n k bs) : BdAll (m + n) k (as ++ bs) := by
  induction as generalizing m with
  | nil => exact g.mono (Nat.le_add_left _ _) (Nat.le_refl _)
  | cons d r ih =>
    obtain ⟨h1, h2, h3, h4⟩ := h
    have h3 : (d.showable && PyData.showableAll r) = true := h3
    have h4 : (nod d && nodAll r) = true := h4
    rw [Bool.and_eq_true] at h3 h4
    have h2 : max d.depth (PyData.depthAll r) ≤ k := h2
    have h1 : wt d + 2 + wtAll r ≤ m := h1
    have z := ih (m := wtAll r) ⟨Nat.le_refl _, Nat.le_trans (Nat.le_max_right _ _) h2, h3.2, h4.2⟩
    refine (BdAll.cons (m := wt d) ⟨Nat.le_refl _, Nat.le_trans (Nat.le_max_left _ _) h2, h3.1, h4.1⟩ z).mono (by omega) (Nat.le_refl _)
theorem BdAll.sub {m k : Nat} {as bs : List PyData} (h : BdAll m k bs) (s : as.Sublist bs) : BdAll m k as := by
  induction s generalizing m with
  | slnil => exact h
  | cons d _ ih =>
    obtain ⟨h1, h2, h3, h4⟩ := h
    have h3 : (d.showable && _) = true := h3
    have h4 : (nod d && _) = true := h4
    rw [Bool.and_eq_true] at h3 h4
    have h1 : wt d + 2 + _ ≤ m := h1
    exact ih ⟨by omega, Nat.le_trans (Nat.le_max_right _ _) h2, h3.2, h4.2⟩
  | @cons_cons l1 l2 d _ ih =>
    obtain ⟨h1, h2, h3, h4⟩ := h
    have h3 : (d.showable && _) = true := h3
    have h4 : (nod d && _) = true := h4
    rw [Bool.and_eq_true] at h3 h4
    have h1 : wt d + 2 + wtAll l2 ≤ m := h1
    have z := ih (m := wtAll l2) ⟨Nat.le_refl _, Nat.le_trans (Nat.le_max_right _ _) h2, h3.2, h4.2⟩
    exact (BdAll.cons (m := wt d) ⟨Nat.le_refl _, Nat.le_trans (Nat.le_max_left _ _) h2, h3.1, h4.1⟩ z).mono (by omega) (Nat.le_refl _)
theorem BdAll.get {m k : Nat} {ds : List PyData} (h : BdAll m k ds) {d : PyData} (hd : d ∈ ds) : Bd m k d := by
  induction ds generalizing m with
  | nil => cases hd
  | cons x r ih =>
    obtain ⟨h1, h2, h3, h4⟩ := h
    have h3 : (x.showable && _) = true := h3
    have h4 : (nod x && _) = true := h4
    rw [Bool.and_eq_true] at h3 h4
    have h1 : wt x + 2 + wtAll r ≤ m := h1
    rcases List.mem_cons.mp hd with rfl | hd
    · exact ⟨by omega, Nat.le_trans (Nat.le_max_left _ _) h2, h3.1, h4.1⟩
    · exact ih ⟨by omega, Nat.le_trans (Nat.le_max_right _ _) h2, h3.2, h4.2⟩ hd
/-- the text of a number of at most so many digits -/
theorem bd_int {i : Int} {k : Nat} (h : i.natAbs < 10 ^ 31) : Bd 40 k (.int i) := by
  have hb : i.natAbs < 2 ^ 110 := Nat.lt_trans h (by decide)
  have hl : i.natAbs.log2 < 1920 := Nat.lt_of_lt_of_le (PySem.Flt.log2_lt_of (by decide) hb) (by decide)
  refine ⟨?_, Nat.zero_le _, by show decide (i.natAbs.log2 < 1920) = true; exact decide_eq_true hl, rfl⟩
  show (Str.ofString (toString i)).length ≤ 40
  have z := PySem.int_text_length_le10 (a := i) (k := 31) (by decide) h
  rw [PySem.ofString_length]
  omega
theorem bd_ints {k m : Nat} : ∀ {ns : List Int}, (∀ n ∈ ns, n.natAbs < 10 ^ 31) → ns.length ≤ m → BdAll (m * 42) k (ns.map PyData.int)
  | [], _, _ => BdAll.nil.mono (Nat.zero_le _) (Nat.le_refl _)
  | n :: r, h, hm => by
    have hm : r.length + 1 ≤ m := hm
    have z := bd_ints (k := k) (m := r.length) (ns := r) (fun x hx => h x (List.mem_cons_of_mem _ hx)) (Nat.le_refl _)
    exact (BdAll.cons (bd_int (k := k) (h n List.mem_cons_self)) z).mono (by omega) (Nat.le_refl _)
/-! ### repr of any value -/
def rReprO (K : PySem.W.Frag) : List V → Hp → VK → Prop := fun xs H Q => ∃ (v : V) (d : PyData), xs = [v] ∧ Ox K H v d ∧ Bd 10000000 60 d ∧ Q (.str d.shown) H
theorem call_reprO {X : Cx} (hg : X.A.guards = some []) (hu : X.A.units + 64 < cLine) : CallR X (.builtin "repr") (rReprO X.K) := by
  intro pins s σ H xs us Q I r h
  obtain ⟨v, d, rfl, hv, hb, q⟩ := h
  obtain ⟨u, rfl, rx⟩ := vals1 r
  have hl : d.shown.length ≤ sizeLine := Nat.le_trans (Nat.le_trans (shown_wt d hb.n) hb.w) (by decide)
  have hdp := hb.dp
  have hs := hb.s
  cases hv with
  | non =>
    cases (show u = Value.none from rx)
    exact call_repr_gives (T := "NoneType") rfl F.slot_NoneType_repr F.entry_NoneType_repr (F.args_NoneType_repr_1 _) gives_none_repr ⟨.str _, H, I.tok _, ⟨_, rfl⟩, q⟩ (hx := by decide)
  | bl b =>
    cases (show u = Value.bool b from rx)
    exact PySem.P.repr_of_bool ⟨.str _, H, I.tok _, ⟨_, rfl⟩, by cases b <;> exact q⟩
  | int i =>
    obtain ⟨t, rfl⟩ := (show ∃ t, u = Value.int i t from rx)
    exact PySem.P.repr_of_int (of_decide_eq_true hs) ⟨.str _, H, I.tok _, ⟨_, rfl⟩, q⟩
  | str x =>
    obtain ⟨t, rfl⟩ := (show ∃ t, u = Value.str x t from rx)
    exact PySem.P.repr_of_str ⟨.str _, H, I.tok _, ⟨_, rfl⟩, q⟩ hl
  | @lst a xs ds hL ha =>
    cases (show u = Value.ref _ from rx)
    obtain ⟨its, rv, ⟨o, n, ho, hc, _, hd⟩, _⟩ := I.list hL
    have len : (PySem.listText (PyData.shownAll ds)).length ≤ sizeLine := hl
    have hdp : PyData.depthAll ds + 1 ≤ 60 := hdp
    obtain ⟨bs, as, ra, rb, rk⟩ := Ox.rkAll I ds xs its ha rv hs (fun t ht => Nat.le_trans (PySem.listText_mem_le ht) len)
    have rr := Reads.list ho hc hd ra
    have fresh : a ∉ bs := PySem.not_mem_of_deeper rr (Nat.lt_succ_self (PyData.depthAll ds)) rb
    refine PySem.call_repr_slot (T := "list") (idr := "list.__repr__") (by omega) ⟨o, ho, hc⟩ PySem.F.slot_list_repr.toG ?_
    cases its with
    | nil =>
      cases ra
      refine PySem.call_list_repr_empty ⟨o, ho, hc⟩ ho hd ⟨_, _, rfl, .str _, H, I.tok _, ⟨_, rfl⟩, ?_⟩
      have q : Q (.str (PySem.listText [])) H := q
      rw [PySem.listText_nil] at q
      exact q
    | cons y l => exact PySem.call_list_reprK ho hc hd fresh (by simpa using rk.length_eq) (fun i z e => rk.item i z (by simpa using e)) hg (fun b _ => PySem.Clear.nil b) (by show X.A.units + 1 + (PyData.depthAll ds + 1) < cLine; omega) (fun _ _ e => e) (fun h' t tk hk => ⟨_, _, rfl, .str _, H, I.kept hk, ⟨t, rfl⟩, q⟩) len
  | @tup a xs ds hT ha =>
    cases (show u = Value.ref _ from rx)
    obtain ⟨its, rv, ⟨o, ho, hc, n, hd⟩, _⟩ := I.tuple hT
    have len : (PySem.tupleText (PyData.shownAll ds)).length ≤ sizeLine := hl
    have hdp : PyData.depthAll ds + 1 ≤ 60 := hdp
    obtain ⟨bs, as, ra, rb, rk⟩ := Ox.rkAll I ds xs its ha rv hs (fun t ht => Nat.le_trans (PySem.tupleText_mem_le ht) len)
    have rr := Reads.tuple ho hc hd ra
    have fresh : a ∉ bs := PySem.not_mem_of_deeper rr (Nat.lt_succ_self (PyData.depthAll ds)) rb
    refine PySem.call_repr_slot (T := "tuple") (idr := "tuple.__repr__") (by omega) ⟨o, ho, hc⟩ PySem.F.slot_tuple_repr ?_
    exact PySem.call_tuple_reprK ho hc hd fresh rk hg (fun b _ => PySem.Clear.nil b) (by show X.A.units + 1 + (PyData.depthAll ds + 1) < cLine; omega) (fun _ _ e => e) (fun h' t tk hk => ⟨_, _, rfl, .str _, H, I.kept hk, ⟨t, rfl⟩, q⟩) len
  | @dct a ha =>
    cases (show u = Value.ref _ from rx)
    obtain ⟨o, es, ep, e1, ec, ed, e0, hns⟩ := Ox.dctAt I ha
    refine PySem.call_repr_slot (T := "dict") (idr := "dict.__repr__") (by omega) ⟨o, e1, ec⟩ PySem.F.slot_dict_repr ?_
    exact PySem.call_dict_reprK (d := 0) (as := []) e1 ec ed hns List.not_mem_nil (by rw [e0]; exact PySem.ReprEntriesK.of_two [] [] [] .nil .nil) hg (fun b _ => PySem.Clear.nil b) (by show X.A.units + 1 + (0 + 1) < cLine; omega) (fun _ _ e => e) (fun h' t tk hk => ⟨_, _, rfl, .str _, H, I.kept hk, ⟨t, rfl⟩, q⟩) (by decide)
end Lp
set_option Elab.async false
set_option linter.all false
set_option maxRecDepth 100000
set_option maxHeartbeats 1000000
namespace Lp
open PySem PySem.Spec PyProof.Rows L2
/-! ### a weaker promise of the same def -/
section
variable {P : Program} {w : World} {K : PySem.W.Frag} {mg : Str → Option Value} {base : Heap} {k : Nat} {x : Str} {sp sp' : Sp}
theorem FnOk.weak {CX : CXT} {f : Addr} {fd : FuncData} {ps : List Str} (F : FnOk P w K mg base CX k f fd ps sp) (h : ∀ vs H Q E, sp' vs H Q E → sp vs H Q E) : FnOk P w K mg base CX k f fd ps sp' :=
  ⟨fun vs H Q E s => F.len vs H Q E (h _ _ _ _ s), fun A out s H ar us vs Q E r e b v s1 => F.run A out s H ar us vs Q E r e b v (h _ _ _ _ s1)⟩
theorem FnG.weak {CX : CXT} {f : Addr} {fd : FuncData} {ps : List Str} (F : FnG P w K mg base CX k f fd ps sp) (h : ∀ vs H Q E, sp' vs H Q E → sp vs H Q E) : FnG P w K mg base CX k f fd ps sp' :=
  ⟨fun vs H Q E s => F.len vs H Q E (h _ _ _ _ s), fun A out s H ar us vs Q E g r e b v s1 => F.runG A out s H ar us vs Q E g r e b v (h _ _ _ _ s1)⟩
theorem cal_weak (c : Cal P w K mg base k x sp) (h : ∀ vs H Q E, sp' vs H Q E → sp vs H Q E) : Cal P w K mg base k x sp' := by
  obtain ⟨f, fd, ps, F, r⟩ := c.ex
  exact ⟨f, fd, ps, Lp.FnOk.weak F h, r⟩
theorem gc_weak (c : Gc P w K mg base k x sp) (h : ∀ vs H Q E, sp' vs H Q E → sp vs H Q E) : Gc P w K mg base k x sp' := by
  obtain ⟨f, fd, ps, F, r⟩ := c.ex
  exact ⟨f, fd, ps, Lp.FnG.weak F h, r⟩
end
/-! ### len(set(xs)), xs a list of ints -/
theorem firstMet_le (ns : List Int) : ∀ i : Nat, i ≤ ns.length → (PyProof.Rows.firstMet (fun j => ns.getD j 0) i).length ≤ i ∧ ((PyProof.Rows.firstMet (fun j => ns.getD j 0) i).length = i → PyProof.Rows.firstMet (fun j => ns.getD j 0) i = ns.take i ∧ (ns.take i).Nodup)
  | 0, _ => ⟨Nat.le_refl _, fun _ => ⟨by rw [List.take_zero]; rfl, by rw [List.take_zero]; exact List.nodup_nil⟩⟩
  | i + 1, h => by
    obtain ⟨h1, h2⟩ := firstMet_le ns i (by omega)
    have hlt : i < ns.length := h
    have e : ns.getD i 0 = ns[i] := by rw [List.getD_eq_getElem?_getD, List.getElem?_eq_getElem hlt] <;> rfl
    have st : PyProof.Rows.firstMet (fun j => ns.getD j 0) (i + 1) = if (PyProof.Rows.firstMet (fun j => ns.getD j 0) i).any (· == ns.getD i 0) = true then PyProof.Rows.firstMet (fun j => ns.getD j 0) i else PyProof.Rows.firstMet (fun j => ns.getD j 0) i ++ [ns.getD i 0] := by
      rw [PyProof.Rows.firstMet_succ]
      rfl
    rw [st]
    by_cases c : (PyProof.Rows.firstMet (fun j => ns.getD j 0) i).any (· == ns.getD i 0) = true
    · rw [if_pos c]
      exact ⟨by omega, fun z => by omega⟩
    · rw [if_neg c, List.length_append]
      refine ⟨by show _ + 1 ≤ _; omega, fun z => ?_⟩
      have z : (PyProof.Rows.firstMet (fun j => ns.getD j 0) i).length + 1 = i + 1 := z
      obtain ⟨a, b⟩ := h2 (by omega)
      have t : ns.take (i + 1) = ns.take i ++ [ns[i]] := take_get (List.getElem?_eq_getElem hlt)
      rw [a, e] at c
      rw [a, e, t]
      refine ⟨rfl, List.nodup_append.mpr ⟨b, List.nodup_cons.mpr ⟨List.not_mem_nil, List.nodup_nil⟩, fun x hx y hy q => c ?_⟩⟩
      rw [List.mem_singleton] at hy
      subst hy
      subst q
      exact List.any_eq_true.mpr ⟨_, hx, beq_self_eq_true _⟩
theorem firstMet_len (ns : List Int) : (PyProof.Rows.firstMet (fun j => ns.getD j 0) ns.length).length = ns.length ↔ ns.Nodup := by
  constructor
  · intro h
    have := ((firstMet_le ns ns.length (Nat.le_refl _)).2 h).2
    rwa [List.take_length] at this
  · intro h
    rw [RZ.firstMet_nodup h ns.length (Nat.le_refl _), List.take_length]
def tLenSetG (K : PySem.W.Frag) (ta : TE) : TE := fun σ H Q => ta σ H fun x H1 => ∃ (l : Addr) (ns : List Int), x = .ref l ∧ SqL K H1 l (ns.map V.int) ∧ ns.length ≤ 4000 ∧ ∀ c : Nat, (c = ns.length ↔ ns.Nodup) → Q (.int (c : Int)) H1
theorem pe_lenSetG {X : Cx} {a : Expr} {ta : TE} {p p2 q pos : Pos} (hg : Gl X "len") (hm : X.mg "len" = none) (hg2 : Gl X "set") (hm2 : X.mg "set" = none) (ha : PE X a ta) (hc : X.calm = true := by rfl)
    (na : starEach [a] X.env = (false, eval a X.env) :: starEach [] X.env := by rfl) : PE X (.Call (.Name "len" p) [.Call (.Name "set" p2) [a] [] q] [] pos) (tLenSetG X.K ta) := by
  refine ⟨fun pins s σ H Q I h => ?_⟩
  refine Call_ (ld_blt I hg hm boot_len ?_)
  refine PyProof.Rows.callWith_builtin1 (PyProof.Rows.args_cons ?_ rfl) rfl rfl
  refine Call_ (ld_blt I hg2 hm2 boot_set ?_)
  refine PyProof.Rows.callWith_type1 (PyProof.Rows.args_cons (thn (ha.run pins s σ H _ I h) fun v s1 ⟨x, H1, I1, r1, q1⟩ => PyProof.Rows.args_nil ?_) na) na rfl
  obtain ⟨l, ns, rfl, hq, hl, q1⟩ := q1
  cases r1
  obtain ⟨its, r, pl, hz⟩ := I1.list hq
  have hlen : its.toArray.size = ns.length := by rw [List.size_toArray, ← r.length, List.length_map]
  refine call_set_list (I1.ok.hd hc) pl.isList (by simpa using RZ.intsAre_vals r) (by rw [hlen]; unfold scanBound; omega) fun h' tk hS hk => ?_
  refine PyProof.Rows.args_nil ?_
  rw [hlen] at hS
  have hc2 := firstMet_len ns
  have hc3 := (firstMet_le ns ns.length (Nat.le_refl _)).1
  obtain ⟨o, es, ep, t, ho, hex, hd, _, _, _, hf, hn⟩ := hS
  have I2 : Inv X pins σ H1 { s1 with heap := h', toks := tk } := I1.kept fun b o e => hk b o (Heap.lt_size e) e
  exact call_len_set ho hex hd hf (by rw [hn] <;> omega) ⟨.int ((PyProof.Rows.firstMet (fun j => ns.getD j 0) ns.length).length : Nat), H1, I2.tok _, ⟨_, by rw [hn]⟩, q1 _ hc2⟩
/-! ### xs != [] -/
def rNeNil (K : PySem.W.Frag) : R2 := fun x y H Q => ∃ (a b : Addr) (xs : List V), x = .ref a ∧ y = .ref b ∧ SqL K H a xs ∧ SqL K H b [] ∧ Q (.bl (!xs.isEmpty)) H
theorem op_neNil {X : Cx} (hu : X.A.units + 64 < cLine) : OpR X (compareOp .NotEq) (rNeNil X.K) := by
  intro pins s σ H x y v u Q I rx ry h
  obtain ⟨a, b, xs, rfl, rfl, ha, hb, q⟩ := h
  cases (show v = Value.ref a from rx)
  cases (show u = Value.ref b from ry)
  obtain ⟨its, r1, p1, _⟩ := I.list ha
  obtain ⟨jts, r2, p2, _⟩ := I.list hb
  cases r2
  cases xs with
  | nil =>
    cases r1
    have e : (!PyData.eqv (dI []) (dI [])) = false := rfl
    exact op_neD hu pins s σ H (.ref a) (.ref b) _ _ Q I rfl rfl ⟨dI [], dI [], dp_ints (ns := []) ha, dp_ints (ns := []) hb, shaped_ints [], shaped_ints [], q⟩
  | cons z zs =>
    cases r1 with
    | cons r rr =>
      exact PySem.SeqAt.RcNeAt.lists_lengths p1.isList p2.isList rfl (by omega) X.prog X.w X.xe _ ⟨.bl true, H, I, rfl, q⟩
/-! ### set(xs) of more than a thousand -/
def rSetLH (K : PySem.W.Frag) (w : World) : List V → Hp → VK → Prop := fun xs H Q => ∃ (a : Addr) (ns : List Int), xs = [V.ref a] ∧ SqL K H a (ns.map V.int) ∧ ns.length ≤ 4000 ∧ ∀ (p : Addr) (c : Nat), H p = none → c ≤ ns.length → Q (.ref p) (upd H p (SetO w p (fun j => decide (j ∈ ns)) c))
theorem cr_setLH {X : Cx} (hc : X.calm = true) : CallR X (.type "set") (rSetLH X.K X.w) := by
  intro pins s σ H xs us Q I r h
  obtain ⟨a, ns, rfl, hq, hl, q⟩ := h
  cases r with
  | cons r rr =>
    cases rr
    cases (show _ = Value.ref a from r)
    obtain ⟨its, rv, p, _⟩ := I.list hq
    refine call_set_listI ns (I.ok.hd hc) p.isList (RZ.intsAre_vals rv) (Nat.lt_of_le_of_lt (Nat.succ_le_succ hl) (by decide)) fun h' tk c hs hcn hk => ?_
    refine ⟨.ref _, upd H _ (SetO X.w s.heap.objs.size (fun j => decide (j ∈ ns)) c), I.laid hk (Nat.le_refl _) ⟨hs, ?_, fun h1 h2 x k => ?_⟩, rfl, q _ c (I.hok.fresh (Nat.le_refl _)) hcn⟩
    · obtain ⟨o, _, _, _, e, _⟩ := hs
      exact ⟨o, e⟩
    · obtain ⟨o, es, ep, t, e, r⟩ := x
      exact ⟨o, es, ep, t, k o e, r⟩
theorem num_len3 : ∀ n : Int, -999 ≤ n → n ≤ 999 → (Str.ofString (toString n)).length ≤ 4 := by
  intro n h0 h1
  have key : ∀ i : Fin 1999, (Str.ofString (toString ((i.val : Int) - 999))).length ≤ 4 := by decide +kernel
  have e := key ⟨(n + 999).toNat, by omega⟩
  have e2 : (((n + 999).toNat : Nat) : Int) - 999 = n := by omega
  rw [e2] at e
  exact e
end Lp
namespace Lp
open PySem PySem.Spec PyProof.Rows L2
/-! ### != of equal lists of texts -/
def rNeStrs (K : PySem.W.Frag) : R2 := fun x y H Q => ∃ (a b : Addr) (zs : List Str), x = .ref a ∧ y = .ref b ∧ SqL K H a (zs.map V.str) ∧ SqL K H b (zs.map V.str) ∧ Q (.bl false) H
theorem op_neStrs {X : Cx} (hu : X.A.units + 64 < cLine) : OpR X (compareOp .NotEq) (rNeStrs X.K) := by
  intro pins s σ H x y v u Q I rx ry h
  obtain ⟨a, b, zs, rfl, rfl, ha, hb, q⟩ := h
  cases (show v = Value.ref a from rx)
  cases (show u = Value.ref b from ry)
  obtain ⟨its, r1, p1, _⟩ := I.list ha
  obtain ⟨jts, r2, p2, _⟩ := I.list hb
  have l1 := r1.length
  have l2 := r2.length
  refine PySem.SeqAt.RcNeAt.lists (e := fun _ => true) p1.isList p2.isList (by simp; omega) (by omega) (fun j h1 h2 => ?_) X.prog X.w X.xe _ ?_
  · have g1 : j < its.length := by simpa using h1
    have g2 : j < jts.length := by simpa using h2
    have gz : (zs.map V.str)[j]? = some (.str (zs[j]'(by rw [List.length_map] at l1; omega))) := by rw [List.getElem?_map, List.getElem?_eq_getElem (by rw [List.length_map] at l1; omega)]; rfl
    obtain ⟨u1, e1, t1, q1⟩ := r1.get gz
    obtain ⟨u2, e2, t2, q2⟩ := r2.get gz
    rw [List.getElem?_eq_getElem g1] at e1
    rw [List.getElem?_eq_getElem g2] at e2
    have f1 : its.toArray[j] = u1 := by simpa using Option.some.inj e1
    have f2 : jts.toArray[j] = u2 := by simpa using Option.some.inj e2
    rw [f1, f2, q1, q2]
    have z := PySem.SeqAt.EqAt.str_str (A := X.A.in1) (s := s) (zs[j]'(by rw [List.length_map] at l1; omega)) t1 (zs[j]'(by rw [List.length_map] at l1; omega)) t2
    rw [beq_self_eq_true] at z
    exact z
  · have e : (!(List.range its.toArray.size).all fun _ => true) = false := by simp
    rw [e]
    exact ⟨.bl false, H, I, rfl, q⟩
end Lp
set_option Elab.async false
set_option linter.all false
set_option maxRecDepth 100000
namespace L12
open PySem PySem.Spec PyProof.Rows L2 Lp
def topS (i : Nat) : Stmt := PySem.Challenge.pw_latepatches_k12_orders_of_few_patches.main.body.getD i (.Pass ⟨0, 0, 0, 0⟩)
abbrev s_is_integer : Stmt := topS 8
abbrev N_is_integer : List Str := ["value"]
theorem sc_is_integer : FnScope N_is_integer ["value"] (defScope s_is_integer) := ⟨rfl, rfl, rfl, by decide +kernel, rfl, by decide +kernel, by decide +kernel⟩
abbrev s_is_integer_within : Stmt := topS 9
abbrev N_is_integer_within : List Str := ["value", "least", "greatest"]
theorem sc_is_integer_within : FnScope N_is_integer_within ["value", "least", "greatest"] (defScope s_is_integer_within) := ⟨rfl, rfl, rfl, by decide +kernel, rfl, by decide +kernel, by decide +kernel⟩
abbrev s_are_integers : Stmt := topS 10
abbrev N_are_integers : List Str := ["value", "least", "greatest", "most", "item"]
theorem sc_are_integers : FnScope N_are_integers ["value", "least", "greatest", "most"] (defScope s_are_integers) := ⟨rfl, rfl, rfl, by decide +kernel, rfl, by decide +kernel, by decide +kernel⟩
abbrev s_check_number : Stmt := topS 11
abbrev N_check_number : List Str := ["value", "least", "greatest"]
theorem sc_check_number : FnScope N_check_number ["value", "least", "greatest"] (defScope s_check_number) := ⟨rfl, rfl, rfl, by decide +kernel, rfl, by decide +kernel, by decide +kernel⟩
abbrev s_check_index : Stmt := topS 12
abbrev N_check_index : List Str := ["index", "count"]
theorem sc_check_index : FnScope N_check_index ["index", "count"] (defScope s_check_index) := ⟨rfl, rfl, rfl, by decide +kernel, rfl, by decide +kernel, by decide +kernel⟩
abbrev s_are_events : Stmt := topS 16
abbrev N_are_events : List Str := ["value"]
theorem sc_are_events : FnScope N_are_events ["value"] (defScope s_are_events) := ⟨rfl, rfl, rfl, by decide +kernel, rfl, by decide +kernel, by decide +kernel⟩
abbrev s_is_history : Stmt := topS 17
abbrev N_is_history : List Str := ["value", "started", "event"]
theorem sc_is_history : FnScope N_is_history ["value"] (defScope s_is_history) := ⟨rfl, rfl, rfl, by decide +kernel, rfl, by decide +kernel, by decide +kernel⟩
abbrev s_check_history : Stmt := topS 18
abbrev N_check_history : List Str := ["history"]
theorem sc_check_history : FnScope N_check_history ["history"] (defScope s_check_history) := ⟨rfl, rfl, rfl, by decide +kernel, rfl, by decide +kernel, by decide +kernel⟩
abbrev s_starts_of : Stmt := topS 19
abbrev N_starts_of : List Str := ["history", "event"]
theorem sc_starts_of : FnScope N_starts_of ["history"] (defScope s_starts_of) := ⟨rfl, rfl, rfl, by decide +kernel, rfl, by decide +kernel, by decide +kernel⟩
abbrev s_is_started : Stmt := topS 20
abbrev N_is_started : List Str := ["history", "value"]
theorem sc_is_started : FnScope N_is_started ["history", "value"] (defScope s_is_started) := ⟨rfl, rfl, rfl, by decide +kernel, rfl, by decide +kernel, by decide +kernel⟩
abbrev s_running_after : Stmt := topS 21
abbrev N_running_after : List Str := ["history", "patch"]
theorem sc_running_after : FnScope N_running_after ["history"] (defScope s_running_after) := ⟨rfl, rfl, rfl, by decide +kernel, rfl, by decide +kernel, by decide +kernel⟩
abbrev s_replay : Stmt := topS 23
abbrev N_replay : List Str := ["history", "presents", "saved", "event"]
theorem sc_replay : FnScope N_replay ["history"] (defScope s_replay) := ⟨rfl, rfl, rfl, by decide +kernel, rfl, by decide +kernel, by decide +kernel⟩
abbrev s_is_value_of : Stmt := topS 24
abbrev N_is_value_of : List Str := ["history", "value"]
theorem sc_is_value_of : FnScope N_is_value_of ["history", "value"] (defScope s_is_value_of) := ⟨rfl, rfl, rfl, by decide +kernel, rfl, by decide +kernel, by decide +kernel⟩
abbrev s_present_after : Stmt := topS 25
abbrev N_present_after : List Str := ["history", "presents", "_"]
theorem sc_present_after : FnScope N_present_after ["history"] (defScope s_present_after) := ⟨rfl, rfl, rfl, by decide +kernel, rfl, by decide +kernel, by decide +kernel⟩
abbrev s_fate_of : Stmt := topS 26
abbrev N_fate_of : List Str := ["history", "value", "presents", "_", "last", "event", "moment", "present"]
theorem sc_fate_of : FnScope N_fate_of ["history", "value"] (defScope s_fate_of) := ⟨rfl, rfl, rfl, by decide +kernel, rfl, by decide +kernel, by decide +kernel⟩
abbrev s_is_order : Stmt := topS 28
abbrev N_is_order : List Str := ["history", "value", "running"]
theorem sc_is_order : FnScope N_is_order ["history", "value"] (defScope s_is_order) := ⟨rfl, rfl, rfl, by decide +kernel, rfl, by decide +kernel, by decide +kernel⟩
abbrev s_check_order : Stmt := topS 29
abbrev N_check_order : List Str := ["history", "order"]
theorem sc_check_order : FnScope N_check_order ["history", "order"] (defScope s_check_order) := ⟨rfl, rfl, rfl, by decide +kernel, rfl, by decide +kernel, by decide +kernel⟩
abbrev s_count_orders : Stmt := topS 30
abbrev N_count_orders : List Str := ["history"]
theorem sc_count_orders : FnScope N_count_orders ["history"] (defScope s_count_orders) := ⟨rfl, rfl, rfl, by decide +kernel, rfl, by decide +kernel, by decide +kernel⟩
abbrev s_left_by : Stmt := topS 31
abbrev N_left_by : List Str := ["history", "order", "patch"]
theorem sc_left_by : FnScope N_left_by ["history", "order"] (defScope s_left_by) := ⟨rfl, rfl, rfl, by decide +kernel, rfl, by decide +kernel, by decide +kernel⟩
abbrev s_count_leaving : Stmt := topS 32
abbrev N_count_leaving : List Str := ["history", "value", "fate", "running"]
theorem sc_count_leaving : FnScope N_count_leaving ["history", "value"] (defScope s_count_leaving) := ⟨rfl, rfl, rfl, by decide +kernel, rfl, by decide +kernel, by decide +kernel⟩
abbrev s_nth_leaving : Stmt := topS 33
abbrev N_nth_leaving : List Str := ["history", "value", "index", "fate", "running", "saver", "patch"]
theorem sc_nth_leaving : FnScope N_nth_leaving ["history", "value", "index"] (defScope s_nth_leaving) := ⟨rfl, rfl, rfl, by decide +kernel, rfl, by decide +kernel, by decide +kernel⟩
abbrev s_leaving_rank : Stmt := topS 34
abbrev N_leaving_rank : List Str := ["history", "order"]
theorem sc_leaving_rank : FnScope N_leaving_rank ["history", "order"] (defScope s_leaving_rank) := ⟨rfl, rfl, rfl, by decide +kernel, rfl, by decide +kernel, by decide +kernel⟩
abbrev s_nth_permutation : Stmt := topS 35
abbrev N_nth_permutation : List Str := ["patches", "index", "rest", "permutation", "place"]
theorem sc_nth_permutation : FnScope N_nth_permutation ["patches", "index"] (defScope s_nth_permutation) := ⟨rfl, rfl, rfl, by decide +kernel, rfl, by decide +kernel, by decide +kernel⟩
abbrev s_permutation_rank : Stmt := topS 36
abbrev N_permutation_rank : List Str := ["permutation", "rest", "rank", "patch"]
theorem sc_permutation_rank : FnScope N_permutation_rank ["permutation"] (defScope s_permutation_rank) := ⟨rfl, rfl, rfl, by decide +kernel, rfl, by decide +kernel, by decide +kernel⟩
abbrev s_law_source : Stmt := topS 38
abbrev N_law_source : List Str := ["cell", "k"]
theorem sc_law_source : FnScope N_law_source ["cell", "k"] (defScope s_law_source) := ⟨rfl, rfl, rfl, by decide +kernel, rfl, by decide +kernel, by decide +kernel⟩
abbrev s_law_draw : Stmt := topS 39
abbrev N_law_draw : List Str := ["source", "count", "digit", "mixed"]
theorem sc_law_draw : FnScope N_law_draw ["source", "count"] (defScope s_law_draw) := ⟨rfl, rfl, rfl, by decide +kernel, rfl, by decide +kernel, by decide +kernel⟩
abbrev s_law_row : Stmt := topS 40
abbrev N_law_row : List Str := ["source", "most", "many", "style", "ends", "named", "left", "active", "found", "lap", "begins", "spots"]
theorem sc_law_row : FnScope N_law_row ["source", "most"] (defScope s_law_row) := ⟨rfl, rfl, rfl, by decide +kernel, rfl, by decide +kernel, by decide +kernel⟩
abbrev s_law_active : Stmt := topS 41
abbrev N_law_active : List Str := ["row", "event"]
theorem sc_law_active : FnScope N_law_active ["row"] (defScope s_law_active) := ⟨rfl, rfl, rfl, by decide +kernel, rfl, by decide +kernel, by decide +kernel⟩
abbrev s_law_play : Stmt := topS 42
abbrev N_law_play : List Str := ["row", "saved", "here", "found", "event"]
theorem sc_law_play : FnScope N_law_play ["row"] (defScope s_law_play) := ⟨rfl, rfl, rfl, by decide +kernel, rfl, by decide +kernel, by decide +kernel⟩
abbrev s_law_equal : Stmt := topS 43
abbrev N_law_equal : List Str := ["result", "expected", "one", "other"]
theorem sc_law_equal : FnScope N_law_equal ["result", "expected"] (defScope s_law_equal) := ⟨rfl, rfl, rfl, by decide +kernel, rfl, by decide +kernel, by decide +kernel⟩
abbrev s_law_all : Stmt := topS 44
abbrev N_law_all : List Str := ["things", "found", "turn", "longer", "row", "one"]
theorem sc_law_all : FnScope N_law_all ["things"] (defScope s_law_all) := ⟨rfl, rfl, rfl, by decide +kernel, rfl, by decide +kernel, by decide +kernel⟩
abbrev s_law_holds : Stmt := topS 45
abbrev N_law_holds : List Str := ["source", "most", "lap", "row", "before", "groups", "orders", "order", "closed", "here", "value", "some", "told", "ranks", "one", "patch", "event", "at"]
theorem sc_law_holds : FnScope N_law_holds ["source", "most"] (defScope s_law_holds) := ⟨rfl, rfl, rfl, by decide +kernel, rfl, by decide +kernel, by decide +kernel⟩
abbrev s_law : Stmt := topS 46
abbrev N_law : List Str := ["script", "k", "cell"]
theorem sc_law : FnScope N_law ["script"] (defScope s_law) := ⟨rfl, rfl, rfl, by decide +kernel, rfl, by decide +kernel, by decide +kernel⟩
end L12
set_option Elab.async false
set_option linter.all false
set_option maxRecDepth 100000
namespace L12
open PySem PySem.Spec PyProof.Rows L2 Lp
section
variable {P : Program} {w : World} {K : PySem.W.Frag} {mg : Str → Option Value} {base : Heap}
/-- a def of the text at its name -/
structure At (K : PySem.W.Frag) (mg : Str → Option Value) (x : Str) (st : Stmt) (f : Addr) (fd : FuncData) : Prop where
  fn : Fun K x x st f fd
  mgf : mg x = some (.ref f)
theorem At.gc {k : Nat} {x : Str} {st : Stmt} {f : Addr} {fd : FuncData} {ps : List Str} {sp : Sp} (a : At K mg x st f fd) (b : Binds K fd ps []) (F : FnG P w K mg base CX0 k f fd ps sp) : Gc P w K mg base k x sp := ⟨f, fd, ps, F, a.mgf, a.fn.kp, b⟩

/-! ### is_integer and its kin -/
def spIsInt : Sp := fun vs H Q _ => ∃ i : Int, vs = [.int i] ∧ Q (.bl true) H
theorem ok_is_integer {f : Addr} {fd : FuncData} (F : Fun K "is_integer" "is_integer" s_is_integer f fd) (B : NoB mg) : FnG P w K mg base CX0 1 f fd ["value"] spIsInt := by
  refine okG F sc_is_integer (fun vs H Q E h => ?_) (fun cdv A outer s H vs Q E hG hr h => ?_)
  · obtain ⟨i, rfl, _⟩ := h
    rfl
  · obtain ⟨i, rfl, q⟩ := h
    refine ⟨_, (pss_one (ps_ret (pe_and (pe_callB call_isi (by rfl) B.isinstance (by decide +kernel) (pa_cons (pv 0) (pa_cons (pe_bltn (v := .ty "int") (by rfl) B.int boot_int rfl) pa_nil))) (pe_one (pe_not (pe_callB call_isi (by rfl) B.isinstance (by decide +kernel) (pa_cons (pv 0) (pa_cons (pe_bltn (v := .ty "bool") (by rfl) B.bool boot_bool rfl) pa_nil)))))))), ?_⟩
    refine ⟨_, rfl, _, _, _, _, true, rfl, .ty _, .base (.int i), kit_ty (by decide +kernel), true, rfl, iteT ?_⟩
    exact ⟨_, rfl, _, _, _, _, false, rfl, .ty _, .base (.int i), kit_ty (by decide +kernel), false, rfl, q⟩
def spWithin : Sp := fun vs H Q _ => ∃ i lo hi : Int, vs = [.int i, .int lo, .int hi] ∧ lo ≤ i ∧ i ≤ hi ∧ Q (.bl true) H
theorem ok_is_integer_within {f : Addr} {fd : FuncData} (F : Fun K "is_integer_within" "is_integer_within" s_is_integer_within f fd) (T_is_integer : Gc P w K mg base 1 "is_integer" spIsInt) : FnG P w K mg base CX0 2 f fd ["value", "least", "greatest"] spWithin := by
  refine okG F sc_is_integer_within (fun vs H Q E h => ?_) (fun cdv A outer s H vs Q E hG hr h => ?_)
  · obtain ⟨i, lo, hi, rfl, _⟩ := h
    rfl
  · obtain ⟨i, lo, hi, rfl, h1, h2, q⟩ := h
    refine ⟨_, (pss_one (ps_ret (pe_and (pe_g T_is_integer hG hr (by decide) (by rfl) (pa_cons (pv 0) pa_nil)) (pe_one (pe_chain op_le op_le (pv 1) (pv 0) (pv 2)))))), ?_⟩
    refine ⟨_, rfl, i, rfl, true, rfl, iteT ?_⟩
    refine ⟨_, rfl, _, rfl, _, _, rfl, rfl, _, rfl, ?_⟩
    rw [decide_eq_true h1]
    refine iteT ⟨_, rfl, _, _, rfl, rfl, ?_⟩
    dsimp only
    rw [decide_eq_true h2]
    exact q
/-! ### are_integers -/
def spAreInts (K : PySem.W.Frag) : Sp := fun vs H Q _ => ∃ (a : Addr) (ns : List Int) (lo hi m : Int), vs = [.ref a, .int lo, .int hi, .int m] ∧ SqL K H a (ns.map V.int) ∧ ((ns.length : Nat) : Int) ≤ m ∧ ns.length ≤ 1000 ∧ (∀ n ∈ ns, lo ≤ n ∧ n ≤ hi) ∧ ∀ H', Same H H' → Q (.bl true) H'
theorem ok_are_integers {f : Addr} {fd : FuncData} (F : Fun K "are_integers" "are_integers" s_are_integers f fd) (B : NoB mg) (T_is_integer_within : Gc P w K mg base 2 "is_integer_within" spWithin) : FnG P w K mg base CX0 3 f fd ["value", "least", "greatest", "most"] (spAreInts K) := by
  refine okG F sc_are_integers (fun vs H Q E h => ?_) (fun cdv A outer s H vs Q E hG hr h => ?_)
  · obtain ⟨a, ns, lo, hi, m, rfl, _⟩ := h
    rfl
  · obtain ⟨a, ns, lo, hi, m, rfl, hS, hm, hl, hb, q⟩ := h
    refine ⟨_, (pss_cons (ps_if (PW.pt (pw_or (pt_cmpR op_neTy (pe_callTy call_type1 (by rfl) B.type (by decide +kernel) (pa_cons (pv 0) pa_nil)) (pe_bltn (v := .ty "list") (by rfl) B.list boot_list rfl) (nomark _)) (pw_or1 (pt_cmpR op_gt (pe_callB call_len_seq (by rfl) B.len PySem.boot_len (pa_cons (pv 0) pa_nil)) (pv 3) (nomark _))))) (pss_one (ps_ret pe_bl)) pss_nil)
        (pss_one (ps_ret (pe_callB (cr_all rfl) (by rfl) B.all (by decide +kernel) (pa_cons (pe_lc (own := [("item", 4)]) (g := gName 4) (tt := tYes) rfl sc_are_integers.nd (pi_list (pv 0)) (blkOk_by (own := [("item", 4)]) (N := N_are_integers) (sc := defScope s_are_integers) (by decide +kernel)) (fun _ _ _ _ _ => (pg_name (i := 4) sc_are_integers.nd rfl (Or.inl rfl))) (fun _ _ _ _ _ => pts_nil) (fun _ _ _ _ _ => (pe_g T_is_integer_within hG hr (by decide) (by rfl) (pa_cons (pv 4) (pa_cons (pv 1) (pa_cons (pv 2) pa_nil)))))) pa_nil))))), ?_⟩
    refine ⟨_, rfl, _, _, rfl, .lst hS, _, rfl, rfl, PySem.TypeEq.meta_list, _, rfl, iteF ?_⟩
    refine ⟨_, rfl, a, _, rfl, .inl hS, _, rfl, _, _, rfl, rfl, _, rfl, ?_⟩
    rw [List.length_map, decide_eq_false (show ¬ m < ((ns.length : Nat) : Int) by omega)]
    refine iteF ?_
    refine ⟨_, rfl, a, rfl, ⟨_, hS⟩, fun D hD => lc_list (xs := ns.map V.int) (LcP H D fun i => (List.replicate i true).map V.bl) (.init hD rfl) (fun i H' _ p => p.2.1.seq hS) (fun i x H' hx p => ?_) (fun H' p => ?_)⟩
    · obtain ⟨n, rfl, hn⟩ := get_int hx
      obtain ⟨h1, h2⟩ := hb n (mem_get hn)
      refine ⟨rfl, ?_⟩
      refine ⟨_, rfl, _, rfl, _, rfl, n, lo, hi, rfl, h1, h2, ?_⟩
      refine p.put (Same.refl _) ?_ (by rw [List.length_map, List.length_replicate]; have := lt_get hn; omega)
      rw [List.replicate_succ', List.map_append]
      rfl
    · refine ⟨D, _, rfl, .of p.2.2, ?_⟩
      have e : (List.replicate (ns.map V.int).length true).all id = true := by
        rw [List.all_eq_true]
        intro b hb
        exact (List.eq_of_mem_replicate hb)
      rw [e]
      exact q _ p.2.1

/-! ### histories -/
structure Hist (ns : List Int) : Prop where
  rng : ∀ e ∈ ns, e ≠ 0 ∧ -100 ≤ e ∧ e ≤ 100
  nd : ns.Nodup
  ord : ∀ (i : Nat) (e : Int), ns[i]? = some e → e < 0 → -e ∈ ns.take i
  len : ns.length ≤ 200
theorem not_mem_take {ns : List Int} (nd : ns.Nodup) {i : Nat} {e : Int} (h : ns[i]? = some e) : e ∉ ns.take i := by
  intro hm
  obtain ⟨j, hj, e1⟩ := List.mem_iff_getElem.mp hm
  rw [List.length_take] at hj
  have hjn : j < ns.length := by omega
  have e2 : ns[j]? = some e := by
    rw [List.getElem?_eq_getElem hjn, ← e1, List.getElem_take]
  have := nd_ix nd e2 h
  omega
theorem mem_take_succ {ns : List Int} {i : Nat} {e x : Int} (h : ns[i]? = some e) : (x ∈ ns.take (i + 1)) ↔ (x ∈ ns.take i ∨ x = e) := by
  rw [take_get h, List.mem_append, List.mem_singleton]
/-! ### are_events -/
def spAreEv (K : PySem.W.Frag) : Sp := fun vs H Q _ => ∃ (a : Addr) (ns : List Int), vs = [.ref a] ∧ SqL K H a (ns.map V.int) ∧ (∀ e ∈ ns, e ≠ 0 ∧ -100 ≤ e ∧ e ≤ 100) ∧ ns.Nodup ∧ ns.length ≤ 200 ∧ ∀ H', Same H H' → Q (.bl true) H'
theorem ok_are_events {f : Addr} {fd : FuncData} (F : Fun K "are_events" "are_events" s_are_events f fd) (B : NoB mg) {t1 t2 : Tok} (T_g_LAST_PATCH : mg "LAST_PATCH" = some (.int 100 t1)) (T_g_MOST_EVENTS : mg "MOST_EVENTS" = some (.int 200 t2))
    (T_are_integers : Gc P w K mg base 3 "are_integers" (spAreInts K)) : FnG P w K mg base CX0 4 f fd ["value"] (spAreEv K) := by
  refine okG F sc_are_events (fun vs H Q E h => ?_) (fun cdv A outer s H vs Q E hG hr h => ?_)
  · obtain ⟨a, ns, rfl, _⟩ := h
    rfl
  · obtain ⟨a, ns, rfl, hS, hb, nd, hl, q⟩ := h
    refine ⟨_, (pss_cons (ps_if (pt_not (pt_val (pe_g T_are_integers hG hr (by decide) (by rfl) (pa_cons (pv 0) (pa_cons (pe_un un_neg (pe_glob (v := .int 100) (by rfl) T_g_LAST_PATCH ⟨_, rfl⟩)) (pa_cons (pe_glob (v := .int 100) (by rfl) T_g_LAST_PATCH ⟨_, rfl⟩) (pa_cons (pe_glob (v := .int 200) (by rfl) T_g_MOST_EVENTS ⟨_, rfl⟩) pa_nil))))))) (pss_one (ps_ret pe_bl)) pss_nil)
        (pss_one (ps_ret (pe_and (pe_cmpR op_notIn_seq pe_int (pv 0) (by rfl)) (pe_one (pe_cmpR op_eq (RZ.pe_lenSetI (by rfl) B.len (by rfl) B.set (pv 0)) (pe_callB call_len_seq (by rfl) B.len PySem.boot_len (pa_cons (pv 0) pa_nil)) (nomark _))))))), ?_⟩
    refine ⟨_, rfl, _, rfl, a, ns, -100, 100, 200, rfl, hS, by omega, by omega, fun n hn => (hb n hn).2, fun H1 s1 => ?_⟩
    refine ⟨_, rfl, iteF ?_⟩
    have hS1 := s1.seq hS
    refine ⟨_, rfl, a, ns.map V.int, rfl, .inl hS1, rfl, flatI ns, true, notInT fun z => (hb 0 z).1 rfl, iteT ?_⟩
    refine ⟨_, rfl, a, ns, rfl, hS1, nd, by omega, _, rfl, a, _, rfl, .inl hS1, rfl, ?_⟩
    rw [List.length_map, dT rfl]
    exact q _ s1

def spIsHist (K : PySem.W.Frag) : Sp := fun vs H Q _ => ∃ (a : Addr) (ns : List Int), vs = [.ref a] ∧ SqL K H a (ns.map V.int) ∧ Hist ns ∧ ∀ H', Same H H' → Q (.bl true) H'
theorem ok_is_history {f : Addr} {fd : FuncData} (F : Fun K "is_history" "is_history" s_is_history f fd) (B : NoB mg) (T_are_events : Gc P w K mg base 4 "are_events" (spAreEv K)) : FnG P w K mg base CX0 5 f fd ["value"] (spIsHist K) := by
  refine okG F sc_is_history (fun vs H Q E h => ?_) (fun cdv A outer s H vs Q E hG hr h => ?_)
  · obtain ⟨a, ns, rfl, _⟩ := h
    rfl
  · obtain ⟨a, ns, rfl, hS, hh, q⟩ := h
    have hu := hu_of hr
    refine ⟨_, (pss_cons (ps_if (pt_not (pt_val (pe_g T_are_events hG hr (by decide) (by rfl) (pa_cons (pv 0) pa_nil)))) (pss_one (ps_ret pe_bl)) pss_nil)
        (pss_cons (ps_set (i := 1) sc_is_history.nd rfl (Or.inl rfl) (pe_callTy0 cr_set0 (by rfl) B.set (by decide +kernel)))
        (pss_cons (ps_for PassesOwn.never rfl (pi_list (pv 0)) (pg_name (i := 2) sc_is_history.nd rfl (Or.inl rfl))
          (pss_one (ps_if (pt_cmpR op_gt (pv 2) pe_int (nomark _)) (pss_one (ps_expr (pe_sadd (pv 1) (pa_cons (pv 2) pa_nil)))) (pss_one (ps_if (pt_cmpR or_snotin (pe_un un_neg (pv 2)) (pv 1) (by rfl)) (pss_one (ps_ret pe_bl)) pss_nil)))))
        (pss_one (ps_ret pe_bl))))), ?_⟩
    refine ⟨_, rfl, a, ns, rfl, hS, hh.rng, hh.nd, hh.len, fun H1 s1 => ?_⟩
    refine ⟨_, rfl, iteF ?_⟩
    refine ⟨rfl, fun p np => ?_⟩
    have hS1 := s1.seq hS
    refine ⟨_, rfl, a, rfl, ⟨_, (same_new np).seq hS1⟩, for_list (xs := ns.map V.int) (fun i σ H' => (∃ y, σ = [some (.ref a), some (.ref p), y]) ∧ Same H1 H' ∧ ∃ n, n ≤ i ∧ H' p = some (SetO w p (fun x => decide (0 < x ∧ x ∈ ns.take i)) n)) ⟨⟨_, rfl⟩, same_new np, 0, Nat.le_refl _, ?_⟩ (fun i σ H' _ h => h.2.1.seq hS1) (fun i x σ H' hx h => ?_) (fun σ H' h => ?_)⟩
    · rw [upd_same]
      show some (SetO w p (fun x => false) 0) = some (SetO w p (fun x => decide (0 < x ∧ x ∈ ns.take 0)) 0)
      simp
    · obtain ⟨n, rfl, hn⟩ := get_int hx
      obtain ⟨⟨y, rfl⟩, sm, m, hm, hp⟩ := h
      have hi : i < 200 := Nat.lt_of_lt_of_le (lt_get hn) hh.len
      by_cases h0 : 0 < n
      · refine ⟨_, rfl, _, _, rfl, rfl, true, dT h0, ?_⟩
        refine ⟨_, rfl, ⟨p, _, m, rfl, hp⟩, _, rfl, p, n, _, m, rfl, rfl, hp, by show m + 1 < 4096; omega, ⟨_, rfl⟩, fun b o e => ?_, m + 1, by omega, ?_⟩
        rotate_left 1
        · have hnt : ¬ (0 < n ∧ n ∈ ns.take i) := fun z => not_mem_take hh.nd hn z.2
          rw [upd_same, decide_eq_false hnt, if_neg Bool.false_ne_true]
          refine congrArg some (congrArg (fun S => SetO w p S _) (funext fun x => ?_))
          rw [← Bool.decide_or]
          refine decide_eq_decide.mpr ?_
          have := mem_take_succ (x := x) hn
          rw [this]
          constructor
          · rintro (⟨a, b⟩ | rfl)
            · exact ⟨a, .inl b⟩
            · exact ⟨h0, .inr rfl⟩
          · rintro ⟨a, b | b⟩
            · exact .inl ⟨a, b⟩
            · exact .inr b
        · rw [upd_ne (ne_of_none e np)]
          exact sm _ _ e
      · refine ⟨_, rfl, _, _, rfl, rfl, false, dF h0, ?_⟩
        have e0 := (hh.rng n (mem_get hn)).1
        have hpre := hh.ord i n hn (by omega)
        refine ⟨_, rfl, n, rfl, _, rfl, -n, p, _, m, rfl, rfl, hp, false, nF ⟨by omega, hpre⟩, ⟨_, rfl⟩, sm, m, by omega, ?_⟩
        rw [hp]
        refine congrArg some (congrArg (fun S => SetO w p S m) (funext fun x => decide_eq_decide.mpr ?_))
        rw [mem_take_succ hn]
        constructor
        · exact fun ⟨a, b⟩ => ⟨a, .inl b⟩
        · rintro ⟨a, b | b⟩
          · exact ⟨a, b⟩
          · omega
    · obtain ⟨⟨y, rfl⟩, sm, _⟩ := h
      exact q _ (s1.trans sm)

/-! ### check_history -/
def spCheck (K : PySem.W.Frag) : Sp := fun vs H Q _ => ∃ (a : Addr) (ns : List Int), vs = [.ref a] ∧ SqL K H a (ns.map V.int) ∧ Hist ns ∧ ∀ H', Same H H' → Q .non H'
theorem ok_check_history {f : Addr} {fd : FuncData} (F : Fun K "check_history" "check_history" s_check_history f fd) (T_is_history : Gc P w K mg base 5 "is_history" (spIsHist K)) : FnG P w K mg base CX0 6 f fd ["history"] (spCheck K) := by
  refine okG F sc_check_history (fun vs H Q E h => ?_) (fun cdv A outer s H vs Q E hG hr h => ?_)
  · obtain ⟨a, ns, rfl, _⟩ := h
    rfl
  · obtain ⟨a, ns, rfl, hS, hh, q⟩ := h
    refine ⟨_, (pss_one (ps_if (pt_not (pt_val (pe_g T_is_history hG hr (by decide) (by rfl) (pa_cons (pv 0) pa_nil)))) (pss_one ps_never) pss_nil)), ?_⟩
    exact ⟨_, rfl, a, ns, rfl, hS, hh, fun H1 s1 => ⟨_, rfl, iteF (q _ s1)⟩⟩

end
/-! ### what is present, event by event -/
abbrev PSt := Int × (Int → Int)
def putF1 (f : Int → Int) (e v : Int) : Int → Int := fun k => if k = e then v else f k
def stepP (s : PSt) (e : Int) : PSt := if 0 < e then (e, putF1 s.2 e s.1) else (s.2 (-e), s.2)
def stepC (s : PSt) (e : Int) : PSt := if 0 < e then (e, putF1 s.2 e s.1) else if s.1 = -e then (s.2 (-e), s.2) else s
def stepN (o : Option (List Int)) (e : Int) : Option (List Int) := match o with
  | none => none
  | some st => if 0 < e then some (e :: st) else match st with
    | [] => none
    | k :: r => if k = -e then some r else none
def runP (ns : List Int) : PSt := ns.foldl stepP (0, fun _ => 0)
def runC (ns : List Int) : PSt := ns.foldl stepC (0, fun _ => 0)
def runN (ns : List Int) : Option (List Int) := ns.foldl stepN (some [])
theorem run_succ {α : Type} {f : α → Int → α} {z : α} {ns : List Int} {i : Nat} {e : Int} (h : ns[i]? = some e) : (ns.take (i + 1)).foldl f z = f ((ns.take i).foldl f z) e := by
  rw [take_get h, List.foldl_append]
  rfl
theorem runP_succ {ns : List Int} {i : Nat} {e : Int} (h : ns[i]? = some e) : runP (ns.take (i + 1)) = stepP (runP (ns.take i)) e := run_succ h
theorem runC_succ {ns : List Int} {i : Nat} {e : Int} (h : ns[i]? = some e) : runC (ns.take (i + 1)) = stepC (runC (ns.take i)) e := run_succ h
theorem runN_succ {ns : List Int} {i : Nat} {e : Int} (h : ns[i]? = some e) : runN (ns.take (i + 1)) = stepN (runN (ns.take i)) e := run_succ h
/-- the dict of what each patch saved: its pairs bear the function sv on the patches of l -/
def Saves (kvs : List (Key × V)) (l : List Int) (sv : Int → Int) : Prop := ∀ k ∈ l, 0 < k → valV kvs (Sum.inl k) = some (.int (sv k))
theorem putK_len (kvs : List (Key × V)) (k : Key) (v : V) : (putK kvs k v).length ≤ kvs.length + 1 := by
  unfold putK
  split <;> simp
theorem Saves.put {kvs : List (Key × V)} {ns : List Int} {i : Nat} {e c : Int} {sv : Int → Int} (h : Saves kvs (ns.take i) sv) (he : ns[i]? = some e) : Saves (putK kvs (Sum.inl e) (.int c)) (ns.take (i + 1)) (putF1 sv e c) := by
  intro k hk h0
  rw [valV_put]
  unfold putF1
  by_cases z : k = e
  · rw [if_pos (by rw [z]), if_pos z]
  · rw [if_neg (fun q => z (Sum.inl.inj q)), if_neg z]
    exact h k (((mem_take_succ he).mp hk).resolve_right z) h0
theorem Saves.keep {kvs : List (Key × V)} {ns : List Int} {i : Nat} {e : Int} {sv : Int → Int} (h : Saves kvs (ns.take i) sv) (he : ns[i]? = some e) (hn : e < 0) : Saves kvs (ns.take (i + 1)) sv := by
  intro k hk h0
  refine h k (((mem_take_succ he).mp hk).resolve_right fun z => ?_) h0
  omega
theorem sv_get {kvs : List (Key × V)} {l : List Int} {sv : Int → Int} {H : Hp} {d : Addr} {k : Int} (h : Saves kvs l sv) (hd : H d = some (.dK kvs)) (hk : k ∈ l) (h0 : 0 < k) : DGet H d (.int k) (some (.int (sv k))) := by
  have z := DGet.k (k := Sum.inl k) hd
  rw [h k hk h0] at z
  exact z
section
variable {P : Program} {w : World} {K : PySem.W.Frag} {mg : Str → Option Value} {base : Heap}
def presL (ns : List Int) (n : Nat) : List V := (List.range (n + 1)).map fun j => V.int (runP (ns.take j)).1
theorem presL_succ (ns : List Int) (n : Nat) : presL ns (n + 1) = presL ns n ++ [.int (runP (ns.take (n + 1))).1] := by
  unfold presL
  rw [List.range_succ, List.map_append]
  rfl
theorem presL_last (ns : List Int) (n : Nat) : atI (presL ns n) (-1) = some (.int (runP (ns.take n)).1) := by
  unfold presL
  rw [List.range_succ, List.map_append]
  exact atI_last _ _
theorem presL_len (ns : List Int) (n : Nat) : (presL ns n).length = n + 1 := by
  unfold presL
  rw [List.length_map, List.length_range]

/-! ### replay -/
def spReplay (K : PySem.W.Frag) : Sp := fun vs H Q _ => ∃ (a : Addr) (ns : List Int), vs = [.ref a] ∧ SqL K H a (ns.map V.int) ∧ Hist ns ∧
  ∀ H' t p d kvs, Same H H' → H' t = some (.tup [.ref p, .ref d]) → H' p = some (.lst (presL ns ns.length)) → H' d = some (.dK kvs) → Saves kvs ns (runP ns).2 → Q (.ref t) H'
theorem ok_replay {f : Addr} {fd : FuncData} (F : Fun K "replay" "replay" s_replay f fd) : FnG P w K mg base CX0 1 f fd ["history"] (spReplay K) := by
  refine okG F sc_replay (fun vs H Q E h => ?_) (fun cdv A outer s H vs Q E hG hr h => ?_)
  · obtain ⟨a, ns, rfl, _⟩ := h
    rfl
  · obtain ⟨a, ns, rfl, hS, hh, q⟩ := h
    have hu := hu_of hr
    refine ⟨_, (pss_cons (ps_par (i := 1) (j := 2) (by rfl) sc_replay.nd rfl rfl (by decide) rfl rfl (pa_cons (pe_lst (pa_cons pe_int pa_nil)) (pa_cons pe_dnewK pa_nil)) (by rfl))
        (pss_cons (ps_for PassesOwn.never rfl (pi_list (pv 0)) (pg_name (i := 3) sc_replay.nd rfl (Or.inl rfl))
          (pss_one (ps_if (pt_cmpR op_gt (pv 3) pe_int (nomark _)) (pss_cons (ps_dput hu (pv 2) (pv 3) (pe_ix ix_list (pv 1) (pe_un un_neg pe_int) (fun _ _ => rfl)) rfl)
            (pss_one (ps_expr (pe_bm PySem.F.plainAttrs_list PySem.F.slot_list_append PySem.F.type_list_append mt_append (pv 1) (pa_cons (pv 3) pa_nil))))) (pss_one (ps_expr (pe_bm PySem.F.plainAttrs_list PySem.F.slot_list_append PySem.F.type_list_append mt_append (pv 1) (pa_cons (pe_dget hu (pv 2) (pe_un un_neg (pv 3)) (fun _ _ => rfl)) pa_nil)))))))
        (pss_one (ps_ret (pe_tup (pa_cons (pv 1) (pa_cons (pv 2) pa_nil))))))), ?_⟩
    refine ⟨by show 1 ≤ sizeLine; decide, fun p np d nd => ⟨.ref p, .ref d, rfl, ?_⟩⟩
    have npd : p ≠ d := fun e => by
      rw [← e, upd_same] at nd
      cases nd
    have nd0 : H d = none := by rw [upd_ne npd.symm] at nd; exact nd
    have s1 : Same H (upd (upd H p (.lst [.int 0])) d (.dK [])) := (same_new np).trans (same_new nd)
    refine ⟨_, rfl, a, rfl, ⟨_, s1.seq hS⟩, for_list (xs := ns.map V.int) (fun i σ H' => (∃ y, σ = [some (.ref a), some (.ref p), some (.ref d), y]) ∧ Same H H' ∧ H' p = some (.lst (presL ns i)) ∧
      ∃ kvs, H' d = some (.dK kvs) ∧ kvs.length ≤ i ∧ Saves kvs (ns.take i) (runP (ns.take i)).2) ⟨⟨_, rfl⟩, s1, ?_, [], upd_same, Nat.le_refl _, ?_⟩ (fun i σ H' _ h => h.2.1.seq hS) (fun i x σ H' hx h => ?_) (fun σ H' h => ?_)⟩
    · rw [upd_ne npd, upd_same]
      rfl
    · intro k hk
      simp at hk
    · obtain ⟨n, rfl, hn⟩ := get_int hx
      obtain ⟨⟨y, rfl⟩, sm, hp, kvs, hd, hl, hv⟩ := h
      obtain ⟨h0, _⟩ := hh.rng n (mem_get hn)
      have hi : i < 200 := Nat.lt_of_lt_of_le (lt_get hn) hh.len
      by_cases hpos : 0 < n
      · have eP : runP (ns.take (i + 1)) = (n, putF1 (runP (ns.take i)).2 n (runP (ns.take i)).1) := by
          rw [runP_succ hn]
          unfold stepP
          rw [if_pos hpos]
        refine ⟨_, rfl, _, _, rfl, rfl, true, dT hpos, ?_⟩
        refine ⟨_, rfl, 1, rfl, p, _, -1, _, rfl, rfl, .of hp, presL_last ns i, _, rfl, _, rfl, d, _, rfl, DPut.k (k := Sum.inl n) hd (zl (by omega)), ?_⟩
        have hp2 : (upd H' d (.dK (putK kvs (Sum.inl n) (.int (runP (ns.take i)).1)))) p = some (.lst (presL ns i)) := by rw [upd_ne npd]; exact hp
        refine ⟨_, rfl, .inl ⟨rfl, _, .of hp2⟩, _, rfl, p, _, _, rfl, rfl, hp2, by rw [presL_len]; exact zl (by omega), ⟨_, rfl⟩, fun b o e => ?_, ?_, putK kvs (Sum.inl n) (.int (runP (ns.take i)).1), ?_, Nat.le_trans (putK_len _ _ _) (Nat.succ_le_succ hl), ?_⟩
        · rw [upd_ne (ne_of_none e np), upd_ne (ne_of_none e nd0)]
          exact sm _ _ e
        · rw [upd_same, presL_succ, eP]
        · rw [upd_ne npd.symm, upd_same]
        · rw [eP]
          exact hv.put hn
      · have hneg : n < 0 := by omega
        have hpre := hh.ord i n hn hneg
        have eP : runP (ns.take (i + 1)) = ((runP (ns.take i)).2 (-n), (runP (ns.take i)).2) := by
          rw [runP_succ hn]
          unfold stepP
          rw [if_neg hpos]
        refine ⟨_, rfl, _, _, rfl, rfl, false, dF hpos, ?_⟩
        refine ⟨_, rfl, .inl ⟨rfl, _, .of hp⟩, _, rfl, _, rfl, n, rfl, d, _, rfl, sv_get hv hd hpre (by omega), p, _, _, rfl, rfl, hp, by rw [presL_len]; exact zl (by omega), ⟨_, rfl⟩, fun b o e => ?_, ?_, kvs, ?_, Nat.le_succ_of_le hl, ?_⟩
        · rw [upd_ne (ne_of_none e np)]
          exact sm _ _ e
        · rw [upd_same, presL_succ, eP]
        · rw [upd_ne npd.symm]
          exact hd
        · rw [eP]
          exact hv.keep hn hneg
    · obtain ⟨⟨y, rfl⟩, sm, hp, kvs, hd, hl, hv⟩ := h
      rw [List.length_map] at hp hv
      rw [List.take_length] at hv
      refine ⟨_, rfl, _, rfl, by show 2 ≤ sizeLine; decide, fun t nt => q _ t p d kvs (sm.trans (same_new nt)) upd_same ?_ ?_ hv⟩
      · rw [upd_ne (ne_of_none hp nt)]
        exact hp
      · rw [upd_ne (ne_of_none hd nt)]
        exact hd

end
section
variable {P : Program} {w : World} {K : PySem.W.Frag} {mg : Str → Option Value} {base : Heap}
/-! ### draws -/
/-- the list of three ints that draws are made of: at most n draws were made in the second way -/
def Src (H : Hp) (a : Addr) (n : Nat) : Prop := ∃ x y z : Int, H a = some (.lst [.int x, .int y, .int z]) ∧ 0 ≤ y ∧ y < 2 ^ 300 ∧ 0 ≤ z ∧ z ≤ (n : Int)
theorem Src.mono {H : Hp} {a : Addr} {n m : Nat} (h : Src H a n) (l : n ≤ m) : Src H a m := by
  obtain ⟨x, y, z, h1, h2, h3, h4, h5⟩ := h
  exact ⟨x, y, z, h1, h2, h3, h4, by omega⟩
theorem Src.bt {H H' : Hp} {a b : Addr} {n : Nat} (h : Src H a n) (x : Bt b H H') (e : a ≠ b) : Src H' a n := by
  obtain ⟨p, y, z, h1, h2⟩ := h
  exact ⟨p, y, z, x _ _ e h1, h2⟩
theorem Src.same {H H' : Hp} {a : Addr} {n : Nat} (h : Src H a n) (x : Same H H') : Src H' a n := by
  obtain ⟨p, y, z, h1, h2⟩ := h
  exact ⟨p, y, z, x _ _ h1, h2⟩
theorem Src.new {H : Hp} {a p : Addr} {n : Nat} {o : HO} (h : Src H a n) (e : H p = none) : Src (upd H p o) a n := h.same (same_new e)
theorem Src.ne {H : Hp} {a p : Addr} {n : Nat} (h : Src H a n) (e : H p = none) : p ≠ a := fun z => by
  obtain ⟨_, _, _, h1, _⟩ := h
  rw [← z, e] at h1
  cases h1
theorem Src.upd {H : Hp} {a p : Addr} {n : Nat} {o : HO} (h : Src H a n) (e : p ≠ a) : Src (upd H p o) a n := by
  obtain ⟨x, y, z, h1, h2⟩ := h
  exact ⟨x, y, z, by rw [upd_ne e.symm]; exact h1, h2⟩
def spDraw : Sp := fun vs H Q _ => ∃ (a : Addr) (m : Int) (n : Nat), vs = [.ref a, .int m] ∧ Src H a n ∧ n ≤ 1000000 ∧ 1 ≤ m ∧ m ≤ 1000000 ∧ ∀ r H', 0 ≤ r → r < m → Src H' a (n + 1) → Bt a H H' → Q (.int r) H'
theorem lt_pow {i : Int} {n : Nat} (h0 : 0 ≤ i) (h : i < 2 ^ n) : i.natAbs < 2 ^ n := by
  have e : ((i.natAbs : Nat) : Int) = i := Int.natAbs_of_nonneg h0
  have h' : ((i.natAbs : Nat) : Int) < ((2 ^ n : Nat) : Int) := by
    rw [e]
    simpa using h
  exact Int.ofNat_lt.mp h'
theorem zz_le {z : Int} (h0 : 0 ≤ z) (h : z ≤ 1000001) : z * z ≤ 1000002000001 := by
  have := Int.mul_le_mul h h h0 (by decide)
  omega
theorem ok_law_draw {f : Addr} {fd : FuncData} (F : Fun K "_law_draw" "_law_draw" s_law_draw f fd) : FnG P w K mg base CX0 1 f fd ["source", "count"] spDraw := by
  refine okG F sc_law_draw (fun vs H Q E h => ?_) (fun cdv A outer s H vs Q E hG hr h => ?_)
  · obtain ⟨a, m, n, rfl, _⟩ := h
    rfl
  · obtain ⟨a, m, n, rfl, ⟨x, y, z, ha, y0, y1, z0, z1⟩, hn, m0, m1, q⟩ := h
    refine ⟨_, (pss_cons (ps_if (pt_cmpR op_gt (pe_ix ix_list (pv 0) pe_int (fun _ _ => rfl)) pe_int (nomark _)) (pss_cons (ps_set (i := 2) sc_law_draw.nd rfl (Or.inl rfl) (pe_op op_mod (pe_ix ix_list (pv 0) pe_int (fun _ _ => rfl)) (pv 1)))
          (pss_cons (ps_asg (pe_op op_fdivW (pe_ix ix_list (pv 0) pe_int (fun _ _ => rfl)) (pv 1)) (pg_sub (pv 0) pe_int set_list))
          (pss_one (ps_ret (pv 2))))) pss_nil)
        (pss_cons (ps_asg (pe_op op_add (pe_ix ix_list (pv 0) pe_int (fun _ _ => rfl)) pe_int) (pg_sub (pv 0) pe_int set_list))
        (pss_cons (ps_set (i := 3) sc_law_draw.nd rfl (Or.inl rfl) (pe_op op_mod (pe_op op_powW (pe_op op_add (pe_ix ix_list (pv 0) pe_int (fun _ _ => rfl)) (pe_op op_mulW pe_int (pe_ix ix_list (pv 0) pe_int (fun _ _ => rfl)))) pe_int) (pe_op op_add (pe_op op_powW pe_int pe_int) pe_int)))
        (pss_cons (ps_set (i := 3) sc_law_draw.nd rfl (Or.inl rfl) (pe_op op_mod (pe_op op_powW (pe_op op_add (pv 3) (pe_op op_mulW pe_int (pe_ix ix_list (pv 0) pe_int (fun _ _ => rfl)))) pe_int) (pe_op op_add (pe_op op_powW pe_int pe_int) pe_int)))
        (pss_one (ps_ret (pe_op op_mod (pe_op op_fdivW (pv 3) pe_int) (pv 1)))))))), ?_⟩
    have hS : SqL K H a [.int x, .int y, .int z] := .of ha
    by_cases hx : 0 < x
    · refine ⟨_, rfl, a, _, 0, _, rfl, rfl, hS, at0, _, _, rfl, rfl, true, dT hx, ?_⟩
      refine ⟨_, rfl, a, _, 0, _, rfl, rfl, hS, at0, _, rfl, _, _, rfl, rfl, (by show (0 : Int) < m; omega), ?_⟩
      refine ⟨_, rfl, a, _, 0, _, rfl, rfl, hS, at0, _, rfl, _, _, rfl, rfl, wide_div (b := 30) (by omega) (lt_pow (by omega) (by omega)) (by decide) (by decide), ?_⟩
      refine ⟨_, rfl, a, _, 0, 0, rfl, rfl, ha, rfl, _, rfl, ?_⟩
      exact q _ _ (Int.emod_nonneg _ (by omega)) (Int.emod_lt_of_pos _ (by omega)) ⟨_, _, _, upd_same, y0, y1, z0, by omega⟩ (.at_ _ _ _)
    · refine ⟨_, rfl, a, _, 0, _, rfl, rfl, hS, at0, _, _, rfl, rfl, false, dF hx, ?_⟩
      refine ⟨_, rfl, a, _, 2, _, rfl, rfl, hS, at2, _, _, rfl, rfl, _, rfl, a, _, 2, 2, rfl, rfl, ha, rfl, ?_⟩
      have hS2 : SqL K (upd H a (.lst [.int x, .int y, .int (z + 1)])) a [.int x, .int y, .int (z + 1)] := .of upd_same
      have c1 : CPowW (y + 980131 * (z + 1)) 3 := powW_ok (n := 400) (lt_pow (by omega) (by omega)) (by decide) (by decide)
      have p1 : CPowW 10 39 := powW_ok (n := 4) (by decide) (by decide) (by decide)
      have p2 : CPowW 10 36 := powW_ok (n := 4) (by decide) (by decide) (by decide)
      have k1 : (10 : Int) ^ (39 : Int).toNat + 3 = 1000000000000000000000000000000000000003 := by decide +kernel
      have k2 : (10 : Int) ^ (36 : Int).toNat + 67 = 1000000000000000000000000000000000067 := by decide +kernel
      have n1 : (0 : Int) < 10 ^ (39 : Int).toNat + 3 := by rw [k1]; decide
      have n2 : (0 : Int) < 10 ^ (36 : Int).toNat + 67 := by rw [k2]; decide
      refine ⟨_, rfl, a, _, 1, _, rfl, rfl, hS2, at1, _, rfl, a, _, 2, _, rfl, rfl, hS2, at2, _, _, rfl, rfl, wide_mul (a := 30) (b := 30) (by decide) (lt_pow (by omega) (by omega)) (by decide) (by decide) (by decide), _, _, rfl, rfl, _, _, rfl, rfl, c1, _, _, rfl, rfl, p1, _, _, rfl, rfl, _, _, rfl, rfl, n1, ?_⟩
      generalize (y + 980131 * (z + 1)) ^ (3 : Int).toNat = big
      have b0 : 0 ≤ big % (10 ^ (39 : Int).toNat + 3) := Int.emod_nonneg _ (Int.ne_of_gt n1)
      have b1 : big % (10 ^ (39 : Int).toNat + 3) < 1000000000000000000000000000000000000003 := by
        have := Int.emod_lt_of_pos big n1
        rw [k1] at this
        rw [k1]
        exact this
      have c2 : ∀ mx : Int, 0 ≤ mx → mx < 1000000000000000000000000000000000000003 → CPowW (mx + 79 * (z + 1)) 3 := fun mx b0 b1 => powW_ok (n := 400) (lt_pow (by omega) (by omega)) (by decide) (by decide)
      refine ⟨_, rfl, _, rfl, a, _, 2, _, rfl, rfl, hS2, at2, _, _, rfl, rfl, wide_mul (a := 30) (b := 30) (by decide) (lt_pow (by omega) (by omega)) (by decide) (by decide) (by decide), _, _, rfl, rfl, _, _, rfl, rfl, c2 _ b0 b1, _, _, rfl, rfl, p2, _, _, rfl, rfl, _, _, rfl, rfl, n2, ?_⟩
      refine ⟨_, rfl, _, _, rfl, rfl, wide_div (b := 30) (by decide) (by decide) (by decide) (by decide), _, rfl, _, _, rfl, rfl, (by show (0 : Int) < m; omega), ?_⟩
      exact q _ _ (Int.emod_nonneg _ (by omega)) (Int.emod_lt_of_pos _ (by omega)) ⟨_, _, _, upd_same, y0, y1, by omega, by omega⟩ (.at_ _ _ _)
/-! ### where the draws come from -/
def spSource : Sp := fun vs H Q _ => ∃ (c : Int) (k : Nat), vs = [.int c, .int (k : Int)] ∧ k ≤ 1000 ∧ ∀ H' p, Same H H' → H p = none → Src H' p 0 → Q (.ref p) H'
theorem ok_law_source {f : Addr} {fd : FuncData} (F : Fun K "_law_source" "_law_source" s_law_source f fd) (B : NoB mg) : FnG P w K mg base CX0 1 f fd ["cell", "k"] spSource := by
  refine okG F sc_law_source (fun vs H Q E h => ?_) (fun cdv A outer s H vs Q E hG hr h => ?_)
  · obtain ⟨c, k, rfl, _⟩ := h
    rfl
  · obtain ⟨c, k, rfl, hk, q⟩ := h
    refine ⟨_, (pss_one (ps_ret (pe_lst (pa_cons (pe_callB (call_max2 rfl) (by rfl) B.max (by decide +kernel) (pa_cons pe_int (pa_cons (pe_op op_sub (pv 0) (pe_op op_powW pe_int pe_int)) pa_nil))) (pa_cons (pe_op op_add (pe_op op_mulW (pe_op op_mod (pv 0) (pe_op op_add (pe_op op_powW pe_int pe_int) pe_int)) pe_int) (pv 1)) (pa_cons pe_int pa_nil)))))), ?_⟩
    have p1 : CPowW 10 18 := powW_ok (n := 4) (by decide) (by decide) (by decide)
    have p2 : CPowW 10 33 := powW_ok (n := 4) (by decide) (by decide) (by decide)
    have e : (10 : Int) ^ (33 : Int).toNat + 153 = 1000000000000000000000000000000153 := by decide +kernel
    have m0 : (0 : Int) < 10 ^ (33 : Int).toNat + 153 := by rw [e]; decide
    have r0 := Int.emod_nonneg c (Int.ne_of_gt m0)
    have r1 := Int.emod_lt_of_pos c m0
    have r2 : c % (10 ^ (33 : Int).toNat + 153) < 1000000000000000000000000000000153 := by
      rw [e] at r1
      rw [e]
      exact r1
    refine ⟨_, rfl, _, _, rfl, rfl, p1, _, _, rfl, rfl, _, _, rfl, _, rfl, _, _, rfl, rfl, p2, _, _, rfl, rfl, _, _, rfl, rfl, m0, _, _, rfl, rfl, wide_mul (a := 200) (b := 30) (lt_pow r0 (by omega)) (by decide) (by decide) (by decide) (by decide),
      _, rfl, _, _, rfl, rfl, by show 3 ≤ sizeLine; decide, fun p np => q _ p (same_new np) np ?_⟩
    exact ⟨_, _, _, upd_same, by omega, by omega, Int.le_refl _, Int.le_refl _⟩
end
/-! ### the drawn history -/
def upL (n : Nat) : List Int := (List.range n).map fun i : Nat => 1 + (i : Int)
theorem nodup_map {α β : Type} {f : α → β} (hf : ∀ x y, f x = f y → x = y) : ∀ {l : List α}, l.Nodup → (l.map f).Nodup
  | [], _ => List.nodup_nil
  | x :: r, h => by
    obtain ⟨h1, h2⟩ := List.nodup_cons.mp h
    refine List.nodup_cons.mpr ⟨fun hm => ?_, nodup_map hf h2⟩
    obtain ⟨y, hy, e⟩ := List.mem_map.mp hm
    exact h1 (hf _ _ e ▸ hy)
theorem upL_nd (n : Nat) : (upL n).Nodup := nodup_map (fun x y e => by omega) List.nodup_range
theorem upL_mem {n : Nat} {k : Int} (h : k ∈ upL n) : 1 ≤ k ∧ k ≤ (n : Int) := by
  obtain ⟨i, hi, rfl⟩ := List.mem_map.mp h
  have := List.mem_range.mp hi
  omega
theorem upL_len (n : Nat) : (upL n).length = n := by
  unfold upL
  rw [List.length_map, List.length_range]
theorem rgV_up (b : Int) : rgV 1 b = (upL (b - 1).toNat).map V.int := by
  unfold rgV upL
  rw [List.map_map]
  rfl
structure Good (fr av fd : List Int) : Prop where
  rng : ∀ e ∈ fd, e ≠ 0 ∧ -100 ≤ e ∧ e ≤ 100
  nd : fd.Nodup
  ord : ∀ (i : Nat) (e : Int), fd[i]? = some e → e < 0 → -e ∈ fd.take i
  avn : av.Nodup
  avm : ∀ k ∈ av, 0 < k ∧ k ∈ fd ∧ -k ∉ fd
  frn : fr.Nodup
  frm : ∀ k ∈ fr, 1 ≤ k ∧ k ≤ 100 ∧ k ∉ fd
theorem ord_snoc {fd : List Int} {x : Int} (h : ∀ (i : Nat) (e : Int), fd[i]? = some e → e < 0 → -e ∈ fd.take i) (hx : x < 0 → -x ∈ fd) (i : Nat) (e : Int) (he : (fd ++ [x])[i]? = some e) (h0 : e < 0) : -e ∈ (fd ++ [x]).take i := by
  by_cases hi : i < fd.length
  · rw [List.getElem?_append_left hi] at he
    rw [List.take_append_of_le_length (Nat.le_of_lt hi)]
    exact h i e he h0
  · have hi2 := lt_get he
    rw [List.length_append, List.length_singleton] at hi2
    have e1 : i = fd.length := by omega
    subst e1
    rw [List.getElem?_append_right (Nat.le_refl _), Nat.sub_self] at he
    have e2 : x = e := Option.some.inj he
    subst e2
    rw [List.take_append_of_le_length (Nat.le_refl _), List.take_length]
    exact hx h0
theorem ord_mem {fd : List Int} (h : ∀ (i : Nat) (e : Int), fd[i]? = some e → e < 0 → -e ∈ fd.take i) {e : Int} (he : e ∈ fd) (h0 : e < 0) : -e ∈ fd := by
  obtain ⟨i, hi, rfl⟩ := List.mem_iff_getElem.mp he
  exact List.mem_of_mem_take (h i _ (List.getElem?_eq_getElem hi) h0)
theorem nodup_snoc {l : List Int} {x : Int} (h : l.Nodup) (hx : x ∉ l) : (l ++ [x]).Nodup :=
  List.nodup_append.mpr ⟨h, List.nodup_cons.mpr ⟨List.not_mem_nil, List.nodup_nil⟩, fun a ha b hb e => hx (by
    rw [List.mem_singleton] at hb
    rw [← hb, ← e]
    exact ha)⟩
theorem Good.push {k : Int} {fr av fd : List Int} (g : Good (k :: fr) av fd) : Good fr (av ++ [k]) (fd ++ [k]) := by
  obtain ⟨k1, k2, k3⟩ := g.frm k List.mem_cons_self
  obtain ⟨n1, n2⟩ := List.nodup_cons.mp g.frn
  have kn : -k ∉ fd := fun h => k3 (by
    have z := ord_mem g.ord h (by omega)
    rwa [Int.neg_neg] at z)
  have kav : k ∉ av := fun h => k3 (g.avm k h).2.1
  refine ⟨fun e he => ?_, nodup_snoc g.nd k3, ord_snoc g.ord (fun z => by omega), nodup_snoc g.avn kav, fun j hj => ?_, n2, fun j hj => ?_⟩
  · rcases List.mem_append.mp he with h | h
    · exact g.rng e h
    · rw [List.mem_singleton] at h
      omega
  · rw [List.mem_append, List.mem_append, List.mem_singleton, List.mem_singleton]
    rcases List.mem_append.mp hj with h | h
    · obtain ⟨a, b, c⟩ := g.avm j h
      exact ⟨a, .inl b, fun z => z.elim c fun z => by omega⟩
    · rw [List.mem_singleton] at h
      subst h
      exact ⟨by omega, .inr rfl, fun z => z.elim kn fun z => by omega⟩
  · obtain ⟨a, b, c⟩ := g.frm j (List.mem_cons_of_mem _ hj)
    refine ⟨a, b, fun z => ?_⟩
    rcases List.mem_append.mp z with h | h
    · exact c h
    · rw [List.mem_singleton] at h
      exact n1 (h ▸ hj)
theorem Good.stop {fr av fd : List Int} (g : Good fr av fd) {j : Nat} (hj : j < av.length) : Good fr (av.eraseIdx j) (fd ++ [-av[j]]) := by
  obtain ⟨a0, a1, a2⟩ := g.avm av[j] (List.getElem_mem hj)
  have pm := erase_perm av j hj
  have ndp : (av[j] :: av.eraseIdx j).Nodup := pm.nodup_iff.mpr g.avn
  obtain ⟨m1, m2⟩ := List.nodup_cons.mp ndp
  refine ⟨fun e he => ?_, nodup_snoc g.nd a2, ord_snoc g.ord (fun _ => by rw [Int.neg_neg]; exact a1), m2, fun k hk => ?_, g.frn, fun k hk => ?_⟩
  · rcases List.mem_append.mp he with h | h
    · exact g.rng e h
    · rw [List.mem_singleton] at h
      have := g.rng _ a1
      omega
  · have hk2 : k ∈ av := pm.mem_iff.mp (List.mem_cons_of_mem _ hk)
    obtain ⟨a, b, c⟩ := g.avm k hk2
    refine ⟨a, List.mem_append_left _ b, fun z => ?_⟩
    rcases List.mem_append.mp z with h | h
    · exact c h
    · rw [List.mem_singleton] at h
      have e : k = av[j] := by omega
      exact m1 (e ▸ hk)
  · obtain ⟨a, b, c⟩ := g.frm k hk
    refine ⟨a, b, fun z => ?_⟩
    rcases List.mem_append.mp z with h | h
    · exact c h
    · rw [List.mem_singleton] at h
      omega
theorem eqvT {xs ys : List Int} (h : xs = ys) : V.bl (PyData.eqv (dI xs) (dI ys)) = V.bl true := by rw [eqv_ints, decide_eq_true h]
theorem eqvF {xs ys : List Int} (h : ¬ xs = ys) : V.bl (PyData.eqv (dI xs) (dI ys)) = V.bl false := by rw [eqv_ints, decide_eq_false h]
theorem neqT {xs ys : List Int} (h : ¬ xs = ys) : V.bl (!PyData.eqv (dI xs) (dI ys)) = V.bl true := by rw [eqv_ints, decide_eq_false h]; rfl
theorem neqF {xs ys : List Int} (h : xs = ys) : V.bl (!PyData.eqv (dI xs) (dI ys)) = V.bl false := by rw [eqv_ints, decide_eq_true h]; rfl
theorem nodup_len {l : List Int} : ∀ {m : List Int}, l.Nodup → (∀ x ∈ l, x ∈ m) → l.length ≤ m.length := by
  induction l with
  | nil => intro m _ _; exact Nat.zero_le _
  | cons x r ih =>
    intro m h s
    obtain ⟨h1, h2⟩ := List.nodup_cons.mp h
    have hx := s x List.mem_cons_self
    have z := ih (m := m.erase x) h2 fun y hy => (List.mem_erase_of_ne (fun e : y = x => h1 (e ▸ hy))).mpr (s y (List.mem_cons_of_mem _ hy))
    rw [List.length_erase_of_mem hx] at z
    have := List.length_pos_of_mem hx
    show r.length + 1 ≤ m.length
    omega
theorem Good.perm {fr fr' av fd : List Int} (g : Good fr av fd) (p : fr'.Perm fr) : Good fr' av fd :=
  ⟨g.rng, g.nd, g.ord, g.avn, g.avm, p.nodup_iff.mpr g.frn, fun k hk => g.frm k (p.mem_iff.mp hk)⟩
theorem Good.pushAt {fr av fd : List Int} (g : Good fr av fd) {j : Nat} (hj : j < fr.length) : Good (fr.eraseIdx j) (av ++ [fr[j]]) (fd ++ [fr[j]]) :=
  (g.perm (erase_perm fr j hj)).push
section
variable {P : Program} {w : World} {K : PySem.W.Frag} {mg : Str → Option Value} {base : Heap}
/-! ### _law_row -/
def spRow : Sp := fun vs H Q _ => ∃ (src : Addr) (most : Int) (n : Nat), vs = [.ref src, .int most] ∧ Src H src n ∧ n ≤ 800000 ∧ 0 ≤ most ∧ most ≤ 200 ∧
  ∀ (H' : Hp) (p : Addr) (row : List Int), Hist row → (row.length : Int) ≤ most → Bt src H H' → Src H' src (n + 2000) → H p = none → H' p = some (.lst (row.map V.int)) → Q (.ref p) H'
/-- what the loop of _law_row keeps -/
def LogF (H H' : Hp) (src fa fo al : Addr) (n : Nat) (fr av fd : List Int) : Prop :=
  H' fa = some (.lst (fr.map V.int)) ∧ H' al = some (.lst (av.map V.int)) ∧ H' fo = some (.lst (fd.map V.int)) ∧ Src H' src n ∧ Bt src H H'
theorem ok_law_row {f : Addr} {fdd : FuncData} (F : Fun K "_law_row" "_law_row" s_law_row f fdd) (B : NoB mg) (T_law_draw : Gc P w K mg base 1 "_law_draw" spDraw) : FnG P w K mg base CX0 2 f fdd ["source", "most"] spRow := by
  refine okG F sc_law_row (fun vs H Q E h => ?_) (fun cdv A outer s H vs Q E hG hr h => ?_)
  · obtain ⟨src, most, n, rfl, _⟩ := h
    rfl
  · obtain ⟨src, most, n, rfl, hs, hn, o1, o2, q⟩ := h
    have hu64 := hr.units
    refine ⟨_, (pss_cons (ps_set (i := 2) sc_law_row.nd rfl (Or.inl rfl) (pe_ix ix_list (pe_lst (pa_cons (pe_g T_law_draw hG hr (by decide) (by rfl) (pa_cons (pv 0) (pa_cons (pe_op op_add (pv 1) pe_int) pa_nil))) (pa_cons (pe_g T_law_draw hG hr (by decide) (by rfl) (pa_cons (pv 0) (pa_cons (pe_op op_add (pe_callB (call_min2 rfl) (by rfl) B.min (by decide +kernel) (pa_cons (pv 1) (pa_cons pe_int pa_nil))) pe_int) pa_nil))) (pa_cons (pv 1) pa_nil)))) (pe_g T_law_draw hG hr (by decide) (by rfl) (pa_cons (pv 0) (pa_cons pe_int pa_nil))) (fun _ _ => rfl)))
        (pss_cons (ps_par3 (i := 3) (j := 4) (l := 5) (by rfl) sc_law_row.nd rfl rfl rfl (by decide) (by decide) (by decide) rfl rfl rfl (pa_cons (pe_g T_law_draw hG hr (by decide) (by rfl) (pa_cons (pv 0) (pa_cons pe_int pa_nil))) (pa_cons (pe_g T_law_draw hG hr (by decide) (by rfl) (pa_cons (pv 0) (pa_cons pe_int pa_nil))) (pa_cons (pe_g T_law_draw hG hr (by decide) (by rfl) (pa_cons (pv 0) (pa_cons pe_int pa_nil))) pa_nil))) (by rfl))
        (pss_cons (ps_par3 (i := 6) (j := 7) (l := 8) (by rfl) sc_law_row.nd rfl rfl rfl (by decide) (by decide) (by decide) rfl rfl rfl (pa_cons (pe_listRg rfl (by rfl) B.list (prg_2 (by rfl) B.range pe_int pe_int)) (pa_cons (pe_lst pa_nil) (pa_cons (pe_lst pa_nil) pa_nil))) (by rfl))
        (pss_cons (ps_for PassesOwn.never rfl (pi_range1 rfl B.range (pa_cons (pv 2) pa_nil)) (pg_name (i := 9) sc_law_row.nd rfl (Or.inl rfl))
          (pss_cons (ps_set (i := 10) sc_law_row.nd rfl (Or.inl rfl) (pe_ix ix_list (pe_lst (pa_cons (pe_cmpR op_eq (pe_g T_law_draw hG hr (by decide) (by rfl) (pa_cons (pv 0) (pa_cons pe_int pa_nil))) pe_int (nomark _)) (pa_cons (pe_cmpR op_gt (pe_g T_law_draw hG hr (by decide) (by rfl) (pa_cons (pv 0) (pa_cons pe_int pa_nil))) pe_int (nomark _)) (pa_cons (pe_cmpR op_lt (pe_op op_mulW pe_int (pv 9)) (pv 2) (nomark _)) (pa_cons (pe_cmpR (op_eqD hu64) (pv 7) (pe_lst pa_nil) (nomark _)) pa_nil))))) (pv 3) (fun _ _ => rfl)))
          (pss_one (ps_if (pt_mid (PW.pt (pw_and (pt_cmpR (op_neD hu64) (pv 6) (pe_lst pa_nil) (nomark _)) (pw_and1 (PW.pt (pw_or (pt_cmpR (op_eqD hu64) (pv 7) (pe_lst pa_nil) (nomark _)) (pw_or1 (pt_val (pv 10))))))))) (pss_cons (ps_expr (pe_bm PySem.F.plainAttrs_list PySem.F.slot_list_append PySem.F.type_list_append mt_append (pv 7) (pa_cons (pe_bm PySem.F.plainAttrs_list PySem.F.slot_list_pop PySem.F.type_list_pop mt_popAt (pv 6) (pa_cons (pe_ix ix_list (pe_lst (pa_cons pe_int (pa_cons (pe_g T_law_draw hG hr (by decide) (by rfl) (pa_cons (pv 0) (pa_cons (pe_callB call_len_seq (by rfl) B.len PySem.boot_len (pa_cons (pv 6) pa_nil)) pa_nil))) pa_nil))) (pv 5) (fun _ _ => rfl)) pa_nil)) pa_nil)))
            (pss_one (ps_expr (pe_bm PySem.F.plainAttrs_list PySem.F.slot_list_append PySem.F.type_list_append mt_append (pv 8) (pa_cons (pe_ix ix_list (pv 7) (pe_un un_neg pe_int) (fun _ _ => rfl)) pa_nil))))) (pss_one (ps_if (pt_cmpR (op_neD hu64) (pv 7) (pe_lst pa_nil) (nomark _)) (pss_cons (ps_set (i := 11) sc_law_row.nd rfl (Or.inl rfl) (pe_lst (pa_cons (pe_g T_law_draw hG hr (by decide) (by rfl) (pa_cons (pv 0) (pa_cons (pe_callB call_len_seq (by rfl) B.len PySem.boot_len (pa_cons (pv 7) pa_nil)) pa_nil))) (pa_cons (pe_op op_sub (pe_callB call_len_seq (by rfl) B.len PySem.boot_len (pa_cons (pv 7) pa_nil)) pe_int) (pa_cons pe_int (pa_cons (pe_g T_law_draw hG hr (by decide) (by rfl) (pa_cons (pv 0) (pa_cons (pe_callB call_len_seq (by rfl) B.len PySem.boot_len (pa_cons (pv 7) pa_nil)) pa_nil))) pa_nil))))))
              (pss_one (ps_expr (pe_bm PySem.F.plainAttrs_list PySem.F.slot_list_append PySem.F.type_list_append mt_append (pv 8) (pa_cons (pe_op op_sub pe_int (pe_bm PySem.F.plainAttrs_list PySem.F.slot_list_pop PySem.F.type_list_pop mt_popAt (pv 7) (pa_cons (pe_ix ix_list (pv 11) (pv 4) (fun _ _ => rfl)) pa_nil))) pa_nil))))) pss_nil))))))
        (pss_one (ps_ret (pv 8))))))), ?_⟩
    -- many
    refine ⟨_, rfl, _, rfl, _, _, rfl, rfl, src, _, n, rfl, hs, by omega, by omega, by omega, fun r1 H1 r10 r11 hs1 b1 => ?_⟩
    refine ⟨_, rfl, _, rfl, _, _, rfl, _, _, rfl, rfl, src, _, n + 1, rfl, hs1, by omega, by split <;> omega, by split <;> omega, fun r2 H2 r20 r21 hs2 b2 => ?_⟩
    have r22 : r2 ≤ most := by
      split at r21 <;> omega
    refine ⟨_, rfl, by show 3 ≤ sizeLine; decide, fun L nL => ?_⟩
    refine ⟨_, rfl, src, 3, n + 2, rfl, hs2.new nL, by omega, by decide, by decide, fun r3 H3 r30 r31 hs3 b3 => ?_⟩
    have nLs := hs2.ne nL
    have hL3 : H3 L = some (.lst [.int r1, .int r2, .int most]) := b3 _ _ nLs upd_same
    obtain ⟨many, em, k1, k2⟩ : ∃ m : Int, atI [V.int r1, .int r2, .int most] r3 = some (.int m) ∧ 0 ≤ m ∧ m ≤ most := by
      have c : r3 = 0 ∨ r3 = 1 ∨ r3 = 2 := by omega
      rcases c with rfl | rfl | rfl
      · exact ⟨_, at0, by omega, by omega⟩
      · exact ⟨_, at1, by omega, by omega⟩
      · exact ⟨_, at2, o1, Int.le_refl _⟩
    have b03 : Bt src H H3 := ((b1.trans b2).add nL).trans b3
    refine ⟨L, _, r3, _, rfl, rfl, .of hL3, em, ?_⟩
    -- style, ends, named
    refine ⟨_, rfl, src, 4, n + 3, rfl, hs3, by omega, by decide, by decide, fun st H4 st0 st1 hs4 b4 => ?_⟩
    refine ⟨_, rfl, src, 4, n + 4, rfl, hs4, by omega, by decide, by decide, fun en H5 en0 en1 hs5 b5 => ?_⟩
    refine ⟨_, rfl, src, 2, n + 5, rfl, hs5, by omega, by decide, by decide, fun nd H6 nd0 nd1 hs6 b6 => ⟨_, _, _, rfl, ?_⟩⟩
    have b06 := ((b03.trans b4).trans b5).trans b6
    -- left, active, found
    refine ⟨_, _, rfl, rfl, RgOk.of_le (by decide) (by decide) (by decide) (by decide), fun lf nlf => ⟨Nat.zero_le _, fun al nal => ⟨Nat.zero_le _, fun fo nfo => ⟨_, _, _, rfl, ?_⟩⟩⟩⟩
    have nlfs := hs6.ne nlf
    have nals := (hs6.new nlf).ne nal
    have nfos := ((hs6.new nlf).new nal).ne nfo
    have nla : lf ≠ al := ne_of_none upd_same nal
    have nlo : lf ≠ fo := ne_of_none (show (upd (upd H6 lf (.lst (rgV 1 101))) al (.lst [])) lf = some (.lst (rgV 1 101)) by rw [upd_ne nla, upd_same]) nfo
    have nao : al ≠ fo := ne_of_none upd_same nfo
    have hlf0 : H lf = none := free_of b06 nlfs nlf
    have nal6 : H6 al = none := by rw [upd_ne nla.symm] at nal; exact nal
    have hal0 : H al = none := free_of b06 nals nal6
    have nfo6 : H6 fo = none := by rw [upd_ne nao.symm, upd_ne nlo.symm] at nfo; exact nfo
    have hfo0 : H fo = none := free_of b06 nfos nfo6
    -- the turns
    refine ⟨_, rfl, many, rfl, by omega, by omega, ?_⟩
    refine for_range (lo := 0) (n := many.toNat) (fun i σ H' => (∃ y1 y2 y3, σ = [some (.ref src), some (.int most), some (.int many), some (.int st), some (.int en), some (.int nd), some (.ref lf), some (.ref al), some (.ref fo), y1, y2, y3]) ∧
      ∃ fr av fd : List Int, LogF H H' src lf fo al (n + 6 + 5 * i) fr av fd ∧ Good fr av fd ∧ fd.length ≤ i ∧ fr.length ≤ 100) ⟨⟨_, _, _, rfl⟩, upL 100, [], [], ⟨?_, ?_, upd_same, ((hs6.new nlf).new nal).new nfo, ((b06.add nlf).add nal).add nfo⟩, ?_, Nat.le_refl _, by rw [upL_len]; exact Nat.le_refl _⟩ (fun i σ H' hi h => ?_) (fun σ H' h => ?_)
    · rw [upd_ne nlo, upd_ne nla, upd_same, rgV_up]
      rfl
    · rw [upd_ne nao, upd_same]
      rfl
    · exact ⟨fun e he => absurd he List.not_mem_nil, List.nodup_nil, fun i e he => by simp at he, List.nodup_nil, fun k hk => absurd hk List.not_mem_nil, upL_nd 100, fun k hk => ⟨(upL_mem hk).1, (upL_mem hk).2, List.not_mem_nil⟩⟩
    · obtain ⟨⟨y1, y2, y3, rfl⟩, fr, av, fd, ⟨f1, f2, f3, f4, f5⟩, g, ln, frl⟩ := h
      have avl : av.length ≤ 100 := Nat.le_trans (nodup_len (m := upL 100) g.avn fun k hk => by
        obtain ⟨a, b, _⟩ := g.avm k hk
        have := g.rng k b
        exact List.mem_map.mpr ⟨(k - 1).toNat, List.mem_range.mpr (by omega), by omega⟩) (by rw [upL_len]; exact Nat.le_refl _)
      have i200 : i < 200 := by omega
      -- begins
      refine ⟨_, rfl, src, 2, n + 6 + 5 * i, rfl, f4, by omega, by decide, by decide, fun q1 G1 q10 q11 hg1 c1 => ⟨rfl, ?_⟩⟩
      refine ⟨_, rfl, src, 4, n + 6 + 5 * i + 1, rfl, hg1, by omega, by decide, by decide, fun q2 G2 q20 q21 hg2 c2 => ⟨_, _, rfl, rfl, ?_⟩⟩
      refine ⟨_, rfl, _, _, rfl, rfl, wide_mul (a := 3) (b := 10) (by decide) (by omega) (by decide) (by decide) (by decide), _, rfl, _, _, rfl, rfl, ?_⟩
      have f1b := c2 _ _ nlfs (c1 _ _ nlfs f1)
      have f2b := c2 _ _ nals (c1 _ _ nals f2)
      have f3b := c2 _ _ nfos (c1 _ _ nfos f3)
      have f5b := (f5.trans c1).trans c2
      refine ⟨_, rfl, Nat.zero_le _, fun e1 ne1 => ?_⟩
      refine ⟨dI av, dI [], dp_ints (.of (same_new ne1 _ _ f2b)), dp_ints (ns := []) (.of upd_same), shaped_ints _, shaped_ints _, ?_⟩
      refine ⟨by show 4 ≤ sizeLine; decide, fun L2 nL2 => ?_⟩
      have s3 := (same_new (o := .lst []) ne1).trans (same_new (o := .lst [V.bl (decide (V.int q1 = V.int 0)), V.bl (decide (0 < q2)), V.bl (decide (2 * (0 + (i : Int)) < many)), V.bl (PyData.eqv (dI av) (dI []))]) nL2)
      obtain ⟨bb, ebb⟩ : ∃ bb : Bool, atI [V.bl (decide (V.int q1 = V.int 0)), V.bl (decide (0 < q2)), V.bl (decide (2 * (0 + (i : Int)) < many)), V.bl (PyData.eqv (dI av) (dI []))] st = some (.bl bb) := by
        have c : st = 0 ∨ st = 1 ∨ st = 2 ∨ st = 3 := by omega
        rcases c with rfl | rfl | rfl | rfl
        · exact ⟨_, at0⟩
        · exact ⟨_, at1⟩
        · exact ⟨_, at2⟩
        · exact ⟨_, atI_nat (j := 3) rfl⟩
      refine ⟨_, rfl, L2, _, st, .bl bb, rfl, rfl, .of upd_same, ebb, ?_⟩
      have l0 : LogF H (upd (upd G2 e1 (.lst [])) L2 (.lst [V.bl (decide (V.int q1 = V.int 0)), V.bl (decide (0 < q2)), V.bl (decide (2 * (0 + (i : Int)) < many)), V.bl (PyData.eqv (dI av) (dI []))])) src lf fo al (n + 6 + 5 * i + 2) fr av fd :=
        ⟨s3 _ _ f1b, s3 _ _ f2b, s3 _ _ f3b, hg2.same s3, f5b.trans (.of s3)⟩
      generalize upd (upd G2 e1 (.lst [])) L2 (.lst [V.bl (decide (V.int q1 = V.int 0)), V.bl (decide (0 < q2)), V.bl (decide (2 * (0 + (i : Int)) < many)), V.bl (PyData.eqv (dI av) (dI []))]) = G3 at l0 ⊢
      have lnew : ∀ {Ga : Hp} {e : Addr} {o : HO} {k : Nat}, LogF H Ga src lf fo al k fr av fd → Ga e = none → LogF H (upd Ga e o) src lf fo al k fr av fd := fun {Ga e o k} l ne => by
        obtain ⟨g1, g2, g3, g4, g5⟩ := l
        exact ⟨same_new ne _ _ g1, same_new ne _ _ g2, same_new ne _ _ g3, g4.new ne, g5.add ne⟩
      refine ⟨fun b H3 => LogF H H3 src lf fo al (n + 6 + 5 * i + 2) fr av fd ∧ (b = true → fr ≠ []), ?_, fun b H3 hM => ?_⟩
      · refine ⟨_, rfl, Nat.zero_le _, fun e ne => ?_⟩
        have l1 := lnew (o := .lst []) l0 ne
        by_cases hfr : fr = []
        · exact ⟨dI fr, dI [], dp_ints (.of l1.1), dp_ints (ns := []) (.of upd_same), shaped_ints _, shaped_ints _, false, neqF hfr, l1, fun z => absurd z Bool.false_ne_true⟩
        · refine ⟨dI fr, dI [], dp_ints (.of l1.1), dp_ints (ns := []) (.of upd_same), shaped_ints _, shaped_ints _, true, neqT hfr, ?_⟩
          refine ⟨_, rfl, Nat.zero_le _, fun e3 ne3 => ?_⟩
          have l2 := lnew (o := .lst []) l1 ne3
          by_cases hav : av = []
          · exact ⟨dI av, dI [], dp_ints (.of l2.2.1), dp_ints (ns := []) (.of upd_same), shaped_ints _, shaped_ints _, true, eqvT hav, l2, fun _ => hfr⟩
          · exact ⟨dI av, dI [], dp_ints (.of l2.2.1), dp_ints (ns := []) (.of upd_same), shaped_ints _, shaped_ints _, false, eqvF hav, _, rfl, bb, rfl, l2, fun _ => hfr⟩
      · obtain ⟨⟨f1, f2, f3, f4, f5⟩, hb1⟩ := hM
        have fdl : fd.length < 100000 := by omega
        cases b with
        | true =>
          have hfr := hb1 rfl
          have fpos : 0 < fr.length := Nat.pos_of_ne_zero fun z => hfr (List.length_eq_zero_iff.mp z)
          refine ⟨_, rfl, .inl ⟨rfl, _, .of f2⟩, _, rfl, .inl ⟨rfl, _, .of f1⟩, _, rfl, _, rfl, lf, _, rfl, .inl (.of f1), src, _, n + 6 + 5 * i + 2, rfl, f4, by omega, by rw [List.length_map]; omega, by rw [List.length_map]; omega, fun r5 H5 r50 r51 hs5 b5 => ?_⟩
          rw [List.length_map] at r51
          have f1f := b5 _ _ nlfs f1
          have f2f := b5 _ _ nals f2
          have f3f := b5 _ _ nfos f3
          refine ⟨by show 2 ≤ sizeLine; decide, fun sp nsp => ?_⟩
          obtain ⟨j, ej, hj⟩ : ∃ j : Nat, atI [V.int 0, .int r5] nd = some (.int (j : Int)) ∧ j < fr.length := by
            have c : nd = 0 ∨ nd = 1 := by omega
            obtain ⟨j, rfl⟩ := nat_of r50
            rcases c with rfl | rfl
            · exact ⟨0, at0, fpos⟩
            · exact ⟨j, at1, by omega⟩
          have f1g := same_new (o := .lst [V.int 0, .int r5]) nsp _ _ f1f
          have f2g := same_new (o := .lst [V.int 0, .int r5]) nsp _ _ f2f
          have f3g := same_new (o := .lst [V.int 0, .int r5]) nsp _ _ f3f
          have f4g := hs5.new (o := .lst [V.int 0, .int r5]) nsp
          have f5g := (f5.trans b5).add (o := .lst [V.int 0, .int r5]) nsp
          refine ⟨_, rfl, sp, _, nd, _, rfl, rfl, .of upd_same, ej, lf, _, _, j, _, rfl, rfl, f1g, (nm (by omega)).1, (nm (by omega)).2, by rw [List.length_map]; exact ix_at hj, get_at hj, al, _, _, rfl, rfl, (by rw [upd_ne nla.symm]; exact f2g), by rw [List.length_map]; exact zl (by omega), ?_⟩
          generalize upd H5 sp (.lst [V.int 0, .int r5]) = H6' at f1g f2g f3g f4g f5g ⊢
          have fo3 : (upd (upd H6' lf (.lst ((fr.map V.int).eraseIdx j))) al (.lst (av.map V.int ++ [.int fr[j]]))) fo = some (.lst (fd.map V.int)) := by rw [upd_ne nao.symm, upd_ne nlo.symm]; exact f3g
          refine ⟨_, rfl, .inl ⟨rfl, _, .of fo3⟩, _, rfl, 1, rfl, al, _, -1, _, rfl, rfl, .of upd_same, at_last, fo, _, _, rfl, rfl, fo3, by rw [List.length_map]; exact zl fdl, ⟨_, _, _, rfl⟩, fr.eraseIdx j, av ++ [fr[j]], fd ++ [fr[j]], ⟨?_, ?_, ?_, ?_, ?_⟩, g.pushAt hj, ?_, ?_⟩
          · rw [upd_ne nlo, upd_ne nla, upd_same, erase_map]
          · rw [upd_ne nao, upd_same, List.map_append]
            rfl
          · rw [upd_same, List.map_append]
            rfl
          · exact (((f4g.upd nlfs).upd nals).upd nfos).mono (by omega)
          · exact ((f5g.mut hlf0).mut hal0).mut hfo0
          · rw [List.length_append]
            exact Nat.succ_le_succ ln
          · rw [List.length_eraseIdx]
            split <;> omega
        | false =>
          refine ⟨_, rfl, Nat.zero_le _, fun e ne => ?_⟩
          have l1 := lnew (o := .lst []) (⟨f1, f2, f3, f4, f5⟩ : LogF H H3 src lf fo al (n + 6 + 5 * i + 2) fr av fd) ne
          obtain ⟨f1e, f2e, f3e, f4e, f5e⟩ := l1
          by_cases hav : av = []
          · refine ⟨dI av, dI [], dp_ints (.of f2e), dp_ints (ns := []) (.of upd_same), shaped_ints _, shaped_ints _, false, neqF hav, ?_⟩
            exact ⟨⟨_, _, _, rfl⟩, fr, av, fd, ⟨f1e, f2e, f3e, f4e.mono (by omega), f5e⟩, g, Nat.le_succ_of_le ln, frl⟩
          · refine ⟨dI av, dI [], dp_ints (.of f2e), dp_ints (ns := []) (.of upd_same), shaped_ints _, shaped_ints _, true, neqT hav, ?_⟩
            have apos : 0 < av.length := Nat.pos_of_ne_zero fun z => hav (List.length_eq_zero_iff.mp z)
            refine ⟨_, rfl, _, rfl, al, _, rfl, .inl (.of f2e), src, _, n + 6 + 5 * i + 2, rfl, f4e, by omega, by rw [List.length_map]; omega, by rw [List.length_map]; omega, fun r5 H5 r50 r51 hs5 b5 => ?_⟩
            rw [List.length_map] at r51
            have f1f := b5 _ _ nlfs f1e
            have f2f := b5 _ _ nals f2e
            have f3f := b5 _ _ nfos f3e
            refine ⟨_, rfl, al, _, rfl, .inl (.of f2f), _, _, rfl, rfl, ?_⟩
            refine ⟨_, rfl, _, rfl, al, _, rfl, .inl (.of f2f), src, _, n + 6 + 5 * i + 3, rfl, hs5, by omega, by rw [List.length_map]; omega, by rw [List.length_map]; omega, fun r6 H6 r60 r61 hs6 b6 => ?_⟩
            rw [List.length_map] at r61
            have f1g := b6 _ _ nlfs f1f
            have f2g := b6 _ _ nals f2f
            have f3g := b6 _ _ nfos f3f
            refine ⟨by show 4 ≤ sizeLine; decide, fun sp nsp => ?_⟩
            have f1h : ∀ o, (upd H6 sp o) lf = some (.lst (fr.map V.int)) := fun o => same_new nsp _ _ f1g
            have f2h : ∀ o, (upd H6 sp o) al = some (.lst (av.map V.int)) := fun o => same_new nsp _ _ f2g
            have f3h : ∀ o, (upd H6 sp o) fo = some (.lst (fd.map V.int)) := fun o => same_new nsp _ _ f3g
            have f4h : ∀ o, Src (upd H6 sp o) src (n + 6 + 5 * i + 4) := fun o => hs6.new nsp
            have f5h : ∀ o, Bt src H (upd H6 sp o) := fun o => ((f5e.trans b5).trans b6).add nsp
            obtain ⟨j, ej, hj⟩ : ∃ j : Nat, atI [V.int r5, .int ((((av.map V.int).length : Nat) : Int) - 1), .int 0, .int r6] en = some (.int (j : Int)) ∧ j < av.length := by
              have c : en = 0 ∨ en = 1 ∨ en = 2 ∨ en = 3 := by omega
              have fin : ∀ (s : Nat) (v : Int), [V.int r5, .int ((((av.map V.int).length : Nat) : Int) - 1), .int 0, .int r6][s]? = some (.int v) → 0 ≤ v → v < (av.length : Int) → ∃ j : Nat, atI [V.int r5, .int ((((av.map V.int).length : Nat) : Int) - 1), .int 0, .int r6] (s : Int) = some (.int (j : Int)) ∧ j < av.length := fun s v e v0 v1 => by
                obtain ⟨j, rfl⟩ := nat_of v0
                exact ⟨j, atI_nat e, by omega⟩
              rcases c with rfl | rfl | rfl | rfl
              · exact fin 0 r5 rfl r50 r51
              · exact fin 1 _ rfl (by rw [List.length_map]; omega) (by rw [List.length_map]; omega)
              · exact fin 2 0 rfl (by decide) (by omega)
              · exact fin 3 r6 rfl r60 r61
            refine ⟨_, rfl, .inl ⟨rfl, _, .of (f3h _)⟩, _, rfl, .inl ⟨rfl, _, .of (f2h _)⟩, _, rfl, _, rfl, sp, _, en, _, rfl, rfl, .of upd_same, ej, al, _, _, j, _, rfl, rfl, f2h _, (nm (by omega)).1, (nm (by omega)).2, by rw [List.length_map]; exact ix_at hj, get_at hj, _, _, rfl, rfl, fo, _, _, rfl, rfl, (by rw [upd_ne nao.symm]; exact f3h _), by rw [List.length_map]; exact zl fdl, ?_⟩
            refine ⟨⟨_, _, _, rfl⟩, fr, av.eraseIdx j, fd ++ [-av[j]], ⟨?_, ?_, ?_, ?_, ?_⟩, g.stop hj, ?_, frl⟩
            · rw [upd_ne nlo, upd_ne nla]
              exact f1h _
            · rw [upd_ne nao, upd_same, erase_map]
            · rw [upd_same, List.map_append]
              show some (HO.lst (_ ++ [V.int (0 - av[j])])) = _
              rw [Int.zero_sub]
              rfl
            · exact (((f4h _).upd nals).upd nfos).mono (by omega)
            · exact ((f5h _).mut hal0).mut hfo0
            · rw [List.length_append]
              exact Nat.succ_le_succ ln
    · obtain ⟨⟨y1, y2, y3, rfl⟩, fr, av, fd, ⟨f1, f2, f3, f4, f5⟩, g, ln, frl⟩ := h
      exact ⟨_, rfl, q _ fo fd ⟨g.rng, g.nd, g.ord, by omega⟩ (by omega) f5 (f4.mono (by omega)) hfo0 f3⟩
end
theorem sv_at {ns : List Int} (hh : Hist ns) {i : Nat} {k : Int} (hi : ns[i]? = some k) (h0 : 0 < k) : ∀ d, i + 1 + d ≤ ns.length → (runP (ns.take (i + 1 + d))).2 k = (runP (ns.take i)).1
  | 0, _ => by
    show (runP (ns.take (i + 1))).2 k = _
    rw [runP_succ hi]
    unfold stepP
    rw [if_pos h0]
    exact if_pos rfl
  | d + 1, hd => by
    have ih := sv_at hh hi h0 d (by omega)
    have hlt : i + 1 + d < ns.length := by omega
    have he : ns[i + 1 + d]? = some ns[i + 1 + d] := List.getElem?_eq_getElem hlt
    generalize ns[i + 1 + d] = e at he
    have hne : k ≠ e := fun z => by
      subst z
      have := nd_ix hh.nd hi he
      omega
    show (runP (ns.take (i + 1 + d + 1))).2 k = _
    rw [runP_succ he, ← ih]
    unfold stepP
    by_cases hp : 0 < e
    · rw [if_pos hp]
      exact if_neg hne
    · rw [if_neg hp]
/-! ### fates, event by event -/
inductive Ft
  | pres
  | saved (k : Int)
  | lost (i : Nat)
def pr (ns : List Int) (i : Nat) : Int := (runP (ns.take i)).1
def sv (ns : List Int) (i : Nat) : Int → Int := (runP (ns.take i)).2
def fate (ns : List Int) : Nat → Int → Option Ft
  | 0, v => if v = 0 then some .pres else none
  | i + 1, v => if v = pr ns (i + 1) then some .pres else if v = pr ns i then (match ns[i]? with | some e => some (if 0 < e then .saved e else .lost i) | none => none) else fate ns i v
def keysL (ns : List Int) (i : Nat) : List Int := 0 :: (ns.take i).filter fun e => decide (0 < e)
theorem fate_succ {ns : List Int} {i : Nat} {e : Int} (he : ns[i]? = some e) (v : Int) : fate ns (i + 1) v = if v = pr ns (i + 1) then some .pres else if v = pr ns i then some (if 0 < e then .saved e else .lost i) else fate ns i v := by
  show (if v = pr ns (i + 1) then some Ft.pres else if v = pr ns i then (match ns[i]? with | some e => some (if 0 < e then Ft.saved e else .lost i) | none => none) else fate ns i v) = _
  rw [he]
theorem fate_pr (ns : List Int) : ∀ i, fate ns i (pr ns i) = some .pres
  | 0 => if_pos rfl
  | i + 1 => if_pos rfl
theorem keys_succ {ns : List Int} {i : Nat} {e : Int} (he : ns[i]? = some e) : keysL ns (i + 1) = keysL ns i ++ if 0 < e then [e] else [] := by
  unfold keysL
  rw [take_get he, List.filter_append, List.filter_cons]
  by_cases h : 0 < e <;> simp [h]
theorem pr_start {ns : List Int} {i : Nat} {e : Int} (he : ns[i]? = some e) (h0 : 0 < e) : pr ns (i + 1) = e ∧ sv ns (i + 1) = putF1 (sv ns i) e (pr ns i) := by
  unfold pr sv
  rw [runP_succ he]
  unfold stepP
  rw [if_pos h0]
  exact ⟨rfl, rfl⟩
theorem pr_stop {ns : List Int} {i : Nat} {e : Int} (he : ns[i]? = some e) (h0 : e < 0) : pr ns (i + 1) = sv ns i (-e) ∧ sv ns (i + 1) = sv ns i := by
  unfold pr sv
  rw [runP_succ he]
  unfold stepP
  rw [if_neg (by omega)]
  exact ⟨rfl, rfl⟩
theorem cnt_upd {a : Int} {f g : Int → Nat} (w : Nat) : ∀ {l : List Int}, l.Nodup → a ∈ l → (∀ v ∈ l, v ≠ a → f v = g v) → l.countP (fun v => g v == w) + (if f a = w then 1 else 0) = l.countP (fun v => f v == w) + (if g a = w then 1 else 0)
  | x :: r, nd, ha, h => by
    obtain ⟨n1, n2⟩ := List.nodup_cons.mp nd
    rw [List.countP_cons, List.countP_cons]
    by_cases e : x = a
    · subst e
      have er : r.countP (fun v => g v == w) = r.countP (fun v => f v == w) := List.countP_congr fun v hv => by rw [h v (List.mem_cons_of_mem _ hv) (fun z => n1 (z ▸ hv))]
      rw [er]
      by_cases h1 : f x = w <;> by_cases h2 : g x = w <;> simp [h1, h2]
    · have ih := cnt_upd (f := f) (g := g) w n2 ((List.mem_cons.mp ha).resolve_left fun z => e z.symm) fun v hv => h v (List.mem_cons_of_mem _ hv)
      rw [h x List.mem_cons_self e]
      omega
theorem cnt_upd2 {a : Int} {f g : Int → Nat} (w : Nat) {l : List Int} {x y : Nat} (nd : l.Nodup) (ha : a ∈ l) (h : ∀ v ∈ l, v ≠ a → f v = g v) (hx : f a = x) (hy : g a = y) : l.countP (fun v => g v == w) + (if x = w then 1 else 0) = l.countP (fun v => f v == w) + (if y = w then 1 else 0) := by
  have := cnt_upd w nd ha h
  rw [hx, hy] at this
  exact this
def wd : Option Ft → Nat
  | some .pres => 0
  | some (.saved _) => 1
  | some (.lost _) => 2
  | none => 3
def cnt (ns : List Int) (i w : Nat) : Nat := (keysL ns i).countP fun v => wd (fate ns i v) == w
structure Fs (ns : List Int) (i : Nat) : Prop where
  run : ∀ k ∈ ns.take i, 0 < k → -k ∉ ns.take i → fate ns i (sv ns i k) = some (.saved k)
  key : ∀ v, fate ns i v ≠ none ↔ v ∈ keysL ns i
  nd : (keysL ns i).Nodup
  cp : cnt ns i 0 = 1
  cs : cnt ns i 1 + i + 2 = 2 * (keysL ns i).length
  cl : cnt ns i 2 + (keysL ns i).length = i + 1
theorem fs_all {ns : List Int} (hh : Hist ns) : ∀ i, i ≤ ns.length → Fs ns i
  | 0, _ => by
    refine ⟨fun k hk => absurd hk (by simp), fun v => ?_, by show ([0] : List Int).Nodup; decide, rfl, rfl, rfl⟩
    show (if v = 0 then some Ft.pres else none) ≠ none ↔ v ∈ [0]
    by_cases e : v = 0 <;> simp [e]
  | i + 1, hi => by
    have F := fs_all hh i (by omega)
    have he : ns[i]? = some ns[i] := List.getElem?_eq_getElem (by omega)
    generalize ns[i] = e at he
    have e0 := (hh.rng e (mem_get he)).1
    have pk : pr ns i ∈ keysL ns i := (F.key _).mp (by rw [fate_pr]; exact fun z => nomatch z)
    have pne : ∀ {v k}, fate ns i v = some (.saved k) → v ≠ pr ns i := fun h z => by
      rw [z, fate_pr] at h
      cases h
    by_cases h0 : 0 < e
    · obtain ⟨p1, p2⟩ := pr_start he h0
      have enk : e ∉ keysL ns i := fun z => by
        rcases List.mem_cons.mp z with z | z
        · omega
        · exact not_mem_take hh.nd he (List.mem_filter.mp z).1
      have ks : keysL ns (i + 1) = keysL ns i ++ [e] := by rw [keys_succ he, if_pos h0]
      have fe : fate ns (i + 1) e = some .pres := by rw [fate_succ he, p1, if_pos rfl]
      have fp : fate ns (i + 1) (pr ns i) = some (.saved e) := by
        rw [fate_succ he, p1, if_neg (show ¬ pr ns i = e from fun z => enk (z ▸ pk)), if_pos rfl, if_pos h0]
      have fo : ∀ v, v ≠ e → v ≠ pr ns i → fate ns (i + 1) v = fate ns i v := fun v h1 h2 => by rw [fate_succ he, p1, if_neg h1, if_neg h2]
      have cu := fun w => cnt_upd2 (a := pr ns i) (f := fun v => wd (fate ns i v)) (g := fun v => wd (fate ns (i + 1) v)) (x := 0) (y := 1) w F.nd pk (fun v hv hne => by rw [fo v (fun z => enk (z ▸ hv)) hne]) (by rw [fate_pr]; rfl) (by rw [fp]; rfl)
      have ca : ∀ w, cnt ns (i + 1) w = (keysL ns i).countP (fun v => wd (fate ns (i + 1) v) == w) + if w = 0 then 1 else 0 := fun w => by
        unfold cnt
        rw [ks, List.countP_append, List.countP_cons, List.countP_nil, fe]
        by_cases z : w = 0
        · subst z; rfl
        · rw [if_neg z, if_neg]
          simp [wd]
          omega
      have kl : (keysL ns (i + 1)).length = (keysL ns i).length + 1 := by rw [ks, List.length_append]; rfl
      obtain ⟨B, hB⟩ : ∃ B : Nat → Nat, ∀ w, B w = (keysL ns i).countP (fun v => wd (fate ns (i + 1) v) == w) := ⟨_, fun _ => rfl⟩
      have c0 : B 0 + 1 = cnt ns i 0 + 0 := by rw [hB]; exact cu 0
      have c1 : B 1 + 0 = cnt ns i 1 + 1 := by rw [hB]; exact cu 1
      have c2 : B 2 + 0 = cnt ns i 2 + 0 := by rw [hB]; exact cu 2
      have a0 : cnt ns (i + 1) 0 = B 0 + 1 := by rw [hB]; exact ca 0
      have a1 : cnt ns (i + 1) 1 = B 1 + 0 := by rw [hB]; exact ca 1
      have a2 : cnt ns (i + 1) 2 = B 2 + 0 := by rw [hB]; exact ca 2
      have f0 := F.cp
      have f1 := F.cs
      have f2 := F.cl
      refine ⟨fun k hk hp hn => ?_, fun v => ?_, ?_, ?_, ?_, ?_⟩
      · rw [p2]
        unfold putF1
        by_cases z : k = e
        · rw [if_pos z, fp, z]
        · rw [if_neg z]
          have r := F.run k (((mem_take_succ he).mp hk).resolve_right z) hp fun m => hn ((mem_take_succ he).mpr (.inl m))
          rw [fo _ (fun y => enk ((F.key _).mp (by rw [← y, r]; exact fun z => nomatch z))) (pne r)]
          exact r
      · rw [ks, List.mem_append, List.mem_singleton]
        by_cases z : v = e
        · rw [z, fe]
          exact ⟨fun _ => .inr rfl, fun _ y => nomatch y⟩
        · by_cases z2 : v = pr ns i
          · rw [z2, fp]
            exact ⟨fun _ => .inl pk, fun _ y => nomatch y⟩
          · rw [fo v z z2, F.key v]
            exact ⟨.inl, fun h => h.resolve_right z⟩
      · rw [ks]
        exact nodup_snoc F.nd enk
      · rw [a0]
        omega
      · rw [a1, kl]
        omega
      · rw [a2, kl]
        omega
    · have hneg : e < 0 := by omega
      obtain ⟨p1, p2⟩ := pr_stop he hneg
      have r := F.run (-e) (hh.ord i e he hneg) (by omega) (by rw [Int.neg_neg]; exact not_mem_take hh.nd he)
      have hk : sv ns i (-e) ∈ keysL ns i := (F.key _).mp (by rw [r]; exact fun z => nomatch z)
      have ks : keysL ns (i + 1) = keysL ns i := by rw [keys_succ he, if_neg h0, List.append_nil]
      have fe : fate ns (i + 1) (sv ns i (-e)) = some .pres := by rw [fate_succ he, p1, if_pos rfl]
      have fp : fate ns (i + 1) (pr ns i) = some (.lost i) := by
        rw [fate_succ he, p1, if_neg (show ¬ pr ns i = sv ns i (-e) from fun z => pne r z.symm), if_pos rfl, if_neg h0]
      have fo : ∀ v, v ≠ sv ns i (-e) → v ≠ pr ns i → fate ns (i + 1) v = fate ns i v := fun v h1 h2 => by rw [fate_succ he, p1, if_neg h1, if_neg h2]
      have cu := fun w => cnt_upd2 (a := pr ns i) (f := fun v => wd (fate ns i v)) (g := fun v => if v = pr ns i then 2 else wd (fate ns i v)) (x := 0) (y := 2) w F.nd pk (fun v hv hne => by rw [if_neg hne]) (by rw [fate_pr]; rfl) (if_pos rfl)
      have cv := fun w => cnt_upd2 (a := sv ns i (-e)) (f := fun v => if v = pr ns i then 2 else wd (fate ns i v)) (g := fun v => wd (fate ns (i + 1) v)) (x := 1) (y := 0) w F.nd hk (fun v hv hne => by
        by_cases z : v = pr ns i
        · rw [if_pos z, z, fp]
          rfl
        · rw [if_neg z, fo v hne z]) (by rw [if_neg (pne r), r]; rfl) (by rw [fe]; rfl)
      obtain ⟨M, hM⟩ : ∃ M : Nat → Nat, ∀ w, M w = (keysL ns i).countP (fun v => (if v = pr ns i then 2 else wd (fate ns i v)) == w) := ⟨_, fun _ => rfl⟩
      obtain ⟨B, hB⟩ : ∃ B : Nat → Nat, ∀ w, B w = (keysL ns i).countP (fun v => wd (fate ns (i + 1) v) == w) := ⟨_, fun _ => rfl⟩
      have c0 : M 0 + 1 = cnt ns i 0 + 0 := by rw [hM]; exact cu 0
      have c1 : M 1 + 0 = cnt ns i 1 + 0 := by rw [hM]; exact cu 1
      have c2 : M 2 + 0 = cnt ns i 2 + 1 := by rw [hM]; exact cu 2
      have a0 : B 0 + 0 = M 0 + 1 := by rw [hM, hB]; exact cv 0
      have a1 : B 1 + 1 = M 1 + 0 := by rw [hM, hB]; exact cv 1
      have a2 : B 2 + 0 = M 2 + 0 := by rw [hM, hB]; exact cv 2
      have b0 : cnt ns (i + 1) 0 = B 0 := by rw [hB]; unfold cnt; rw [ks]
      have b1 : cnt ns (i + 1) 1 = B 1 := by rw [hB]; unfold cnt; rw [ks]
      have b2 : cnt ns (i + 1) 2 = B 2 := by rw [hB]; unfold cnt; rw [ks]
      have f0 := F.cp
      have f1 := F.cs
      have f2 := F.cl
      refine ⟨fun k hk2 hp hn => ?_, fun v => ?_, by rw [ks]; exact F.nd, ?_, ?_, ?_⟩
      · rw [p2]
        have kne : k ≠ -e := fun z => hn ((mem_take_succ he).mpr (.inr (by omega)))
        have r2 := F.run k (((mem_take_succ he).mp hk2).resolve_right (by omega)) hp fun m => hn ((mem_take_succ he).mpr (.inl m))
        rw [fo _ (fun y => ?_) (pne r2)]
        · exact r2
        · rw [y, r] at r2
          injection r2 with r2
          injection r2 with r2
          exact kne r2.symm
      · rw [ks]
        by_cases z : v = sv ns i (-e)
        · rw [z, fe]
          exact ⟨fun _ => hk, fun _ y => nomatch y⟩
        · by_cases z2 : v = pr ns i
          · rw [z2, fp]
            exact ⟨fun _ => pk, fun _ y => nomatch y⟩
          · rw [fo v z z2]
            exact F.key v
      · omega
      · rw [ks]
        omega
      · rw [ks]
        omega
theorem lost_stays {ns : List Int} (hh : Hist ns) {v : Int} {a : Nat} {i : Nat} (h : fate ns i v = some (.lost a)) : ∀ d, i + d ≤ ns.length → fate ns (i + d) v = some (.lost a)
  | 0, _ => h
  | d + 1, hd => by
    have ih := lost_stays hh h d (by omega)
    have F := fs_all hh (i + d) (by omega)
    have he : ns[i + d]? = some ns[i + d] := List.getElem?_eq_getElem (by omega)
    generalize ns[i + d] = e at he
    have e0 := (hh.rng e (mem_get he)).1
    show fate ns (i + d + 1) v = _
    have h1 : v ≠ pr ns (i + d) := fun z => by
      rw [z, fate_pr] at ih
      cases ih
    have h2 : v ≠ pr ns (i + d + 1) := fun z => by
      by_cases h0 : 0 < e
      · rw [(pr_start he h0).1] at z
        have := (F.key v).mp (by rw [ih]; exact fun z => nomatch z)
        rw [z] at this
        rcases List.mem_cons.mp this with z | z
        · omega
        · exact not_mem_take hh.nd he (List.mem_filter.mp z).1
      · have hneg : e < 0 := by omega
        have r := F.run (-e) (hh.ord _ e he hneg) (by omega) (by rw [Int.neg_neg]; exact not_mem_take hh.nd he)
        rw [(pr_stop he hneg).1] at z
        rw [z, r] at ih
        cases ih
    rw [fate_succ he, if_neg h2, if_neg h1]
    exact ih
theorem fate_last {ns : List Int} : ∀ {i : Nat} {v : Int} {f : Ft}, i ≤ ns.length → fate ns i v = some f → ∃ m, m ≤ i ∧ pr ns m = v ∧ (∀ j, m < j → j ≤ i → pr ns j ≠ v) ∧ ((m = i ∧ f = .pres) ∨ ∃ e, m < i ∧ ns[m]? = some e ∧ f = if 0 < e then .saved e else .lost m)
  | 0, v, f, _, h => by
    unfold fate at h
    by_cases e : v = 0
    · rw [if_pos e] at h
      cases h
      exact ⟨0, Nat.le_refl _, e.symm, fun j h1 h2 => by omega, .inl ⟨rfl, rfl⟩⟩
    · rw [if_neg e] at h
      cases h
  | i + 1, v, f, hi, h => by
    have he : ns[i]? = some ns[i] := List.getElem?_eq_getElem (by omega)
    generalize ns[i] = e at he
    rw [fate_succ he] at h
    by_cases h1 : v = pr ns (i + 1)
    · rw [if_pos h1] at h
      cases h
      exact ⟨i + 1, Nat.le_refl _, h1.symm, fun j h1 h2 => by omega, .inl ⟨rfl, rfl⟩⟩
    · rw [if_neg h1] at h
      by_cases h2 : v = pr ns i
      · rw [if_pos h2] at h
        cases h
        exact ⟨i, by omega, h2.symm, fun j y1 y2 => by
          have : j = i + 1 := by omega
          rw [this]
          exact fun z => h1 z.symm, .inr ⟨e, by omega, he, rfl⟩⟩
      · rw [if_neg h2] at h
        obtain ⟨m, m1, m2, m3, m4⟩ := fate_last (by omega) h
        refine ⟨m, by omega, m2, fun j y1 y2 => ?_, ?_⟩
        · by_cases z : j = i + 1
          · rw [z]
            exact fun z => h1 z.symm
          · exact m3 j y1 (by omega)
        · rcases m4 with ⟨rfl, rfl⟩ | ⟨e', z1, z2, z3⟩
          · exact absurd m2.symm h2
          · exact .inr ⟨e', by omega, z2, z3⟩
theorem fate_saved {ns : List Int} (hh : Hist ns) {v e : Int} (h : fate ns ns.length v = some (.saved e)) : 0 < e ∧ e ∈ ns ∧ -e ∉ ns ∧ (runP ns).2 e = v := by
  obtain ⟨m, _, m2, m3, m4⟩ := fate_last (Nat.le_refl _) h
  rcases m4 with ⟨_, z⟩ | ⟨x, m5, m6, z⟩
  · cases z
  · by_cases h0 : 0 < x
    · rw [if_pos h0] at z
      cases z
      have sv0 : ∀ d, m + 1 + d ≤ ns.length → (runP (ns.take (m + 1 + d))).2 e = v := fun d hd => (sv_at hh m6 h0 d hd).trans m2
      refine ⟨h0, mem_get m6, fun hn => ?_, ?_⟩
      · obtain ⟨j, hj, ej⟩ := List.mem_iff_getElem.mp hn
        have gj : ns[j]? = some (-e) := by rw [List.getElem?_eq_getElem hj, ej]
        have o := hh.ord j (-e) gj (by omega)
        rw [Int.neg_neg] at o
        obtain ⟨i2, hi2, e2⟩ := List.mem_iff_getElem.mp o
        rw [List.length_take] at hi2
        have g2 : ns[i2]? = some e := by rw [List.getElem?_eq_getElem (by omega), ← e2, List.getElem_take]
        have em := nd_ix hh.nd g2 m6
        have mj : m + 1 + (j - (m + 1)) = j := by omega
        have sj := sv0 (j - (m + 1)) (by omega)
        rw [mj] at sj
        have p := (pr_stop gj (by omega)).1
        rw [Int.neg_neg] at p
        exact m3 (j + 1) (by omega) (by omega) (p.trans sj)
      · have z := sv0 (ns.length - (m + 1)) (by omega)
        rwa [show m + 1 + (ns.length - (m + 1)) = ns.length by omega, List.take_length] at z
    · rw [if_neg h0] at z
      cases z
theorem fate_run {ns : List Int} (hh : Hist ns) {k : Int} (h0 : 0 < k) (h1 : k ∈ ns) (h2 : -k ∉ ns) : fate ns ns.length ((runP ns).2 k) = some (.saved k) := by
  have F := fs_all hh ns.length (Nat.le_refl _)
  have z := F.run k (by rw [List.take_length]; exact h1) h0 (by rw [List.take_length]; exact h2)
  unfold sv at z
  rwa [List.take_length] at z
theorem fate_pres {ns : List Int} {v : Int} (h : fate ns ns.length v = some .pres) : v = (runP ns).1 := by
  obtain ⟨m, _, m2, _, m4⟩ := fate_last (Nat.le_refl _) h
  rcases m4 with ⟨rfl, _⟩ | ⟨x, _, _, z⟩
  · unfold pr at m2
    rw [List.take_length] at m2
    exact m2.symm
  · split at z <;> cases z
theorem fate_some {ns : List Int} (hh : Hist ns) {v : Int} (h : v = 0 ∨ 0 < v ∧ v ∈ ns) : ∃ f, fate ns ns.length v = some f := by
  have F := fs_all hh ns.length (Nat.le_refl _)
  have k : v ∈ keysL ns ns.length := by
    unfold keysL
    rw [List.take_length]
    rcases h with rfl | ⟨h0, h1⟩
    · exact List.mem_cons_self
    · exact List.mem_cons_of_mem _ (List.mem_filter.mpr ⟨h1, decide_eq_true h0⟩)
  cases e : fate ns ns.length v with
  | none => exact absurd e ((F.key v).mpr k)
  | some f => exact ⟨f, rfl⟩
theorem fate_now (ns : List Int) : fate ns ns.length (runP ns).1 = some .pres := by
  have z := fate_pr ns ns.length
  unfold pr at z
  rwa [List.take_length] at z
end L12
set_option Elab.async false
set_option linter.all false
set_option maxRecDepth 100000
namespace L12
open PySem PySem.Spec PyProof.Rows L2 Lp
theorem filt_succ {ns : List Int} {f : Int → Bool} {i : Nat} {e : Int} (h : ns[i]? = some e) : (ns.take (i + 1)).filter f = (ns.take i).filter f ++ if f e = true then [e] else [] := by
  rw [take_get h, List.filter_append, List.filter_cons]
  split <;> rfl
theorem filt_len {ns : List Int} {f : Int → Bool} (i : Nat) : ((ns.take i).filter f).length ≤ i := by
  have a := List.length_filter_le f (ns.take i)
  rw [List.length_take] at a
  omega
def stL (ns : List Int) : List Int := ns.filter fun e => decide (0 < e)
theorem stL_len (ns : List Int) : (stL ns).length ≤ ns.length := List.length_filter_le _ _
theorem stL_nd {ns : List Int} (hh : Hist ns) : (stL ns).Nodup := hh.nd.sublist List.filter_sublist
theorem mem_stL {ns : List Int} {k : Int} (h : k ∈ ns) (h0 : 0 < k) : k ∈ stL ns := List.mem_filter.mpr ⟨h, decide_eq_true h0⟩
section
variable {P : Program} {w : World} {K : PySem.W.Frag} {mg : Str → Option Value} {base : Heap}
/-! ### starts_of -/
def spStarts (K : PySem.W.Frag) : Sp := fun vs H Q _ => ∃ (a : Addr) (ns : List Int), vs = [.ref a] ∧ SqL K H a (ns.map V.int) ∧ ns.length ≤ 1000 ∧
  ∀ H' p, Same H H' → H' p = some (.lst ((stL ns).map V.int)) → H p = none → Q (.ref p) H'
theorem ok_starts_of {f : Addr} {fd : FuncData} (F : Fun K "starts_of" "starts_of" s_starts_of f fd) : FnG P w K mg base CX0 1 f fd ["history"] (spStarts K) := by
  refine okG F sc_starts_of (fun vs H Q E h => ?_) (fun cdv A outer s H vs Q E hG hr h => ?_)
  · obtain ⟨a, ns, rfl, _⟩ := h
    rfl
  · obtain ⟨a, ns, rfl, hS, hl, q⟩ := h
    refine ⟨_, (pss_one (ps_ret (pe_lc (own := [("event", 1)]) (g := gName 1) (tt := _) rfl sc_starts_of.nd (pi_list (pv 0)) (blkOk_by (own := [("event", 1)]) (N := N_starts_of) (sc := defScope s_starts_of) (by decide +kernel)) (fun _ _ _ _ _ => (pg_name (i := 1) sc_starts_of.nd rfl (Or.inl rfl))) (fun _ _ _ _ _ => (pts_one (pt_cmpR op_gt (pv 1) pe_int (nomark _)))) (fun _ _ _ _ _ => (pv 1))))), ?_⟩
    refine ⟨_, rfl, a, rfl, ⟨_, hS⟩, fun D hD => lc_list (xs := ns.map V.int) (LcP H D fun i => ((ns.take i).filter fun e => decide (0 < e)).map V.int) (.init hD rfl) (fun i H' _ p => p.2.1.seq hS) (fun i x H' hx p => ?_) (fun H1 p => ?_)⟩
    · obtain ⟨e, rfl, he⟩ := get_int hx
      have fs := filt_succ (f := fun e => decide (0 < e)) he
      have fl := filt_len (ns := ns) (f := fun e => decide (0 < e)) i
      have li := lt_get he
      refine ⟨rfl, ?_⟩
      by_cases h0 : 0 < e
      · refine ⟨_, rfl, _, _, rfl, rfl, true, dT h0, ?_⟩
        refine ⟨_, rfl, p.put (Same.refl _) ?_ (by rw [List.length_map]; omega)⟩
        show ((ns.take (i + 1)).filter _).map V.int = _
        rw [fs, if_pos (by simp [h0]), List.map_append]
        rfl
      · refine ⟨_, rfl, _, _, rfl, rfl, false, dF h0, ?_⟩
        refine p.skip (Same.refl _) ?_
        show ((ns.take (i + 1)).filter _).map V.int = _
        rw [fs, if_neg (by simp [h0]), List.append_nil]
    · have hp := p.2.2
      rw [List.length_map] at hp
      have hp : H1 D = some (.lst (((ns.take ns.length).filter fun e => decide (0 < e)).map V.int)) := hp
      rw [List.take_length] at hp
      exact q _ _ p.2.1 hp hD
end
theorem fl_put {ns : List Int} {f : Int → Bool} {i : Nat} {e : Int} (h : ns[i]? = some e) (hf : f e = true) (g : Int → V) : ((ns.take (i + 1)).filter f).map g = ((ns.take i).filter f).map g ++ [g e] := by
  rw [filt_succ h, if_pos hf, List.map_append]
  rfl
theorem fl_skip {ns : List Int} {f : Int → Bool} {i : Nat} {e : Int} (h : ns[i]? = some e) (hf : f e = false) (g : Int → V) : ((ns.take (i + 1)).filter f).map g = ((ns.take i).filter f).map g := by
  rw [filt_succ h, if_neg (by rw [hf]; exact Bool.false_ne_true), List.append_nil]
theorem fl_len {ns : List Int} {f : Int → Bool} {i : Nat} {g : Int → V} (h : i ≤ 1000) : (((ns.take i).filter f).map g).length < 100000 := by
  rw [List.length_map]
  have := filt_len (ns := ns) (f := f) i
  omega
theorem fl_end {H : Hp} {D : Addr} {l : List Int} {f : Int → Bool} {g : Int → V} {n : Nat} (hn : n = l.length) (h : H D = some (.lst (((l.take n).filter f).map g))) : H D = some (.lst ((l.filter f).map g)) := by
  subst hn
  rw [List.take_length] at h
  exact h
section
variable {P : Program} {w : World} {K : PySem.W.Frag} {mg : Str → Option Value} {base : Heap}
def runL (ns : List Int) : List Int := (stL ns).filter fun e => decide (-e ∉ ns)
def spRunA (K : PySem.W.Frag) : Sp := fun vs H Q _ => ∃ (a : Addr) (ns : List Int), vs = [.ref a] ∧ SqL K H a (ns.map V.int) ∧ Hist ns ∧
  ∀ (H' : Hp) (p : Addr) (R : List Int), Same H H' → H p = none → H' p = some (.lst (R.map V.int)) → R.Perm (runL ns) → R.Pairwise (· ≤ ·) → Q (.ref p) H'
theorem ok_running_after {f : Addr} {fd : FuncData} (F : Fun K "running_after" "running_after" s_running_after f fd) (B : NoB mg) (T_check_history : Gc P w K mg base 6 "check_history" (spCheck K)) (T_starts_of : Gc P w K mg base 1 "starts_of" (spStarts K)) : FnG P w K mg base CX0 7 f fd ["history"] (spRunA K) := by
  refine okG F sc_running_after (fun vs H Q E h => ?_) (fun cdv A outer s H vs Q E hG hr h => ?_)
  · obtain ⟨a, ns, rfl, _⟩ := h
    rfl
  · obtain ⟨a, ns, rfl, hS, hh, q⟩ := h
    have hl : ns.length ≤ 1000 := by have := hh.len; omega
    refine ⟨_, (pss_cons (ps_expr (pe_g T_check_history hG hr (by decide) (by rfl) (pa_cons (pv 0) pa_nil)))
        (pss_one (ps_ret (pe_callB cr_sortedI (by rfl) B.sorted (by decide +kernel) (pa_cons (pe_lc (own := [("patch", 1)]) (g := gName 1) (tt := _) rfl sc_running_after.nd (pi_list (pe_g T_starts_of hG hr (by decide) (by rfl) (pa_cons (pv 0) pa_nil))) (blkOk_by (own := [("patch", 1)]) (N := N_running_after) (sc := defScope s_running_after) (by decide +kernel)) (fun _ _ _ _ _ => (pg_name (i := 1) sc_running_after.nd rfl (Or.inl rfl))) (fun _ _ _ _ _ => (pts_one (pt_cmpR (k_notin (K := K) rfl) (pe_un un_neg (pv 1)) (pv 0) (by rfl)))) (fun _ _ _ _ _ => (pv 1))) pa_nil))))), ?_⟩
    refine ⟨_, rfl, a, ns, rfl, hS, hh, fun H1 s1 => ?_⟩
    refine ⟨_, rfl, a, ns, rfl, s1.seq hS, hl, fun H2 p s2 hp np => ⟨p, rfl, ⟨_, .of hp⟩, fun D nD => ?_⟩⟩
    have s02 := s1.trans s2
    refine lc_list (xs := (stL ns).map V.int) (LcP H2 D fun i => (((stL ns).take i).filter fun e => decide (-e ∉ ns)).map V.int) (.init nD rfl) (fun i H' _ p => .of (p.2.1 _ _ hp)) (fun i x H' hx p => ?_) (fun H3 p3 => ?_)
    · obtain ⟨k, rfl, hk⟩ := get_int hx
      have il := lt_get hk
      have sl := stL_len ns
      refine ⟨rfl, ?_⟩
      by_cases c : -k ∈ ns
      · exact ⟨_, rfl, k, rfl, _, rfl, a, _, rfl, .inl ((s02.trans p.2.1).seq hS), rfl, flatI _, false, notInF c, p.skip (Same.refl _) (fl_skip hk (decide_eq_false (fun z => z c)) V.int)⟩
      · exact ⟨_, rfl, k, rfl, _, rfl, a, _, rfl, .inl ((s02.trans p.2.1).seq hS), rfl, flatI _, true, notInT c, _, rfl, p.put (Same.refl _) (fl_put hk (decide_eq_true c) V.int) (fl_len (by omega))⟩
    · have hD : H3 D = some (.lst ((runL ns).map V.int)) := fl_end (List.length_map ..) p3.2.2
      have s3 := p3.2.1
      exact ⟨D, runL ns, rfl, .of hD, fun ns' z pm pw nz => q _ z ns' ((s02.trans s3).trans (same_new nz)) ((s02.trans s3).free nz) upd_same pm pw⟩
end
section
variable {P : Program} {w : World} {K : PySem.W.Frag} {mg : Str → Option Value} {base : Heap}
/-! ### _law_active, _law_nested -/
def actL (ns : List Int) : List Int := ns.filter fun e => decide (e > 0 ∧ 0 - e ∉ ns)
def spAct (K : PySem.W.Frag) : Sp := fun vs H Q _ => ∃ (a : Addr) (ns : List Int), vs = [.ref a] ∧ SqL K H a (ns.map V.int) ∧ ns.length ≤ 1000 ∧
  ∀ (H' : Hp) (p : Addr) (R : List Int), Same H H' → H p = none → H' p = some (.lst (R.map V.int)) → R.Perm (actL ns) → R.Pairwise (· ≤ ·) → Q (.ref p) H'
theorem ok_law_active {f : Addr} {fd : FuncData} (F : Fun K "_law_active" "_law_active" s_law_active f fd) (B : NoB mg) : FnG P w K mg base CX0 1 f fd ["row"] (spAct K) := by
  refine okG F sc_law_active (fun vs H Q E h => ?_) (fun cdv A outer s H vs Q E hG hr h => ?_)
  · obtain ⟨a, ns, rfl, _⟩ := h
    rfl
  · obtain ⟨a, ns, rfl, hS, hl, q⟩ := h
    refine ⟨_, (pss_one (ps_ret (pe_callB cr_sortedI (by rfl) B.sorted (by decide +kernel) (pa_cons (pe_lc (own := [("event", 1)]) (g := gName 1) (tt := _) rfl sc_law_active.nd (pi_list (pv 0)) (blkOk_by (own := [("event", 1)]) (N := N_law_active) (sc := defScope s_law_active) (by decide +kernel)) (fun _ _ _ _ _ => (pg_name (i := 1) sc_law_active.nd rfl (Or.inl rfl))) (fun _ _ _ _ _ => (pts_one (PW.pt (pw_and (pt_cmpR op_gt (pv 1) pe_int (nomark _)) (pw_and1 (pt_cmpR (k_notin (K := K) rfl) (pe_op op_sub pe_int (pv 1)) (pv 0) (by rfl))))))) (fun _ _ _ _ _ => (pv 1))) pa_nil)))), ?_⟩
    refine ⟨_, rfl, a, rfl, ⟨_, hS⟩, fun D nD => ?_⟩
    refine lc_list (xs := ns.map V.int) (LcP H D fun i => ((ns.take i).filter fun e => decide (e > 0 ∧ 0 - e ∉ ns)).map V.int) (.init nD rfl) (fun i H' _ p => p.2.1.seq hS) (fun i x H' hx p => ?_) (fun H3 p3 => ?_)
    · obtain ⟨e, rfl, he⟩ := get_int hx
      have il := lt_get he
      have hS' := p.2.1.seq hS
      refine ⟨rfl, ?_⟩
      by_cases c : e > 0
      · by_cases c2 : 0 - e ∈ ns
        · exact ⟨_, rfl, _, _, rfl, rfl, true, dT c, _, rfl, _, _, rfl, rfl, _, rfl, a, _, rfl, .inl hS', rfl, flatI _, false, notInF c2, p.skip (.refl _) (fl_skip he (decide_eq_false (fun z => z.2 c2)) _)⟩
        · exact ⟨_, rfl, _, _, rfl, rfl, true, dT c, _, rfl, _, _, rfl, rfl, _, rfl, a, _, rfl, .inl hS', rfl, flatI _, true, notInT c2, _, rfl, p.put (.refl _) (fl_put he (decide_eq_true ⟨c, c2⟩) _) (fl_len (by omega))⟩
      · exact ⟨_, rfl, _, _, rfl, rfl, false, dF c, p.skip (.refl _) (fl_skip he (decide_eq_false (fun z => c z.1)) _)⟩
    · have hD : H3 D = some (.lst ((actL ns).map V.int)) := fl_end (List.length_map ..) p3.2.2
      have s3 := p3.2.1
      exact ⟨D, actL ns, rfl, .of hD, fun ns' z pm pw nz => q _ z ns' (s3.trans (same_new nz)) (s3.free nz) upd_same pm pw⟩
end
theorem closed_hist {ns R : List Int} (hh : Hist ns) (pm : R.Perm (actL ns)) (hl : (ns ++ R.map fun k => 0 - k).length ≤ 200) : Hist (ns ++ R.map fun k => 0 - k) ∧ runL (ns ++ R.map fun k => 0 - k) = [] := by
  have mR : ∀ k, k ∈ R ↔ k ∈ ns ∧ k > 0 ∧ 0 - k ∉ ns := fun k => by
    rw [pm.mem_iff]
    unfold actL
    rw [List.mem_filter, decide_eq_true_eq]
  have nR : R.Nodup := pm.nodup_iff.mpr (hh.nd.sublist List.filter_sublist)
  refine ⟨⟨fun e he => ?_, List.nodup_append.mpr ⟨hh.nd, nodup_map (fun x y e => by omega) nR, fun a ha b hb q => ?_⟩, fun i e he h0 => ?_, hl⟩, List.filter_eq_nil_iff.mpr fun k hk => ?_⟩
  · rcases List.mem_append.mp he with he | he
    · exact hh.rng e he
    · obtain ⟨k, hk, rfl⟩ := List.mem_map.mp he
      have := hh.rng k ((mR k).mp hk).1
      omega
  · subst q
    obtain ⟨k, hk, rfl⟩ := List.mem_map.mp hb
    exact ((mR k).mp hk).2.2 ha
  · rcases Nat.lt_or_ge i ns.length with hi | hi
    · rw [List.getElem?_append_left hi] at he
      rw [List.take_append_of_le_length (by omega)]
      exact hh.ord i e he h0
    · rw [List.getElem?_append_right hi] at he
      obtain ⟨k, hk, rfl⟩ := List.mem_map.mp (mem_get he)
      have h1 := ((mR k).mp hk).1
      rw [show -(0 - k) = k by omega]
      have et := List.take_length_add_append (i - ns.length) (l₁ := ns) (l₂ := R.map fun k => 0 - k)
      rw [show ns.length + (i - ns.length) = i by omega] at et
      rw [et]
      exact List.mem_append_left _ h1
  · obtain ⟨k1, k2⟩ := List.mem_filter.mp hk
    have k2 := of_decide_eq_true k2
    have : -k ∈ ns ++ R.map fun k => 0 - k := by
      rcases List.mem_append.mp k1 with k1 | k1
      · by_cases c : 0 - k ∈ ns
        · rw [Int.zero_sub] at c
          exact List.mem_append_left _ c
        · exact List.mem_append_right _ (List.mem_map.mpr ⟨k, (mR k).mpr ⟨k1, k2, c⟩, Int.zero_sub k⟩)
      · obtain ⟨k', hk', rfl⟩ := List.mem_map.mp k1
        have := ((mR k').mp hk').2.1
        omega
    exact fun c => of_decide_eq_true c this
section
variable {P : Program} {w : World} {K : PySem.W.Frag} {mg : Str → Option Value} {base : Heap}
/-! ### present_after -/
def spPresent (K : PySem.W.Frag) : Sp := fun vs H Q _ => ∃ (a : Addr) (ns : List Int), vs = [.ref a] ∧ SqL K H a (ns.map V.int) ∧ Hist ns ∧ ∀ H', Same H H' → Q (.int (runP ns).1) H'
theorem ok_present_after {f : Addr} {fd : FuncData} (F : Fun K "present_after" "present_after" s_present_after f fd) (T_check_history : Gc P w K mg base 6 "check_history" (spCheck K)) (T_replay : Gc P w K mg base 1 "replay" (spReplay K)) :
    FnG P w K mg base CX0 7 f fd ["history"] (spPresent K) := by
  refine okG F sc_present_after (fun vs H Q E h => ?_) (fun cdv A outer s H vs Q E hG hr h => ?_)
  · obtain ⟨a, ns, rfl, _⟩ := h
    rfl
  · obtain ⟨a, ns, rfl, hS, hh, q⟩ := h
    refine ⟨_, (pss_cons (ps_expr (pe_g T_check_history hG hr (by decide) (by rfl) (pa_cons (pv 0) pa_nil)))
        (pss_cons (ps_asg (pe_g T_replay hG hr (by decide) (by rfl) (pa_cons (pv 0) pa_nil)) (pg_tup rfl (pgs_cons (pg_name (i := 1) sc_present_after.nd rfl (Or.inl rfl)) (pgs_cons (pg_name (i := 2) sc_present_after.nd rfl (Or.inl rfl)) pgs_nil))))
        (pss_one (ps_ret (pe_ix ix_list (pv 1) (pe_un un_neg pe_int) (fun _ _ => rfl)))))), ?_⟩
    refine ⟨_, rfl, a, ns, rfl, hS, hh, fun H1 s1 => ?_⟩
    refine ⟨_, rfl, a, ns, rfl, s1.seq hS, hh, fun H2 t p d kvs s2 ht hp hd _ => ?_⟩
    refine ⟨t, _, rfl, .of ht, rfl, _, _, rfl, _, _, rfl, rfl, ?_⟩
    have e := presL_last ns ns.length
    rw [List.take_length] at e
    exact ⟨_, rfl, 1, rfl, p, _, -1, _, rfl, rfl, .of hp, e, q _ (s1.trans s2)⟩

end
def tupV : Ft → List V
  | .pres => [.str "present"]
  | .saved k => [.str "saved", .int k]
  | .lost i => [.str "lost", .int (i : Nat)]
theorem flat_ints (ns : List Int) : (ns.map V.int).all flatV = true := by
  rw [List.all_eq_true]
  intro v hv
  obtain ⟨n, _, rfl⟩ := List.mem_map.mp hv
  rfl
theorem eqV_int (a b : Int) : eqV (.int a) (.int b) = (a == b) := rfl
theorem inV_ints (x : Int) : ∀ ns : List Int, inV (.int x) (ns.map V.int) = decide (x ∈ ns)
  | [] => rfl
  | n :: r => by
    show (eqV (.int n) (.int x) || inV (.int x) (r.map V.int)) = _
    rw [inV_ints x r]
    show ((n == x) || decide (x ∈ r)) = _
    by_cases e : n = x
    · subst e
      simp
    · have e' : ¬ x = n := fun z => e z.symm
      simp [e, e']
def momL (ns : List Int) (v : Int) (i : Nat) : List Int := ((List.range i).filter fun j => decide (pr ns j = v)).map fun j : Nat => (j : Int)
theorem momL_succ (ns : List Int) (v : Int) (i : Nat) : momL ns v (i + 1) = momL ns v i ++ if pr ns i = v then [(i : Int)] else [] := by
  unfold momL
  rw [List.range_succ, List.filter_append, List.filter_cons, List.filter_nil]
  by_cases h : pr ns i = v <;> simp [h]
theorem momL_len (ns : List Int) (v : Int) (i : Nat) : (momL ns v i).length ≤ i := by
  unfold momL
  have h := List.length_filter_le (fun j => decide (pr ns j = v)) (List.range i)
  rw [List.length_range] at h
  rw [List.length_map]
  exact h
theorem momL_mem {ns : List Int} {v m : Int} {i : Nat} (h : m ∈ momL ns v i) : ∃ j : Nat, m = j ∧ j < i ∧ pr ns j = v := by
  obtain ⟨j, hj, rfl⟩ := List.mem_map.mp h
  obtain ⟨h1, h2⟩ := List.mem_filter.mp hj
  exact ⟨j, rfl, List.mem_range.mp h1, of_decide_eq_true h2⟩
theorem mem_momL {ns : List Int} {v : Int} {i j : Nat} (h : j < i) (e : pr ns j = v) : (j : Int) ∈ momL ns v i :=
  List.mem_map.mpr ⟨j, List.mem_filter.mpr ⟨List.mem_range.mpr h, decide_eq_true e⟩, rfl⟩
theorem presL_get {ns : List Int} {n i : Nat} {x : V} (h : (presL ns n)[i]? = some x) : x = .int (pr ns i) ∧ i ≤ n := by
  have hi := lt_get h
  rw [presL_len] at hi
  unfold presL at h
  rw [List.getElem?_map, List.getElem?_range (by omega)] at h
  cases h
  exact ⟨rfl, by omega⟩
section
variable {P : Program} {w : World} {K : PySem.W.Frag} {mg : Str → Option Value} {base : Heap}
/-! ### is_started -/
def spIsStarted (K : PySem.W.Frag) : Sp := fun vs H Q _ => ∃ (a : Addr) (ns : List Int) (v : Int), vs = [.ref a, .int v] ∧ SqL K H a (ns.map V.int) ∧ ∀ H', Same H H' → Q (.bl (decide (0 < v ∧ v ∈ ns))) H'
theorem ok_is_started {f : Addr} {fd : FuncData} (F : Fun K "is_started" "is_started" s_is_started f fd) (T_is_integer : Gc P w K mg base 1 "is_integer" spIsInt) : FnG P w K mg base CX0 2 f fd ["history", "value"] (spIsStarted K) := by
  refine okG F sc_is_started (fun vs H Q E h => ?_) (fun cdv A outer s H vs Q E hG hr h => ?_)
  · obtain ⟨a, ns, v, rfl, _⟩ := h
    rfl
  · obtain ⟨a, ns, v, rfl, hS, q⟩ := h
    refine ⟨_, (pss_one (ps_ret (pe_and (pe_g T_is_integer hG hr (by decide) (by rfl) (pa_cons (pv 1) pa_nil)) (pe_and (pe_cmpR op_gt (pv 1) pe_int (nomark _)) (pe_one (pe_cmpR op_in_seq (pv 1) (pv 0) (by rfl))))))), ?_⟩
    refine ⟨_, rfl, v, rfl, true, rfl, ?_⟩
    by_cases h0 : 0 < v
    · refine ⟨_, rfl, _, _, rfl, rfl, true, dT h0, ?_⟩
      refine ⟨_, rfl, _, rfl, a, _, rfl, .inl hS, rfl, flat_ints ns, ?_⟩
      rw [if_neg (fun z => nomatch z), inV_ints]
      have e : decide (v ∈ ns) = decide (0 < v ∧ v ∈ ns) := decide_eq_decide.mpr ⟨fun z => ⟨h0, z⟩, fun z => z.2⟩
      rw [e]
      exact q _ (.refl _)
    · refine ⟨_, rfl, _, _, rfl, rfl, false, dF h0, ?_⟩
      have z := q H (.refl _)
      rw [decide_eq_false (show ¬ (0 < v ∧ v ∈ ns) from fun z => h0 z.1)] at z
      exact z
/-! ### is_value_of -/
def spIsValue (K : PySem.W.Frag) : Sp := fun vs H Q _ => ∃ (a : Addr) (ns : List Int) (v : Int), vs = [.ref a, .int v] ∧ SqL K H a (ns.map V.int) ∧ (v = 0 ∨ 0 < v ∧ v ∈ ns) ∧ ∀ H', Same H H' → Q (.bl true) H'
theorem ok_is_value_of {f : Addr} {fd : FuncData} (F : Fun K "is_value_of" "is_value_of" s_is_value_of f fd) (T_is_started : Gc P w K mg base 2 "is_started" (spIsStarted K)) (T_is_integer : Gc P w K mg base 1 "is_integer" spIsInt) : FnG P w K mg base CX0 3 f fd ["history", "value"] (spIsValue K) := by
  refine okG F sc_is_value_of (fun vs H Q E h => ?_) (fun cdv A outer s H vs Q E hG hr h => ?_)
  · obtain ⟨a, ns, v, rfl, _⟩ := h
    rfl
  · obtain ⟨a, ns, v, rfl, hS, hv, q⟩ := h
    refine ⟨_, (pss_cons (ps_if (pt_val (pe_g T_is_started hG hr (by decide) (by rfl) (pa_cons (pv 0) (pa_cons (pv 1) pa_nil)))) (pss_one (ps_ret pe_bl)) pss_nil)
        (pss_one (ps_ret (pe_and (pe_g T_is_integer hG hr (by decide) (by rfl) (pa_cons (pv 1) pa_nil)) (pe_one (pe_cmpR op_eq (pv 1) pe_int (nomark _))))))), ?_⟩
    refine ⟨_, rfl, _, rfl, a, ns, v, rfl, hS, fun H1 s1 => ⟨_, rfl, ?_⟩⟩
    by_cases h0 : 0 < v ∧ v ∈ ns
    · rw [decide_eq_true h0]
      exact q _ s1
    · rw [decide_eq_false h0]
      refine ⟨_, rfl, v, rfl, true, rfl, ?_⟩
      have e := hv.resolve_right h0
      subst e
      exact ⟨_, rfl, rfl, q _ s1⟩
/-! ### fate_of -/
def spFate (K : PySem.W.Frag) : Sp := fun vs H Q _ => ∃ (a : Addr) (ns : List Int) (v : Int) (f : Ft), vs = [.ref a, .int v] ∧ SqL K H a (ns.map V.int) ∧ Hist ns ∧ fate ns ns.length v = some f ∧
  ∀ H' t, Same H H' → H' t = some (.tup (tupV f)) → H t = none → Q (.ref t) H'
theorem ok_fate_of {f : Addr} {fd : FuncData} (F : Fun K "fate_of" "fate_of" s_fate_of f fd) (B : NoB mg) (T_check_history : Gc P w K mg base 6 "check_history" (spCheck K)) (T_is_value_of : Gc P w K mg base 3 "is_value_of" (spIsValue K)) (T_replay : Gc P w K mg base 1 "replay" (spReplay K)) : FnG P w K mg base CX0 7 f fd ["history", "value"] (spFate K) := by
  refine okG F sc_fate_of (fun vs H Q E h => ?_) (fun cdv A outer s H vs Q E hG hr h => ?_)
  · obtain ⟨a, ns, v, ff, rfl, _⟩ := h
    rfl
  · obtain ⟨a, ns, v, ff, rfl, hS, hh, hf, q⟩ := h
    have FS := fs_all hh ns.length (Nat.le_refl _)
    have hk := (FS.key v).mp (by rw [hf]; exact fun z => nomatch z)
    have hv : v = 0 ∨ 0 < v ∧ v ∈ ns := by
      rcases List.mem_cons.mp hk with z | z
      · exact .inl z
      · rw [List.take_length] at z
        exact .inr ⟨of_decide_eq_true (List.mem_filter.mp z).2, (List.mem_filter.mp z).1⟩
    obtain ⟨m, m1, m2, m3, m4⟩ := fate_last (Nat.le_refl _) hf
    have hlen := hh.len
    refine ⟨_, (pss_cons (ps_expr (pe_g T_check_history hG hr (by decide) (by rfl) (pa_cons (pv 0) pa_nil)))
        (pss_cons (ps_if (pt_not (pt_val (pe_g T_is_value_of hG hr (by decide) (by rfl) (pa_cons (pv 0) (pa_cons (pv 1) pa_nil))))) (pss_one ps_never) pss_nil)
        (pss_cons (ps_asg (pe_g T_replay hG hr (by decide) (by rfl) (pa_cons (pv 0) pa_nil)) (pg_tup rfl (pgs_cons (pg_name (i := 2) sc_fate_of.nd rfl (Or.inl rfl)) (pgs_cons (pg_name (i := 3) sc_fate_of.nd rfl (Or.inl rfl)) pgs_nil))))
        (pss_cons (ps_set (i := 4) sc_fate_of.nd rfl (Or.inl rfl) (pe_callB (cr_max rfl) (by rfl) B.max (by decide +kernel) (pa_cons (pe_lc (own := [("moment", 6), ("present", 7)]) (g := _) (tt := _) rfl sc_fate_of.nd (pi_enum (by rfl) B.enumerate (pa_cons (pv 2) pa_nil)) (blkOk_by (own := [("moment", 6), ("present", 7)]) (N := N_fate_of) (sc := defScope s_fate_of) (by decide +kernel)) (fun _ _ _ _ _ => (k_tup (K := K) (n := 2) rfl rfl (pgs_cons (pg_name (i := 6) sc_fate_of.nd rfl (Or.inl rfl)) (pgs_cons (pg_name (i := 7) sc_fate_of.nd rfl (Or.inl rfl)) pgs_nil)))) (fun _ _ _ _ _ => (pts_one (pt_cmpR op_eq (pv 7) (pv 1) (nomark _)))) (fun _ _ _ _ _ => (pv 6))) pa_nil)))
        (pss_cons (ps_if (pt_cmpR op_eq (pv 4) (pe_callB call_len_seq (by rfl) B.len PySem.boot_len (pa_cons (pv 0) pa_nil)) (nomark _)) (pss_one (ps_ret (pe_tup (pa_cons pe_str pa_nil)))) pss_nil)
        (pss_cons (ps_set (i := 5) sc_fate_of.nd rfl (Or.inl rfl) (pe_ix ix_list (pv 0) (pv 4) (fun _ _ => rfl)))
        (pss_cons (ps_if (pt_cmpR op_gt (pv 5) pe_int (nomark _)) (pss_one (ps_ret (pe_tup (pa_cons pe_str (pa_cons (pv 5) pa_nil))))) pss_nil)
        (pss_one (ps_ret (pe_tup (pa_cons pe_str (pa_cons (pv 4) pa_nil)))))))))))), ?_⟩
    refine ⟨_, rfl, a, ns, rfl, hS, hh, fun H1 s1 => ?_⟩
    refine ⟨_, rfl, _, rfl, a, ns, v, rfl, s1.seq hS, hv, fun H2 s2 => ⟨true, rfl, ?_⟩⟩
    have s02 := s1.trans s2
    refine ⟨_, rfl, a, ns, rfl, s02.seq hS, hh, fun H3 t p d kvs s3 ht hp hd _ => ?_⟩
    have s03 := s02.trans s3
    refine ⟨t, _, rfl, .of ht, rfl, _, _, rfl, _, _, rfl, rfl, ?_⟩
    refine ⟨_, rfl, p, _, rfl, .of hp, fun D nD => lc_enum (xs := presL ns ns.length) (LcP H3 D fun i => (momL ns v i).map V.int) (.init nD rfl) (fun i H' _ pp => .of (pp.2.1 _ _ hp)) (fun i x T H' hx nT pp => ?_) (fun H4 p4 => ?_)⟩
    · obtain ⟨rfl, hi⟩ := presL_get hx
      have ms := momL_succ ns v i
      have ml := momL_len ns v i
      refine ⟨T, _, rfl, .of upd_same, rfl, _, _, rfl, _, _, rfl, rfl, rfl, ?_⟩
      by_cases h0 : pr ns i = v
      · refine ⟨_, rfl, _, rfl, rfl, true, dT (congrArg V.int h0), _, rfl, pp.put (same_new nT) ?_ (by rw [List.length_map]; omega)⟩
        show (momL ns v (i + 1)).map V.int = _
        rw [ms, if_pos h0, List.map_append]
        rfl
      · refine ⟨_, rfl, _, rfl, rfl, false, dF (vne h0), pp.skip (same_new nT) ?_⟩
        show (momL ns v (i + 1)).map V.int = _
        rw [ms, if_neg h0, List.append_nil]
    · have hD := p4.2.2
      rw [presL_len] at hD
      have hD : H4 D = some (.lst ((momL ns v (ns.length + 1)).map V.int)) := hD
      have s04 := s03.trans p4.2.1
      have hm := mem_momL (ns := ns) (v := v) (i := ns.length + 1) (j := m) (by omega) m2
      refine ⟨D, _, rfl, .of hD, List.length_pos_of_mem hm, fun m' hm' hle => ?_⟩
      have em : m' = (m : Int) := by
        have z1 := hle _ hm
        obtain ⟨j, rfl, hj, ej⟩ := momL_mem hm'
        rcases Nat.lt_or_ge m j with z | z
        · exact absurd ej (m3 j z (by omega))
        · omega
      subst em
      rcases m4 with ⟨rfl, rfl⟩ | ⟨e, z1, z2, z3⟩
      · refine ⟨_, rfl, _, rfl, a, _, rfl, .inl (s04.seq hS), rfl, true, dT (by rw [List.length_map]), ?_⟩
        exact ⟨by show 1 ≤ sizeLine; decide, fun t nt => q _ t (s04.trans (same_new nt)) upd_same (s04.free nt)⟩
      · refine ⟨_, rfl, _, rfl, a, _, rfl, .inl (s04.seq hS), rfl, false, dF (by rw [List.length_map]; exact vne (by omega)), ?_⟩
        refine ⟨_, rfl, _, rfl, a, _, _, .int e, rfl, rfl, s04.seq hS, atI_nat (by rw [List.getElem?_map, z2]; rfl), ?_⟩
        by_cases h0 : 0 < e
        · rw [if_pos h0] at z3
          subst z3
          refine ⟨_, rfl, _, _, rfl, rfl, true, dT h0, ?_⟩
          exact ⟨_, rfl, by show 2 ≤ sizeLine; decide, fun t nt => q _ t (s04.trans (same_new nt)) upd_same (s04.free nt)⟩
        · rw [if_neg h0] at z3
          subst z3
          refine ⟨_, rfl, _, _, rfl, rfl, false, dF h0, ?_⟩
          exact ⟨_, rfl, by show 2 ≤ sizeLine; decide, fun t nt => q _ t (s04.trans (same_new nt)) upd_same (s04.free nt)⟩
end
section
variable {P : Program} {w : World} {K : PySem.W.Frag} {mg : Str → Option Value} {base : Heap}
/-! ### _law_play -/
def fndL (ns : List Int) (n : Nat) : List V := (List.range n).map fun j => V.int (runP (ns.take (j + 1))).1
theorem fndL_succ (ns : List Int) (n : Nat) : fndL ns (n + 1) = fndL ns n ++ [.int (runP (ns.take (n + 1))).1] := by
  unfold fndL
  rw [List.range_succ, List.map_append]
  rfl
theorem fndL_len (ns : List Int) (n : Nat) : (fndL ns n).length = n := by
  unfold fndL
  rw [List.length_map, List.length_range]
theorem fndL_get {ns : List Int} {n i : Nat} (h : i < n) : (fndL ns n)[i]? = some (.int (runP (ns.take (i + 1))).1) := by
  unfold fndL
  rw [List.getElem?_map, List.getElem?_range h]
  rfl
theorem fndL_at0 {ns : List Int} {n i : Nat} (h : i ≤ n) : (V.int 0 :: fndL ns n)[i]? = some (.int (runP (ns.take i)).1) := by
  cases i with
  | zero => rfl
  | succ j => exact fndL_get (by omega)
def spPlay (K : PySem.W.Frag) : Sp := fun vs H Q _ => ∃ (a : Addr) (ns : List Int), vs = [.ref a] ∧ SqL K H a (ns.map V.int) ∧ Hist ns ∧
  ∀ H' t p d, Same H H' → H' t = some (.lst [.ref p, .ref d]) → H' p = some (.lst (fndL ns ns.length)) → Q (.ref t) H'
theorem ok_law_play {f : Addr} {fd : FuncData} (F : Fun K "_law_play" "_law_play" s_law_play f fd) : FnG P w K mg base CX0 1 f fd ["row"] (spPlay K) := by
  refine okG F sc_law_play (fun vs H Q E h => ?_) (fun cdv A outer s H vs Q E hG hr h => ?_)
  · obtain ⟨a, ns, rfl, _⟩ := h
    rfl
  · obtain ⟨a, ns, rfl, hS, hh, q⟩ := h
    have hu := hu_of hr
    refine ⟨_, (pss_cons (ps_par3 (i := 1) (j := 2) (l := 3) (by rfl) sc_law_play.nd rfl rfl rfl (by decide) (by decide) (by decide) rfl rfl rfl (pa_cons pe_dnewK (pa_cons pe_int (pa_cons (pe_lst pa_nil) pa_nil))) (by rfl))
        (pss_cons (ps_for PassesOwn.never rfl (pi_list (pv 0)) (pg_name (i := 4) sc_law_play.nd rfl (Or.inl rfl))
          (Evl.pss_cut (ps_if (pt_cmpR op_gt (pv 4) pe_int (nomark _)) (pss_cons (ps_dput hu (pv 1) (pv 4) (pv 2) rfl)
            (pss_one (ps_set (i := 2) sc_law_play.nd rfl (Or.inl rfl) (pv 4)))) (pss_one (ps_set (i := 2) sc_law_play.nd rfl (Or.inl rfl) (pe_dget hu (pv 1) (pe_op op_sub pe_int (pv 4)) (fun _ _ => rfl)))))
          (pss_one (ps_expr (pe_bm PySem.F.plainAttrs_list PySem.F.slot_list_append PySem.F.type_list_append mt_append (pv 3) (pa_cons (pv 2) pa_nil))))))
        (pss_one (ps_ret (pe_lst (pa_cons (pv 3) (pa_cons (pv 1) pa_nil))))))), ?_⟩
    refine fun d nd => ⟨Nat.zero_le _, fun p np => ⟨_, _, _, rfl, ?_⟩⟩
    have npd : d ≠ p := ne_of_none upd_same np
    have np0 : H p = none := by rw [upd_ne npd.symm] at np; exact np
    have s1 : Same H (upd (upd H d (.dK [])) p (.lst [])) := (same_new nd).trans (same_new np)
    refine ⟨_, rfl, a, rfl, ⟨_, s1.seq hS⟩, for_list (xs := ns.map V.int) (fun i σ H' => (∃ y, σ = [some (.ref a), some (.ref d), some (.int (runP (ns.take i)).1), some (.ref p), y]) ∧ Same H H' ∧ H' p = some (.lst (fndL ns i)) ∧
      ∃ kvs, H' d = some (.dK kvs) ∧ kvs.length ≤ i ∧ Saves kvs (ns.take i) (runP (ns.take i)).2) ⟨⟨_, rfl⟩, s1, upd_same, [], ?_, Nat.le_refl _, ?_⟩ (fun i σ H' _ h => h.2.1.seq hS) (fun i x σ H' hx h => ?_) (fun σ H' h => ?_)⟩
    · rw [upd_ne npd, upd_same]
    · intro k hk
      simp at hk
    · obtain ⟨n, rfl, hn⟩ := get_int hx
      obtain ⟨⟨y, rfl⟩, sm, hp, kvs, hd, hl, hv⟩ := h
      obtain ⟨h0, _⟩ := hh.rng n (mem_get hn)
      have hi : i < 200 := Nat.lt_of_lt_of_le (lt_get hn) hh.len
      refine ⟨fun σ'' H'' => σ'' = [some (.ref a), some (.ref d), some (.int (runP (ns.take (i + 1))).1), some (.ref p), some (.int n)] ∧ Same H H'' ∧ H'' p = some (.lst (fndL ns i)) ∧ ∃ kvs, H'' d = some (.dK kvs) ∧ kvs.length ≤ i + 1 ∧ Saves kvs (ns.take (i + 1)) (runP (ns.take (i + 1))).2, ?_, fun σ'' H'' hm => ?_⟩
      · by_cases hpos : 0 < n
        · have eP : runP (ns.take (i + 1)) = (n, putF1 (runP (ns.take i)).2 n (runP (ns.take i)).1) := by
            rw [runP_succ hn]
            unfold stepP
            rw [if_pos hpos]
          refine ⟨_, rfl, _, _, rfl, rfl, true, dT hpos, ?_⟩
          refine ⟨_, rfl, _, rfl, _, rfl, d, _, rfl, DPut.k (k := Sum.inl n) hd (zl (by omega)), _, rfl, ?_⟩
          refine ⟨by rw [eP]; rfl, Lp.Same.mut sm nd, by rw [upd_ne npd.symm]; exact hp, putK kvs (Sum.inl n) (.int (runP (ns.take i)).1), upd_same, Nat.le_trans (putK_len _ _ _) (Nat.succ_le_succ hl), ?_⟩
          rw [eP]
          exact hv.put hn
        · have hneg : n < 0 := by omega
          have hpre := hh.ord i n hn hneg
          have eP : runP (ns.take (i + 1)) = ((runP (ns.take i)).2 (-n), (runP (ns.take i)).2) := by
            rw [runP_succ hn]
            unfold stepP
            rw [if_neg hpos]
          refine ⟨_, rfl, _, _, rfl, rfl, false, dF hpos, ?_⟩
          refine ⟨_, rfl, _, rfl, _, _, rfl, rfl, d, _, rfl, by show DGet H' d (.int (0 - n)) _; rw [Int.zero_sub]; exact sv_get hv hd hpre (by omega), ?_⟩
          refine ⟨by rw [eP]; rfl, sm, hp, kvs, hd, by omega, ?_⟩
          rw [eP]
          exact hv.keep hn hneg
      · obtain ⟨rfl, sm2, hp2, kw, hd2, hl2, hv2⟩ := hm
        refine ⟨_, rfl, .inl ⟨rfl, _, .of hp2⟩, _, rfl, p, _, _, rfl, rfl, hp2, by rw [fndL_len]; exact zl (by omega), ⟨_, rfl⟩, Lp.Same.mut sm2 np0, by rw [upd_same, fndL_succ], kw, ?_, hl2, hv2⟩
        rw [upd_ne npd]
        exact hd2
    · obtain ⟨⟨y, rfl⟩, sm, hp, kvs, hd, hl, hv⟩ := h
      rw [List.length_map] at hp
      refine ⟨_, rfl, _, rfl, by show 2 ≤ sizeLine; decide, fun t nt => q _ t p d (sm.trans (same_new nt)) upd_same ?_⟩
      rw [upd_ne (ne_of_none hp nt)]
      exact hp
end
end L12
set_option Elab.async false
set_option linter.all false
set_option maxRecDepth 100000
namespace L12
open PySem PySem.Spec PyProof.Rows L2 Lp
/-! ### all orders of a list, the one that has an index, and the index of one -/
def stepG {α : Type} [DecidableEq α] (ts : List α) (F : List (List α)) : List (List α) := F.flatMap fun r => (ts.filter fun o => decide (o ∉ r)).map fun o => r ++ [o]
def allG {α : Type} [DecidableEq α] (ts : List α) : Nat → List (List α)
  | 0 => [[]]
  | n + 1 => stepG ts (allG ts n)
def nthG {α : Type} : Nat → List α → Nat → List α
  | 0, _, _ => []
  | n + 1, l, i => match l[i / facN n]? with
    | some x => x :: nthG n (l.eraseIdx (i / facN n)) (i % facN n)
    | none => []
def rankG {α : Type} [DecidableEq α] : List α → List α → Nat → Nat
  | _, [], r => r
  | rest, p :: ps, r => rankG (rest.erase p) ps (r * rest.length + rest.idxOf p)
theorem erase_map' {α β : Type} (f : α → β) : ∀ (l : List α) (k : Nat), (l.map f).eraseIdx k = (l.eraseIdx k).map f
  | [], _ => rfl
  | _ :: _, 0 => rfl
  | x :: l, k + 1 => by
    show f x :: (l.map f).eraseIdx k = f x :: (l.eraseIdx k).map f
    rw [erase_map' f l k]
theorem nthG_map {α β : Type} (f : α → β) : ∀ (n : Nat) (l : List α) (i : Nat), nthG n (l.map f) i = (nthG n l i).map f
  | 0, _, _ => rfl
  | n + 1, l, i => by
    unfold nthG
    rw [List.getElem?_map]
    cases l[i / facN n]? with
    | none => rfl
    | some x =>
      show f x :: nthG n ((l.map f).eraseIdx _) _ = f x :: (nthG n _ _).map f
      rw [erase_map', nthG_map f n]
section
variable {α β : Type} [DecidableEq α] [DecidableEq β] {f : α → β} {ts : List α}
theorem allG_sub : ∀ n : Nat, ∀ r ∈ allG ts n, ∀ x ∈ r, x ∈ ts
  | 0, r, hr, x, hx => by
    have : r = [] := by simpa [allG] using hr
    subst this
    exact absurd hx List.not_mem_nil
  | n + 1, r, hr, x, hx => by
    obtain ⟨r0, h0, h1⟩ := List.mem_flatMap.mp (show r ∈ stepG ts (allG ts n) from hr)
    obtain ⟨o, ho, rfl⟩ := List.mem_map.mp h1
    rcases List.mem_append.mp hx with hx | hx
    · exact allG_sub n r0 h0 x hx
    · rw [List.mem_singleton] at hx
      subst hx
      exact (List.mem_filter.mp ho).1
theorem mem_map_inj (hf : ∀ x ∈ ts, ∀ y ∈ ts, f x = f y → x = y) {r : List α} (hr : ∀ x ∈ r, x ∈ ts) {o : α} (ho : o ∈ ts) : f o ∈ r.map f ↔ o ∈ r := by
  rw [List.mem_map]
  constructor
  · rintro ⟨y, hy, e⟩
    rw [← hf y (hr y hy) o ho e]
    exact hy
  · exact fun h => ⟨o, h, rfl⟩
theorem filter_map' {γ δ : Type} (g : γ → δ) (p : δ → Bool) (q : γ → Bool) : ∀ l : List γ, (∀ x ∈ l, p (g x) = q x) → (l.map g).filter p = (l.filter q).map g
  | [], _ => rfl
  | x :: l, h => by
    rw [List.map_cons, List.filter_cons, List.filter_cons, h x List.mem_cons_self, filter_map' g p q l fun y hy => h y (List.mem_cons_of_mem _ hy)]
    split <;> rfl
theorem allG_map (hf : ∀ x ∈ ts, ∀ y ∈ ts, f x = f y → x = y) : ∀ n : Nat, allG (ts.map f) n = (allG ts n).map (List.map f)
  | 0 => rfl
  | n + 1 => by
    show stepG (ts.map f) (allG (ts.map f) n) = (stepG ts (allG ts n)).map (List.map f)
    rw [allG_map hf n]
    have sub := allG_sub (ts := ts) n
    generalize allG ts n = F at sub
    unfold stepG
    induction F with
    | nil => rfl
    | cons r F ih =>
      rw [List.map_cons, List.flatMap_cons, List.flatMap_cons, List.map_append, ih fun r' hr' => sub r' (List.mem_cons_of_mem _ hr')]
      congr 1
      rw [filter_map' f (fun o => decide (o ∉ r.map f)) (fun o => decide (o ∉ r)) ts fun x hx => decide_eq_decide.mpr (not_congr (mem_map_inj hf (sub r List.mem_cons_self) hx)), List.map_map, List.map_map]
      refine List.map_congr_left fun o _ => ?_
      show r.map f ++ [f o] = (r ++ [o]).map f
      rw [List.map_append]
      rfl
end
/-! all that is asked at up to five of them -/
def ixR (n : Nat) : List Nat := List.range n
theorem five_all : ∀ n : Fin 6, (allG (ixR n.val) n.val).length = facN n.val ∧ ((allG (ixR n.val) n.val).all fun r => decide (r.length = n.val) && ((ixR n.val).all fun x => r.contains x)) = true := by decide +kernel
theorem five_last : ∀ n : Fin 5, ∀ k : Fin 5, k.val ≤ n.val → ((allG (ixR (n.val + 1)) (n.val + 1)).filter fun r => decide (r.getLast? = some k.val)) = (List.range (facN n.val)).map fun i => nthG n.val ((ixR (n.val + 1)).filter fun x => decide (x ≠ k.val)) i ++ [k.val] := by decide +kernel
theorem five_rank : ∀ n : Fin 5, ∀ k : Fin 5, k.val ≤ n.val → ((List.range (facN n.val)).all fun i => decide (rankG ((ixR (n.val + 1)).filter fun x => decide (x ≠ k.val)) (nthG n.val ((ixR (n.val + 1)).filter fun x => decide (x ≠ k.val)) i) 0 = i) && (decide ((nthG n.val ((ixR (n.val + 1)).filter fun x => decide (x ≠ k.val)) i).length = n.val) && ((ixR (n.val + 1)).filter fun x => decide (x ≠ k.val)).all fun x => (nthG n.val ((ixR (n.val + 1)).filter fun x => decide (x ≠ k.val)) i).contains x)) = true := by decide +kernel
end L12
set_option Elab.async false
set_option linter.all false
set_option maxRecDepth 100000
namespace L12
open PySem PySem.Spec PyProof.Rows L2 Lp
/-! ### the same of the ascending list of the running patches -/
theorem sorted_uniq {xs ys : List Int} (p : xs.Perm ys) (h1 : xs.Pairwise (· ≤ ·)) (h2 : ys.Pairwise (· ≤ ·)) : xs = ys :=
  List.Perm.eq_of_pairwise (le := (· ≤ ·)) (fun a b _ _ h1 h2 => Int.le_antisymm h1 h2) h1 h2 p
section
variable {α β : Type} [DecidableEq α] [DecidableEq β] {f : α → β} {ts : List α}
theorem erase_inj (hf : ∀ x ∈ ts, ∀ y ∈ ts, f x = f y → x = y) {p : α} (hp : p ∈ ts) : ∀ l : List α, (∀ x ∈ l, x ∈ ts) → (l.map f).erase (f p) = (l.erase p).map f
  | [], _ => rfl
  | x :: l, h => by
    have ih := erase_inj hf hp l fun y hy => h y (List.mem_cons_of_mem _ hy)
    by_cases e : x = p
    · subst e
      rw [List.map_cons, List.erase_cons_head, List.erase_cons_head]
    · have e2 : ¬ f x = f p := fun z => e (hf x (h x List.mem_cons_self) p hp z)
      rw [List.map_cons, List.erase_cons_tail (by simpa using e2), List.erase_cons_tail (by simpa using e), List.map_cons, ih]
theorem idx_inj (hf : ∀ x ∈ ts, ∀ y ∈ ts, f x = f y → x = y) {p : α} (hp : p ∈ ts) : ∀ l : List α, (∀ x ∈ l, x ∈ ts) → (l.map f).idxOf (f p) = l.idxOf p
  | [], _ => rfl
  | x :: l, h => by
    have ih := idx_inj hf hp l fun y hy => h y (List.mem_cons_of_mem _ hy)
    by_cases e : x = p
    · subst e
      rw [List.map_cons, List.idxOf_cons, List.idxOf_cons, beq_self_eq_true, beq_self_eq_true]
      rfl
    · have e2 : ¬ f x = f p := fun z => e (hf x (h x List.mem_cons_self) p hp z)
      have b1 : (x == p) = false := by simpa using e
      have b2 : (f x == f p) = false := by simpa using e2
      rw [List.map_cons, List.idxOf_cons, List.idxOf_cons, b1, b2, ih]
theorem rankG_map (hf : ∀ x ∈ ts, ∀ y ∈ ts, f x = f y → x = y) : ∀ (ps rest : List α) (r : Nat), (∀ x ∈ rest, x ∈ ts) → (∀ x ∈ ps, x ∈ ts) → rankG (rest.map f) (ps.map f) r = rankG rest ps r
  | [], _, _, _, _ => rfl
  | p :: ps, rest, r, h, g => by
    have hp := g p List.mem_cons_self
    show rankG ((rest.map f).erase (f p)) (ps.map f) (r * (rest.map f).length + (rest.map f).idxOf (f p)) = rankG (rest.erase p) ps (r * rest.length + rest.idxOf p)
    rw [erase_inj hf hp rest h, idx_inj hf hp rest h, List.length_map]
    exact rankG_map hf ps (rest.erase p) _ (fun x hx => h x (List.mem_of_mem_erase hx)) (fun x hx => g x (List.mem_cons_of_mem _ hx))
end
section
variable {R : List Int}
def fR (R : List Int) : Nat → Int := fun i => R.getD i 0
theorem fR_list (R : List Int) : R = (ixR R.length).map (fR R) := by
  refine List.ext_getElem? fun i => ?_
  unfold ixR
  rw [List.getElem?_map]
  by_cases h : i < R.length
  · rw [List.getElem?_range h, List.getElem?_eq_getElem h]
    show _ = some (R.getD i 0)
    rw [List.getD_eq_getElem?_getD, List.getElem?_eq_getElem h]
    rfl
  · rw [List.getElem?_eq_none (by omega), List.getElem?_eq_none (by rw [List.length_range]; omega)]
    rfl
theorem fR_get {i : Nat} (h : i < R.length) : fR R i = R[i] := by
  show R.getD i 0 = _
  rw [List.getD_eq_getElem?_getD, List.getElem?_eq_getElem h]
  rfl
theorem fR_inj (nd : R.Nodup) : ∀ x ∈ ixR R.length, ∀ y ∈ ixR R.length, fR R x = fR R y → x = y := fun x hx y hy e => by
  have hx := List.mem_range.mp hx
  have hy := List.mem_range.mp hy
  rw [fR_get hx, fR_get hy] at e
  exact nd_ix nd (List.getElem?_eq_getElem hx) (by rw [e]; exact List.getElem?_eq_getElem hy)
def allR (R : List Int) : List (List Int) := allG R R.length
theorem allR_eq (nd : R.Nodup) : allR R = (allG (ixR R.length) R.length).map (List.map (fR R)) := by
  have z := allG_map (fR_inj nd) R.length
  rw [← fR_list R] at z
  exact z
theorem allR_len (nd : R.Nodup) (h : R.length ≤ 5) : (allR R).length = facN R.length := by
  rw [allR_eq nd, List.length_map]
  exact (five_all ⟨R.length, by omega⟩).1
theorem perm_of {α : Type} [DecidableEq α] {l m : List α} (nd : m.Nodup) (hl : l.length = m.length) (h : ∀ x ∈ m, x ∈ l) : l.Perm m := by
  have key : ∀ (m l : List α), m.Nodup → l.length = m.length → (∀ x ∈ m, x ∈ l) → l.Perm m := by
    intro m
    induction m with
    | nil => intro l _ hl _; rw [List.length_eq_zero_iff.mp hl]
    | cons x m ih =>
      intro l nd hl h
      obtain ⟨n1, n2⟩ := List.nodup_cons.mp nd
      have hx := h x List.mem_cons_self
      refine (List.perm_cons_erase hx).trans (List.Perm.cons x (ih (l.erase x) n2 ?_ fun y hy => ?_))
      · rw [List.length_erase_of_mem hx, hl]
        rfl
      · exact (List.mem_erase_of_ne fun e => n1 (by rw [← e]; exact hy)).mpr (h y (List.mem_cons_of_mem _ hy))
  exact key m l nd hl h
theorem allR_perm (nd : R.Nodup) (h : R.length ≤ 5) : ∀ r ∈ allR R, r.Perm R := fun r hr => by
  rw [allR_eq nd] at hr
  obtain ⟨s, hs, rfl⟩ := List.mem_map.mp hr
  have z := List.all_eq_true.mp (five_all ⟨R.length, by omega⟩).2 s hs
  rw [Bool.and_eq_true, decide_eq_true_eq, List.all_eq_true] at z
  have p : s.Perm (ixR R.length) := perm_of List.nodup_range (by rw [z.1]; unfold ixR; rw [List.length_range]) fun x hx => by have := z.2 x hx; simpa using this
  have z2 := p.map (fR R)
  rw [← fR_list R] at z2
  exact z2
/-- those that end with one of them -/
def outP (R : List Int) (p : Int) : List Int := R.filter fun x => decide (x ≠ p)
theorem outP_ix (nd : R.Nodup) {k : Nat} (hk : k < R.length) : outP R (fR R k) = ((ixR R.length).filter fun x => decide (x ≠ k)).map (fR R) := by
  have z := filter_map' (fR R) (fun x => decide (x ≠ fR R k)) (fun x => decide (x ≠ k)) (ixR R.length) fun x hx => decide_eq_decide.mpr (not_congr ⟨fun e => fR_inj nd x hx k (List.mem_range.mpr hk) e, fun e => by rw [e]⟩)
  rw [← fR_list R] at z
  exact z
theorem allR_last (nd : R.Nodup) {m : Nat} (hn : R.length = m + 1) (h : R.length ≤ 5) {p : Int} (hp : p ∈ R) : ((allR R).filter fun r => decide (r.getLast? = some p)) = (List.range (facN m)).map fun i => nthG m (outP R p) i ++ [p] := by
  obtain ⟨k, hk, rfl⟩ := List.mem_iff_getElem.mp hp
  rw [← fR_get hk, allR_eq nd]
  have sub := allG_sub (ts := ixR R.length) R.length
  rw [filter_map' (List.map (fR R)) (fun r => decide (r.getLast? = some (fR R k))) (fun r => decide (r.getLast? = some k)) _ fun r hr => decide_eq_decide.mpr ?_]
  · have z := five_last ⟨m, by omega⟩ ⟨k, by omega⟩ (by show k ≤ m; omega)
    have z : ((allG (ixR (m + 1)) (m + 1)).filter fun r => decide (r.getLast? = some k)) = (List.range (facN m)).map fun i => nthG m ((ixR (m + 1)).filter fun x => decide (x ≠ k)) i ++ [k] := z
    rw [hn, z, List.map_map]
    refine List.map_congr_left fun i _ => ?_
    show (nthG m _ i ++ [k]).map (fR R) = _
    rw [List.map_append, outP_ix nd hk, nthG_map, hn]
    rfl
  · rw [List.getLast?_map]
    constructor
    · intro e
      cases g : r.getLast? with
      | none => rw [g] at e; cases e
      | some y =>
        rw [g] at e
        have e : fR R y = fR R k := Option.some.inj e
        rw [fR_inj nd y (sub r hr y (List.mem_of_getLast? g)) k (List.mem_range.mpr hk) e]
    · intro e
      rw [e]
      rfl
theorem nth_perm (nd : R.Nodup) {m : Nat} (hn : R.length = m + 1) (h : R.length ≤ 5) {p : Int} (hp : p ∈ R) {i : Nat} (hi : i < facN m) : (nthG m (outP R p) i).Perm (outP R p) ∧ rankG (outP R p) (nthG m (outP R p) i) 0 = i ∧ (nthG m (outP R p) i).length = m := by
  obtain ⟨k, hk, rfl⟩ := List.mem_iff_getElem.mp hp
  rw [← fR_get hk, outP_ix nd hk, nthG_map]
  have z := five_rank ⟨m, by omega⟩ ⟨k, by omega⟩ (by show k ≤ m; omega)
  have z := List.all_eq_true.mp z i (List.mem_range.mpr hi)
  rw [Bool.and_eq_true, Bool.and_eq_true, decide_eq_true_eq, decide_eq_true_eq, List.all_eq_true] at z
  obtain ⟨z1, z2, z3⟩ := z
  have z1 : rankG ((ixR (m + 1)).filter fun x => decide (x ≠ k)) (nthG m ((ixR (m + 1)).filter fun x => decide (x ≠ k)) i) 0 = i := z1
  have z2 : (nthG m ((ixR (m + 1)).filter fun x => decide (x ≠ k)) i).length = m := z2
  rw [hn]
  have fl : ((ixR (m + 1)).filter fun x => decide (x ≠ k)).length = m := by
    have : ∀ mm : Fin 5, ∀ kk : Fin 5, kk.val ≤ mm.val → ((ixR (mm.val + 1)).filter fun x => decide (x ≠ kk.val)).length = mm.val := by decide +kernel
    exact this ⟨m, by omega⟩ ⟨k, by omega⟩ (by show k ≤ m; omega)
  have fnd : ((ixR (m + 1)).filter fun x => decide (x ≠ k)).Nodup := List.nodup_range.sublist List.filter_sublist
  have pm : (nthG m ((ixR (m + 1)).filter fun x => decide (x ≠ k)) i).Perm ((ixR (m + 1)).filter fun x => decide (x ≠ k)) := perm_of fnd (by rw [z2, fl]) fun x hx => by have := z3 x hx; simpa using this
  refine ⟨pm.map _, ?_, by rw [List.length_map]; exact z2⟩
  have hm : ∀ x ∈ (ixR (m + 1)).filter fun x => decide (x ≠ k), x ∈ ixR R.length := fun x hx => by rw [hn]; exact (List.mem_filter.mp hx).1
  rw [rankG_map (fR_inj nd) _ _ 0 hm fun x hx => hm x (pm.mem_iff.mp hx)]
  exact z1
end
end L12
set_option Elab.async false
set_option linter.all false
set_option maxRecDepth 100000
namespace L12
open PySem PySem.Spec PyProof.Rows L2 Lp
/-! ### orders: the math -/
theorem act_run (ns : List Int) : actL ns = runL ns := by
  unfold actL runL stL
  rw [List.filter_filter]
  refine List.filter_congr fun e _ => ?_
  rw [← Bool.decide_and]
  refine decide_eq_decide.mpr ?_
  rw [Int.zero_sub]
  exact ⟨fun h => ⟨h.2, h.1⟩, fun h => ⟨h.2, h.1⟩⟩
theorem mem_run {ns : List Int} {k : Int} : k ∈ runL ns ↔ k ∈ ns ∧ 0 < k ∧ -k ∉ ns := by
  unfold runL stL
  rw [List.mem_filter, List.mem_filter, decide_eq_true_eq, decide_eq_true_eq, and_assoc]
theorem neg_map (O : List Int) : (O.map fun k => -k) = O.map fun k => 0 - k := List.map_congr_left fun k _ => (Int.zero_sub k).symm
theorem closedH {ns O : List Int} (hh : Hist ns) (pm : O.Perm (runL ns)) (hl : ns.length + O.length ≤ 200) : Hist (ns ++ O.map fun k => -k) := by
  rw [neg_map]
  exact (closed_hist hh (by rw [act_run]; exact pm) (by rw [List.length_append, List.length_map]; exact hl)).1
theorem run_app (ns : List Int) (k : Int) : runP (ns ++ [k]) = stepP (runP ns) k := by unfold runP; rw [List.foldl_append]; rfl
/-- what is present behind the stops -/
def leftP (ns O : List Int) : Int := (runP (ns ++ O.map fun k => -k)).1
theorem left_stops (ns : List Int) : ∀ (n : Nat) (O : List Int), O.length = n → (∀ k ∈ O, 0 < k) → (runP (ns ++ O.map fun k => -k)).2 = (runP ns).2 ∧ leftP ns O = (match O.getLast? with | some k => (runP ns).2 k | none => (runP ns).1)
  | 0, O, h, _ => by
    have : O = [] := List.length_eq_zero_iff.mp h
    subst this
    unfold leftP
    rw [List.map_nil, List.append_nil]
    exact ⟨rfl, rfl⟩
  | n + 1, O, h, pos => by
    have ne : O ≠ [] := fun z => by rw [z] at h; cases h
    obtain ⟨l, k, rfl⟩ : ∃ l k, O = l ++ [k] := ⟨O.dropLast, O.getLast ne, (List.dropLast_concat_getLast ne).symm⟩
    have hl : l.length = n := by rw [List.length_append] at h; exact Nat.succ.inj h
    have ih := (left_stops ns n l hl fun x hx => pos x (List.mem_append_left _ hx)).1
    have k0 := pos k (List.mem_append_right _ (List.mem_singleton.mpr rfl))
    unfold leftP
    rw [List.map_append, ← List.append_assoc]
    show (runP (ns ++ l.map _ ++ [-k])).2 = _ ∧ (runP (ns ++ l.map _ ++ [-k])).1 = _
    rw [run_app, List.getLast?_concat]
    unfold stepP
    rw [if_neg (by omega), ih, Int.neg_neg]
    exact ⟨rfl, rfl⟩
theorem left_last {ns O : List Int} {k : Int} (pos : ∀ k ∈ O, 0 < k) (h : O.getLast? = some k) : leftP ns O = (runP ns).2 k := by
  rw [(left_stops ns _ O rfl pos).2, h]
theorem left_nil (ns : List Int) : leftP ns [] = (runP ns).1 := (left_stops ns 0 [] rfl fun _ h => absurd h List.not_mem_nil).2
/-- how many leave a value -/
def cntL (ns : List Int) : Ft → Nat
  | .saved _ => facN ((runL ns).length - 1)
  | .pres => if runL ns = [] then 1 else 0
  | .lost _ => 0
/-- the one with an index -/
def nthL (R : List Int) (i : Nat) : Ft → List Int
  | .saved e => nthG (R.length - 1) (outP R e) i ++ [e]
  | _ => []
section
variable {P : Program} {w : World} {K : PySem.W.Frag} {mg : Str → Option Value} {base : Heap}
/-! ### is_order, check_order, count_orders -/
def spOrder (K : PySem.W.Frag) : Sp := fun vs H Q _ => ∃ (a b : Addr) (ns O : List Int), vs = [.ref a, .ref b] ∧ SqL K H a (ns.map V.int) ∧ SqL K H b (O.map V.int) ∧ Hist ns ∧ O.Perm (runL ns) ∧ ∀ H', Same H H' → Q (.bl true) H'
theorem runL_len {ns : List Int} (hh : Hist ns) : (runL ns).length ≤ 100 := by
  have nd : (runL ns).Nodup := (stL_nd hh).sublist List.filter_sublist
  have z := nodup_len (m := upL 100) nd fun k hk => by
    obtain ⟨h1, h2, _⟩ := mem_run.mp hk
    have := hh.rng k h1
    exact List.mem_map.mpr ⟨(k - 1).toNat, List.mem_range.mpr (by omega), by omega⟩
  rwa [upL_len] at z
theorem ok_is_order {f : Addr} {fd : FuncData} (F : Fun K "is_order" "is_order" s_is_order f fd) (B : NoB mg) {t1 : Tok} (T_g_LAST_PATCH : mg "LAST_PATCH" = some (.int 100 t1)) (T_running_after : Gc P w K mg base 7 "running_after" (spRunA K)) (T_are_integers : Gc P w K mg base 3 "are_integers" (spAreInts K)) : FnG P w K mg base CX0 8 f fd ["history", "value"] (spOrder K) := by
  refine okG F sc_is_order (fun vs H Q E h => ?_) (fun cdv A outer s H vs Q E hG hr h => ?_)
  · obtain ⟨a, b, ns, O, rfl, _⟩ := h
    rfl
  · obtain ⟨a, b, ns, O, rfl, hS, hO, hh, pm, q⟩ := h
    have hu64 := hr.units
    refine ⟨_, (pss_cons (ps_set (i := 2) sc_is_order.nd rfl (Or.inl rfl) (pe_g T_running_after hG hr (by decide) (by rfl) (pa_cons (pv 0) pa_nil)))
        (pss_one (ps_ret (pe_and (pe_g T_are_integers hG hr (by decide) (by rfl) (pa_cons (pv 1) (pa_cons pe_int (pa_cons (pe_glob (v := .int 100) (by rfl) T_g_LAST_PATCH ⟨_, rfl⟩) (pa_cons (pe_glob (v := .int 100) (by rfl) T_g_LAST_PATCH ⟨_, rfl⟩) pa_nil))))) (pe_one (pe_cmpR (op_eqD hu64) (pe_callB cr_sortedI (by rfl) B.sorted (by decide +kernel) (pa_cons (pv 1) pa_nil)) (pv 2) (nomark _))))))), ?_⟩
    refine ⟨_, rfl, a, ns, rfl, hS, hh, fun H1 p R s1 np hp pR pw => ?_⟩
    have lO := pm.length_eq
    have lr := runL_len hh
    have rO : ∀ n ∈ O, 1 ≤ n ∧ n ≤ 100 := fun n hn => by
      obtain ⟨h1, h2, _⟩ := mem_run.mp (pm.mem_iff.mp hn)
      have := hh.rng n h1
      omega
    refine ⟨_, rfl, b, O, 1, 100, 100, rfl, s1.seq hO, by omega, by omega, rO, fun H2 s2 => ?_⟩
    refine ⟨_, rfl, iteT ?_⟩
    have s12 := s1.trans s2
    refine ⟨_, rfl, b, O, rfl, s12.seq hO, fun ns' z pz wz nz => ?_⟩
    have s3 := same_new (o := .lst (ns'.map V.int)) nz
    have e : ns' = R := sorted_uniq (pz.trans (pm.trans pR.symm)) wz pw
    subst e
    refine ⟨_, rfl, dI ns', dI ns', dp_ints (.of upd_same), dp_ints (.of (s3 _ _ (s2 _ _ hp))), shaped_ints _, shaped_ints _, ?_⟩
    have ee : PyData.eqv (dI ns') (dI ns') = true := by rw [eqv_ints]; exact decide_eq_true rfl
    rw [ee]
    exact q _ (s12.trans s3)
def spCheckO (K : PySem.W.Frag) : Sp := fun vs H Q _ => ∃ (a b : Addr) (ns O : List Int), vs = [.ref a, .ref b] ∧ SqL K H a (ns.map V.int) ∧ SqL K H b (O.map V.int) ∧ Hist ns ∧ O.Perm (runL ns) ∧ ∀ H', Same H H' → Q .non H'
theorem ok_check_order {f : Addr} {fd : FuncData} (F : Fun K "check_order" "check_order" s_check_order f fd) (T_is_order : Gc P w K mg base 8 "is_order" (spOrder K)) : FnG P w K mg base CX0 9 f fd ["history", "order"] (spCheckO K) := by
  refine okG F sc_check_order (fun vs H Q E h => ?_) (fun cdv A outer s H vs Q E hG hr h => ?_)
  · obtain ⟨a, b, ns, O, rfl, _⟩ := h
    rfl
  · obtain ⟨a, b, ns, O, rfl, hS, hO, hh, pm, q⟩ := h
    refine ⟨_, (pss_one (ps_if (pt_not (pt_val (pe_g T_is_order hG hr (by decide) (by rfl) (pa_cons (pv 0) (pa_cons (pv 1) pa_nil))))) (pss_one ps_never) pss_nil)), ?_⟩
    exact ⟨_, rfl, _, rfl, a, b, ns, O, rfl, hS, hO, hh, pm, fun H1 s1 => ⟨true, rfl, q _ s1⟩⟩
def spCntO (K : PySem.W.Frag) : Sp := fun vs H Q _ => ∃ (a : Addr) (ns : List Int), vs = [.ref a] ∧ SqL K H a (ns.map V.int) ∧ Hist ns ∧ ∀ H', Same H H' → Q (.int (facN (runL ns).length : Nat)) H'
theorem ok_count_orders {f : Addr} {fd : FuncData} (F : Fun K "count_orders" "count_orders" s_count_orders f fd) (B : NoB mg) (T_m_factorial : mg "factorial" = some (.builtin "math.factorial")) (T_running_after : Gc P w K mg base 7 "running_after" (spRunA K)) : FnG P w K mg base CX0 8 f fd ["history"] (spCntO K) := by
  refine okG F sc_count_orders (fun vs H Q E h => ?_) (fun cdv A outer s H vs Q E hG hr h => ?_)
  · obtain ⟨a, ns, rfl, _⟩ := h
    rfl
  · obtain ⟨a, ns, rfl, hS, hh, q⟩ := h
    refine ⟨_, (pss_one (ps_ret (pe_callBfun cr_fac (by rfl) T_m_factorial (pa_cons (pe_callB call_len_seq (by rfl) B.len PySem.boot_len (pa_cons (pe_g T_running_after hG hr (by decide) (by rfl) (pa_cons (pv 0) pa_nil)) pa_nil)) pa_nil)))), ?_⟩
    refine ⟨_, rfl, a, ns, rfl, hS, hh, fun H1 p R s1 np hp pR pw => ?_⟩
    refine ⟨p, _, rfl, .inl (.of hp), R.length, ?_, ?_, ?_⟩
    · rw [List.length_map]
    · rw [pR.length_eq]
      have := runL_len hh
      omega
    · rw [pR.length_eq]
      exact q _ s1
/-! ### left_by -/
def spLeft (K : PySem.W.Frag) : Sp := fun vs H Q _ => ∃ (a b : Addr) (ns O : List Int), vs = [.ref a, .ref b] ∧ H a = some (.lst (ns.map V.int)) ∧ SqL K H b (O.map V.int) ∧ Hist ns ∧ O.Perm (runL ns) ∧ ns.length + O.length ≤ 200 ∧ ∀ H', Same H H' → Q (.int (leftP ns O)) H'
theorem ok_left_by {f : Addr} {fd : FuncData} (F : Fun K "left_by" "left_by" s_left_by f fd) (T_check_order : Gc P w K mg base 9 "check_order" (spCheckO K)) (T_present_after : Gc P w K mg base 7 "present_after" (spPresent K)) : FnG P w K mg base CX0 10 f fd ["history", "order"] (spLeft K) := by
  refine okG F sc_left_by (fun vs H Q E h => ?_) (fun cdv A outer s H vs Q E hG hr h => ?_)
  · obtain ⟨a, b, ns, O, rfl, _⟩ := h
    rfl
  · obtain ⟨a, b, ns, O, rfl, ha, hO, hh, pm, hl, q⟩ := h
    refine ⟨_, (pss_cons (ps_expr (pe_g T_check_order hG hr (by decide) (by rfl) (pa_cons (pv 0) (pa_cons (pv 1) pa_nil))))
        (pss_one (ps_ret (pe_g T_present_after hG hr (by decide) (by rfl) (pa_cons (pe_op op_cat (pv 0) (pe_lc (own := [("patch", 2)]) (g := gName 2) (tt := tYes) rfl sc_left_by.nd (pi_list (pv 1)) (blkOk_by (own := [("patch", 2)]) (N := N_left_by) (sc := defScope s_left_by) (by decide +kernel)) (fun _ _ _ _ _ => (pg_name (i := 2) sc_left_by.nd rfl (Or.inl rfl))) (fun _ _ _ _ _ => pts_nil) (fun _ _ _ _ _ => (pe_un un_neg (pv 2))))) pa_nil))))), ?_⟩
    refine ⟨_, rfl, _, rfl, a, b, ns, O, rfl, .of ha, hO, hh, pm, fun H1 s1 => ?_⟩
    have ha1 := s1 _ _ ha
    have hO1 := s1.seq hO
    refine ⟨_, rfl, _, rfl, b, rfl, ⟨_, hO1⟩, fun D nD => lc_list (xs := O.map V.int) (LcP H1 D fun i => ((O.take i).map fun k => -k).map V.int) (.init nD rfl) (fun i H' _ p => p.2.1.seq hO1) (fun i x H' hx p => ?_) (fun H2 p => ?_)⟩
    · obtain ⟨k, rfl, hk⟩ := get_int hx
      refine ⟨rfl, ?_⟩
      refine ⟨_, rfl, k, rfl, p.put (.refl _) ?_ (by rw [List.length_map, List.length_map, List.length_take]; omega)⟩
      rw [take_get hk, List.map_append, List.map_append]
      rfl
    · have hD := p.2.2
      have s2 := p.2.1
      rw [List.length_map] at hD
      have hD : H2 D = some (.lst (((O.take O.length).map fun k => -k).map V.int)) := hD
      rw [List.take_length] at hD
      refine ⟨a, D, _, _, rfl, rfl, s2 _ _ ha1, hD, ?_, fun z nz => ?_⟩
      · rw [List.length_map, List.length_map, List.length_map]
        exact Nat.le_trans hl (by decide)
      · have s3 := same_new (o := .lst (ns.map V.int ++ (O.map fun k => -k).map V.int)) nz
        refine ⟨z, ns ++ O.map fun k => -k, rfl, .of ?_, closedH hh pm hl, fun H4 s4 => q _ (((s1.trans s2).trans s3).trans s4)⟩
        rw [upd_same, List.map_append]
/-! ### count_leaving -/
def spCntL (K : PySem.W.Frag) : Sp := fun vs H Q _ => ∃ (a : Addr) (ns : List Int) (v : Int) (f : Ft), vs = [.ref a, .int v] ∧ SqL K H a (ns.map V.int) ∧ Hist ns ∧ fate ns ns.length v = some f ∧ ∀ H', Same H H' → Q (.int (cntL ns f : Nat)) H'
theorem ok_count_leaving {f : Addr} {fd : FuncData} (F : Fun K "count_leaving" "count_leaving" s_count_leaving f fd) (B : NoB mg) (T_m_factorial : mg "factorial" = some (.builtin "math.factorial")) (T_fate_of : Gc P w K mg base 7 "fate_of" (spFate K)) (T_running_after : Gc P w K mg base 7 "running_after" (spRunA K)) : FnG P w K mg base CX0 8 f fd ["history", "value"] (spCntL K) := by
  refine okG F sc_count_leaving (fun vs H Q E h => ?_) (fun cdv A outer s H vs Q E hG hr h => ?_)
  · obtain ⟨a, ns, v, ff, rfl, _⟩ := h
    rfl
  · obtain ⟨a, ns, v, ff, rfl, hS, hh, hf, q⟩ := h
    have hu64 := hr.units
    refine ⟨_, (pss_cons (ps_par (i := 2) (j := 3) (by rfl) sc_count_leaving.nd rfl rfl (by decide) rfl rfl (pa_cons (pe_g T_fate_of hG hr (by decide) (by rfl) (pa_cons (pv 0) (pa_cons (pv 1) pa_nil))) (pa_cons (pe_g T_running_after hG hr (by decide) (by rfl) (pa_cons (pv 0) pa_nil)) pa_nil)) (by rfl))
        (pss_cons (ps_if (pt_cmpR op_eq (pe_ix ix_tup (pv 2) pe_int (fun _ _ => rfl)) pe_str (nomark _)) (pss_one (ps_ret (pe_callBfun cr_fac (by rfl) T_m_factorial (pa_cons (pe_op op_sub (pe_callB call_len_seq (by rfl) B.len PySem.boot_len (pa_cons (pv 3) pa_nil)) pe_int) pa_nil)))) pss_nil)
        (pss_one (ps_ret (pe_ifExp (PW.pt (pw_and (pt_cmpR op_eq (pe_ix ix_tup (pv 2) pe_int (fun _ _ => rfl)) pe_str (nomark _)) (pw_and1 (pt_cmpR (op_eqD hu64) (pv 3) (pe_lst pa_nil) (nomark _))))) pe_int pe_int))))), ?_⟩
    refine ⟨_, rfl, _, rfl, a, ns, v, ff, rfl, hS, hh, hf, fun H1 t s1 ht nt => ?_⟩
    refine ⟨_, rfl, a, ns, rfl, s1.seq hS, hh, fun H2 p R s2 np hp pR pw => ⟨_, _, rfl, ?_⟩⟩
    have s12 := s1.trans s2
    have ht2 := s2 _ _ ht
    have lR := pR.length_eq
    have lr := runL_len hh
    cases ff with
    | saved e =>
      obtain ⟨e0, e1, e2, _⟩ := fate_saved hh hf
      have er : e ∈ runL ns := mem_run.mpr ⟨e1, e0, e2⟩
      have pos := List.length_pos_of_mem er
      refine ⟨_, rfl, t, _, 0, _, rfl, rfl, .of ht2, rfl, rfl, true, rfl, ?_⟩
      refine ⟨_, rfl, p, _, rfl, .inl (.of hp), _, _, rfl, rfl, R.length - 1, ?_, by omega, ?_⟩
      · rw [List.length_map]
        have : (((R.length - 1 : Nat)) : Int) = (R.length : Int) - 1 := by omega
        rw [this]
      · rw [lR]
        exact q _ s12
    | pres =>
      refine ⟨_, rfl, t, _, 0, _, rfl, rfl, .of ht2, rfl, rfl, false, rfl, ?_⟩
      refine ⟨_, rfl, t, _, 0, _, rfl, rfl, .of ht2, rfl, rfl, true, rfl, ?_⟩
      refine ⟨_, rfl, Nat.zero_le _, fun z nz => ?_⟩
      have s3 := same_new (o := .lst []) nz
      have d1 : Dp K (upd H2 z (.lst [])) (.ref p) (dI R) := dp_ints (.of (s3 _ _ hp))
      have d2 : Dp K (upd H2 z (.lst [])) (.ref z) (dI []) := dp_ints (ns := []) (.of upd_same)
      by_cases hR : R = []
      · have hr0 : runL ns = [] := List.length_eq_zero_iff.mp (by rw [← lR, hR]; rfl)
        refine ⟨dI R, dI [], d1, d2, shaped_ints _, shaped_ints _, true, eqvT hR, ?_⟩
        have z := q _ (s12.trans s3)
        have e : cntL ns .pres = 1 := if_pos hr0
        rw [e] at z
        exact z
      · have hr0 : runL ns ≠ [] := fun z => hR (List.length_eq_zero_iff.mp (by rw [lR, z]; rfl))
        refine ⟨dI R, dI [], d1, d2, shaped_ints _, shaped_ints _, false, eqvF hR, ?_⟩
        have z := q _ (s12.trans s3)
        have e : cntL ns .pres = 0 := if_neg hr0
        rw [e] at z
        exact z
    | lost i =>
      refine ⟨_, rfl, t, _, 0, _, rfl, rfl, .of ht2, rfl, rfl, false, rfl, ?_⟩
      refine ⟨_, rfl, t, _, 0, _, rfl, rfl, .of ht2, rfl, rfl, false, rfl, ?_⟩
      exact q _ s12
end
end L12
set_option Elab.async false
set_option linter.all false
set_option maxRecDepth 100000
namespace L12
open PySem PySem.Spec PyProof.Rows L2 Lp
section
variable {P : Program} {w : World} {K : PySem.W.Frag} {mg : Str → Option Value} {base : Heap}
/-! ### check_number -/
def spCheckN : Sp := fun vs H Q _ => ∃ i lo hi : Int, vs = [.int i, .int lo, .int hi] ∧ lo ≤ i ∧ i ≤ hi ∧ Q .non H
theorem ok_check_number {f : Addr} {fd : FuncData} (F : Fun K "check_number" "check_number" s_check_number f fd) (T_is_integer_within : Gc P w K mg base 2 "is_integer_within" spWithin) : FnG P w K mg base CX0 3 f fd ["value", "least", "greatest"] spCheckN := by
  refine okG F sc_check_number (fun vs H Q E h => ?_) (fun cdv A outer s H vs Q E hG hr h => ?_)
  · obtain ⟨i, lo, hi, rfl, _⟩ := h
    rfl
  · obtain ⟨i, lo, hi, rfl, h1, h2, q⟩ := h
    refine ⟨_, (pss_one (ps_if (pt_not (pt_val (pe_g T_is_integer_within hG hr (by decide) (by rfl) (pa_cons (pv 0) (pa_cons (pv 1) (pa_cons (pv 2) pa_nil)))))) (pss_one ps_never) pss_nil)), ?_⟩
    exact ⟨_, rfl, _, rfl, _, rfl, i, lo, hi, rfl, h1, h2, _, rfl, iteF q⟩
theorem natAbs_lt {n k : Nat} (h : n < 2 ^ k) : ((n : Nat) : Int).natAbs < 2 ^ k := h
end
theorem six_nat {n j : Nat} (h : j < n) : seqIndex? (j : Int) n = some j := by
  unfold seqIndex?
  rw [if_neg (show ¬ ((j : Int) < 0) by omega), if_pos (by rw [decide_eq_true (show (0 : Int) ≤ j by omega), decide_eq_true (show (j : Int) < (n : Int) by omega)]; rfl)]
  rfl
theorem divP_ok {i j : Int} (h0 : 0 < j) (h1 : j ≤ 1000) : CDivP i j := by
  refine ⟨h0, ?_⟩
  have h : ¬ ((if (j == 0) = true then 0 else j.natAbs.log2 / 30 + 1) > 300) := by
    split
    · omega
    · have : j.natAbs.log2 < 10 := PySem.Flt.log2_lt_of (by decide) (show j.natAbs < 2 ^ 10 by omega)
      omega
  show (decide ((if (j == 0) = true then 0 else j.natAbs.log2 / 30 + 1) > 300) && _) = false
  rw [decide_eq_false h]
  rfl
section
variable {P : Program} {w : World} {K : PySem.W.Frag} {mg : Str → Option Value} {base : Heap}
def spCI : Sp := fun vs H Q _ => ∃ i c : Int, vs = [.int i, .int c] ∧ 0 ≤ i ∧ i < c ∧ Q .non H
theorem ok_check_index {f : Addr} {fd : FuncData} (F : Fun K "check_index" "check_index" s_check_index f fd) (T_check_number : Gc P w K mg base 3 "check_number" spCheckN) : FnG P w K mg base CX0 4 f fd ["index", "count"] spCI := by
  refine okG F sc_check_index (fun vs H Q E h => ?_) (fun cdv A outer s H vs Q E hG hr h => ?_)
  · obtain ⟨i, c, rfl, _⟩ := h
    rfl
  · obtain ⟨i, c, rfl, h0, h1, q⟩ := h
    refine ⟨_, (pss_one (ps_expr (pe_g T_check_number hG hr (by decide) (by rfl) (pa_cons (pv 0) (pa_cons pe_int (pa_cons (pe_op op_sub (pv 1) pe_int) pa_nil)))))), ?_⟩
    exact ⟨_, rfl, _, rfl, _, _, rfl, rfl, i, 0, c - 1, rfl, h0, by omega, q⟩
/-! ### _nth_permutation -/
theorem nthG_len {α : Type} : ∀ (n : Nat) (l : List α) (i : Nat), l.length = n → i < facN n → (nthG n l i).length = n
  | 0, _, _, _, _ => rfl
  | n + 1, l, i, hl, hi => by
    have f0 := facN_pos' n
    have hp : i / facN n < l.length := by
      rw [hl]
      exact Nat.div_lt_of_lt_mul hi
    unfold nthG
    rw [List.getElem?_eq_getElem hp]
    show (nthG n _ _).length + 1 = n + 1
    rw [nthG_len n _ _ (by rw [List.length_eraseIdx, if_pos hp, hl]; rfl) (Nat.mod_lt _ f0)]
def spNthP (K : PySem.W.Frag) : Sp := fun vs H Q _ => ∃ (a : Addr) (l : List Int) (i : Nat), vs = [.ref a, .int (i : Int)] ∧ SqL K H a (l.map V.int) ∧ l.length ≤ 5 ∧ i < facN l.length ∧ ∀ H' p, Same H H' → H p = none → H' p = some (.lst ((nthG l.length l i).map V.int)) → Q (.ref p) H'
theorem ok_nth_permutation {f : Addr} {fd : FuncData} (F : Fun K "_nth_permutation" "_nth_permutation" s_nth_permutation f fd) (B : NoB mg) (T_z_divmod : mg "divmod" = none) (T_m_factorial : mg "factorial" = some (.builtin "math.factorial")) : FnG P w K mg base CX0 1 f fd ["patches", "index"] (spNthP K) := by
  refine okG F sc_nth_permutation (fun vs H Q E h => ?_) (fun cdv A outer s H vs Q E hG hr h => ?_)
  · obtain ⟨a, l, i, rfl, _⟩ := h
    rfl
  · obtain ⟨a, l0, i0, rfl, hS, hl0, hi0, q⟩ := h
    have hu64 := hr.units
    refine ⟨_, (pss_cons (ps_par (i := 2) (j := 3) (by rfl) sc_nth_permutation.nd rfl rfl (by decide) rfl rfl (pa_cons (pe_callTy call_list_of (by rfl) B.list (by decide +kernel) (pa_cons (pv 0) pa_nil)) (pa_cons (pe_lst pa_nil) pa_nil)) (by rfl))
        (pss_cons (ps_while PassesOwn.never (pt_cmpR (op_neD hu64) (pv 2) (pe_lst pa_nil) (nomark _)) (pss_cons (ps_asg (pe_callB call_divmodW (by rfl) T_z_divmod (by decide +kernel) (pa_cons (pv 1) (pa_cons (pe_callBfun cr_fac (by rfl) T_m_factorial (pa_cons (pe_op op_sub (pe_callB call_len_seq (by rfl) B.len PySem.boot_len (pa_cons (pv 2) pa_nil)) pe_int) pa_nil)) pa_nil))) (pg_tup rfl (pgs_cons (pg_name (i := 4) sc_nth_permutation.nd rfl (Or.inl rfl)) (pgs_cons (pg_name (i := 1) sc_nth_permutation.nd rfl (Or.inl rfl)) pgs_nil))))
          (pss_one (ps_expr (pe_bm PySem.F.plainAttrs_list PySem.F.slot_list_append PySem.F.type_list_append mt_append (pv 3) (pa_cons (pe_bm PySem.F.plainAttrs_list PySem.F.slot_list_pop PySem.F.type_list_pop mt_popAt (pv 2) (pa_cons (pv 4) pa_nil)) pa_nil))))))
        (pss_one (ps_ret (pv 3))))), ?_⟩
    refine ⟨_, rfl, a, _, rfl, .inl hS, fun r nr => ⟨Nat.zero_le _, fun p np => ⟨_, _, rfl, ?_⟩⟩⟩
    have rp : r ≠ p := ne_of_none upd_same np
    have np0 : H p = none := by rw [upd_ne rp.symm] at np; exact np
    have s1 : Same H (upd (upd H r (.lst (l0.map V.int))) p (.lst [])) := (same_new nr).trans (same_new np)
    refine ⟨fun m σ H' => ∃ (l : List Int) (i : Nat) (ys : List Int) (y : Option V), m = l.length ∧ σ = [some (.ref a), some (.int (i : Int)), some (.ref r), some (.ref p), y] ∧ Same H H' ∧ H' r = some (.lst (l.map V.int)) ∧ H' p = some (.lst (ys.map V.int)) ∧ l.length ≤ 5 ∧ i < facN l.length ∧ ys ++ nthG l.length l i = nthG l0.length l0 i0 ∧ ys.length ≤ 5, ⟨_, l0, i0, [], _, rfl, rfl, s1, ?_, upd_same, hl0, hi0, rfl, by decide⟩, ?_⟩
    · rw [upd_ne rp, upd_same]
    · rintro m σ H' ⟨l, i, ys, y, rfl, rfl, sm, hr', hp', hl, hi, e, hy⟩
      refine ⟨_, rfl, Nat.zero_le _, fun z nz => ?_⟩
      have sz := same_new (o := .lst []) nz
      have d1 : Dp K (upd H' z (.lst [])) (.ref r) (dI l) := dp_ints (.of (sz _ _ hr'))
      have d2 : Dp K (upd H' z (.lst [])) (.ref z) (dI []) := dp_ints (ns := []) (.of upd_same)
      by_cases h0 : l = []
      · refine ⟨dI l, dI [], d1, d2, shaped_ints _, shaped_ints _, false, neqF h0, ?_⟩
        subst h0
        refine ⟨_, rfl, q _ p (sm.trans sz) np0 ?_⟩
        rw [sz _ _ hp', ← e]
        show _ = some (HO.lst ((ys ++ []).map V.int))
        rw [List.append_nil]
      · refine ⟨dI l, dI [], d1, d2, shaped_ints _, shaped_ints _, true, neqT h0, ?_⟩
        obtain ⟨n, hn⟩ : ∃ n, l.length = n + 1 := ⟨l.length - 1, by have := List.length_pos_iff.mpr h0; omega⟩
        rw [hn] at hi e
        have f0 := facN_pos' n
        have hpl : i / facN n < l.length := by
          rw [hn]
          exact Nat.div_lt_of_lt_mul hi
        have hgx : l[i / facN n]? = some l[i / facN n] := List.getElem?_eq_getElem hpl
        have le5 : facN n ≤ 24 := by
          have : ∀ k : Fin 5, facN k.val ≤ 24 := by decide +kernel
          exact this ⟨n, by omega⟩
        have ile : i < 120 := by
          have : facN (n + 1) = facN n * (n + 1) := rfl
          rw [this] at hi
          have : facN n * (n + 1) ≤ 24 * 5 := Nat.mul_le_mul le5 (by omega)
          omega
        refine ⟨fun σ' H2 => ∃ (l : List Int) (i : Nat) (ys : List Int) (y : Option V), n = l.length ∧ σ' = [some (.ref a), some (.int (i : Int)), some (.ref r), some (.ref p), y] ∧ Same H H2 ∧ H2 r = some (.lst (l.map V.int)) ∧ H2 p = some (.lst (ys.map V.int)) ∧ l.length ≤ 5 ∧ i < facN l.length ∧ ys ++ nthG l.length l i = nthG l0.length l0 i0 ∧ ys.length ≤ 5, fun σ' H2 ⟨l', i', ys', y', en, rest⟩ => ⟨n, by omega, l', i', ys', y', en, rest⟩, ?_⟩
        have hr2 := sz _ _ hr'
        have hp2 := sz _ _ hp'
        have s2 := sm.trans sz
        refine ⟨_, rfl, _, rfl, r, _, rfl, .inl (.of hr2), _, _, rfl, rfl, n, ?_, by omega, ?_⟩
        · rw [List.length_map, hn]
          have : ((n + 1 : Nat) : Int) - 1 = (n : Int) := by omega
          exact congrArg (fun z => [V.int z]) this
        have fpos : (0 : Int) < ((facN n : Nat) : Int) := by omega
        refine ⟨(i : Int), _, rfl, divP_ok fpos (by omega), fun t nt => ?_⟩
        have st := same_new (o := .tup [V.int ((i : Int) / ((facN n : Nat) : Int)), .int ((i : Int) % ((facN n : Nat) : Int))]) nt
        refine ⟨t, _, rfl, .of upd_same, rfl, _, _, rfl, _, _, rfl, rfl, ?_⟩
        have hr3 := st _ _ hr2
        have hp3 := st _ _ hp2
        have s3 := s2.trans st
        generalize upd (upd H' z (.lst [])) t (.tup [V.int ((i : Int) / ((facN n : Nat) : Int)), .int ((i : Int) % ((facN n : Nat) : Int))]) = H3 at hr3 hp3 s3 ⊢
        have ed : (i : Int) / ((facN n : Nat) : Int) = ((i / facN n : Nat) : Int) := (Int.natCast_ediv i (facN n)).symm
        have em : (i : Int) % ((facN n : Nat) : Int) = ((i % facN n : Nat) : Int) := (Int.natCast_emod i (facN n)).symm
        rw [ed, em]
        have hgV : (l.map V.int)[i / facN n]? = some (.int l[i / facN n]) := by rw [List.getElem?_map, hgx]; rfl
        have pl63 : -2 ^ 63 ≤ ((i / facN n : Nat) : Int) ∧ ((i / facN n : Nat) : Int) < 2 ^ 63 := by
          generalize i / facN n = z at hpl
          omega
        refine ⟨_, rfl, .inl ⟨rfl, _, .of hp3⟩, _, rfl, .inl ⟨rfl, _, .of hr3⟩, _, rfl, r, _, _, i / facN n, _, rfl, rfl, hr3, pl63.1, pl63.2, six_nat (by rw [List.length_map]; exact hpl), hgV, ?_⟩
        rw [erase_map']
        have hp4 : (upd H3 r (.lst ((l.eraseIdx (i / facN n)).map V.int))) p = some (.lst (ys.map V.int)) := by rw [upd_ne rp.symm]; exact hp3
        have hyl : ys.length + (n + 1) ≤ 5 := by
          have z := congrArg List.length e
          rw [List.length_append, nthG_len (n + 1) l i hn hi, nthG_len _ l0 i0 rfl hi0] at z
          omega
        refine ⟨p, _, _, rfl, rfl, hp4, by rw [List.length_map]; exact Nat.lt_of_le_of_lt (show ys.length ≤ 5 by omega) (by decide), ?_⟩
        have hel : (l.eraseIdx (i / facN n)).length = n := by rw [List.length_eraseIdx, if_pos hpl, hn]; rfl
        refine ⟨l.eraseIdx (i / facN n), i % facN n, ys ++ [l[i / facN n]], _, hel.symm, rfl, Lp.Same.mut (Lp.Same.mut s3 nr) np0, ?_, ?_, by omega, by rw [hel]; exact Nat.mod_lt _ f0, ?_, by rw [List.length_append]; show ys.length + 1 ≤ 5; omega⟩
        · rw [upd_ne rp, upd_same]
        · rw [upd_same, List.map_append]
          rfl
        · rw [hel, ← e]
          have : nthG (n + 1) l i = l[i / facN n] :: nthG n (l.eraseIdx (i / facN n)) (i % facN n) := by
            rw [nthG, hgx]
          rw [this, List.append_assoc]
          rfl
/-! ### nth_leaving -/
def spNthL (K : PySem.W.Frag) : Sp := fun vs H Q _ => ∃ (a : Addr) (ns R : List Int) (v : Int) (f : Ft) (i : Nat), vs = [.ref a, .int v, .int (i : Int)] ∧ SqL K H a (ns.map V.int) ∧ Hist ns ∧ fate ns ns.length v = some f ∧ R.Perm (runL ns) ∧ R.Pairwise (· ≤ ·) ∧ R.length ≤ 5 ∧ i < cntL ns f ∧ ∀ H' p, Same H H' → H p = none → H' p = some (.lst ((nthL R i f).map V.int)) → Q (.ref p) H'
theorem ok_nth_leaving {f : Addr} {fd : FuncData} (F : Fun K "nth_leaving" "nth_leaving" s_nth_leaving f fd) (B : NoB mg) (T_check_index : Gc P w K mg base 4 "check_index" spCI) (T_count_leaving : Gc P w K mg base 8 "count_leaving" (spCntL K)) (T_fate_of : Gc P w K mg base 7 "fate_of" (spFate K)) (T_running_after : Gc P w K mg base 7 "running_after" (spRunA K)) (T_nth_permutation : Gc P w K mg base 1 "_nth_permutation" (spNthP K)) : FnG P w K mg base CX0 9 f fd ["history", "value", "index"] (spNthL K) := by
  refine okG F sc_nth_leaving (fun vs H Q E h => ?_) (fun cdv A outer s H vs Q E hG hr h => ?_)
  · obtain ⟨a, ns, R, v, ff, i, rfl, _⟩ := h
    rfl
  · obtain ⟨a, ns, R, v, ff, i, rfl, hS, hh, hf, pR, wR, lR, hi, q⟩ := h
    refine ⟨_, (pss_cons (ps_expr (pe_g T_check_index hG hr (by decide) (by rfl) (pa_cons (pv 2) (pa_cons (pe_g T_count_leaving hG hr (by decide) (by rfl) (pa_cons (pv 0) (pa_cons (pv 1) pa_nil))) pa_nil))))
        (pss_cons (ps_par (i := 3) (j := 4) (by rfl) sc_nth_leaving.nd rfl rfl (by decide) rfl rfl (pa_cons (pe_g T_fate_of hG hr (by decide) (by rfl) (pa_cons (pv 0) (pa_cons (pv 1) pa_nil))) (pa_cons (pe_g T_running_after hG hr (by decide) (by rfl) (pa_cons (pv 0) pa_nil)) pa_nil)) (by rfl))
        (pss_cons (ps_if (pt_cmpR op_eq (pe_ix ix_tup (pv 3) pe_int (fun _ _ => rfl)) pe_str (nomark _)) (pss_one (ps_ret (pe_lst pa_nil))) pss_nil)
        (pss_cons (ps_set (i := 5) sc_nth_leaving.nd rfl (Or.inr rfl) (pe_ix ix_tup (pv 3) pe_int (fun _ _ => rfl)))
        (pss_one (ps_ret (pe_op op_cat (pe_g T_nth_permutation hG hr (by decide) (by rfl) (pa_cons (pe_lc (own := [("patch", 6)]) (g := gName 6) (tt := _) rfl sc_nth_leaving.nd (pi_list (pv 4)) (blkOk_by (own := [("patch", 6)]) (N := N_nth_leaving) (sc := defScope s_nth_leaving) (by decide +kernel)) (fun _ _ _ _ _ => (pg_name (i := 6) sc_nth_leaving.nd rfl (Or.inl rfl))) (fun _ _ _ _ _ => (pts_one (pt_cmpR op_ne (pv 6) (pv 5) (nomark _)))) (fun _ _ _ _ _ => (pv 6))) (pa_cons (pv 2) pa_nil))) (pe_lst (pa_cons (pv 5) pa_nil))))))))), ?_⟩
    refine ⟨_, rfl, _, rfl, _, rfl, a, ns, v, ff, rfl, hS, hh, hf, fun H1 s1 => ⟨(i : Int), _, rfl, by omega, by omega, ?_⟩⟩
    refine ⟨_, rfl, _, rfl, a, ns, v, ff, rfl, s1.seq hS, hh, hf, fun H2 t s2 ht nt => ?_⟩
    have s12 := s1.trans s2
    refine ⟨_, rfl, a, ns, rfl, s12.seq hS, hh, fun H3 p R' s3 np hp pR' pw => ⟨_, _, rfl, ?_⟩⟩
    have eR : R' = R := sorted_uniq (pR'.trans pR.symm) pw wR
    subst eR
    have s13 := s12.trans s3
    have ht3 := s3 _ _ ht
    cases ff with
    | saved e =>
      obtain ⟨e0, e1, e2, _⟩ := fate_saved hh hf
      have er : e ∈ R' := pR.mem_iff.mpr (mem_run.mpr ⟨e1, e0, e2⟩)
      refine ⟨_, rfl, t, _, 0, _, rfl, rfl, .of ht3, rfl, rfl, false, rfl, ?_⟩
      refine ⟨_, rfl, t, _, 1, _, rfl, rfl, .of ht3, rfl, ?_⟩
      refine ⟨_, rfl, p, rfl, ⟨_, .of hp⟩, fun D nD => ?_⟩
      refine lc_list (xs := R'.map V.int) (LcP H3 D fun j => ((R'.take j).filter fun x => decide (x ≠ e)).map V.int) (.init nD rfl) (fun j H' _ p' => .of (p'.2.1 _ _ hp)) (fun j x H' hx p' => ?_) (fun H4 p4 => ?_)
      · obtain ⟨k, rfl, hk⟩ := get_int hx
        have il := lt_get hk
        refine ⟨rfl, ?_⟩
        by_cases c : k = e
        · exact ⟨_, rfl, _, rfl, rfl, false, nF (congrArg V.int c), p'.skip (Same.refl _) (fl_skip hk (decide_eq_false (fun z => z c)) V.int)⟩
        · exact ⟨_, rfl, _, rfl, rfl, true, nT (vne c), _, rfl, p'.put (Same.refl _) (fl_put hk (decide_eq_true c) V.int) (fl_len (by omega))⟩
      · have hD : H4 D = some (.lst ((outP R' e).map V.int)) := fl_end (List.length_map ..) p4.2.2
        have s4 := p4.2.1
        have nd : R'.Nodup := pR.nodup_iff.mpr ((stL_nd hh).sublist List.filter_sublist)
        have lo : (outP R' e).length + 1 = R'.length := by
          have z := (List.perm_cons_erase er).length_eq
          have z2 : outP R' e = R'.erase e := by
            unfold outP
            rw [nd.erase_eq_filter]
            refine List.filter_congr fun x _ => ?_
            by_cases h : x = e <;> simp [h]
          rw [z2]
          exact z.symm
        have lr : R'.length = (runL ns).length := pR.length_eq
        have hc : i < facN (outP R' e).length := by
          have : cntL ns (.saved e) = facN ((runL ns).length - 1) := rfl
          rw [this] at hi
          rwa [show (outP R' e).length = (runL ns).length - 1 by omega]
        refine ⟨_, rfl, D, outP R' e, i, rfl, .of hD, by omega, hc, fun H5 p5 s5 n5 h5 => ?_⟩
        refine ⟨_, rfl, by show 1 ≤ sizeLine; decide, fun z nz => ⟨p5, z, _, _, rfl, rfl, same_new nz _ _ h5, upd_same, ?_, fun z2 nz2 => ?_⟩⟩
        · rw [List.length_map, nthG_len _ _ _ rfl hc]
          exact Nat.le_trans (show (outP R' e).length + 1 ≤ 6 by omega) (by decide)
        · have sz := (same_new (o := .lst [V.int e]) nz).trans (same_new (o := .lst ((nthG (outP R' e).length (outP R' e) i).map V.int ++ [V.int e])) nz2)
          refine q _ z2 (((s13.trans s4).trans s5).trans sz) (s13.free (s4.free (s5.free ((same_new nz).free nz2)))) ?_
          rw [upd_same]
          unfold nthL
          rw [show R'.length - 1 = (outP R' e).length by omega, List.map_append]
          rfl
    | pres =>
      refine ⟨_, rfl, t, _, 0, _, rfl, rfl, .of ht3, rfl, rfl, true, rfl, ?_⟩
      exact ⟨Nat.zero_le _, fun z nz => q _ z (s13.trans (same_new nz)) (s13.free nz) upd_same⟩
    | lost j => exact absurd hi (Nat.not_lt_zero _)
/-! ### _permutation_rank, leaving_rank -/
def spPRank (K : PySem.W.Frag) : Sp := fun vs H Q _ => ∃ (a : Addr) (L S : List Int), vs = [.ref a] ∧ SqL K H a (L.map V.int) ∧ L.Nodup ∧ L.length ≤ 5 ∧ S.Perm L ∧ S.Pairwise (· ≤ ·) ∧ ∀ H', Same H H' → Q (.int (rankG S L 0 : Nat)) H'
theorem idx_first {l : List Int} {x : Int} (h : x ∈ l) : l[l.idxOf x]? = some x ∧ ∀ m, m < l.idxOf x → l[m]? ≠ some x := by
  induction l with
  | nil => exact absurd h List.not_mem_nil
  | cons y l ih =>
    by_cases e : y = x
    · subst e
      rw [List.idxOf_cons, beq_self_eq_true]
      exact ⟨rfl, fun m hm => absurd hm (Nat.not_lt_zero _)⟩
    · have b : (y == x) = false := by simpa using e
      rw [List.idxOf_cons, b]
      have hx : x ∈ l := (List.mem_cons.mp h).resolve_left fun z => e z.symm
      obtain ⟨i1, i2⟩ := ih hx
      refine ⟨i1, fun m hm => ?_⟩
      cases m with
      | zero => exact fun z => e (Option.some.inj z)
      | succ m => exact i2 m (Nat.lt_of_succ_lt_succ hm)
theorem erase_ix {l : List Int} {x : Int} (h : x ∈ l) : l.eraseIdx (l.idxOf x) = l.erase x := by
  induction l with
  | nil => exact absurd h List.not_mem_nil
  | cons y l ih =>
    by_cases e : y = x
    · subst e
      rw [List.idxOf_cons, beq_self_eq_true, List.erase_cons_head]
      rfl
    · have b : (y == x) = false := by simpa using e
      have hx : x ∈ l := (List.mem_cons.mp h).resolve_left fun z => e z.symm
      rw [List.idxOf_cons, b, List.erase_cons_tail (by simpa using e)]
      show y :: l.eraseIdx (l.idxOf x) = _
      rw [ih hx]
theorem ok_permutation_rank {f : Addr} {fd : FuncData} (F : Fun K "_permutation_rank" "_permutation_rank" s_permutation_rank f fd) (B : NoB mg) : FnG P w K mg base CX0 1 f fd ["permutation"] (spPRank K) := by
  refine okG F sc_permutation_rank (fun vs H Q E h => ?_) (fun cdv A outer s H vs Q E hG hr h => ?_)
  · obtain ⟨a, L, S, rfl, _⟩ := h
    rfl
  · obtain ⟨a, L, S, rfl, hS, nd, hl, pS, wS, q⟩ := h
    refine ⟨_, (pss_cons (ps_par (i := 1) (j := 2) (by rfl) sc_permutation_rank.nd rfl rfl (by decide) rfl rfl (pa_cons (pe_callB cr_sortedI (by rfl) B.sorted (by decide +kernel) (pa_cons (pv 0) pa_nil)) (pa_cons pe_int pa_nil)) (by rfl))
        (pss_cons (ps_for PassesOwn.never rfl (pi_list (pv 0)) (pg_name (i := 3) sc_permutation_rank.nd rfl (Or.inl rfl))
          (pss_cons (ps_set (i := 2) sc_permutation_rank.nd rfl (Or.inl rfl) (pe_op op_add (pe_op op_mulW (pv 2) (pe_callB call_len_seq (by rfl) B.len PySem.boot_len (pa_cons (pv 1) pa_nil))) (pe_bm PySem.F.plainAttrs_list PySem.F.slot_list_index PySem.F.type_list_index mt_index (pv 1) (pa_cons (pv 3) pa_nil))))
          (pss_one (ps_expr (pe_bm PySem.F.plainAttrs_list PySem.F.slot_list_remove PySem.F.type_list_remove mt_remove (pv 1) (pa_cons (pv 3) pa_nil))))))
        (pss_one (ps_ret (pv 2))))), ?_⟩
    refine ⟨_, rfl, a, L, rfl, hS, fun S' r pz wz nr => ⟨_, _, rfl, ?_⟩⟩
    have eS : S' = S := sorted_uniq (pz.trans pS.symm) wz wS
    subst eS
    have s1 := same_new (o := .lst (S'.map V.int)) nr
    refine ⟨_, rfl, a, rfl, ⟨_, s1.seq hS⟩, for_list (xs := L.map V.int) (fun j σ H' => ∃ (rest : List Int) (n : Nat) (y : Option V), σ = [some (.ref a), some (.ref r), some (.int (n : Int)), y] ∧ Same H H' ∧ H' r = some (.lst (rest.map V.int)) ∧ rest.Perm (L.drop j) ∧ rankG rest (L.drop j) n = rankG S' L 0 ∧ n < 6 ^ j) ⟨S', 0, _, rfl, s1, upd_same, pz, rfl, Nat.zero_lt_one⟩ (fun j σ H' _ ⟨_, _, _, _, sm, _⟩ => sm.seq hS) (fun j x σ H' hx h => ?_) (fun σ H' h => ?_)⟩
    · obtain ⟨k, rfl, hk⟩ := get_int hx
      obtain ⟨rest, n, y, rfl, sm, hr', pm, er, hn⟩ := h
      have lj := lt_get hk
      have dj : L.drop j = k :: L.drop (j + 1) := by
        rw [List.drop_eq_getElem_cons lj]
        rw [List.getElem?_eq_getElem lj] at hk
        rw [Option.some.inj hk]
      rw [dj] at pm er
      have km : k ∈ rest := pm.mem_iff.mpr List.mem_cons_self
      obtain ⟨i1, i2⟩ := idx_first km
      have ndr : rest.Nodup := by
        have : (L.drop j).Nodup := nd.sublist (List.drop_sublist _ _)
        rw [dj] at this
        exact pm.nodup_iff.mpr this
      have rl : rest.length ≤ 5 := by
        rw [pm.length_eq, ← dj, List.length_drop]
        omega
      have p6 : 6 ^ j ≤ 7776 := Nat.le_trans (Nat.pow_le_pow_right (by decide) (show j ≤ 5 by omega)) (by decide)
      have gV : (rest.map V.int)[rest.idxOf k]? = some (.int k) := by rw [List.getElem?_map, i1]; rfl
      have il : rest.idxOf k < rest.length := lt_get i1
      refine ⟨_, rfl, _, rfl, r, _, rfl, .inl (.of hr'), _, _, rfl, rfl, wide_mul (a := 14) (b := 14) (by omega) (by rw [List.length_map]; omega) (by decide) (by decide) (by decide), ?_⟩
      refine ⟨_, rfl, .inl ⟨rfl, _, .of hr'⟩, _, rfl, r, _, .int k, rest.idxOf k, .int k, rfl, rfl, .of hr', rfl, flatI rest, gV, by show (k == k) = true; exact beq_self_eq_true k, fun m z' hm hz' => ?_, ?_⟩
      · obtain ⟨x, rfl, hx2⟩ := get_int hz'
        show (x == k) = false
        have : x ≠ k := fun z => i2 m hm (z ▸ hx2)
        simpa using this
      refine ⟨_, _, rfl, rfl, ?_⟩
      refine ⟨_, rfl, .inl ⟨rfl, _, .of hr'⟩, _, rfl, r, rest, k, rest.idxOf k, rfl, rfl, hr', i1, i2, ?_⟩
      rw [erase_ix km]
      refine ⟨rest.erase k, n * rest.length + rest.idxOf k, some (.int k), ?_, Lp.Same.mut sm nr, upd_same, ?_, er, ?_⟩
      · rw [List.length_map]
        have : ((n * rest.length + rest.idxOf k : Nat) : Int) = (n : Int) * (rest.length : Int) + (rest.idxOf k : Int) := by
          rw [Int.natCast_add, Int.natCast_mul]
        rw [this]
        rfl
      · have := pm.erase k
        rwa [List.erase_cons_head] at this
      · rw [Nat.pow_succ]
        have h1 : n * rest.length ≤ n * 5 := Nat.mul_le_mul_left n rl
        omega
    · obtain ⟨rest, n, y, rfl, sm, hr', pm, er, hn⟩ := h
      rw [List.length_map, List.drop_length] at er
      have e : n = rankG S' L 0 := er
      refine ⟨_, rfl, ?_⟩
      rw [e]
      exact q _ sm
def spLRank (K : PySem.W.Frag) : Sp := fun vs H Q _ => ∃ (a b : Addr) (ns O S : List Int), vs = [.ref a, .ref b] ∧ SqL K H a (ns.map V.int) ∧ SqL K H b (O.map V.int) ∧ Hist ns ∧ O.Perm (runL ns) ∧ O.length ≤ 5 ∧ S.Perm O.dropLast ∧ S.Pairwise (· ≤ ·) ∧ ∀ H', Same H H' → Q (.int (rankG S O.dropLast 0 : Nat)) H'
theorem cut_last (O : List Int) : cutV (O.map V.int) none (some (-1)) = O.dropLast.map V.int := by
  unfold cutV
  rw [HT.sIx_none, List.drop_zero, Nat.sub_zero, HT.sIx.eq_2, if_pos (by decide), List.length_map, List.dropLast_eq_take, List.map_take]
  congr 1
  omega
theorem ok_leaving_rank {f : Addr} {fd : FuncData} (F : Fun K "leaving_rank" "leaving_rank" s_leaving_rank f fd) (T_check_order : Gc P w K mg base 9 "check_order" (spCheckO K)) (T_permutation_rank : Gc P w K mg base 1 "_permutation_rank" (spPRank K)) : FnG P w K mg base CX0 10 f fd ["history", "order"] (spLRank K) := by
  refine okG F sc_leaving_rank (fun vs H Q E h => ?_) (fun cdv A outer s H vs Q E hG hr h => ?_)
  · obtain ⟨a, b, ns, O, S, rfl, _⟩ := h
    rfl
  · obtain ⟨a, b, ns, O, S, rfl, hS, hO, hh, pm, lO, pS, wS, q⟩ := h
    refine ⟨_, (pss_cons (ps_expr (pe_g T_check_order hG hr (by decide) (by rfl) (pa_cons (pv 0) (pa_cons (pv 1) pa_nil))))
        (pss_one (ps_ret (pe_g T_permutation_rank hG hr (by decide) (by rfl) (pa_cons (pe_slice sl_list (pv 1) po_none (po_some (pe_un un_neg pe_int))) pa_nil))))), ?_⟩
    refine ⟨_, rfl, _, rfl, a, b, ns, O, rfl, hS, hO, hh, pm, fun H1 s1 => ?_⟩
    refine ⟨_, rfl, 1, rfl, _, rfl, b, _, rfl, s1.seq hO, fun z nz => ?_⟩
    have s2 := same_new (o := .lst (cutV (O.map V.int) none (some (-1)))) nz
    have ndO : O.Nodup := pm.nodup_iff.mpr ((stL_nd hh).sublist List.filter_sublist)
    refine ⟨z, O.dropLast, S, rfl, .of (by rw [upd_same, cut_last]), ndO.sublist (List.dropLast_sublist _), by rw [List.length_dropLast]; omega, pS, wS, fun H3 s3 => q _ ((s1.trans s2).trans s3)⟩
end
end L12
set_option Elab.async false
set_option linter.all false
set_option maxRecDepth 100000
namespace L12
open PySem PySem.Spec PyProof.Rows L2 Lp
/-! ### what a display of values of any kind gives; what is drawn from stands apart -/
abbrev only (a : Addr) : Addr → Bool := fun b => decide (b = a)
def avA (A : Addr → Bool) (H : Hp) : Hp := fun b => if A b = true then none else H b
abbrev av (a : Addr) (H : Hp) : Hp := avA (only a) H
section
variable {A : Addr → Bool} {a b p src : Addr} {H H' H1 : Hp} {o : HO}
theorem avA_ne (n : A b = false) : avA A H b = H b := if_neg (by rw [n]; exact Bool.false_ne_true)
theorem avA_at (n : A b = false) (h : H b = some o) : avA A H b = some o := by rw [avA_ne n]; exact h
theorem avA_some (h : avA A H b = some o) : A b = false ∧ H b = some o := by
  by_cases e : A b = true
  · have : avA A H b = none := if_pos e
    rw [this] at h
    cases h
  · have e := Bool.eq_false_iff.mpr e
    rw [avA_ne e] at h
    exact ⟨e, h⟩
theorem av_ne (n : b ≠ a) : av a H b = H b := avA_ne (decide_eq_false n)
theorem av_at (n : b ≠ a) (h : H b = some o) : av a H b = some o := avA_at (decide_eq_false n) h
theorem av_some (h : av a H b = some o) : b ≠ a ∧ H b = some o := ⟨of_decide_eq_false (avA_some h).1, (avA_some h).2⟩
theorem avA_le : Same (avA A H) H := fun b o h => (avA_some h).2
theorem av_le : Same (av a H) H := avA_le
theorem avA_bt (hA : A src = true) (s : Bt src H H') : Same (avA A H) (avA A H') := fun b o h => by
  obtain ⟨n, e⟩ := avA_some h
  exact avA_at n (s b o (fun z => by rw [z, hA] at n; cases n) e)
theorem av_bt (s : Bt src H H') : Same (av src H) (av src H') := avA_bt (decide_eq_true rfl) s
theorem avA_same (s : Same H H') : Same (avA A H) (avA A H') := fun b o h => by
  obtain ⟨n, e⟩ := avA_some h
  exact avA_at n (s b o e)
theorem av_same (s : Same H H') : Same (av src H) (av src H') := avA_same s
/-- a thing apart from those of A and from a new p -/
theorem avA_new {u : HO} (n : H p = none) : Same (avA A H) (av p (avA A (upd H p u))) := fun b o h => by
  obtain ⟨n1, e⟩ := avA_some h
  have bp : b ≠ p := ne_of_none e n
  exact av_at bp (avA_at n1 (by rw [upd_ne bp]; exact e))
theorem avA_mut {u : HO} : Same (av p (avA A H)) (av p (avA A (upd H p u))) := fun b o h => by
  obtain ⟨bp, h⟩ := av_some h
  obtain ⟨n1, e⟩ := avA_some h
  exact av_at bp (avA_at n1 (by rw [upd_ne bp]; exact e))
end
abbrev both (a b : Addr) : Addr → Bool := fun x => decide (x = a) || decide (x = b)
theorem both_ne {a b x : Addr} (h : x ≠ a) (g : x ≠ b) : both a b x = false := by
  show (decide (x = a) || decide (x = b)) = false
  rw [decide_eq_false h, decide_eq_false g]
  rfl
theorem both_of {a b : Addr} {H : Hp} : Same (av b (av a H)) (avA (both a b) H) := fun x o h => by
  obtain ⟨n1, h⟩ := av_some h
  obtain ⟨n2, h⟩ := av_some h
  exact avA_at (both_ne n2 n1) h
theorem both_to {a b : Addr} {H : Hp} : Same (avA (both a b) H) (av b (av a H)) := fun x o h => by
  obtain ⟨n, h⟩ := avA_some h
  have n : (decide (x = a) || decide (x = b)) = false := n
  rw [Bool.or_eq_false_iff] at n
  exact av_at (of_decide_eq_false n.2) (av_at (of_decide_eq_false n.1) h)
/-! ### lists of lists of ints -/
inductive LLs (H : Hp) : List Addr → List (List Int) → Prop
  | nil : LLs H [] []
  | cons {p : Addr} {ps : List Addr} {r : List Int} {F : List (List Int)} : H p = some (.lst (r.map V.int)) → LLs H ps F → LLs H (p :: ps) (r :: F)
section
variable {H H' : Hp}
theorem LLs.same (s : Same H H') : ∀ {ps : List Addr} {F : List (List Int)}, LLs H ps F → LLs H' ps F
  | _, _, .nil => .nil
  | _, _, .cons h t => .cons (s _ _ h) (LLs.same s t)
theorem LLs.app : ∀ {ps qs : List Addr} {F G : List (List Int)}, LLs H ps F → LLs H qs G → LLs H (ps ++ qs) (F ++ G)
  | _, _, _, _, .nil, h => h
  | _, _, _, _, .cons h t, g => .cons h (LLs.app t g)
theorem LLs.len : ∀ {ps : List Addr} {F : List (List Int)}, LLs H ps F → ps.length = F.length
  | _, _, .nil => rfl
  | _, _, .cons _ t => congrArg (· + 1) (LLs.len t)
theorem LLs.get : ∀ {ps : List Addr} {F : List (List Int)} {i : Nat} {p : Addr}, LLs H ps F → ps[i]? = some p → ∃ r, F[i]? = some r ∧ H p = some (.lst (r.map V.int))
  | _, _, 0, _, .cons h _, e => by cases e; exact ⟨_, rfl, h⟩
  | _, _, i + 1, _, .cons _ t, e => LLs.get (i := i) t e
theorem LLs.dp {K : PySem.W.Frag} : ∀ {ps : List Addr} {F : List (List Int)}, LLs H ps F → DpAll K H (ps.map V.ref) (F.map dI)
  | _, _, .nil => .nil
  | _, _, .cons h t => .cons (dp_ints (.of h)) (LLs.dp t)
theorem get_ref {ps : List Addr} {i : Nat} {x : V} (h : (ps.map V.ref)[i]? = some x) : ∃ p, x = .ref p ∧ ps[i]? = some p := by
  rw [List.getElem?_map] at h
  cases e : ps[i]? with
  | none => rw [e] at h; cases h
  | some p => rw [e] at h; cases h; exact ⟨p, rfl, rfl⟩
end
section
variable {P : Program} {w : World} {K : PySem.W.Frag} {mg : Str → Option Value} {base : Heap}
/-! ### _law_all -/
def grow (R r : List Int) (k : Nat) : List (List Int) := ((R.take k).filter fun o => decide (o ∉ r)).map fun o => r ++ [o]
theorem grow_put {R r : List Int} {k : Nat} {o : Int} (h : R[k]? = some o) (c : o ∉ r) : grow R r (k + 1) = grow R r k ++ [r ++ [o]] := by
  unfold grow
  rw [take_get h, List.filter_append, List.filter_cons, if_pos (decide_eq_true c), List.map_append]
  rfl
theorem grow_skip {R r : List Int} {k : Nat} {o : Int} (h : R[k]? = some o) (c : ¬ o ∉ r) : grow R r (k + 1) = grow R r k := by
  unfold grow
  rw [take_get h, List.filter_append, List.filter_cons, if_neg (by rw [decide_eq_true_eq]; exact c), List.filter_nil, List.append_nil]
theorem grow_len (R r : List Int) (k : Nat) : (grow R r k).length ≤ k := by
  unfold grow
  rw [List.length_map]
  exact Nat.le_trans (List.length_filter_le _ _) (by rw [List.length_take]; omega)
def spAll (K : PySem.W.Frag) : Sp := fun vs H Q _ => ∃ (a : Addr) (R : List Int), vs = [.ref a] ∧ SqL K H a (R.map V.int) ∧ R.length ≤ 5 ∧ ∀ H' t ps, Same H H' → H t = none → H' t = some (.lst (ps.map V.ref)) → LLs H' ps (allR R) → Q (.ref t) H'
theorem step_take {R : List Int} {F : List (List Int)} {i : Nat} {r : List Int} (h : F[i]? = some r) : stepG R (F.take (i + 1)) = stepG R (F.take i) ++ grow R r R.length := by
  unfold stepG grow
  rw [take_get h, List.flatMap_append, List.take_length]
  simp
theorem stepG_len {R : List Int} (h : R.length ≤ 5) : ∀ F : List (List Int), (stepG R F).length ≤ F.length * 5
  | [] => Nat.le_refl _
  | r :: F => by
    have ih := stepG_len h F
    show (((R.filter fun o => decide (o ∉ r)).map fun o => r ++ [o]) ++ stepG R F).length ≤ (F.length + 1) * 5
    rw [List.length_append, List.length_map]
    have := List.length_filter_le (fun o => decide (o ∉ r)) R
    omega
theorem allG_len {R : List Int} (h : R.length ≤ 5) : ∀ n : Nat, (allG R n).length ≤ 5 ^ n
  | 0 => Nat.le_refl _
  | n + 1 => Nat.le_trans (stepG_len h _) (by rw [Nat.pow_succ]; exact Nat.mul_le_mul_right 5 (allG_len h n))
theorem allG_row {R : List Int} : ∀ (n : Nat) (r : List Int), r ∈ allG R n → r.length = n
  | 0, r, hr => by
    have : r = [] := by simpa [allG] using hr
    rw [this]
    rfl
  | n + 1, r, hr => by
    obtain ⟨r0, h0, h1⟩ := List.mem_flatMap.mp (show r ∈ stepG R (allG R n) from hr)
    obtain ⟨o, ho, rfl⟩ := List.mem_map.mp h1
    rw [List.length_append, allG_row n r0 h0]
    rfl
theorem ok_law_all {f : Addr} {fd : FuncData} (F : Fun K "_law_all" "_law_all" s_law_all f fd) : FnG P w K mg base CX0 1 f fd ["things"] (spAll K) := by
  refine okG F sc_law_all (fun vs H Q E h => ?_) (fun cdv A outer s H vs Q E hG hr h => ?_)
  · obtain ⟨a, R, rfl, _⟩ := h
    rfl
  · obtain ⟨a, R, rfl, hS, hR, q⟩ := h
    refine ⟨_, (pss_cons (ps_set (i := 1) sc_law_all.nd rfl (Or.inl rfl) (pe_lst (pa_cons (pe_lst pa_nil) pa_nil)))
        (pss_cons (ps_for PassesOwn.never rfl (pi_list (pv 0)) (pg_name (i := 2) sc_law_all.nd rfl (Or.inl rfl))
          (pss_cons (ps_set (i := 3) sc_law_all.nd rfl (Or.inl rfl) (pe_lst pa_nil))
          (pss_cons (ps_for PassesOwn.never rfl (pi_list (pv 1)) (pg_name (i := 4) sc_law_all.nd rfl (Or.inr rfl))
            (pss_one (ps_expr (pe_bm PySem.F.plainAttrs_list PySem.F.slot_list_extend PySem.F.type_list_extend mt_extend (pv 3) (pa_cons (pe_lc (own := [("one", 5)]) (g := gName 5) (tt := _) rfl sc_law_all.nd (pi_list (pv 0)) (blkOk_by (own := [("one", 5)]) (N := N_law_all) (sc := defScope s_law_all) (by decide +kernel)) (fun _ _ _ _ _ => (pg_name (i := 5) sc_law_all.nd rfl (Or.inl rfl))) (fun _ _ _ _ _ => (pts_one (pt_cmpR (k_notin (K := K) rfl) (pv 5) (pv 4) (by rfl)))) (fun _ _ _ _ _ => (pe_op op_cat (pv 4) (pe_lst (pa_cons (pv 5) pa_nil))))) pa_nil)))))
          (pss_one (ps_set (i := 1) sc_law_all.nd rfl (Or.inl rfl) (pv 3))))))
        (pss_one (ps_ret (pv 1))))), ?_⟩
    refine ⟨Nat.zero_le _, fun e0 ne0 => ⟨by show 1 ≤ sizeLine; decide, fun f0 nf0 => ?_⟩⟩
    have s1 := (same_new (o := .lst []) ne0).trans (same_new (o := .lst [V.ref e0]) nf0)
    have e0f : (upd (upd H e0 (.lst [])) f0 (.lst [.ref e0])) e0 = some (.lst []) := same_new nf0 _ _ upd_same
    have ff0 : (upd (upd H e0 (.lst [])) f0 (.lst [.ref e0])) f0 = some (.lst [.ref e0]) := upd_same
    have nf00 := (same_new (o := .lst []) ne0).free nf0
    generalize upd (upd H e0 (.lst [])) f0 (.lst [.ref e0]) = H1 at s1 e0f ff0 ⊢
    refine ⟨_, rfl, a, rfl, ⟨_, s1.seq hS⟩, for_list (xs := R.map V.int) (fun j σ H' => ∃ (fo : Addr) (ps : List Addr) (y2 y3 y4 : Option V), σ = [some (.ref a), some (.ref fo), y2, y3, y4, none] ∧ Same H H' ∧ H fo = none ∧ H' fo = some (.lst (ps.map V.ref)) ∧ LLs H' ps (allG R j)) ⟨f0, [e0], _, _, _, rfl, s1, nf00, ff0, .cons e0f .nil⟩ (fun j σ H' _ ⟨_, _, _, _, _, _, sm, _⟩ => sm.seq hS) (fun j x σ H' hx h => ?_) (fun σ H' h => ?_)⟩
    · obtain ⟨k, rfl, hk⟩ := get_int hx
      obtain ⟨fo, ps, y2, y3, y4, rfl, sm, nfo, hfo, hll⟩ := h
      have lj := lt_get hk
      have g5 : (allG R j).length ≤ 625 := Nat.le_trans (allG_len hR j) (Nat.le_trans (Nat.pow_le_pow_right (by decide) (show j ≤ 4 by omega)) (by decide))
      refine ⟨Nat.zero_le _, fun lo nlo => ?_⟩
      have slo := same_new (o := .lst []) nlo
      have hfo1 := slo _ _ hfo
      refine ⟨_, rfl, fo, rfl, ⟨_, .of hfo1⟩, for_list (xs := ps.map V.ref) (fun i σ H2 => ∃ (qs : List Addr) (y4 : Option V), σ = [some (.ref a), some (.ref fo), some (.int k), some (.ref lo), y4, none] ∧ Same H' H2 ∧ H2 lo = some (.lst (qs.map V.ref)) ∧ LLs (av lo H2) qs (stepG R ((allG R j).take i))) ⟨[], _, rfl, slo, upd_same, .nil⟩ (fun i σ H2 _ ⟨_, _, _, s2, _⟩ => .of (s2 _ _ hfo)) (fun i x σ H2 hx2 h2 => ?_) (fun σ H2 h2 => ?_)⟩
      · obtain ⟨pr, rfl, hpr⟩ := get_ref hx2
        obtain ⟨qs, y4', rfl, s2, hlo, hqs⟩ := h2
        obtain ⟨r, hr1, hpr1⟩ := hll.get hpr
        have hpr2 := s2 _ _ hpr1
        have lr : r.length = j := allG_row j r (mem_get hr1)
        have lqs := hqs.len
        have lst5 := stepG_len hR ((allG R j).take i)
        have lti : ((allG R j).take i).length ≤ 625 := by rw [List.length_take]; omega
        refine ⟨_, rfl, .inl ⟨rfl, _, .of hlo⟩, ?_⟩
        have hS2 : SqL K H2 a (R.map V.int) := (sm.trans s2).seq hS
        refine ⟨_, rfl, a, rfl, ⟨_, hS2⟩, fun D nD => ?_⟩
        refine lc_list (xs := R.map V.int) (fun m H3 => Same H2 H3 ∧ ∃ rs : List Addr, H3 D = some (.lst (rs.map V.ref)) ∧ LLs (avA (both lo D) H3) rs (grow R r m)) ⟨same_new nD, [], upd_same, .nil⟩ (fun m H3 _ h3 => h3.1.seq hS2) (fun m x H3 hx3 h3 => ?_) (fun H3 h3 => ?_)
        · obtain ⟨o, rfl, ho⟩ := get_int hx3
          obtain ⟨s3, rs, hD, hrs⟩ := h3
          have lm := lt_get ho
          have hpr3 := s3 _ _ hpr2
          refine ⟨rfl, ?_⟩
          by_cases c : o ∈ r
          · refine ⟨_, rfl, _, rfl, pr, _, rfl, .inl (.of hpr3), rfl, flatI _, false, notInF c, s3, rs, hD, ?_⟩
            rw [grow_skip ho (fun z => z c)]
            exact hrs
          · refine ⟨_, rfl, _, rfl, pr, _, rfl, .inl (.of hpr3), rfl, flatI _, true, notInT c, ?_⟩
            refine ⟨_, rfl, _, rfl, by show 1 ≤ sizeLine; decide, fun z1 nz1 => ⟨pr, z1, _, _, rfl, rfl, same_new nz1 _ _ hpr3, upd_same, by rw [List.length_map, lr]; exact Nat.le_trans (show j + 1 ≤ 5 by omega) (by decide), fun z2 nz2 => ?_⟩⟩
            have sz1 := same_new (o := .lst [V.int o]) nz1
            have sz2 := same_new (o := .lst (r.map V.int ++ [V.int o])) nz2
            have sz := sz1.trans sz2
            have hD' := sz _ _ hD
            have nz2D : z2 ≠ D := fun z => by rw [z, sz1 _ _ hD] at nz2; cases nz2
            have nz2l : z2 ≠ lo := fun z => by rw [z, sz1 _ _ (s3 _ _ hlo)] at nz2; cases nz2
            have hz2 : (upd (upd H3 z1 (.lst [V.int o])) z2 (.lst (r.map V.int ++ [V.int o]))) z2 = some (.lst ((r ++ [o]).map V.int)) := by rw [upd_same, List.map_append]; rfl
            generalize upd (upd H3 z1 (.lst [V.int o])) z2 (.lst (r.map V.int ++ [V.int o])) = H4 at sz hD' hz2 ⊢
            have lrs := hrs.len
            have lg := grow_len R r m
            refine ⟨_, hD', by rw [List.length_map, lrs]; exact Nat.lt_of_le_of_lt (show (grow R r m).length ≤ 5 by omega) (by decide), Lp.Same.mut (s3.trans sz) nD, rs ++ [z2], by rw [upd_same, List.map_append]; rfl, ?_⟩
            rw [grow_put ho c]
            have mv : Same (avA (both lo D) H3) (avA (both lo D) (upd H4 D (.lst (rs.map V.ref ++ [V.ref z2])))) := fun b ob hb => by
              obtain ⟨n1, e⟩ := avA_some hb
              have nD1 : b ≠ D := fun z => by
                have : (decide (b = lo) || decide (b = D)) = false := n1
                rw [Bool.or_eq_false_iff] at this
                exact of_decide_eq_false this.2 z
              exact avA_at n1 (by rw [upd_ne nD1]; exact sz _ _ e)
            exact (hrs.same mv).app (.cons (avA_at (both_ne nz2l nz2D) (by rw [upd_ne nz2D]; exact hz2)) .nil)
        · obtain ⟨s3, rs, hD, hrs⟩ := h3
          rw [List.length_map] at hrs
          have lrs := hrs.len
          have lg := grow_len R r R.length
          have hlo3 := s3 _ _ hlo
          refine ⟨lo, D, _, _, rfl, rfl, hlo3, hD, ?_, ?_⟩
          · rw [List.length_map, List.length_map, lrs, lqs]
            exact Nat.le_trans (show _ ≤ 5000 by omega) (by decide)
          · refine ⟨qs ++ rs, _, rfl, Lp.Same.mut (s2.trans s3) nlo, by rw [upd_same, List.map_append], ?_⟩
            rw [step_take hr1]
            have m1 : Same (av lo H2) (av lo (upd H3 lo (.lst (qs.map V.ref ++ rs.map V.ref)))) := fun b ob hb => by
              obtain ⟨n1, e⟩ := av_some hb
              exact av_at n1 (by rw [upd_ne n1]; exact s3 _ _ e)
            have m2 : Same (avA (both lo D) H3) (av lo (upd H3 lo (.lst (qs.map V.ref ++ rs.map V.ref)))) := fun b ob hb => by
              obtain ⟨n1, e⟩ := avA_some hb
              have : (decide (b = lo) || decide (b = D)) = false := n1
              rw [Bool.or_eq_false_iff] at this
              have nl := of_decide_eq_false this.1
              exact av_at nl (by rw [upd_ne nl]; exact e)
            exact (hqs.same m1).app (hrs.same m2)
      · obtain ⟨qs, y4', rfl, s2, hlo, hqs⟩ := h2
        have lps := hll.len
        rw [List.length_map, lps, List.take_length] at hqs
        exact ⟨_, rfl, lo, qs, _, _, _, rfl, sm.trans s2, sm.free nlo, hlo, hqs.same av_le⟩
    · obtain ⟨fo, ps, y2, y3, y4, rfl, sm, nfo, hfo, hll⟩ := h
      rw [List.length_map] at hll
      exact ⟨_, rfl, q _ fo ps sm nfo hfo hll⟩
end
end L12
set_option Elab.async false
set_option linter.all false
set_option maxRecDepth 100000
namespace L12
open PySem PySem.Spec PyProof.Rows L2 Lp
section
variable {P : Program} {w : World} {K : PySem.W.Frag} {mg : Str → Option Value} {base : Heap}
/-! ### _law_equal of equal data -/
/-- data of at most so many levels, its lists of a size -/
def okD : Nat → PyData → Prop
  | _, .none => True
  | _, .bool _ => True
  | _, .int _ => True
  | _, .str _ => True
  | n + 1, .list ds => ds.length < 100000 ∧ ∀ x ∈ ds, okD n x
  | n + 1, .tuple ds => ds.length < 100000 ∧ ∀ x ∈ ds, okD n x
  | _, _ => False
def spEqD (K : PySem.W.Frag) (n : Nat) : Sp := fun vs H Q _ => ∃ (r e : V) (d : PyData), vs = [r, e] ∧ Dp K H r d ∧ Dp K H e d ∧ okD n d ∧ (∀ H', Same H H' → Q (.bl true) H')
theorem ok_law_equal_0 {f : Addr} {fd : FuncData} (F : Fun K "_law_equal" "_law_equal" s_law_equal f fd) (B : NoB mg) :
    FnG P w K mg base CX0 1 f fd ["result", "expected"] (spEqD K 0) := by
  refine okG F sc_law_equal (fun vs H Q E h => ?_) (fun cdv A outer s H vs Q E hG hr h => ?_)
  · obtain ⟨r, e, d, rfl, _⟩ := h
    rfl
  · obtain ⟨r, e, d, rfl, h1, h2, hd, q⟩ := h
    cases h1 with
    | non =>
      cases h2
      refine ⟨_, (pss_cons (ps_if (pt_val (pe_callB call_isiT (by rfl) B.isinstance (by decide +kernel) (pa_cons (pv 1) (pa_cons (pe_tup (pa_cons (pe_bltn (v := .ty "list") (by rfl) B.list boot_list rfl) (pa_cons (pe_bltn (v := .ty "tuple") (by rfl) B.tuple boot_tuple rfl) pa_nil))) pa_nil)))) (pss_cons ps_never (pss_cons ps_never (pss_one ps_never))) pss_nil)
        (pss_cons (ps_if (PW.pt (pw_or (pt_val (pe_callB call_isiT (by rfl) B.isinstance (by decide +kernel) (pa_cons (pv 1) (pa_cons (pe_tup (pa_cons (pe_bltn (v := .ty "bool") (by rfl) B.bool boot_bool rfl) (pa_cons (pe_bltn (v := .ty "str") (by rfl) B.str boot_str rfl) pa_nil))) pa_nil)))) (pw_or1 (pt_cmpR op_isN (pv 1) pe_non (nomark _))))) (pss_one (ps_ret (pe_and (pe_cmpR op_eq (pe_callB call_isi (by rfl) B.isinstance (by decide +kernel) (pa_cons (pv 0) (pa_cons (pe_bltn (v := .ty "bool") (by rfl) B.bool boot_bool rfl) pa_nil))) (pe_callB call_isi (by rfl) B.isinstance (by decide +kernel) (pa_cons (pv 1) (pa_cons (pe_bltn (v := .ty "bool") (by rfl) B.bool boot_bool rfl) pa_nil))) (nomark _)) (pe_one (pe_cmpR op_eq (pv 0) (pv 1) (nomark _)))))) pss_nil)
        (pss_one (ps_ret (pe_and (pe_callB call_isi (by rfl) B.isinstance (by decide +kernel) (pa_cons (pv 0) (pa_cons (pe_bltn (v := .ty "int") (by rfl) B.int boot_int rfl) pa_nil))) (pe_and (pe_not (pe_callB call_isi (by rfl) B.isinstance (by decide +kernel) (pa_cons (pv 0) (pa_cons (pe_bltn (v := .ty "bool") (by rfl) B.bool boot_bool rfl) pa_nil)))) (pe_one (pe_cmpR op_eq (pv 0) (pv 1) (nomark _))))))))), ?_⟩
      refine ⟨_, rfl, by show 2 ≤ sizeLine; decide, fun T nT => ?_⟩
      refine ⟨_, T, _, _, _, false, rfl, upd_same, .cons (.ty _) (.cons (.ty _) .nil), .base .non, kitA (kit_ty (by decide +kernel)) (kit_ty (by decide +kernel)), false, rfl, ?_⟩
      refine ⟨_, rfl, by show 2 ≤ sizeLine; decide, fun T2 nT2 => ?_⟩
      have s2 := (same_new (o := .tup [.ty "list", .ty "tuple"]) nT).trans (same_new (o := .tup [.ty "bool", .ty "str"]) nT2)
      refine ⟨_, T2, _, _, _, false, rfl, upd_same, .cons (.ty _) (.cons (.ty _) .nil), .base .non, kitA (kit_ty (by decide +kernel)) (kit_ty (by decide +kernel)), false, rfl, _, rfl, rfl, true, rfl, ?_⟩
      refine ⟨_, rfl, _, _, _, _, false, rfl, .ty _, .base .non, kit_ty (by decide +kernel), _, rfl, _, _, _, _, false, rfl, .ty _, .base .non, kit_ty (by decide +kernel), rfl, true, dT rfl, ?_⟩
      refine ⟨_, rfl, _, rfl, rfl, ?_⟩
      rw [decide_eq_true rfl]
      exact q _ s2
    | bl b =>
      cases h2
      refine ⟨_, (pss_cons (ps_if (pt_val (pe_callB call_isiT (by rfl) B.isinstance (by decide +kernel) (pa_cons (pv 1) (pa_cons (pe_tup (pa_cons (pe_bltn (v := .ty "list") (by rfl) B.list boot_list rfl) (pa_cons (pe_bltn (v := .ty "tuple") (by rfl) B.tuple boot_tuple rfl) pa_nil))) pa_nil)))) (pss_cons ps_never (pss_cons ps_never (pss_one ps_never))) pss_nil)
        (pss_cons (ps_if (PW.pt (pw_or (pt_val (pe_callB call_isiT (by rfl) B.isinstance (by decide +kernel) (pa_cons (pv 1) (pa_cons (pe_tup (pa_cons (pe_bltn (v := .ty "bool") (by rfl) B.bool boot_bool rfl) (pa_cons (pe_bltn (v := .ty "str") (by rfl) B.str boot_str rfl) pa_nil))) pa_nil)))) (pw_or1 (pt_cmpR op_isN (pv 1) pe_non (nomark _))))) (pss_one (ps_ret (pe_and (pe_cmpR op_eq (pe_callB call_isi (by rfl) B.isinstance (by decide +kernel) (pa_cons (pv 0) (pa_cons (pe_bltn (v := .ty "bool") (by rfl) B.bool boot_bool rfl) pa_nil))) (pe_callB call_isi (by rfl) B.isinstance (by decide +kernel) (pa_cons (pv 1) (pa_cons (pe_bltn (v := .ty "bool") (by rfl) B.bool boot_bool rfl) pa_nil))) (nomark _)) (pe_one (pe_cmpR op_eq (pv 0) (pv 1) (nomark _)))))) pss_nil)
        (pss_one (ps_ret (pe_and (pe_callB call_isi (by rfl) B.isinstance (by decide +kernel) (pa_cons (pv 0) (pa_cons (pe_bltn (v := .ty "int") (by rfl) B.int boot_int rfl) pa_nil))) (pe_and (pe_not (pe_callB call_isi (by rfl) B.isinstance (by decide +kernel) (pa_cons (pv 0) (pa_cons (pe_bltn (v := .ty "bool") (by rfl) B.bool boot_bool rfl) pa_nil)))) (pe_one (pe_cmpR op_eq (pv 0) (pv 1) (nomark _))))))))), ?_⟩
      refine ⟨_, rfl, by show 2 ≤ sizeLine; decide, fun T nT => ?_⟩
      refine ⟨_, T, _, _, _, false, rfl, upd_same, .cons (.ty _) (.cons (.ty _) .nil), .base (.bl b), kitA (kit_ty (by decide +kernel)) (kit_ty (by decide +kernel)), false, rfl, ?_⟩
      refine ⟨_, rfl, by show 2 ≤ sizeLine; decide, fun T2 nT2 => ?_⟩
      have s2 := (same_new (o := .tup [.ty "list", .ty "tuple"]) nT).trans (same_new (o := .tup [.ty "bool", .ty "str"]) nT2)
      refine ⟨_, T2, _, _, _, true, rfl, upd_same, .cons (.ty _) (.cons (.ty _) .nil), .base (.bl b), kitT (kit_ty (by decide +kernel)), true, rfl, ?_⟩
      refine ⟨_, rfl, _, _, _, _, true, rfl, .ty _, .base (.bl b), kit_ty (by decide +kernel), _, rfl, _, _, _, _, true, rfl, .ty _, .base (.bl b), kit_ty (by decide +kernel), rfl, true, dT rfl, ?_⟩
      refine ⟨_, rfl, _, rfl, rfl, ?_⟩
      rw [decide_eq_true rfl]
      exact q _ s2
    | int i =>
      cases h2
      refine ⟨_, (pss_cons (ps_if (pt_val (pe_callB call_isiT (by rfl) B.isinstance (by decide +kernel) (pa_cons (pv 1) (pa_cons (pe_tup (pa_cons (pe_bltn (v := .ty "list") (by rfl) B.list boot_list rfl) (pa_cons (pe_bltn (v := .ty "tuple") (by rfl) B.tuple boot_tuple rfl) pa_nil))) pa_nil)))) (pss_cons ps_never (pss_cons ps_never (pss_one ps_never))) pss_nil)
        (pss_cons (ps_if (PW.pt (pw_or (pt_val (pe_callB call_isiT (by rfl) B.isinstance (by decide +kernel) (pa_cons (pv 1) (pa_cons (pe_tup (pa_cons (pe_bltn (v := .ty "bool") (by rfl) B.bool boot_bool rfl) (pa_cons (pe_bltn (v := .ty "str") (by rfl) B.str boot_str rfl) pa_nil))) pa_nil)))) (pw_or1 (pt_cmpR op_isN (pv 1) pe_non (nomark _))))) (pss_one (ps_ret (pe_and (pe_cmpR op_eq (pe_callB call_isi (by rfl) B.isinstance (by decide +kernel) (pa_cons (pv 0) (pa_cons (pe_bltn (v := .ty "bool") (by rfl) B.bool boot_bool rfl) pa_nil))) (pe_callB call_isi (by rfl) B.isinstance (by decide +kernel) (pa_cons (pv 1) (pa_cons (pe_bltn (v := .ty "bool") (by rfl) B.bool boot_bool rfl) pa_nil))) (nomark _)) (pe_one (pe_cmpR op_eq (pv 0) (pv 1) (nomark _)))))) pss_nil)
        (pss_one (ps_ret (pe_and (pe_callB call_isi (by rfl) B.isinstance (by decide +kernel) (pa_cons (pv 0) (pa_cons (pe_bltn (v := .ty "int") (by rfl) B.int boot_int rfl) pa_nil))) (pe_and (pe_not (pe_callB call_isi (by rfl) B.isinstance (by decide +kernel) (pa_cons (pv 0) (pa_cons (pe_bltn (v := .ty "bool") (by rfl) B.bool boot_bool rfl) pa_nil)))) (pe_one (pe_cmpR op_eq (pv 0) (pv 1) (nomark _))))))))), ?_⟩
      refine ⟨_, rfl, by show 2 ≤ sizeLine; decide, fun T nT => ?_⟩
      refine ⟨_, T, _, _, _, false, rfl, upd_same, .cons (.ty _) (.cons (.ty _) .nil), .base (.int i), kitA (kit_ty (by decide +kernel)) (kit_ty (by decide +kernel)), false, rfl, ?_⟩
      refine ⟨_, rfl, by show 2 ≤ sizeLine; decide, fun T2 nT2 => ?_⟩
      have s2 := (same_new (o := .tup [.ty "list", .ty "tuple"]) nT).trans (same_new (o := .tup [.ty "bool", .ty "str"]) nT2)
      refine ⟨_, T2, _, _, _, false, rfl, upd_same, .cons (.ty _) (.cons (.ty _) .nil), .base (.int i), kitA (kit_ty (by decide +kernel)) (kit_ty (by decide +kernel)), false, rfl, _, rfl, rfl, false, dF (fun z => nomatch z), ?_⟩
      refine ⟨_, rfl, _, _, _, _, true, rfl, .ty _, .base (.int i), kit_ty (by decide +kernel), true, rfl, ?_⟩
      refine ⟨_, rfl, _, _, _, _, false, rfl, .ty _, .base (.int i), kit_ty (by decide +kernel), false, rfl, true, rfl, ?_⟩
      refine ⟨_, rfl, _, rfl, rfl, ?_⟩
      rw [decide_eq_true rfl]
      exact q _ s2
    | str x =>
      cases h2
      refine ⟨_, (pss_cons (ps_if (pt_val (pe_callB call_isiT (by rfl) B.isinstance (by decide +kernel) (pa_cons (pv 1) (pa_cons (pe_tup (pa_cons (pe_bltn (v := .ty "list") (by rfl) B.list boot_list rfl) (pa_cons (pe_bltn (v := .ty "tuple") (by rfl) B.tuple boot_tuple rfl) pa_nil))) pa_nil)))) (pss_cons ps_never (pss_cons ps_never (pss_one ps_never))) pss_nil)
        (pss_cons (ps_if (PW.pt (pw_or (pt_val (pe_callB call_isiT (by rfl) B.isinstance (by decide +kernel) (pa_cons (pv 1) (pa_cons (pe_tup (pa_cons (pe_bltn (v := .ty "bool") (by rfl) B.bool boot_bool rfl) (pa_cons (pe_bltn (v := .ty "str") (by rfl) B.str boot_str rfl) pa_nil))) pa_nil)))) (pw_or1 (pt_cmpR op_isN (pv 1) pe_non (nomark _))))) (pss_one (ps_ret (pe_and (pe_cmpR op_eq (pe_callB call_isi (by rfl) B.isinstance (by decide +kernel) (pa_cons (pv 0) (pa_cons (pe_bltn (v := .ty "bool") (by rfl) B.bool boot_bool rfl) pa_nil))) (pe_callB call_isi (by rfl) B.isinstance (by decide +kernel) (pa_cons (pv 1) (pa_cons (pe_bltn (v := .ty "bool") (by rfl) B.bool boot_bool rfl) pa_nil))) (nomark _)) (pe_one (pe_cmpR op_eq (pv 0) (pv 1) (nomark _)))))) pss_nil)
        (pss_one (ps_ret (pe_and (pe_callB call_isi (by rfl) B.isinstance (by decide +kernel) (pa_cons (pv 0) (pa_cons (pe_bltn (v := .ty "int") (by rfl) B.int boot_int rfl) pa_nil))) (pe_and (pe_not (pe_callB call_isi (by rfl) B.isinstance (by decide +kernel) (pa_cons (pv 0) (pa_cons (pe_bltn (v := .ty "bool") (by rfl) B.bool boot_bool rfl) pa_nil)))) (pe_one (pe_cmpR op_eq (pv 0) (pv 1) (nomark _))))))))), ?_⟩
      refine ⟨_, rfl, by show 2 ≤ sizeLine; decide, fun T nT => ?_⟩
      refine ⟨_, T, _, _, _, false, rfl, upd_same, .cons (.ty _) (.cons (.ty _) .nil), .base (.str x), kitA (kit_ty (by decide +kernel)) (kit_ty (by decide +kernel)), false, rfl, ?_⟩
      refine ⟨_, rfl, by show 2 ≤ sizeLine; decide, fun T2 nT2 => ?_⟩
      have s2 := (same_new (o := .tup [.ty "list", .ty "tuple"]) nT).trans (same_new (o := .tup [.ty "bool", .ty "str"]) nT2)
      refine ⟨_, T2, _, _, _, true, rfl, upd_same, .cons (.ty _) (.cons (.ty _) .nil), .base (.str x), kitA (kit_ty (by decide +kernel)) (kit_ty (by decide +kernel)), true, rfl, ?_⟩
      refine ⟨_, rfl, _, _, _, _, false, rfl, .ty _, .base (.str x), kit_ty (by decide +kernel), _, rfl, _, _, _, _, false, rfl, .ty _, .base (.str x), kit_ty (by decide +kernel), rfl, true, dT rfl, ?_⟩
      refine ⟨_, rfl, _, rfl, rfl, ?_⟩
      rw [decide_eq_true rfl]
      exact q _ s2
    | @lst a xs ds hs ha => exact hd.elim
    | @tup a xs ds hs ha => exact hd.elim
theorem ok_law_equal_step {f : Addr} {fd : FuncData} (F : Fun K "_law_equal" "_law_equal" s_law_equal f fd) (B : NoB mg) (n : Nat) (T_law_equal : Gc P w K mg base n "_law_equal" (spEqD K (n - 1))) :
    FnG P w K mg base CX0 (n + 1) f fd ["result", "expected"] (spEqD K n) := by
  refine okG F sc_law_equal (fun vs H Q E h => ?_) (fun cdv A outer s H vs Q E hG hr h => ?_)
  · obtain ⟨r, e, d, rfl, _⟩ := h
    rfl
  · obtain ⟨r, e, d, rfl, h1, h2, hd, q⟩ := h
    have el : PySem.W.kitOne K (.type "list") (.type "list") = some true := kit_ty (by decide +kernel)
    have tl : PySem.W.kitOne K (.type "tuple") (.type "list") = some false := kit_ty (by decide +kernel)
    have tt : PySem.W.kitOne K (.type "tuple") (.type "tuple") = some true := kit_ty (by decide +kernel)
    cases h1 with
    | non =>
      cases h2
      refine ⟨_, (pss_cons (ps_if (pt_val (pe_callB call_isiT (by rfl) B.isinstance (by decide +kernel) (pa_cons (pv 1) (pa_cons (pe_tup (pa_cons (pe_bltn (v := .ty "list") (by rfl) B.list boot_list rfl) (pa_cons (pe_bltn (v := .ty "tuple") (by rfl) B.tuple boot_tuple rfl) pa_nil))) pa_nil)))) (pss_cons ps_never (pss_cons ps_never (pss_one ps_never))) pss_nil)
        (pss_cons (ps_if (PW.pt (pw_or (pt_val (pe_callB call_isiT (by rfl) B.isinstance (by decide +kernel) (pa_cons (pv 1) (pa_cons (pe_tup (pa_cons (pe_bltn (v := .ty "bool") (by rfl) B.bool boot_bool rfl) (pa_cons (pe_bltn (v := .ty "str") (by rfl) B.str boot_str rfl) pa_nil))) pa_nil)))) (pw_or1 (pt_cmpR op_isN (pv 1) pe_non (nomark _))))) (pss_one (ps_ret (pe_and (pe_cmpR op_eq (pe_callB call_isi (by rfl) B.isinstance (by decide +kernel) (pa_cons (pv 0) (pa_cons (pe_bltn (v := .ty "bool") (by rfl) B.bool boot_bool rfl) pa_nil))) (pe_callB call_isi (by rfl) B.isinstance (by decide +kernel) (pa_cons (pv 1) (pa_cons (pe_bltn (v := .ty "bool") (by rfl) B.bool boot_bool rfl) pa_nil))) (nomark _)) (pe_one (pe_cmpR op_eq (pv 0) (pv 1) (nomark _)))))) pss_nil)
        (pss_one (ps_ret (pe_and (pe_callB call_isi (by rfl) B.isinstance (by decide +kernel) (pa_cons (pv 0) (pa_cons (pe_bltn (v := .ty "int") (by rfl) B.int boot_int rfl) pa_nil))) (pe_and (pe_not (pe_callB call_isi (by rfl) B.isinstance (by decide +kernel) (pa_cons (pv 0) (pa_cons (pe_bltn (v := .ty "bool") (by rfl) B.bool boot_bool rfl) pa_nil)))) (pe_one (pe_cmpR op_eq (pv 0) (pv 1) (nomark _))))))))), ?_⟩
      refine ⟨_, rfl, by show 2 ≤ sizeLine; decide, fun T nT => ?_⟩
      refine ⟨_, T, _, _, _, false, rfl, upd_same, .cons (.ty _) (.cons (.ty _) .nil), .base .non, kitA (kit_ty (by decide +kernel)) (kit_ty (by decide +kernel)), false, rfl, ?_⟩
      refine ⟨_, rfl, by show 2 ≤ sizeLine; decide, fun T2 nT2 => ?_⟩
      have s2 := (same_new (o := .tup [.ty "list", .ty "tuple"]) nT).trans (same_new (o := .tup [.ty "bool", .ty "str"]) nT2)
      refine ⟨_, T2, _, _, _, false, rfl, upd_same, .cons (.ty _) (.cons (.ty _) .nil), .base .non, kitA (kit_ty (by decide +kernel)) (kit_ty (by decide +kernel)), false, rfl, _, rfl, rfl, true, rfl, ?_⟩
      refine ⟨_, rfl, _, _, _, _, false, rfl, .ty _, .base .non, kit_ty (by decide +kernel), _, rfl, _, _, _, _, false, rfl, .ty _, .base .non, kit_ty (by decide +kernel), rfl, true, dT rfl, ?_⟩
      refine ⟨_, rfl, _, rfl, rfl, ?_⟩
      rw [decide_eq_true rfl]
      exact q _ s2
    | bl b =>
      cases h2
      refine ⟨_, (pss_cons (ps_if (pt_val (pe_callB call_isiT (by rfl) B.isinstance (by decide +kernel) (pa_cons (pv 1) (pa_cons (pe_tup (pa_cons (pe_bltn (v := .ty "list") (by rfl) B.list boot_list rfl) (pa_cons (pe_bltn (v := .ty "tuple") (by rfl) B.tuple boot_tuple rfl) pa_nil))) pa_nil)))) (pss_cons ps_never (pss_cons ps_never (pss_one ps_never))) pss_nil)
        (pss_cons (ps_if (PW.pt (pw_or (pt_val (pe_callB call_isiT (by rfl) B.isinstance (by decide +kernel) (pa_cons (pv 1) (pa_cons (pe_tup (pa_cons (pe_bltn (v := .ty "bool") (by rfl) B.bool boot_bool rfl) (pa_cons (pe_bltn (v := .ty "str") (by rfl) B.str boot_str rfl) pa_nil))) pa_nil)))) (pw_or1 (pt_cmpR op_isN (pv 1) pe_non (nomark _))))) (pss_one (ps_ret (pe_and (pe_cmpR op_eq (pe_callB call_isi (by rfl) B.isinstance (by decide +kernel) (pa_cons (pv 0) (pa_cons (pe_bltn (v := .ty "bool") (by rfl) B.bool boot_bool rfl) pa_nil))) (pe_callB call_isi (by rfl) B.isinstance (by decide +kernel) (pa_cons (pv 1) (pa_cons (pe_bltn (v := .ty "bool") (by rfl) B.bool boot_bool rfl) pa_nil))) (nomark _)) (pe_one (pe_cmpR op_eq (pv 0) (pv 1) (nomark _)))))) pss_nil)
        (pss_one (ps_ret (pe_and (pe_callB call_isi (by rfl) B.isinstance (by decide +kernel) (pa_cons (pv 0) (pa_cons (pe_bltn (v := .ty "int") (by rfl) B.int boot_int rfl) pa_nil))) (pe_and (pe_not (pe_callB call_isi (by rfl) B.isinstance (by decide +kernel) (pa_cons (pv 0) (pa_cons (pe_bltn (v := .ty "bool") (by rfl) B.bool boot_bool rfl) pa_nil)))) (pe_one (pe_cmpR op_eq (pv 0) (pv 1) (nomark _))))))))), ?_⟩
      refine ⟨_, rfl, by show 2 ≤ sizeLine; decide, fun T nT => ?_⟩
      refine ⟨_, T, _, _, _, false, rfl, upd_same, .cons (.ty _) (.cons (.ty _) .nil), .base (.bl b), kitA (kit_ty (by decide +kernel)) (kit_ty (by decide +kernel)), false, rfl, ?_⟩
      refine ⟨_, rfl, by show 2 ≤ sizeLine; decide, fun T2 nT2 => ?_⟩
      have s2 := (same_new (o := .tup [.ty "list", .ty "tuple"]) nT).trans (same_new (o := .tup [.ty "bool", .ty "str"]) nT2)
      refine ⟨_, T2, _, _, _, true, rfl, upd_same, .cons (.ty _) (.cons (.ty _) .nil), .base (.bl b), kitT (kit_ty (by decide +kernel)), true, rfl, ?_⟩
      refine ⟨_, rfl, _, _, _, _, true, rfl, .ty _, .base (.bl b), kit_ty (by decide +kernel), _, rfl, _, _, _, _, true, rfl, .ty _, .base (.bl b), kit_ty (by decide +kernel), rfl, true, dT rfl, ?_⟩
      refine ⟨_, rfl, _, rfl, rfl, ?_⟩
      rw [decide_eq_true rfl]
      exact q _ s2
    | int i =>
      cases h2
      refine ⟨_, (pss_cons (ps_if (pt_val (pe_callB call_isiT (by rfl) B.isinstance (by decide +kernel) (pa_cons (pv 1) (pa_cons (pe_tup (pa_cons (pe_bltn (v := .ty "list") (by rfl) B.list boot_list rfl) (pa_cons (pe_bltn (v := .ty "tuple") (by rfl) B.tuple boot_tuple rfl) pa_nil))) pa_nil)))) (pss_cons ps_never (pss_cons ps_never (pss_one ps_never))) pss_nil)
        (pss_cons (ps_if (PW.pt (pw_or (pt_val (pe_callB call_isiT (by rfl) B.isinstance (by decide +kernel) (pa_cons (pv 1) (pa_cons (pe_tup (pa_cons (pe_bltn (v := .ty "bool") (by rfl) B.bool boot_bool rfl) (pa_cons (pe_bltn (v := .ty "str") (by rfl) B.str boot_str rfl) pa_nil))) pa_nil)))) (pw_or1 (pt_cmpR op_isN (pv 1) pe_non (nomark _))))) (pss_one (ps_ret (pe_and (pe_cmpR op_eq (pe_callB call_isi (by rfl) B.isinstance (by decide +kernel) (pa_cons (pv 0) (pa_cons (pe_bltn (v := .ty "bool") (by rfl) B.bool boot_bool rfl) pa_nil))) (pe_callB call_isi (by rfl) B.isinstance (by decide +kernel) (pa_cons (pv 1) (pa_cons (pe_bltn (v := .ty "bool") (by rfl) B.bool boot_bool rfl) pa_nil))) (nomark _)) (pe_one (pe_cmpR op_eq (pv 0) (pv 1) (nomark _)))))) pss_nil)
        (pss_one (ps_ret (pe_and (pe_callB call_isi (by rfl) B.isinstance (by decide +kernel) (pa_cons (pv 0) (pa_cons (pe_bltn (v := .ty "int") (by rfl) B.int boot_int rfl) pa_nil))) (pe_and (pe_not (pe_callB call_isi (by rfl) B.isinstance (by decide +kernel) (pa_cons (pv 0) (pa_cons (pe_bltn (v := .ty "bool") (by rfl) B.bool boot_bool rfl) pa_nil)))) (pe_one (pe_cmpR op_eq (pv 0) (pv 1) (nomark _))))))))), ?_⟩
      refine ⟨_, rfl, by show 2 ≤ sizeLine; decide, fun T nT => ?_⟩
      refine ⟨_, T, _, _, _, false, rfl, upd_same, .cons (.ty _) (.cons (.ty _) .nil), .base (.int i), kitA (kit_ty (by decide +kernel)) (kit_ty (by decide +kernel)), false, rfl, ?_⟩
      refine ⟨_, rfl, by show 2 ≤ sizeLine; decide, fun T2 nT2 => ?_⟩
      have s2 := (same_new (o := .tup [.ty "list", .ty "tuple"]) nT).trans (same_new (o := .tup [.ty "bool", .ty "str"]) nT2)
      refine ⟨_, T2, _, _, _, false, rfl, upd_same, .cons (.ty _) (.cons (.ty _) .nil), .base (.int i), kitA (kit_ty (by decide +kernel)) (kit_ty (by decide +kernel)), false, rfl, _, rfl, rfl, false, dF (fun z => nomatch z), ?_⟩
      refine ⟨_, rfl, _, _, _, _, true, rfl, .ty _, .base (.int i), kit_ty (by decide +kernel), true, rfl, ?_⟩
      refine ⟨_, rfl, _, _, _, _, false, rfl, .ty _, .base (.int i), kit_ty (by decide +kernel), false, rfl, true, rfl, ?_⟩
      refine ⟨_, rfl, _, rfl, rfl, ?_⟩
      rw [decide_eq_true rfl]
      exact q _ s2
    | str x =>
      cases h2
      refine ⟨_, (pss_cons (ps_if (pt_val (pe_callB call_isiT (by rfl) B.isinstance (by decide +kernel) (pa_cons (pv 1) (pa_cons (pe_tup (pa_cons (pe_bltn (v := .ty "list") (by rfl) B.list boot_list rfl) (pa_cons (pe_bltn (v := .ty "tuple") (by rfl) B.tuple boot_tuple rfl) pa_nil))) pa_nil)))) (pss_cons ps_never (pss_cons ps_never (pss_one ps_never))) pss_nil)
        (pss_cons (ps_if (PW.pt (pw_or (pt_val (pe_callB call_isiT (by rfl) B.isinstance (by decide +kernel) (pa_cons (pv 1) (pa_cons (pe_tup (pa_cons (pe_bltn (v := .ty "bool") (by rfl) B.bool boot_bool rfl) (pa_cons (pe_bltn (v := .ty "str") (by rfl) B.str boot_str rfl) pa_nil))) pa_nil)))) (pw_or1 (pt_cmpR op_isN (pv 1) pe_non (nomark _))))) (pss_one (ps_ret (pe_and (pe_cmpR op_eq (pe_callB call_isi (by rfl) B.isinstance (by decide +kernel) (pa_cons (pv 0) (pa_cons (pe_bltn (v := .ty "bool") (by rfl) B.bool boot_bool rfl) pa_nil))) (pe_callB call_isi (by rfl) B.isinstance (by decide +kernel) (pa_cons (pv 1) (pa_cons (pe_bltn (v := .ty "bool") (by rfl) B.bool boot_bool rfl) pa_nil))) (nomark _)) (pe_one (pe_cmpR op_eq (pv 0) (pv 1) (nomark _)))))) pss_nil)
        (pss_one (ps_ret (pe_and (pe_callB call_isi (by rfl) B.isinstance (by decide +kernel) (pa_cons (pv 0) (pa_cons (pe_bltn (v := .ty "int") (by rfl) B.int boot_int rfl) pa_nil))) (pe_and (pe_not (pe_callB call_isi (by rfl) B.isinstance (by decide +kernel) (pa_cons (pv 0) (pa_cons (pe_bltn (v := .ty "bool") (by rfl) B.bool boot_bool rfl) pa_nil)))) (pe_one (pe_cmpR op_eq (pv 0) (pv 1) (nomark _))))))))), ?_⟩
      refine ⟨_, rfl, by show 2 ≤ sizeLine; decide, fun T nT => ?_⟩
      refine ⟨_, T, _, _, _, false, rfl, upd_same, .cons (.ty _) (.cons (.ty _) .nil), .base (.str x), kitA (kit_ty (by decide +kernel)) (kit_ty (by decide +kernel)), false, rfl, ?_⟩
      refine ⟨_, rfl, by show 2 ≤ sizeLine; decide, fun T2 nT2 => ?_⟩
      have s2 := (same_new (o := .tup [.ty "list", .ty "tuple"]) nT).trans (same_new (o := .tup [.ty "bool", .ty "str"]) nT2)
      refine ⟨_, T2, _, _, _, true, rfl, upd_same, .cons (.ty _) (.cons (.ty _) .nil), .base (.str x), kitA (kit_ty (by decide +kernel)) (kit_ty (by decide +kernel)), true, rfl, ?_⟩
      refine ⟨_, rfl, _, _, _, _, false, rfl, .ty _, .base (.str x), kit_ty (by decide +kernel), _, rfl, _, _, _, _, false, rfl, .ty _, .base (.str x), kit_ty (by decide +kernel), rfl, true, dT rfl, ?_⟩
      refine ⟨_, rfl, _, rfl, rfl, ?_⟩
      rw [decide_eq_true rfl]
      exact q _ s2
    | @lst a xs ds hs ha =>
      cases h2 with
      | @lst b ys _ hs2 ha2 =>
      obtain ⟨dsl, dsm⟩ : ds.length < 100000 ∧ ∀ x ∈ ds, okD (n - 1) x := by
        cases n with
        | zero => exact hd.elim
        | succ m => exact hd
      have l1 := dpAll_len ha
      have l2 := dpAll_len ha2
      refine ⟨_, (pss_cons (ps_if (pt_val (pe_callB call_isiT (by rfl) B.isinstance (by decide +kernel) (pa_cons (pv 1) (pa_cons (pe_tup (pa_cons (pe_bltn (v := .ty "list") (by rfl) B.list boot_list rfl) (pa_cons (pe_bltn (v := .ty "tuple") (by rfl) B.tuple boot_tuple rfl) pa_nil))) pa_nil)))) (pss_cons (ps_if (PW.pt (pw_or (pt_not (pt_val (pe_callB call_isiT (by rfl) B.isinstance (by decide +kernel) (pa_cons (pv 0) (pa_cons (pe_tup (pa_cons (pe_bltn (v := .ty "list") (by rfl) B.list boot_list rfl) (pa_cons (pe_bltn (v := .ty "tuple") (by rfl) B.tuple boot_tuple rfl) pa_nil))) pa_nil))))) (pw_or1 (pt_cmpR op_ne (pe_callB call_len_seq (by rfl) B.len PySem.boot_len (pa_cons (pv 0) pa_nil)) (pe_callB call_len_seq (by rfl) B.len PySem.boot_len (pa_cons (pv 1) pa_nil)) (nomark _))))) (pss_one (ps_ret pe_bl)) pss_nil)
          (pss_cons (ps_if (pt_cmpR op_ne (pe_callB call_isi (by rfl) B.isinstance (by decide +kernel) (pa_cons (pv 0) (pa_cons (pe_bltn (v := .ty "list") (by rfl) B.list boot_list rfl) pa_nil))) (pe_callB call_isi (by rfl) B.isinstance (by decide +kernel) (pa_cons (pv 1) (pa_cons (pe_bltn (v := .ty "list") (by rfl) B.list boot_list rfl) pa_nil))) (nomark _)) (pss_one (ps_ret pe_bl)) pss_nil)
          (pss_one (ps_ret (pe_callB (cr_all rfl) (by rfl) B.all (by decide +kernel) (pa_cons (pe_lc (own := [("one", 2), ("other", 3)]) (g := _) (tt := tYes) rfl sc_law_equal.nd (RZ.pi_zipA (by rfl) B.zip (pa_cons (pv 0) (pa_cons (pv 1) pa_nil))) (blkOk_by (own := [("one", 2), ("other", 3)]) (N := N_law_equal) (sc := defScope s_law_equal) (by decide +kernel)) (fun _ _ _ _ _ => (k_tup (K := K) (n := 2) rfl rfl (pgs_cons (pg_name (i := 2) sc_law_equal.nd rfl (Or.inl rfl)) (pgs_cons (pg_name (i := 3) sc_law_equal.nd rfl (Or.inl rfl)) pgs_nil)))) (fun _ _ _ _ _ => pts_nil) (fun _ _ _ _ _ => (pe_g T_law_equal hG hr (Nat.le_refl _) (by rfl) (pa_cons (pv 2) (pa_cons (pv 3) pa_nil))))) pa_nil)))))) pss_nil)
        (pss_cons (ps_if (PW.pt (pw_or (pt_val (pe_callB call_isiT (by rfl) B.isinstance (by decide +kernel) (pa_cons (pv 1) (pa_cons (pe_tup (pa_cons (pe_bltn (v := .ty "bool") (by rfl) B.bool boot_bool rfl) (pa_cons (pe_bltn (v := .ty "str") (by rfl) B.str boot_str rfl) pa_nil))) pa_nil)))) (pw_or1 (pt_cmpR op_isN (pv 1) pe_non (nomark _))))) (pss_one (ps_ret (pe_and (pe_cmpR op_eq (pe_callB call_isi (by rfl) B.isinstance (by decide +kernel) (pa_cons (pv 0) (pa_cons (pe_bltn (v := .ty "bool") (by rfl) B.bool boot_bool rfl) pa_nil))) (pe_callB call_isi (by rfl) B.isinstance (by decide +kernel) (pa_cons (pv 1) (pa_cons (pe_bltn (v := .ty "bool") (by rfl) B.bool boot_bool rfl) pa_nil))) (nomark _)) (pe_one (pe_cmpR op_eq (pv 0) (pv 1) (nomark _)))))) pss_nil)
        (pss_one (ps_ret (pe_and (pe_callB call_isi (by rfl) B.isinstance (by decide +kernel) (pa_cons (pv 0) (pa_cons (pe_bltn (v := .ty "int") (by rfl) B.int boot_int rfl) pa_nil))) (pe_and (pe_not (pe_callB call_isi (by rfl) B.isinstance (by decide +kernel) (pa_cons (pv 0) (pa_cons (pe_bltn (v := .ty "bool") (by rfl) B.bool boot_bool rfl) pa_nil)))) (pe_one (pe_cmpR op_eq (pv 0) (pv 1) (nomark _))))))))), ?_⟩
      refine ⟨_, rfl, by show 2 ≤ sizeLine; decide, fun T nT => ?_⟩
      have s1 := same_new (o := .tup [.ty "list", .ty "tuple"]) nT
      refine ⟨_, T, _, _, _, true, rfl, upd_same, .cons (.ty _) (.cons (.ty _) .nil), tyx_l (s1.seq hs2), kitT el, true, rfl, ?_⟩
      refine ⟨_, rfl, by show 2 ≤ sizeLine; decide, fun T2 nT2 => ?_⟩
      have s2 := s1.trans (same_new (o := .tup [.ty "list", .ty "tuple"]) nT2)
      refine ⟨_, T2, _, _, _, true, rfl, upd_same, .cons (.ty _) (.cons (.ty _) .nil), tyx_l (s2.seq hs), kitT el, true, rfl, ?_⟩
      refine ⟨_, rfl, a, _, rfl, .inl (s2.seq hs), _, rfl, b, _, rfl, .inl (s2.seq hs2), rfl, false, nF (by rw [l1, l2]), ?_⟩
      refine ⟨_, rfl, _, _, _, _, true, rfl, .ty _, tyx_l (s2.seq hs), el, _, rfl, _, _, _, _, true, rfl, .ty _, tyx_l (s2.seq hs2), el, rfl, false, nF rfl, ?_⟩
      refine ⟨_, rfl, _, rfl, a, b, xs, ys, rfl, .inl ⟨s2.seq hs, s2.seq hs2, fun D nD => lc_zipL (l1.trans l2.symm) (LcP (upd (upd H T (.tup [.ty "list", .ty "tuple"])) T2 (.tup [.ty "list", .ty "tuple"])) D fun i => (List.replicate i true).map V.bl) (.init nD rfl) (fun i H' _ p => ⟨p.2.1.seq (s2.seq hs), p.2.1.seq (s2.seq hs2)⟩) (fun i x y T3 H' hx hy nT3 p => ?_) (fun H' p => ?_)⟩⟩
      · obtain ⟨d1, e1, p1⟩ := dpAll_get ha hx
        obtain ⟨d2, e2, p2⟩ := dpAll_get ha2 hy
        rw [e1] at e2
        cases e2
        have s3 : Same H (upd H' T3 (.tup [x, y])) := (s2.trans p.2.1).trans (same_new nT3)
        have dd : okD (n - 1) d1 := dsm d1 (List.mem_of_getElem? e1)
        refine ⟨T3, _, rfl, .of upd_same, rfl, _, _, rfl, _, _, rfl, rfl, rfl, ?_⟩
        refine ⟨_, rfl, _, rfl, x, y, d1, rfl, dp_same s3 p1, dp_same s3 p2, dd, fun H4 s4 => ?_⟩
        refine p.put ((same_new nT3).trans s4) ?_ (by have := lt_get hx; rw [List.length_map, List.length_replicate]; omega)
        show (List.replicate (i + 1) true).map V.bl = _
        rw [List.replicate_succ', List.map_append]
        rfl
      · refine ⟨D, _, rfl, .of p.2.2, ?_⟩
        have e : (List.replicate xs.length true).all id = true := by
          rw [List.all_eq_true]
          intro z hz
          exact (List.eq_of_mem_replicate hz)
        rw [e]
        exact q _ (s2.trans p.2.1)
    | @tup a xs ds hs ha =>
      cases h2 with
      | @tup b ys _ hs2 ha2 =>
      obtain ⟨dsl, dsm⟩ : ds.length < 100000 ∧ ∀ x ∈ ds, okD (n - 1) x := by
        cases n with
        | zero => exact hd.elim
        | succ m => exact hd
      have l1 := dpAll_len ha
      have l2 := dpAll_len ha2
      refine ⟨_, (pss_cons (ps_if (pt_val (pe_callB call_isiT (by rfl) B.isinstance (by decide +kernel) (pa_cons (pv 1) (pa_cons (pe_tup (pa_cons (pe_bltn (v := .ty "list") (by rfl) B.list boot_list rfl) (pa_cons (pe_bltn (v := .ty "tuple") (by rfl) B.tuple boot_tuple rfl) pa_nil))) pa_nil)))) (pss_cons (ps_if (PW.pt (pw_or (pt_not (pt_val (pe_callB call_isiT (by rfl) B.isinstance (by decide +kernel) (pa_cons (pv 0) (pa_cons (pe_tup (pa_cons (pe_bltn (v := .ty "list") (by rfl) B.list boot_list rfl) (pa_cons (pe_bltn (v := .ty "tuple") (by rfl) B.tuple boot_tuple rfl) pa_nil))) pa_nil))))) (pw_or1 (pt_cmpR op_ne (pe_callB call_len_seq (by rfl) B.len PySem.boot_len (pa_cons (pv 0) pa_nil)) (pe_callB call_len_seq (by rfl) B.len PySem.boot_len (pa_cons (pv 1) pa_nil)) (nomark _))))) (pss_one (ps_ret pe_bl)) pss_nil)
          (pss_cons (ps_if (pt_cmpR op_ne (pe_callB call_isi (by rfl) B.isinstance (by decide +kernel) (pa_cons (pv 0) (pa_cons (pe_bltn (v := .ty "list") (by rfl) B.list boot_list rfl) pa_nil))) (pe_callB call_isi (by rfl) B.isinstance (by decide +kernel) (pa_cons (pv 1) (pa_cons (pe_bltn (v := .ty "list") (by rfl) B.list boot_list rfl) pa_nil))) (nomark _)) (pss_one (ps_ret pe_bl)) pss_nil)
          (pss_one (ps_ret (pe_callB (cr_all rfl) (by rfl) B.all (by decide +kernel) (pa_cons (pe_lc (own := [("one", 2), ("other", 3)]) (g := _) (tt := tYes) rfl sc_law_equal.nd (RZ.pi_zipA (by rfl) B.zip (pa_cons (pv 0) (pa_cons (pv 1) pa_nil))) (blkOk_by (own := [("one", 2), ("other", 3)]) (N := N_law_equal) (sc := defScope s_law_equal) (by decide +kernel)) (fun _ _ _ _ _ => (k_tup (K := K) (n := 2) rfl rfl (pgs_cons (pg_name (i := 2) sc_law_equal.nd rfl (Or.inl rfl)) (pgs_cons (pg_name (i := 3) sc_law_equal.nd rfl (Or.inl rfl)) pgs_nil)))) (fun _ _ _ _ _ => pts_nil) (fun _ _ _ _ _ => (pe_g T_law_equal hG hr (Nat.le_refl _) (by rfl) (pa_cons (pv 2) (pa_cons (pv 3) pa_nil))))) pa_nil)))))) pss_nil)
        (pss_cons (ps_if (PW.pt (pw_or (pt_val (pe_callB call_isiT (by rfl) B.isinstance (by decide +kernel) (pa_cons (pv 1) (pa_cons (pe_tup (pa_cons (pe_bltn (v := .ty "bool") (by rfl) B.bool boot_bool rfl) (pa_cons (pe_bltn (v := .ty "str") (by rfl) B.str boot_str rfl) pa_nil))) pa_nil)))) (pw_or1 (pt_cmpR op_isN (pv 1) pe_non (nomark _))))) (pss_one (ps_ret (pe_and (pe_cmpR op_eq (pe_callB call_isi (by rfl) B.isinstance (by decide +kernel) (pa_cons (pv 0) (pa_cons (pe_bltn (v := .ty "bool") (by rfl) B.bool boot_bool rfl) pa_nil))) (pe_callB call_isi (by rfl) B.isinstance (by decide +kernel) (pa_cons (pv 1) (pa_cons (pe_bltn (v := .ty "bool") (by rfl) B.bool boot_bool rfl) pa_nil))) (nomark _)) (pe_one (pe_cmpR op_eq (pv 0) (pv 1) (nomark _)))))) pss_nil)
        (pss_one (ps_ret (pe_and (pe_callB call_isi (by rfl) B.isinstance (by decide +kernel) (pa_cons (pv 0) (pa_cons (pe_bltn (v := .ty "int") (by rfl) B.int boot_int rfl) pa_nil))) (pe_and (pe_not (pe_callB call_isi (by rfl) B.isinstance (by decide +kernel) (pa_cons (pv 0) (pa_cons (pe_bltn (v := .ty "bool") (by rfl) B.bool boot_bool rfl) pa_nil)))) (pe_one (pe_cmpR op_eq (pv 0) (pv 1) (nomark _))))))))), ?_⟩
      refine ⟨_, rfl, by show 2 ≤ sizeLine; decide, fun T nT => ?_⟩
      have s1 := same_new (o := .tup [.ty "list", .ty "tuple"]) nT
      refine ⟨_, T, _, _, _, true, rfl, upd_same, .cons (.ty _) (.cons (.ty _) .nil), tyx_t (seqT s1 hs2), kitA tl tt, true, rfl, ?_⟩
      refine ⟨_, rfl, by show 2 ≤ sizeLine; decide, fun T2 nT2 => ?_⟩
      have s2 := s1.trans (same_new (o := .tup [.ty "list", .ty "tuple"]) nT2)
      refine ⟨_, T2, _, _, _, true, rfl, upd_same, .cons (.ty _) (.cons (.ty _) .nil), tyx_t (seqT s2 hs), kitA tl tt, true, rfl, ?_⟩
      refine ⟨_, rfl, a, _, rfl, .inr (seqT s2 hs), _, rfl, b, _, rfl, .inr (seqT s2 hs2), rfl, false, nF (by rw [l1, l2]), ?_⟩
      refine ⟨_, rfl, _, _, _, _, false, rfl, .ty _, tyx_t (seqT s2 hs), tl, _, rfl, _, _, _, _, false, rfl, .ty _, tyx_t (seqT s2 hs2), tl, rfl, false, nF rfl, ?_⟩
      refine ⟨_, rfl, _, rfl, a, b, xs, ys, rfl, .inr ⟨seqT s2 hs, seqT s2 hs2, fun D nD => lc_zipT (l1.trans l2.symm) (LcP (upd (upd H T (.tup [.ty "list", .ty "tuple"])) T2 (.tup [.ty "list", .ty "tuple"])) D fun i => (List.replicate i true).map V.bl) (.init nD rfl) (fun i H' _ p => ⟨seqT p.2.1 (seqT s2 hs), seqT p.2.1 (seqT s2 hs2)⟩) (fun i x y T3 H' hx hy nT3 p => ?_) (fun H' p => ?_)⟩⟩
      · obtain ⟨d1, e1, p1⟩ := dpAll_get ha hx
        obtain ⟨d2, e2, p2⟩ := dpAll_get ha2 hy
        rw [e1] at e2
        cases e2
        have s3 : Same H (upd H' T3 (.tup [x, y])) := (s2.trans p.2.1).trans (same_new nT3)
        have dd : okD (n - 1) d1 := dsm d1 (List.mem_of_getElem? e1)
        refine ⟨T3, _, rfl, .of upd_same, rfl, _, _, rfl, _, _, rfl, rfl, rfl, ?_⟩
        refine ⟨_, rfl, _, rfl, x, y, d1, rfl, dp_same s3 p1, dp_same s3 p2, dd, fun H4 s4 => ?_⟩
        refine p.put ((same_new nT3).trans s4) ?_ (by have := lt_get hx; rw [List.length_map, List.length_replicate]; omega)
        show (List.replicate (i + 1) true).map V.bl = _
        rw [List.replicate_succ', List.map_append]
        rfl
      · refine ⟨D, _, rfl, .of p.2.2, ?_⟩
        have e : (List.replicate xs.length true).all id = true := by
          rw [List.all_eq_true]
          intro z hz
          exact (List.eq_of_mem_replicate hz)
        rw [e]
        exact q _ (s2.trans p.2.1)
/-- .. for data of at most n levels -/
theorem ok_law_equal_D {f : Addr} {fd : FuncData} (F : Fun K "_law_equal" "_law_equal" s_law_equal f fd) (B : NoB mg) (hm : mg "_law_equal" = some (.ref f)) (b : Binds K fd ["result", "expected"] []) : ∀ n : Nat, FnG P w K mg base CX0 (n + 1) f fd ["result", "expected"] (spEqD K n)
  | 0 => by
    refine ok_law_equal_0 F B
  | n + 1 => ok_law_equal_step F B (n + 1) ⟨f, fd, _, ok_law_equal_D F B hm b n, hm, F.kp, b⟩
end
/-! ### the orders that leave a value -/
theorem grp_eq {ns R : List Int} (hh : Hist ns) (pR : R.Perm (runL ns)) (h5 : R.length ≤ 5) {v : Int} {f : Ft} (hf : fate ns ns.length v = some f) :
    ((allR R).filter fun O => decide (leftP ns O = v)) = (List.range (cntL ns f)).map fun i => nthL R i f := by
  have nd : R.Nodup := pR.nodup_iff.mpr ((stL_nd hh).sublist List.filter_sublist)
  have lR := pR.length_eq
  have inR : ∀ k ∈ R, k ∈ ns ∧ 0 < k ∧ -k ∉ ns := fun k hk => mem_run.mp (pR.mem_iff.mp hk)
  cases hR : R with
  | nil =>
    have r0 : runL ns = [] := List.length_eq_zero_iff.mp (by rw [← lR, hR]; rfl)
    have e0 : allR [] = [[]] := rfl
    rw [e0, List.filter_cons, List.filter_nil, left_nil]
    cases f with
    | pres =>
      have c : cntL ns .pres = 1 := if_pos r0
      rw [c, fate_pres hf, if_pos (decide_eq_true rfl)]
      rfl
    | saved e =>
      obtain ⟨e0, e1, e2, _⟩ := fate_saved hh hf
      have : e ∈ runL ns := mem_run.mpr ⟨e1, e0, e2⟩
      rw [r0] at this
      exact absurd this List.not_mem_nil
    | lost i =>
      have : ¬ (runP ns).1 = v := fun z => by
        rw [← z, fate_now] at hf
        cases hf
      rw [decide_eq_false this]
      rfl
  | cons x xs =>
    rw [← hR]
    obtain ⟨m, hm⟩ : ∃ m, R.length = m + 1 := ⟨xs.length, by rw [hR]; rfl⟩
    have lastIn : ∀ O ∈ allR R, ∃ k, O.getLast? = some k ∧ k ∈ R ∧ leftP ns O = (runP ns).2 k := fun O hO => by
      have p := allR_perm nd h5 O hO
      have ne : O ≠ [] := fun z => by
        have := p.length_eq
        rw [z, hm] at this
        cases this
      have hl : O.getLast? = some (O.getLast ne) := List.getLast?_eq_some_getLast ne
      exact ⟨_, hl, p.mem_iff.mp (List.getLast_mem ne), left_last (fun k hk => (inR k (p.mem_iff.mp hk)).2.1) hl⟩
    have ft : ∀ O ∈ allR R, ∀ k, O.getLast? = some k → leftP ns O = v → f = .saved k := fun O hO k hk e => by
      obtain ⟨k', e1, e2, e3⟩ := lastIn O hO
      rw [hk] at e1
      cases e1
      have z := fate_run hh (inR k e2).2.1 (inR k e2).1 (inR k e2).2.2
      rw [← e3, e, hf] at z
      exact Option.some.inj z
    cases f with
    | saved e =>
      obtain ⟨e0, e1, e2, e3⟩ := fate_saved hh hf
      have er : e ∈ R := pR.mem_iff.mpr (mem_run.mpr ⟨e1, e0, e2⟩)
      have same : ((allR R).filter fun O => decide (leftP ns O = v)) = (allR R).filter fun O => decide (O.getLast? = some e) := List.filter_congr fun O hO => decide_eq_decide.mpr (by
        constructor
        · intro h
          obtain ⟨k, h1, h2, h3⟩ := lastIn O hO
          have := ft O hO k h1 h
          cases this
          exact h1
        · intro h
          obtain ⟨k, h1, h2, h3⟩ := lastIn O hO
          rw [h] at h1
          cases h1
          rw [h3, e3])
      have c : cntL ns (.saved e) = facN m := by
        show facN ((runL ns).length - 1) = _
        rw [← lR, hm]
        rfl
      rw [same, allR_last nd hm h5 er, c]
      refine List.map_congr_left fun i _ => ?_
      show _ = nthG (R.length - 1) (outP R e) i ++ [e]
      rw [hm]
      rfl
    | pres =>
      have c : cntL ns .pres = 0 := if_neg fun z => by
        rw [z, hm] at lR
        cases lR
      rw [c]
      refine List.filter_eq_nil_iff.mpr fun O hO h => ?_
      obtain ⟨k, h1, _, _⟩ := lastIn O hO
      cases ft O hO k h1 (of_decide_eq_true h)
    | lost i =>
      refine List.filter_eq_nil_iff.mpr fun O hO h => ?_
      obtain ⟨k, h1, _, _⟩ := lastIn O hO
      cases ft O hO k h1 (of_decide_eq_true h)
theorem nthL_perm {ns R : List Int} (hh : Hist ns) (pR : R.Perm (runL ns)) (h5 : R.length ≤ 5) {v : Int} {f : Ft} (hf : fate ns ns.length v = some f) {i : Nat} (hi : i < cntL ns f) : (nthL R i f).Perm R ∧ ∃ S : List Int, S.Perm (nthL R i f).dropLast ∧ (R.Pairwise (· ≤ ·) → S.Pairwise (· ≤ ·)) ∧ rankG S (nthL R i f).dropLast 0 = i := by
  have nd : R.Nodup := pR.nodup_iff.mpr ((stL_nd hh).sublist List.filter_sublist)
  have lR := pR.length_eq
  cases f with
  | saved e =>
    obtain ⟨e0, e1, e2, e3⟩ := fate_saved hh hf
    have er : e ∈ R := pR.mem_iff.mpr (mem_run.mpr ⟨e1, e0, e2⟩)
    obtain ⟨m, hm⟩ : ∃ m, R.length = m + 1 := ⟨R.length - 1, by have := List.length_pos_of_mem er; omega⟩
    have hi : i < facN m := by
      have c : cntL ns (.saved e) = facN ((runL ns).length - 1) := rfl
      rw [c, ← lR, hm] at hi
      exact hi
    obtain ⟨p, rk, ln⟩ := nth_perm nd hm h5 er hi
    have en : nthL R i (.saved e) = nthG m (outP R e) i ++ [e] := by
      show nthG (R.length - 1) (outP R e) i ++ [e] = _
      rw [hm]
      rfl
    rw [en, List.dropLast_concat]
    refine ⟨?_, outP R e, p.symm, fun w => w.sublist List.filter_sublist, rk⟩
    have z2 : outP R e = R.erase e := by
      unfold outP
      rw [nd.erase_eq_filter]
      refine List.filter_congr fun x _ => ?_
      by_cases h : x = e <;> simp [h]
    rw [z2] at p
    rw [z2]
    exact (List.perm_append_comm.trans (List.Perm.cons e p)).trans (List.perm_cons_erase er).symm
  | pres =>
    have r0 : runL ns = [] := by
      by_cases h : runL ns = []
      · exact h
      · have c : cntL ns .pres = 0 := if_neg h
        rw [c] at hi
        exact absurd hi (Nat.not_lt_zero _)
    have eR : R = [] := List.length_eq_zero_iff.mp (by rw [lR, r0]; rfl)
    have c : cntL ns .pres = 1 := if_pos r0
    rw [c] at hi
    have i0 : i = 0 := by omega
    subst i0
    rw [eR]
    exact ⟨.nil, [], .nil, fun w => w, rfl⟩
  | lost j => exact absurd hi (Nat.not_lt_zero _)
/-! ### the groups -/
def selA (g : List Int → Bool) : List Addr → List (List Int) → List Addr
  | p :: ps, O :: F => if g O = true then p :: selA g ps F else selA g ps F
  | _, _ => []
theorem selA_lls {H : Hp} {g : List Int → Bool} : ∀ {ps : List Addr} {F : List (List Int)}, LLs H ps F → LLs H (selA g ps F) (F.filter g)
  | _, _, .nil => .nil
  | _, _, .cons (r := r) h t => by
    show LLs H (if g r = true then _ :: selA g _ _ else selA g _ _) _
    rw [List.filter_cons]
    by_cases c : g r = true
    · rw [if_pos c, if_pos c]
      exact .cons h (selA_lls t)
    · rw [if_neg c, if_neg c]
      exact selA_lls t
theorem selA_app {g : List Int → Bool} : ∀ {ps : List Addr} {F : List (List Int)} {p : Addr} {O : List Int}, ps.length = F.length → selA g (ps ++ [p]) (F ++ [O]) = selA g ps F ++ if g O = true then [p] else []
  | [], [], p, O, _ => by
    show (if g O = true then p :: selA g [] [] else selA g [] []) = [] ++ _
    rfl
  | q :: ps, r :: F, p, O, h => by
    have ih := selA_app (g := g) (ps := ps) (F := F) (p := p) (O := O) (Nat.succ.inj h)
    show (if g r = true then q :: selA g (ps ++ [p]) (F ++ [O]) else selA g (ps ++ [p]) (F ++ [O])) = (if g r = true then q :: selA g ps F else selA g ps F) ++ _
    rw [ih]
    split <;> rfl
  | [], _ :: _, _, _, h => nomatch h
  | _ :: _, [], _, _, h => nomatch h
def lv (ns : List Int) (v : Int) : List Int → Bool := fun O => decide (leftP ns O = v)
/-- the dict of the groups of the first orders -/
structure Grp (ns : List Int) (H : Hp) (g : Addr) (ps : List Addr) (F : List (List Int)) : Prop where
  ex : ∃ kvs, H g = some (.dK kvs) ∧ kvs.length ≤ F.length ∧ ∀ v : Int, (F.filter (lv ns v) = [] → valV kvs (Sum.inl v) = none) ∧ (F.filter (lv ns v) ≠ [] → ∃ q, valV kvs (Sum.inl v) = some (.ref q) ∧ H q = some (.lst ((selA (lv ns v) ps F).map V.ref)))
end L12
set_option Elab.async false
set_option linter.all false
set_option maxRecDepth 100000
namespace L12
open PySem PySem.Spec PyProof.Rows L2 Lp
theorem Hist.take {ns : List Int} (h : Hist ns) (b : Nat) : Hist (ns.take b) := by
  refine ⟨fun e he => h.rng e (List.mem_of_mem_take he), h.nd.sublist (List.take_sublist _ _), fun i e he h0 => ?_, Nat.le_trans (List.take_sublist _ _).length_le h.len⟩
  have hl : i < (ns.take b).length := (List.getElem?_eq_some_iff.mp he).1
  rw [List.length_take] at hl
  rw [List.getElem?_take_of_lt (by omega)] at he
  rw [List.take_take, Nat.min_eq_left (by omega)]
  exact h.ord i e he h0
/-! ### lists of lists of ints as data -/
abbrev dL (rows : List (List Int)) : PyData := .list (rows.map dI)
theorem layL : ∀ rows : List (List Int), PyData.canLayAll0 (rows.map dI) = true
  | [] => rfl
  | r :: rest => by
    show (PyData.canLay0 (dI r) && PyData.canLayAll0 (rest.map dI)) = true
    rw [layL rest]
    show (PyData.canLayAll0 (r.map PyData.int) && true) = true
    rw [lay_ints]
    rfl
theorem depL : ∀ rows : List (List Int), PyData.depthAll (rows.map dI) ≤ 1
  | [] => Nat.zero_le _
  | r :: rest => by
    show max (PyData.depthAll (r.map PyData.int) + 1) (PyData.depthAll (rest.map dI)) ≤ 1
    rw [depth_ints]
    exact Nat.max_le.mpr ⟨Nat.le_refl _, depL rest⟩
theorem shapedL (rows : List (List Int)) : SeqAt.shaped (dL rows) = true := by
  show (PyData.canLayAll0 (rows.map dI) && decide (PyData.depthAll (rows.map dI) + 1 ≤ 64)) = true
  have := depL rows
  rw [layL, decide_eq_true (show PyData.depthAll (rows.map dI) + 1 ≤ 64 by omega)]
  rfl
theorem eqvL : ∀ rows : List (List Int), PyData.eqvAll (rows.map dI) (rows.map dI) = true
  | [] => rfl
  | r :: rest => by
    show (PyData.eqv (dI r) (dI r) && PyData.eqvAll (rest.map dI) (rest.map dI)) = true
    rw [eqvL rest, eqv_ints, decide_eq_true rfl]
    rfl
theorem neqL (rows : List (List Int)) : V.bl (!PyData.eqv (dL rows) (dL rows)) = V.bl false := by
  have e : PyData.eqv (dL rows) (dL rows) = true := eqvL rows
  rw [e]
  rfl
theorem noDictL : ∀ rows : List (List Int), PyData.hasDictAll (rows.map dI) = false
  | [] => rfl
  | r :: rest => by
    show (PyData.hasDictAll (r.map PyData.int) || PyData.hasDictAll (rest.map dI)) = false
    rw [noDictL rest, noDict_ints]
    rfl
theorem showL : ∀ rows : List (List Int), (∀ r ∈ rows, ∀ n ∈ r, -100 ≤ n ∧ n ≤ 100) → PyData.showableAll (rows.map dI) = true
  | [], _ => rfl
  | r :: rest, h => by
    show (PyData.showableAll (r.map PyData.int) && PyData.showableAll (rest.map dI)) = true
    rw [showL rest fun x hx => h x (List.mem_cons_of_mem _ hx), show_ints r fun n hn => log2_small (h r List.mem_cons_self n hn).1 (h r List.mem_cons_self n hn).2]
    rfl
theorem shown_le {ns : List Int} (hb : ∀ n ∈ ns, -100 ≤ n ∧ n ≤ 100) (hl : ns.length ≤ 200) : (dI ns).shown.length ≤ 1300 := by
  show (textFrom 0 "[" (PyData.shownAll (ns.map PyData.int)) ++ ("]" : Str)).length ≤ 1300
  rw [Str.length_append]
  have z := textFrom_le (PyData.shownAll (ns.map PyData.int)) 0 "[" 4 (fun t ht => by
    obtain ⟨n, hn, e⟩ := shownAll_mem ns t ht
    rw [e]
    exact num_len n (hb n hn).1 (hb n hn).2)
  rw [shownAll_len] at z
  have e1 : ("[" : Str).length = 1 := rfl
  have e2 : ("]" : Str).length = 1 := rfl
  rw [e1] at z
  rw [e2]
  omega
theorem shownL2 {r : List Int} (hb : ∀ n ∈ r, -100 ≤ n ∧ n ≤ 100) (hl : r.length ≤ 200) : (dL [r, r]).shown.length ≤ sizeLine := by
  have h := shown_le hb hl
  show (textFrom 0 "[" [(dI r).shown, (dI r).shown] ++ ("]" : Str)).length ≤ sizeLine
  rw [Str.length_append]
  have z := textFrom_le [(dI r).shown, (dI r).shown] 0 "[" 1300 (fun t ht => by
    rcases List.mem_cons.mp ht with e | e
    · rw [e]; exact h
    · rw [List.mem_singleton.mp e]; exact h)
  have e1 : ("[" : Str).length = 1 := rfl
  have e2 : ("]" : Str).length = 1 := rfl
  have e3 : [(dI r).shown, (dI r).shown].length = 2 := rfl
  rw [e1, e3] at z
  rw [e2]
  exact Lp.zs (by omega)
/-! ### sorted lists of lists -/
/-! ### lists of lists, by what they hold -/
def toI : V → Int
  | .int n => n
  | _ => 0
def kH (H : Hp) : V → List Int
  | .ref a => match H a with
    | some (.lst xs) => xs.map toI
    | _ => []
  | _ => []
theorem kH_ref {H : Hp} {a : Addr} {r : List Int} (h : H a = some (.lst (r.map V.int))) : kH H (.ref a) = r := by
  show (match H a with
    | some (.lst xs) => xs.map toI
    | _ => []) = r
  rw [h]
  show (r.map V.int).map toI = r
  rw [List.map_map]
  exact (List.map_congr_left fun _ _ => rfl).trans (List.map_id r)
theorem rr_key {H : Hp} : ∀ {rs : List V} {rows : List (List Int)}, RowsR H rs rows → rs.map (kH H) = rows
  | [], [], _ => rfl
  | [], _ :: _, h => absurd h.1 (by simp)
  | _ :: _, [], h => absurd h.1 (by simp)
  | v :: rs, r :: rows, h => by
    obtain ⟨a, b, c⟩ := h.2 0 r rfl
    have e : v = .ref a := Option.some.inj b
    subst e
    rw [List.map_cons, kH_ref c, rr_key ⟨Nat.succ.inj h.1, fun i row e => h.2 (i + 1) row e⟩]
theorem rr_mem {H : Hp} {rs : List V} {rows : List (List Int)} (h : RowsR H rs rows) {x : V} (hx : x ∈ rs) : ∃ t, x = .ref t ∧ H t = some (.lst ((kH H x).map V.int)) := by
  obtain ⟨i, hi, e⟩ := List.mem_iff_getElem.mp hx
  have hi2 : i < rows.length := by rw [← h.1]; exact hi
  obtain ⟨a, b, c⟩ := h.2 i _ (List.getElem?_eq_getElem hi2)
  rw [List.getElem?_eq_getElem hi, e] at b
  have e2 : x = .ref a := Option.some.inj b
  subst e2
  exact ⟨a, rfl, by rw [kH_ref c]; exact c⟩
theorem rr_of {H : Hp} {k : V → List Int} : ∀ {ys : List V}, (∀ y ∈ ys, ∃ t, y = .ref t ∧ H t = some (.lst ((k y).map V.int))) → RowsR H ys (ys.map k)
  | [], _ => RowsR.nil H
  | y :: ys, h => by
    obtain ⟨t, rfl, e⟩ := h y List.mem_cons_self
    exact (RowsR.one e).app (rr_of fun z hz => h z (List.mem_cons_of_mem _ hz))
theorem dp_of {K : PySem.W.Frag} {H H' : Hp} {k : V → List Int} (s : Same H H') : ∀ {ys : List V}, (∀ y ∈ ys, ∃ t, y = .ref t ∧ H t = some (.lst ((k y).map V.int))) → DpAll K H' ys ((ys.map k).map dI)
  | [], _ => .nil
  | y :: ys, h => by
    obtain ⟨t, rfl, e⟩ := h y List.mem_cons_self
    exact .cons (dp_ints (.of (s _ _ e))) (dp_of s fun z hz => h z (List.mem_cons_of_mem _ hz))
section
variable {P : Program} {w : World} {K : PySem.W.Frag} {mg : Str → Option Value} {base : Heap}
/-! ### _law_holds -/
theorem LLs.mem {H : Hp} : ∀ {ps : List Addr} {F : List (List Int)} {t : Addr}, LLs H ps F → t ∈ ps → ∃ r ∈ F, H t = some (.lst (r.map V.int))
  | _, _, _, .cons h t, hm => by
    rcases List.mem_cons.mp hm with rfl | hm
    · exact ⟨_, List.mem_cons_self, h⟩
    · obtain ⟨r, h1, h2⟩ := LLs.mem t hm
      exact ⟨r, List.mem_cons_of_mem _ h1, h2⟩
theorem selA_len {g : List Int → Bool} : ∀ {ps : List Addr} {F : List (List Int)}, ps.length = F.length → (selA g ps F).length = (F.filter g).length
  | [], [], _ => rfl
  | _ :: ps, r :: F, h => by
    have ih := selA_len (g := g) (ps := ps) (F := F) (Nat.succ.inj h)
    show (if g r = true then _ :: selA g ps F else selA g ps F).length = _
    rw [List.filter_cons]
    split
    · rw [List.length_cons, List.length_cons, ih]
    · exact ih
  | [], _ :: _, h => nomatch h
  | _ :: _, [], h => nomatch h
theorem Grp.bt {ns : List Int} {H H' : Hp} {g : Addr} {ps : List Addr} {F : List (List Int)} (h : Grp ns H g ps F) (s : Same H H') : Grp ns H' g ps F := by
  obtain ⟨kvs, h1, h2, h3⟩ := h
  refine ⟨kvs, s _ _ h1, h2, fun v => ⟨(h3 v).1, fun ne => ?_⟩⟩
  obtain ⟨q, q1, q2⟩ := (h3 v).2 ne
  exact ⟨q, q1, s _ _ q2⟩
def spHolds : Sp := fun vs H Q _ => ∃ (src : Addr) (most : Int) (n : Nat), vs = [.ref src, .int most] ∧ Src H src n ∧ n ≤ 100000 ∧ 0 ≤ most ∧ most ≤ 9 ∧ ∀ H', Bt src H H' → Q (.bl true) H'
set_option maxHeartbeats 4000000 in
theorem ok_law_holds {f : Addr} {fd : FuncData} (F : Fun K "_law_holds" "_law_holds" s_law_holds f fd) (B : NoB mg) (T_law_row : Gc P w K mg base 2 "_law_row" spRow) (T_law_active : Gc P w K mg base 1 "_law_active" (spAct K)) (T_law_all : Gc P w K mg base 1 "_law_all" (spAll K)) (T_law_play : Gc P w K mg base 1 "_law_play" (spPlay K)) (T_law_equal : Gc P w K mg base 3 "_law_equal" (spEqD K 2)) (T_left_by : Gc P w K mg base 10 "left_by" (spLeft K)) (T_count_orders : Gc P w K mg base 8 "count_orders" (spCntO K)) (T_count_leaving : Gc P w K mg base 8 "count_leaving" (spCntL K)) (T_nth_leaving : Gc P w K mg base 9 "nth_leaving" (spNthL K)) (T_leaving_rank : Gc P w K mg base 10 "leaving_rank" (spLRank K)) :
    FnG P w K mg base CX0 11 f fd ["source", "most"] spHolds := by
  refine okG F sc_law_holds (fun vs H Q E h => ?_) (fun cdv A outer s H vs Q E hG hr h => ?_)
  · obtain ⟨src, most, n, rfl, _⟩ := h
    rfl
  · obtain ⟨src, most, n, rfl, hs, hn, o1, o2, q⟩ := h
    have hu := hu_of hr
    have hu64 := hr.units
    refine ⟨_, (pss_cons (ps_for PassesOwn.never rfl (pi_range1 rfl B.range (pa_cons pe_int pa_nil)) (pg_name (i := 2) sc_law_holds.nd rfl (Or.inl rfl))
          (pss_cons (ps_set (i := 3) sc_law_holds.nd rfl (Or.inr rfl) (pe_g T_law_row hG hr (by decide) (by rfl) (pa_cons (pv 0) (pa_cons (pv 1) pa_nil))))
          (pss_cons (ps_while PassesOwn.never (pt_cmpR op_gt (pe_callB call_len_seq (by rfl) B.len PySem.boot_len (pa_cons (pe_g T_law_active hG hr (by decide) (by rfl) (pa_cons (pv 3) pa_nil)) pa_nil)) pe_int (nomark _)) (pss_one (ps_expr (pe_bm0 PySem.F.plainAttrs_list PySem.F.slot_list_pop PySem.F.type_list_pop mt_pop (pv 3)))))
          (pss_cons (ps_par3 (i := 4) (j := 5) (l := 6) (by rfl) sc_law_holds.nd rfl rfl rfl (by decide) (by decide) (by decide) rfl rfl rfl (pa_cons (pe_callB (call_repr hG hu64) (by rfl) B.repr (by decide +kernel) (pa_cons (pv 3) pa_nil)) (pa_cons pe_dnewK (pa_cons (pe_g T_law_all hG hr (by decide) (by rfl) (pa_cons (pe_g T_law_active hG hr (by decide) (by rfl) (pa_cons (pv 3) pa_nil)) pa_nil)) pa_nil))) (by rfl))
          (pss_cons (ps_for PassesOwn.never rfl (pi_list (pv 6)) (pg_name (i := 7) sc_law_holds.nd rfl (Or.inl rfl))
            (pss_cons (ps_set (i := 8) sc_law_holds.nd rfl (Or.inl rfl) (pe_op op_cat (pv 3) (pe_lc (own := [("patch", 15)]) (g := gName 15) (tt := tYes) rfl sc_law_holds.nd (pi_list (pv 7)) (blkOk_by (own := [("patch", 15)]) (N := N_law_holds) (sc := defScope s_law_holds) (by decide +kernel)) (fun _ _ _ _ _ => (pg_name (i := 15) sc_law_holds.nd rfl (Or.inl rfl))) (fun _ _ _ _ _ => pts_nil) (fun _ _ _ _ _ => (pe_op op_sub pe_int (pv 15))))))
            (pss_cons (ps_set (i := 9) sc_law_holds.nd rfl (Or.inl rfl) (pe_ix ix_list (pe_op op_cat (pe_lst (pa_cons pe_int pa_nil)) (pe_ix ix_list (pe_g T_law_play hG hr (by decide) (by rfl) (pa_cons (pv 8) pa_nil)) pe_int (fun _ _ => rfl))) (pe_un un_neg pe_int) (fun _ _ => rfl)))
            (pss_cons (ps_if (pt_not (pt_val (pe_g T_law_equal hG hr (by decide) (by rfl) (pa_cons (pe_g T_left_by hG hr (by decide) (by rfl) (pa_cons (pv 3) (pa_cons (pv 7) pa_nil))) (pa_cons (pv 9) pa_nil))))) (pss_one (ps_ret pe_bl)) pss_nil)
            (pss_one (ps_dput hu (pv 5) (pv 9) (pe_op op_cat (pe_dget2 hu (pv 5) (pv 9) (pe_lst pa_nil) (by constructor <;> rfl)) (pe_lst (pa_cons (pv 7) pa_nil))) rfl))))))
          (pss_cons (ps_if (pt_not (pt_val (pe_g T_law_equal hG hr (by decide) (by rfl) (pa_cons (pe_g T_count_orders hG hr (by decide) (by rfl) (pa_cons (pv 3) pa_nil)) (pa_cons (pe_callB call_len_seq (by rfl) B.len PySem.boot_len (pa_cons (pv 6) pa_nil)) pa_nil))))) (pss_one (ps_ret pe_bl)) pss_nil)
          (pss_cons (ps_for PassesOwn.never rfl (pi_list (pe_op op_cat (pe_lst (pa_cons pe_int pa_nil)) (pe_lc (own := [("event", 16)]) (g := gName 16) (tt := _) rfl sc_law_holds.nd (pi_list (pv 3)) (blkOk_by (own := [("event", 16)]) (N := N_law_holds) (sc := defScope s_law_holds) (by decide +kernel)) (fun _ _ _ _ _ => (pg_name (i := 16) sc_law_holds.nd rfl (Or.inl rfl))) (fun _ _ _ _ _ => (pts_one (pt_cmpR op_gt (pv 16) pe_int (nomark _)))) (fun _ _ _ _ _ => (pv 16))))) (pg_name (i := 10) sc_law_holds.nd rfl (Or.inr rfl))
            (pss_cons (ps_set (i := 11) sc_law_holds.nd rfl (Or.inl rfl) (pe_dget2 hu (pv 5) (pv 10) (pe_lst pa_nil) (by constructor <;> rfl)))
            (pss_cons (ps_if (pt_not (pt_val (pe_g T_law_equal hG hr (by decide) (by rfl) (pa_cons (pe_g T_count_leaving hG hr (by decide) (by rfl) (pa_cons (pv 3) (pa_cons (pv 10) pa_nil))) (pa_cons (pe_callB call_len_seq (by rfl) B.len PySem.boot_len (pa_cons (pv 11) pa_nil)) pa_nil))))) (pss_one (ps_ret pe_bl)) pss_nil)
            (pss_cons (ps_setLc (i := 12) (own := [("at", 17)]) (g := gName 17) (tt := tYes) rfl sc_law_holds.nd rfl rfl (sw_true rfl rfl rfl (by decide +kernel)) (pi_range1 rfl B.range (pa_cons (pe_callB call_len_seq (by rfl) B.len PySem.boot_len (pa_cons (pv 11) pa_nil)) pa_nil)) (blkOk_by (own := [("at", 17)]) (N := N_law_holds) (sc := defScope s_law_holds) (by decide +kernel)) (fun _ _ _ _ _ => (pg_name (i := 17) sc_law_holds.nd rfl (Or.inl rfl))) (fun _ _ _ _ _ => pts_nil) (fun _ _ _ _ _ => (pe_g T_nth_leaving hG hr (by decide) (by rfl) (pa_cons (pv 3) (pa_cons (pv 10) (pa_cons (pv 17) pa_nil))))))
            (pss_cons (ps_setLc (i := 13) (own := [("one", 14)]) (g := gName 14) (tt := tYes) rfl sc_law_holds.nd rfl rfl (sw_true rfl rfl rfl (by decide +kernel)) (pi_list (pv 11)) (blkOk_by (own := [("one", 14)]) (N := N_law_holds) (sc := defScope s_law_holds) (by decide +kernel)) (fun _ _ _ _ _ => (pg_name (i := 14) sc_law_holds.nd rfl (Or.inl rfl))) (fun _ _ _ _ _ => pts_nil) (fun _ _ _ _ _ => (pe_g T_leaving_rank hG hr (by decide) (by rfl) (pa_cons (pv 3) (pa_cons (pv 14) pa_nil)))))
            (pss_cons (ps_if (PW.pt (pw_or (pt_not (pt_val (pe_g T_law_equal hG hr (by decide) (by rfl) (pa_cons (pv 12) (pa_cons (pv 11) pa_nil))))) (pw_or1 (pt_cmpR (op_neD hu64) (pv 13) (pe_listRg rfl (by rfl) B.list (prg_1 (by rfl) B.range (pe_callB call_len_seq (by rfl) B.len PySem.boot_len (pa_cons (pv 11) pa_nil)))) (nomark _))))) (pss_one (ps_ret pe_bl)) pss_nil)
            (pss_cons (ps_for PassesOwn.never rfl (pi_list (pv 12)) (pg_name (i := 14) sc_law_holds.nd rfl (Or.inl rfl))
              (pss_one (ps_expr (pe_bm PySem.F.plainAttrs_list PySem.F.slot_list_append PySem.F.type_list_append mt_append (pv 14) (pa_cons pe_int pa_nil)))))
            (pss_one (ps_if (PW.pt (pw_and (pt_cmpR (op_neD hu64) (pv 11) (pe_lst pa_nil) (nomark _)) (pw_and1 (pt_cmpR (op_neD hu64) (pe_g T_nth_leaving hG hr (by decide) (by rfl) (pa_cons (pv 3) (pa_cons (pv 10) (pa_cons pe_int pa_nil)))) (pe_ix ix_list (pv 11) pe_int (fun _ _ => rfl)) (nomark _))))) (pss_one (ps_ret pe_bl)) pss_nil)))))))))
          (pss_one (ps_if (pt_cmpR op_ne (pe_callB (call_repr hG hu64) (by rfl) B.repr (by decide +kernel) (pa_cons (pv 3) pa_nil)) (pv 4) (nomark _)) (pss_one (ps_ret pe_bl)) pss_nil)))))))))
        (pss_one (ps_ret (pe_and (pe_cmpR op_eq (pe_g T_left_by hG hr (by decide) (by rfl) (pa_cons (pe_lst (pa_cons pe_int (pa_cons (pe_un un_neg pe_int) (pa_cons pe_int (pa_cons pe_int pa_nil))))) (pa_cons (pe_lst (pa_cons pe_int (pa_cons pe_int pa_nil))) pa_nil))) pe_int (nomark _)) (pe_one (pe_cmpR (op_eqD hu64) (pe_g T_nth_leaving hG hr (by decide) (by rfl) (pa_cons (pe_lst pa_nil) (pa_cons pe_int (pa_cons pe_int pa_nil)))) (pe_lst pa_nil) (nomark _))))))), ?_⟩
    refine ⟨_, rfl, by decide, by decide, for_range (lo := 0) (n := 4) (fun i σ H' => (∃ y2 y3 y4 y5 y6 y7 y8 y9 y10 y11 y12 y13 y14, σ = [some (.ref src), some (.int most), y2, y3, y4, y5, y6, y7, y8, y9, y10, y11, y12, y13, y14, none, none, none]) ∧ Bt src H H' ∧ Src H' src (n + 2000 * i)) ⟨⟨_, _, _, _, _, _, _, _, _, _, _, _, _, rfl⟩, .refl _ _, hs⟩ (fun i σ H0 hi h => ?_) (fun σ H' h => ?_)⟩
    · obtain ⟨⟨y2, y3, y4, y5, y6, y7, y8, y9, y10, y11, y12, y13, y14, rfl⟩, b0, hs0⟩ := h
      refine ⟨_, rfl, _, rfl, src, most, _, rfl, hs0, by omega, o1, by omega, fun H1 p1 row hh1 l1 b1 hs1 n1 h1 => ?_⟩
      have p1s := hs0.ne n1
      have b01 := b0.trans b1
      -- while
      refine ⟨fun m σ H' => ∃ ns : List Int, m = ns.length ∧ σ = [some (.ref src), some (.int most), some (.int (0 + (i : Int))), some (.ref p1), y4, y5, y6, y7, y8, y9, y10, y11, y12, y13, y14, none, none, none] ∧ Hist ns ∧ ns.length ≤ 9 ∧ Bt p1 H1 H' ∧ H' p1 = some (.lst (ns.map V.int)), ⟨_, row, rfl, rfl, hh1, by omega, .refl _ _, h1⟩, ?_⟩
      rintro m σ H2 ⟨ns, rfl, rfl, hh, ln, b2, h2⟩
      refine ⟨_, rfl, p1, ns, rfl, .of h2, by omega, fun H3 pa R s3 npa hpa pR wR => ⟨pa, _, rfl, .inl (.of hpa), _, _, rfl, rfl, ?_⟩⟩
      have h3 := s3 _ _ h2
      have n1' : H0 p1 = none := n1
      have b3 : Bt p1 H1 H3 := fun b o nb e => s3 _ _ (b2 b o nb e)
      rw [List.length_map]
      by_cases h5 : (5 : Int) < ((R.length : Nat) : Int)
      · refine ⟨true, dT h5, ?_⟩
        have ne : ns ≠ [] := fun z => by
          subst z
          have := pR.length_eq
          have e : (actL []).length = 0 := rfl
          rw [e] at this
          omega
        obtain ⟨k, hk⟩ : ∃ k, ns.length = k + 1 := ⟨ns.length - 1, by have := List.length_pos_iff.mpr ne; omega⟩
        refine ⟨fun σ' H' => ∃ ms : List Int, k = ms.length ∧ σ' = [some (.ref src), some (.int most), some (.int (0 + (i : Int))), some (.ref p1), y4, y5, y6, y7, y8, y9, y10, y11, y12, y13, y14, none, none, none] ∧ Hist ms ∧ ms.length ≤ 9 ∧ Bt p1 H1 H' ∧ H' p1 = some (.lst (ms.map V.int)), fun σ' H' ⟨ms, e1, rest⟩ => ⟨k, by omega, ms, e1, rest⟩, ?_⟩
        have gl : (ns.map V.int)[(ns.map V.int).length - 1]? = some (.int (ns[ns.length - 1]'(by omega))) := by
          rw [List.length_map, List.getElem?_map, List.getElem?_eq_getElem (by omega)]
          rfl
        refine ⟨_, rfl, .inl ⟨rfl, _, .of h3⟩, p1, _, _, rfl, rfl, h3, gl, ?_⟩
        have ed : (ns.map V.int).dropLast = (ns.take k).map V.int := by
          rw [List.dropLast_eq_take, List.length_map, hk, List.map_take]
          rfl
        rw [ed]
        exact ⟨ns.take k, by rw [List.length_take]; omega, rfl, hh.take k, by rw [List.length_take]; omega, fun b o nb e => by rw [upd_ne nb]; exact b3 b o nb e, upd_same⟩
      · refine ⟨false, dF h5, ?_⟩
        -- before, groups, orders
        have rb : ∀ e ∈ ns, -100 ≤ e ∧ e ≤ 100 := fun e he => (hh.rng e he).2
        refine ⟨_, rfl, p1, dI ns, rfl, dp_ints (.of h3), rI1 rb, noDict_ints ns, rI2 ns, shown_ints rb (by omega), fun g ng => ?_⟩
        have sg := same_new (o := .dK []) ng
        refine ⟨_, rfl, p1, ns, rfl, .of (sg _ _ h3), by omega, fun H4 pa2 R2 s4 npa2 hpa2 pR2 wR2 => ?_⟩
        have eR : R2 = R := sorted_uniq (pR2.trans pR.symm) wR2 wR
        subst eR
        rw [act_run] at pR
        have lR5 : R2.length ≤ 5 := by omega
        refine ⟨pa2, R2, rfl, .of hpa2, lR5, fun H5 o ps s5 no ho hps => ⟨_, _, _, rfl, ?_⟩⟩
        have s35 := (sg.trans s4).trans s5
        have h5p := s35 _ _ h3
        have hg5 : H5 g = some (.dK []) := (s4.trans s5) _ _ upd_same
        have ndR : R2.Nodup := pR.nodup_iff.mpr ((stL_nd hh).sublist List.filter_sublist)
        have lps := hps.len
        have lall := allR_len ndR lR5
        have f120 : facN R2.length ≤ 120 := by
          have : ∀ k : Fin 6, facN k.val ≤ 120 := by decide +kernel
          exact this ⟨R2.length, by omega⟩
        have bR : ∀ {H' : Hp}, Bt g H5 H' → H' p1 = some (.lst (ns.map V.int)) ∧ H' o = some (.lst (ps.map V.ref)) ∧ LLs H' ps (allR R2) := fun b => by
          have keep : ∀ (x : Addr) (l : List V), H5 x = some (.lst l) → _ = some (HO.lst l) := fun x l e => b x _ (fun z => by rw [z, hg5] at e; cases e) e
          refine ⟨keep _ _ h5p, keep _ _ ho, ?_⟩
          have go : ∀ {ps : List Addr} {F : List (List Int)}, LLs H5 ps F → LLs _ ps F := fun h => by
            induction h with
            | nil => exact .nil
            | cons h _ ih => exact .cons (keep _ _ h) ih
          exact go hps
        -- the orders
        refine ⟨_, rfl, o, rfl, ⟨_, .of ho⟩, for_list (xs := ps.map V.ref) (fun j σ H' => (∃ y7 y8 y9, σ = [some (.ref src), some (.int most), some (.int (0 + (i : Int))), some (.ref p1), some (.str (dI ns).shown), some (.ref g), some (.ref o), y7, y8, y9, y10, y11, y12, y13, y14, none, none, none]) ∧ Bt g H5 H' ∧ Grp ns H' g (ps.take j) ((allR R2).take j)) ⟨⟨_, _, _, rfl⟩, .refl _ _, [], hg5, Nat.le_refl _, fun v => ⟨fun _ => rfl, fun z => absurd rfl z⟩⟩ (fun j σ H' _ h => .of (bR h.2.1).2.1) (fun j x σ H6 hx h => ?_) (fun σ H6 h => ?_)⟩
        · obtain ⟨pO, rfl, hpO⟩ := get_ref hx
          obtain ⟨⟨y7, y8, y9, rfl⟩, b6, kvs, hgk, lk, hv⟩ := h
          obtain ⟨r6, o6, ll6⟩ := bR b6
          obtain ⟨O, hO, hO6⟩ := ll6.get hpO
          have ij := lt_get hO
          have pmA := allR_perm ndR lR5 O (mem_get hO)
          have lO := pmA.length_eq
          have pmO : O.Perm (runL ns) := pmA.trans pR
          have lF : ((allR R2).take j).length = j := by rw [List.length_take]; omega
          refine ⟨_, rfl, _, rfl, _, rfl, ⟨_, .of hO6⟩, fun D nD => lc_list (xs := O.map V.int) (LcP H6 D fun k => ((O.take k).map fun k => 0 - k).map V.int) (.init nD rfl) (fun k H' _ p => .of (p.2.1 _ _ hO6)) (fun k x H' hx p => ?_) (fun H7 p => ?_)⟩
          · obtain ⟨kk, rfl, hk⟩ := get_int hx
            refine ⟨rfl, ?_⟩
            refine ⟨_, rfl, _, _, rfl, rfl, p.put (.refl _) ?_ (by rw [List.length_map, List.length_map, List.length_take]; omega)⟩
            rw [take_get hk, List.map_append, List.map_append]
            rfl
          have hD := p.2.2
          have s7 := p.2.1
          rw [List.length_map] at hD
          have hD : H7 D = some (.lst (((O.take O.length).map fun k => 0 - k).map V.int)) := hD
          rw [List.take_length, ← neg_map] at hD
          refine ⟨p1, D, _, _, rfl, rfl, s7 _ _ r6, hD, by rw [List.length_map, List.length_map, List.length_map]; exact Nat.le_trans (show ns.length + O.length ≤ 14 by omega) (by decide), fun z nz => ?_⟩
          have s8 := same_new (o := .lst (ns.map V.int ++ (O.map fun k => -k).map V.int)) nz
          have hz : (upd H7 z (.lst (ns.map V.int ++ (O.map fun k => -k).map V.int))) z = some (.lst ((ns ++ O.map fun k => -k).map V.int)) := by rw [upd_same, List.map_append]
          have s78 := s7.trans s8
          generalize upd H7 z (.lst (ns.map V.int ++ (O.map fun k => -k).map V.int)) = H8 at s8 s78 hz ⊢
          have hcl := closedH hh pmO (show ns.length + O.length ≤ 200 by omega)
          -- here
          refine ⟨by show 1 ≤ sizeLine; decide, fun e ne => ?_⟩
          have s9 := same_new (o := .lst [V.int 0]) ne
          refine ⟨_, rfl, z, _, rfl, .of (s9 _ _ hz), hcl, fun H10 t pp d s10 ht hp => ?_⟩
          refine ⟨t, _, 0, _, rfl, rfl, .of ht, rfl, e, pp, _, _, rfl, rfl, s10 _ _ upd_same, hp, ?_, fun u nu => ?_⟩
          · rw [fndL_len, List.length_append, List.length_map]
            exact Nat.le_trans (show 1 + (ns.length + O.length) ≤ 20 by omega) (by decide)
          have s11 := same_new (o := .lst ([V.int 0] ++ fndL (ns ++ O.map fun k => -k) (ns ++ O.map fun k => -k).length)) nu
          have elast : atI ([V.int 0] ++ fndL (ns ++ O.map fun k => -k) (ns ++ O.map fun k => -k).length) (-1) = some (.int (leftP ns O)) := by
            have e1 : [V.int 0] ++ fndL (ns ++ O.map fun k => -k) (ns ++ O.map fun k => -k).length = presL (ns ++ O.map fun k => -k) (ns ++ O.map fun k => -k).length := by
              generalize ns ++ O.map (fun k => -k) = C
              refine List.ext_getElem? fun m => ?_
              by_cases hm : m ≤ C.length
              · have a1 := fndL_at0 (ns := C) hm
                have a2 : (presL C C.length)[m]? = some (.int (runP (C.take m)).1) := by
                  unfold presL
                  rw [List.getElem?_map, List.getElem?_range (by omega)]
                  rfl
                exact a1.trans a2.symm
              · rw [List.getElem?_eq_none (by rw [List.length_append, fndL_len]; show 1 + C.length ≤ m; omega), List.getElem?_eq_none (by rw [presL_len]; omega)]
            rw [e1, presL_last, List.take_length]
            rfl
          refine ⟨_, rfl, u, _, -1, _, rfl, rfl, .of upd_same, elast, ?_⟩
          have s611 := ((s78.trans s9).trans s10).trans s11
          generalize upd H10 u (.lst ([V.int 0] ++ fndL (ns ++ O.map fun k => -k) (ns ++ O.map fun k => -k).length)) = H11 at s611 ⊢
          refine ⟨_, rfl, _, rfl, p1, _, ns, O, rfl, s611 _ _ r6, .of (s611 _ _ hO6), hh, pmO, by omega, fun H12 s12 => ?_⟩
          refine ⟨_, rfl, _, _, .int (leftP ns O), rfl, .int _, .int _, trivial, fun H13 s13 => ⟨_, rfl, iteF ?_⟩⟩
          have s613 := (s611.trans s12).trans s13
          have hg13 := s613 _ _ hgk
          have ljps : j < ps.length := by omega
          have ltk : (ps.take j).length = ((allR R2).take j).length := by rw [List.length_take, List.length_take, lps]
          -- groups[here]
          refine ⟨_, rfl, g, rfl, .inl ⟨kvs, .inl hg13⟩, _, rfl, Nat.zero_le _, fun e0 ne0 => ⟨valV kvs (Sum.inl (leftP ns O)), DGet.k (k := Sum.inl (leftP ns O)) (same_new ne0 _ _ hg13), ?_⟩⟩
          have s14 := same_new (o := .lst []) ne0
          have qa : ∃ q, (valV kvs (Sum.inl (leftP ns O))).getD (.ref e0) = .ref q ∧ (upd H13 e0 (.lst [])) q = some (.lst ((selA (lv ns (leftP ns O)) (ps.take j) ((allR R2).take j)).map V.ref)) := by
            by_cases c : ((allR R2).take j).filter (lv ns (leftP ns O)) = []
            · rw [(hv _).1 c]
              refine ⟨e0, rfl, ?_⟩
              have := selA_len (g := lv ns (leftP ns O)) ltk
              rw [c] at this
              rw [List.length_eq_zero_iff.mp this, upd_same]
              rfl
            · obtain ⟨q, q1, q2⟩ := (hv _).2 c
              rw [q1]
              exact ⟨q, rfl, s14 _ _ (s613 _ _ q2)⟩
          obtain ⟨q, eq, hq⟩ := qa
          rw [eq]
          have s614 := s613.trans s14
          generalize upd H13 e0 (.lst []) = H14 at s14 s614 hq ⊢
          have lsel : (selA (lv ns (leftP ns O)) (ps.take j) ((allR R2).take j)).length ≤ 120 := by
            rw [selA_len ltk]
            have := List.length_filter_le (lv ns (leftP ns O)) ((allR R2).take j)
            omega
          refine ⟨_, rfl, by show 1 ≤ sizeLine; decide, fun z1 nz1 => ⟨q, z1, _, _, rfl, rfl, same_new nz1 _ _ hq, upd_same, by rw [List.length_map]; exact Nat.le_trans (Nat.add_le_add_right lsel 1) (by decide), fun z2 nz2 => ?_⟩⟩
          have s15 := (same_new (o := .lst [V.ref pO]) nz1).trans (same_new (o := .lst ((selA (lv ns (leftP ns O)) (ps.take j) ((allR R2).take j)).map V.ref ++ [V.ref pO])) nz2)
          have hz2 : (upd (upd H14 z1 (.lst [V.ref pO])) z2 (.lst ((selA (lv ns (leftP ns O)) (ps.take j) ((allR R2).take j)).map V.ref ++ [V.ref pO]))) z2 = some (.lst ((selA (lv ns (leftP ns O)) (ps.take (j + 1)) ((allR R2).take (j + 1))).map V.ref)) := by
            rw [upd_same, take_get hpO, take_get hO, selA_app ltk, if_pos (show lv ns (leftP ns O) O = true from decide_eq_true rfl), List.map_append]
            rfl
          have s615 := s614.trans s15
          generalize upd (upd H14 z1 (.lst [V.ref pO])) z2 (.lst ((selA (lv ns (leftP ns O)) (ps.take j) ((allR R2).take j)).map V.ref ++ [V.ref pO])) = H15 at s615 hz2 ⊢
          have hg15 := s615 _ _ hgk
          have keyl : kvs.length ≤ 120 := by omega
          refine ⟨_, rfl, _, rfl, g, _, rfl, DPut.k (k := Sum.inl (leftP ns O)) hg15 (zl (by omega)), ⟨_, _, _, rfl⟩, fun b ob nb e => ?_, putK kvs (Sum.inl (leftP ns O)) (.ref z2), upd_same, ?_, fun v => ?_⟩
          · rw [upd_ne nb]
            exact s615 _ _ (b6 b ob nb e)
          · have h1 := putK_len kvs (Sum.inl (leftP ns O)) (.ref z2)
            have : ((allR R2).take (j + 1)).length = j + 1 := by rw [List.length_take]; omega
            omega
          · rw [valV_put, take_get hO, List.filter_append, List.filter_cons, List.filter_nil]
            by_cases c : v = leftP ns O
            · subst c
              rw [if_pos rfl, if_pos (show lv ns (leftP ns O) O = true from decide_eq_true rfl)]
              refine ⟨fun z => by simp at z, fun _ => ⟨z2, rfl, ?_⟩⟩
              rw [upd_ne (fun z => by rw [z, hg15] at hz2; cases hz2), ← take_get hO]
              exact hz2
            · have c2 : lv ns v O = false := decide_eq_false fun z => c z.symm
              rw [if_neg (fun z => c (Sum.inl.inj z)), c2, if_neg Bool.false_ne_true, List.append_nil]
              refine ⟨(hv v).1, fun ne => ?_⟩
              obtain ⟨q', q1, q2⟩ := (hv v).2 ne
              refine ⟨q', q1, ?_⟩
              have hq15 := s615 _ _ q2
              rw [upd_ne (fun z => by rw [z, hg15] at hq15; cases hq15), hq15, take_get hpO, selA_app ltk, c2, if_neg Bool.false_ne_true, List.append_nil]
        · obtain ⟨⟨y7, y8, y9, rfl⟩, b6, hGr⟩ := h
          rw [List.length_map, lps, List.take_length, ← lps, List.take_length] at hGr
          obtain ⟨r6, o6, ll6⟩ := bR b6
          -- count_orders
          refine ⟨_, rfl, p1, ns, rfl, .of r6, hh, fun H7 s7 => ?_⟩
          refine ⟨_, rfl, o, _, rfl, .inl (.of (s7 _ _ o6)), ?_⟩
          have elen : (((ps.map V.ref).length : Nat) : Int) = ((facN (runL ns).length : Nat) : Int) := by rw [List.length_map, lps, lall, pR.length_eq]
          rw [elen]
          refine ⟨_, _, .int ((facN (runL ns).length : Nat) : Int), rfl, .int _, .int _, trivial, fun H8 s8 => ⟨_, rfl, iteF ?_⟩⟩
          have s68 := s7.trans s8
          -- the values
          refine ⟨by show 1 ≤ sizeLine; decide, fun e0 ne0 => ?_⟩
          have s9 := same_new (o := .lst [V.int 0]) ne0
          have he0 : (upd H8 e0 (.lst [V.int 0])) e0 = some (.lst [V.int 0]) := upd_same
          have s69 := s68.trans s9
          generalize upd H8 e0 (.lst [V.int 0]) = H9 at s9 s69 he0 ⊢
          have r9 := s69 _ _ r6
          refine ⟨_, rfl, p1, rfl, ⟨_, .of r9⟩, fun D nD => lc_list (xs := ns.map V.int) (LcP H9 D fun k => ((ns.take k).filter fun e => decide (0 < e)).map V.int) (.init nD rfl) (fun k H' _ p => .of (p.2.1 _ _ r9)) (fun k x H' hx p => ?_) (fun H10 p => ?_)⟩
          · obtain ⟨e, rfl, he⟩ := get_int hx
            have il := lt_get he
            refine ⟨rfl, ?_⟩
            by_cases c : 0 < e
            · exact ⟨_, rfl, _, _, rfl, rfl, true, dT c, _, rfl, p.put (.refl _) (fl_put he (decide_eq_true c) _) (fl_len (by omega))⟩
            · exact ⟨_, rfl, _, _, rfl, rfl, false, dF c, p.skip (.refl _) (fl_skip he (decide_eq_false c) _)⟩
          have hD : H10 D = some (.lst ((stL ns).map V.int)) := fl_end (List.length_map ..) p.2.2
          have s10 := p.2.1
          have lst := stL_len ns
          refine ⟨e0, D, _, _, rfl, rfl, s10 _ _ he0, hD, by rw [List.length_map]; exact Nat.le_trans (show 1 + (stL ns).length ≤ 10 by omega) (by decide), fun va nva => ?_⟩
          have s11 := same_new (o := .lst ([V.int 0] ++ (stL ns).map V.int)) nva
          have hva : (upd H10 va (.lst ([V.int 0] ++ (stL ns).map V.int))) va = some (.lst ((0 :: stL ns).map V.int)) := upd_same
          have s611 := (s69.trans s10).trans s11
          generalize upd H10 va (.lst ([V.int 0] ++ (stL ns).map V.int)) = H11 at s611 hva ⊢
          have r11 := s611 _ _ r6
          have ll11 := ll6.same s611
          have hG11 := hGr.bt s611
          refine ⟨va, rfl, ⟨_, .of hva⟩, for_list (xs := (0 :: stL ns).map V.int) (fun j σ H' => (∃ y7 y8 y9 y10 y11 y12 y13 y14, σ = [some (.ref src), some (.int most), some (.int (0 + (i : Int))), some (.ref p1), some (.str (dI ns).shown), some (.ref g), some (.ref o), y7, y8, y9, y10, y11, y12, y13, y14, none, none, none]) ∧ Same H11 H') ⟨⟨_, _, _, _, _, _, _, _, rfl⟩, .refl _⟩ (fun j σ H' _ h => .of (h.2 _ _ hva)) (fun j x σ H12 hx h => ?_) (fun σ H12 h => ?_)⟩
          · obtain ⟨v, rfl, hv⟩ := get_int hx
            obtain ⟨⟨y7, y8, y9, y10, y11, y12, y13, y14, rfl⟩, s12⟩ := h
            have vin : v = 0 ∨ 0 < v ∧ v ∈ ns := by
              rcases List.mem_cons.mp (mem_get hv) with h | h
              · exact .inl h
              · obtain ⟨h1, h2⟩ := List.mem_filter.mp h
                exact .inr ⟨of_decide_eq_true h2, h1⟩
            obtain ⟨ff, hf⟩ := fate_some hh vin
            have ge := grp_eq hh pR lR5 hf
            have ge : (allR R2).filter (lv ns v) = (List.range (cntL ns ff)).map fun k => nthL R2 k ff := ge
            obtain ⟨kvs, hgk, lk, hkv⟩ := hG11.bt s12
            have r12 := s12 _ _ r11
            have ll12 := ll11.same s12
            -- some
            refine ⟨_, rfl, g, rfl, .inl ⟨kvs, .inl hgk⟩, _, rfl, Nat.zero_le _, fun e1 ne1 => ⟨valV kvs (Sum.inl v), DGet.k (k := Sum.inl v) (same_new ne1 _ _ hgk), ?_⟩⟩
            have s13 := same_new (o := .lst []) ne1
            have qa : ∃ so, (valV kvs (Sum.inl v)).getD (.ref e1) = .ref so ∧ (upd H12 e1 (.lst [])) so = some (.lst ((selA (lv ns v) ps (allR R2)).map V.ref)) := by
              by_cases c : (allR R2).filter (lv ns v) = []
              · rw [(hkv _).1 c]
                refine ⟨e1, rfl, ?_⟩
                have := selA_len (g := lv ns v) lps
                rw [c] at this
                rw [List.length_eq_zero_iff.mp this, upd_same]
                rfl
              · obtain ⟨q', q1, q2⟩ := (hkv _).2 c
                rw [q1]
                exact ⟨q', rfl, s13 _ _ q2⟩
            obtain ⟨so, eso, hso⟩ := qa
            rw [eso]
            have llS := selA_lls (g := lv ns v) (ll12.same s13)
            have r13 := s13 _ _ r12
            have s11_13 := s12.trans s13
            generalize upd H12 e1 (.lst []) = H13 at s13 hso llS r13 s11_13 ⊢
            rw [ge] at llS
            have lsel : (selA (lv ns v) ps (allR R2)).length = cntL ns ff := by rw [llS.len, List.length_map, List.length_range]
            generalize selA (lv ns v) ps (allR R2) = sel at hso llS lsel ⊢
            have c120 : cntL ns ff ≤ 120 := by
              rw [← lsel, llS.len, ← ge]
              exact Nat.le_trans (List.length_filter_le _ _) (by rw [lall]; exact f120)
            -- count_leaving
            refine ⟨_, rfl, _, rfl, p1, ns, v, ff, rfl, .of r13, hh, hf, fun H14 s14 => ?_⟩
            refine ⟨_, rfl, so, _, rfl, .inl (.of (s14 _ _ hso)), ?_⟩
            rw [List.length_map, lsel]
            refine ⟨_, _, .int ((cntL ns ff : Nat) : Int), rfl, .int _, .int _, trivial, fun H15 s15 => ⟨_, rfl, iteF ?_⟩⟩
            have s1315 := s14.trans s15
            have hso15 := s1315 _ _ hso
            have r15 := s1315 _ _ r13
            have llS15 := llS.same s1315
            have s1115 := s11_13.trans s1315
            -- told
            refine ⟨_, rfl, so, _, rfl, .inl (.of hso15), ?_⟩
            rw [List.length_map, lsel]
            refine ⟨((cntL ns ff : Nat) : Int), rfl, by omega, by omega, fun D2 nD2 => ?_⟩
            rw [Int.toNat_natCast]
            refine lc_range (lo := 0) (n := cntL ns ff) (fun k H' => Same H15 H' ∧ ∃ ts : List Addr, H' D2 = some (.lst (ts.map V.ref)) ∧ LLs (av D2 H') ts ((List.range k).map fun k => nthL R2 k ff) ∧ ∀ t ∈ ts, H15 t = none) ⟨same_new nD2, [], upd_same, .nil, fun _ h => absurd h List.not_mem_nil⟩ (fun k H' hk p => ?_) (fun H16 p => ?_)
            · obtain ⟨sk, ts, hDk, hts, nts⟩ := p
              have ek : (0 : Int) + (k : Int) = (k : Int) := Int.zero_add _
              rw [ek]
              refine ⟨rfl, ?_⟩
              refine ⟨_, rfl, _, rfl, _, rfl, p1, ns, R2, v, ff, k, rfl, .of (sk _ _ r15), hh, hf, pR, wR, lR5, hk, fun H17 pk s17 nk hpk => ?_⟩
              have hDk' := s17 _ _ hDk
              have nkD : pk ≠ D2 := fun z => by rw [z, hDk] at nk; cases nk
              have lts := hts.len
              rw [List.length_map, List.length_range] at lts
              refine ⟨_, hDk', by rw [List.length_map, lts]; exact Nat.lt_of_le_of_lt (show k ≤ 120 by omega) (by decide), Lp.Same.mut (sk.trans s17) nD2, ts ++ [pk], by rw [upd_same, List.map_append]; rfl, ?_, fun t ht => ?_⟩
              · have mv : Same (av D2 H') (av D2 (upd H17 D2 (.lst (ts.map V.ref ++ [V.ref pk])))) := fun b ob hb => by
                  obtain ⟨n1, e⟩ := av_some hb
                  exact av_at n1 (by rw [upd_ne n1]; exact s17 _ _ e)
                rw [List.range_succ, List.map_append]
                exact (hts.same mv).app (.cons (av_at nkD (by rw [upd_ne nkD]; exact hpk)) .nil)
              · rcases List.mem_append.mp ht with ht | ht
                · exact nts t ht
                · rw [List.mem_singleton] at ht
                  subst ht
                  exact sk.free nk
            obtain ⟨s16, ts, hD16, hts, nts⟩ := p
            have neD : ∀ t ∈ ts, t ≠ D2 := fun t ht => by
              obtain ⟨r, _, e⟩ := hts.mem ht
              exact (av_some e).1
            have hts := hts.same av_le
            have s1516 := s1115.trans s16
            have hso16 := s16 _ _ hso15
            have r16 := s16 _ _ r15
            have llS16 := llS15.same s16
            -- ranks
            refine ⟨_, rfl, so, rfl, ⟨_, .of hso16⟩, fun D3 nD3 => lc_list (xs := sel.map V.ref) (LcP H16 D3 fun k => ((List.range k).map fun k : Nat => (k : Int)).map V.int) (.init nD3 rfl) (fun k H' _ p => .of (p.2.1 _ _ hso16)) (fun k x H' hx p => ?_) (fun H17 p => ?_)⟩
            · obtain ⟨pk, rfl, hpk⟩ := get_ref hx
              obtain ⟨r, hr1, hpr⟩ := llS16.get hpk
              have lk := lt_get hpk
              rw [List.getElem?_map, List.getElem?_range (by omega)] at hr1
              cases hr1
              obtain ⟨q1, S, q2, q3, q4⟩ := nthL_perm hh pR lR5 hf (show k < cntL ns ff by omega)
              refine ⟨rfl, ?_⟩
              refine ⟨_, rfl, _, rfl, p1, pk, ns, _, S, rfl, .of (p.2.1 _ _ r16), .of (p.2.1 _ _ hpr), hh, q1.trans pR, by rw [q1.length_eq]; exact lR5, q2, q3 wR, fun H18 s18 => ?_⟩
              rw [q4]
              refine p.put s18 ?_ (by rw [List.length_map, List.length_map, List.length_range]; omega)
              rw [List.range_succ, List.map_append, List.map_append]
              rfl
            have hD17 := p.2.2
            have s17 := p.2.1
            rw [List.length_map, lsel] at hD17
            -- equal
            have hts17 := hts.same s17
            have llS17 := llS16.same s17
            have hso17 := s17 _ _ hso16
            have hD16' := s17 _ _ hD16
            have okG : okD 2 (dL ((List.range (cntL ns ff)).map fun k => nthL R2 k ff)) := by
              refine ⟨by rw [List.length_map, List.length_map, List.length_range]; omega, fun x hx => ?_⟩
              obtain ⟨r, hr1, rfl⟩ := List.mem_map.mp hx
              obtain ⟨k, hk, rfl⟩ := List.mem_map.mp hr1
              have lp := (nthL_perm hh pR lR5 hf (List.mem_range.mp hk)).1.length_eq
              refine ⟨by rw [List.length_map]; omega, fun y hy => ?_⟩
              obtain ⟨u, _, rfl⟩ := List.mem_map.mp hy
              exact trivial
            refine ⟨_, rfl, _, rfl, _, _, dL ((List.range (cntL ns ff)).map fun k => nthL R2 k ff), rfl, .lst (.of hD16') hts17.dp, .lst (.of hso17) llS17.dp, okG, fun H18 s18 => ⟨_, rfl, iteF ?_⟩⟩
            refine ⟨_, rfl, _, rfl, so, _, rfl, .inl (.of (s18 _ _ hso17)), ?_⟩
            rw [List.length_map, lsel]
            refine ⟨((cntL ns ff : Nat) : Int), rfl, RgOk.of_le (by first | decide | omega) (by first | decide | omega) (by first | decide | omega) (by first | decide | omega), fun z nz => ?_⟩
            have s19 := same_new (o := .lst (rgV 0 ((cntL ns ff : Nat) : Int))) nz
            have hz : (upd H18 z (.lst (rgV 0 ((cntL ns ff : Nat) : Int)))) z = some (.lst (((List.range (cntL ns ff)).map fun k : Nat => (k : Int)).map V.int)) := by
              rw [upd_same]
              unfold rgV
              rw [Int.sub_zero, Int.toNat_natCast, List.map_map]
              refine congrArg some (congrArg HO.lst (List.map_congr_left fun k _ => ?_))
              show V.int (0 + (k : Int)) = V.int (k : Int)
              rw [Int.zero_add]
            refine ⟨dI ((List.range (cntL ns ff)).map fun k : Nat => (k : Int)), dI ((List.range (cntL ns ff)).map fun k : Nat => (k : Int)), dp_ints (.of ((s18.trans s19) _ _ hD17)), dp_ints (.of hz), shaped_ints _, shaped_ints _, false, neqF rfl, iteF ?_⟩
            have s1719 := s18.trans s19
            generalize upd H18 z (.lst (rgV 0 ((cntL ns ff : Nat) : Int))) = H19 at s1719 ⊢
            have s1619 := s17.trans s1719
            have hD19 := s1719 _ _ hD16'
            have ts19 := hts17.same s1719
            have s1519 := (s16.trans s17).trans s1719
            -- for one in told: one.append(0)
            refine ⟨_, rfl, D2, rfl, ⟨_, .of hD19⟩, for_list (xs := ts.map V.ref) (fun k σ H' => (∃ y14, σ = [some (.ref src), some (.int most), some (.int (0 + (i : Int))), some (.ref p1), some (.str (dI ns).shown), some (.ref g), some (.ref o), y7, y8, y9, some (.int v), some (.ref so), some (.ref D2), some (.ref D3), y14, none, none, none]) ∧ Same H15 H' ∧ H' D2 = some (.lst (ts.map V.ref)) ∧ ∀ t ∈ ts, ∃ l : List V, H' t = some (.lst l) ∧ l.length ≤ 5 + k) ⟨⟨_, rfl⟩, s1519, hD19, fun t ht => ?_⟩ (fun k σ H' _ h => .of h.2.2.1) (fun k x σ H' hx h => ?_) (fun σ H20 h => ?_)⟩
            · obtain ⟨r, hr1, hr2⟩ := ts19.mem ht
              obtain ⟨k, hk, rfl⟩ := List.mem_map.mp hr1
              have lp := (nthL_perm hh pR lR5 hf (List.mem_range.mp hk)).1.length_eq
              exact ⟨_, hr2, by rw [List.length_map]; omega⟩
            · obtain ⟨pk, rfl, hpk⟩ := get_ref hx
              obtain ⟨⟨y14', rfl⟩, sk, hDk, htk⟩ := h
              have pin := mem_get hpk
              have lk := lt_get hpk
              have lts := ts19.len
              rw [List.length_map, List.length_range] at lts
              obtain ⟨l, hl1, hl2⟩ := htk pk pin
              refine ⟨_, rfl, .inl ⟨rfl, _, .of hl1⟩, pk, _, _, rfl, rfl, hl1, Nat.lt_of_le_of_lt (show l.length ≤ 125 by omega) (by decide), ⟨_, rfl⟩, Lp.Same.mut sk (nts pk pin), by rw [upd_ne (neD pk pin).symm]; exact hDk, fun t ht => ?_⟩
              by_cases c : t = pk
              · subst c
                exact ⟨_, upd_same, by rw [List.length_append]; show l.length + 1 ≤ 5 + (k + 1); omega⟩
              · obtain ⟨l', h1, h2⟩ := htk t ht
                exact ⟨l', by rw [upd_ne c]; exact h1, by omega⟩
            · obtain ⟨⟨y14', rfl⟩, s20, _, _⟩ := h
              have hso20 := s20 _ _ hso15
              have r20 := s20 _ _ r15
              have llS20 := llS15.same s20
              refine ⟨_, rfl, Nat.zero_le _, fun z2 nz2 => ?_⟩
              have s21 := same_new (o := .lst []) nz2
              have sAll := (s1115.trans s20).trans s21
              have dS : Dp K (upd H20 z2 (.lst [])) (.ref so) (dL ((List.range (cntL ns ff)).map fun k => nthL R2 k ff)) := .lst (.of (s21 _ _ hso20)) (llS20.same s21).dp
              have dZ : Dp K (upd H20 z2 (.lst [])) (.ref z2) (dI []) := dp_ints (ns := []) (.of upd_same)
              by_cases hm : cntL ns ff = 0
              · refine ⟨_, dI [], dS, dZ, shapedL _, shaped_ints _, false, by rw [hm]; rfl, ?_⟩
                exact iteF ⟨⟨_, _, _, _, _, _, _, _, rfl⟩, sAll⟩
              · have mp : 0 < cntL ns ff := Nat.pos_of_ne_zero hm
                obtain ⟨m', hm'⟩ : ∃ m', cntL ns ff = m' + 1 := ⟨cntL ns ff - 1, by omega⟩
                refine ⟨_, dI [], dS, dZ, shapedL _, shaped_ints _, true, by rw [hm', List.range_succ_eq_map]; rfl, iteT ?_⟩
                refine ⟨_, rfl, _, rfl, p1, ns, R2, v, ff, 0, rfl, .of (s21 _ _ r20), hh, hf, pR, wR, lR5, mp, fun H22 p22 s22 n22 h22 => ?_⟩
                have s2022 := s21.trans s22
                have ls0 : 0 < sel.length := by omega
                have gs : sel[0]? = some sel[0] := List.getElem?_eq_getElem ls0
                obtain ⟨r0, hr0, hp0⟩ := llS20.get gs
                rw [List.getElem?_map, List.getElem?_range mp] at hr0
                cases hr0
                have gV : (sel.map V.ref)[0]? = some (.ref sel[0]) := by rw [List.getElem?_map, gs]; rfl
                refine ⟨_, rfl, so, _, 0, _, rfl, rfl, .of (s2022 _ _ hso20), atI_nat (j := 0) gV, ?_⟩
                refine ⟨dI (nthL R2 0 ff), dI (nthL R2 0 ff), dp_ints (.of h22), dp_ints (.of (s2022 _ _ hp0)), shaped_ints _, shaped_ints _, false, neqF rfl, ?_⟩
                exact iteF ⟨⟨_, _, _, _, _, _, _, _, rfl⟩, sAll.trans s22⟩
          · obtain ⟨⟨y7, y8, y9, y10, y11, y12, y13, y14, rfl⟩, s12⟩ := h
            -- repr(row) != before
            have r12 := s12 _ _ r11
            refine ⟨_, rfl, p1, dI ns, rfl, dp_ints (.of r12), rI1 rb, noDict_ints ns, rI2 ns, shown_ints rb (by omega), _, rfl, rfl, false, nF rfl, iteF ?_⟩
            refine ⟨⟨_, _, _, _, _, _, _, _, _, _, _, _, _, rfl⟩, ?_, ?_⟩
            · refine fun b ob nb e => s12 _ _ (s611 _ _ (b6 b ob ?_ (s35 _ _ (b3 b ob ?_ (b1 b ob nb (b0 b ob nb e))))))
              · intro z
                have e1 := b3 b ob (fun y => by rw [y] at e; have := b0 _ _ (by rw [← y]; exact nb) e; rw [n1] at this; cases this) (b1 b ob nb (b0 b ob nb e))
                rw [z, ng] at e1
                cases e1
              · intro z
                have e1 := b0 b ob nb e
                rw [z, n1] at e1
                cases e1
            · have a1 : Src H3 src (n + 2000 * i + 2000) := hs1.bt b3 p1s.symm
              have a2 := ((a1.same s35).bt b6 (a1.ne ng).symm).same (s611.trans s12)
              exact a2.mono (by omega)
    · obtain ⟨⟨y2, y3, y4, y5, y6, y7, y8, y9, y10, y11, y12, y13, y14, rfl⟩, b0, hs0⟩ := h
      have h4 : Hist [1, -1, 2, 3] := by
        refine ⟨by decide, by decide, fun k e he h0 => ?_, by decide⟩
        match k, he with
        | 0, he => cases he; exact absurd h0 (by decide)
        | 1, he => cases he; decide
        | 2, he => cases he; exact absurd h0 (by decide)
        | 3, he => cases he; exact absurd h0 (by decide)
        | (k + 4), he => cases he
      have pm4 : ([3, 2] : List Int).Perm (runL [1, -1, 2, 3]) := by decide
      have e4 : leftP [1, -1, 2, 3] [3, 2] = 0 := by decide
      refine ⟨_, rfl, by show 4 ≤ sizeLine; decide, fun a1 na1 => ⟨by show 2 ≤ sizeLine; decide, fun a2 na2 => ?_⟩⟩
      have sa1 := same_new (o := .lst [V.int 1, .int (-1), .int 2, .int 3]) na1
      have sa2 := same_new (o := .lst [V.int 3, .int 2]) na2
      refine ⟨a1, a2, [1, -1, 2, 3], [3, 2], rfl, sa2 _ _ upd_same, .of upd_same, h4, pm4, by decide, fun H1 s1 => ?_⟩
      rw [e4]
      refine ⟨rfl, true, dT rfl, iteT ?_⟩
      refine ⟨Nat.zero_le _, fun a3 na3 => ?_⟩
      have sa3 := same_new (o := .lst []) na3
      refine ⟨a3, [], [], 0, .pres, 0, rfl, .of upd_same, ⟨(fun _ h => absurd h List.not_mem_nil), List.nodup_nil, (fun k e h => by simp at h), Nat.zero_le _⟩, rfl, .nil, .nil, by decide, by decide, fun H2 p s2 np hp => ⟨Nat.zero_le _, fun a4 na4 => ?_⟩⟩
      have sa4 := same_new (o := .lst []) na4
      have e5 : nthL [] 0 .pres = [] := rfl
      rw [e5] at hp
      refine ⟨dI [], dI [], dp_ints (ns := []) (.of (sa4 _ _ hp)), dp_ints (ns := []) (.of upd_same), shaped_ints _, shaped_ints _, ?_⟩
      exact q _ (b0.trans (.of (((((sa1.trans sa2).trans s1).trans sa3).trans s2).trans sa4)))
end
end L12
set_option Elab.async false
set_option linter.all false
set_option maxRecDepth 100000
namespace L12
open PySem PySem.Spec PyProof.Rows L2 Lp
section
variable {P : Program} {w : World} {K : PySem.W.Frag} {mg : Str → Option Value} {base : Heap}
def spLaw (K : PySem.W.Frag) : Sp := fun vs H Q _ => ∃ (a : Addr) (ns : List Int), vs = [.ref a] ∧ SqL K H a (ns.map V.int) ∧ ns.length ≤ 63 ∧ ∀ H', Q (.bl true) H'
theorem ok_law {f : Addr} {fd : FuncData} (F : Fun K "law" "law" s_law f fd) (B : NoB mg) (T_law_source : Gc P w K mg base 1 "_law_source" spSource) (T_law_holds : Gc P w K mg base 11 "_law_holds" spHolds) : FnG P w K mg base CX0 12 f fd ["script"] (spLaw K) := by
  refine okG F sc_law (fun vs H Q E h => ?_) (fun cdv A outer s H vs Q E hG hr h => ?_)
  · obtain ⟨a, ns, rfl, _⟩ := h
    rfl
  · obtain ⟨sc, ns, rfl, hS, hl, q⟩ := h
    have hu64 := hr.units
    refine ⟨_, (pss_cons (ps_for PassesOwn.never rfl (pi_enum (by rfl) B.enumerate (pa_cons (pe_slice sl_list (pe_op op_catS (pv 0) (pe_lst (pa_cons pe_int pa_nil))) po_none (po_some (pe_callB (call_max2 rfl) (by rfl) B.max (by decide +kernel) (pa_cons pe_int (pa_cons (pe_callB (call_min2 rfl) (by rfl) B.min (by decide +kernel) (pa_cons (pe_callB call_len_seq (by rfl) B.len PySem.boot_len (pa_cons (pv 0) pa_nil)) (pa_cons pe_int pa_nil))) pa_nil))))) pa_nil)) (pg_tup rfl (pgs_cons (pg_name (i := 1) sc_law.nd rfl (Or.inl rfl)) (pgs_cons (pg_name (i := 2) sc_law.nd rfl (Or.inl rfl)) pgs_nil)))
          (pss_one (ps_if (pt_not (pt_val (pe_g T_law_holds hG hr (by decide) (by rfl) (pa_cons (pe_g T_law_source hG hr (by decide) (by rfl) (pa_cons (pv 2) (pa_cons (pv 1) pa_nil))) (pa_cons (pe_ifExp (pt_cmpR (op_eqD hu64) (pv 0) (pe_lst pa_nil) (nomark _)) pe_int pe_int) pa_nil))))) (pss_one (ps_ret pe_bl)) pss_nil)))
        (pss_one (ps_ret pe_bl))), ?_⟩
    refine ⟨_, rfl, by show 1 ≤ sizeLine; decide, fun z nz => ?_⟩
    have hS1 := (same_new (o := .lst [V.int 0]) nz).seq hS
    refine ⟨sc, z, ns.map V.int, [V.int 0], rfl, rfl, hS1, .of upd_same, by rw [List.length_map]; exact zs (by show ns.length + 1 ≤ _; omega), fun p np => ?_⟩
    have s2 : Same H (upd (upd H z (.lst [V.int 0])) p (.lst (ns.map V.int ++ [V.int 0]))) := (same_new nz).trans (same_new np)
    refine ⟨_, rfl, sc, _, rfl, .inl (s2.seq hS), _, _, rfl, _, _, rfl, _, rfl, p, _, rfl, .of upd_same, fun p2 np2 => ?_⟩
    generalize ec : (if (if 12 < (((ns.map V.int).length : Nat) : Int) then (12 : Int) else (((ns.map V.int).length : Nat) : Int)) > 1 then (if 12 < (((ns.map V.int).length : Nat) : Int) then (12 : Int) else (((ns.map V.int).length : Nat) : Int)) else 1) = c
    have c0 : 1 ≤ c ∧ c ≤ (ns.length : Int) + 1 := by
      rw [← ec, List.length_map]
      split <;> split <;> omega
    have ecut : cutV (ns.map V.int ++ [V.int 0]) none (some c) = ((ns ++ [0]).take c.toNat).map V.int := by
      have e : c = ((c.toNat : Nat) : Int) := by omega
      rw [e, cut_take _ _ (by rw [List.length_append, List.length_map, List.length_singleton]; omega), List.map_take, List.map_append]
      rfl
    rw [ecut]
    have cl : ((ns ++ [0]).take c.toNat).length ≤ 64 := by
      rw [List.length_take, List.length_append, List.length_singleton]
      omega
    have s3 := s2.trans (same_new (o := .lst (((ns ++ [0]).take c.toNat).map V.int)) np2)
    refine ⟨p2, _, rfl, .of upd_same, for_it (walk_enum (xs := ((ns ++ [0]).take c.toNat).map V.int)) (fun i σ H' => (∃ y1 y2, σ = [some (.ref sc), y1, y2]) ∧ Same H H' ∧ H' p2 = some (.lst (((ns ++ [0]).take c.toNat).map V.int))) ⟨⟨_, _, rfl⟩, s3, upd_same⟩ (fun i σ H' _ h => .of h.2.2) (fun i x σ H' H2 hi h hy => ?_) (fun σ H' h => ?_)⟩
    · obtain ⟨T, x1, x2, rfl, nT, rfl, e1, e2⟩ := hy
      cases e1
      obtain ⟨e, rfl, he⟩ := get_int e2
      obtain ⟨⟨y1, y2, rfl⟩, sm, hp2⟩ := h
      have hi2 := lt_get he
      refine ⟨T, _, rfl, .of upd_same, rfl, _, _, rfl, _, _, rfl, rfl, ?_⟩
      have sT := same_new (o := .tup [V.int ((i : Nat) : Int), .int e]) nT
      refine ⟨_, rfl, _, rfl, e, i, rfl, by omega, fun H3 src s3 nsrc hs3 => ?_⟩
      have nsrc' : H' src = none := sT.free nsrc
      have sm3 : Same H' H3 := sT.trans s3
      have fin : ∀ H5, Bt src H3 H5 → Same H H5 ∧ H5 p2 = some (.lst (((ns ++ [0]).take c.toNat).map V.int)) := fun H5 b5 => by
        have s5 : Same H' H5 := fun b o eb => b5 b o (ne_of_none eb nsrc') (sm3 b o eb)
        exact ⟨sm.trans s5, s5 _ _ hp2⟩
      refine ⟨_, rfl, Nat.zero_le _, fun e4 ne4 => ?_⟩
      have s4 := same_new (o := .lst []) ne4
      have hS4 : SqL K (upd H3 e4 (.lst [])) sc (ns.map V.int) := ((sm.trans sm3).trans s4).seq hS
      by_cases hb : ns = []
      · refine ⟨dI ns, dI [], dp_ints hS4, dp_ints (ns := []) (.of upd_same), shaped_ints _, shaped_ints _, true, eqvT hb, ?_⟩
        exact ⟨src, 7, 0, rfl, hs3.same s4, by decide, by decide, by decide, fun H5 b5 => ⟨true, rfl, ⟨_, _, rfl⟩, fin H5 ((Lp.Bt.of s4).trans b5)⟩⟩
      · refine ⟨dI ns, dI [], dp_ints hS4, dp_ints (ns := []) (.of upd_same), shaped_ints _, shaped_ints _, false, eqvF hb, ?_⟩
        exact ⟨src, 9, 0, rfl, hs3.same s4, by decide, by decide, by decide, fun H5 b5 => ⟨true, rfl, ⟨_, _, rfl⟩, fin H5 ((Lp.Bt.of s4).trans b5)⟩⟩
    · obtain ⟨⟨y1, y2, rfl⟩, sm, hp2⟩ := h
      exact q _
end
end L12
set_option Elab.async false
set_option linter.all false
set_option maxRecDepth 100000
namespace L12
open PySem PySem.Spec PyProof.Rows L2 Lp
set_option maxHeartbeats 0 in
theorem all_mk {l : PySem.W.OpenLaw} {w : World} {K : PySem.W.Frag} {h : Heap} {mg : Str → Option Value} {fa : Addr} (X : K.In h) (G : h.Ns mainGlobals mg) (hfa : mg "law" = some (.ref fa))
    {f0 : Addr} {oc0 kV0 dc0 pm0 cd0 ct0 : Value} {od0 an0 : Option Addr} {sl0 : Array (Option Value)}
    (a0 : PySem.W.nsIn K mainGlobals "is_integer" = some (some (.ref f0))) (l0 : K.lookup f0 = some ⟨oc0, od0, .func (PySem.W.fnOf "is_integer" "is_integer" (defArgs s_is_integer) (defBody s_is_integer) (defScope s_is_integer) .none kV0 dc0 pm0 an0 cd0 ct0), sl0⟩) (c0 : PySem.W.codeIn K cd0 "is_integer" = true) (k0 : PySem.W.keepIn K (.ref f0) = true)
    {f1 : Addr} {oc1 kV1 dc1 pm1 cd1 ct1 : Value} {od1 an1 : Option Addr} {sl1 : Array (Option Value)}
    (a1 : PySem.W.nsIn K mainGlobals "is_integer_within" = some (some (.ref f1))) (l1 : K.lookup f1 = some ⟨oc1, od1, .func (PySem.W.fnOf "is_integer_within" "is_integer_within" (defArgs s_is_integer_within) (defBody s_is_integer_within) (defScope s_is_integer_within) .none kV1 dc1 pm1 an1 cd1 ct1), sl1⟩) (c1 : PySem.W.codeIn K cd1 "is_integer_within" = true) (k1 : PySem.W.keepIn K (.ref f1) = true)
    {f2 : Addr} {oc2 kV2 dc2 pm2 cd2 ct2 : Value} {od2 an2 : Option Addr} {sl2 : Array (Option Value)}
    (a2 : PySem.W.nsIn K mainGlobals "are_integers" = some (some (.ref f2))) (l2 : K.lookup f2 = some ⟨oc2, od2, .func (PySem.W.fnOf "are_integers" "are_integers" (defArgs s_are_integers) (defBody s_are_integers) (defScope s_are_integers) .none kV2 dc2 pm2 an2 cd2 ct2), sl2⟩) (c2 : PySem.W.codeIn K cd2 "are_integers" = true) (k2 : PySem.W.keepIn K (.ref f2) = true)
    {f3 : Addr} {oc3 kV3 dc3 pm3 cd3 ct3 : Value} {od3 an3 : Option Addr} {sl3 : Array (Option Value)}
    (a3 : PySem.W.nsIn K mainGlobals "check_number" = some (some (.ref f3))) (l3 : K.lookup f3 = some ⟨oc3, od3, .func (PySem.W.fnOf "check_number" "check_number" (defArgs s_check_number) (defBody s_check_number) (defScope s_check_number) .none kV3 dc3 pm3 an3 cd3 ct3), sl3⟩) (c3 : PySem.W.codeIn K cd3 "check_number" = true) (k3 : PySem.W.keepIn K (.ref f3) = true)
    {f4 : Addr} {oc4 kV4 dc4 pm4 cd4 ct4 : Value} {od4 an4 : Option Addr} {sl4 : Array (Option Value)}
    (a4 : PySem.W.nsIn K mainGlobals "check_index" = some (some (.ref f4))) (l4 : K.lookup f4 = some ⟨oc4, od4, .func (PySem.W.fnOf "check_index" "check_index" (defArgs s_check_index) (defBody s_check_index) (defScope s_check_index) .none kV4 dc4 pm4 an4 cd4 ct4), sl4⟩) (c4 : PySem.W.codeIn K cd4 "check_index" = true) (k4 : PySem.W.keepIn K (.ref f4) = true)
    {f5 : Addr} {oc5 kV5 dc5 pm5 cd5 ct5 : Value} {od5 an5 : Option Addr} {sl5 : Array (Option Value)}
    (a5 : PySem.W.nsIn K mainGlobals "are_events" = some (some (.ref f5))) (l5 : K.lookup f5 = some ⟨oc5, od5, .func (PySem.W.fnOf "are_events" "are_events" (defArgs s_are_events) (defBody s_are_events) (defScope s_are_events) .none kV5 dc5 pm5 an5 cd5 ct5), sl5⟩) (c5 : PySem.W.codeIn K cd5 "are_events" = true) (k5 : PySem.W.keepIn K (.ref f5) = true)
    {f6 : Addr} {oc6 kV6 dc6 pm6 cd6 ct6 : Value} {od6 an6 : Option Addr} {sl6 : Array (Option Value)}
    (a6 : PySem.W.nsIn K mainGlobals "is_history" = some (some (.ref f6))) (l6 : K.lookup f6 = some ⟨oc6, od6, .func (PySem.W.fnOf "is_history" "is_history" (defArgs s_is_history) (defBody s_is_history) (defScope s_is_history) .none kV6 dc6 pm6 an6 cd6 ct6), sl6⟩) (c6 : PySem.W.codeIn K cd6 "is_history" = true) (k6 : PySem.W.keepIn K (.ref f6) = true)
    {f7 : Addr} {oc7 kV7 dc7 pm7 cd7 ct7 : Value} {od7 an7 : Option Addr} {sl7 : Array (Option Value)}
    (a7 : PySem.W.nsIn K mainGlobals "check_history" = some (some (.ref f7))) (l7 : K.lookup f7 = some ⟨oc7, od7, .func (PySem.W.fnOf "check_history" "check_history" (defArgs s_check_history) (defBody s_check_history) (defScope s_check_history) .none kV7 dc7 pm7 an7 cd7 ct7), sl7⟩) (c7 : PySem.W.codeIn K cd7 "check_history" = true) (k7 : PySem.W.keepIn K (.ref f7) = true)
    {f8 : Addr} {oc8 kV8 dc8 pm8 cd8 ct8 : Value} {od8 an8 : Option Addr} {sl8 : Array (Option Value)}
    (a8 : PySem.W.nsIn K mainGlobals "starts_of" = some (some (.ref f8))) (l8 : K.lookup f8 = some ⟨oc8, od8, .func (PySem.W.fnOf "starts_of" "starts_of" (defArgs s_starts_of) (defBody s_starts_of) (defScope s_starts_of) .none kV8 dc8 pm8 an8 cd8 ct8), sl8⟩) (c8 : PySem.W.codeIn K cd8 "starts_of" = true) (k8 : PySem.W.keepIn K (.ref f8) = true)
    {f9 : Addr} {oc9 kV9 dc9 pm9 cd9 ct9 : Value} {od9 an9 : Option Addr} {sl9 : Array (Option Value)}
    (a9 : PySem.W.nsIn K mainGlobals "is_started" = some (some (.ref f9))) (l9 : K.lookup f9 = some ⟨oc9, od9, .func (PySem.W.fnOf "is_started" "is_started" (defArgs s_is_started) (defBody s_is_started) (defScope s_is_started) .none kV9 dc9 pm9 an9 cd9 ct9), sl9⟩) (c9 : PySem.W.codeIn K cd9 "is_started" = true) (k9 : PySem.W.keepIn K (.ref f9) = true)
    {f10 : Addr} {oc10 kV10 dc10 pm10 cd10 ct10 : Value} {od10 an10 : Option Addr} {sl10 : Array (Option Value)}
    (a10 : PySem.W.nsIn K mainGlobals "running_after" = some (some (.ref f10))) (l10 : K.lookup f10 = some ⟨oc10, od10, .func (PySem.W.fnOf "running_after" "running_after" (defArgs s_running_after) (defBody s_running_after) (defScope s_running_after) .none kV10 dc10 pm10 an10 cd10 ct10), sl10⟩) (c10 : PySem.W.codeIn K cd10 "running_after" = true) (k10 : PySem.W.keepIn K (.ref f10) = true)
    {f11 : Addr} {oc11 kV11 dc11 pm11 cd11 ct11 : Value} {od11 an11 : Option Addr} {sl11 : Array (Option Value)}
    (a11 : PySem.W.nsIn K mainGlobals "replay" = some (some (.ref f11))) (l11 : K.lookup f11 = some ⟨oc11, od11, .func (PySem.W.fnOf "replay" "replay" (defArgs s_replay) (defBody s_replay) (defScope s_replay) .none kV11 dc11 pm11 an11 cd11 ct11), sl11⟩) (c11 : PySem.W.codeIn K cd11 "replay" = true) (k11 : PySem.W.keepIn K (.ref f11) = true)
    {f12 : Addr} {oc12 kV12 dc12 pm12 cd12 ct12 : Value} {od12 an12 : Option Addr} {sl12 : Array (Option Value)}
    (a12 : PySem.W.nsIn K mainGlobals "is_value_of" = some (some (.ref f12))) (l12 : K.lookup f12 = some ⟨oc12, od12, .func (PySem.W.fnOf "is_value_of" "is_value_of" (defArgs s_is_value_of) (defBody s_is_value_of) (defScope s_is_value_of) .none kV12 dc12 pm12 an12 cd12 ct12), sl12⟩) (c12 : PySem.W.codeIn K cd12 "is_value_of" = true) (k12 : PySem.W.keepIn K (.ref f12) = true)
    {f13 : Addr} {oc13 kV13 dc13 pm13 cd13 ct13 : Value} {od13 an13 : Option Addr} {sl13 : Array (Option Value)}
    (a13 : PySem.W.nsIn K mainGlobals "present_after" = some (some (.ref f13))) (l13 : K.lookup f13 = some ⟨oc13, od13, .func (PySem.W.fnOf "present_after" "present_after" (defArgs s_present_after) (defBody s_present_after) (defScope s_present_after) .none kV13 dc13 pm13 an13 cd13 ct13), sl13⟩) (c13 : PySem.W.codeIn K cd13 "present_after" = true) (k13 : PySem.W.keepIn K (.ref f13) = true)
    {f14 : Addr} {oc14 kV14 dc14 pm14 cd14 ct14 : Value} {od14 an14 : Option Addr} {sl14 : Array (Option Value)}
    (a14 : PySem.W.nsIn K mainGlobals "fate_of" = some (some (.ref f14))) (l14 : K.lookup f14 = some ⟨oc14, od14, .func (PySem.W.fnOf "fate_of" "fate_of" (defArgs s_fate_of) (defBody s_fate_of) (defScope s_fate_of) .none kV14 dc14 pm14 an14 cd14 ct14), sl14⟩) (c14 : PySem.W.codeIn K cd14 "fate_of" = true) (k14 : PySem.W.keepIn K (.ref f14) = true)
    {f15 : Addr} {oc15 kV15 dc15 pm15 cd15 ct15 : Value} {od15 an15 : Option Addr} {sl15 : Array (Option Value)}
    (a15 : PySem.W.nsIn K mainGlobals "is_order" = some (some (.ref f15))) (l15 : K.lookup f15 = some ⟨oc15, od15, .func (PySem.W.fnOf "is_order" "is_order" (defArgs s_is_order) (defBody s_is_order) (defScope s_is_order) .none kV15 dc15 pm15 an15 cd15 ct15), sl15⟩) (c15 : PySem.W.codeIn K cd15 "is_order" = true) (k15 : PySem.W.keepIn K (.ref f15) = true)
    {f16 : Addr} {oc16 kV16 dc16 pm16 cd16 ct16 : Value} {od16 an16 : Option Addr} {sl16 : Array (Option Value)}
    (a16 : PySem.W.nsIn K mainGlobals "check_order" = some (some (.ref f16))) (l16 : K.lookup f16 = some ⟨oc16, od16, .func (PySem.W.fnOf "check_order" "check_order" (defArgs s_check_order) (defBody s_check_order) (defScope s_check_order) .none kV16 dc16 pm16 an16 cd16 ct16), sl16⟩) (c16 : PySem.W.codeIn K cd16 "check_order" = true) (k16 : PySem.W.keepIn K (.ref f16) = true)
    {f17 : Addr} {oc17 kV17 dc17 pm17 cd17 ct17 : Value} {od17 an17 : Option Addr} {sl17 : Array (Option Value)}
    (a17 : PySem.W.nsIn K mainGlobals "count_orders" = some (some (.ref f17))) (l17 : K.lookup f17 = some ⟨oc17, od17, .func (PySem.W.fnOf "count_orders" "count_orders" (defArgs s_count_orders) (defBody s_count_orders) (defScope s_count_orders) .none kV17 dc17 pm17 an17 cd17 ct17), sl17⟩) (c17 : PySem.W.codeIn K cd17 "count_orders" = true) (k17 : PySem.W.keepIn K (.ref f17) = true)
    {f18 : Addr} {oc18 kV18 dc18 pm18 cd18 ct18 : Value} {od18 an18 : Option Addr} {sl18 : Array (Option Value)}
    (a18 : PySem.W.nsIn K mainGlobals "left_by" = some (some (.ref f18))) (l18 : K.lookup f18 = some ⟨oc18, od18, .func (PySem.W.fnOf "left_by" "left_by" (defArgs s_left_by) (defBody s_left_by) (defScope s_left_by) .none kV18 dc18 pm18 an18 cd18 ct18), sl18⟩) (c18 : PySem.W.codeIn K cd18 "left_by" = true) (k18 : PySem.W.keepIn K (.ref f18) = true)
    {f19 : Addr} {oc19 kV19 dc19 pm19 cd19 ct19 : Value} {od19 an19 : Option Addr} {sl19 : Array (Option Value)}
    (a19 : PySem.W.nsIn K mainGlobals "count_leaving" = some (some (.ref f19))) (l19 : K.lookup f19 = some ⟨oc19, od19, .func (PySem.W.fnOf "count_leaving" "count_leaving" (defArgs s_count_leaving) (defBody s_count_leaving) (defScope s_count_leaving) .none kV19 dc19 pm19 an19 cd19 ct19), sl19⟩) (c19 : PySem.W.codeIn K cd19 "count_leaving" = true) (k19 : PySem.W.keepIn K (.ref f19) = true)
    {f20 : Addr} {oc20 kV20 dc20 pm20 cd20 ct20 : Value} {od20 an20 : Option Addr} {sl20 : Array (Option Value)}
    (a20 : PySem.W.nsIn K mainGlobals "_nth_permutation" = some (some (.ref f20))) (l20 : K.lookup f20 = some ⟨oc20, od20, .func (PySem.W.fnOf "_nth_permutation" "_nth_permutation" (defArgs s_nth_permutation) (defBody s_nth_permutation) (defScope s_nth_permutation) .none kV20 dc20 pm20 an20 cd20 ct20), sl20⟩) (c20 : PySem.W.codeIn K cd20 "_nth_permutation" = true) (k20 : PySem.W.keepIn K (.ref f20) = true)
    {f21 : Addr} {oc21 kV21 dc21 pm21 cd21 ct21 : Value} {od21 an21 : Option Addr} {sl21 : Array (Option Value)}
    (a21 : PySem.W.nsIn K mainGlobals "nth_leaving" = some (some (.ref f21))) (l21 : K.lookup f21 = some ⟨oc21, od21, .func (PySem.W.fnOf "nth_leaving" "nth_leaving" (defArgs s_nth_leaving) (defBody s_nth_leaving) (defScope s_nth_leaving) .none kV21 dc21 pm21 an21 cd21 ct21), sl21⟩) (c21 : PySem.W.codeIn K cd21 "nth_leaving" = true) (k21 : PySem.W.keepIn K (.ref f21) = true)
    {f22 : Addr} {oc22 kV22 dc22 pm22 cd22 ct22 : Value} {od22 an22 : Option Addr} {sl22 : Array (Option Value)}
    (a22 : PySem.W.nsIn K mainGlobals "_permutation_rank" = some (some (.ref f22))) (l22 : K.lookup f22 = some ⟨oc22, od22, .func (PySem.W.fnOf "_permutation_rank" "_permutation_rank" (defArgs s_permutation_rank) (defBody s_permutation_rank) (defScope s_permutation_rank) .none kV22 dc22 pm22 an22 cd22 ct22), sl22⟩) (c22 : PySem.W.codeIn K cd22 "_permutation_rank" = true) (k22 : PySem.W.keepIn K (.ref f22) = true)
    {f23 : Addr} {oc23 kV23 dc23 pm23 cd23 ct23 : Value} {od23 an23 : Option Addr} {sl23 : Array (Option Value)}
    (a23 : PySem.W.nsIn K mainGlobals "leaving_rank" = some (some (.ref f23))) (l23 : K.lookup f23 = some ⟨oc23, od23, .func (PySem.W.fnOf "leaving_rank" "leaving_rank" (defArgs s_leaving_rank) (defBody s_leaving_rank) (defScope s_leaving_rank) .none kV23 dc23 pm23 an23 cd23 ct23), sl23⟩) (c23 : PySem.W.codeIn K cd23 "leaving_rank" = true) (k23 : PySem.W.keepIn K (.ref f23) = true)
    {f24 : Addr} {oc24 kV24 dc24 pm24 cd24 ct24 : Value} {od24 an24 : Option Addr} {sl24 : Array (Option Value)}
    (a24 : PySem.W.nsIn K mainGlobals "_law_source" = some (some (.ref f24))) (l24 : K.lookup f24 = some ⟨oc24, od24, .func (PySem.W.fnOf "_law_source" "_law_source" (defArgs s_law_source) (defBody s_law_source) (defScope s_law_source) .none kV24 dc24 pm24 an24 cd24 ct24), sl24⟩) (c24 : PySem.W.codeIn K cd24 "_law_source" = true) (k24 : PySem.W.keepIn K (.ref f24) = true)
    {f25 : Addr} {oc25 kV25 dc25 pm25 cd25 ct25 : Value} {od25 an25 : Option Addr} {sl25 : Array (Option Value)}
    (a25 : PySem.W.nsIn K mainGlobals "_law_draw" = some (some (.ref f25))) (l25 : K.lookup f25 = some ⟨oc25, od25, .func (PySem.W.fnOf "_law_draw" "_law_draw" (defArgs s_law_draw) (defBody s_law_draw) (defScope s_law_draw) .none kV25 dc25 pm25 an25 cd25 ct25), sl25⟩) (c25 : PySem.W.codeIn K cd25 "_law_draw" = true) (k25 : PySem.W.keepIn K (.ref f25) = true)
    {f26 : Addr} {oc26 kV26 dc26 pm26 cd26 ct26 : Value} {od26 an26 : Option Addr} {sl26 : Array (Option Value)}
    (a26 : PySem.W.nsIn K mainGlobals "_law_row" = some (some (.ref f26))) (l26 : K.lookup f26 = some ⟨oc26, od26, .func (PySem.W.fnOf "_law_row" "_law_row" (defArgs s_law_row) (defBody s_law_row) (defScope s_law_row) .none kV26 dc26 pm26 an26 cd26 ct26), sl26⟩) (c26 : PySem.W.codeIn K cd26 "_law_row" = true) (k26 : PySem.W.keepIn K (.ref f26) = true)
    {f27 : Addr} {oc27 kV27 dc27 pm27 cd27 ct27 : Value} {od27 an27 : Option Addr} {sl27 : Array (Option Value)}
    (a27 : PySem.W.nsIn K mainGlobals "_law_active" = some (some (.ref f27))) (l27 : K.lookup f27 = some ⟨oc27, od27, .func (PySem.W.fnOf "_law_active" "_law_active" (defArgs s_law_active) (defBody s_law_active) (defScope s_law_active) .none kV27 dc27 pm27 an27 cd27 ct27), sl27⟩) (c27 : PySem.W.codeIn K cd27 "_law_active" = true) (k27 : PySem.W.keepIn K (.ref f27) = true)
    {f28 : Addr} {oc28 kV28 dc28 pm28 cd28 ct28 : Value} {od28 an28 : Option Addr} {sl28 : Array (Option Value)}
    (a28 : PySem.W.nsIn K mainGlobals "_law_play" = some (some (.ref f28))) (l28 : K.lookup f28 = some ⟨oc28, od28, .func (PySem.W.fnOf "_law_play" "_law_play" (defArgs s_law_play) (defBody s_law_play) (defScope s_law_play) .none kV28 dc28 pm28 an28 cd28 ct28), sl28⟩) (c28 : PySem.W.codeIn K cd28 "_law_play" = true) (k28 : PySem.W.keepIn K (.ref f28) = true)
    {f29 : Addr} {oc29 kV29 dc29 pm29 cd29 ct29 : Value} {od29 an29 : Option Addr} {sl29 : Array (Option Value)}
    (a29 : PySem.W.nsIn K mainGlobals "_law_equal" = some (some (.ref f29))) (l29 : K.lookup f29 = some ⟨oc29, od29, .func (PySem.W.fnOf "_law_equal" "_law_equal" (defArgs s_law_equal) (defBody s_law_equal) (defScope s_law_equal) .none kV29 dc29 pm29 an29 cd29 ct29), sl29⟩) (c29 : PySem.W.codeIn K cd29 "_law_equal" = true) (k29 : PySem.W.keepIn K (.ref f29) = true)
    {f30 : Addr} {oc30 kV30 dc30 pm30 cd30 ct30 : Value} {od30 an30 : Option Addr} {sl30 : Array (Option Value)}
    (a30 : PySem.W.nsIn K mainGlobals "_law_all" = some (some (.ref f30))) (l30 : K.lookup f30 = some ⟨oc30, od30, .func (PySem.W.fnOf "_law_all" "_law_all" (defArgs s_law_all) (defBody s_law_all) (defScope s_law_all) .none kV30 dc30 pm30 an30 cd30 ct30), sl30⟩) (c30 : PySem.W.codeIn K cd30 "_law_all" = true) (k30 : PySem.W.keepIn K (.ref f30) = true)
    {f31 : Addr} {oc31 kV31 dc31 pm31 cd31 ct31 : Value} {od31 an31 : Option Addr} {sl31 : Array (Option Value)}
    (a31 : PySem.W.nsIn K mainGlobals "_law_holds" = some (some (.ref f31))) (l31 : K.lookup f31 = some ⟨oc31, od31, .func (PySem.W.fnOf "_law_holds" "_law_holds" (defArgs s_law_holds) (defBody s_law_holds) (defScope s_law_holds) .none kV31 dc31 pm31 an31 cd31 ct31), sl31⟩) (c31 : PySem.W.codeIn K cd31 "_law_holds" = true) (k31 : PySem.W.keepIn K (.ref f31) = true)
    {f32 : Addr} {oc32 kV32 dc32 pm32 cd32 ct32 : Value} {od32 an32 : Option Addr} {sl32 : Array (Option Value)}
    (a32 : PySem.W.nsIn K mainGlobals "law" = some (some (.ref f32))) (l32 : K.lookup f32 = some ⟨oc32, od32, .func (PySem.W.fnOf "law" "law" (defArgs s_law) (defBody s_law) (defScope s_law) .none kV32 dc32 pm32 an32 cd32 ct32), sl32⟩) (c32 : PySem.W.codeIn K cd32 "law" = true) (k32 : PySem.W.keepIn K (.ref f32) = true)
    {t_LAST_PATCH : Tok} (g_LAST_PATCH : PySem.W.nsIn K mainGlobals "LAST_PATCH" = some (some (.int 100 t_LAST_PATCH)))
    {t_MOST_EVENTS : Tok} (g_MOST_EVENTS : PySem.W.nsIn K mainGlobals "MOST_EVENTS" = some (some (.int 200 t_MOST_EVENTS)))
    (z_len : PySem.W.nsIn K mainGlobals "len" = some none)
    (z_list : PySem.W.nsIn K mainGlobals "list" = some none)
    (z_int : PySem.W.nsIn K mainGlobals "int" = some none)
    (z_bool : PySem.W.nsIn K mainGlobals "bool" = some none)
    (z_str : PySem.W.nsIn K mainGlobals "str" = some none)
    (z_tuple : PySem.W.nsIn K mainGlobals "tuple" = some none)
    (z_max : PySem.W.nsIn K mainGlobals "max" = some none)
    (z_min : PySem.W.nsIn K mainGlobals "min" = some none)
    (z_range : PySem.W.nsIn K mainGlobals "range" = some none)
    (z_repr : PySem.W.nsIn K mainGlobals "repr" = some none)
    (z_isinstance : PySem.W.nsIn K mainGlobals "isinstance" = some none)
    (z_type : PySem.W.nsIn K mainGlobals "type" = some none)
    (z_all : PySem.W.nsIn K mainGlobals "all" = some none)
    (z_set : PySem.W.nsIn K mainGlobals "set" = some none)
    (z_zip : PySem.W.nsIn K mainGlobals "zip" = some none)
    (z_enumerate : PySem.W.nsIn K mainGlobals "enumerate" = some none)
    (z_sorted : PySem.W.nsIn K mainGlobals "sorted" = some none)
    (z_abs : PySem.W.nsIn K mainGlobals "abs" = some none)
    (z_divmod : PySem.W.nsIn K mainGlobals "divmod" = some none)
    (hfac : PySem.W.nsIn K mainGlobals "factorial" = some (some (.builtin "math.factorial"))) :
    ∃ fd : FuncData, (∀ (s : Shared) (v : Value), BindsTo s fd ⟨[v], []⟩ [("script", v)]) ∧ ∀ base : Heap, K.In base → base.Ns mainGlobals mg → FnG l.prog w K mg base CX0 12 fa fd ["script"] (spLaw K) := by
  have e := hfa.symm.trans (PySem.W.mg_of X G a32)
  cases e
  have B : NoB mg := ⟨PySem.W.mg_none_of X G z_len, PySem.W.mg_none_of X G z_list, PySem.W.mg_none_of X G z_int, PySem.W.mg_none_of X G z_bool, PySem.W.mg_none_of X G z_str, PySem.W.mg_none_of X G z_tuple, PySem.W.mg_none_of X G z_max, PySem.W.mg_none_of X G z_min, PySem.W.mg_none_of X G z_range, PySem.W.mg_none_of X G z_repr, PySem.W.mg_none_of X G z_isinstance, PySem.W.mg_none_of X G z_type, PySem.W.mg_none_of X G z_all, PySem.W.mg_none_of X G z_set, PySem.W.mg_none_of X G z_zip, PySem.W.mg_none_of X G z_enumerate, PySem.W.mg_none_of X G z_sorted, PySem.W.mg_none_of X G z_abs⟩
  have F0 := fun_mk (st := s_is_integer) l0 c0 k0
  have b0 := F0.binds (ps := ["value"]) fun _ _ _ _ _ _ us hl => match us, hl with | [_], _ => rfl
  have F1 := fun_mk (st := s_is_integer_within) l1 c1 k1
  have b1 := F1.binds (ps := ["value", "least", "greatest"]) fun _ _ _ _ _ _ us hl => match us, hl with | [_, _, _], _ => rfl
  have F2 := fun_mk (st := s_are_integers) l2 c2 k2
  have b2 := F2.binds (ps := ["value", "least", "greatest", "most"]) fun _ _ _ _ _ _ us hl => match us, hl with | [_, _, _, _], _ => rfl
  have F3 := fun_mk (st := s_check_number) l3 c3 k3
  have b3 := F3.binds (ps := ["value", "least", "greatest"]) fun _ _ _ _ _ _ us hl => match us, hl with | [_, _, _], _ => rfl
  have F4 := fun_mk (st := s_check_index) l4 c4 k4
  have b4 := F4.binds (ps := ["index", "count"]) fun _ _ _ _ _ _ us hl => match us, hl with | [_, _], _ => rfl
  have F5 := fun_mk (st := s_are_events) l5 c5 k5
  have b5 := F5.binds (ps := ["value"]) fun _ _ _ _ _ _ us hl => match us, hl with | [_], _ => rfl
  have F6 := fun_mk (st := s_is_history) l6 c6 k6
  have b6 := F6.binds (ps := ["value"]) fun _ _ _ _ _ _ us hl => match us, hl with | [_], _ => rfl
  have F7 := fun_mk (st := s_check_history) l7 c7 k7
  have b7 := F7.binds (ps := ["history"]) fun _ _ _ _ _ _ us hl => match us, hl with | [_], _ => rfl
  have F8 := fun_mk (st := s_starts_of) l8 c8 k8
  have b8 := F8.binds (ps := ["history"]) fun _ _ _ _ _ _ us hl => match us, hl with | [_], _ => rfl
  have F9 := fun_mk (st := s_is_started) l9 c9 k9
  have b9 := F9.binds (ps := ["history", "value"]) fun _ _ _ _ _ _ us hl => match us, hl with | [_, _], _ => rfl
  have F10 := fun_mk (st := s_running_after) l10 c10 k10
  have b10 := F10.binds (ps := ["history"]) fun _ _ _ _ _ _ us hl => match us, hl with | [_], _ => rfl
  have F11 := fun_mk (st := s_replay) l11 c11 k11
  have b11 := F11.binds (ps := ["history"]) fun _ _ _ _ _ _ us hl => match us, hl with | [_], _ => rfl
  have F12 := fun_mk (st := s_is_value_of) l12 c12 k12
  have b12 := F12.binds (ps := ["history", "value"]) fun _ _ _ _ _ _ us hl => match us, hl with | [_, _], _ => rfl
  have F13 := fun_mk (st := s_present_after) l13 c13 k13
  have b13 := F13.binds (ps := ["history"]) fun _ _ _ _ _ _ us hl => match us, hl with | [_], _ => rfl
  have F14 := fun_mk (st := s_fate_of) l14 c14 k14
  have b14 := F14.binds (ps := ["history", "value"]) fun _ _ _ _ _ _ us hl => match us, hl with | [_, _], _ => rfl
  have F15 := fun_mk (st := s_is_order) l15 c15 k15
  have b15 := F15.binds (ps := ["history", "value"]) fun _ _ _ _ _ _ us hl => match us, hl with | [_, _], _ => rfl
  have F16 := fun_mk (st := s_check_order) l16 c16 k16
  have b16 := F16.binds (ps := ["history", "order"]) fun _ _ _ _ _ _ us hl => match us, hl with | [_, _], _ => rfl
  have F17 := fun_mk (st := s_count_orders) l17 c17 k17
  have b17 := F17.binds (ps := ["history"]) fun _ _ _ _ _ _ us hl => match us, hl with | [_], _ => rfl
  have F18 := fun_mk (st := s_left_by) l18 c18 k18
  have b18 := F18.binds (ps := ["history", "order"]) fun _ _ _ _ _ _ us hl => match us, hl with | [_, _], _ => rfl
  have F19 := fun_mk (st := s_count_leaving) l19 c19 k19
  have b19 := F19.binds (ps := ["history", "value"]) fun _ _ _ _ _ _ us hl => match us, hl with | [_, _], _ => rfl
  have F20 := fun_mk (st := s_nth_permutation) l20 c20 k20
  have b20 := F20.binds (ps := ["patches", "index"]) fun _ _ _ _ _ _ us hl => match us, hl with | [_, _], _ => rfl
  have F21 := fun_mk (st := s_nth_leaving) l21 c21 k21
  have b21 := F21.binds (ps := ["history", "value", "index"]) fun _ _ _ _ _ _ us hl => match us, hl with | [_, _, _], _ => rfl
  have F22 := fun_mk (st := s_permutation_rank) l22 c22 k22
  have b22 := F22.binds (ps := ["permutation"]) fun _ _ _ _ _ _ us hl => match us, hl with | [_], _ => rfl
  have F23 := fun_mk (st := s_leaving_rank) l23 c23 k23
  have b23 := F23.binds (ps := ["history", "order"]) fun _ _ _ _ _ _ us hl => match us, hl with | [_, _], _ => rfl
  have F24 := fun_mk (st := s_law_source) l24 c24 k24
  have b24 := F24.binds (ps := ["cell", "k"]) fun _ _ _ _ _ _ us hl => match us, hl with | [_, _], _ => rfl
  have F25 := fun_mk (st := s_law_draw) l25 c25 k25
  have b25 := F25.binds (ps := ["source", "count"]) fun _ _ _ _ _ _ us hl => match us, hl with | [_, _], _ => rfl
  have F26 := fun_mk (st := s_law_row) l26 c26 k26
  have b26 := F26.binds (ps := ["source", "most"]) fun _ _ _ _ _ _ us hl => match us, hl with | [_, _], _ => rfl
  have F27 := fun_mk (st := s_law_active) l27 c27 k27
  have b27 := F27.binds (ps := ["row"]) fun _ _ _ _ _ _ us hl => match us, hl with | [_], _ => rfl
  have F28 := fun_mk (st := s_law_play) l28 c28 k28
  have b28 := F28.binds (ps := ["row"]) fun _ _ _ _ _ _ us hl => match us, hl with | [_], _ => rfl
  have F29 := fun_mk (st := s_law_equal) l29 c29 k29
  have b29 := F29.binds (ps := ["result", "expected"]) fun _ _ _ _ _ _ us hl => match us, hl with | [_, _], _ => rfl
  have F30 := fun_mk (st := s_law_all) l30 c30 k30
  have b30 := F30.binds (ps := ["things"]) fun _ _ _ _ _ _ us hl => match us, hl with | [_], _ => rfl
  have F31 := fun_mk (st := s_law_holds) l31 c31 k31
  have b31 := F31.binds (ps := ["source", "most"]) fun _ _ _ _ _ _ us hl => match us, hl with | [_, _], _ => rfl
  have F32 := fun_mk (st := s_law) l32 c32 k32
  refine ⟨PySem.W.fnOf "law" "law" (defArgs s_law) (defBody s_law) (defScope s_law) .none kV32 dc32 pm32 an32 cd32 ct32, fun s v => .of_eq rfl, fun base _ _ => ?_⟩
  have T_is_integer : Gc l.prog w K mg base 1 "is_integer" _ := ⟨f0, _, ["value"], ok_is_integer F0 B, PySem.W.mg_of X G a0, F0.kp, b0⟩
  have T_is_integer_within : Gc l.prog w K mg base 2 "is_integer_within" _ := ⟨f1, _, ["value", "least", "greatest"], ok_is_integer_within F1 T_is_integer, PySem.W.mg_of X G a1, F1.kp, b1⟩
  have T_are_integers : Gc l.prog w K mg base 3 "are_integers" _ := ⟨f2, _, ["value", "least", "greatest", "most"], ok_are_integers F2 B T_is_integer_within, PySem.W.mg_of X G a2, F2.kp, b2⟩
  have T_check_number : Gc l.prog w K mg base 3 "check_number" _ := ⟨f3, _, ["value", "least", "greatest"], ok_check_number F3 T_is_integer_within, PySem.W.mg_of X G a3, F3.kp, b3⟩
  have T_check_index : Gc l.prog w K mg base 4 "check_index" _ := ⟨f4, _, ["index", "count"], ok_check_index F4 T_check_number, PySem.W.mg_of X G a4, F4.kp, b4⟩
  have T_are_events : Gc l.prog w K mg base 4 "are_events" _ := ⟨f5, _, ["value"], ok_are_events F5 B (PySem.W.mg_of X G g_LAST_PATCH) (PySem.W.mg_of X G g_MOST_EVENTS) T_are_integers, PySem.W.mg_of X G a5, F5.kp, b5⟩
  have T_is_history : Gc l.prog w K mg base 5 "is_history" _ := ⟨f6, _, ["value"], ok_is_history F6 B T_are_events, PySem.W.mg_of X G a6, F6.kp, b6⟩
  have T_check_history : Gc l.prog w K mg base 6 "check_history" _ := ⟨f7, _, ["history"], ok_check_history F7 T_is_history, PySem.W.mg_of X G a7, F7.kp, b7⟩
  have T_starts_of : Gc l.prog w K mg base 1 "starts_of" _ := ⟨f8, _, ["history"], ok_starts_of F8, PySem.W.mg_of X G a8, F8.kp, b8⟩
  have T_is_started : Gc l.prog w K mg base 2 "is_started" _ := ⟨f9, _, ["history", "value"], ok_is_started F9 T_is_integer, PySem.W.mg_of X G a9, F9.kp, b9⟩
  have T_running_after : Gc l.prog w K mg base 7 "running_after" _ := ⟨f10, _, ["history"], ok_running_after F10 B T_check_history T_starts_of, PySem.W.mg_of X G a10, F10.kp, b10⟩
  have T_replay : Gc l.prog w K mg base 1 "replay" _ := ⟨f11, _, ["history"], ok_replay F11, PySem.W.mg_of X G a11, F11.kp, b11⟩
  have T_is_value_of : Gc l.prog w K mg base 3 "is_value_of" _ := ⟨f12, _, ["history", "value"], ok_is_value_of F12 T_is_started T_is_integer, PySem.W.mg_of X G a12, F12.kp, b12⟩
  have T_present_after : Gc l.prog w K mg base 7 "present_after" _ := ⟨f13, _, ["history"], ok_present_after F13 T_check_history T_replay, PySem.W.mg_of X G a13, F13.kp, b13⟩
  have T_fate_of : Gc l.prog w K mg base 7 "fate_of" _ := ⟨f14, _, ["history", "value"], ok_fate_of F14 B T_check_history T_is_value_of T_replay, PySem.W.mg_of X G a14, F14.kp, b14⟩
  have T_is_order : Gc l.prog w K mg base 8 "is_order" _ := ⟨f15, _, ["history", "value"], ok_is_order F15 B (PySem.W.mg_of X G g_LAST_PATCH) T_running_after T_are_integers, PySem.W.mg_of X G a15, F15.kp, b15⟩
  have T_check_order : Gc l.prog w K mg base 9 "check_order" _ := ⟨f16, _, ["history", "order"], ok_check_order F16 T_is_order, PySem.W.mg_of X G a16, F16.kp, b16⟩
  have T_count_orders : Gc l.prog w K mg base 8 "count_orders" _ := ⟨f17, _, ["history"], ok_count_orders F17 B (PySem.W.mg_of X G hfac) T_running_after, PySem.W.mg_of X G a17, F17.kp, b17⟩
  have T_left_by : Gc l.prog w K mg base 10 "left_by" _ := ⟨f18, _, ["history", "order"], ok_left_by F18 T_check_order T_present_after, PySem.W.mg_of X G a18, F18.kp, b18⟩
  have T_count_leaving : Gc l.prog w K mg base 8 "count_leaving" _ := ⟨f19, _, ["history", "value"], ok_count_leaving F19 B (PySem.W.mg_of X G hfac) T_fate_of T_running_after, PySem.W.mg_of X G a19, F19.kp, b19⟩
  have T_nth_permutation : Gc l.prog w K mg base 1 "_nth_permutation" _ := ⟨f20, _, ["patches", "index"], ok_nth_permutation F20 B (PySem.W.mg_none_of X G z_divmod) (PySem.W.mg_of X G hfac), PySem.W.mg_of X G a20, F20.kp, b20⟩
  have T_nth_leaving : Gc l.prog w K mg base 9 "nth_leaving" _ := ⟨f21, _, ["history", "value", "index"], ok_nth_leaving F21 B T_check_index T_count_leaving T_fate_of T_running_after T_nth_permutation, PySem.W.mg_of X G a21, F21.kp, b21⟩
  have T_permutation_rank : Gc l.prog w K mg base 1 "_permutation_rank" _ := ⟨f22, _, ["permutation"], ok_permutation_rank F22 B, PySem.W.mg_of X G a22, F22.kp, b22⟩
  have T_leaving_rank : Gc l.prog w K mg base 10 "leaving_rank" _ := ⟨f23, _, ["history", "order"], ok_leaving_rank F23 T_check_order T_permutation_rank, PySem.W.mg_of X G a23, F23.kp, b23⟩
  have T_law_source : Gc l.prog w K mg base 1 "_law_source" _ := ⟨f24, _, ["cell", "k"], ok_law_source F24 B, PySem.W.mg_of X G a24, F24.kp, b24⟩
  have T_law_draw : Gc l.prog w K mg base 1 "_law_draw" _ := ⟨f25, _, ["source", "count"], ok_law_draw F25, PySem.W.mg_of X G a25, F25.kp, b25⟩
  have T_law_row : Gc l.prog w K mg base 2 "_law_row" _ := ⟨f26, _, ["source", "most"], ok_law_row F26 B T_law_draw, PySem.W.mg_of X G a26, F26.kp, b26⟩
  have T_law_active : Gc l.prog w K mg base 1 "_law_active" _ := ⟨f27, _, ["row"], ok_law_active F27 B, PySem.W.mg_of X G a27, F27.kp, b27⟩
  have T_law_play : Gc l.prog w K mg base 1 "_law_play" _ := ⟨f28, _, ["row"], ok_law_play F28, PySem.W.mg_of X G a28, F28.kp, b28⟩
  have T_law_equal : Gc l.prog w K mg base 3 "_law_equal" _ := ⟨f29, _, ["result", "expected"], ok_law_equal_D F29 B (PySem.W.mg_of X G a29) b29 2, PySem.W.mg_of X G a29, F29.kp, b29⟩
  have T_law_all : Gc l.prog w K mg base 1 "_law_all" _ := ⟨f30, _, ["things"], ok_law_all F30, PySem.W.mg_of X G a30, F30.kp, b30⟩
  have T_law_holds : Gc l.prog w K mg base 11 "_law_holds" _ := ⟨f31, _, ["source", "most"], ok_law_holds F31 B T_law_row T_law_active T_law_all T_law_play T_law_equal T_left_by T_count_orders T_count_leaving T_nth_leaving T_leaving_rank, PySem.W.mg_of X G a31, F31.kp, b31⟩
  exact ok_law F32 B T_law_source T_law_holds
end L12
open PySem PySem.W PyProof.Rows
set_option maxHeartbeats 0 in
theorem PySem.Challenge.cw_latepatches_k12_orders_of_few_patches_holds : PySem.Challenge.rw_latepatches_k12_orders_of_few_patches.Holds := by
  w_on; o_law; k_head; (case hw => w_witness2)
  k_fill
  refine Lp.walk_ofG (l := PySem.Challenge.rw_latepatches_k12_orders_of_few_patches) (n := 63) (k := 12) (x := "script") (CX := fun _ => L2.CX0) (sp := fun w => L12.spLaw _) rfl (by decide) rfl ⟨rfl, by decide, by decide⟩ (fun w h Y => PySem.W.kIn_of Y) ?F (fun _ _ a ns hl _ hS => ⟨a, ns, rfl, hS, hl, fun _ => rfl⟩) (fun _ _ _ _ _ h => h)
  case F =>
    intro w mg fa h KX G hmg
    refine' L12.all_mk KX G hmg ?a0 ?l0 ?c0 ?k0 ?a1 ?l1 ?c1 ?k1 ?a2 ?l2 ?c2 ?k2 ?a3 ?l3 ?c3 ?k3 ?a4 ?l4 ?c4 ?k4 ?a5 ?l5 ?c5 ?k5 ?a6 ?l6 ?c6 ?k6 ?a7 ?l7 ?c7 ?k7 ?a8 ?l8 ?c8 ?k8 ?a9 ?l9 ?c9 ?k9 ?a10 ?l10 ?c10 ?k10 ?a11 ?l11 ?c11 ?k11 ?a12 ?l12 ?c12 ?k12 ?a13 ?l13 ?c13 ?k13 ?a14 ?l14 ?c14 ?k14 ?a15 ?l15 ?c15 ?k15 ?a16 ?l16 ?c16 ?k16 ?a17 ?l17 ?c17 ?k17 ?a18 ?l18 ?c18 ?k18 ?a19 ?l19 ?c19 ?k19 ?a20 ?l20 ?c20 ?k20 ?a21 ?l21 ?c21 ?k21 ?a22 ?l22 ?c22 ?k22 ?a23 ?l23 ?c23 ?k23 ?a24 ?l24 ?c24 ?k24 ?a25 ?l25 ?c25 ?k25 ?a26 ?l26 ?c26 ?k26 ?a27 ?l27 ?c27 ?k27 ?a28 ?l28 ?c28 ?k28 ?a29 ?l29 ?c29 ?k29 ?a30 ?l30 ?c30 ?k30 ?a31 ?l31 ?c31 ?k31 ?a32 ?l32 ?c32 ?k32 ?g_LAST_PATCH ?g_MOST_EVENTS ?z_len ?z_list ?z_int ?z_bool ?z_str ?z_tuple ?z_max ?z_min ?z_range ?z_repr ?z_isinstance ?z_type ?z_all ?z_set ?z_zip ?z_enumerate ?z_sorted ?z_abs ?z_divmod ?hfac
    (case a0 => k_is); (case l0 => k_is); (case c0 => k_is); (case k0 => k_is); (case a1 => k_is); (case l1 => k_is); (case c1 => k_is); (case k1 => k_is); (case a2 => k_is); (case l2 => k_is); (case c2 => k_is); (case k2 => k_is); (case a3 => k_is); (case l3 => k_is); (case c3 => k_is); (case k3 => k_is); (case a4 => k_is); (case l4 => k_is); (case c4 => k_is); (case k4 => k_is); (case a5 => k_is); (case l5 => k_is); (case c5 => k_is); (case k5 => k_is); (case a6 => k_is); (case l6 => k_is); (case c6 => k_is); (case k6 => k_is); (case a7 => k_is); (case l7 => k_is); (case c7 => k_is); (case k7 => k_is); (case a8 => k_is); (case l8 => k_is); (case c8 => k_is); (case k8 => k_is); (case a9 => k_is); (case l9 => k_is); (case c9 => k_is); (case k9 => k_is); (case a10 => k_is); (case l10 => k_is); (case c10 => k_is); (case k10 => k_is); (case a11 => k_is); (case l11 => k_is); (case c11 => k_is); (case k11 => k_is); (case a12 => k_is); (case l12 => k_is); (case c12 => k_is); (case k12 => k_is); (case a13 => k_is); (case l13 => k_is); (case c13 => k_is); (case k13 => k_is); (case a14 => k_is); (case l14 => k_is); (case c14 => k_is); (case k14 => k_is); (case a15 => k_is); (case l15 => k_is); (case c15 => k_is); (case k15 => k_is); (case a16 => k_is); (case l16 => k_is); (case c16 => k_is); (case k16 => k_is); (case a17 => k_is); (case l17 => k_is); (case c17 => k_is); (case k17 => k_is); (case a18 => k_is); (case l18 => k_is); (case c18 => k_is); (case k18 => k_is); (case a19 => k_is); (case l19 => k_is); (case c19 => k_is); (case k19 => k_is); (case a20 => k_is); (case l20 => k_is); (case c20 => k_is); (case k20 => k_is); (case a21 => k_is); (case l21 => k_is); (case c21 => k_is); (case k21 => k_is); (case a22 => k_is); (case l22 => k_is); (case c22 => k_is); (case k22 => k_is); (case a23 => k_is); (case l23 => k_is); (case c23 => k_is); (case k23 => k_is); (case a24 => k_is); (case l24 => k_is); (case c24 => k_is); (case k24 => k_is); (case a25 => k_is); (case l25 => k_is); (case c25 => k_is); (case k25 => k_is); (case a26 => k_is); (case l26 => k_is); (case c26 => k_is); (case k26 => k_is); (case a27 => k_is); (case l27 => k_is); (case c27 => k_is); (case k27 => k_is); (case a28 => k_is); (case l28 => k_is); (case c28 => k_is); (case k28 => k_is); (case a29 => k_is); (case l29 => k_is); (case c29 => k_is); (case k29 => k_is); (case a30 => k_is); (case l30 => k_is); (case c30 => k_is); (case k30 => k_is); (case a31 => k_is); (case l31 => k_is); (case c31 => k_is); (case k31 => k_is); (case a32 => k_is); (case l32 => k_is); (case c32 => k_is); (case k32 => k_is); (case g_LAST_PATCH => k_is); (case g_MOST_EVENTS => k_is); (case z_len => k_is); (case z_list => k_is); (case z_int => k_is); (case z_bool => k_is); (case z_str => k_is); (case z_tuple => k_is); (case z_max => k_is); (case z_min => k_is); (case z_range => k_is); (case z_repr => k_is); (case z_isinstance => k_is); (case z_type => k_is); (case z_all => k_is); (case z_set => k_is); (case z_zip => k_is); (case z_enumerate => k_is); (case z_sorted => k_is); (case z_abs => k_is); (case z_divmod => k_is); (case hfac => k_is)
