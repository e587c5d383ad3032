import PyProof.Rows.All
import Wide.All
import OpenK.AllK
import Wide.FinOn
import HandS.ForMost
import HandS.IsInst
import HandS.More
import HandS.Strs
import HandS.Wide
import HandS.SortInts
import HandS.Style
import HandS.Conv
import PyProof.TypeEq
import PyProof.ReprRoads
import HandS.ForExc
import HandS.Evl
import HandS.Zip
import HandS.SetFor
import HandS.Walk
import PyProof.Rows.CountFlat
import HandS.DictComp
import PyProof.Rows.SeqMore
import HandS.Text
import HandS.WideBits
import HandS.Gcd
import HandS.Defaults
import PyProof.Rows.RegReprOcc
import PyProof.StrOps2
import HandS.NamedTupSort
import KE.LtSeq
import KE.KMathG
import PyProof.Walk
import PyProof.WalkLemmas
import PyProof.Pure
import PyProof.TableTree
import PyProof.FactsTree
import HandS.Rev
import HandS.FStr
import KE.KxField
import PyProof.FString3
import PyProof.Rows.StrIntSpec
import PyProof.StrLawsChain
import PyProof.StrLawsTight
import PyProof.Rows.StrItems
import HandS.Property
import HandS.ExcOwn
import HandS.TryMany
import HandS.WordsExc
import HandS.MakeKwOnly
import HandS.GenList
import HandS.ExcIs
import HandS.ExcValue
import HandS.HotCalls
import OpenK.KMeth
import KE.KCallOwn
import HandS.DictTup
import KE.KDictList
import PyProof.InstNe
import HandS.RaiseMore
import PyProof.CallFns
import PyProof.ReprReads
import HandS.Small
import PySem.Challenge.RW_latepatches_k11_orders_recognized
set_option Elab.async false
set_option linter.all false
set_option maxRecDepth 100000
namespace Lp
open PySem PySem.Spec PyProof.Rows L2

/-! ### operators that the layer lacks -/
def CPowW (i j : Int) : Prop := 0 ≤ j ∧ (Builtin.Int.intBits i : Int) * j ≤ 2 ^ 27
section
variable {X : Cx}
theorem op_powW : OpR X (binaryOp .Pow) (rI CPowW fun i j => .int (i ^ j.toNat)) := opI fun _ _ _ _ _ _ _ hc q => pow_int hc.1 hc.2 q
end
theorem powW_ok {i : Int} {n : Nat} {j : Int} (h : i.natAbs < 2 ^ n) (hj : 0 ≤ j) (hn : (n : Int) * j ≤ 100000000) : CPowW i j := by
  refine ⟨hj, ?_⟩
  have b := PyProof.Rows.intBits_le h
  have e : (2 : Int) ^ 27 = 134217728 := by decide
  rw [e]
  have h1 : (Builtin.Int.intBits i : Int) ≤ (n : Int) := by omega
  have h2 := Int.mul_le_mul_of_nonneg_right h1 hj
  omega

/-! ### repr -/
def rRepr (K : PySem.W.Frag) : List V → Hp → VK → Prop := fun xs H Q => ∃ (a : Addr) (d : PyData), xs = [.ref a] ∧ Dp K H (.ref a) d ∧ d.showable = true ∧ d.hasDict = false ∧ d.depth ≤ 60 ∧ d.shown.length ≤ sizeLine ∧ Q (.str d.shown) H
theorem call_repr {X : Cx} (hg : X.A.guards = some []) (hu : X.A.units + 64 < cLine) : CallR X (.builtin "repr") (rRepr X.K) := by
  intro pins s σ H xs us Q I r h
  obtain ⟨a, d, rfl, hd, h1, h2, h3, h4, q⟩ := h
  obtain ⟨u, rfl, rx⟩ := vals1 r
  obtain ⟨as, hr⟩ := Dp.reads I d _ u hd rx
  cases (show u = Value.ref a from rx)
  exact PySem.repr_of_reads' hr h1 (PyData.noDict_hsm h2) hg (by omega) (fun _ _ e => e) (fun h' t tk hk => ⟨.str d.shown, H, I.kept hk, ⟨t, rfl⟩, q⟩) h4
end Lp
set_option Elab.async false
set_option linter.all false
set_option maxRecDepth 100000
namespace Lp
open PySem PySem.Spec PyProof.Rows L2

/-! ### defs that are called where no repr is under way (guards = some []) -/
structure FnG (P : Program) (w : World) (K : PySem.W.Frag) (mg : Str → Option Value) (base : Heap) (CX : CXT) (k : Nat) (f : Addr) (fd : FuncData) (ps : List Str) (sp : Sp) : Prop where
  len : ∀ vs H Q E, sp vs H Q E → vs.length = ps.length
  runG : ∀ (A : Around) (out : List Env) (s : Shared) (H : Hp) (ar : Args) (us : List Value) (vs : List V) (Q : VK) (E : XK), A.guards = some [] → Room k A → Env0 P w K mg base A out s H →
    BindsTo s fd ar (ps.zip us) → Vals vs us → sp vs H Q E → codeAny (model P w) A (.call (.ref f) ar) (CR CX out P w H s Q E) s
section
variable {P : Program} {w : World} {K : PySem.W.Frag} {mg : Str → Option Value} {base : Heap}
theorem FnG.of {CX : CXT} {k : Nat} {f : Addr} {fd : FuncData} {ps : List Str} {sp : Sp} (F : FnOk P w K mg base CX k f fd ps sp) : FnG P w K mg base CX k f fd ps sp :=
  ⟨F.len, fun A out s H ar us vs Q E _ hr => F.run A out s H ar us vs Q E hr⟩
theorem fnG_of {CX : CXT} {k : Nat} {f : Addr} {name qual : Str} {params : Arguments} {body : List Stmt} {scope : Scope} {dV kV doc pm cdv ct oc : Value} {an od : Option Addr}
    {osl : Array (Option Value)} {N ps : List Str} {sp : Sp} (lk : K.lookup f = some ⟨oc, od, .func (PySem.W.fnOf name qual params body scope dV kV doc pm an cdv ct), osl⟩) (hcd : PySem.W.codeIn K cdv qual = true) (S : FnScope N ps scope)
    (ln : ∀ vs H Q E, sp vs H Q E → vs.length = ps.length)
    (hb : ∀ (A : Around) (out : List Env) (s : Shared) (H : Hp) (vs : List V) (Q : VK) (E : XK), A.guards = some [] → Room k (A.deeper (envOfC qual scope s.heap.objs.size f cdv)) → sp vs H Q E →
      ∃ t, PSs (cxOf CX P w K mg base N qual scope f cdv A out s H E) body t ∧ t { nx := fun _ H' => Q .non H', rt := Q } (start N vs) H) :
    FnG P w K mg base CX (k + 1) f (PySem.W.fnOf name qual params body scope dV kV doc pm an cdv ct) ps sp := by
  refine ⟨ln, fun A out s H ar us vs Q E hG room en bd rv hs => ?_⟩
  have KX : K.In s.heap := en.mod.kin.keeps fun b o e => (en.bs b o e).1
  have nl : s.heap.NoLimit := en.mod.nolimit.keeps fun b o e => (en.bs b o e).1
  have kd : ∀ y ∈ ps.zip us, scope.names.lookup y.1 = some .local ∨ (scope.names.lookup y.1 = some .cell ∧ ((cellsFrom (s.heap.objs.size + 1) scope.names []).lookup y.1).isSome = true) := by
    rintro ⟨n, v⟩ hy
    have hm := (List.of_mem_zip hy).1
    exact (S.par n hm).elim (fun q => .inl q) fun q => .inr ⟨q, PySem.W.cellsFrom_some _ _ _ (.inl q)⟩
  refine codeAny_call_function room.depth (KX _ _ lk) rfl S.co S.gen rfl (PySem.W.codeRec_of KX hcd) (bd _ _ _ _ ?_)
  refine wpAny_newFunctionEnv_cells S.kind kd fun e1 he s1 x => ?_
  subst he
  refine ⟨nl.keeps x.toInCall.keep, codeAny_func ?_⟩
  obtain ⟨t, ht, hq⟩ := hb A out s H vs Q E hG (room.deeper _) hs
  have J0 : Inv (cxOf CX P w K mg base N qual scope f cdv A out s H E) [] (start N vs) H s1 := inv_start S room.hd en (ln _ _ _ _ hs) rv x
  refine wpAny_mono (ht.run [] s1 (start N vs) H _ J0 hq) (fun fl s' h3 => ?_) fun _ _ h3 => h3
  cases fl with
  | ret u => exact let ⟨v, _, H', J, r2, q⟩ := h3; ⟨v, H', J.os, J.bare, J.base, J.hok, r2, q⟩
  | next => exact let ⟨_, H', J, q⟩ := h3; ⟨.non, H', J.os, J.bare, J.base, J.hok, rfl, q⟩
  | brk => exact (let ⟨_, _, _, q⟩ := h3; q : False).elim
  | cont => exact (let ⟨_, _, _, q⟩ := h3; q : False).elim
theorem okG {x qual : Str} {st : Stmt} {f : Addr} {fd : FuncData} {N ps : List Str} {k : Nat} {sp : Sp} (F : Fun K x qual st f fd) (S : FnScope N ps (defScope st)) (ln : ∀ vs H Q E, sp vs H Q E → vs.length = ps.length)
    (hb : ∀ (cdv : Value) (A : Around) (out : List Env) (s : Shared) (H : Hp) (vs : List V) (Q : VK) (E : XK), A.guards = some [] → Room k (A.deeper (envOfC qual (defScope st) s.heap.objs.size f cdv)) → sp vs H Q E →
      ∃ t, PSs (cxOf CX0 P w K mg base N qual (defScope st) f cdv A out s H E).nox (defBody st) t ∧ t { nx := fun _ H' => Q .non H', rt := Q } (start N vs) H) : FnG P w K mg base CX0 (k + 1) f fd ps sp := by
  obtain ⟨oc, od, kV, doc, pm, an, cdv, ct, osl, rfl, lk, hcd⟩ := F.ex
  refine fnG_of lk hcd S ln fun A out s H vs Q E hG room h => ?_
  obtain ⟨t, ht, q⟩ := hb cdv A out s H vs Q E hG room h
  exact ⟨t, ht.nox, q⟩
end
section
variable {X : Cx} {CX : CXT} {k : Nat} {f : Addr} {fd : FuncData} {ps : List Str} {sp : Sp} {dvs : List V} {ds : List Value} {E : XK} {x : Str} {p pos : Pos} {e : Expr} {es : List Expr} {t : TA}
theorem pe_callG (F : FnG X.prog X.w X.K X.mg X.base CX k f fd ps sp) (hG : X.A.guards = some []) (hr : Room k X.A) (hg : Gl X x) (hm : X.mg x = some (.ref f)) (hk : PySem.W.keepIn X.K (.ref f) = true) (hb : Binds X.K fd ps ds) (hd : Vals dvs ds) (hx : Passes CX X E)
    (ha : PA X (e :: es) t) (hdb : (x == ("__debug__" : Str)) = false := by decide) (he : starEach (e :: es) X.env = (false, eval e X.env) :: starEach es X.env := by rfl) (hpl : (backTo pos (starEach es X.env)).any (·.1) = false := by rfl) :
    PE X (.Call (.Name x p) (e :: es) [] pos) (tCall sp dvs E t) := by
  refine ⟨fun pins s σ H Q I h => wpAny_Call_Name_kw (ld_glob I hg hm ?_ hdb)⟩
  refine PySem.W.callWith_K (h₀ := X.base) I.ok.mod.kin hk (thn (ha.run pos pins s σ H _ I h) fun us s1 ⟨vs, H1, I1, r, q⟩ => ⟨I1.kIn, ?_⟩) he hpl
  have rr : Vals (vs ++ dvs) (us ++ ds) := r.append hd
  have hl : (us ++ ds).length = ps.length := rr.length.symm.trans (F.len _ _ _ _ q)
  refine wpAny_call (codeAny_mono (F.runG X.A X.stack s1 H1 ⟨us, []⟩ (us ++ ds) (vs ++ dvs) Q E hG hr I1.env0 (hb s1 us I1.kIn hl) rr q) fun r s' hq => ?_)
  cases r with
  | error e => exact hx pins σ H1 s1 e s' I1 hq
  | ok fl =>
    cases fl with
    | ret u => exact I1.after hq
    | next => exact False.elim hq
    | brk => exact False.elim hq
    | cont => exact False.elim hq
end

/-! ### the end of a law's row, for such a law -/
theorem law_callG {P : Program} {w : World} {K : PySem.W.Frag} {mg mb : Str → Option Value} {CX : CXT} {k : Nat} {fa a : Addr} {fd : FuncData} {x : Str} {sp : Sp} {s₁ : Shared} {vs : List Value} {ns : List Int}
    (KX : K.In s₁.heap) (hns : s₁.heap.Ns mainGlobals mg) (hb : s₁.heap.Ns builtinsNs mb) (hbb : ∀ x : Str, x ≠ "__name__" → mb x = bootBuiltins x) (hlim : s₁.heap.NoLimit) (hg : s₁.gens = #[])
    (ha : s₁.heap.get? a = some { cls := .type "list", data := .seq vs.toArray }) (hi : IntsAre vs ns) (hl : ns.length ≤ sizeLine) (hr : Room k callerA)
    (F : ∀ base : Heap, K.In base → base.Ns mainGlobals mg → FnG P w K mg base CX k fa fd [x] sp) (hbind : ∀ (s : Shared) (u : Value), BindsTo s fd ⟨[u], []⟩ [(x, u)])
    (hsp : ∀ H : Hp, Only H → SqL K H a (ns.map V.int) → sp [.ref a] H (fun v _ => v = .bl true) fun _ _ _ => False)
    (hCX : ∀ H e s', CX [] H s₁ (fun _ _ _ => False) e s' → False) :
    codeAny (model P w) callerA (.call (.ref fa) ⟨[.ref a], []⟩) (fun r s' => r = .ok (.ret (.bool true)) ∧ OldK s₁.heap s'.heap ∧ s'.os = s₁.os ∧ AllBare s'.gens) s₁ := by
  have rv := vals_ints hi
  have szV := hi.length
  have main : ∀ H : Hp, Only H → SqL K H a (ns.map V.int) → HOk P w H s₁.heap → (∀ b, H b ≠ none → b = a) → (H a ≠ none → K.lookup a = none) →
      codeAny (model P w) callerA (.call (.ref fa) ⟨[.ref a], []⟩) (fun r s' => r = .ok (.ret (.bool true)) ∧ OldK s₁.heap s'.heap ∧ s'.os = s₁.os ∧ AllBare s'.gens) s₁ := by
    intro H hO hS ok hA hK
    have free : ∀ {b : Addr}, b ≠ a → H b = none := fun {b} hb => by
      cases q : H b with
      | none => rfl
      | some u => exact absurd (hA b (by rw [q]; simp)) hb
    have nsK : ∀ {b : Addr} {m : Str → Option Value}, s₁.heap.Ns b m → (hidT s₁.heap H).Ns b m := by
      rintro b m ⟨o, es, ep, e, d, r⟩
      refine ⟨o, es, ep, hidT_get e (free fun z => ?_), d, r⟩
      subst z
      rw [ha] at e
      cases e
      exact nomatch (show Data.seq vs.toArray _ = Data.dict es ep from d)
    have hKb : K.In (hidT s₁.heap H) := by
      intro b o e
      refine hidT_get (KX b o e) ?_
      cases q : H b with
      | none => rfl
      | some u =>
        have z := hA b (by rw [q]; simp)
        subst z
        rw [hK (by rw [q]; simp)] at e
        cases e
    have hM : Mod K mg (hidT s₁.heap H) := ⟨hKb, nsK hns, ⟨mb, nsK hb, hbb⟩, let ⟨mc, h1, h2⟩ := hlim; ⟨mc, nsK h1, h2⟩⟩
    have e0 : Env0 P w K mg (hidT s₁.heap H) callerA [] s₁ H := ⟨rfl, hM, fun b o e => of_hidT e, Nat.le_of_eq (hidT_size _ _), trivial, fun b hb => absurd (show b ∈ ([] : List Addr) from hb) (by simp), ok, .of_eq hg⟩
    refine codeAny_mono ((F _ hKb (nsK hns)).runG callerA [] s₁ H ⟨[.ref a], []⟩ [.ref a] [.ref a] _ _ rfl hr e0 (hbind s₁ (.ref a)) (.cons rfl .nil) (hsp H hO hS)) fun r s' h => ?_
    cases r with
    | error e => exact (hCX H e s' h).elim
    | ok fl =>
      cases fl with
      | next => exact False.elim h
      | brk => exact False.elim h
      | cont => exact False.elim h
      | ret u =>
        obtain ⟨v, H', os, bare, un, hok', r', q⟩ := h
        cases (show v = .bl true from q)
        cases (show u = Value.bool true from r')
        refine ⟨rfl, OldK.of_keep fun b o e => ?_, os, bare⟩
        rcases hO b with z | ⟨ob, xs, z⟩
        · exact un.keep b o e z (fun z => absurd (show b ∈ ([] : List Addr) from z) (by simp)) (by simp)
        · obtain ⟨e1, _⟩ := ok b _ z
          obtain ⟨e2, _⟩ := hok' b _ (un.frzs b ob _ z)
          rw [e] at e1; cases e1
          exact e2
  cases hk : K.lookup a with
  | some o =>
    have e := KX a o hk
    rw [ha] at e
    cases e
    exact main (fun _ => none) (fun _ => .inl rfl) (.inr ⟨_, vs.toArray, _, hk, rfl, rfl, rfl, by rw [List.size_toArray, szV]; exact hl, by simpa using rv⟩) (fun b u z => nomatch z) (fun b z => absurd rfl z) fun z => absurd rfl z
  | none =>
    refine main (fun b => if b = a then some (.frz { cls := .type "list", data := .seq vs.toArray } (.lst (ns.map V.int))) else none) (fun b => ?_) (.inl (.inr ⟨{ cls := .type "list", data := .seq vs.toArray }, if_pos rfl⟩)) (fun b u z => ?_) (fun b z => ?_) fun _ => hk
    · by_cases h : b = a
      · exact .inr ⟨_, _, if_pos h⟩
      · exact .inl (if_neg h)
    · by_cases h : b = a
      · cases (if_pos h).symm.trans z
        subst h
        exact ⟨ha, by rw [List.length_map]; exact hl, vs, _, rv, ha⟩
      · cases (if_neg h).symm.trans z
    · by_cases h : b = a
      · exact h
      · exact absurd (if_neg h) z
theorem walk_ofG {l : PySem.W.OpenLaw} {n k : Nat} {q : Program} {loose : List Str} {XP : (Str → Option Value) → Heap → Prop} {YP : World → Heap → Prop} {d : DefRec} {K : Params → PySem.W.Frag} {CX : World → CXT} {sp : World → Sp} {x : Str}
    (hn : l.most = some n) (hn2 : n ≤ sizeLine) (hdf : d.params.defaults = []) (hr : Room k callerA)
    (hY : ∀ (w : World) (h : Heap), YP w h → (K w.params).In h)
    (F : ∀ (w : World) (mg : Str → Option Value) (fa : Addr) (h : Heap), (K w.params).In h → h.Ns mainGlobals mg → mg d.name = some (.ref fa) →
      ∃ fd : FuncData, (∀ (s : Shared) (u : Value), BindsTo s fd ⟨[u], []⟩ [(x, u)]) ∧
        ∀ base : Heap, (K w.params).In base → base.Ns mainGlobals mg → FnG l.prog w (K w.params) mg base (CX w) k fa fd [x] (sp w))
    (hsp : ∀ (w : World) (H : Hp) (a : Addr) (ns : List Int), ns.length ≤ n → Only H → SqL (K w.params) H a (ns.map V.int) → sp w [.ref a] H (fun v _ => v = .bl true) fun _ _ _ => False)
    (hCX : ∀ (w : World) (H : Hp) (s : Shared) (e : Value) (s' : Shared), CX w [] H s (fun _ _ _ => False) e s' → False) :
    PySem.W.WalkO q loose XP YP l.row.toRowW d [] (fun f vs => PySem.call f vs) := by
  refine Att.attach_call hn hdf fun w _ s₁ mg _ fa _ _ _ _ a vs ns G Y _ _ _ hmg hobj hints hlen hg => ?_
  obtain ⟨fd, hb, hF⟩ := F w mg fa _ (hY w _ Y) G.T.g hmg
  exact law_callG (hY w _ Y) G.T.g G.T.b G.T.builtins G.T.nolimit hg hobj hints (Nat.le_trans hlen hn2) hr hF hb (fun H hO hS => hsp w H a ns hlen hO hS) fun H e s' => hCX w H s₁ e s'
end Lp
set_option Elab.async false
set_option linter.all false
set_option maxRecDepth 100000
namespace Lp
open PySem PySem.Spec PyProof.Rows L2

/-- the names of the built-ins that the text leaves alone -/
structure NoB (mg : Str → Option Value) : Prop where
  len : mg "len" = none
  list : mg "list" = none
  int : mg "int" = none
  bool : mg "bool" = none
  str : mg "str" = none
  tuple : mg "tuple" = none
  max : mg "max" = none
  min : mg "min" = none
  range : mg "range" = none
  repr : mg "repr" = none
  isinstance : mg "isinstance" = none
  type : mg "type" = none
  all : mg "all" = none
  set : mg "set" = none
  zip : mg "zip" = none
  enumerate : mg "enumerate" = none
  sorted : mg "sorted" = none
  abs : mg "abs" = none

/-- a def that may be called by its name -/
structure Gc (P : Program) (w : World) (K : PySem.W.Frag) (mg : Str → Option Value) (base : Heap) (k : Nat) (x : Str) (sp : Sp) : Prop where
  ex : ∃ (f : Addr) (fd : FuncData) (ps : List Str), FnG P w K mg base CX0 k f fd ps sp ∧ mg x = some (.ref f) ∧ PySem.W.keepIn K (.ref f) = true ∧ Binds K fd ps []
theorem FnG.mono {P : Program} {w : World} {K : PySem.W.Frag} {mg : Str → Option Value} {base : Heap} {CX : CXT} {j k : Nat} {f : Addr} {fd : FuncData} {ps : List Str} {sp : Sp} (F : FnG P w K mg base CX j f fd ps sp) (h : j ≤ k) : FnG P w K mg base CX k f fd ps sp :=
  ⟨F.len, fun A out s H ar us vs Q E hG hr => F.runG A out s H ar us vs Q E hG (hr.mono h)⟩
section
variable {X : Cx} {k j : Nat} {x : Str} {sp : Sp} {p pos : Pos} {e : Expr} {es : List Expr} {t : TA}
theorem pe_g (c : Gc X.prog X.w X.K X.mg X.base k x sp) (hG : X.A.guards = some []) (hr : Room j X.A) (hk : k ≤ j) (hg : Gl X x) (ha : PA X (e :: es) t)
    (hdb : (x == ("__debug__" : Str)) = false := by decide) (he : starEach (e :: es) X.env = (false, eval e X.env) :: starEach es X.env := by rfl) (hpl : (backTo pos (starEach es X.env)).any (·.1) = false := by rfl) :
    PE X (.Call (.Name x p) (e :: es) [] pos) (tCall sp [] E0 t) := by
  obtain ⟨f, fd, ps, F, hm, kp, b⟩ := c.ex
  exact pe_callG F hG (hr.mono hk) hg hm kp b .nil pass0 ha hdb he hpl
end

/-! ### == and != of types -/
def rEqTy : R2 := fun x y H Q => ∃ a b, x = .ty a ∧ y = .ty b ∧ (∀ s' : Shared, s'.TypeIs (.type a) "type") ∧ (∀ s' : Shared, s'.TypeIs (.type b) "type") ∧ Q (.bl (decide (a = b))) H
def rNeTy : R2 := fun x y H Q => ∃ a b, x = .ty a ∧ y = .ty b ∧ (∀ s' : Shared, s'.TypeIs (.type a) "type") ∧ (∀ s' : Shared, s'.TypeIs (.type b) "type") ∧ Q (.bl (!decide (a = b))) H
section
variable {X : Cx}
theorem op_eqTy : OpR X (compareOp .Eq) rEqTy := by
  intro pins s σ H x y v u Q I rx ry h
  obtain ⟨a, b, rfl, rfl, ha, hb, q⟩ := h
  cases (show v = Value.type a from rx)
  cases (show u = Value.type b from ry)
  by_cases e : a = b
  · subst e
    exact PySem.TypeEq.eq_type_same ha ⟨.bl true, H, I, rfl, by simpa using q⟩
  · exact PySem.TypeEq.eq_type_other ha hb (by rw [ty_beq]; exact decide_eq_false e) ⟨.bl false, H, I, rfl, by simpa [e] using q⟩
end

open PySem.TypeEq
theorem slot_type_ne : Slot "type" (cmpInfo .NotEq).2.1 "object.__ne__" :=
  .of (owner := "object") (n := "__ne__") (by rw [typeLookup_type, builtinLookup_eq_fast]; kernel_rfl) (by decide +kernel) (by decide +kernel) (by decide +kernel)
    (by first | exact .inl (by decide +kernel) | exact .inr (by decide +kernel)) (by rw [isSubtype_type]; kernel_rfl)
section
variable {prog : Program} {w : World} {A : Around} {E : Value → Shared → Prop} {s : Shared} {Q : Value → Shared → Prop}
theorem ne_type_same {X : String} (hX : ∀ s' : Shared, s'.TypeIs (.type X) "type") (h : Q (.bool false) s) : wpAny (model prog w) A (compareOp .NotEq (.type X) (.type X)) Q E s := by
  show wpAny _ A (richCompare .NotEq _ _) Q E s
  refine PySem.wpAny_richCompare_same (T := "type") (hX s) (hX s) slot_type_ne (wpAny_call_entry slot_type_ne (hX s) F.entry_object_ne ?_ (F.args_object_ne_2 _ _))
  unfold Builtin.«object.__ne__»
  refine wpAny_bind (m := slotArgs "__ne__" 1 _) (wpAny_of_eq (a := ((Value.type X : Value), [Value.type X])) (by first | rfl | (simp only [slotArgs]; rfl)) ?_)
  refine wpAny_bind (wpAny_cRoomFor_or (.inl rfl) ?_)
  refine wpAny_bind (m := callSpecialIfBound? (.type X) (Str.ofString "__eq__") [.type X]) (wpAny_callSpecialIfBound?_slot (hX s) slot_type_eq
    (call_gives slot_type_eq (hX s) F.entry_object_eq (F.args_object_eq_2 _ _) (object_eq_same rfl (by simp)) ?_))
  show wpAny (model prog w) A.in1 (truthy (.bool true) >>= fun b => ret (Value.bool !b)) _ E s
  exact wpAny_bind (wpAny_of_eq (a := true) (by first | rfl | simp [truthy]) (wpAny_pure ⟨_, rfl, (by intro e; cases e), h⟩))
end

/-- a != b of the same built-in type -/
def rNeTyS : R2 := fun x y H Q => ∃ a, x = .ty a ∧ y = .ty a ∧ (∀ s' : Shared, s'.TypeIs (.type a) "type") ∧ Q (.bl false) H
theorem op_neTy {X : Cx} : OpR X (compareOp .NotEq) rNeTyS := by
  intro pins s σ H x y v u Q I rx ry h
  obtain ⟨a, rfl, rfl, ha, q⟩ := h
  cases (show v = Value.type a from rx)
  cases (show u = Value.type a from ry)
  exact ne_type_same ha ⟨.bl false, H, I, rfl, q⟩
/-! ### heaps -/
theorem same_new {H : Hp} {p : Addr} {o : HO} (h : H p = none) : Same H (upd H p o) := fun b x e => by
  rw [upd_ne (ne_of_none e h)]
  exact e
/-- all but what stands at a is as it was -/
def But (a : Addr) (H H' : Hp) : Prop := ∀ b, b ≠ a → ∀ o, H b = some o → H' b = some o
end Lp
set_option Elab.async false
set_option linter.all false
set_option maxRecDepth 100000
namespace Lp
open PySem PySem.Spec PyProof.Rows L2

/-! ### comprehensions that only add -/
def LcP (H1 : Hp) (D : Addr) (acc : Nat → List V) (i : Nat) (H : Hp) : Prop := H1 D = none ∧ Same H1 H ∧ H D = some (.lst (acc i))
section
variable {H1 H H4 : Hp} {D : Addr} {acc : Nat → List V} {i : Nat} {y : V}
theorem LcP.init (h : H1 D = none) (e : acc 0 = []) : LcP H1 D acc 0 (upd H1 D (.lst [])) := ⟨h, same_new h, by rw [upd_same, e]⟩
theorem LcP.put (p : LcP H1 D acc i H) (s : Same H H4) (e : acc (i + 1) = acc i ++ [y]) (hz : (acc i).length < 100000) :
    ∃ l, H4 D = some (.lst l) ∧ l.length < sizeLine ∧ LcP H1 D acc (i + 1) (upd H4 D (.lst (l ++ [y]))) := by
  obtain ⟨p1, p2, p3⟩ := p
  refine ⟨acc i, s _ _ p3, Nat.lt_of_lt_of_le hz (by decide), p1, fun b o h => ?_, by rw [upd_same, e]⟩
  rw [upd_ne (ne_of_none h p1)]
  exact s _ _ (p2 _ _ h)
theorem LcP.skip (p : LcP H1 D acc i H) (s : Same H H4) (e : acc (i + 1) = acc i) : LcP H1 D acc (i + 1) H4 := ⟨p.1, p.2.1.trans s, by rw [e]; exact s _ _ p.2.2⟩
end
theorem get_int {ns : List Int} {i : Nat} {x : V} (h : (ns.map V.int)[i]? = some x) : ∃ n, x = .int n ∧ ns[i]? = some n := by
  rw [List.getElem?_map] at h
  cases e : ns[i]? with
  | none => rw [e] at h; cases h
  | some n => rw [e] at h; cases h; exact ⟨n, rfl, rfl⟩
theorem mem_get {α : Type} {l : List α} {i : Nat} {x : α} (h : l[i]? = some x) : x ∈ l := List.mem_of_getElem? h
theorem lt_get {α : Type} {l : List α} {i : Nat} {x : α} (h : l[i]? = some x) : i < l.length := (List.getElem?_eq_some_iff.mp h).1
theorem take_get {α : Type} {l : List α} {i : Nat} {x : α} (h : l[i]? = some x) : l.take (i + 1) = l.take i ++ [x] := by
  rw [List.take_add_one, h]
  rfl
theorem zs {n : Nat} (h : n ≤ 100000) : n ≤ sizeLine := Nat.le_trans h (by decide)
theorem zl {n : Nat} (h : n < 100000) : n < sizeLine := Nat.lt_of_lt_of_le h (by decide)
theorem at0 {x : V} {r : List V} : atI (x :: r) 0 = some x := atI_nat (j := 0) rfl
theorem at1 {x y : V} {r : List V} : atI (x :: y :: r) 1 = some y := atI_nat (j := 1) rfl
theorem at2 {x y z : V} {r : List V} : atI (x :: y :: z :: r) 2 = some z := atI_nat (j := 2) rfl
theorem at_last {xs : List V} {y : V} : atI (xs ++ [y]) (-1) = some y := atI_last _ _
theorem dT {p : Prop} [Decidable p] (h : p) : V.bl (decide p) = V.bl true := congrArg V.bl (decide_eq_true h)
theorem dF {p : Prop} [Decidable p] (h : ¬ p) : V.bl (decide p) = V.bl false := congrArg V.bl (decide_eq_false h)
theorem nT {p : Prop} [Decidable p] (h : ¬ p) : V.bl (!decide p) = V.bl true := by rw [decide_eq_false h]; rfl
theorem nF {p : Prop} [Decidable p] (h : p) : V.bl (!decide p) = V.bl false := by rw [decide_eq_true h]; rfl
theorem vne {i j : Int} (h : i ≠ j) : ¬ V.int i = V.int j := fun e => h (V.int.inj e)

/-! ### a word behind a test, a value -/
def tMid (t : TT) : TT := fun σ H Q => ∃ M : Bool → Hp → Prop, t σ H M ∧ ∀ b H', M b H' → Q b H'
theorem pt_mid {X : Cx} {e : Expr} {t : TT} (h : PT X e t) : PT X e (tMid t) := ⟨fun pins s σ H _ I ⟨M, hm, hq⟩ => thn (h.run pins s σ H M I hm) fun b _ ⟨H', I', m⟩ => ⟨H', I', hq b H' m⟩⟩
def tMidE (t : TE) : TE := fun σ H Q => ∃ M : VK, t σ H M ∧ ∀ v H', M v H' → Q v H'
theorem pe_mid {X : Cx} {e : Expr} {t : TE} (h : PE X e t) : PE X e (tMidE t) := ⟨fun pins s σ H _ I ⟨M, hm, hq⟩ => thn (h.run pins s σ H M I hm) fun _ _ ⟨v, H', I', r, m⟩ => ⟨v, H', I', r, hq v H' m⟩⟩
/-! ### all but what stands at a is as it was -/
def Bt (a : Addr) (H H' : Hp) : Prop := ∀ b o, b ≠ a → H b = some o → H' b = some o
section
variable {a b p : Addr} {H H1 H2 H' : Hp} {o : HO}
theorem Bt.refl (a : Addr) (H : Hp) : Bt a H H := fun _ _ _ e => e
theorem Bt.trans (x : Bt a H H1) (y : Bt a H1 H2) : Bt a H H2 := fun b o n e => y b o n (x b o n e)
theorem Bt.of (x : Same H H') : Bt a H H' := fun b o _ e => x b o e
theorem Bt.at_ (a : Addr) (H : Hp) (o : HO) : Bt a H (upd H a o) := fun b u n e => by rw [upd_ne n]; exact e
theorem Bt.new (h : H p = none) : Bt a H (upd H p o) := .of (same_new h)
theorem Bt.mut (x : Bt a H H') (h : H p = none) : Bt a H (upd H' p o) := fun b u n e => by rw [upd_ne (ne_of_none e h)]; exact x b u n e
theorem Bt.add (x : Bt a H H') (h : H' p = none) : Bt a H (upd H' p o) := x.trans (.new h)
theorem Same.mut (x : Same H H') (h : H p = none) : Same H (upd H' p o) := fun b u e => by rw [upd_ne (ne_of_none e h)]; exact x b u e
theorem Same.add (x : Same H H') (h : H' p = none) : Same H (upd H' p o) := x.trans (same_new h)
theorem Bt.seq {K : PySem.W.Frag} {xs : List V} (x : Bt a H H') (n : b ≠ a) (h : SqL K H b xs) : SqL K H' b xs := by
  rcases h with (h | ⟨o, h⟩) | h
  · exact .inl (.inl (x _ _ n h))
  · exact .inl (.inr ⟨o, x _ _ n h⟩)
  · exact .inr h
end

/-! ### rules that name the written part outright: for the inside of comprehensions -/
section
variable {X : Cx} {K : PySem.W.Frag} {o e : Expr} {es : List Expr} {to : TE} {t : TA} {name : Str} {apos cpos : Pos} {T id : String} {r : V → List V → Hp → VK → Prop}
theorem k_bm (hK : X.K = K) (pa : PlainAttrs T) (slot : Slot T name id) (hty : typeOf (.builtin id) = pure (.type "method_descriptor")) (hm : MtR X id r) (ho : PE X o to) (ha : PA X (e :: es) t)
    (hbase : attributeBase o name X.env (eval o X.env) = eval o X.env := by rfl)
    (hfew : ((backTo cpos (starEach (e :: es) X.env)).all (fun x => !x.1) && (backToKw cpos (keywordEach [] X.env)).all (fun x => x.1.isSome)
      && decide ((e :: es).length + ([] : List Keyword).length + (if ([] : List Keyword).isEmpty then 0 else 1) < 30)) = true := by rfl)
    (hline : (apos.endLine == cpos.line) = true := by rfl) (hs : starEach (e :: es) X.env = (false, eval e X.env) :: starEach es X.env := by rfl) (hplain : (backTo cpos (starEach es X.env)).any (·.1) = false := by rfl) :
    PE X (.Call (.Attribute o name apos) (e :: es) [] cpos) (tBM K T r to t) := by
  subst hK
  exact pe_bm pa slot hty hm ho ha hbase hfew hline hs hplain
def rLenK (K : PySem.W.Frag) : List V → Hp → VK → Prop := fun xs H Q => ∃ p ys, xs = [.ref p] ∧ (SqL K H p ys ∨ SqT K H p ys) ∧ Q (.int ys.length) H
theorem k_len (hK : X.K = K) : CallR X (.builtin "len") (rLenK K) := by
  subst hK
  exact call_len_seq
theorem k_ix (hK : X.K = K) : IxR X (rIxL K) := by
  subst hK
  exact ix_list
theorem k_ixT (hK : X.K = K) : IxR X (rIxT K) := by
  subst hK
  exact ix_tup
theorem k_in (hK : X.K = K) : OpR X (compareOp .In) (rIn K false) := by
  subst hK
  exact op_in_seq
theorem k_notin (hK : X.K = K) : OpR X (compareOp .NotIn) (rIn K true) := by
  subst hK
  exact op_notIn_seq
theorem k_isi (hK : X.K = K) : CallR X (.builtin "isinstance") (rIsi K) := by
  subst hK
  exact call_isi
end
end Lp
set_option Elab.async false
set_option linter.all false
set_option maxRecDepth 100000
namespace Lp
open PySem PySem.Spec PyProof.Rows L2
/-! ### lists of ints as data -/
abbrev dI (ns : List Int) : PyData := .list (ns.map PyData.int)
theorem lay_ints : ∀ ns : List Int, PyData.canLayAll0 (ns.map PyData.int) = true
  | [] => rfl
  | _ :: r => by
    show (PyData.canLay0 (.int _) && PyData.canLayAll0 (r.map PyData.int)) = true
    rw [lay_ints r]
    rfl
theorem depth_ints : ∀ ns : List Int, PyData.depthAll (ns.map PyData.int) = 0
  | [] => rfl
  | _ :: r => by
    show max (PyData.depth (.int _)) (PyData.depthAll (r.map PyData.int)) = 0
    rw [depth_ints r]
    rfl
theorem shaped_ints (ns : List Int) : SeqAt.shaped (dI ns) = true := by
  show (PyData.canLayAll0 (ns.map PyData.int) && decide (PyData.depthAll (ns.map PyData.int) + 1 ≤ 64)) = true
  rw [lay_ints, depth_ints]
  rfl
theorem noDict_ints : ∀ ns : List Int, PyData.hasDictAll (ns.map PyData.int) = false
  | [] => rfl
  | _ :: r => by
    show (PyData.hasDict (.int _) || PyData.hasDictAll (r.map PyData.int)) = false
    rw [noDict_ints r]
    rfl
theorem show_ints : ∀ ns : List Int, (∀ n ∈ ns, n.natAbs.log2 < 1920) → PyData.showableAll (ns.map PyData.int) = true
  | [], _ => rfl
  | n :: r, h => by
    show (decide (n.natAbs.log2 < 1920) && PyData.showableAll (r.map PyData.int)) = true
    rw [show_ints r (fun m hm => h m (List.mem_cons_of_mem _ hm)), decide_eq_true (h n List.mem_cons_self)]
    rfl
theorem dpAll_ints {K : PySem.W.Frag} {H : Hp} : ∀ ns : List Int, DpAll K H (ns.map V.int) (ns.map PyData.int)
  | [] => .nil
  | n :: r => .cons (.int n) (dpAll_ints r)
theorem dp_ints {K : PySem.W.Frag} {H : Hp} {a : Addr} {ns : List Int} (h : SqL K H a (ns.map V.int)) : Dp K H (.ref a) (dI ns) := .lst h (dpAll_ints ns)
theorem eqvAll_ints : ∀ xs ys : List Int, PyData.eqvAll (xs.map PyData.int) (ys.map PyData.int) = decide (xs = ys)
  | [], [] => rfl
  | [], _ :: _ => rfl
  | _ :: _, [] => rfl
  | x :: r, y :: s => by
    show (PyData.eqv (.int x) (.int y) && PyData.eqvAll (r.map PyData.int) (s.map PyData.int)) = decide (x :: r = y :: s)
    rw [eqvAll_ints r s]
    show ((x == y) && decide (r = s)) = decide (x :: r = y :: s)
    by_cases e : x = y <;> by_cases e' : r = s <;> simp [e, e']
theorem eqv_ints (xs ys : List Int) : PyData.eqv (dI xs) (dI ys) = decide (xs = ys) := by
  show PyData.eqvAll (xs.map PyData.int) (ys.map PyData.int) = _
  exact eqvAll_ints xs ys
/-- [] == [], by the reading of == -/
theorem textFrom_le : ∀ (ts : List Str) (k : Nat) (acc : Str) (m : Nat), (∀ t ∈ ts, t.length ≤ m) → (textFrom k acc ts).length ≤ acc.length + ts.length * (m + 2)
  | [], k, acc, m, _ => by
    show acc.length ≤ _
    simp
  | t :: r, k, acc, m, h => by
    have ih := fun k' acc' => textFrom_le r k' acc' m (fun x hx => h x (List.mem_cons_of_mem _ hx))
    have ht := h t List.mem_cons_self
    have z := ih (k + 1) (acc ++ (if k > 0 then ", " else "" : String) ++ t)
    have e : (acc ++ (if k > 0 then ", " else "" : String) ++ t).length ≤ acc.length + 2 + t.length := by
      rw [Str.length_append, Str.length_append]
      by_cases hk : k > 0
      · rw [if_pos hk]
        exact Nat.le_refl _
      · rw [if_neg hk]
        show acc.length + 0 + t.length ≤ _
        omega
    show (textFrom (k + 1) (acc ++ (if k > 0 then ", " else "" : String) ++ t) r).length ≤ acc.length + (r.length + 1) * (m + 2)
    rw [Nat.succ_mul]
    omega
theorem num_len : ∀ n : Int, -100 ≤ n → n ≤ 100 → (Str.ofString (toString n)).length ≤ 4 := by
  intro n h0 h1
  have key : ∀ i : Fin 201, (Str.ofString (toString ((i.val : Int) - 100))).length ≤ 4 := by decide +kernel
  have e := key ⟨(n + 100).toNat, by omega⟩
  have e2 : (((n + 100).toNat : Nat) : Int) - 100 = n := by omega
  rw [e2] at e
  exact e
theorem shownAll_mem : ∀ (ns : List Int) (t : Str), t ∈ PyData.shownAll (ns.map PyData.int) → ∃ n ∈ ns, t = Str.ofString (toString n)
  | [], t, h => by
    have h' : t ∈ ([] : List Str) := h
    cases h'
  | n :: r, t, h => by
    have h' : t ∈ Str.ofString (toString n) :: PyData.shownAll (r.map PyData.int) := h
    rcases List.mem_cons.mp h' with e | e
    · exact ⟨n, List.mem_cons_self, e⟩
    · obtain ⟨m, hm, e⟩ := shownAll_mem r t e
      exact ⟨m, List.mem_cons_of_mem _ hm, e⟩
theorem shownAll_len : ∀ ns : List Int, (PyData.shownAll (ns.map PyData.int)).length = ns.length
  | [] => rfl
  | n :: r => congrArg (· + 1) (shownAll_len r)
theorem shown_ints {ns : List Int} (hb : ∀ n ∈ ns, -100 ≤ n ∧ n ≤ 100) (hl : ns.length ≤ 1000) : (dI ns).shown.length ≤ sizeLine := by
  show (textFrom 0 "[" (PyData.shownAll (ns.map PyData.int)) ++ ("]" : Str)).length ≤ sizeLine
  rw [Str.length_append]
  have z := textFrom_le (PyData.shownAll (ns.map PyData.int)) 0 "[" 4 (fun t ht => by
    obtain ⟨n, hn, e⟩ := shownAll_mem ns t ht
    rw [e]
    exact num_len n (hb n hn).1 (hb n hn).2)
  rw [shownAll_len] at z
  have e1 : ("[" : Str).length = 1 := rfl
  have e2 : ("]" : Str).length = 1 := rfl
  rw [e1] at z
  rw [e2]
  exact zs (by omega)
theorem log2_small {n : Int} (h0 : -100 ≤ n) (h1 : n ≤ 100) : n.natAbs.log2 < 1920 := by
  have h : n.natAbs < 2 ^ 7 := by omega
  exact Nat.lt_trans (PySem.Flt.log2_lt_of (by decide : 0 < 7) h) (by decide)
theorem rrepr_ints {K : PySem.W.Frag} {H : Hp} {a : Addr} {ns : List Int} {Q : VK} (hS : SqL K H a (ns.map V.int)) (hb : ∀ n ∈ ns, -100 ≤ n ∧ n ≤ 100) (hl : ns.length ≤ 1000) (q : Q (.str (dI ns).shown) H) : rRepr K [.ref a] H Q :=
  ⟨a, dI ns, rfl, dp_ints hS, show_ints ns (fun n hn => log2_small (hb n hn).1 (hb n hn).2), noDict_ints ns, by
    show PyData.depthAll (ns.map PyData.int) + 1 ≤ 60
    rw [depth_ints]
    decide, shown_ints hb hl, q⟩

/-! ### places -/
theorem erase_map {α β : Type} (f : α → β) : ∀ (l : List α) (j : Nat), (l.map f).eraseIdx j = (l.eraseIdx j).map f
  | [], _ => by simp
  | x :: r, 0 => rfl
  | x :: r, j + 1 => congrArg (f x :: ·) (erase_map f r j)
theorem get_at {al : List Int} {j : Nat} (h : j < al.length) : (al.map V.int)[j]? = some (.int al[j]) := by
  rw [List.getElem?_map, List.getElem?_eq_getElem h]
  rfl
theorem ix_at {j n : Nat} (h : j < n) : seqIndex? (j : Int) n = some j := (ixN_seq (Evl.ixN_nat h)).1
theorem nat_of {r : Int} (h : 0 ≤ r) : ∃ j : Nat, r = (j : Int) := ⟨r.toNat, by omega⟩
theorem nm {k : Nat} (h : k ≤ 100000) : -(2 ^ 63) ≤ (k : Int) ∧ (k : Int) < 2 ^ 63 := by omega
theorem free_of {a p : Addr} {H H' : Hp} (b : Bt a H H') (n : p ≠ a) (h : H' p = none) : H p = none := by
  cases e : H p with
  | none => rfl
  | some o =>
    rw [b _ _ n e] at h
    cases h
theorem erase_perm : ∀ (l : List Int) (j : Nat) (h : j < l.length), (l[j] :: l.eraseIdx j).Perm l
  | x :: r, 0, _ => .refl _
  | x :: r, j + 1, h => by
    have h' : j < r.length := Nat.lt_of_succ_lt_succ h
    exact (List.Perm.swap x (r[j]'h') (r.eraseIdx j)).trans ((erase_perm r j h').cons x)
end Lp
set_option Elab.async false
set_option linter.all false
set_option maxRecDepth 100000
namespace Lp
open PySem PySem.Spec PyProof.Rows L2
theorem lc_enum {K : PySem.W.Frag} {a : Addr} {xs : List V} {g : TG} {tt : TT} {te : TE} {vs : List Nat} {σ : L2.St} {H1 : Hp} {D : Addr} {Qd : Hp → Prop} (Pv : Nat → Hp → Prop) (h0 : Pv 0 (upd H1 D (.lst []))) (hl : ∀ i H, i ≤ xs.length → Pv i H → SqL K H a xs)
    (hs : ∀ (i : Nat) (x : V) (T : Addr) (H : Hp), xs[i]? = some x → H T = none → Pv i H → g (.ref T) (wipe σ vs) (upd H T (.tup [.int (i : Nat), x])) fun σ2 H2 => wipe σ2 vs = wipe σ vs ∧ tt σ2 H2 fun b H3 =>
      if b = true then te σ2 H3 fun y H4 => ∃ acc, H4 D = some (.lst acc) ∧ acc.length < sizeLine ∧ Pv (i + 1) (upd H4 D (.lst (acc ++ [y]))) else Pv (i + 1) H3) (hd : ∀ H, Pv xs.length H → Qd H) :
    ∃ W : Nat → Nat → Hp → Prop, (∃ m, W 0 m (upd H1 D (.lst []))) ∧ ∀ i m H, W i m H →
      ((Ite K a).stop i H ∧ Qd H) ∨ ((Ite K a).go i H ∧ ∃ Nx : Hp → Prop, (∀ H', Nx H' → ∃ m', m' < m ∧ W (i + 1) m' H') ∧ ∀ x H', (Ite K a).yld i H x H' → g x (wipe σ vs) H' fun σ2 H2 => wipe σ2 vs = wipe σ vs ∧ tt σ2 H2 fun b H3 =>
        if b = true then te σ2 H3 fun y H4 => ∃ acc, H4 D = some (.lst acc) ∧ acc.length < sizeLine ∧ Nx (upd H4 D (.lst (acc ++ [y]))) else Nx H3) := by
  refine ⟨fun i m H => m = xs.length - i ∧ i ≤ xs.length ∧ Pv i H, ⟨xs.length, by simp, Nat.zero_le _, h0⟩, ?_⟩
  rintro i m H ⟨rfl, hi, pv⟩
  have sq := hl i H hi pv
  rcases Nat.lt_or_ge i xs.length with hlt | hge
  · refine .inr ⟨⟨xs, xs[i], sq, List.getElem?_eq_getElem hlt⟩, Pv (i + 1), fun H' p' => ⟨xs.length - (i + 1), by omega, rfl, hlt, p'⟩, fun x H' y => ?_⟩
    obtain ⟨T, z, rfl, nT, rfl, ez⟩ := y
    exact hs i z T H (ez xs sq) nT pv
  · have e : i = xs.length := by omega
    subst e
    exact .inl ⟨⟨xs, sq, Nat.le_refl _⟩, hd H pv⟩
theorem cut_take (xs : List V) (k : Nat) (h : k ≤ xs.length) : cutV xs none (some (k : Int)) = xs.take k := by
  unfold cutV
  rw [HT.sIx_none, HT.sIx_nat, List.drop_zero, Nat.sub_zero, Nat.min_eq_left h]
theorem decV (i j : Int) : decide (V.int i = V.int j) = decide (i = j) := decide_eq_decide.mpr ⟨fun z => V.int.inj z, fun z => congrArg V.int z⟩
theorem k_sl {X : Cx} {K : PySem.W.Frag} (hK : X.K = K) : SlR X (rSlL K) := by
  subst hK
  exact sl_list
theorem k_tup {X : Cx} {K : PySem.W.Frag} {es : List Expr} {k : Nat} {pos : Pos} {t : TGs} {n : Nat} (hK : X.K = K) (hc : X.calm = true) (h : PGs X es t)
    (hn : (assignEach es X.env).length = n := by rfl) (hst : (assignEach es X.env).findIdx? (·.1) = none := by rfl) : PG X (.Tuple es k pos) (gTup K n t) := by
  subst hK
  exact pg_tup hc h hn hst
theorem seqN {K : PySem.W.Frag} {xs : List V} {H H1 H' : Hp} {a b : Addr} (h : SqL K H b xs) (n : H a = none) (s : Same H H1) (x : Bt a H1 H') : SqL K H' b xs := by
  rcases h with (h | ⟨o, h⟩) | h
  · exact .inl (.inl (x _ _ (ne_of_none h n) (s _ _ h)))
  · exact .inl (.inr ⟨o, x _ _ (ne_of_none h n) (s _ _ h)⟩)
  · exact .inr h
theorem rI1 {ns : List Int} (hb : ∀ n ∈ ns, -100 ≤ n ∧ n ≤ 100) : (dI ns).showable = true := show_ints ns (fun n hn => log2_small (hb n hn).1 (hb n hn).2)
theorem rI2 (ns : List Int) : (dI ns).depth ≤ 60 := by
  show PyData.depthAll (ns.map PyData.int) + 1 ≤ 60
  rw [depth_ints]
  decide
end Lp
set_option Elab.async false
set_option linter.all false
set_option maxRecDepth 100000
namespace Lp
open PySem PySem.Spec PyProof.Rows L2
theorem lc_zipL {K : PySem.W.Frag} {a b : Addr} {xs ys : List V} {g : TG} {tt : TT} {te : TE} {vs : List Nat} {σ : L2.St} {H1 : Hp} {D : Addr} {Qd : Hp → Prop} (le : xs.length = ys.length) (Pv : Nat → Hp → Prop) (h0 : Pv 0 (upd H1 D (.lst []))) (hl : ∀ i H, i ≤ xs.length → Pv i H → SqL K H a xs ∧ SqL K H b ys)
    (hs : ∀ (i : Nat) (x y : V) (T : Addr) (H : Hp), xs[i]? = some x → ys[i]? = some y → H T = none → Pv i H → g (.ref T) (wipe σ vs) (upd H T (.tup [x, y])) fun σ2 H2 => wipe σ2 vs = wipe σ vs ∧ tt σ2 H2 fun b H3 =>
      if b = true then te σ2 H3 fun y H4 => ∃ acc, H4 D = some (.lst acc) ∧ acc.length < sizeLine ∧ Pv (i + 1) (upd H4 D (.lst (acc ++ [y]))) else Pv (i + 1) H3) (hd : ∀ H, Pv xs.length H → Qd H) :
    ∃ W : Nat → Nat → Hp → Prop, (∃ m, W 0 m (upd H1 D (.lst []))) ∧ ∀ i m H, W i m H →
      ((Itz K a b).stop i H ∧ Qd H) ∨ ((Itz K a b).go i H ∧ ∃ Nx : Hp → Prop, (∀ H', Nx H' → ∃ m', m' < m ∧ W (i + 1) m' H') ∧ ∀ x H', (Itz K a b).yld i H x H' → g x (wipe σ vs) H' fun σ2 H2 => wipe σ2 vs = wipe σ vs ∧ tt σ2 H2 fun b H3 =>
        if b = true then te σ2 H3 fun y H4 => ∃ acc, H4 D = some (.lst acc) ∧ acc.length < sizeLine ∧ Nx (upd H4 D (.lst (acc ++ [y]))) else Nx H3) := by
  refine ⟨fun i m H => m = xs.length - i ∧ i ≤ xs.length ∧ Pv i H, ⟨xs.length, by simp, Nat.zero_le _, h0⟩, ?_⟩
  rintro i m H ⟨rfl, hi, pv⟩
  obtain ⟨sa, sb⟩ := hl i H hi pv
  rcases Nat.lt_or_ge i xs.length with hlt | hge
  · refine .inr ⟨⟨xs, ys, xs[i], ys[i]'(by omega), sa, sb, List.getElem?_eq_getElem hlt, List.getElem?_eq_getElem (by omega)⟩, Pv (i + 1), fun H' p' => ⟨xs.length - (i + 1), by omega, rfl, hlt, p'⟩, fun x H' y => ?_⟩
    obtain ⟨T, z1, z2, rfl, nT, rfl, e1, e2⟩ := y
    exact hs i z1 z2 T H (e1 xs sa) (e2 ys sb) nT pv
  · have e : i = xs.length := by omega
    subst e
    exact .inl ⟨⟨xs, ys, sa, sb, .inl (Nat.le_refl _)⟩, hd H pv⟩
theorem lc_zipT {K : PySem.W.Frag} {a b : Addr} {xs ys : List V} {g : TG} {tt : TT} {te : TE} {vs : List Nat} {σ : L2.St} {H1 : Hp} {D : Addr} {Qd : Hp → Prop} (le : xs.length = ys.length) (Pv : Nat → Hp → Prop) (h0 : Pv 0 (upd H1 D (.lst []))) (hl : ∀ i H, i ≤ xs.length → Pv i H → SqT K H a xs ∧ SqT K H b ys)
    (hs : ∀ (i : Nat) (x y : V) (T : Addr) (H : Hp), xs[i]? = some x → ys[i]? = some y → H T = none → Pv i H → g (.ref T) (wipe σ vs) (upd H T (.tup [x, y])) fun σ2 H2 => wipe σ2 vs = wipe σ vs ∧ tt σ2 H2 fun b H3 =>
      if b = true then te σ2 H3 fun y H4 => ∃ acc, H4 D = some (.lst acc) ∧ acc.length < sizeLine ∧ Pv (i + 1) (upd H4 D (.lst (acc ++ [y]))) else Pv (i + 1) H3) (hd : ∀ H, Pv xs.length H → Qd H) :
    ∃ W : Nat → Nat → Hp → Prop, (∃ m, W 0 m (upd H1 D (.lst []))) ∧ ∀ i m H, W i m H →
      ((RZ.ItzT K a b).stop i H ∧ Qd H) ∨ ((RZ.ItzT K a b).go i H ∧ ∃ Nx : Hp → Prop, (∀ H', Nx H' → ∃ m', m' < m ∧ W (i + 1) m' H') ∧ ∀ x H', (RZ.ItzT K a b).yld i H x H' → g x (wipe σ vs) H' fun σ2 H2 => wipe σ2 vs = wipe σ vs ∧ tt σ2 H2 fun b H3 =>
        if b = true then te σ2 H3 fun y H4 => ∃ acc, H4 D = some (.lst acc) ∧ acc.length < sizeLine ∧ Nx (upd H4 D (.lst (acc ++ [y]))) else Nx H3) := by
  refine ⟨fun i m H => m = xs.length - i ∧ i ≤ xs.length ∧ Pv i H, ⟨xs.length, by simp, Nat.zero_le _, h0⟩, ?_⟩
  rintro i m H ⟨rfl, hi, pv⟩
  obtain ⟨sa, sb⟩ := hl i H hi pv
  rcases Nat.lt_or_ge i xs.length with hlt | hge
  · refine .inr ⟨⟨xs, ys, xs[i], ys[i]'(by omega), sa, sb, List.getElem?_eq_getElem hlt, List.getElem?_eq_getElem (by omega)⟩, Pv (i + 1), fun H' p' => ⟨xs.length - (i + 1), by omega, rfl, hlt, p'⟩, fun x H' y => ?_⟩
    obtain ⟨T, z1, z2, rfl, nT, rfl, e1, e2⟩ := y
    exact hs i z1 z2 T H (e1 xs sa) (e2 ys sb) nT pv
  · have e : i = xs.length := by omega
    subst e
    exact .inl ⟨⟨xs, ys, sa, sb, .inl (Nat.le_refl _)⟩, hd H pv⟩
theorem tyx_l {K : PySem.W.Frag} {H : Hp} {a : Addr} {xs : List V} (h : SqL K H a xs) : TyX K H (.ref a) (.type "list") := by
  rcases h with (h | ⟨o, h⟩) | ⟨o, its, n, h, c, _⟩
  · exact .base (.lst h)
  · exact .base (.frz h)
  · exact .kList h c
theorem tyx_t {K : PySem.W.Frag} {H : Hp} {a : Addr} {xs : List V} (h : SqT K H a xs) : TyX K H (.ref a) (.type "tuple") := by
  rcases h with (h | ⟨o, h⟩) | ⟨o, its, n, h, c, _⟩
  · exact .base (.tup h)
  · exact .fTuple h
  · exact .kTuple h c
theorem seqT {K : PySem.W.Frag} {H H' : Hp} {a : Addr} {xs : List V} (e : Same H H') (h : SqT K H a xs) : SqT K H' a xs := by
  rcases h with (h | ⟨o, h⟩) | h
  · exact .inl (.inl (e _ _ h))
  · exact .inl (.inr ⟨o, e _ _ h⟩)
  · exact .inr h
mutual
theorem dp_same {K : PySem.W.Frag} {H H' : Hp} (s : Same H H') : ∀ {v : V} {d : PyData}, Dp K H v d → Dp K H' v d
  | _, _, .non => .non
  | _, _, .bl b => .bl b
  | _, _, .int i => .int i
  | _, _, .str x => .str x
  | _, _, .lst h1 h2 => .lst (s.seq h1) (dpAll_same s h2)
  | _, _, .tup h1 h2 => .tup (seqT s h1) (dpAll_same s h2)
theorem dpAll_same {K : PySem.W.Frag} {H H' : Hp} (s : Same H H') : ∀ {vs : List V} {ds : List PyData}, DpAll K H vs ds → DpAll K H' vs ds
  | _, _, .nil => .nil
  | _, _, .cons h1 h2 => .cons (dp_same s h1) (dpAll_same s h2)
end
theorem dpAll_len {K : PySem.W.Frag} {H : Hp} : ∀ {vs : List V} {ds : List PyData}, DpAll K H vs ds → vs.length = ds.length
  | _, _, .nil => rfl
  | _, _, .cons _ h => congrArg (· + 1) (dpAll_len h)
theorem dpAll_get {K : PySem.W.Frag} {H : Hp} : ∀ {vs : List V} {ds : List PyData} {i : Nat} {v : V}, DpAll K H vs ds → vs[i]? = some v → ∃ d, ds[i]? = some d ∧ Dp K H v d
  | _, _, 0, _, .cons h _, e => by cases e; exact ⟨_, rfl, h⟩
  | _, _, i + 1, _, .cons _ h, e => dpAll_get (i := i) h e
theorem depth_get : ∀ {ds : List PyData} {i : Nat} {d : PyData}, ds[i]? = some d → d.depth ≤ PyData.depthAll ds
  | x :: r, 0, d, e => by cases e; exact Nat.le_max_left _ _
  | x :: r, i + 1, d, e => Nat.le_trans (depth_get (ds := r) (i := i) e) (Nat.le_max_right _ _)
theorem kitA {K : PySem.W.Frag} {t c1 c2 : Value} {b : Bool} (h1 : PySem.W.kitOne K t c1 = some false) (h2 : PySem.W.kitOne K t c2 = some b) : PySem.W.kitAny K t [c1, c2] = some b := by
  unfold PySem.W.kitAny
  rw [h1]
  show PySem.W.kitAny K t [c2] = _
  unfold PySem.W.kitAny
  rw [h2]
  cases b <;> rfl
theorem kitT {K : PySem.W.Frag} {t c1 : Value} {cs : List Value} (h1 : PySem.W.kitOne K t c1 = some true) : PySem.W.kitAny K t (c1 :: cs) = some true := by
  unfold PySem.W.kitAny
  rw [h1]
/-! ### list(range(a, b, c)) -/
def tList3 (ta : TA) : TE := fun σ H Q => ta σ H fun vs H1 => ∃ (i j c : Int) (n : Nat), vs = [.int i, .int j, .int c] ∧ RgC i j c n ∧ n ≤ 100000 ∧ ∀ q, H1 q = none → Q (.ref q) (upd H1 q (.lst ((List.range n).map fun k : Nat => V.int (i + (k : Int) * c))))
theorem vals_rg3 {a c : Int} {n : Nat} {acc : Array Value} (h : ItemsOf (fun i v => ∃ t, v = .int (a + i * c) t) acc n) : Vals ((List.range n).map fun k : Nat => V.int (a + (k : Int) * c)) acc.toList := by
  have e : acc.toList.length = n := by rw [Array.length_toList]; exact h.1
  rw [← e]
  refine vals_of_get acc.toList _ fun j u hj => ?_
  obtain ⟨t, rfl⟩ := h.2 j u (by rw [← hj, Array.getElem?_toList])
  exact ⟨t, rfl⟩
theorem pe_list3 {X : Cx} {a b c : Expr} {ta : TA} {p p2 pos pos2 : Pos} (hc : X.calm = true) (hg : Gl X "list") (hm : X.mg "list" = none) (hg2 : Gl X "range") (hm2 : X.mg "range" = none) (ha : PA X [a, b, c] ta)
    (hs : starEach [a, b, c] X.env = (false, eval a X.env) :: starEach [b, c] X.env := by rfl) (hpl : (backTo pos2 (starEach [b, c] X.env)).any (·.1) = false := by rfl)
    (na : starEach [.Call (.Name "range" p2) [a, b, c] [] pos2] X.env = (false, eval (.Call (.Name "range" p2) [a, b, c] [] pos2) X.env) :: starEach [] X.env := by rfl) :
    PE X (.Call (.Name "list" p) [.Call (.Name "range" p2) [a, b, c] [] pos2] [] pos) (tList3 ta) := by
  refine ⟨fun pins s σ H Q I h => ?_⟩
  refine Call_ (ld_blt I hg hm boot_list (PyProof.Rows.callWith_type1 (args_cons (?_) na) na))
  refine Call_ (ld_blt I hg2 hm2 boot_range (PyProof.Rows.callWith_type1 (thn (ha.run pos2 pins s σ H _ I h) fun us s1 ⟨vs, H1, I1, r1, q1⟩ => ?_) hs hpl))
  obtain ⟨i, j, k, n, e, ⟨c0, c1, c2, c3⟩, hn, q⟩ := q1
  subst e
  cases r1 with
  | cons r rr =>
    cases rr with
    | cons r' rr =>
      cases rr with
      | cons r'' rr =>
        cases rr
        obtain ⟨t, rfl⟩ := r
        obtain ⟨t', rfl⟩ := r'
        obtain ⟨t'', rfl⟩ := r''
        refine call_range_3 c0 ?_ (.inl (PyProof.noPylong_small c1))
        refine args_nil ?_
        have I2 : Inv X pins σ H1 { s1 with heap := s1.heap.push { cls := .type "range", data := .fields #[.int i t, .int j t', .int k t''] } } := I1.kept (t' := s1.toks) fun b o e => Heap.get?_push_of_some _ e
        refine call_list_range (n := n) (I2.ok.hd hc) (IsRange.new ..) c2 c3 (by omega) fun h' tk acc c' hk e' hi => ?_
        refine ⟨.ref _, upd H1 _ (.lst ((List.range n).map fun m : Nat => V.int (i + (m : Int) * k))), I2.laid hk (Nat.le_refl _) (show ObjOk X.prog X.w _ _ _ (.lst _) from ⟨?_, acc.toList, c', vals_rg3 hi, ?_⟩), rfl, q _ (I2.hok.fresh (Nat.le_refl _))⟩
        · rw [List.length_map, List.length_range]
          exact zs hn
        · rw [Array.toArray_toList]; exact e'
end Lp
set_option Elab.async false
set_option linter.all false
set_option maxRecDepth 100000
namespace Lp
open PySem PySem.Spec PyProof.Rows L2
/-! ### xs.count(text) -/
theorem strCount {k : Str} : ∀ {us : List Value} {ys : List Str}, StrsAre us ys → us.countP (isStrOf k) = ys.countP (fun y => y == k)
  | _, _, .nil => rfl
  | _, _, .cons n t h => by
    have ih := strCount (k := k) h
    rw [List.countP_cons, List.countP_cons, ih] <;> rfl
def rCntS (K : PySem.W.Frag) : V → List V → Hp → VK → Prop := fun x xs H Q => ∃ (p : Addr) (ys : List Str) (k : Str), x = .ref p ∧ xs = [.str k] ∧ SqL K H p (ys.map V.str) ∧ Q (.int (ys.countP (fun y => y == k) : Nat)) H
theorem mt_lcountS {X : Cx} : MtR X "list.count" (rCntS X.K) := by
  intro pins s σ H x xs v us Q I rx rxs h
  obtain ⟨p, ys, k, rfl, rfl, hs, q⟩ := h
  cases rx
  obtain ⟨u, rfl, ru⟩ := rxs.one
  obtain ⟨t, rfl⟩ := ru
  obtain ⟨its, rv, ⟨⟨cls, dd, data, sl⟩, n, ho, hc, hdn, hd⟩, hlen⟩ := I.list hs
  simp only at hc hd
  subst hc hd
  have hi := Vals.strs rv
  refine call_meets PySem.F.slot_list_count ⟨_, ho, rfl⟩ PySem.F.entry_list_count (PySem.F.args_list_count_2 _ _)
    (SeqAt.list_countAt p its.toArray n dd sl (.str k t) (isStrOf k)) ⟨ho, fun y hy => (eq_isStrOf k t hi y (by simpa using hy)).at _ _, ?_⟩
  have ec : its.toArray.toList.countP (isStrOf k) = ys.countP (fun y => y == k) := strCount hi
  refine ⟨.int (ys.countP (fun y => y == k) : Nat), H, I.tok _, ⟨s.toks, ?_⟩, q⟩
  show Value.int ((its.toArray.toList.countP (isStrOf k) : Nat) : Int) s.toks = Value.int ((ys.countP (fun y => y == k) : Nat) : Int) s.toks
  rw [ec]
end Lp
set_option Elab.async false
set_option linter.all false
set_option maxRecDepth 100000
namespace Lp
open PySem PySem.Spec PyProof.Rows L2
/-! ### dict comprehensions over enumerate -/
theorem dc_enum {K : PySem.W.Frag} {a : Addr} {xs : List V} {g : TG} {tt : TT} {tk tv : TE} {vs : List Nat} {σ : L2.St} {H1 : Hp} {D : Addr} {Qd : Hp → Prop} (Pv : Nat → Hp → Prop) (h0 : Pv 0 (upd H1 D (.dK []))) (hl : ∀ i H, i ≤ xs.length → Pv i H → SqL K H a xs)
    (hs : ∀ (i : Nat) (x : V) (T : Addr) (H : Hp), xs[i]? = some x → H T = none → Pv i H → g (.ref T) (wipe σ vs) (upd H T (.tup [.int (i : Nat), x])) fun σ2 H2 => wipe σ2 vs = wipe σ vs ∧ tt σ2 H2 fun b H3 =>
      if b = true then tk σ2 H3 fun y H4 => tv σ2 H4 fun z H5 => ∃ kvs k, y = kV k ∧ H5 D = some (.dK kvs) ∧ kvs.length < sizeLine ∧ Pv (i + 1) (upd H5 D (.dK (putK kvs k z))) else Pv (i + 1) H3) (hd : ∀ H, Pv xs.length H → Qd H) :
    ∃ W : Nat → Nat → Hp → Prop, (∃ m, W 0 m (upd H1 D (.dK []))) ∧ ∀ i m H, W i m H →
      ((Ite K a).stop i H ∧ Qd H) ∨ ((Ite K a).go i H ∧ ∃ Nx : Hp → Prop, (∀ H', Nx H' → ∃ m', m' < m ∧ W (i + 1) m' H') ∧ ∀ x H', (Ite K a).yld i H x H' → g x (wipe σ vs) H' fun σ2 H2 => wipe σ2 vs = wipe σ vs ∧ tt σ2 H2 fun b H3 =>
        if b = true then tk σ2 H3 fun y H4 => tv σ2 H4 fun z H5 => ∃ kvs k, y = kV k ∧ H5 D = some (.dK kvs) ∧ kvs.length < sizeLine ∧ Nx (upd H5 D (.dK (putK kvs k z))) else Nx H3) := by
  refine ⟨fun i m H => m = xs.length - i ∧ i ≤ xs.length ∧ Pv i H, ⟨xs.length, by simp, Nat.zero_le _, h0⟩, ?_⟩
  rintro i m H ⟨rfl, hi, pv⟩
  have sq := hl i H hi pv
  rcases Nat.lt_or_ge i xs.length with hlt | hge
  · refine .inr ⟨⟨xs, xs[i], sq, List.getElem?_eq_getElem hlt⟩, Pv (i + 1), fun H' p' => ⟨xs.length - (i + 1), by omega, rfl, hlt, p'⟩, fun x H' y => ?_⟩
    obtain ⟨T, z, rfl, nT, rfl, e1⟩ := y
    exact hs i z T H (e1 xs sq) nT pv
  · have e : i = xs.length := by omega
    subst e
    exact .inl ⟨⟨xs, sq, Nat.le_refl _⟩, hd H pv⟩
end Lp
set_option Elab.async false
set_option linter.all false
set_option maxRecDepth 100000
namespace Lp
open PySem PySem.Spec PyProof.Rows L2
/-! ### list + list, the script's own list too -/
def rCatS (K : PySem.W.Frag) : R2 := fun x y H Q => ∃ l b xs zs, x = .ref l ∧ y = .ref b ∧ SqL K H l xs ∧ SqL K H b zs ∧ xs.length + zs.length ≤ sizeLine ∧ ∀ p, H p = none → Q (.ref p) (upd H p (.lst (xs ++ zs)))
theorem op_catS {X : Cx} : OpR X (binaryOp .Add) (rCatS X.K) := by
  intro pins s σ H x y v u Q I rx ry h
  obtain ⟨l, b, xs, zs, rfl, rfl, hl, hb, hz, q⟩ := h
  cases rx
  cases ry
  obtain ⟨its, r, ⟨⟨cls, dd, data, sl⟩, n, ho, hc, hdn, hd⟩, h1⟩ := I.list hl
  obtain ⟨its2, r2, ⟨⟨cls2, dd2, data2, sl2⟩, n2, ho2, hc2, hdn2, hd2⟩, h2⟩ := I.list hb
  simp only at hc hd hc2 hd2
  subst hc hd hc2 hd2
  have e1 := r.length
  have e2 := r2.length
  refine concat_meets ⟨_, ho, rfl⟩ ⟨_, ho2, rfl⟩ noFill_list_add seq_list_add PySem.F.slot_list_add PySem.F.entry_list_add (PySem.F.args_list_add_2 _ _) (list_addW l b its.toArray its2.toArray n n2 dd dd2 sl sl2 (by rw [List.size_toArray, List.size_toArray]; omega)) ⟨ho, ho2, ?_⟩
  have ea : its.toArray ++ its2.toArray = (its ++ its2).toArray := by simp
  rw [ea]
  exact ⟨.ref _, _, I.lnew (t' := s.toks) (r.append r2) (by rw [List.length_append]; omega), rfl, q _ I.fresh⟩
end Lp
set_option Elab.async false
set_option linter.all false
set_option maxRecDepth 100000
namespace Lp
open PySem PySem.Spec PyProof.Rows L2

/-! ### calls by keywords, of defs that are called where no repr is under way -/
structure Gk (P : Program) (w : World) (K : PySem.W.Frag) (mg : Str → Option Value) (base : Heap) (k : Nat) (x : Str) (n : Nat) (ks : List Str) (gV : List V → List V → List V) (sp : Sp) : Prop where
  ex : ∃ (f : Addr) (fd : FuncData) (ps : List Str) (g : List Value → List Value → List Value), FnG P w K mg base CX0 k f fd ps sp ∧ mg x = some (.ref f) ∧ PySem.W.keepIn K (.ref f) = true ∧ KBn K fd ps n ks g gV
theorem kb_of {K : PySem.W.Frag} {x qual : Str} {st : Stmt} {f : Addr} {fd : FuncData} {ps : List Str} (F : Fun K x qual st f fd) (n : Nat) (ks : List Str) (g : {α : Type} → List α → List α → List α)
    (hrel : ∀ {vs : List V} {us : List Value} {zs : List V} {ws : List Value}, Vals vs us → Vals zs ws → Vals (g vs zs) (g us ws))
    (h : ∀ (kV doc pm : Value) (an : Option Addr) (cdv ct : Value) (us ws : List Value), us.length = n → ws.length = ks.length → bindArgs (PySem.W.fnOf x qual (defArgs st) (defBody st) (defScope st) .none kV doc pm an cdv ct) ⟨us, ks.zip ws⟩ = pure (ps.zip (g us ws))) :
    KBn K fd ps n ks g g := by
  obtain ⟨oc, od, kV, doc, pm, an, cdv, ct, osl, rfl, lk, hcd⟩ := F.ex
  exact ⟨fun s us ws _ l1 l2 => .of_eq (h kV doc pm an cdv ct us ws l1 l2), hrel⟩
theorem kb_gApp0 {vs : List V} {us : List Value} {zs : List V} {ws : List Value} (a : Vals vs us) (b : Vals zs ws) : Vals (vs ++ zs) (us ++ ws) := a.append b
def gApp {α : Type} (us ws : List α) : List α := us ++ ws
def gRev {α : Type} (us ws : List α) : List α := us ++ ws.reverse
theorem kb_gApp {vs : List V} {us : List Value} {zs : List V} {ws : List Value} (a : Vals vs us) (b : Vals zs ws) : Vals (gApp vs zs) (gApp us ws) := a.append b
theorem vals_rev2 : ∀ {zs : List V} {ws : List Value}, Vals zs ws → Vals zs.reverse ws.reverse
  | _, _, .nil => .nil
  | _, _, .cons h t => by
    rw [List.reverse_cons, List.reverse_cons]
    exact (vals_rev2 t).append (.cons h .nil)
theorem kb_gRev {vs : List V} {us : List Value} {zs : List V} {ws : List Value} (a : Vals vs us) (b : Vals zs ws) : Vals (gRev vs zs) (gRev us ws) := a.append (vals_rev2 b)
def tCallG (n m : Nat) (sp : Sp) (gV : List V → List V → List V) (t tk : TA) : TE := fun σ H Q => t σ H fun vs H1 => tk σ H1 fun zs H2 => vs.length = n ∧ zs.length = m ∧ sp (gV vs zs) H2 Q E0
section
variable {X : Cx} {CX : CXT} {k n : Nat} {f : Addr} {fd : FuncData} {ps ks : List Str} {sp : Sp} {E : XK} {x : Str} {p pos : Pos} {e : Expr} {es : List Expr} {kws : List Keyword} {t tk : TA} {g : List Value → List Value → List Value} {gV : List V → List V → List V}
theorem run_fnG {pins : List (Addr × Obj)} {σ : L2.St} {H : Hp} {s : Shared} {Q : VK} {us ws : List Value} {vs zs : List V} (F : FnG X.prog X.w X.K X.mg X.base CX k f fd ps sp) (hG : X.A.guards = some []) (hr : Room k X.A) (hb : KBn X.K fd ps n ks g gV) (hx : Passes CX X E)
    (I : Inv X pins σ H s) (r : Vals vs us) (rz : Vals zs ws) (l1 : vs.length = n) (l2 : zs.length = ks.length) (h : sp (gV vs zs) H Q E) : wpAny (model X.prog X.w) X.A (call (.ref f) us (ks.zip ws)) (EP X pins σ Q) X.xe s := by
  have r2 := hb.rel r rz
  refine wpAny_call (codeAny_mono (F.runG X.A X.stack s H ⟨us, ks.zip ws⟩ (g us ws) (gV vs zs) Q E hG hr I.env0 (hb.to s us ws I.kIn (r.length.symm.trans l1) (rz.length.symm.trans l2)) r2 h) fun r s' hq => ?_)
  cases r with
  | error e => exact hx pins σ H s e s' I hq
  | ok fl =>
    cases fl with
    | ret u => exact I.after hq
    | next => exact False.elim hq
    | brk => exact False.elim hq
    | cont => exact False.elim hq
/-- f(k = v, ..) -/
theorem pe_gK0 {j : Nat} (c : Gk X.prog X.w X.K X.mg X.base k x 0 ks gV sp) (hG : X.A.guards = some []) (hr : Room j X.A) (hk : k ≤ j) (hg : Gl X x) (hkw : PK X kws tk)
    (hall : (backToKw pos (keywordEach kws X.env)).all (·.1.isSome) = true := by rfl) (hks : (backToKw pos (keywordEach kws X.env)).filterMap (·.1) = ks := by rfl) (hdb : (x == ("__debug__" : Str)) = false := by decide)
    (hpl : ((backTo pos (starEach [] X.env)).any (·.1) || (backToKw pos (keywordEach kws X.env)).any (·.1.isNone)) = false := by rfl) :
    PE X (.Call (.Name x p) [] kws pos) (tCallG 0 ks.length sp gV tNil tk) := by
  obtain ⟨f, fd, ps, g, F, hm, kp, hb⟩ := c.ex
  refine ⟨fun pins s σ H Q I h => ?_⟩
  refine wpAny_Call_Name_kw (ld_glob I hg hm ?_ hdb)
  refine PySem.W.callWith_KW0 (h₀ := X.base) I.ok.mod.kin kp hall ?_ hpl
  refine thn (hkw.run pos pins s σ H _ I h) fun ws s2 ⟨zs, H2, I2, rz, l1, l2, q2⟩ => ⟨I2.kIn, ?_⟩
  rw [hks]
  exact run_fnG (us := []) (vs := []) F hG (hr.mono hk) hb pass0 I2 .nil rz rfl l2 q2
/-- f(e, .., k = v, ..) -/
theorem pe_gK {j : Nat} (c : Gk X.prog X.w X.K X.mg X.base k x n ks gV sp) (hG : X.A.guards = some []) (hr : Room j X.A) (hk : k ≤ j) (hg : Gl X x) (ha : PA X (e :: es) t) (hkw : PK X kws tk)
    (hall : (backToKw pos (keywordEach kws X.env)).all (·.1.isSome) = true := by rfl) (hks : (backToKw pos (keywordEach kws X.env)).filterMap (·.1) = ks := by rfl) (hdb : (x == ("__debug__" : Str)) = false := by decide)
    (he : starEach (e :: es) X.env = (false, eval e X.env) :: starEach es X.env := by rfl) (hpl : ((backTo pos (starEach (e :: es) X.env)).any (·.1) || (backToKw pos (keywordEach kws X.env)).any (·.1.isNone)) = false := by rfl) :
    PE X (.Call (.Name x p) (e :: es) kws pos) (tCallG n ks.length sp gV t tk) := by
  obtain ⟨f, fd, ps, g, F, hm, kp, hb⟩ := c.ex
  refine ⟨fun pins s σ H Q I h => ?_⟩
  refine wpAny_Call_Name_kw (ld_glob I hg hm ?_ hdb)
  refine PySem.W.callWith_KW (h₀ := X.base) I.ok.mod.kin kp hall (thn (ha.run pos pins s σ H _ I h) fun us s1 ⟨vs, H1, I1, r, q⟩ => ?_) hpl he
  refine thn (hkw.run pos pins s1 σ H1 _ I1 q) fun ws s2 ⟨zs, H2, I2, rz, l1, l2, q2⟩ => ⟨I2.kIn, ?_⟩
  rw [hks]
  exact run_fnG F hG (hr.mono hk) hb pass0 I2 r rz l1 l2 q2
end

/-! ### i *= j of great ints -/
def ipC (C : Int → Int → Prop) (f : Int → Int → Int) : TIp := fun x y H Q => ∃ i j, x = .int i ∧ y = .int j ∧ C i j ∧ Q (.int (f i j)) H
section
variable {X : Cx}
theorem ip_mulW : PIp X .Mult (ipC CMulW fun i j => i * j) := by
  intro pins s σ H x y v u Q I r1 r2 h
  obtain ⟨i, j, e1, e2, hc, q⟩ := h
  subst e1; subst e2
  obtain ⟨t, rfl⟩ := r1
  obtain ⟨t', rfl⟩ := r2
  exact imul_int ⟨.int _, H, I.tok _, ⟨_, rfl⟩, q⟩ hc.ok
/-! ### text * int -/
theorem foldl_repN (l : List Nat) : ∀ (n : Nat) (acc : List Nat), List.foldl (fun x1 x2 => x1 ++ x2) acc.toArray (List.replicate n l.toArray) = (acc ++ (List.replicate n l).flatten).toArray
  | 0, acc => by simp
  | n + 1, acc => by
    rw [List.replicate_succ, List.foldl_cons, List.append_toArray, foldl_repN l n (acc ++ l), List.replicate_succ, List.flatten_cons, List.append_assoc]
theorem op_repS : OpR X (binaryOp .Mult) (fun x y H Q => ∃ (z : Str) (n : Nat), x = .str z ∧ y = .int (n : Int) ∧ 2 ≤ n ∧ z.length ≠ 0 ∧ z.length * n ≤ 100000 ∧ Q (.str ⟨(List.replicate n z.cps.toList).flatten.toArray⟩) H) := by
  intro pins s σ H x y v u Q I r1 r2 h
  obtain ⟨z, n, e1, e2, h1, h3, h4, q⟩ := h
  subst e1; subst e2
  obtain ⟨t, rfl⟩ := r1
  obtain ⟨t', rfl⟩ := r2
  have hn : ¬ (n : Int) < 1 := by omega
  have hz1 : 1 ≤ z.length := Nat.pos_of_ne_zero h3
  have hn2 : n ≤ 100000 := Nat.le_trans (Nat.le_mul_of_pos_left n hz1) h4
  have hb : ((n : Int) == 1 || z.length == 0) = false := by
    have a : ((n : Int) == 1) = false := beq_eq_false_iff_ne.mpr (by omega)
    have b : (z.length == 0) = false := beq_eq_false_iff_ne.mpr h3
    rw [a, b]
    rfl
  have hsz : z.length * n ≤ sizeLine := zs h4
  have f0 : List.foldl (fun x1 x2 => x1 ++ x2) #[] (List.replicate n z.cps) = (List.replicate n z.cps.toList).flatten.toArray := by
    have := foldl_repN z.cps.toList n []
    rw [List.nil_append, Array.toArray_toList] at this
    exact this
  have hl : (⟨(List.replicate n z.cps.toList).flatten.toArray⟩ : Str).length = n * z.length := by
    show ((List.replicate n z.cps.toList).flatten.toArray).size = n * z.length
    rw [List.size_toArray, List.length_flatten, List.map_replicate, List.sum_replicate_nat, Array.length_toList]
    rfl
  refine PySem.P.mul_str ?_ (fun _ _ => ?_) (fun _ _ => ?_) ?_
  · have a : ¬ (n : Int) < -(2 ^ 63 : Int) := by omega
    have b : ¬ (n : Int) ≥ 2 ^ 63 := by omega
    rw [decide_eq_false a, decide_eq_false b]
    rfl
  · have h5 : (z.length : Int) * (n : Int) ≤ 100000 := by
      have := Int.ofNat_le.mpr h4
      rwa [Int.natCast_mul] at this
    have := (Int.le_ediv_iff_mul_le (show (0 : Int) < n by omega)).mpr (show (z.length : Int) * (n : Int) ≤ 2 ^ 63 - 1 by omega)
    omega
  · have e : (n : Int).toNat = n := rfl
    rw [e]
    unfold Builtin.Str.tooLong
    exact decide_eq_false (by omega)
  · rw [if_neg hn, hb, if_neg Bool.false_ne_true]
    have e : (n : Int).toNat = n := rfl
    rw [e, f0]
    exact ⟨by rw [hl]; rw [Nat.mul_comm]; exact hsz, .str _, H, I.tok _, ⟨_, rfl⟩, q⟩
end
/-! ### math.factorial, math.comb -/
def facN : Nat → Nat
  | 0 => 1
  | n + 1 => facN n * (n + 1)
theorem fac_eq : ∀ n : Nat, Builtin.Math.factorialNat n = facN n
  | 0 => rfl
  | n + 1 => by
    have e : Builtin.Math.factorialNat (n + 1) = Builtin.Math.factorialNat n * (n + 1) := by
      unfold Builtin.Math.factorialNat
      rw [List.range_succ, List.foldl_append]
      rfl
    rw [e, fac_eq n]
    rfl
theorem fac_lt : ∀ n : Nat, n ≤ 1000 → facN n < 2 ^ (10 * n + 1)
  | 0, _ => by decide
  | n + 1, h => by
    have z := fac_lt n (by omega)
    have e : 10 * (n + 1) + 1 = (10 * n + 1) + 10 := by omega
    show facN n * (n + 1) < _
    rw [e, Nat.pow_add]
    exact Nat.mul_lt_mul_of_lt_of_le z (by have : (2 : Nat) ^ 10 = 1024 := by decide
                                           omega) (by decide)
def rFac : List V → Hp → VK → Prop := fun vs H Q => ∃ n : Nat, vs = [.int (n : Int)] ∧ n ≤ 1000 ∧ Q (.int ((facN n : Nat) : Int)) H
theorem cr_fac {X : Cx} : CallR X (.builtin "math.factorial") rFac := by
  intro pins s σ H vs us Q I r h
  obtain ⟨n, rfl, hn, q⟩ := h
  obtain ⟨u, rfl, t, rfl⟩ := vals1 r
  have hl := fac_lt n hn
  have e : Builtin.Math.factorialNat (n : Int).toNat = facN n := fac_eq n
  refine PySem.W.mg_factorial (by show ¬ (n : Int) > 2 ^ 63 - 1; omega) (by omega) (by show ¬ (n : Int) > 20000; omega) ?_ ?_
  · rw [e]
    show (facN n).log2 < bitsLine
    have b := PySem.Flt.log2_lt_of (by omega : 0 < 10 * n + 1) hl
    have e2 : bitsLine = 134217728 := by decide
    rw [e2]
    omega
  · rw [e]
    exact ⟨.int _, H, I.tok _, ⟨_, rfl⟩, q⟩
/-! ### lists of great ints as text -/
theorem shown_big {ns : List Int} (hb : ∀ n ∈ ns, n.natAbs.log2 < 1920) (hl : ns.length ≤ 40) : (dI ns).shown.length ≤ sizeLine := by
  show (textFrom 0 "[" (PyData.shownAll (ns.map PyData.int)) ++ ("]" : Str)).length ≤ sizeLine
  rw [Str.length_append]
  have z := textFrom_le (PyData.shownAll (ns.map PyData.int)) 0 "[" 1921 (fun t ht => by
    obtain ⟨n, hn, e⟩ := shownAll_mem ns t ht
    rw [e]
    exact PyProof.Rows.int_text_len_1921 (hb n hn))
  rw [shownAll_len] at z
  have e1 : ("[" : Str).length = 1 := rfl
  have e2 : ("]" : Str).length = 1 := rfl
  rw [e1] at z
  rw [e2]
  exact zs (by omega)
theorem rrepr_big {K : PySem.W.Frag} {H : Hp} {a : Addr} {ns : List Int} {Q : VK} (hS : SqL K H a (ns.map V.int)) (hb : ∀ n ∈ ns, n.natAbs.log2 < 1920) (hl : ns.length ≤ 40) (q : Q (.str (dI ns).shown) H) : rRepr K [.ref a] H Q :=
  ⟨a, dI ns, rfl, dp_ints hS, show_ints ns hb, noDict_ints ns, rI2 ns, shown_big hb hl, q⟩
theorem log_nat {n k : Nat} (h : n < 2 ^ k) (h0 : 0 < k) (hk : k ≤ 1920) : ((n : Nat) : Int).natAbs.log2 < 1920 := Nat.lt_of_lt_of_le (PySem.Flt.log2_lt_of h0 (show ((n : Nat) : Int).natAbs < 2 ^ k from h)) hk
end Lp
set_option Elab.async false
set_option linter.all false
set_option maxRecDepth 100000
namespace Lp
open PySem PySem.Spec PyProof.Rows L2
theorem filtG {α : Type} {l : List α} {f : α → Bool} {i : Nat} {e : α} (he : l[i]? = some e) : (l.take (i + 1)).filter f = (l.take i).filter f ++ (if f e = true then [e] else []) := by
  rw [take_get he, List.filter_append]
  congr 1
  simp only [List.filter_cons, List.filter_nil]
theorem filtG_len {α : Type} {l : List α} {f : α → Bool} (i : Nat) : ((l.take i).filter f).length ≤ l.length := Nat.le_trans (List.length_filter_le _ _) (by rw [List.length_take]; exact Nat.min_le_right _ _)
theorem inVI (x : Int) : ∀ ns : List Int, inV (.int x) (ns.map V.int) = decide (x ∈ ns)
  | [] => rfl
  | n :: r => by
    show (eqV (.int n) (.int x) || inV (.int x) (r.map V.int)) = _
    rw [inVI x r]
    show ((n == x) || decide (x ∈ r)) = _
    by_cases e : n = x
    · subst e
      simp
    · have e' : ¬ x = n := fun z => e z.symm
      simp [e, e']
theorem flatI (ns : List Int) : (ns.map V.int).all flatV = true := by
  rw [List.all_eq_true]
  intro v hv
  obtain ⟨n, _, rfl⟩ := List.mem_map.mp hv
  rfl
theorem notInT {x : Int} {ns : List Int} (h : x ∉ ns) : V.bl (if true = true then !inV (.int x) (ns.map V.int) else inV (.int x) (ns.map V.int)) = V.bl true := by
  rw [if_pos rfl, inVI, decide_eq_false h]
  rfl
theorem notInF {x : Int} {ns : List Int} (h : x ∈ ns) : V.bl (if true = true then !inV (.int x) (ns.map V.int) else inV (.int x) (ns.map V.int)) = V.bl false := by
  rw [if_pos rfl, inVI, decide_eq_true h]
  rfl

/-! ### rows of ints in the heap -/
def RowsR (H : Hp) (rs : List V) (rows : List (List Int)) : Prop := rs.length = rows.length ∧ ∀ (i : Nat) (row : List Int), rows[i]? = some row → ∃ a, rs[i]? = some (.ref a) ∧ H a = some (.lst (row.map V.int))
theorem RowsR.same {H H' : Hp} {rs : List V} {rows : List (List Int)} (h : RowsR H rs rows) (s : Same H H') : RowsR H' rs rows := ⟨h.1, fun i row e => by
  obtain ⟨a, b, c⟩ := h.2 i row e
  exact ⟨a, b, s _ _ c⟩⟩
theorem RowsR.upd {H : Hp} {rs : List V} {rows : List (List Int)} {q : Addr} {o : HO} (h : RowsR H rs rows) (n : V.ref q ∉ rs) : RowsR (upd H q o) rs rows := ⟨h.1, fun i row e => by
  obtain ⟨a, b, c⟩ := h.2 i row e
  have ne : a ≠ q := fun z => n (by rw [← z]; exact List.mem_of_getElem? b)
  refine ⟨a, b, ?_⟩
  rw [upd_ne ne]
  exact c⟩
theorem RowsR.nil (H : Hp) : RowsR H [] [] := ⟨rfl, fun i row e => by simp at e⟩
theorem RowsR.app {H : Hp} {rs ss : List V} {rows sows : List (List Int)} (h : RowsR H rs rows) (g : RowsR H ss sows) : RowsR H (rs ++ ss) (rows ++ sows) := by
  refine ⟨by rw [List.length_append, List.length_append, h.1, g.1], fun i row e => ?_⟩
  by_cases hi : i < rows.length
  · rw [List.getElem?_append_left hi] at e
    rw [List.getElem?_append_left (by rw [h.1]; exact hi)]
    exact h.2 i row e
  · rw [List.getElem?_append_right (by omega)] at e
    rw [List.getElem?_append_right (by rw [h.1]; omega), h.1]
    exact g.2 _ row e
theorem RowsR.one {H : Hp} {a : Addr} {row : List Int} (h : H a = some (.lst (row.map V.int))) : RowsR H [.ref a] [row] := ⟨rfl, fun i r e => by
  cases i with
  | zero => cases e; exact ⟨a, rfl, h⟩
  | succ i => simp at e⟩
theorem RowsR.dp {K : PySem.W.Frag} {H : Hp} : ∀ {rs : List V} {rows : List (List Int)}, RowsR H rs rows → DpAll K H rs (rows.map dI)
  | [], [], _ => .nil
  | [], _ :: _, h => absurd h.1 (by simp)
  | _ :: _, [], h => absurd h.1 (by simp)
  | v :: rs, r :: rows, h => by
    obtain ⟨a, b, c⟩ := h.2 0 r rfl
    have e : v = .ref a := Option.some.inj b
    subst e
    exact .cons (dp_ints (.of c)) (RowsR.dp ⟨Nat.succ.inj h.1, fun i row e => h.2 (i + 1) row e⟩)
theorem flatMap_take_len {α β : Type} {f : α → List β} (l : List α) (j : Nat) : ((l.take j).flatMap f).length ≤ (l.flatMap f).length := by
  have e : l.flatMap f = (l.take j).flatMap f ++ (l.drop j).flatMap f := by rw [← List.flatMap_append, List.take_append_drop]
  rw [e, List.length_append]
  omega
theorem flatMap_take_succ {α β : Type} {f : α → List β} {l : List α} {j : Nat} {x : α} (h : l[j]? = some x) : (l.take (j + 1)).flatMap f = (l.take j).flatMap f ++ f x := by
  rw [take_get h, List.flatMap_append]
  simp
end Lp
set_option Elab.async false
set_option linter.all false
set_option maxRecDepth 100000
namespace Lp
open PySem PySem.Spec PyProof.Rows L2
theorem rgc_two (n : Nat) (h : n ≤ 1000) : RgC 1 (2 * (n : Int)) 2 n := by
  have hs : Builtin.Range.rangeSize 1 (2 * (n : Int)) 2 = (n : Int) := by
    unfold Builtin.Range.rangeSize
    rw [if_pos (by decide)]
    by_cases h0 : n = 0
    · subst h0
      rw [if_neg (by omega)]
      rfl
    · rw [if_pos (by omega)]
      omega
  refine ⟨by decide, by decide, ?_, hs⟩
  unfold Builtin.Range.small
  rw [hs]
  have f : ∀ z : Int, -1000000 ≤ z → z ≤ 1000000 → Builtin.Range.rangeFitsLong z = true := fun z a b => by
    unfold Builtin.Range.rangeFitsLong
    rw [decide_eq_true (show -2 ^ 63 ≤ z by omega), decide_eq_true (show z < 2 ^ 63 by omega)]
    rfl
  rw [f 1 (by decide) (by decide), f (2 * (n : Int)) (by omega) (by omega), f 2 (by decide) (by decide), f (n : Int) (by omega) (by omega), if_pos (by decide), f (2 * (n : Int) + (2 - 1)) (by omega) (by omega), Bool.or_true]
  rfl
/-! ### lists of objects in the heap -/
def ObjR {α : Type} (o : α → HO) (H : Hp) (rs : List V) (l : List α) : Prop := rs.length = l.length ∧ ∀ (i : Nat) (x : α), l[i]? = some x → ∃ a, rs[i]? = some (.ref a) ∧ H a = some (o x)
section
variable {α : Type} {o : α → HO} {H H' : Hp} {rs ss : List V} {l m : List α}
theorem ObjR.same (h : ObjR o H rs l) (s : Same H H') : ObjR o H' rs l := ⟨h.1, fun i x e => by
  obtain ⟨a, b, c⟩ := h.2 i x e
  exact ⟨a, b, s _ _ c⟩⟩
theorem ObjR.upd {q : Addr} {u : HO} (h : ObjR o H rs l) (n : V.ref q ∉ rs) : ObjR o (upd H q u) rs l := ⟨h.1, fun i x e => by
  obtain ⟨a, b, c⟩ := h.2 i x e
  have ne : a ≠ q := fun z => n (by rw [← z]; exact List.mem_of_getElem? b)
  refine ⟨a, b, ?_⟩
  rw [upd_ne ne]
  exact c⟩
theorem ObjR.nil : ObjR o H [] [] := ⟨rfl, fun i x e => by simp at e⟩
theorem ObjR.app (h : ObjR o H rs l) (g : ObjR o H ss m) : ObjR o H (rs ++ ss) (l ++ m) := by
  refine ⟨by rw [List.length_append, List.length_append, h.1, g.1], fun i x e => ?_⟩
  by_cases hi : i < l.length
  · rw [List.getElem?_append_left hi] at e
    rw [List.getElem?_append_left (by rw [h.1]; exact hi)]
    exact h.2 i x e
  · rw [List.getElem?_append_right (by omega)] at e
    rw [List.getElem?_append_right (by rw [h.1]; omega), h.1]
    exact g.2 _ x e
theorem ObjR.one {a : Addr} {x : α} (h : H a = some (o x)) : ObjR o H [.ref a] [x] := ⟨rfl, fun i r e => by
  cases i with
  | zero => cases e; exact ⟨a, rfl, h⟩
  | succ i => simp at e⟩
end
theorem rep_one (b : Bool) (v : V) : (List.replicate (if b = true then (1 : Int) else 0).toNat [v]).flatten = if b = true then [v] else [] := by cases b <;> rfl
theorem rep_sz (b : Bool) (v : V) : [v].length * (if b = true then (1 : Int) else 0).toNat ≤ sizeLine := by
  cases b
  · exact Nat.zero_le _
  · exact Lp.zs (show 1 * 1 ≤ 100000 by decide)
theorem ifs_len (b : Bool) (v : V) : (if b = true then [v] else []).length ≤ 1 := by
  cases b
  · exact Nat.zero_le _
  · exact Nat.le_refl _
theorem ints_get {ns : List Int} {i : Nat} {n : Int} (h : ns[i]? = some n) : (ns.map V.int)[i]? = some (.int n) := by rw [List.getElem?_map, h]; rfl
end Lp
set_option Elab.async false
set_option linter.all false
set_option maxRecDepth 100000
namespace Lp
open PySem PySem.Spec PyProof.Rows L2
/-! ### lists of ints, by < -/
theorem firstLt_map (e r : Nat → Bool) (fin : Bool) (f : Nat → Nat) : ∀ l : List Nat, SeqAt.firstLt e r fin (l.map f) = SeqAt.firstLt (fun j => e (f j)) (fun j => r (f j)) fin l
  | [] => rfl
  | j :: t => by
    show (if e (f j) = true then SeqAt.firstLt e r fin (t.map f) else r (f j)) = (if e (f j) = true then SeqAt.firstLt (fun j => e (f j)) (fun j => r (f j)) fin t else r (f j))
    rw [firstLt_map e r fin f t]
theorem first_lex : ∀ ns ms : List Int, SeqAt.firstLt (fun j => ns.getD j 0 == ms.getD j 0) (fun j => decide (ns.getD j 0 < ms.getD j 0)) (decide (ns.length < ms.length)) (List.range (min ns.length ms.length)) = HT.lexLt ns ms
  | [], [] => rfl
  | [], _ :: _ => rfl
  | _ :: _, [] => rfl
  | n :: ns, m :: ms => by
    have e : min (n :: ns).length (m :: ms).length = min ns.length ms.length + 1 := by
      simp only [List.length_cons]
      omega
    have e2 : decide ((n :: ns).length < (m :: ms).length) = decide (ns.length < ms.length) := decide_eq_decide.mpr (by simp only [List.length_cons]; omega)
    rw [e, e2, List.range_succ_eq_map]
    show (if (n == m) = true then SeqAt.firstLt _ _ _ ((List.range (min ns.length ms.length)).map Nat.succ) else decide (n < m)) = if n = m then HT.lexLt ns ms else decide (n < m)
    rw [firstLt_map]
    by_cases h : n = m
    · rw [if_pos (beq_iff_eq.mpr h), if_pos h]
      exact first_lex ns ms
    · rw [if_neg (fun z => h (beq_iff_eq.mp z)), if_neg h]
def IsLs (h : Heap) (v : Value) (ns : List Int) : Prop := ∃ (a : Addr) (items : List Value), v = .ref a ∧ h.IsList a items.toArray ∧ IntsAre items ns
theorem IsLs.keeps {h h' : Heap} {v : Value} {ns : List Int} (x : IsLs h v ns) (k : ∀ b o, v = .ref b → h.get? b = some o → h'.get? b = some o) : IsLs h' v ns := by
  obtain ⟨a, its, rfl, ⟨o, ho, hc, n, hd⟩, hi⟩ := x
  exact ⟨a, its, rfl, ⟨o, k a o rfl ho, hc, n, hd⟩, hi⟩
theorem ints_at : ∀ {us : List Value} {ns : List Int}, IntsAre us ns → ∀ j (h : j < us.length), ∃ t, us[j] = .int (ns.getD j 0) t
  | _, _, .cons n t r, 0, _ => ⟨t, rfl⟩
  | _, _, .cons n t r, j + 1, h => by
    obtain ⟨u, e⟩ := ints_at r j (Nat.lt_of_succ_lt_succ h)
    exact ⟨u, e⟩
section
variable {prog : Program} {w : World} {A : Around} {E : Value → Shared → Prop} {s : Shared}
theorem rcLt_int (A : Around) (s : Shared) (a : Int) (t : Tok) (b : Int) (u : Tok) : SeqAt.RcLt A s (.int a t) (.int b u) (decide (a < b)) := fun prog w E Q h => by
  have z : wpAny (model prog w) A (compareOp .Lt (.int a t) (.int b u)) Q E s := lt_int h
  exact z
theorem lt_ls {v u : Value} {ns ms : List Int} {Q : Bool → Shared → Prop} (hu : A.units < cLine) (hv : IsLs s.heap v ns) (hw : IsLs s.heap u ms) (h : Q (HT.lexLt ns ms) s) : wpAny (model prog w) A (keyLt' oneType' v u) Q E s := by
  obtain ⟨a, its, rfl, la, ia⟩ := hv
  obtain ⟨b, its2, rfl, lb, ib⟩ := hw
  have l1 := ia.length
  have l2 := ib.length
  rw [keyLt'_oneType, oneLt'_eq]
  simp only [if_true]
  refine wpAny_bind (wpAny_cRoomFor hu ?_)
  refine wpAny_bind (wpAny_callSpecialIfBound?_slot la.typeIs PySem.F.slot_list_lt (SeqAt.call_list_lt (e := fun j => ns.getD j 0 == ms.getD j 0) (r := fun j => decide (ns.getD j 0 < ms.getD j 0)) la lb (fun j h1 h2 => ?_) (fun j h1 h2 _ => ?_) ?_))
  · obtain ⟨t, e⟩ := ints_at ia j (by simpa using h1)
    obtain ⟨t', e'⟩ := ints_at ib j (by simpa using h2)
    rw [List.getElem_toArray, List.getElem_toArray, e, e']
    exact SeqAt.EqAt.int_int _ t _ t'
  · obtain ⟨t, e⟩ := ints_at ia j (by simpa using h1)
    obtain ⟨t', e'⟩ := ints_at ib j (by simpa using h2)
    rw [List.getElem_toArray, List.getElem_toArray, e, e']
    exact rcLt_int _ _ _ t _ t'
  · rw [List.size_toArray, List.size_toArray, l1, l2, first_lex]
    exact wpAny_truthy_bool h
theorem ls_cmp {vs : List Value} {k : Value → List Int} (hu : A.units < cLine) (hv : ∀ v ∈ vs, IsLs s.heap v (k v)) : SrtO.Cmp prog w A s oneType' (fun p => p.1 ∈ vs) (SrtO.lt2 fun v u => HT.lexLt (k v) (k u)) := by
  intro p q hp hq
  exact lt_ls (Q := fun r s' => s' = s ∧ r = HT.lexLt (k p.1) (k q.1)) (E := fun _ _ => False) hu (hv p.1 hp) (hv q.1 hq) ⟨rfl, rfl⟩
theorem ls_sortable {a : Addr} {vs : List Value} {k : Value → List Int} (h2 : 2 ≤ vs.length) (hu : A.units < cLine) (hv : ∀ v ∈ vs, IsLs s.heap v (k v)) (ha : ∀ v ∈ vs, v ≠ .ref a) :
    SrtO.SortableO prog w A s a vs fun v u => HT.lexLt (k v) (k u) := by
  intro h' keep
  have hv' : ∀ v ∈ vs, IsLs h' v (k v) := fun v hm => (hv v hm).keeps fun b o e g => keep b o (fun z => ha v hm (by rw [e, z])) g
  refine ⟨oneType', fun Q E hq => ?_, ls_cmp (s := { s with heap := h' }) hu hv'⟩
  refine PySem.W.kas_kind (s := { s with heap := h' }) (T := .type "list") h2 (fun v hm => ?_) (by rfl) (by simp) hq
  obtain ⟨a, its, rfl, ⟨o, ho, hc, n, hd⟩, hi⟩ := hv' v hm
  rw [← hc]
  exact (PySem.W.Looks.ld ho).andThen .now
end
/-- sorted(xs), xs a list of lists of ints of any length (k says which) -/
def rSortedLL (K : PySem.W.Frag) : List V → Hp → VK → Prop := fun vs H Q => ∃ (a : Addr) (xs : List V) (k : V → List Int), vs = [V.ref a] ∧ SqL K H a xs ∧ (∀ x ∈ xs, ∃ t, x = V.ref t ∧ SqL K H t ((k x).map V.int)) ∧
  ∀ ys p, ys.Perm xs → ys.Pairwise (fun x y => HT.lexLt (k y) (k x) = false) → H p = none → Q (.ref p) (upd H p (.lst ys))
theorem cr_sortedLL {X : Cx} (hu : X.A.units + 64 < cLine) : CallR X (.builtin "sorted") (rSortedLL X.K) := by
  intro pins s σ H vs us Q I r h
  obtain ⟨a, xs, k, rfl, hs, hx, q⟩ := h
  obtain ⟨its, rv, hl, hz⟩ := I.list hs
  obtain ⟨u, rfl, ru⟩ := vals1 r
  obtain rfl : u = Value.ref a := ru
  obtain ⟨e1, e2⟩ := refs_back rv fun x m => by
    obtain ⟨t, e, _⟩ := hx x m
    exact ⟨t, e⟩
  have hv : ∀ v ∈ its, IsLs s.heap v (k (backV v)) := fun v hv => by
    obtain ⟨t, rfl⟩ := e2 v hv
    have hm : V.ref t ∈ xs := by rw [e1]; exact List.mem_map.mpr ⟨_, hv, rfl⟩
    obtain ⟨t', e, ht⟩ := hx _ hm
    cases e
    obtain ⟨its2, r2, l2, _⟩ := I.list ht
    exact ⟨t, its2, rfl, l2.isList, r2.ints⟩
  refine SrtO.sorted_ord (NtL.swo_lexL fun u => k (backV u)) hl.isList (by rw [← rv.length]; exact hz) (fun h2 h₁ a' g keep => ls_sortable h2 (by show X.A.units + 1 + 1 < cLine; omega) (fun v hm => (hv v hm).keeps fun b o _ g => (keep b o g).2) fun v hm z => ?_) fun out h1 h2 => ?_
  · obtain ⟨b, its3, e, ⟨o, ho, _⟩, _⟩ := hv v hm
    rw [z] at e
    cases e
    exact (keep _ o ho).1 rfl
  · have h3 : ∀ u ∈ out, ∃ a, u = Value.ref a := fun u hu => e2 u (h2.perm.mem_iff.mp hu)
    obtain ⟨ep, he'⟩ := PyProof.Rows.sortedAll_at s.heap its out.toArray
    have hp : (out.map backV).Perm xs := by
      rw [e1]
      exact h2.perm.map backV
    have hlen : (out.map backV).length ≤ sizeLine := by
      rw [hp.length_eq]
      exact hz
    exact ⟨.ref _, upd H (s.heap.objs.size + 1) (.lst (out.map backV)), I.laid (t' := s.toks) (fun _ _ => PyProof.Rows.sortedAll_old) (Nat.le_succ _) ⟨hlen, out, ep, vals_back h3, he'⟩, rfl, q _ _ hp (List.pairwise_map.mpr (h1.imp fun {x y} z => z)) (I.hok.fresh (Nat.le_succ _))⟩
end Lp
set_option Elab.async false
set_option linter.all false
set_option maxRecDepth 100000
namespace Lp
open PySem PySem.Spec PyProof.Rows L2
theorem all_bounds (n : Nat) : PySem.sliceBounds none none none n = (0, (n : Int), 1) := by
  simp [PySem.sliceBounds]
section
variable {prog : Program} {w : World} {A : Around} {E : Value → Shared → Prop} {s : Shared}
/-- xs[:] = ys -/
theorem whole_set {p q z : Addr} {old new : Array Value} {n1 n2 : Nat} {R : Unit → Shared → Prop} (hp : s.heap.get? p = some { cls := .type "list", data := .seq old n1 }) (hq : s.heap.get? q = some { cls := .type "list", data := .seq new n2 })
    (npq : p ≠ q) (hz : s.heap.IsSliceOf z .none .none .none) (fit : old.size + new.size ≤ sizeLine) (h : R () { s with heap := s.heap.update p (Obj.mapSeq fun xs => xs.extract 0 0 ++ new ++ xs.extract old.size xs.size) }) :
    wpAny (model prog w) A (setItem (.ref p) (.ref z) (.ref q)) R E s := by
  have tp : s.heap.IsList p old := PySem.IsL.isList hp
  have tq : s.heap.IsList q new := PySem.IsL.isList hq
  obtain ⟨oz, goz, coz, doz⟩ := id hz
  have tz : s.TypeIs (.ref z) "slice" := ⟨oz, goz, coz⟩
  have noZero : ¬ ((rawPart none == rawInt 0) = true) := Bool.false_ne_true
  have two : Builtin.List.listSameRef (.ref p) (.ref q) = false := by unfold Builtin.List.listSameRef; exact beq_eq_false_iff_ne.mpr npq
  have upper : (max (0 : Int) (old.size : Int)).toNat = old.size := by omega
  have fit' : ((fun xs : Array Value => xs.extract 0 0 ++ new ++ xs.extract old.size xs.size) old).size ≤ sizeLine + 1 := by simp only [Array.size_append, Array.size_extract]; omega
  unfold setItem; try with_reducible refine wpAny_holding ?_
  first | refine wpAny_bind (wpAny_pure ?_) | skip
  refine wpAny_bind (wpAny_sequenceKey tp.typeIs (by decide) (wpAny_bind (wpAny_callSpecial?_slot (name := Str.ofString "__setitem__") tp.typeIs slot_list_setitem (wpAny_call_entry slot_list_setitem tp.typeIs entry_list_setitem ?_ (args_list_setitem _ _ _)))))
  show wpAny _ _ (Builtin.List.listSubscript? (.ref z) >>= _) _ _ s
  refine wpAny_bind ?_
  unfold Builtin.List.listSubscript?
  refine wpAny_bind (wpAny_specialOf tz slice_no_index ?_)
  simp only [Option.isNone_none, if_true]
  refine wpAny_pure (?_ : wpAny _ _ (typeOf (.ref z) >>= _) _ _ s)
  refine wpAny_bind (wpAny_typeOf tz ?_)
  first | rw [if_neg (by decide)] | refine PySem.W.KFB.if_not (by decide) ?_
  rw [listSliceParts_eq]
  refine wpAny_bind (wpAny_bind (wpAny_field goz doz (x := .none) rfl (wpAny_bind (wpAny_listPart .none (?_ : wpAny _ _ _ _ _ _)))))
  rw [if_neg noZero]
  refine wpAny_bind (wpAny_field goz doz (x := .none) rfl (wpAny_bind (wpAny_listPart .none (wpAny_bind (wpAny_field goz doz (x := .none) rfl (wpAny_bind (wpAny_listPart .none (wpAny_pure ?_))))))))
  first | simp only [two, Bool.false_eq_true, if_false] | refine PySem.W.KFB.if_not two ?_ | (dsimp only; rw [if_neg (by rw [two]; exact Bool.false_ne_true)])
  refine wpAny_bind (m := Builtin.List.listAllItems (.ref q) "must assign iterable to extended slice") ?_
  unfold Builtin.List.listAllItems; refine wpAny_bind (wpAny_typeOf tq.typeIs ?_)
  first | refine PySem.W.KFB.if_so (by decide) ?_ | rw [if_pos (by decide)] | simp only [beq_self_eq_true, Bool.true_or, if_true]
  unfold Builtin.List.listItems; refine wpAny_bind (wpAny_seqItems hq rfl (wpAny_pure (wpAny_bind (wpAny_bind (wpAny_seqItems hp rfl (wpAny_pure ?_))))))
  refine wpAny_bind (wpAny_of_eq ((sliceIndices_raw none none none old.size (by simp)).trans (congrArg (pure : Int × Int × Int → Sem (Int × Int × Int)) (all_bounds old.size))) ?_)
  show wpAny _ _ (if ((1 : Int) == 1) = true then _ else _) _ _ s
  rw [if_pos (by decide)]; refine wpAny_bind (wpAny_rule ?_)
  first | simp only [notLongL fit, Bool.false_eq_true, if_false] | refine PySem.W.KFB.if_not (notLongL fit) ?_
  first | refine wpAny_bind (wpAny_pure ?_) | skip
  show wpAny _ _ (updateSeq p (fun xs => xs.extract 0 ((0 : Int)).toNat ++ new ++ xs.extract (max (0 : Int) (old.size : Int)).toNat xs.size) >>= _) _ _ s
  rw [upper]; refine wpAny_bind (wpAny_updateSeq (hz := Nat.le_trans (Nat.le_add_right _ _) fit) (_hz' := fit') hp rfl (wpAny_bind (wpAny_letGo ?_)))
  first | exact wpAny_bind (wpAny_pure (wpAny_pure ⟨.none, rfl, wpAny_pure h⟩)) | exact wpAny_pure ⟨.none, rfl, wpAny_pure h⟩
end
/-- the slice object of [:] -/
def SlO (a : Addr) : HO := .ext fun h => h.IsSliceOf a .none .none .none
section
variable {X : Cx} {pos : Pos}
def tSlAll : TE := fun _ H Q => ∀ p, H p = none → Q (.ref p) (upd H p (SlO p))
theorem pe_slAll : PE X (.Slice none none none pos) tSlAll := by
  refine ⟨fun pins s σ H Q I h => ?_⟩
  refine wpAny_Slice ?_
  rw [evalPart_none]
  refine wpAny_pure (wpAny_pure (wpAny_pure ?_))
  refine ⟨.ref s.heap.objs.size, upd H s.heap.objs.size (SlO s.heap.objs.size), I.laid (t' := s.toks) (fun b ob q => Heap.get?_push_of_some _ q) (Nat.le_refl _) ⟨Heap.IsSliceOf.new .., ⟨_, Heap.get?_push_size s.heap rfl⟩, fun h1 h2 x k => ?_⟩, rfl, h _ (I.hok.fresh (Nat.le_refl _))⟩
  obtain ⟨o, e, c, d⟩ := x
  exact ⟨o, k o e, c, d⟩
def sAll : TSet := fun x y z H Q => ∃ (l b sl : Addr) (xs ys : List V), x = .ref l ∧ y = .ref sl ∧ z = .ref b ∧ H sl = some (SlO sl) ∧ H l = some (.lst xs) ∧ H b = some (.lst ys) ∧ l ≠ b ∧ xs.length + ys.length ≤ sizeLine ∧ Q (upd H l (.lst ys))
theorem set_all : PSet X sAll := by
  intro pins s σ H o i v ov iv u Q I r1 r2 r3 h
  obtain ⟨l, b, sl, xs, ys, rfl, rfl, rfl, hsl, hl, hb, ne, hz, q⟩ := h
  cases r1
  cases r2
  cases r3
  obtain ⟨z, its, n, r, el, e⟩ := I.lstM hl
  obtain ⟨z2, its2, n2, r', el2, e2⟩ := I.lstM hb
  have os : ObjOk X.prog X.w H s.heap sl (SlO sl) := I.hok sl _ hsl
  refine whole_set e e2 ne os.1 (by rw [List.size_toArray, List.size_toArray]; omega) ⟨_, I.lset (its' := its2) (t' := s.toks) hl e ?_ r' (by omega), q⟩
  apply Array.toList_inj.mp
  simp
/-- xs[..] = as a target, a slice without a step -/
theorem pg_slAll {o i : Expr} {to ti : TE} {t : TSet} (ho : PE X o to) (hi : PE X i ti) (hs : PSet X t)
    (ha : ∀ v, assign (.Subscript o i pos) X.env v = (holding [v] (eval o X.env) >>= fun ov => holding [v, ov] (eval i X.env) >>= fun iv => standAt pos >>= fun _ => holding [v, ov, iv] (setItem ov iv v) >>= fun _ => release [iv, v, ov] []) := by intro _; rfl) : PG X (.Subscript o i pos) (gSub to ti t) := by
  refine ⟨fun pins s σ H v u Q I r h => ?_⟩
  rw [ha u]
  refine wpAny_bind (wpAny_holding (thn (ho.run pins s σ H _ I h) fun ov sA ⟨x, HA, IA, rA, qA⟩ => wpAny_bind (wpAny_holding (thn (hi.run pins sA σ HA _ IA qA) fun iv sB ⟨y, HB, IB, rB, qB⟩ =>
    wpAny_bind (wpAny_standAt (wpAny_bind (wpAny_holding (thn (hs pins sB σ HB x y v ov iv u _ IB rA rB r qB) fun _ sC ⟨HC, IC, qC⟩ => wpAny_release ⟨σ, HC, IC, qC⟩))))))))
end
end Lp
set_option Elab.async false
set_option linter.all false
set_option maxRecDepth 100000
namespace Lp
open PySem PySem.Calls
theorem comb_entry : entryFor table "math.comb" = some Builtin.«math.comb» := entryFor_of_tree (by kernel_rfl)
theorem comb_kind : builtinKind "math.comb" = none := by kernel_rfl
theorem comb_plain : plainId "math.comb" = true := by decide +kernel
theorem comb_args (a b : Value) : argsOk "math.comb" ⟨[a, b], []⟩ := by unfold argsOk; kernel_rfl
theorem comb_run (a : Int) (t : Tok) (b : Int) (u : Tok) (h0 : ¬ a < 0) (h1 : ¬ b < 0) (h2 : ¬ b > a) (h3 : ¬ min b (a - b) > Builtin.Math.maxSsize) (h4 : ¬ min b (a - b) > Builtin.Math.manyFactors) (h5 : ¬ min b (a - b) > 9000)
    (hs : (Builtin.Math.fallingProduct a (min b (a - b)).toNat / Builtin.Math.fallingProduct (min b (a - b)) (min b (a - b)).toNat).natAbs.log2 < bitsLine) :
    Gives (Builtin.«math.comb» ⟨[.int a t, .int b u], []⟩) (.int (Builtin.Math.fallingProduct a (min b (a - b)).toNat / Builtin.Math.fallingProduct (min b (a - b)) (min b (a - b)).toNat)) :=
  .of_wp fun M A E s Q h => by obtain ⟨hp, g, d, tk, os⟩ := s; wp_walk; (try (refine wpAny_ite_false (decide_eq_false (Nat.not_le.mpr hs)) ?_; wp_walk)); exact ⟨_, rfl, h⟩
end Lp
namespace Lp
open PySem PySem.Spec PySem.Calls PyProof.Rows L2
/-! ### binomial coefficients -/
theorem facN_pos' : ∀ n, 0 < facN n
  | 0 => by decide
  | n + 1 => Nat.mul_pos (facN_pos' n) (Nat.succ_pos n)
def chN (n k : Nat) : Nat := facN n / (facN k * facN (n - k))
def chP : Nat → Nat → Nat
  | _, 0 => 1
  | 0, _ + 1 => 0
  | n + 1, k + 1 => chP n k + chP n (k + 1)
theorem chP_zero (n : Nat) : chP n 0 = 1 := by cases n <;> rfl
theorem chP_gt : ∀ n k, n < k → chP n k = 0
  | 0, k + 1, _ => rfl
  | n + 1, k + 1, h => by
    show chP n k + chP n (k + 1) = 0
    rw [chP_gt n k (by omega), chP_gt n (k + 1) (by omega)]
theorem chP_self : ∀ n, chP n n = 1
  | 0 => rfl
  | n + 1 => by
    show chP n n + chP n (n + 1) = 1
    rw [chP_self n, chP_gt n (n + 1) (by omega)]
theorem chP_fac : ∀ n k, k ≤ n → chP n k * (facN k * facN (n - k)) = facN n
  | n, 0, _ => by
    rw [chP_zero, Nat.sub_zero]
    show 1 * (1 * facN n) = facN n
    rw [Nat.one_mul, Nat.one_mul]
  | n + 1, k + 1, h => by
    show (chP n k + chP n (k + 1)) * (facN k * (k + 1) * facN (n + 1 - (k + 1))) = facN n * (n + 1)
    have e : n + 1 - (k + 1) = n - k := by omega
    rw [e]
    have a := chP_fac n k (by omega)
    rcases Nat.lt_or_ge k n with hk | hk
    · have b := chP_fac n (k + 1) (by omega)
      have b2 : facN (n - k) = facN (n - (k + 1)) * (n - k) := by
        have e2 : n - k = (n - (k + 1)) + 1 := by omega
        rw [e2]
        rfl
      have x1 : chP n k * (facN k * (k + 1) * facN (n - k)) = facN n * (k + 1) := by
        rw [← a]
        simp only [Nat.mul_assoc, Nat.mul_comm, Nat.mul_left_comm]
      have x2 : chP n (k + 1) * (facN k * (k + 1) * facN (n - k)) = facN n * (n - k) := by
        rw [← b, b2]
        show _ = chP n (k + 1) * (facN k * (k + 1) * facN (n - (k + 1))) * (n - k)
        simp only [Nat.mul_assoc, Nat.mul_comm, Nat.mul_left_comm]
      rw [Nat.add_mul, x1, x2, ← Nat.mul_add]
      congr 1
      omega
    · have ek : k = n := by omega
      subst ek
      have x : chP k k * (facN k * (k + 1) * facN (k - k)) = chP k k * (facN k * facN (k - k)) * (k + 1) := by
        simp only [Nat.mul_assoc, Nat.mul_comm, Nat.mul_left_comm]
      rw [chP_gt k (k + 1) (by omega), Nat.add_zero, x, a]
theorem ch_eq {n k : Nat} (h : k ≤ n) : chN n k = chP n k := by
  unfold chN
  rw [← chP_fac n k h]
  exact Nat.mul_div_cancel _ (Nat.mul_pos (facN_pos' k) (facN_pos' _))
theorem ch_sym {n k : Nat} (h : k ≤ n) : chN n (n - k) = chN n k := by
  unfold chN
  have e : n - (n - k) = k := by omega
  rw [e, Nat.mul_comm]
theorem ch_le (n k : Nat) : chN n k ≤ facN n := Nat.div_le_self _ _
theorem fall_fac (n : Nat) : ∀ k, k ≤ n → Builtin.Math.fallingProduct (n : Int) k * ((facN (n - k) : Nat) : Int) = ((facN n : Nat) : Int)
  | 0, _ => by
    show 1 * _ = _
    rw [Int.one_mul, Nat.sub_zero]
  | k + 1, h => by
    have e : Builtin.Math.fallingProduct (n : Int) (k + 1) = Builtin.Math.fallingProduct (n : Int) k * ((n : Int) - (k : Int)) := by
      unfold Builtin.Math.fallingProduct
      rw [List.range_succ, List.foldl_append]
      rfl
    have ih := fall_fac n k (by omega)
    have e2 : facN (n - k) = facN (n - (k + 1)) * (n - k) := by
      have e3 : n - k = (n - (k + 1)) + 1 := by omega
      rw [e3]
      rfl
    rw [← ih, e, e2, Int.natCast_mul, Int.mul_assoc]
    congr 1
    rw [Int.mul_comm]
    congr 1
    omega
theorem comb_val {n k : Nat} (h : k ≤ n) : Builtin.Math.fallingProduct (n : Int) k / Builtin.Math.fallingProduct (k : Int) k = ((chN n k : Nat) : Int) := by
  have a := fall_fac n k h
  have b := fall_fac k k (Nat.le_refl k)
  have c := chP_fac n k h
  rw [Nat.sub_self] at b
  have b' : Builtin.Math.fallingProduct (k : Int) k = ((facN k : Nat) : Int) := by
    rw [← b]
    exact (Int.mul_one _).symm
  have fp : ((facN (n - k) : Nat) : Int) ≠ 0 := by
    have := facN_pos' (n - k)
    omega
  have a' : Builtin.Math.fallingProduct (n : Int) k = ((chP n k * facN k : Nat) : Int) := by
    refine Int.eq_of_mul_eq_mul_right fp ?_
    rw [a, ← c, ← Int.natCast_mul, Nat.mul_assoc]
  rw [a', b', ← Int.natCast_ediv, Nat.mul_div_cancel _ (facN_pos' k), ch_eq h]
def rComb : List V → Hp → VK → Prop := fun vs H Q => ∃ n k : Nat, vs = [.int (n : Int), .int (k : Int)] ∧ k ≤ n ∧ n ≤ 1000 ∧ Q (.int ((chN n k : Nat) : Int)) H
theorem cr_comb {X : Cx} : CallR X (.builtin "math.comb") rComb := by
  intro pins s σ H vs us Q I r h
  obtain ⟨n, k, rfl, hk, hn, q⟩ := h
  obtain ⟨t, u, rfl⟩ := Vals.int2 r
  obtain ⟨m, em, hm, ech⟩ : ∃ m : Nat, min (k : Int) ((n : Int) - (k : Int)) = (m : Int) ∧ m ≤ n ∧ chN n m = chN n k := by
    rcases Nat.le_total k (n - k) with c | c
    · exact ⟨k, by omega, hk, rfl⟩
    · exact ⟨n - k, by omega, by omega, ch_sym hk⟩
  have v : Builtin.Math.fallingProduct (n : Int) (min (k : Int) ((n : Int) - (k : Int))).toNat / Builtin.Math.fallingProduct (min (k : Int) ((n : Int) - (k : Int))) (min (k : Int) ((n : Int) - (k : Int))).toNat = ((chN n k : Nat) : Int) := by
    rw [em, Int.toNat_natCast, comb_val hm, ech]
  have fl := fac_lt n hn
  refine call_function_meets comb_kind comb_plain comb_entry (comb_args _ _) (comb_run (n : Int) t (k : Int) u (by omega) (by omega) (by omega) (by rw [em]; show ¬ (m : Int) > 2 ^ 63 - 1; omega) (by rw [em]; show ¬ (m : Int) > 20000; omega) (by omega) ?_).meets ?_
  · rw [v]
    show (chN n k).log2 < bitsLine
    have b := PySem.Flt.log2_lt_of (by omega : 0 < 10 * n + 1) (Nat.lt_of_le_of_lt (ch_le n k) fl)
    have e2 : bitsLine = 134217728 := by decide
    rw [e2]
    omega
  · rw [v]
    exact ⟨.int _, H, I.tok _, ⟨_, rfl⟩, q⟩
end Lp
set_option Elab.async false
set_option linter.all false
set_option maxRecDepth 100000
namespace Lp
open PySem PySem.Spec PyProof.Rows L2
/-! ### a text read from its end -/
theorem fm_all {α : Type} : ∀ m : List α, List.filterMap (fun k => m[k]?) (List.range m.length) = m
  | [] => rfl
  | a :: m => by
    rw [List.length_cons, List.range_succ_eq_map, List.filterMap_cons]
    show a :: List.filterMap (fun k => (a :: m)[k]?) (List.map Nat.succ (List.range m.length)) = a :: m
    rw [List.filterMap_map]
    exact congrArg (a :: ·) (fm_all m)
theorem fm_congr {α β : Type} {f g : α → Option β} : ∀ {l : List α}, (∀ x ∈ l, f x = g x) → l.filterMap f = l.filterMap g
  | [], _ => rfl
  | a :: l, h => by
    rw [List.filterMap_cons, List.filterMap_cons, h a (List.mem_cons_self ..), fm_congr fun x hx => h x (List.mem_cons_of_mem _ hx)]
theorem fm_rev {α : Type} (l : List α) : List.filterMap (fun k => l[l.length - 1 - k]?) (List.range l.length) = l.reverse := by
  refine Eq.trans (fm_congr (g := fun k => l.reverse[k]?) fun k hk => ?_) ((congrArg (fun n => List.filterMap (fun k => l.reverse[k]?) (List.range n)) (List.length_reverse (as := l)).symm).trans (fm_all l.reverse))
  rw [List.getElem?_reverse (List.mem_range.mp hk)]
theorem rev_idx (n : Nat) : Builtin.Str.strSliceIndices none none (-1) n = (List.range n).map fun k => n - 1 - k := by
  show sliceRange ((n : Int) - 1) (-1) (-1) = _
  have e : sliceRange ((n : Int) - 1) (-1) (-1) = List.map (fun k : Nat => ((n : Int) - 1 + (-1) * (k : Int)).toNat) (List.range (if (n : Int) - 1 > -1 then ((n : Int) - 1 - (-1) - (-1) - 1) / 1 else (0 : Int)).toNat) := rfl
  rw [e]
  have c : (if (n : Int) - 1 > -1 then ((n : Int) - 1 - (-1) - (-1) - 1) / 1 else (0 : Int)).toNat = n := by
    split <;> omega
  rw [c]
  exact List.map_congr_left fun k hk => by omega
def revS (x : Str) : Str := ⟨x.cps.toList.reverse.toArray⟩
theorem rev_made (x : Str) (t q : Tok) : sliceMade x t none none (some (-1, q)) = .str (revS x) := by
  show (if ((-1 : Int) == 1 && _) = true then _ else _) = _
  rw [if_neg (by simp)]
  show Made.str ⟨(List.filterMap (fun i => x.cps[i]?) (Builtin.Str.strSliceIndices none none (-1) x.length)).toArray⟩ = _
  rw [rev_idx, List.filterMap_map]
  have := fm_rev x.cps.toList
  simp only [Array.getElem?_toList, Array.length_toList] at this
  exact congrArg (fun l => Made.str ⟨List.toArray l⟩) this
section
variable {X : Cx}
def tRevS (te : TE) : TE := fun σ H Q => te σ H fun x H1 => ∃ z, x = .str z ∧ z.cps.size ≤ sizeLine ∧ Q (.str (revS z)) H1
theorem pe_revS {e : Expr} {te : TE} {k : Nat} {p1 p2 p3 pos : Pos} (he : PE X e te) : PE X (e.Subscript (Expr.Slice none none (some (Expr.UnaryOp UnaryOp.USub (Expr.Constant (Const.int 1) k p1) p2)) p3) pos) (tRevS te) := by
  refine ⟨fun pins s σ H Q I h => ?_⟩
  refine Subscript_ (thn (he.run pins s σ H _ I h) fun o s1 ⟨v, H1, I1, r1, q1⟩ => ?_)
  obtain ⟨z, rfl, hz, q⟩ := q1
  obtain ⟨t, rfl⟩ := r1
  refine wpAny_Slice ?_
  rw [evalPart_none]
  refine wpAny_pure (wpAny_pure ?_)
  refine thn ((po_some (pe_un un_neg pe_int)).run pins s1 σ H1 (fun o H2 => o = some (-1) ∧ H2 = H1) I1 ⟨1, rfl, _, rfl, rfl, rfl⟩) fun u s2 ⟨o, H2, I2, ip, eo, eh⟩ => ?_
  subst eo
  subst eh
  cases ip with
  | int i tk =>
    refine tail_any (typeIs_str _ _ _) F.slot_str_getitem.lookup ?_ rfl
    refine wpAny_getItem_str_slice (l := none) (u := none) (st := some (-1, tk)) (Heap.IsSliceOf.new ..) rfl ?_
    rw [rev_made]
    have I3 : Inv X pins σ H2 { s2 with heap := s2.heap.push { cls := .type "slice", data := .fields #[.none, .none, .int (-1) tk] } } := I2.kept (t' := s2.toks) fun b o e => Heap.get?_push_of_some _ e
    have hl : (revS z).length ≤ sizeLine := by
      show (z.cps.toList.reverse.toArray).size ≤ sizeLine
      rw [List.size_toArray, List.length_reverse, Array.length_toList]
      exact hz
    exact ⟨hl, .str (revS z), H2, I3.tok _, ⟨_, rfl⟩, q⟩
/-! ### list and tuple of a text -/
def chL (z : Str) : List V := z.cps.toList.map fun c => V.str ⟨#[c]⟩
theorem vals_ch {z : Str} {acc : Array Value} (h : ItemsOf (SignAt z) acc z.cps.size) : Vals (chL z) acc.toList := by
  have e : chL z = (List.range acc.toList.length).map fun j => V.str ⟨#[z.cps.toList.getD j 0]⟩ := by
    unfold chL
    rw [Array.length_toList, h.1]
    apply List.ext_getElem?
    intro i
    rw [List.getElem?_map, List.getElem?_map]
    by_cases c : i < z.cps.size
    · rw [List.getElem?_range (by omega), List.getElem?_eq_getElem (by rw [Array.length_toList]; exact c)]
      simp [c]
    · rw [List.getElem?_eq_none (by rw [Array.length_toList]; omega), List.getElem?_eq_none (by rw [List.length_range]; omega)]
      rfl
  rw [e]
  refine vals_of_get acc.toList _ fun j u hj => ?_
  obtain ⟨c, t, hc, rfl⟩ := h.2 j u (by rw [← hj, Array.getElem?_toList])
  refine ⟨t, ?_⟩
  have : z.cps.toList.getD j 0 = c := by
    rw [List.getD_eq_getElem?_getD, Array.getElem?_toList, hc]
    rfl
  rw [this]
def rLStr : List V → Hp → VK → Prop := fun xs H Q => ∃ z, xs = [.str z] ∧ z.cps.size ≤ sizeLine ∧ ∀ p, H p = none → Q (.ref p) (upd H p (.lst (chL z)))
theorem cr_listStr (hc : X.calm = true) : CallR X (.type "list") rLStr := by
  intro pins s σ H xs us Q I r h
  obtain ⟨z, rfl, hz, q⟩ := h
  cases r with
  | cons r rr =>
    cases rr
    obtain ⟨t, rfl⟩ := r
    refine call_list_str (I.ok.hd hc) z t (fun h' tk acc' c' hk e hi => ?_) hz
    refine ⟨.ref _, upd H _ (.lst (chL z)), I.laid hk (Nat.le_refl _) (show ObjOk X.prog X.w _ _ _ (.lst _) from ⟨?_, acc'.toList, c', vals_ch hi, ?_⟩), rfl, q _ (I.hok.fresh (Nat.le_refl _))⟩
    · unfold chL
      rw [List.length_map, Array.length_toList]
      exact hz
    · rw [Array.toArray_toList]; exact e
def rTStr : List V → Hp → VK → Prop := fun xs H Q => ∃ z, xs = [.str z] ∧ z.cps.size ≤ sizeLine ∧ ∀ p, H p = none → Q (.ref p) (upd H p (.tup (chL z)))
theorem cr_tupStr (hc : X.calm = true) : CallR X (.type "tuple") rTStr := by
  intro pins s σ H xs us Q I r h
  obtain ⟨z, rfl, hz, q⟩ := h
  cases r with
  | cons r rr =>
    cases rr
    obtain ⟨t, rfl⟩ := r
    refine call_tuple_str (I.ok.hd hc) z t (fun h' tk acc hk hi => ?_) hz
    have I2 : Inv X pins σ H { s with heap := h', toks := tk } := I.kept (t' := tk) hk
    refine ⟨.ref _, upd H _ (.tup (chL z)), I2.laid (fun b o e => Heap.get?_push_of_some _ e) (Nat.le_refl _) (show ObjOk X.prog X.w _ _ _ (.tup _) from ?_), rfl, q _ (I2.hok.fresh (Nat.le_refl _))⟩
    simp only [ObjOk]
    refine ⟨by unfold chL; rw [List.length_map, Array.length_toList]; exact hz, acc.toList, vals_ch hi, ?_⟩
    rw [Array.toArray_toList]
    exact ⟨_, Heap.get?_push_size _ rfl, rfl, _, rfl⟩
end
end Lp
set_option Elab.async false
set_option linter.all false
set_option maxRecDepth 100000
namespace Lp
open PySem PySem.Spec PyProof.Rows L2
section
variable {prog : Program} {w : World} {A : Around} {E : Value → Shared → Prop} {s : Shared}
theorem zipS_next_item {z TI TO i1 i2 l1 : Addr} {k1 k2 : Nat} {xs : Array Value} {ty : String} {t : Str} {tk : Tok} {x a b : Value} {c : Nat} {Q : Value → Shared → Prop}
    (nx : ∀ (s : Shared) (Q : Value → Shared → Prop) (E : Value → Shared → Prop), s.heap.IsStrIter i2 ty t tk k2 → (∀ h', h'.IsStrIter i2 ty t tk (k2 + 1) → Heap.SameBut i2 s.heap h' → Q (.str ⟨#[c]⟩ s.toks) { heap := h', gens := s.gens, drawn := s.drawn, toks := s.toks + 1, os := s.os }) → wpAny (model prog w) A (Builtin.SmallTypes.nextOf (.ref i2)) Q E s)
    (TIz : TI ≠ z) (TOz : TO ≠ z) (i1z : i1 ≠ z) (i2z : i2 ≠ z) (TITO : TI ≠ TO) (TOi1 : TO ≠ i1) (TOi2 : TO ≠ i2) (i12 : i1 ≠ i2) (l1z : l1 ≠ z)
    (hz : IsZip s.heap z TI TO .none) (hTI : IsPair s.heap TI (.ref i1) (.ref i2)) (hTO : IsPair s.heap TO a b) (h1 : s.heap.IsListIter i1 l1 k1) (h2 : s.heap.IsStrIter i2 ty t tk k2) (hl : s.heap.IsList l1 xs) (hx : xs[k1]? = some x)
    (q : ∀ h' : Heap, IsZip h' z TI TO (rawInt ↑s.heap.objs.size) → IsPair h' TO x (.str ⟨#[c]⟩ s.toks) → h'.IsListIter i1 l1 (k1 + 1) → h'.IsStrIter i2 ty t tk (k2 + 1) → IsPair h' s.heap.objs.size x (.str ⟨#[c]⟩ s.toks) → h'.objs.size = s.heap.objs.size + 1 →
      (∀ (e : Addr) (o : Obj), e ≠ z → e ≠ TO → e ≠ i1 → e ≠ i2 → s.heap.get? e = some o → h'.get? e = some o) → Q (.ref s.heap.objs.size) { heap := h', gens := s.gens, drawn := s.drawn, toks := s.toks + 1, os := s.os }) :
    wpAny (model prog w) A (Builtin.«zip.__next__» { pos := [.ref z] }) (fun fin s' => ∃ v, fin = Fin.done (Flow.ret v) ∧ Q v s') E s := by
  unfold Builtin.«zip.__next__»
  refine wpAny_bind (m := slotArgs "__next__" 0 _) (wpAny_of_eq (a := ((Value.ref z : Value), ([] : List Value))) (by first | rfl | (simp only [slotArgs]; rfl)) ?_)
  refine wpAny_bind (wpAny_field hz rfl rfl ?_)
  refine wpAny_bind (wpAny_field hz rfl rfl ?_)
  refine wpAny_bind (wpAny_seqItems hTI rfl ?_)
  refine wpAny_bind (m := Builtin.SmallTypes.ownedTupleIsFree (.ref z)) ?_
  unfold Builtin.SmallTypes.ownedTupleIsFree
  refine wpAny_bind (wpAny_field hz rfl rfl (wpAny_pure ?_))
  show wpAny _ _ (rule _ >>= _) _ _ _
  refine wpAny_bind (wpAny_rule ?_)
  refine wpAny_bind (wpAny_field hz rfl rfl ?_)
  refine wpAny_bind (wpAny_setField_rec hz (by show 0 < 5; decide) fun g1 gz1 sb1 => ?_)
  refine wpAny_bind ?_
  rw [show (#[Value.ref i1, Value.ref i2] : Array Value).toList.zipIdx = [(Value.ref i1, 0), (Value.ref i2, 1)] from rfl, List.forIn_cons]
  refine wpAny_bind (wpAny_bind (wpAny_onRaise ?_))
  show wpAny _ _ (Builtin.SmallTypes.nextOf (.ref i1) >>= fun v => pure (some v)) _ _ _
  have x1 := sb1.extBut
  have hl1 : g1.IsList l1 xs := hl.extBut x1 l1z
  refine wpAny_bind (wpAny_nextOf_list_item (h1.extBut x1 i1z) hl1 hx fun g2 it2 sb2 => ?_)
  refine wpAny_pure ?_
  have TO2 : IsPair g2 TO a b := by
    show g2.get? TO = _
    rw [sb2.2 TO TOi1, sb1.2 TO TOz]
    exact hTO
  refine wpAny_bind (wpAny_seqItems TO2 rfl ?_)
  refine wpAny_bind (wpAny_updateSeq_pair TO2 fun g3 gt3 sb3 => ?_)
  refine wpAny_bind (wpAny_letGo ?_)
  refine wpAny_pure ?_
  show wpAny _ _ (forIn [((Value.ref i2 : Value), 1)] ((none : Option PySem.Fin), ()) _) _ _ _
  rw [List.forIn_cons]
  refine wpAny_bind (wpAny_bind (wpAny_onRaise ?_))
  show wpAny _ _ (Builtin.SmallTypes.nextOf (.ref i2) >>= fun v => pure (some v)) _ _ _
  have h23 : g3.IsStrIter i2 ty t tk k2 := ((h2.extBut x1 i2z).extBut sb2.extBut i12.symm).extBut sb3.extBut TOi2.symm
  refine wpAny_bind (nx _ _ _ h23 fun g4 it4 sb4 => ?_)
  refine wpAny_pure ?_
  have TO4 : IsPair g4 TO x b := by
    show g4.get? TO = _
    rw [sb4.2 TO TOi2]
    exact gt3
  refine wpAny_bind (wpAny_seqItems TO4 rfl ?_)
  refine wpAny_bind (wpAny_updateSeq_pair TO4 fun g5 gt5 sb5 => ?_)
  refine wpAny_bind (wpAny_letGo ?_)
  refine wpAny_pure ?_
  show wpAny _ _ (forIn [] ((none : Option PySem.Fin), ()) _) _ _ _
  rw [List.forIn_nil]
  refine wpAny_pure ?_
  refine wpAny_bind (wpAny_seqItems gt5 rfl ?_)
  refine wpAny_bind (wpAny_newTuple ?_ (by show 2 ≤ sizeLine; decide))
  refine wpAny_bind ?_
  unfold Builtin.SmallTypes.ownedTupleHandOut
  have gz5 : g5.get? z = some { cls := Value.type "zip", data := Data.fields #[Value.ellipsis, Value.bool false, Value.bool false, Value.ref TI, Value.ref TO] } := by
    rw [sb5.2 z TOz.symm, sb4.2 z i2z.symm, sb3.2 z TOz.symm, sb2.2 z i1z.symm]
    exact gz1
  show wpAny _ _ (setField (.ref z) 0 (rawInt ↑g5.objs.size) >>= fun _ => setField (.ref z) 1 (.bool false)) _ _ _
  have zlt : z < g5.objs.size := Heap.lt_size gz5
  refine wpAny_bind (wpAny_setField_rec (Heap.get?_push_of_some _ gz5) (by show 0 < 5; decide) fun g6 gz6 sb6 => ?_)
  refine wpAny_setField_rec gz6 (by show 1 < 5; decide) fun g7 gz7 sb7 => ?_
  refine wpAny_pure ⟨_, rfl, ?_⟩
  have sz : g5.objs.size = s.heap.objs.size := by rw [sb5.1, sb4.1, sb3.1, sb2.1, sb1.1]
  rw [← sz] at q
  have at7 : ∀ e : Addr, e ≠ z → g7.get? e = (g5.push { cls := Value.type "tuple", data := Data.seq (#[x, b].setIfInBounds 1 (.str ⟨#[c]⟩ s.toks)).toList.toArray }).get? e := fun e he => by
    rw [sb7.2 e he, sb6.2 e he]
  refine q g7 gz7 ?_ ?_ ?_ ?_ ?_ ?_
  · show g7.get? TO = _
    rw [at7 TO TOz]
    exact Heap.get?_push_of_some _ gt5
  · have y := ((it2.extBut sb3.extBut TOi1.symm).extBut sb4.extBut i12).extBut sb5.extBut TOi1.symm
    obtain ⟨o, h, c1, c2⟩ := y
    exact ⟨o, by rw [at7 i1 i1z]; exact Heap.get?_push_of_some _ h, c1, c2⟩
  · obtain ⟨o, h, c1, c2⟩ := it4.extBut sb5.extBut TOi2.symm
    exact ⟨o, by rw [at7 i2 i2z]; exact Heap.get?_push_of_some _ h, c1, c2⟩
  · show g7.get? g5.objs.size = _
    rw [at7 _ (Nat.ne_of_gt zlt)]
    exact Heap.get?_push_size _ rfl
  · rw [sb7.1, sb6.1]
    exact Heap.size_push ..
  · intro e o n1 n2 n3 n4 he
    rw [at7 e n1]
    refine Heap.get?_push_of_some _ ?_
    rw [sb5.2 e n2, sb4.2 e n4, sb3.2 e n2, sb2.2 e n3, sb1.2 e n1]
    exact he
theorem zipS_next_end {z TI TO i1 i2 l1 : Addr} {k1 : Nat} {xs : Array Value} {Q : PySem.Fin → Shared → Prop} (hh : A.handled = none)
    (i1z : i1 ≠ z) (l1z : l1 ≠ z)
    (hz : IsZip s.heap z TI TO .none) (hTI : IsPair s.heap TI (.ref i1) (.ref i2)) (h1 : s.heap.IsListIter i1 l1 k1) (hl : s.heap.IsList l1 xs) (hx : xs[k1]? = none)
    (q : ∀ (h' : Heap) (e : Addr), (∀ (c : Addr) (o : Obj), c ≠ z → c ≠ TO → c ≠ i1 → c ≠ i2 → s.heap.get? c = some o → h'.get? c = some o) → (∃ o, h'.get? e = some o ∧ o.cls = Value.type "StopIteration") → E (.ref e) { heap := h', gens := s.gens, drawn := s.drawn, toks := s.toks, os := s.os }) :
    wpAny (model prog w) A (Builtin.«zip.__next__» { pos := [.ref z] }) Q E s := by
  unfold Builtin.«zip.__next__»
  refine wpAny_bind (m := slotArgs "__next__" 0 _) (wpAny_of_eq (a := ((Value.ref z : Value), ([] : List Value))) (by first | rfl | (simp only [slotArgs]; rfl)) ?_)
  refine wpAny_bind (wpAny_field hz rfl rfl ?_)
  refine wpAny_bind (wpAny_field hz rfl rfl ?_)
  refine wpAny_bind (wpAny_seqItems hTI rfl ?_)
  refine wpAny_bind (m := Builtin.SmallTypes.ownedTupleIsFree (.ref z)) ?_
  unfold Builtin.SmallTypes.ownedTupleIsFree
  refine wpAny_bind (wpAny_field hz rfl rfl (wpAny_pure ?_))
  show wpAny _ _ (rule _ >>= _) _ _ _
  refine wpAny_bind (wpAny_rule ?_)
  refine wpAny_bind (wpAny_field hz rfl rfl ?_)
  refine wpAny_bind (wpAny_setField_rec hz (by show 0 < 5; decide) fun g1 gz1 sb1 => ?_)
  refine wpAny_bind ?_
  rw [show (#[Value.ref i1, Value.ref i2] : Array Value).toList.zipIdx = [(Value.ref i1, 0), (Value.ref i2, 1)] from rfl, List.forIn_cons]
  refine wpAny_bind (wpAny_bind (wpAny_onRaise ?_))
  show wpAny _ _ (Builtin.SmallTypes.nextOf (.ref i1) >>= fun v => pure (some v)) _ _ _
  have x1 := sb1.extBut
  have hl1 : g1.IsList l1 xs := hl.extBut x1 l1z
  refine wpAny_bind (wpAny_nextOf_list_end hh (h1.extBut x1 i1z) hl1 hx fun g2 e x2 so => ?_)
  refine wpAny_setField_rec (x2 z _ i1z.symm gz1) (by show 0 < 5; decide) fun g3 gz3 sb3 => ?_
  refine q g3 e (fun c o n1 n2 n3 n4 hc => ?_) ?_
  · rw [sb3.2 c n1]
    refine x2 c o n3 ?_
    rw [sb1.2 c n1]
    exact hc
  · obtain ⟨o, ho, hc⟩ := so
    by_cases ez : e = z
    · subst ez
      rw [x2 e _ i1z.symm gz1] at ho
      cases ho
      exact absurd (show Value.type "zip" = Value.type "StopIteration" from hc) (by decide)
    · exact ⟨o, by rw [sb3.2 e ez]; exact ho, hc⟩
/-- how an iterator of a text goes on -/
def NxS (prog : Program) (w : World) (ty : String) : Prop := ∀ (A : Around) (E : Value → Shared → Prop) (s : Shared) (it : Addr) (x : Str) (t : Tok) (i c : Nat) (Q : Value → Shared → Prop), s.heap.IsStrIter it ty x t i → x.cps[i]? = some c →
  (∀ h' : Heap, h'.IsStrIter it ty x t (i + 1) → Heap.SameBut it s.heap h' → Q (.str ⟨#[c]⟩ s.toks) { heap := h', gens := s.gens, drawn := s.drawn, toks := s.toks + 1, os := s.os }) → wpAny (model prog w) A (Builtin.SmallTypes.nextOf (.ref it)) Q E s
theorem nxs_ascii : NxS prog w "str_ascii_iterator" := fun _ _ _ _ _ _ _ _ _ h1 h2 h3 => wpAny_nextOf_ascii_item h1 h2 h3
theorem nxs_wide : NxS prog w "str_iterator" := fun _ _ _ _ _ _ _ _ _ h1 h2 h3 => wpAny_nextOf_wide_item h1 h2 h3
theorem pyNext_zipS_item {z TI TO i1 i2 l1 : Addr} {k1 : Nat} {xs : Array Value} {ty : String} {t : Str} {tk : Tok} {x a b : Value} {c : Nat} {Q : Option Value → Shared → Prop}
    (nx : NxS prog w ty) (D : ZipApart z TI TO i1 i2 l1 l1)
    (hz : IsZip s.heap z TI TO .none) (hTI : IsPair s.heap TI (.ref i1) (.ref i2)) (hTO : IsPair s.heap TO a b) (h1 : s.heap.IsListIter i1 l1 k1) (h2 : s.heap.IsStrIter i2 ty t tk k1) (hl : s.heap.IsList l1 xs) (hx : xs[k1]? = some x) (hc : t.cps[k1]? = some c)
    (q : ∀ h' : Heap, IsZip h' z TI TO (rawInt ↑s.heap.objs.size) → IsPair h' TO x (.str ⟨#[c]⟩ s.toks) → h'.IsListIter i1 l1 (k1 + 1) → h'.IsStrIter i2 ty t tk (k1 + 1) → IsPair h' s.heap.objs.size x (.str ⟨#[c]⟩ s.toks) → h'.objs.size = s.heap.objs.size + 1 →
      (∀ (e : Addr) (o : Obj), e ≠ z → e ≠ TO → e ≠ i1 → e ≠ i2 → s.heap.get? e = some o → h'.get? e = some o) → Q (some (.ref s.heap.objs.size)) { heap := h', gens := s.gens, drawn := s.drawn, toks := s.toks + 1, os := s.os }) :
    wpAny (model prog w) A (pyNext (.ref z)) Q E s := by
  have hT : s.TypeIs (.ref z) "zip" := ⟨_, hz, rfl⟩
  unfold pyNext
  exact wpAny_bind (wpAny_attempt (wpAny_callSpecial?_slot hT F.slot_zip_next (wpAny_call_entry F.slot_zip_next hT F.entry_zip_next
    (zipS_next_item (fun s Q E h k => nx _ E s i2 t tk k1 c Q h hc k) D.TIz D.TOz D.i1z D.i2z D.TITO D.TOi1 D.TOi2 D.i12 D.l1z hz hTI hTO h1 h2 hl hx fun h' a1 a2 a3 a4 a5 a6 a7 => wpAny_pure (q h' a1 a2 a3 a4 a5 a6 a7)) (F.args_zip_next_1 (.ref z)))))
theorem pyNext_zipS_end {z TI TO i1 i2 l1 : Addr} {k1 : Nat} {xs : Array Value} {Q : Option Value → Shared → Prop} (hh : A.handled = none) (D : ZipApart z TI TO i1 i2 l1 l1)
    (hz : IsZip s.heap z TI TO .none) (hTI : IsPair s.heap TI (.ref i1) (.ref i2)) (h1 : s.heap.IsListIter i1 l1 k1) (hl : s.heap.IsList l1 xs) (hx : xs[k1]? = none)
    (q : ∀ h' : Heap, (∀ (c : Addr) (o : Obj), c ≠ z → c ≠ TO → c ≠ i1 → c ≠ i2 → s.heap.get? c = some o → h'.get? c = some o) → Q none { heap := h', gens := s.gens, drawn := s.drawn, toks := s.toks, os := s.os }) :
    wpAny (model prog w) A (pyNext (.ref z)) Q E s := by
  have hT : s.TypeIs (.ref z) "zip" := ⟨_, hz, rfl⟩
  unfold pyNext
  exact wpAny_bind (wpAny_attempt (wpAny_callSpecial?_slot hT F.slot_zip_next (wpAny_call_entry F.slot_zip_next hT F.entry_zip_next
    (zipS_next_end hh D.i1z D.l1z hz hTI h1 hl hx fun h' e hk he => by
      obtain ⟨o, ho, hc⟩ := he
      exact wpAny_bind (wpAny_isInstance ⟨o, ho, hc⟩ isSubtype_stop (wpAny_pure (q h' hk)))) (F.args_zip_next_1 (.ref z)))))
def zsH1 (h : Heap) (l1 : Addr) : Heap := h.push { cls := .type "list_iterator", data := .fields #[.ref l1, .int 0 0] }
def zsH2 (h : Heap) (l1 : Addr) (x : Str) (t : Tok) : Heap := (zsH1 h l1).push { cls := .type "str_ascii_iterator", data := .fields #[.str x t, .int 0 0] }
def zsH3 (h : Heap) (l1 : Addr) (x : Str) (t : Tok) : Heap := (zsH2 h l1 x t).push { cls := .type "tuple", data := .seq #[.ref h.objs.size, .ref (zsH1 h l1).objs.size] }
def zsH4 (h : Heap) (l1 : Addr) (x : Str) (t : Tok) : Heap := (zsH3 h l1 x t).push { cls := .type "tuple", data := .seq #[.none, .none] }
def zsH5 (h : Heap) (l1 : Addr) (x : Str) (t : Tok) : Heap := (zsH4 h l1 x t).push { cls := .type "zip", data := .fields #[.none, .bool false, .bool false, .ref (zsH2 h l1 x t).objs.size, .ref (zsH3 h l1 x t).objs.size] }
end
theorem meets_zipS_new (l1 : Addr) (x : Str) (t : Tok) (xs : Array Value) (ha : (x.cps.all fun c => decide (c < 128)) = true) : Meets (Builtin.«zip.__new__» { pos := [.type "zip", .ref l1, .str x t] }) fun _ R s =>
    s.heap.IsList l1 xs ∧ R (Except.ok (Flow.ret (.ref (zsH4 s.heap l1 x t).objs.size))) { heap := zsH5 s.heap l1 x t, gens := s.gens, drawn := s.drawn, toks := s.toks, os := s.os } :=
  Meets.of_wp fun prog w A R s h => by
    obtain ⟨hp, g, d, tk, os⟩ := s
    obtain ⟨hl1, hR⟩ := h
    unfold Builtin.«zip.__new__»
    refine wpAny_bind ?_
    unfold Builtin.SmallTypes.newClass
    refine wpAny_bind (m := isType _) (wpAny_pure ?_)
    refine wpAny_ite_false rfl ?_
    refine wpAny_bind (wpAny_of_eq sub_zip (wpAny_ite_false rfl (wpAny_pure ?_)))
    refine wpAny_ite_false rfl ?_
    refine wpAny_bind (m := Builtin.SmallTypes.iterAll _) ?_
    unfold Builtin.SmallTypes.iterAll
    refine wpAny_bind ?_
    rw [List.forIn_cons]
    refine wpAny_bind (wpAny_bind (wpAny_holding (wpAny_pyIter_list hl1 (wpAny_pure ?_))))
    show wpAny _ _ (forIn [Value.str x t] _ _) _ _ _
    rw [List.forIn_cons]
    refine wpAny_bind (wpAny_bind (wpAny_holding (wpAny_pyIter_ascii ha (wpAny_pure ?_))))
    show wpAny _ _ (forIn [] _ _) _ _ _
    rw [List.forIn_nil]
    refine wpAny_pure (wpAny_pure ?_)
    refine wpAny_bind (wpAny_newTuple ?_ (by show 2 ≤ sizeLine; decide))
    refine wpAny_bind (wpAny_newTuple ?_ (by show 2 ≤ sizeLine; decide))
    refine wpAny_bind ?_
    unfold Builtin.SmallTypes.newRecord
    show wpAny _ _ (newObj _ _) _ _ _
    unfold newObj
    refine wpAny_bind (wpAny_alloc' ?_)
    refine wpAny_pure ?_
    exact wpAny_pure ⟨_, rfl, hR⟩
theorem call_zipS {prog : Program} {w : World} {A : Around} {E : Value → Shared → Prop} {s : Shared} {l1 : Addr} {xs : Array Value} {x : Str} {t : Tok} {Q : Value → Shared → Prop} (ha : (x.cps.all fun c => decide (c < 128)) = true) (hl1 : s.heap.IsList l1 xs)
    (h : ∀ h' : Heap, IsZip h' (s.heap.objs.size + 4) (s.heap.objs.size + 2) (s.heap.objs.size + 3) .none → IsPair h' (s.heap.objs.size + 2) (.ref s.heap.objs.size) (.ref (s.heap.objs.size + 1)) → IsPair h' (s.heap.objs.size + 3) .none .none → h'.IsListIter s.heap.objs.size l1 0 →
      h'.IsStrIter (s.heap.objs.size + 1) "str_ascii_iterator" x t 0 → h'.objs.size = s.heap.objs.size + 5 → (∀ (c : Addr) (o : Obj), s.heap.get? c = some o → h'.get? c = some o) → Q (.ref (s.heap.objs.size + 4)) { heap := h', gens := s.gens, drawn := s.drawn, toks := s.toks, os := s.os }) :
    wpAny (model prog w) A (call (.type "zip") [.ref l1, .str x t]) Q E s := by
  have z1 : (zsH1 s.heap l1).objs.size = s.heap.objs.size + 1 := Heap.size_push ..
  have z2 : (zsH2 s.heap l1 x t).objs.size = s.heap.objs.size + 2 := (Heap.size_push ..).trans (by rw [z1])
  have z3 : (zsH3 s.heap l1 x t).objs.size = s.heap.objs.size + 3 := (Heap.size_push ..).trans (by rw [z2])
  have z4 : (zsH4 s.heap l1 x t).objs.size = s.heap.objs.size + 4 := (Heap.size_push ..).trans (by rw [z3])
  have z5 : (zsH5 s.heap l1 x t).objs.size = s.heap.objs.size + 5 := (Heap.size_push ..).trans (by rw [z4])
  have g5 : (zsH5 s.heap l1 x t).get? (zsH4 s.heap l1 x t).objs.size = _ := Heap.get?_push_size _ rfl
  have g4 : (zsH5 s.heap l1 x t).get? (zsH3 s.heap l1 x t).objs.size = _ := Heap.get?_push_of_some _ (Heap.get?_push_size _ rfl)
  have g3 : (zsH5 s.heap l1 x t).get? (zsH2 s.heap l1 x t).objs.size = _ := Heap.get?_push_of_some _ (Heap.get?_push_of_some _ (Heap.get?_push_size _ rfl))
  have g2 : (zsH5 s.heap l1 x t).get? (zsH1 s.heap l1).objs.size = _ := Heap.get?_push_of_some _ (Heap.get?_push_of_some _ (Heap.get?_push_of_some _ (Heap.get?_push_size _ rfl)))
  have g1 : (zsH5 s.heap l1 x t).get? s.heap.objs.size = _ := Heap.get?_push_of_some _ (Heap.get?_push_of_some _ (Heap.get?_push_of_some _ (Heap.get?_push_of_some _ (Heap.get?_push_size _ rfl))))
  have gk : ∀ (c : Addr) (o : Obj), s.heap.get? c = some o → (zsH5 s.heap l1 x t).get? c = some o := fun c o e => Heap.get?_push_of_some _ (Heap.get?_push_of_some _ (Heap.get?_push_of_some _ (Heap.get?_push_of_some _ (Heap.get?_push_of_some _ e))))
  rw [z1] at g2 g3
  rw [z2] at g3 g5
  rw [z3] at g4 g5
  rw [z4] at g5
  refine callType_new F.called_zip (by decide) (F.typeCall_zip_2 (.ref l1) (.str x t)) (F.newCall_zip_2 (.ref l1) (.str x t)) (fun obj => F.args_object_init_3 obj (.ref l1) (.str x t)) F.entry_zip_new (meets_zipS_new l1 x t xs ha) ⟨hl1, ?_⟩
  show Shared.TypeIs _ (.ref (zsH4 s.heap l1 x t).objs.size) "zip" ∧ Q (.ref (zsH4 s.heap l1 x t).objs.size) _
  rw [z4]
  exact ⟨⟨_, g5, rfl⟩, h _ g5 g3 g4 ⟨_, g1, rfl, rfl⟩ ⟨_, g2, rfl, rfl⟩ z5 gk⟩
/-! ### for one, sign in zip(a list, a text) -/
def ItzS (K : PySem.W.Frag) (a : Addr) (z : Str) : It where
  go i H := ∃ xs x c, SqL K H a xs ∧ xs[i]? = some x ∧ z.cps[i]? = some c
  yld i H v H' := ∃ T x c, v = V.ref T ∧ H T = none ∧ H' = upd H T (.tup [x, .str ⟨#[c]⟩]) ∧ (∀ xs, SqL K H a xs → xs[i]? = some x) ∧ z.cps[i]? = some c
  stop i H := ∃ xs, SqL K H a xs ∧ xs.length ≤ i
theorem walk_zipS {K : PySem.W.Frag} {a : Addr} {xs : List V} {z : Str} (le : xs.length = z.cps.size) :
    Walk (ItzS K a z) xs.length (fun H => SqL K H a xs) (fun i H v H' => ∃ T x c, v = V.ref T ∧ H T = none ∧ H' = upd H T (.tup [x, .str ⟨#[c]⟩]) ∧ xs[i]? = some x ∧ z.cps[i]? = some c) where
  goes i H hi h := ⟨xs, _, _, h, List.getElem?_eq_getElem hi, Array.getElem?_eq_getElem (by omega)⟩
  stops H h := ⟨xs, h, Nat.le_refl _⟩
  yields i H v H' hi h y := by
    obtain ⟨T, x, c, e1, e2, e3, e4, e5⟩ := y
    exact ⟨T, x, c, e1, e2, e3, e4 xs h, e5⟩
theorem turn_zipS {P : Program} {w : World} {K : PySem.W.Frag} {elts : List Expr} {kk : Nat} {tpos : Pos} {a z TI TO i1 i2 : Addr} {x : Str} {t : Tok} (D : ZipApart z TI TO i1 i2 a a) :
    Turn P w K (Expr.Tuple elts kk tpos) (ItzS K a x) [z, TI, TO, i1, i2] z fun i h => IsZip h z TI TO .none ∧ IsPair h TI (.ref i1) (.ref i2) ∧ (∃ x y, IsPair h TO x y) ∧ h.IsListIter i1 a i ∧ h.IsStrIter i2 "str_ascii_iterator" x t i where
  mem := by simp
  obj i h st c hc := by
    obtain ⟨hz, hTI, ⟨u, v, hTO⟩, ⟨o1, e1, _, d1⟩, ⟨o2, e2, _, d2⟩⟩ := st
    simp only [List.mem_cons, List.not_mem_nil, or_false] at hc
    rcases hc with rfl | rfl | rfl | rfl | rfl
    · exact ⟨_, hz, fun v q => nomatch q⟩
    · exact ⟨_, hTI, fun v q => nomatch q⟩
    · exact ⟨_, hTO, fun v q => nomatch q⟩
    · exact ⟨_, e1, fun v q => by rw [d1] at q; cases q⟩
    · exact ⟨_, e2, fun v q => by rw [d2] at q; cases q⟩
  keep i h h' st k := by
    obtain ⟨hz, hTI, ⟨u, v, hTO⟩, ⟨o1, e1, c1, d1⟩, ⟨o2, e2, c2, d2⟩⟩ := st
    exact ⟨k z (by simp) _ hz, k TI (by simp) _ hTI, ⟨u, v, k TO (by simp) _ hTO⟩, ⟨o1, k i1 (by simp) _ e1, c1, d1⟩, ⟨o2, k i2 (by simp) _ e2, c2, d2⟩⟩
  item X hP hw hK hc i pins s σ H E I hf st hg := by
    subst hP
    subst hw
    subst hK
    obtain ⟨hz, hTI, ⟨x0, y0, hTO⟩, h1, h2⟩ := st
    obtain ⟨xs, v, c, hq, hx, hcx⟩ := hg
    obtain ⟨its, rv, p, _⟩ := I.list hq
    obtain ⟨u, hu, ru⟩ := rv.get hx
    have hzl := Heap.lt_size hz
    refine pyNext_zipS_item nxs_ascii D hz hTI hTO h1 h2 p.isList (by rw [List.getElem?_toArray]; exact hu) hcx fun h' z' TO' h1' h2' hT hsz hk => ?_
    refine ⟨.ref s.heap.objs.size, rfl, wpAny_letOwnedTupleGo_zip z' fun h'' z'' sb => ?_⟩
    have hT2 : h''.get? s.heap.objs.size = _ := (sb.2 s.heap.objs.size (Nat.ne_of_gt hzl)).trans hT
    have new : ObjOk X.prog X.w (upd H s.heap.objs.size (.tup [v, .str ⟨#[c]⟩])) h'' s.heap.objs.size (.tup [v, .str ⟨#[c]⟩]) := ⟨by show 2 ≤ sizeLine; decide, [u, .str ⟨#[c]⟩ s.toks], .cons ru (.cons ⟨_, rfl⟩ .nil), ⟨_, hT2, rfl, 0, rfl⟩⟩
    have I1 := I.turnedNew (h' := h'') (t' := s.toks + 1) (ch := [z, TI, TO, i1, i2]) (T := s.heap.objs.size) (ob := .tup [v, .str ⟨#[c]⟩]) (fun e o hb q => by
      simp only [List.mem_cons, List.not_mem_nil, or_false, not_or] at hb
      rw [sb.2 e hb.1]
      exact hk e o hb.1 hb.2.2.1 hb.2.2.2.1 hb.2.2.2.2 q) hf (Nat.le_refl _) new
    have fr : H s.heap.objs.size = none := I.hok.fresh (Nat.le_refl _)
    have lt : ∀ b : Addr, b ∈ [z, TI, TO, i1, i2] → b ≠ s.heap.objs.size := fun b hb => by
      simp only [List.mem_cons, List.not_mem_nil, or_false] at hb
      obtain ⟨o1, e1, _⟩ := h1
      obtain ⟨o2, e2, _⟩ := h2
      rcases hb with rfl | rfl | rfl | rfl | rfl
      · exact Nat.ne_of_lt hzl
      · exact Nat.ne_of_lt (Heap.lt_size hTI)
      · exact Nat.ne_of_lt (Heap.lt_size hTO)
      · exact Nat.ne_of_lt (Heap.lt_size e1)
      · exact Nat.ne_of_lt (Heap.lt_size e2)
    refine ⟨.ref _, _, I1, rfl, ⟨_, v, c, rfl, fr, rfl, fun xs2 q2 => by rw [I.list_inj q2 hq]; exact hx, hcx⟩, ⟨z'', (sb.2 TI D.TIz).trans (hk TI _ D.TIz D.TITO D.TIi1 D.TIi2 hTI), ⟨_, _, (sb.2 TO D.TOz).trans TO'⟩, h1'.extBut sb.extBut D.i1z, h2'.extBut sb.extBut D.i2z⟩, fun b hb => ?_⟩
    rw [upd_ne (lt b hb)]
    exact (hf b hb).1
  done X hP hw hK hc i pins s σ H E I hf st hg := by
    subst hP
    subst hw
    subst hK
    obtain ⟨hz, hTI, _, h1, h2⟩ := st
    obtain ⟨xs, hq, hle⟩ := hg
    obtain ⟨its, rv, p, _⟩ := I.list hq
    have hl := rv.length
    refine pyNext_zipS_end (I.ok.hd hc) D hz hTI h1 p.isList (by rw [List.getElem?_toArray]; exact List.getElem?_eq_none (by omega)) fun h' hk => ⟨rfl, I.turnedL (ch := [z, TI, TO, i1, i2]) (fun e o hb q => ?_) hf⟩
    simp only [List.mem_cons, List.not_mem_nil, or_false, not_or] at hb
    exact hk e o hb.1 hb.2.2.1 hb.2.2.2.1 hb.2.2.2.2 q
  self A i s Q E st h := wpAny_pyIter_zip st.1 h
def iZipS (K : PySem.W.Frag) (ta : TA) : TI := fun σ H R => ta σ H fun vs H1 => ∃ a xs z, vs = [V.ref a, .str z] ∧ SqL K H1 a xs ∧ (z.cps.all fun c => decide (c < 128)) = true ∧ R (ItzS K a z) H1
theorem pi_zipS {X : Cx} {e e2 : Expr} {ta : TA} {p pos tpos : Pos} {elts : List Expr} {kk : Nat} (hg : Gl X "zip") (hm : X.mg "zip" = none) (ha : PA X [e, e2] ta)
    (hs : starEach [e, e2] X.env = (false, eval e X.env) :: starEach [e2] X.env := by rfl) (hpl : (backTo pos (starEach [e2] X.env)).any (·.1) = false := by rfl) :
    PI X (.Tuple elts kk tpos) (.Call (.Name "zip" p) [e, e2] [] pos) (iZipS X.K ta) := by
  refine ⟨fun pins s σ H R I h => ?_⟩
  refine Call_ (ld_blt I hg hm boot_zip (PyProof.Rows.callWith_type1 (thn (ha.run pos pins s σ H _ I h) fun us s1 ⟨vs, H1, I1, r1, q1⟩ => ?_) hs hpl))
  obtain ⟨a, xs, z, ev, hq, hz, q⟩ := q1
  subst ev
  cases r1 with
  | cons r rr =>
    cases rr with
    | cons r' rr =>
      cases rr
      obtain ⟨t', rfl⟩ := r'
      cases (show _ = Value.ref a from r)
      obtain ⟨its, rv, pl, _⟩ := I1.list hq
      refine call_zipS hz pl.isList fun h' a1 a2 a3 a4 a5 a6 a7 => wpAny_pyIter_zip a1 ?_
      have fp : ∀ b : Addr, b ∈ [s1.heap.objs.size + 4, s1.heap.objs.size + 2, s1.heap.objs.size + 3, s1.heap.objs.size, s1.heap.objs.size + 1] → s1.heap.objs.size ≤ b := fun b hb => by
        simp only [List.mem_cons, List.not_mem_nil, or_false] at hb
        rcases hb with rfl | rfl | rfl | rfl | rfl <;> omega
      exact ⟨_, _, _, ItzS X.K a z, H1, rfl, I1.kept (t' := s1.toks) a7, turn_zipS (W.ktu_apart _ a a pl.lt pl.lt), ⟨a1, a2, ⟨_, _, a3⟩, a4, a5⟩, fun b hb => I1.fpOk (fp b hb) (I1.hok.fresh (fp b hb)), q⟩
end Lp
set_option Elab.async false
set_option linter.all false
set_option maxRecDepth 100000
namespace Lp
open PySem PySem.Spec PyProof.Rows L2
/-! ### set(a list of ints) -/
theorem call_set_listI {P : Program} {w : World} {A : Around} {E : Value → Shared → Prop} {s : Shared} {l : Addr} {items : Array Value} (ns : List Int) {Q : Value → Shared → Prop} (hh : A.handled = none) (hl : s.heap.IsList l items) (hit : IntsAre items.toList ns) (hb : ns.length + 1 < scanBound)
    (h : ∀ (h' : Heap) (tk c : Nat), SetR w h' s.heap.objs.size (fun j => decide (j ∈ ns)) c → c ≤ ns.length → (∀ (b : Addr) (o : Obj), s.heap.get? b = some o → h'.get? b = some o) → Q (.ref s.heap.objs.size) { heap := h', gens := s.gens, drawn := s.drawn, toks := tk, os := s.os }) :
    wpAny (model P w) A (call (.type "set") [.ref l]) Q E s := by
  have hisz : items.size = ns.length := by
    have q := hit.length
    rwa [Array.length_toList] at q
  obtain ⟨c, tl, hmro⟩ := F.called_set.mro
  have hmade := F.called_set.made
  have hsub := F.called_set.sub
  refine wpAny_call (codeAny_of_tree ?_)
  refine wpAny_pure ⟨Code.quiet_builtin _ (by decide +kernel), codeAny_builtin F.entry_type_call ?_⟩
  rw [Around.under_plain (weight_type_call_type "set" [.ref l] []) rfl]
  have h1 := F.called_set.notType
  have h2 := F.called_set.canCreate
  have hct := F.typeCall_set_1 (.ref l)
  unfold Builtin.«type.__call__»
  refine wpAny_ite_false rfl (wpAny_ite_false rfl ?_)
  refine wpAny_bind (wpAny_of_eq hct ?_)
  refine wpAny_bind (wpAny_of_eq hmro (wpAny_ite_false rfl ?_))
  refine wpAny_bind (wpAny_of_eq hmade ?_)
  refine wpAny_bind (wpAny_pure (wpAny_bind (wpAny_holding (wpAny_call (codeAny_mono (code_set_led1 (.ref l) (Q₁ := fun obj s₁ => obj = .ref s.heap.objs.size ∧ s₁ = { heap := s.heap.push { cls := .type "set", data := .set #[] 0 (SetTable.fresh 0 0 !w.params.followText "set-order") }, gens := s.gens, drawn := s.drawn, toks := s.toks, os := s.os }) (E := E) ⟨rfl, rfl⟩) fun r s₁ hr => ?_)))))
  cases r with
  | error e => exact hr
  | ok fl =>
    cases fl with
    | next => exact hr.elim
    | brk => exact hr.elim
    | cont => exact hr.elim
    | ret v =>
      obtain ⟨rfl, rfl⟩ := hr
      have hS : (s.heap.push { cls := .type "set", data := .set #[] 0 (SetTable.fresh 0 0 !w.params.followText "set-order") }).get? s.heap.objs.size = _ := Heap.get?_push_size s.heap rfl
      have hT : Shared.TypeIs { heap := s.heap.push { cls := .type "set", data := .set #[] 0 (SetTable.fresh 0 0 !w.params.followText "set-order") }, gens := s.gens, drawn := s.drawn, toks := s.toks, os := s.os } (.ref s.heap.objs.size) "set" := ⟨_, hS, rfl⟩
      have hli := F.called_set.init.lookup
      have hbi := F.called_set.init.bind (.ref s.heap.objs.size)
      refine wpAny_bind (wpAny_isInstance hT hsub (wpAny_ite_false rfl (wpAny_bind (wpAny_holding ?_))))
      unfold callSpecial?
      refine wpAny_bind (wpAny_specialOf hT hli (wpAny_holding (wpAny_bind (wpAny_of_eq hbi (wpAny_bind (wpAny_call (codeAny_mono (R := wants (fun r s₂ => r = Value.none ∧ ∃ h' tk c, s₂ = { heap := h', gens := s.gens, drawn := s.drawn, toks := tk, os := s.os } ∧ SetR w h' s.heap.objs.size (fun j => decide (j ∈ ns)) c ∧ c ≤ ns.length ∧ ∀ (b : Addr) (o : Obj), s.heap.get? b = some o → h'.get? b = some o) E) (codeAny_call_builtin F.called_set.init.plain F.entry_set_init (check_set_init_1 hT ?_)) fun r s₂ hr => ?_)))))))
      · obtain ⟨ol, hol, hcl, nl, hdl⟩ := hl
        obtain ⟨ocls, odict, odata, oslots⟩ := ol
        cases (show ocls = Value.type "list" from hcl)
        cases (show odata = Data.seq items nl from hdl)
        have hol' := Heap.get?_push_of_some { cls := .type "set", data := .set #[] 0 (SetTable.fresh 0 0 !w.params.followText "set-order") } hol
        have hsls := F.sub_list_set
        have hslf := F.sub_list_frozenset
        have hl1 : (s.heap.push { cls := .type "set", data := .set #[] 0 (SetTable.fresh 0 0 !w.params.followText "set-order") }).IsList l items := ⟨_, hol', rfl, nl, rfl⟩
        unfold Builtin.«set.__init__»
        refine wpAny_bind (wpAny_ite_true rfl (wpAny_pure ?_))
        refine wpAny_bind (wpAny_bind (wpAny_bind (wpAny_typeOf hT (wpAny_ite_false rfl (wpAny_pure (wpAny_pure ?_))))))
        refine wpAny_bind ?_
        unfold checkCount
        refine wpAny_ite_false rfl (wpAny_ite_false rfl (wpAny_ite_false rfl (wpAny_pure ?_)))
        refine wpAny_bind ?_
        unfold Builtin.Frozenset.addrOf
        refine wpAny_pure ?_
        refine wpAny_bind ?_
        unfold setUsed
        refine wpAny_bind ?_
        unfold setState
        refine wpAny_bind (wpAny_load' hS (wpAny_ite_false rfl (wpAny_pure (wpAny_pure (wpAny_ite_false rfl ?_)))))
        refine wpAny_bind ?_
        unfold Builtin.Frozenset.updateFrom
        refine wpAny_bind ?_
        unfold Builtin.Frozenset.isAnySet
        refine wpAny_bind (m := isInstance (.ref l) (.type "set")) (wpAny_isInstance hl1.typeIs hsls ?_)
        show wpAny _ _ (isInstance (.ref l) (.type "frozenset")) _ _ _
        refine wpAny_isInstance hl1.typeIs hslf ?_
        refine wpAny_ite_false rfl ?_
        refine wpAny_bind (wpAny_typeOf hl1.typeIs (wpAny_ite_false rfl ?_))
        refine wpAny_bind (wpAny_pyIter_list hl1 ?_)
        refine wpAny_bind (wpAny_runValue ?_)
        have hlS := Heap.lt_size hol
        have hneI : l ≠ (s.heap.push { cls := .type "set", data := .set #[] 0 (SetTable.fresh 0 0 !w.params.followText "set-order") }).objs.size := by
          rw [Heap.size_push]
          exact Nat.ne_of_lt (Nat.lt_succ_of_lt hlS)
        have hSf : ¬ s.heap.objs.size ∈ [(s.heap.push { cls := .type "set", data := .set #[] 0 (SetTable.fresh 0 0 !w.params.followText "set-order") }).objs.size, l] := by
          rw [Heap.size_push]
          intro hm
          rcases List.mem_cons.mp hm with e | e
          · exact Nat.ne_of_lt (Nat.lt_succ_self _) e
          · exact Nat.ne_of_gt hlS (List.mem_singleton.mp e)
        have hval : ∀ (i : Nat) (v : Value), items[i]? = some v → ∃ k t, ns[i]? = some k ∧ v = Value.int k t := fun i v hv => by
          have hi : i < ns.length := by
            rw [← hisz]
            exact (Array.getElem?_eq_some_iff.mp hv).1
          obtain ⟨t, e⟩ := hit.int_at i v (by rw [Array.getElem?_toList]; exact hv)
          exact ⟨ns[i], t, List.getElem?_eq_getElem hi, by rw [e, List.getD_eq_getElem?_getD, List.getElem?_eq_getElem hi]; rfl⟩
        refine set_update_ints (Walks.toS (Walks.list (A := A.in1.in1.in1) (show A.in1.in1.in1.handled = none from hh) _ l hneI items)) s.heap.objs.size hSf ns hisz hb hval (items.size - 0) 0 _ rfl (Nat.zero_le _) ⟨⟨_, Heap.get?_push_size _ rfl, rfl, rfl⟩, hl1.push _⟩ ⟨0, Nat.le_refl 0, setR_new_at (Heap.get?_push_of_some _ hS)⟩ fun s' c' hm hc' hS' => ?_
        obtain ⟨h', g2, d', tk', os'⟩ := s'
        have eg := hm.gens
        have ed := hm.drawn
        have eo := hm.os
        cases eg
        cases ed
        cases eo
        have hk : ∀ (b : Addr) (o : Obj), s.heap.get? b = some o → h'.get? b = some o := fun b o e => by
          have hlt := Heap.lt_size e
          refine hm.heap b o ?_ (Heap.get?_push_of_some _ (Heap.get?_push_of_some _ e))
          intro hb'
          rcases List.mem_cons.mp hb' with e1 | e1
          · exact Nat.ne_of_lt hlt e1
          · rw [List.mem_singleton] at e1
            have e2 : b = s.heap.objs.size + 1 := e1.trans (Heap.size_push ..)
            rw [e2] at hlt
            exact absurd hlt (Nat.not_lt_of_le (Nat.le_succ _))
        exact wpAny_pure (wpAny_pure ⟨rfl, h', tk', c', rfl, hS', by rw [← hisz]; exact hc', hk⟩)
      · cases r with
        | error e => exact hr
        | ok fl =>
          cases fl with
          | next => exact hr.elim
          | brk => exact hr.elim
          | cont => exact hr.elim
          | ret v =>
            obtain ⟨rfl, h', tk, c', rfl, hs, hc, hk⟩ := hr
            exact wpAny_pure (wpAny_ite_false rfl (wpAny_pure (h h' tk c' hs hc hk)))
def rSetL (K : PySem.W.Frag) (w : World) : List V → Hp → VK → Prop := fun xs H Q => ∃ (a : Addr) (ns : List Int), xs = [V.ref a] ∧ SqL K H a (ns.map V.int) ∧ ns.length ≤ 60 ∧ ∀ (p : Addr) (c : Nat), H p = none → c ≤ ns.length → Q (.ref p) (upd H p (SetO w p (fun j => decide (j ∈ ns)) c))
theorem cr_setL {X : Cx} (hc : X.calm = true) : CallR X (.type "set") (rSetL X.K X.w) := by
  intro pins s σ H xs us Q I r h
  obtain ⟨a, ns, rfl, hq, hl, q⟩ := h
  cases r with
  | cons r rr =>
    cases rr
    cases (show _ = Value.ref a from r)
    obtain ⟨its, rv, p, _⟩ := I.list hq
    refine call_set_listI ns (I.ok.hd hc) p.isList (RZ.intsAre_vals rv) (Nat.lt_of_le_of_lt (Nat.succ_le_succ hl) (by decide)) fun h' tk c hs hcn hk => ?_
    refine ⟨.ref _, upd H _ (SetO X.w s.heap.objs.size (fun j => decide (j ∈ ns)) c), I.laid hk (Nat.le_refl _) ⟨hs, ?_, fun h1 h2 x k => ?_⟩, rfl, q _ c (I.hok.fresh (Nat.le_refl _)) hcn⟩
    · obtain ⟨o, _, _, _, e, _⟩ := hs
      exact ⟨o, e⟩
    · obtain ⟨o, es, ep, t, e, r⟩ := x
      exact ⟨o, es, ep, t, k o e, r⟩
theorem op_ltLL {X : Cx} (hu : X.A.units + 64 < cLine) : OpR X (compareOp .Lt) (fun x y H Q => ∃ (a b : Addr) (xs ys : List Int), x = V.ref a ∧ y = V.ref b ∧ SqL X.K H a (xs.map V.int) ∧ SqL X.K H b (ys.map V.int) ∧ Q (.bl (HT.lexLt xs ys)) H) := by
  intro pins s σ H x y v u Q I r1 r2 h
  obtain ⟨a, b, xs, ys, rfl, rfl, h1, h2, q⟩ := h
  cases (show v = Value.ref a from r1)
  cases (show u = Value.ref b from r2)
  obtain ⟨its, rv, p, _⟩ := I.list h1
  obtain ⟨its2, rv2, p2, _⟩ := I.list h2
  have ia := RZ.intsAre_vals rv
  have ib := RZ.intsAre_vals rv2
  have l1 := ia.length
  have l2 := ib.length
  show wpAny _ _ (richCompare .Lt _ _) _ _ s
  refine SeqAt.RcLt.lists (e := fun j => xs.getD j 0 == ys.getD j 0) (r := fun j => decide (xs.getD j 0 < ys.getD j 0)) p.isList p2.isList (by omega) (fun j h1 h2 => ?_) (fun j h1 h2 _ => ?_) _ _ _ _ ?_
  · obtain ⟨t, e⟩ := ints_at ia j (by simpa using h1)
    obtain ⟨t', e'⟩ := ints_at ib j (by simpa using h2)
    rw [List.getElem_toArray, List.getElem_toArray, e, e']
    exact SeqAt.EqAt.int_int _ t _ t'
  · obtain ⟨t, e⟩ := ints_at ia j (by simpa using h1)
    obtain ⟨t', e'⟩ := ints_at ib j (by simpa using h2)
    rw [List.getElem_toArray, List.getElem_toArray, e, e']
    exact rcLt_int _ _ _ t _ t'
  · rw [List.size_toArray, List.size_toArray, l1, l2, first_lex]
    exact ⟨.bl _, H, I, rfl, q⟩
end Lp
set_option Elab.async false
set_option linter.all false
set_option maxRecDepth 100000
namespace Lp
open PySem PySem.Spec PyProof.Rows L2
/-! ### a space, so many times -/
def spc (n : Nat) : Str := ⟨(List.replicate n 32).toArray⟩
theorem spc1 : spc 1 = (" " : Str) := by decide +kernel
theorem spc_len (n : Nat) : (spc n).length = n := by
  show ((List.replicate n 32).toArray).size = n
  rw [List.size_toArray, List.length_replicate]
section
variable {X : Cx}
theorem op_repB : OpR X (binaryOp .Mult) (fun x y H Q => ∃ n : Nat, x = .str (" " : Str) ∧ y = .int (n : Int) ∧ n ≤ 1000 ∧ Q (.str (spc n)) H) := by
  intro pins s σ H x y v u Q I r1 r2 h
  obtain ⟨n, e1, e2, hn, q⟩ := h
  subst e1; subst e2
  obtain ⟨t, rfl⟩ := r1
  obtain ⟨t', rfl⟩ := r2
  have hz : (" " : Str).length = 1 := by decide +kernel
  have hc : (" " : Str).cps = [32].toArray := by decide +kernel
  refine PySem.P.mul_str ?_ (fun c _ => ?_) (fun _ _ => ?_) ?_
  · rw [decide_eq_false (show ¬ (n : Int) < -(2 ^ 63 : Int) by omega), decide_eq_false (show ¬ (n : Int) ≥ 2 ^ 63 by omega)]
    rfl
  · rw [hz]
    have := (Int.le_ediv_iff_mul_le (show (0 : Int) < n by omega)).mpr (show ((1 : Nat) : Int) * (n : Int) ≤ 2 ^ 63 - 1 by omega)
    omega
  · rw [hz]
    unfold Builtin.Str.tooLong
    refine decide_eq_false ?_
    have e : (n : Int).toNat = n := rfl
    have z := zs (show n ≤ 100000 by omega)
    omega
  · by_cases h0 : n = 0
    · subst h0
      rw [if_pos (by decide)]
      exact ⟨by decide, .str _, H, I.tok _, ⟨_, rfl⟩, q⟩
    · rw [if_neg (show ¬ (n : Int) < 1 by omega), hz]
      by_cases h1 : n = 1
      · subst h1
        rw [if_pos (by rfl)]
        rw [spc1] at q
        exact ⟨.str _, H, I, ⟨_, rfl⟩, q⟩
      · have hb : ((n : Int) == 1 || (1 : Nat) == 0) = false := by
          rw [beq_eq_false_iff_ne.mpr (show (n : Int) ≠ 1 by omega)]
          rfl
        rw [hb, if_neg Bool.false_ne_true]
        have e : (n : Int).toNat = n := rfl
        have f0 : List.foldl (fun x1 x2 => x1 ++ x2) #[] (List.replicate n [32].toArray) = (List.replicate n 32).toArray := by
          have := foldl_repN [32] n []
          rw [List.nil_append] at this
          rw [this]
          congr 1
          clear this hb h1 h0 q
          induction n with
          | zero => rfl
          | succ m ih => rw [List.replicate_succ, List.flatten_cons, ih (by omega) rfl, List.replicate_succ]; rfl
        rw [e, hc, f0]
        exact ⟨by rw [show (⟨(List.replicate n 32).toArray⟩ : Str).length = n from spc_len n]; exact zs (by omega), .str _, H, I.tok _, ⟨_, rfl⟩, q⟩
/-! ### an int, written in a form -/
def FmtI (i : Int) (sp y : Str) : Prop := ∀ (prog : Program) (w : World) (A : Around) (E : Value → Shared → Prop) (s : Shared) (t : Tok) (Q : Value → Shared → Prop), (∀ t' k, Q (.str y t') { s with toks := k }) → wpAny (model prog w) A (formatField (.int i t) sp) Q E s
def tFmtS (te ts : TE) : TE := fun σ H Q => te σ H fun x H1 => ts σ H1 fun y H2 => ∃ (i : Int) (f z : Str), x = .int i ∧ y = .str f ∧ FmtI i f z ∧ Q (.str z) H2
theorem pe_fmtS {e sp : Expr} {te ts : TE} {pos : Pos} (he : PE X e te) (hs : PE X sp ts) : PE X (.FormattedValue e (-1) (some sp) pos) (tFmtS te ts) := by
  refine ⟨fun pins s σ H Q I h => ?_⟩
  refine wpAny_FormattedValue_spec (thn (he.run pins s σ H _ I h) fun v s1 ⟨x, H1, I1, r1, q1⟩ => thn (hs.run pins s1 σ H1 _ I1 q1) fun u s2 ⟨y, H2, I2, r2, i, f, z, e1, e2, hf, q⟩ => ?_)
  subst e1
  subst e2
  obtain ⟨t, rfl⟩ := r1
  obtain ⟨t', rfl⟩ := r2
  exact ⟨f, t', rfl, hf _ _ _ _ _ _ _ fun _ _ => ⟨.str z, H2, I2.tok _, ⟨_, rfl⟩, q⟩⟩
end
open Builtin Builtin.Int Builtin.Float in
def fmF (f : FormatSpec) (i : Int) : Str := intField' f (decide (i < 0)) [] ((Nat.toDigits 10 i.natAbs).map fun c => (if (100 : Nat) == 88 then c.toUpper else c).toNat) [] 3
abbrev fs3 : Builtin.Float.FormatSpec := { align := 62, width := some 3 }
abbrev fs4 : Builtin.Float.FormatSpec := { align := 62, width := some 4 }
abbrev fs5 : Builtin.Float.FormatSpec := { align := 62, width := some 5, sign := some 43 }
abbrev fsD : Builtin.Float.FormatSpec := { align := 62, sign := some 43, type := some 100 }
section
open Builtin Builtin.Int Builtin.Float PySem.W
theorem par3 : parseFormatSpec (">3" : Str).cps.toList "int" 62 = .ok fs3 := by kernel_rfl
theorem par4 : parseFormatSpec (">4" : Str).cps.toList "int" 62 = .ok fs4 := by kernel_rfl
theorem par5 : parseFormatSpec (">+5" : Str).cps.toList "int" 62 = .ok fs5 := by kernel_rfl
theorem parD : parseFormatSpec ("+d" : Str).cps.toList "int" 62 = .ok fsD := by kernel_rfl
theorem fmt_3 {i : Int} (hi : i.natAbs.log2 < 1920) (hl : (fmF fs3 i).length ≤ sizeLine) : FmtI i (">3" : Str) (fmF fs3 i) := by
  intro prog w A E s t Q h
  refine KXf.field_int rfl (by decide +kernel) (by decide +kernel) (fun u => KPc.meets_of ?_) h
  intro _ _ _ _ _ _ hh
  unfold Builtin.«int.__format__»; refine wpAny_bind (wpAny_of_eq (a := (_, _)) rfl (wpAny_bind (wpAny_of_eq (a := _) rfl ?_)))
  kxf_if; refine wpAny_bind (wpAny_typeNameOf (T := "str") (typeIs_str _ _ _) (by decide) fun _ => wpAny_bind (wpAny_of_eq (a := some _) rfl ?_))
  kxf_if; kxf_if; refine wpAny_bind (wpAny_typeNameOfCut_int ?_); rw [par3]
  have e100 : (none : Option Nat).getD (if ((">3" : Str).cps.back? == some 0) = true then 0 else 100) = 100 := by decide +kernel
  dsimp only
  rw [e100]
  refine wpAny_ite (KPc.ite_yes (by decide +kernel) ?_)
  refine wpAny_bind (m := Builtin.overDigitLimit? i) (wpAny_of_eq (PySem.overDigitLimit_small hi) (KXf.ret_text (T := fmF fs3 i) rfl hl ?_))
  assumption
theorem fmt_4 {i : Int} (hi : i.natAbs.log2 < 1920) (hl : (fmF fs4 i).length ≤ sizeLine) : FmtI i (">4" : Str) (fmF fs4 i) := by
  intro prog w A E s t Q h
  refine KXf.field_int rfl (by decide +kernel) (by decide +kernel) (fun u => KPc.meets_of ?_) h
  intro _ _ _ _ _ _ hh
  unfold Builtin.«int.__format__»; refine wpAny_bind (wpAny_of_eq (a := (_, _)) rfl (wpAny_bind (wpAny_of_eq (a := _) rfl ?_)))
  kxf_if; refine wpAny_bind (wpAny_typeNameOf (T := "str") (typeIs_str _ _ _) (by decide) fun _ => wpAny_bind (wpAny_of_eq (a := some _) rfl ?_))
  kxf_if; kxf_if; refine wpAny_bind (wpAny_typeNameOfCut_int ?_); rw [par4]
  have e100 : (none : Option Nat).getD (if ((">4" : Str).cps.back? == some 0) = true then 0 else 100) = 100 := by decide +kernel
  dsimp only
  rw [e100]
  refine wpAny_ite (KPc.ite_yes (by decide +kernel) ?_)
  refine wpAny_bind (m := Builtin.overDigitLimit? i) (wpAny_of_eq (PySem.overDigitLimit_small hi) (KXf.ret_text (T := fmF fs4 i) rfl hl ?_))
  assumption
theorem fmt_5 {i : Int} (hi : i.natAbs.log2 < 1920) (hl : (fmF fs5 i).length ≤ sizeLine) : FmtI i (">+5" : Str) (fmF fs5 i) := by
  intro prog w A E s t Q h
  refine KXf.field_int rfl (by decide +kernel) (by decide +kernel) (fun u => KPc.meets_of ?_) h
  intro _ _ _ _ _ _ hh
  unfold Builtin.«int.__format__»; refine wpAny_bind (wpAny_of_eq (a := (_, _)) rfl (wpAny_bind (wpAny_of_eq (a := _) rfl ?_)))
  kxf_if; refine wpAny_bind (wpAny_typeNameOf (T := "str") (typeIs_str _ _ _) (by decide) fun _ => wpAny_bind (wpAny_of_eq (a := some _) rfl ?_))
  kxf_if; kxf_if; refine wpAny_bind (wpAny_typeNameOfCut_int ?_); rw [par5]
  have e100 : (none : Option Nat).getD (if ((">+5" : Str).cps.back? == some 0) = true then 0 else 100) = 100 := by decide +kernel
  dsimp only
  rw [e100]
  refine wpAny_ite (KPc.ite_yes (by decide +kernel) ?_)
  refine wpAny_bind (m := Builtin.overDigitLimit? i) (wpAny_of_eq (PySem.overDigitLimit_small hi) (KXf.ret_text (T := fmF fs5 i) rfl hl ?_))
  assumption
theorem fmt_D {i : Int} (hi : i.natAbs.log2 < 1920) (hl : (fmF fsD i).length ≤ sizeLine) : FmtI i ("+d" : Str) (fmF fsD i) := by
  intro prog w A E s t Q h
  refine KXf.field_int rfl (by decide +kernel) (by decide +kernel) (fun u => KPc.meets_of ?_) h
  intro _ _ _ _ _ _ hh
  unfold Builtin.«int.__format__»; refine wpAny_bind (wpAny_of_eq (a := (_, _)) rfl (wpAny_bind (wpAny_of_eq (a := _) rfl ?_)))
  kxf_if; refine wpAny_bind (wpAny_typeNameOf (T := "str") (typeIs_str _ _ _) (by decide) fun _ => wpAny_bind (wpAny_of_eq (a := some _) rfl ?_))
  kxf_if; kxf_if; refine wpAny_bind (wpAny_typeNameOfCut_int ?_); rw [parD]
  have e100 : (some 100 : Option Nat).getD (if (("+d" : Str).cps.back? == some 0) = true then 0 else 100) = 100 := by decide +kernel
  dsimp only
  rw [e100]
  refine wpAny_ite (KPc.ite_yes (by decide +kernel) ?_)
  refine wpAny_bind (m := Builtin.overDigitLimit? i) (wpAny_of_eq (PySem.overDigitLimit_small hi) (KXf.ret_text (T := fmF fsD i) rfl hl ?_))
  assumption
end
end Lp
set_option Elab.async false
set_option linter.all false
set_option maxRecDepth 100000
namespace Lp
open PySem PySem.Spec PyProof.Rows L2
/-! ### dict comprehensions over a range -/
theorem dc_range {lo : Int} {n : Nat} {g : TG} {tt : TT} {tk tv : TE} {vs : List Nat} {σ : L2.St} {H1 : Hp} {D : Addr} {Qd : Hp → Prop} (Pv : Nat → Hp → Prop) (h0 : Pv 0 (upd H1 D (.dK [])))
    (hs : ∀ (i : Nat) (H : Hp), i < n → Pv i H → g (.int (lo + i)) (wipe σ vs) H fun σ2 H2 => wipe σ2 vs = wipe σ vs ∧ tt σ2 H2 fun b H3 =>
      if b = true then tk σ2 H3 fun y H4 => tv σ2 H4 fun z H5 => ∃ kvs k, y = kV k ∧ H5 D = some (.dK kvs) ∧ kvs.length < sizeLine ∧ Pv (i + 1) (upd H5 D (.dK (putK kvs k z))) else Pv (i + 1) H3) (hd : ∀ H, Pv n H → Qd H) :
    ∃ W : Nat → Nat → Hp → Prop, (∃ m, W 0 m (upd H1 D (.dK []))) ∧ ∀ i m H, W i m H →
      ((Itr lo n).stop i H ∧ Qd H) ∨ ((Itr lo n).go i H ∧ ∃ Nx : Hp → Prop, (∀ H', Nx H' → ∃ m', m' < m ∧ W (i + 1) m' H') ∧ ∀ x H', (Itr lo n).yld i H x H' → g x (wipe σ vs) H' fun σ2 H2 => wipe σ2 vs = wipe σ vs ∧ tt σ2 H2 fun b H3 =>
        if b = true then tk σ2 H3 fun y H4 => tv σ2 H4 fun z H5 => ∃ kvs k, y = kV k ∧ H5 D = some (.dK kvs) ∧ kvs.length < sizeLine ∧ Nx (upd H5 D (.dK (putK kvs k z))) else Nx H3) := by
  refine ⟨fun i m H => m = n - i ∧ i ≤ n ∧ Pv i H, ⟨n, by simp, Nat.zero_le _, h0⟩, ?_⟩
  rintro i m H ⟨rfl, hi, pv⟩
  rcases Nat.lt_or_ge i n with hlt | hge
  · refine .inr ⟨hlt, Pv (i + 1), fun H' p' => ⟨n - (i + 1), by omega, rfl, hlt, p'⟩, fun x H' y => ?_⟩
    obtain ⟨rfl, rfl⟩ := y
    exact hs i _ hlt pv
  · have e : i = n := by omega
    subst e
    exact .inl ⟨Nat.le_refl _, hd H pv⟩
/-! ### words with single spaces between -/
abbrev jn (l : List Str) : Str := Str.join (" " : Str) l
theorem jn_snoc (x : Str) : ∀ l : List Str, jn (l ++ [x]) = if l = [] then x else jn l ++ (" " : Str) ++ x
  | [] => rfl
  | [y] => rfl
  | y :: z :: r => by
    have ih := jn_snoc x (z :: r)
    rw [if_neg (by simp)] at ih
    rw [if_neg (by simp)]
    show y ++ (" " : Str) ++ jn (z :: r ++ [x]) = y ++ (" " : Str) ++ jn (z :: r) ++ (" " : Str) ++ x
    rw [ih]
    simp only [Str.append_assoc]
theorem space1 : (" " : Str) = ⟨#[32]⟩ := by decide +kernel
def jc : List (List Nat) → List Nat
  | [] => []
  | [x] => x
  | x :: y :: r => x ++ 32 :: jc (y :: r)
theorem jn_jc : ∀ l : List Str, (jn l).cps.toList = jc (l.map fun x => x.cps.toList)
  | [] => rfl
  | [x] => rfl
  | x :: y :: r => by
    have ih := jn_jc (y :: r)
    show (x ++ (" " : Str) ++ jn (y :: r)).cps.toList = x.cps.toList ++ 32 :: jc ((y :: r).map fun x => x.cps.toList)
    rw [← ih, space1, Str.cps_append, Str.cps_append]
    simp
theorem cut32 : ∀ {x y a b : List Nat}, 32 ∉ x → 32 ∉ y → x ++ 32 :: a = y ++ 32 :: b → x = y ∧ a = b
  | [], [], a, b, _, _, h => ⟨rfl, (List.cons.inj h).2⟩
  | [], c :: y, a, b, _, hy, h => absurd ((List.cons.inj h).1 ▸ List.mem_cons_self) hy
  | c :: x, [], a, b, hx, _, h => absurd ((List.cons.inj h).1 ▸ List.mem_cons_self) hx
  | c :: x, d :: y, a, b, hx, hy, h => by
    obtain ⟨e1, e2⟩ := List.cons.inj h
    obtain ⟨e3, e4⟩ := cut32 (fun z => hx (List.mem_cons_of_mem _ z)) (fun z => hy (List.mem_cons_of_mem _ z)) e2
    exact ⟨by rw [e1, e3], e4⟩
theorem jc_inj : ∀ {l m : List (List Nat)}, l ≠ [] → m ≠ [] → (∀ x ∈ l, 32 ∉ x) → (∀ x ∈ m, 32 ∉ x) → jc l = jc m → l = m
  | [], _, h, _, _, _, _ => absurd rfl h
  | _ :: _, [], _, h, _, _, _ => absurd rfl h
  | [x], [y], _, _, _, _, h => by rw [show x = y from h]
  | [x], y :: z :: r, _, _, hx, _, h => absurd (show 32 ∈ x by rw [show x = y ++ 32 :: jc (z :: r) from h]; simp) (hx x List.mem_cons_self)
  | x :: z :: r, [y], _, _, _, hy, h => absurd (show 32 ∈ y by rw [← show x ++ 32 :: jc (z :: r) = y from h]; simp) (hy y List.mem_cons_self)
  | x :: z :: r, y :: u :: s, _, _, hx, hy, h => by
    obtain ⟨e1, e2⟩ := cut32 (hx x List.mem_cons_self) (hy y List.mem_cons_self) (show x ++ 32 :: jc (z :: r) = y ++ 32 :: jc (u :: s) from h)
    rw [e1, jc_inj (l := z :: r) (m := u :: s) (by simp) (by simp) (fun q hq => hx q (List.mem_cons_of_mem _ hq)) (fun q hq => hy q (List.mem_cons_of_mem _ hq)) e2]
theorem map_cps_inj : ∀ {l m : List Str}, (l.map fun x => x.cps.toList) = (m.map fun x => x.cps.toList) → l = m
  | [], [], _ => rfl
  | [], _ :: _, h => nomatch h
  | _ :: _, [], h => nomatch h
  | x :: l, y :: m, h => by
    obtain ⟨e1, e2⟩ := List.cons.inj h
    have e3 : x = y := Str.ext' (Array.toList_inj.mp e1)
    rw [e3, map_cps_inj e2]
theorem split_jn {l : List Str} (h : l ≠ []) (hf : ∀ x ∈ l, 32 ∉ x.cps.toList) : Txt.split (jn l) (" " : Str) = l := by
  have e1 : jn (Txt.split (jn l) (" " : Str)) = jn l := StrLaws.join_split _ _
  have e2 : ∀ p ∈ Txt.split (jn l) (" " : Str), 32 ∉ p.cps.toList := by
    rw [space1]
    exact StrLaws.split_free _ 32
  have e3 : Txt.split (jn l) (" " : Str) ≠ [] := fun z => by
    have := split_pos (jn l) (" " : Str)
    rw [z] at this
    simp at this
  refine map_cps_inj (jc_inj (by simpa using e3) (by simpa using h) ?_ ?_ ?_)
  · intro x hx
    obtain ⟨p, hp, rfl⟩ := List.mem_map.mp hx
    exact e2 p hp
  · intro x hx
    obtain ⟨p, hp, rfl⟩ := List.mem_map.mp hx
    exact hf p hp
  · rw [← jn_jc, ← jn_jc, e1]
end Lp
set_option Elab.async false
set_option linter.all false
set_option maxRecDepth 100000
namespace Lp
open PySem PySem.Spec PyProof.Rows L2
/-! ### defs, methods, classes, properties that may be used by their names -/
structure Cal (P : Program) (w : World) (K : PySem.W.Frag) (mg : Str → Option Value) (base : Heap) (k : Nat) (x : Str) (sp : Sp) : Prop where
  ex : ∃ (f : Addr) (fd : FuncData) (ps : List Str), FnOk P w K mg base CX0 k f fd ps sp ∧ mg x = some (.ref f) ∧ PySem.W.keepIn K (.ref f) = true ∧ Binds K fd ps []
structure Met (P : Program) (w : World) (K : PySem.W.Frag) (mg : Str → Option Value) (base : Heap) (k : Nat) (C : Addr) (m : Str) (sp : Sp) : Prop where
  ex : ∃ (f : Addr) (fd : FuncData) (ps : List Str), Cls K C ∧ Meth K C m f ∧ FnOk P w K mg base CX0 k f fd ps sp ∧ Binds K fd ps []
structure Mak (P : Program) (w : World) (K : PySem.W.Frag) (mg : Str → Option Value) (base : Heap) (k : Nat) (x : Str) (C : Addr) (sp : Sp) : Prop where
  ex : ∃ (f : Addr) (fd : FuncData) (ps : List Str), Mk K C f ∧ FnOk P w K mg base CX0 k f fd ps sp ∧ mg x = some (.ref C) ∧ Binds K fd ps []
structure Prp (P : Program) (w : World) (K : PySem.W.Frag) (mg : Str → Option Value) (base : Heap) (k : Nat) (C : Addr) (f : Str) (sp : Sp) : Prop where
  ex : ∃ (p g : Addr) (fd : FuncData) (ps : List Str), Cls K C ∧ PropOf K C f p g ∧ FnOk P w K mg base CX0 k g fd ps sp ∧ Binds K fd ps []
theorem Cal.gc {P : Program} {w : World} {K : PySem.W.Frag} {mg : Str → Option Value} {base : Heap} {k : Nat} {x : Str} {sp : Sp} (c : Cal P w K mg base k x sp) : Gc P w K mg base k x sp := by
  obtain ⟨f, fd, ps, F, h⟩ := c.ex
  exact ⟨f, fd, ps, .of F, h⟩
section
variable {X : Cx} {k j : Nat} {C : Addr} {x m f : Str} {sp : Sp} {p pos apos : Pos} {e o : Expr} {es : List Expr} {ta : TE} {t : TA}
theorem pe_c (c : Cal X.prog X.w X.K X.mg X.base k x sp) (hr : Room j X.A) (hk : k ≤ j) (hg : Gl X x) (ha : PA X (e :: es) t)
    (hdb : (x == ("__debug__" : Str)) = false := by decide) (he : starEach (e :: es) X.env = (false, eval e X.env) :: starEach es X.env := by rfl) (hpl : (backTo pos (starEach es X.env)).any (·.1) = false := by rfl) :
    PE X (.Call (.Name x p) (e :: es) [] pos) (tCall sp [] E0 t) := by
  obtain ⟨g, fd, ps, F, hm, kp, b⟩ := c.ex
  exact pe_call F (hr.mono hk) hg hm kp b .nil pass0 ha hdb he hpl
theorem pe_mk (c : Mak X.prog X.w X.K X.mg X.base k x C sp) (hr : Room j X.A) (hk : k + 1 ≤ j) (hg : Gl X x) (ha : PA X (e :: es) t)
    (hdb : (x == ("__debug__" : Str)) = false := by decide) (he : starEach (e :: es) X.env = (false, eval e X.env) :: starEach es X.env := by rfl) (hpl : (backTo pos (starEach es X.env)).any (·.1) = false := by rfl) :
    PE X (.Call (.Name x p) (e :: es) [] pos) (tMake C sp [] E0 t) := by
  obtain ⟨g, fd, ps, M, F, hm, b⟩ := c.ex
  exact pe_make M F (hr.mono hk) hg hm b .nil pass0 ha hdb he hpl
theorem pe_mt {pl : Sem Bool} (c : Met X.prog X.w X.K X.mg X.base k C m sp) (hr : Room j X.A) (hk : k ≤ j) (he : PE X o ta) (ha : PA X (e :: es) t)
    (hst : starEach (e :: es) X.env = (false, eval e X.env) :: starEach es X.env := by rfl) (hpl : (backTo pos (starEach es X.env)).any (·.1) = false := by rfl)
    (ht : eval (.Call (.Attribute o m apos) (e :: es) [] pos) X.env = (eval o X.env >>= fun ov => standAt apos.atName >>= fun _ => holding [ov] (getMethod ov m pl) >>= fun r => callWith pos r.1 r.2 (backTo pos (starEach (e :: es) X.env)) (backToKw pos (keywordEach [] X.env))) := by rfl) :
    PE X (.Call (.Attribute o m apos) (e :: es) [] pos) (tMeth C m sp [] E0 ta t) := by
  obtain ⟨g, fd, ps, hc, hm, F, b⟩ := c.ex
  exact pe_meth (pl := pl) he hc hm F (hr.mono hk) b .nil pass0 ha hst hpl ht
theorem pe_mt0 {pl : Sem Bool} (c : Met X.prog X.w X.K X.mg X.base k C m sp) (hr : Room j X.A) (hk : k ≤ j) (he : PE X o ta)
    (ht : eval (.Call (.Attribute o m apos) [] [] pos) X.env = (eval o X.env >>= fun ov => standAt apos.atName >>= fun _ => holding [ov] (getMethod ov m pl) >>= fun r => callWith pos r.1 r.2 (backTo pos (starEach [] X.env)) (backToKw pos (keywordEach [] X.env))) := by rfl) :
    PE X (.Call (.Attribute o m apos) [] [] pos) (tMeth C m sp [] E0 ta tNil) := by
  obtain ⟨g, fd, ps, hc, hm, F, b⟩ := c.ex
  exact pe_meth0 (pl := pl) he hc hm F (hr.mono hk) b .nil pass0 ht
theorem pe_pr (c : Prp X.prog X.w X.K X.mg X.base k C f sp) (hr : Room j X.A) (hk : k + 1 ≤ j) (he : PE X e ta) (hab : attributeBase e f X.env (eval e X.env) = eval e X.env := by rfl) : PE X (.Attribute e f pos) (tProp C sp [] E0 ta) := by
  obtain ⟨p, g, fd, ps, hc, hp, F, b⟩ := c.ex
  exact pe_prop he hc hp F (hr.mono hk) b .nil pass0 hab
end
/-! ### slices that end one before the end -/
theorem cut_init (xs : List V) : cutV xs none (some (-1)) = xs.dropLast := by
  have e : HT.sIx xs.length xs.length (some (-1)) = xs.length - 1 := by
    show (if (-1 : Int) < 0 then ((-1 : Int) + (xs.length : Int)).toNat else min (-1 : Int).toNat xs.length) = _
    rw [if_pos (by decide)]
    omega
  unfold cutV
  rw [HT.sIx_none, e, List.drop_zero, Nat.sub_zero, List.dropLast_eq_take]
end Lp
set_option Elab.async false
set_option linter.all false
set_option maxRecDepth 100000
namespace Lp
open PySem PySem.Spec PyProof.Rows L2
/-! ### methods that may raise, called where it is caught -/
structure MetX (P : Program) (w : World) (K : PySem.W.Frag) (mg : Str → Option Value) (base : Heap) (k : Nat) (C : Addr) (m : Str) (sp : Sp) : Prop where
  ex : ∃ (f : Addr) (fd : FuncData) (ps : List Str), Cls K C ∧ Meth K C m f ∧ FnOk P w K mg base (L2.CX P w) k f fd ps sp ∧ Binds K fd ps []
def tMtX0 (C : Addr) (m : Str) (sp : Sp) (W : WX) (ta : TE) : TE := fun σ H Q => ta σ H fun x H1 => ∃ a dx fs, x = .ref a ∧ H1 a = some (.ins C dx fs) ∧ fs.lookup m = none ∧ sp [x] H1 Q (WE W σ)
/-- classes made by keywords alone -/
structure MakK (P : Program) (w : World) (K : PySem.W.Frag) (mg : Str → Option Value) (base : Heap) (k : Nat) (x : Str) (C : Addr) (ks : List Str) (gV : List V → List V → List V) (sp : Sp) : Prop where
  ex : ∃ (f : Addr) (fd : FuncData) (ps : List Str) (g : List Value → List Value → List Value), Mk K C f ∧ FnOk P w K mg base CX0 k f fd ps sp ∧ mg x = some (.ref C) ∧ KBn K fd ps 1 ks g gV
section
variable {X : Cx} {k j : Nat} {C : Addr} {x m : Str} {sp : Sp} {p pos apos : Pos} {o : Expr} {ta : TE} {tk' : TA} {kws : List Keyword} {ks : List Str} {gV : List V → List V → List V}
theorem pe_mtX0 {pl : Sem Bool} {W : WX} (c : MetX X.prog X.w X.K X.mg X.base k C m sp) (hr : Room j X.A) (hk : k ≤ j) (tk : Takes X W) (he : PE X o ta)
    (ht : eval (.Call (.Attribute o m apos) [] [] pos) X.env = (eval o X.env >>= fun ov => standAt apos.atName >>= fun _ => holding [ov] (getMethod ov m pl) >>= fun r => callWith pos r.1 r.2 (backTo pos (starEach [] X.env)) (backToKw pos (keywordEach [] X.env))) := by rfl) :
    PE X (.Call (.Attribute o m apos) [] [] pos) (tMtX0 C m sp W ta) := by
  obtain ⟨g, fd, ps, hc, hm, F, b⟩ := c.ex
  refine ⟨fun pins s σ H Q I h => ?_⟩
  refine PySem.W.methodCall_KW (pl := pl) (thn (he.run pins s σ H _ I h) fun u s1 ⟨y, H1, I1, rx, a, dx, fs, ex, ea, l, q⟩ => ?_) ht
  subst ex
  obtain rfl : u = Value.ref a := rx
  refine getmeth_ok I1 ea hc hm l (PySem.W.callWith_K0 (first := [.ref a]) I1.kIn hm.kp ?_)
  exact run_fnS (us := [.ref a]) (vs := [.ref a]) F (hr.mono hk) b (passAt tk σ) I1 (.cons rfl .nil) q
theorem pe_mkK (c : MakK X.prog X.w X.K X.mg X.base k x C ks gV sp) (hr : Room j X.A) (hk : k + 1 ≤ j) (hg : Gl X x) (hkw : PK X kws tk')
    (hall : (backToKw pos (keywordEach kws X.env)).all (·.1.isSome) = true := by rfl) (hks : (backToKw pos (keywordEach kws X.env)).filterMap (·.1) = ks := by rfl) (hdb : (x == ("__debug__" : Str)) = false := by decide)
    (hpl : ((backTo pos (starEach [] X.env)).any (·.1) || (backToKw pos (keywordEach kws X.env)).any (·.1.isNone)) = false := by rfl) : PE X (.Call (.Name x p) [] kws pos) (tMakeK C 0 ks.length sp gV E0 tNil tk') := by
  obtain ⟨f, fd, ps, g, M, F, hm, hb⟩ := c.ex
  exact pe_makeK0 M F (hr.mono hk) hg hm hb pass0 hkw hall hks hdb hpl
end
end Lp
set_option Elab.async false
set_option linter.all false
set_option maxRecDepth 100000
set_option maxHeartbeats 1000000
namespace Lp
open PySem PySem.Spec PyProof.Rows L2 GenW
/-! ### yield from a list -/
section
variable {prog : Program} {w : World} {A : Around} {E : Value → Shared → Prop} {s : Shared}
theorem special_lst_item {it l : Addr} {i : Nat} {items : Array Value} {x : Value} {Q : Option Value → Shared → Prop} (hit : s.heap.IsListIter it l i)
    (hl : s.heap.IsList l items) (hx : items[i]? = some x)
    (hQ : ∀ h', h'.IsListIter it l (i + 1) → Heap.SameBut it s.heap h' → Q (some x) { s with heap := h' }) :
    wpAny (model prog w) A (callSpecial? (.ref it) "__next__") Q E s := by
  obtain ⟨o, ho, hc, hd⟩ := id hit
  obtain ⟨ol, hol, _, nl, hdl⟩ := hl
  refine wpAny_callSpecial?_slot (name := Str.ofString "__next__") hit.typeIs slot_listiter_next (wpAny_call_entry slot_listiter_next hit.typeIs entry_listiter_next ?_ (args_listiter_next _))
  show wpAny _ _ (field (.ref it) 0 >>= _) _ _ s
  refine wpAny_bind (wpAny_field ho hd (x := .ref l) rfl ?_)
  show wpAny _ _ (if (Value.ref l == Value.none) = true then _ else _) _ _ s
  rw [if_neg (show ¬ ((Value.ref l == Value.none) = true) from Bool.false_ne_true)]
  show wpAny _ _ (field (.ref it) 1 >>= _) _ _ s
  refine wpAny_bind (wpAny_field ho hd (x := .int i 0) rfl ?_)
  show wpAny _ _ (seqItems? (.ref l) >>= _) _ _ s
  refine wpAny_bind (wpAny_seqItems hol hdl ?_)
  simp only [Int.toNat_natCast, hx]
  refine wpAny_bind (wpAny_setField ho hd (by simp) (wpAny_pure ⟨x, rfl, hQ _ ?_ (Heap.SameBut.update ..)⟩))
  exact ⟨_, Heap.get?_update_self _ ho (Obj.isFreed_of_fields (Obj.data_mapFields hd _)), (Obj.cls_mapFields ..).trans hc, by
    rw [Obj.data_mapFields hd]; simp [rawInt]⟩
theorem special_lst_end {it l : Addr} {i : Nat} {items : Array Value} {Q : Option Value → Shared → Prop} (hh : A.handled = none) (hit : s.heap.IsListIter it l i) (hl : s.heap.IsList l items) (hx : items[i]? = none)
    (hE : ∀ e h', StopX e h' → Heap.ExtBut it s.heap h' → E e { s with heap := h' }) : wpAny (model prog w) A (callSpecial? (.ref it) "__next__") Q E s := by
  obtain ⟨o, ho, hc, hd⟩ := id hit
  obtain ⟨ol, hol, _, nl, hdl⟩ := hl
  refine wpAny_callSpecial?_slot (name := Str.ofString "__next__") hit.typeIs slot_listiter_next (wpAny_call_entry slot_listiter_next hit.typeIs entry_listiter_next ?_ (args_listiter_next _))
  show wpAny _ _ (field (.ref it) 0 >>= _) _ _ s
  refine wpAny_bind (wpAny_field ho hd (x := .ref l) rfl ?_)
  show wpAny _ _ (if (Value.ref l == Value.none) = true then _ else _) _ _ s
  rw [if_neg (show ¬ ((Value.ref l == Value.none) = true) from Bool.false_ne_true)]
  show wpAny _ _ (field (.ref it) 1 >>= _) _ _ s
  refine wpAny_bind (wpAny_field ho hd (x := .int i 0) rfl ?_)
  show wpAny _ _ (seqItems? (.ref l) >>= _) _ _ s
  refine wpAny_bind (wpAny_seqItems hol hdl ?_)
  simp only [Int.toNat_natCast, hx]
  refine wpAny_bind (wpAny_rule (wpAny_bind (wpAny_setField ho hd (by simp) ?_)))
  show wpAny _ _ (newExc (.type "StopIteration") [] >>= _) _ _ _
  refine wpAny_bind ?_
  simp only [newExc, newTuple]
  refine wpAny_bind (wpAny_newObj_type ?_ (by size_fits))
  refine wpAny_bind (m := firstArgMember _ _) (wpAny_of_eq (a := Value.none) (by first | rfl | (simp only [firstArgMember]; rfl)) ?_)
  refine wpAny_newObj_type ?_ (by size_fits)
  simp only [raiseNew]
  refine wpAny_bind (wpAny_handled ?_)
  first | rw [show A.in1.handled = none from hh] | rw [hh]
  refine wpAny_bind (wpAny_pure (wpAny_throw ?_))
  refine hE _ _ ⟨_, _, _, rfl, Heap.get?_push_size _ rfl, rfl, rfl, ?_⟩ (((Heap.SameBut.update ..).extBut.push _).push _)
  first
    | rfl
    | (rw [Array.getElem?_append_left (by decide)]; rfl)
    | kernel_rfl
end
section
variable {X : Cx} {e : Expr} {te : TE}
def tYfLst (te : TE) : TYf := fun σ H Q => te σ H fun x H1 => ∃ a xs, x = .ref a ∧ H1 a = some (.lst xs) ∧ Q xs H1
theorem close_lst : typeLookup (.type "list_iterator") "close" = pure none := by rw [typeLookup_type, builtinLookup_eq_fast]; kernel_rfl
theorem yf_lst (he : PE X e te) : YfE X e (tYfLst te) := by
  refine ⟨fun pins s σ H Q I h => ?_⟩
  refine thn (he.run pins s σ H _ I h) fun v s1 ⟨x, H1, I1, r1, a, xs, ex, ha, hq⟩ => ?_
  subst ex
  obtain rfl : v = Value.ref a := r1
  obtain ⟨hlen, its, c, rits, hg⟩ := I1.hok a _ ha
  have ht : s1.heap.IsList a its.toArray := ⟨_, hg, rfl, _, rfl⟩
  refine ⟨"list", ht.typeIs, by decide, wpAny_pyIter_list ht ?_⟩
  have ksz : ∀ b o, s1.heap.get? b = some o → b ≠ s1.heap.objs.size := fun b o e => Nat.ne_of_lt (Heap.lt_size e)
  have kp : ∀ b o, s1.heap.get? b = some o → (s1.heap.push { cls := .type "list_iterator", data := .fields #[.ref a, .int 0 0] }).get? b = some o := fun b o e => Heap.get?_push_of_some _ e
  refine ⟨s1.heap.objs.size, H1, xs, fun j h => h.IsListIter s1.heap.objs.size a j ∧ h.IsList a its.toArray, rfl, I1.kept (t' := s1.toks) kp, .inr I1.sz, Nat.ne_of_gt I1.lt, fun y c hy => ?_, I1.hok.fresh (Nat.le_refl _), fun p hp => ?_,
    ⟨⟨_, Heap.get?_push_size _ rfl, rfl, rfl⟩, ⟨_, kp _ _ hg, rfl, _, rfl⟩⟩, ⟨⟨"list_iterator", fun j h q => ?_, close_lst, by decide⟩, fun j h h' q hk => ?_, fun A' j x s2 Q' E' hA hx q hQ => ?_, fun A' s2 Q' E' hA q hE => ?_⟩, hq⟩
  · obtain ⟨v, o, ho, _⟩ := I1.cell y c hy
    exact ksz c o ho
  · exact ksz p.1 _ (I1.pin p hp).1
  · obtain ⟨⟨o, ho, hc, _⟩, _⟩ := q
    exact ⟨o, ho, hc⟩
  · obtain ⟨⟨o, ho, r⟩, o2, ho2, r2⟩ := q
    exact ⟨⟨o, hk _ o (.inl rfl) ho, r⟩, o2, hk _ o2 (.inr (by rw [ha]; exact fun z => by cases z)) ho2, r2⟩
  · obtain ⟨q1, q2⟩ := q
    obtain ⟨u, hu, ru⟩ := rits.get hx
    have hne : a ≠ s1.heap.objs.size := Nat.ne_of_lt (Heap.lt_size hg)
    exact special_lst_item q1 q2 (x := u) (by simpa using hu) fun h' q1' hs => hQ u h' s2.toks ru ⟨q1', (by obtain ⟨o2, ho2, r2⟩ := q2; exact ⟨o2, hs.extBut _ _ hne ho2, r2⟩)⟩ fun b o hb eb => hs.extBut b o hb eb
  · obtain ⟨q1, q2⟩ := q
    have hnone : its.toArray[xs.length]? = none := by
      have e := rits.length
      have e2 : its[xs.length]? = none := List.getElem?_eq_none_iff.mpr (by omega)
      simpa using e2
    exact special_lst_end hA q1 q2 hnone fun e h' hS hk => hE e h' s2.toks hS fun b o hb eb => hk b o hb eb
end
/-! ### generator defs by their names -/
section
variable {P : Program} {w : World} {K : PySem.W.Frag} {mg : Str → Option Value} {base : Heap}
theorem okGen {x qual : Str} {st : Stmt} {f : Addr} {fd : FuncData} {N ps : List Str} {k : Nat} {sp : SpG} (F : Fun K x qual st f fd) (S : GScope N ps (defScope st)) (ln : ∀ vs H Q E, sp vs H Q E → vs.length = ps.length)
    (hb : ∀ (cdv : Value) (A : Around) (outer : List Env) (s : Shared) (H : Hp) (vs : List V) (Q : List V → Hp → Prop) (E : XK) (pn : List (Addr × Obj)), Room k (A.deeper (envOfC qual (defScope st) s.heap.objs.size f cdv)) → sp vs H Q E →
      ∃ t, GSs (gcxOf P w K mg base N qual (defScope st) f cdv A outer s H E pn) (defBody st) t ∧ t { nx := fun ys _ H' => Q ys H', rt := fun ys v H' => v = .non ∧ Q ys H' } [] (start N vs) H) : GFn P w K mg base (k + 1) f fd ps sp := by
  obtain ⟨oc, od, kV, doc, pm, an, cdv, ct, osl, rfl, lk, hcd⟩ := F.ex
  exact gfn_of lk hcd S ln (hb cdv)
structure Gnr (P : Program) (w : World) (K : PySem.W.Frag) (mg : Str → Option Value) (base : Heap) (k : Nat) (x : Str) (sp : SpG) : Prop where
  ex : ∃ (f : Addr) (fd : FuncData) (ps : List Str), GFn P w K mg base k f fd ps sp ∧ mg x = some (.ref f) ∧ PySem.W.keepIn K (.ref f) = true ∧ Binds K fd ps []
end
section
variable {X : Cx} {k j : Nat} {x nm : Str} {sp : SpG} {p p2 pos pos' : Pos} {e : Expr} {es : List Expr} {t : TA}
theorem noStop0 {K : PySem.W.Frag} : NoStop K E0 := fun _ _ _ h => h.elim
theorem passes0 : Passes (CX X.prog X.w) X E0 := fun pins σ H s1 e s' I h => by
  obtain ⟨a, B, H', cls, d, _, _, _, _, _, _, _, z⟩ := h
  exact z.elim
/-- list(f(e, ..)) of a generator def -/
theorem pe_lg (c : Gnr X.prog X.w X.K X.mg X.base k x sp) (hr : Room j X.A) (hk : k + 3 ≤ j) (hg : Gl X x) (ha : PA X (e :: es) t) (hg2 : Gl X nm) (hmg : X.mg nm = none) (hv : bootBuiltins nm = some (.type "list")) (hnm : nm ≠ "__name__" := by decide) (hdb2 : (nm == ("__debug__" : Str)) = false := by decide)
    (hdb : (x == ("__debug__" : Str)) = false := by decide) (he : starEach (e :: es) X.env = (false, eval e X.env) :: starEach es X.env := by rfl) (hpl : (backTo pos' (starEach es X.env)).any (·.1) = false := by rfl)
    (he2 : starEach [.Call (.Name x p2) (e :: es) [] pos'] X.env = (false, eval (.Call (.Name x p2) (e :: es) [] pos') X.env) :: starEach [] X.env := by rfl) :
    PE X (.Call (.Name nm p) [.Call (.Name x p2) (e :: es) [] pos'] [] pos) (tListG (L2.tCallG sp [] E0 t)) := by
  obtain ⟨g, fd, ps, F, hm, kp, b⟩ := c.ex
  exact pe_listG (pgen_call F (hr.mono (by omega)) hg hm kp b .nil ha hdb he hpl) passes0 noStop0 (hr.mono hk) hg2 hmg hv hnm hdb2 he2
end
end Lp
set_option Elab.async false
set_option linter.all false
set_option maxRecDepth 100000
set_option maxHeartbeats 1000000
namespace Lp
open PySem PySem.Spec PyProof.Rows L2
/-! ### isinstance of an exception that is a value, or that an outer suite holds -/
def rIsX (K : PySem.W.Frag) : List V → Hp → VK → Prop := fun xs H Q => ∃ (a D : Addr) (c : V) (cv : Value) (b : Bool), xs = [.ref a, c] ∧ H a = some (ExO (.ref D) a) ∧ ExcC K D ∧ (∀ u, RelV c u → u = cv) ∧ PySem.W.kitOne K (.ref D) cv = some b ∧ Q (.bl b) H
theorem call_isX {X : Cx} : CallR X (.builtin "isinstance") (rIsX X.K) := by
  intro pins s σ H xs us Q I r h
  obtain ⟨a, D, c, cv, b, rfl, ha, C, hcv, e, q⟩ := h
  cases r with
  | cons rx rr =>
    cases rr with
    | cons rt rr =>
      cases rr
      cases rx
      cases hcv _ rt
      obtain ⟨⟨oe, vs, hget, hz, hv, _⟩, _, _⟩ := I.hok a _ ha
      have J : PySem.W.InstAt s.heap a oe D none := by
        obtain ⟨oc, od, oda, osl⟩ := oe
        obtain ⟨h1, h2⟩ := hz
        dsimp only at h1 h2 hv
        subst h1 h2 hv
        exact ⟨hget, rfl, rfl, trivial⟩
      exact PySem.W.kia_one (PySem.W.handS_kitx_exc C.hg C.hk C.hs C.hd C.ha C.hn C.ht C.hm) I.kIn J e (fun z => nomatch z) fun tk => ⟨.bl b, H, I.kept (t' := tk) fun _ _ z => z, rfl, q⟩
def rIsP (K : PySem.W.Frag) (p : Addr × Obj) : List V → Hp → VK → Prop := fun xs H Q => ∃ (D : Addr) (c : V) (cv : Value) (b : Bool), xs = [.ref p.1, c] ∧ Zc (.ref D) none p.2 ∧ (∃ vs, p.2.data = .fields vs) ∧ ExcC K D ∧ (∀ u, RelV c u → u = cv) ∧ PySem.W.kitOne K (.ref D) cv = some b ∧ Q (.bl b) H
theorem call_isP {X : Cx} {p : Addr × Obj} (hp : p ∈ X.pn) : CallR X (.builtin "isinstance") (rIsP X.K p) := by
  intro pins s σ H xs us Q I r h
  obtain ⟨D, c, cv, b, rfl, hz, ⟨vs, hv⟩, C, hcv, e, q⟩ := h
  cases r with
  | cons rx rr =>
    cases rr with
    | cons rt rr =>
      cases rr
      cases rx
      cases hcv _ rt
      have hget := (I.pin p (List.mem_append_left _ hp)).1
      obtain ⟨a, oe⟩ := p
      have J : PySem.W.InstAt s.heap a oe D none := by
        obtain ⟨oc, od, oda, osl⟩ := oe
        obtain ⟨h1, h2⟩ := hz
        dsimp only at h1 h2 hv
        subst h1 h2 hv
        exact ⟨hget, rfl, rfl, trivial⟩
      exact PySem.W.kia_one (PySem.W.handS_kitx_exc C.hg C.hk C.hs C.hd C.ha C.hn C.ht C.hm) I.kIn J e (fun z => nomatch z) fun tk => ⟨.bl b, H, I.kept (t' := tk) fun _ _ z => z, rfl, q⟩
/-! ### defs that are given the exception that is held -/
structure FnE (P : Program) (w : World) (K : PySem.W.Frag) (mg : Str → Option Value) (base : Heap) (k : Nat) (f : Addr) (fd : FuncData) (ps : List Str) (sp : Addr × Obj → Sp) : Prop where
  len : ∀ p vs H Q E, sp p vs H Q E → vs.length = ps.length
  run : ∀ (p : Addr × Obj) (A : Around) (out : List Env) (s : Shared) (H : Hp) (ar : Args) (us : List Value) (vs : List V) (Q : VK) (E : XK), L2H.RoomH k A → L2H.PinOk out H s p → Env0 P w K mg base A out s H →
    BindsTo s fd ar (ps.zip us) → Vals vs us → sp p vs H Q E → codeAny (model P w) A (.call (.ref f) ar) (CR CX0 out P w H s Q E) s
section
variable {P : Program} {w : World} {K : PySem.W.Frag} {mg : Str → Option Value} {base : Heap}
theorem okE {x qual : Str} {st : Stmt} {f : Addr} {fd : FuncData} {N ps : List Str} {k : Nat} {sp : Addr × Obj → Sp} (F : Fun K x qual st f fd) (S : FnScope N ps (defScope st)) (ln : ∀ p vs H Q E, sp p vs H Q E → vs.length = ps.length)
    (hb : ∀ (cdv : Value) (p : Addr × Obj) (A : Around) (out : List Env) (s : Shared) (H : Hp) (vs : List V) (Q : VK) (E : XK), L2H.RoomH k (A.deeper (envOfC qual (defScope st) s.heap.objs.size f cdv)) → sp p vs H Q E →
      ∃ t, PSs (L2H.cxH CX0 P w K mg base N qual (defScope st) f cdv A out s H E p) (defBody st) t ∧ t { nx := fun _ H' => Q .non H', rt := Q } (start N vs) H) : FnE P w K mg base (k + 1) f fd ps sp := by
  obtain ⟨oc, od, kV, doc, pm, an, cdv, ct, osl, rfl, lk, hcd⟩ := F.ex
  refine ⟨ln, fun p A out s H ar us vs Q E room hpin en bd rv hs => ?_⟩
  have KX : K.In s.heap := en.mod.kin.keeps fun b o e => (en.bs b o e).1
  have nl : s.heap.NoLimit := en.mod.nolimit.keeps fun b o e => (en.bs b o e).1
  have kd : ∀ y ∈ ps.zip us, (defScope st).names.lookup y.1 = some .local ∨ ((defScope st).names.lookup y.1 = some .cell ∧ ((cellsFrom (s.heap.objs.size + 1) (defScope st).names []).lookup y.1).isSome = true) := by
    rintro ⟨n, v⟩ hy
    have hm := (List.of_mem_zip hy).1
    exact (S.par n hm).elim (fun q => .inl q) fun q => .inr ⟨q, PySem.W.cellsFrom_some _ _ _ (.inl q)⟩
  refine codeAny_call_function room.depth (KX _ _ lk) rfl S.co S.gen rfl (PySem.W.codeRec_of KX hcd) (bd _ _ _ _ ?_)
  refine wpAny_newFunctionEnv_cells S.kind kd fun e1 he s1 x => ?_
  subst he
  refine ⟨nl.keeps x.toInCall.keep, codeAny_func ?_⟩
  obtain ⟨t, ht, hq⟩ := hb cdv p A out s H vs Q E (room.deeper _) hs
  have J0 : Inv (L2H.cxH CX0 P w K mg base N qual (defScope st) f cdv A out s H E p) [] (start N vs) H s1 := L2H.inv_startH S hpin en (ln _ _ _ _ _ hs) rv x
  refine wpAny_mono (ht.run [] s1 (start N vs) H _ J0 hq) (fun fl s' h3 => ?_) fun _ _ h3 => h3
  cases fl with
  | ret u => exact let ⟨v, _, H', J, r2, q⟩ := h3; ⟨v, H', J.os, J.bare, J.base, J.hok, r2, q⟩
  | next => exact let ⟨_, H', J, q⟩ := h3; ⟨.non, H', J.os, J.bare, J.base, J.hok, rfl, q⟩
  | brk => exact (let ⟨_, _, _, q⟩ := h3; q : False).elim
  | cont => exact (let ⟨_, _, _, q⟩ := h3; q : False).elim
structure CalE (P : Program) (w : World) (K : PySem.W.Frag) (mg : Str → Option Value) (base : Heap) (k : Nat) (x : Str) (sp : Addr × Obj → Sp) : Prop where
  ex : ∃ (f : Addr) (fd : FuncData) (ps : List Str), FnE P w K mg base k f fd ps sp ∧ mg x = some (.ref f) ∧ PySem.W.keepIn K (.ref f) = true ∧ Binds K fd ps []
structure CalX (P : Program) (w : World) (K : PySem.W.Frag) (mg : Str → Option Value) (base : Heap) (k : Nat) (x : Str) (sp : Sp) : Prop where
  ex : ∃ (f : Addr) (fd : FuncData) (ps : List Str), FnOk P w K mg base (L2.CX P w) k f fd ps sp ∧ mg x = some (.ref f) ∧ PySem.W.keepIn K (.ref f) = true ∧ Binds K fd ps []
end
section
variable {X : Cx} {k j : Nat} {x : Str} {p pos : Pos} {e : Expr} {es : List Expr} {t : TA}
def tCe (sp : Addr × Obj → Sp) (pr : Addr × Obj) (t : TA) : TE := fun σ H Q => t σ H fun vs H1 => sp pr vs H1 Q E0
theorem pe_ce {sp : Addr × Obj → Sp} {pr : Addr × Obj} (c : CalE X.prog X.w X.K X.mg X.base k x sp) (hr : L2H.RoomH k X.A) (hp : pr ∈ X.pn) (hg : Gl X x) (ha : PA X (e :: es) t)
    (hdb : (x == ("__debug__" : Str)) = false := by decide) (he : starEach (e :: es) X.env = (false, eval e X.env) :: starEach es X.env := by rfl) (hpl : (backTo pos (starEach es X.env)).any (·.1) = false := by rfl) :
    PE X (.Call (.Name x p) (e :: es) [] pos) (tCe sp pr t) := by
  obtain ⟨f, fd, ps, F, hm, kp, hb⟩ := c.ex
  refine ⟨fun pins s σ H Q I h => ?_⟩
  refine wpAny_Call_Name_kw (ld_glob I hg hm ?_ hdb)
  refine PySem.W.callWith_K (h₀ := X.base) I.ok.mod.kin kp (thn (ha.run pos pins s σ H _ I h) fun us s1 ⟨vs, H1, I1, r, q⟩ => ⟨I1.kIn, ?_⟩) he hpl
  have hl : us.length = ps.length := by rw [← r.length]; exact F.len _ _ _ _ _ q
  have b := hb s1 us I1.kIn (by rw [List.append_nil]; exact hl)
  rw [List.append_nil] at b
  have P1 := I1.pin pr (List.mem_append_left _ hp)
  have hpin : L2H.PinOk X.stack H1 s1 pr := ⟨P1.1, P1.2.1, fun hm => (List.mem_cons.mp (I1.stkSub pr.1 hm)).elim P1.2.2.1 P1.2.2.2.1, P1.2.2.2.2⟩
  refine wpAny_call (codeAny_mono (F.run pr X.A X.stack s1 H1 ⟨us, []⟩ us vs Q E0 hr hpin I1.env0 b r q) fun r s' hq => ?_)
  cases r with
  | error e => exact pass0 pins σ H1 s1 e s' I1 hq
  | ok fl =>
    cases fl with
    | ret u => exact I1.after hq
    | next => exact False.elim hq
    | brk => exact False.elim hq
    | cont => exact False.elim hq
def tCx (sp : Sp) (W : WX) (t : TA) : TE := fun σ H Q => t σ H fun vs H1 => sp vs H1 Q (WE W σ)
theorem pe_cx {sp : Sp} {W : WX} (c : CalX X.prog X.w X.K X.mg X.base k x sp) (hr : Room j X.A) (hk : k ≤ j) (tk : Takes X W) (hg : Gl X x) (ha : PA X (e :: es) t)
    (hdb : (x == ("__debug__" : Str)) = false := by decide) (he : starEach (e :: es) X.env = (false, eval e X.env) :: starEach es X.env := by rfl) (hpl : (backTo pos (starEach es X.env)).any (·.1) = false := by rfl) :
    PE X (.Call (.Name x p) (e :: es) [] pos) (tCx sp W t) := by
  obtain ⟨f, fd, ps, F, hm, kp, hb⟩ := c.ex
  refine ⟨fun pins s σ H Q I h => ?_⟩
  refine wpAny_Call_Name_kw (ld_glob I hg hm ?_ hdb)
  refine PySem.W.callWith_K (h₀ := X.base) I.ok.mod.kin kp (thn (ha.run pos pins s σ H _ I h) fun us s1 ⟨vs, H1, I1, r, q⟩ => ⟨I1.kIn, ?_⟩) he hpl
  exact run_fnS F (hr.mono hk) hb (passAt tk σ) I1 r q
end
/-! ### != of two built-in types -/
section
variable {M : Model} {A : Around} {E : Value → Shared → Prop} {s : Shared}
theorem richNe_decline {a b : Value} {T id : String} {k : Bool} {Q : Value → Shared → Prop} (ha : ∀ s' : Shared, s'.TypeIs a T) (hb : ∀ s' : Shared, s'.TypeIs b T)
    (h1 : Slot T (cmpInfo .NotEq).2.1 id) (h2 : Slot T (cmpInfo .NotEq).2.2 id) (hv : [a, b].any Value.onHeap = false) (hk : isSame a b = pure k)
    (hc : wpAny M A (call (.builtin id) [a, b]) (fun v s₁ => v = .notImplemented ∧ wpAny M A (call (.builtin id) [b, a]) (fun v s₂ => v = .notImplemented ∧ Q (.bool !k) s₂) E s₁) E s) :
    wpAny M A (richCompare .NotEq a b) Q E s := by
  rcases hi : cmpInfo CmpOp.NotEq with ⟨sym, f, r⟩
  rw [hi] at h1 h2
  simp only [richCompare, hi, (ha s).oneThing_none]
  try with_reducible refine wpAny_holding ?_
  refine wpAny_bind (wpAny_cRoomFor_or (.inl hv) ?_)
  refine wpAny_bind (wpAny_typeOf (ha s) (wpAny_bind (wpAny_typeOf (hb s) ?_)))
  simp only [bne_self_eq_false, Bool.false_eq_true, if_false, pure_bind, Bool.not_false, if_true]
  refine wpAny_bind (m := tryCompare a _ b) (wpAny_tryCompare_declines (ha s) h1 (wpAny_mono hc (fun v s₁ h₁ => ⟨h₁.1, ?_⟩) fun _ _ x => x))
  refine wpAny_bind (m := tryCompare b _ a) (wpAny_tryCompare_declines (hb s₁) h2 (wpAny_mono h₁.2 (fun v s₂ h₂ => ⟨h₂.1, ?_⟩) fun _ _ x => x))
  first
    | exact wpAny_bind (wpAny_rule (wpAny_bind (wpAny_of_eq hk (wpAny_pure h₂.2))))
    | exact wpAny_bind (wpAny_of_eq hk (wpAny_pure h₂.2))
end
section
variable {prog : Program} {w : World} {A : Around} {E : Value → Shared → Prop} {s : Shared} {Q : Value → Shared → Prop}
theorem slot_type_ne2 : Slot "type" (cmpInfo .NotEq).2.2 "object.__ne__" := slot_type_ne
theorem call_object_ne {X Y : String} (hX : ∀ s' : Shared, s'.TypeIs (.type X) "type") (hne : (Value.type X == Value.type Y) = false) (h : Q .notImplemented s) : wpAny (model prog w) A (call (.builtin "object.__ne__") [.type X, .type Y]) Q E s := by
  refine wpAny_call_entry slot_type_ne (hX s) F.entry_object_ne ?_ (F.args_object_ne_2 _ _)
  unfold Builtin.«object.__ne__»
  refine wpAny_bind (m := slotArgs "__ne__" 1 _) (wpAny_of_eq (a := ((Value.type X : Value), [Value.type Y])) (by first | rfl | (simp only [slotArgs]; rfl)) ?_)
  refine wpAny_bind (wpAny_cRoomFor_or (.inl rfl) ?_)
  refine wpAny_bind (m := callSpecialIfBound? (.type X) (Str.ofString "__eq__") [.type Y]) (wpAny_callSpecialIfBound?_slot (hX s) PySem.TypeEq.slot_type_eq
    (call_gives PySem.TypeEq.slot_type_eq (hX s) F.entry_object_eq (F.args_object_eq_2 _ _) (PySem.TypeEq.object_eq_other rfl hne) ?_))
  first
    | exact wpAny_pure ⟨_, rfl, h⟩
    | exact wpAny_pure h
    | exact wpAny_pure ⟨_, rfl, rfl, h⟩
theorem ne_type_other {X Y : String} (hX : ∀ s' : Shared, s'.TypeIs (.type X) "type") (hY : ∀ s' : Shared, s'.TypeIs (.type Y) "type") (hne : (Value.type X == Value.type Y) = false) (hne' : (Value.type Y == Value.type X) = false) (h : Q (.bool true) s) : wpAny (model prog w) A (compareOp .NotEq (.type X) (.type Y)) Q E s := by
  show wpAny _ A (richCompare .NotEq _ _) Q E s
  exact richNe_decline (T := "type") (k := false) hX hY slot_type_ne slot_type_ne2 rfl (by rw [isSame_plain rfl, hne]) (call_object_ne hX hne ⟨rfl, call_object_ne hY hne' ⟨rfl, h⟩⟩)
end
def rNeTyG : R2 := fun x y H Q => (∃ a, x = .ty a ∧ y = .ty a ∧ (∀ s' : Shared, s'.TypeIs (.type a) "type") ∧ Q (.bl false) H) ∨ ∃ a b, x = .ty a ∧ y = .ty b ∧ (∀ s' : Shared, s'.TypeIs (.type a) "type") ∧ (∀ s' : Shared, s'.TypeIs (.type b) "type") ∧ (Value.type a == Value.type b) = false ∧ (Value.type b == Value.type a) = false ∧ Q (.bl true) H
theorem op_neTyG {X : Cx} : OpR X (compareOp .NotEq) rNeTyG := by
  intro pins s σ H x y v u Q I rx ry h
  rcases h with ⟨a, rfl, rfl, ha, q⟩ | ⟨a, b, rfl, rfl, ha, hb, n1, n2, q⟩
  · cases (show v = Value.type a from rx)
    cases (show u = Value.type a from ry)
    exact ne_type_same ha ⟨.bl false, H, I, rfl, q⟩
  · cases (show v = Value.type a from rx)
    cases (show u = Value.type b from ry)
    exact ne_type_other ha hb n1 n2 ⟨.bl true, H, I, rfl, q⟩
/-! ### xs[i] op= e; one sign * n -/
def rGetL (K : PySem.W.Frag) : V → V → Hp → VK → Prop := fun o i H Q => ∃ p xs j v, o = .ref p ∧ i = .int j ∧ SqL K H p xs ∧ 0 ≤ j ∧ atI xs j = some v ∧ Q v H
theorem get_list {X : Cx} : PGet X (rGetL X.K) := by
  intro pins s σ H o i ov iv Q I ro ri h
  obtain ⟨p, xs, k, z, rfl, rfl, hq, h0, he, q⟩ := h
  cases ro
  obtain ⟨t, rfl⟩ := ri
  obtain ⟨its, r, pl, hz⟩ := I.list hq
  obtain ⟨j, h1, h2, h3, h4, h5⟩ := atI_get he
  obtain ⟨w, ew, rw'⟩ := r.get h2
  have hj : k.toNat = j := by
    rw [seqIndex_of h0 h5] at h1
    exact Option.some.inj h1
  have hl := r.length
  have hn := line63
  exact wpAny_getItem_list pl.isList h0 (by omega) (by rw [hj]; simpa using ew) ⟨z, H, I, rw', q⟩
theorem op_repA {X : Cx} : OpR X (binaryOp .Mult) (fun x y H Q => ∃ (z : Str) (n : Nat), x = .str z ∧ y = .int (n : Int) ∧ z.length = 1 ∧ n ≤ 1000 ∧ ∀ y, Q (.str y) H) := by
  intro pins s σ H x y v u Q I r1 r2 h
  obtain ⟨z, n, e1, e2, hz, hn, q⟩ := h
  subst e1; subst e2
  obtain ⟨t, rfl⟩ := r1
  obtain ⟨t', rfl⟩ := r2
  refine PySem.P.mul_str ?_ (fun c _ => ?_) (fun _ _ => ?_) ?_
  · rw [decide_eq_false (show ¬ (n : Int) < -(2 ^ 63 : Int) by omega), decide_eq_false (show ¬ (n : Int) ≥ 2 ^ 63 by omega)]
    rfl
  · rw [hz]
    have := (Int.le_ediv_iff_mul_le (show (0 : Int) < n by omega)).mpr (show ((1 : Nat) : Int) * (n : Int) ≤ 2 ^ 63 - 1 by omega)
    omega
  · rw [hz]
    unfold Builtin.Str.tooLong
    refine decide_eq_false ?_
    have e : (n : Int).toNat = n := rfl
    have z := zs (show n ≤ 100000 by omega)
    omega
  · by_cases h0 : n = 0
    · subst h0
      rw [if_pos (by decide)]
      exact ⟨by decide, .str _, H, I.tok _, ⟨_, rfl⟩, q _⟩
    · rw [if_neg (show ¬ (n : Int) < 1 by omega), hz]
      by_cases h1 : n = 1
      · subst h1
        rw [if_pos (by rfl)]
        exact ⟨.str _, H, I, ⟨_, rfl⟩, q _⟩
      · have hb : ((n : Int) == 1 || (1 : Nat) == 0) = false := by
          rw [beq_eq_false_iff_ne.mpr (show (n : Int) ≠ 1 by omega)]
          rfl
        rw [hb, if_neg Bool.false_ne_true]
        refine ⟨?_, .str _, H, I.tok _, ⟨_, rfl⟩, q _⟩
        have f0 := foldl_repN z.cps.toList n []
        rw [List.nil_append] at f0
        have e : (n : Int).toNat = n := rfl
        have e3 : z.cps = z.cps.toList.toArray := rfl
        rw [e]
        have f1 : List.foldl (fun x1 x2 => x1 ++ x2) #[] (List.replicate n z.cps) = ((List.replicate n z.cps.toList).flatten).toArray := f0
        show (List.foldl (fun (x1 x2 : Array Nat) => x1 ++ x2) #[] (List.replicate n z.cps)).size ≤ _
        rw [f1, List.size_toArray]
        have : ∀ m : Nat, ((List.replicate m z.cps.toList).flatten).length = m := fun m => by
          induction m with
          | zero => rfl
          | succ m ih =>
            rw [List.replicate_succ, List.flatten_cons, List.length_append, ih]
            have : z.cps.toList.length = 1 := hz
            omega
        rw [this]
        exact zs (by omega)
end Lp
set_option Elab.async false
set_option linter.all false
set_option maxRecDepth 100000
set_option maxHeartbeats 1000000
namespace Lp
open PySem PySem.Spec PyProof.Rows L2
/-! ### len(x), y in x: by a method of an own class -/
section
variable {X : Cx} {k j : Nat} {C : Addr} {sp : Sp}
theorem inst_of {pins : List (Addr × Obj)} {σ : L2.St} {H : Hp} {s : Shared} {a dx : Addr} {fs : List (Str × V)} (I : Inv X pins σ H s) (e : H a = some (.ins C dx fs)) : ∃ ox od, PySem.W.InstAt s.heap a ox C od := by
  obtain ⟨mA, O, _⟩ := ins_get I.hok e
  obtain ⟨od, J, _⟩ := O.look
  exact ⟨_, _, J⟩
/-- a call of a method's def, wherever the machine stands -/
theorem run_at {A : Around} {pins : List (Addr × Obj)} {σ : L2.St} {H : Hp} {s : Shared} {f : Addr} {fd : FuncData} {ps : List Str} {us : List Value} {vs : List V} {Q : VK} {E1 : Value → Shared → Prop} (F : FnOk X.prog X.w X.K X.mg X.base CX0 k f fd ps sp) (hr : Room k A) (b : Binds X.K fd ps []) (I : Inv X pins σ H s) (en : Env0 X.prog X.w X.K X.mg X.base A X.stack s H)
    (r : Vals vs us) (q : sp vs H Q E0) : wpAny (model X.prog X.w) A (call (.ref f) us) (EP X pins σ Q) E1 s := by
  have hl : us.length = ps.length := by rw [← r.length]; exact F.len _ _ _ _ q
  have bd := b s us I.kIn (by rw [List.append_nil]; exact hl)
  rw [List.append_nil] at bd
  refine wpAny_call (codeAny_mono (F.run A X.stack s H ⟨us, []⟩ us vs Q E0 hr en bd r q) fun r s' hq => ?_)
  cases r with
  | error e => exact hq.elim
  | ok fl =>
    cases fl with
    | ret u => exact I.after hq
    | next => exact False.elim hq
    | brk => exact False.elim hq
    | cont => exact False.elim hq
def rLenO (C : Addr) (sp : Sp) : List V → Hp → VK → Prop := fun xs H Q => ∃ (a dx : Addr) (fs : List (Str × V)), xs = [.ref a] ∧ H a = some (.ins C dx fs) ∧ sp [.ref a] H (fun v H' => ∃ n : Int, v = .int n ∧ 0 ≤ n ∧ n < 2 ^ 63 ∧ Q (.int n) H') E0
theorem call_lenO (c : Met X.prog X.w X.K X.mg X.base k C "__len__" sp) (hr : Room j X.A) (hk : k + 1 ≤ j) : CallR X (.builtin "len") (rLenO C sp) := by
  intro pins s σ H xs us Q I r h
  obtain ⟨a, dx, fs, rfl, ha, q⟩ := h
  obtain ⟨f, fd, ps, hc, hm, F, b⟩ := c.ex
  obtain ⟨u, rfl, ru⟩ := vals1 r
  cases (show u = Value.ref a from ru)
  obtain ⟨ox, od, J⟩ := inst_of I ha
  refine Calls.call_function_entry PySem.kind_len PySem.plain_len PySem.entry_len (PySem.args_len1 _) ?_
  unfold Builtin.«len»
  refine wpAny_bind (m := oneArg "len" _) (wpAny_pure ?_)
  refine wpAny_bind (m := callSpecial? (.ref a) (Str.ofString "__len__")) (PySem.W.special_fn I.kIn J hm.at_ (beq_iff_eq.mp hm.fn) (wpAny_mono (run_at (A := X.A.in1) (vs := [.ref a]) F (hr.mono hk).in1 b I I.env0.in1 (.cons rfl .nil) q) (fun v s' hv => ?_) fun _ _ z => z))
  obtain ⟨v, H', I', rv, n, rfl, h0, h1, hq⟩ := hv
  obtain ⟨t, rfl⟩ := rv
  refine wpAny_bind (wpAny_holding (wpAny_pure ?_))
  refine wpAny_bind (wpAny_letGo ?_)
  show wpAny _ _ (if n < 0 then _ else _) _ _ _
  rw [if_neg (by omega)]
  show wpAny _ _ (if n ≥ 2 ^ 63 then _ else _) _ _ _
  rw [if_neg (by omega)]
  exact wpAny_bind (wpAny_mkInt (wpAny_pure ⟨_, rfl, .int n, H', I'.tok _, ⟨_, rfl⟩, hq⟩))
def tInO (C : Addr) (sp : Sp) (ty td : TE) (neg : Bool) : TE := fun σ H Q => ty σ H fun y H1 => td σ H1 fun x H2 => ∃ (a dx : Addr) (fs : List (Str × V)), x = .ref a ∧ H2 a = some (.ins C dx fs) ∧ sp [.ref a, y] H2 (fun v H' => ∃ b : Bool, v = .bl b ∧ Q (.bl (if neg then !b else b)) H') E0
theorem pc_inO {i o : Expr} {ty td : TE} (c : Met X.prog X.w X.K X.mg X.base k C "__contains__" sp) (hr : Room j X.A) (hk : k ≤ j) (hi : PE X i ty) (ho : PE X o td) : PC X .In i o (tInO C sp ty td false) := by
  obtain ⟨f, fd, ps, hc, hm, F, b⟩ := c.ex
  refine ⟨fun pins s σ H Q I h => ?_⟩
  refine thn (hi.run pins s σ H _ I h) fun iv s1 ⟨y, H1, I1, ry, q1⟩ => thn (ho.run pins s1 σ H1 _ I1 q1) fun u s2 ⟨x, H2, I2, rx, a, dx, fs, ex, ea, q2⟩ => ?_
  subst ex
  cases (show u = Value.ref a from rx)
  obtain ⟨ox, od, J⟩ := inst_of I2 ea
  refine wpAny_bind ?_
  unfold contains
  refine wpAny_holding (wpAny_bind (wpAny_bind (J.type.here ((PySem.W.looks_findIn I2.kIn hm.at_).here ?_))))
  rw [if_neg (by simp)]
  refine wpAny_bind (PySem.W.unlessNone_K I2.kIn J hm.at_ hm.fn (wpAny_mono (run_at (vs := [.ref a, y]) F (hr.mono hk) b I2 I2.env0 (.cons rfl (.cons ry .nil)) q2) (fun v s' hv => ?_) fun _ _ z => z))
  obtain ⟨v, H', I', rv, b', rfl, hq⟩ := hv
  cases rv
  refine wpAny_of_eq (a := b') (by first | rfl | simp [truthy]) ?_
  exact wpAny_pure ⟨.bl b', H', I', rfl, hq⟩
end
end Lp
namespace Lp
open PySem PySem.Spec PyProof.Rows L2
/-! ### a + b of two instances, by __add__ -/
theorem binop_own {prog : Program} {w : World} {A : Around} {E : Value → Shared → Prop} {s : Shared} {K : PySem.W.Frag} {x C f : Addr} {ox : Obj} {od : Option Obj} {op : Operator} {b : Value} {Q : Value → Shared → Prop} (kin : K.In s.heap) (J : PySem.W.InstAt s.heap x ox C od) (tb : PySem.W.Looks (model prog w) s.heap (typeOf b) (.ref C)) (sf : PySem.W.selfFirst K C = true)
    (at_ : PySem.W.findIn K (.ref C) (PySem.dunder op.info.2) = some (some (.ref f))) (isf : PySem.W.isFn K (.ref f) = true) (go : wpAny (model prog w) A (call (.ref f) [.ref x, b]) (fun v s' => v ≠ .notImplemented ∧ Q v s') E s) : wpAny (model prog w) A (binaryOp op (.ref x) b) Q E s := by
  obtain ⟨cd, e1, e2⟩ := PySem.W.any_some sf
  have e3 : ∃ rest, cd.mro = .ref C :: rest := by
    cases hq : cd.mro with
    | nil =>
      rw [hq] at e2
      cases e2
    | cons u r =>
      rw [hq, List.head?_cons] at e2
      cases (beq_iff_eq.mp e2)
      exact ⟨r, rfl⟩
  obtain ⟨rest, e3⟩ := e3
  unfold binaryOp
  refine wpAny_holding (wpAny_bind ?_)
  unfold binaryOp1
  refine wpAny_bind (J.type.here (wpAny_bind (tb.here (wpAny_bind ((PySem.W.fills_K kin e1 e3 at_).here ?_)))))
  simp only [beq_self_eq_true, if_true]
  refine wpAny_bind (wpAny_pure ?_)
  simp only [Bool.and_false, Bool.false_eq_true, if_false, Bool.false_and]
  refine wpAny_bind (wpAny_pure ?_)
  simp only [Bool.false_eq_true, if_false]
  refine wpAny_bind (m := tryMethod (.ref x) _ b) ?_
  unfold tryMethod
  refine wpAny_bind (PySem.W.special_fn kin J at_ (beq_iff_eq.mp isf) (wpAny_mono go (fun v s' hv => ?_) fun _ _ z => z))
  obtain ⟨nv, hv⟩ := hv
  cases v <;> first | exact absurd rfl nv | exact wpAny_pure (wpAny_pure (wpAny_pure hv))
section
variable {X : Cx} {k j : Nat} {C : Addr} {sp : Sp}
theorem relV_ni {v : V} {u : Value} (r : RelV v u) : u ≠ .notImplemented := by
  intro e
  subst e
  cases v <;> first | (obtain ⟨_, h⟩ := r; cases h) | cases r | (exact nomatch r)
def rAddO (C : Addr) (sp : Sp) : R2 := fun x y H Q => ∃ (a b dx dy : Addr) (fs gs : List (Str × V)), x = .ref a ∧ y = .ref b ∧ H a = some (.ins C dx fs) ∧ H b = some (.ins C dy gs) ∧ sp [.ref a, .ref b] H Q E0
theorem op_addO (c : Met X.prog X.w X.K X.mg X.base k C "__add__" sp) (hr : Room j X.A) (hk : k ≤ j) (sf : PySem.W.selfFirst X.K C = true) : OpR X (binaryOp .Add) (rAddO C sp) := by
  intro pins s σ H x y v u Q I rx ry h
  obtain ⟨a, b, dx, dy, fs, gs, rfl, rfl, ha, hb, q⟩ := h
  obtain ⟨f, fd, ps, hc, hm, F, bd⟩ := c.ex
  cases (show v = Value.ref a from rx)
  cases (show u = Value.ref b from ry)
  obtain ⟨ox, od, J⟩ := inst_of I ha
  obtain ⟨ox2, od2, J2⟩ := inst_of I hb
  refine binop_own I.kIn J J2.type sf hm.at_ hm.fn (wpAny_mono (run_at (vs := [.ref a, .ref b]) F (hr.mono hk) bd I I.env0 (.cons rfl (.cons rfl .nil)) q) (fun w s' hw => ?_) fun _ _ z => z)
  exact ⟨by obtain ⟨z, _, _, r, _⟩ := hw; exact relV_ni r, hw⟩
end
end Lp
namespace Lp
open PySem PySem.Spec PyProof.Rows L2
/-! ### a == b of two instances, by __eq__ -/
theorem eq_own {prog : Program} {w : World} {A : Around} {E : Value → Shared → Prop} {s : Shared} {K : PySem.W.Frag} {x C f : Addr} {ox : Obj} {od : Option Obj} {op : CmpOp} {b tb : Value} {Q : Value → Shared → Prop} (hu : A.units < cLine) (kin : K.In s.heap) (J : PySem.W.InstAt s.heap x ox C od) (tyb : PySem.W.Looks (model prog w) s.heap (typeOf b) tb)
    (nf : PySem.W.notFirst K C tb = true) (at_ : PySem.W.findIn K (.ref C) (cmpInfo op).2.1 = some (some (.ref f))) (isf : PySem.W.isFn K (.ref f) = true) (go : wpAny (model prog w) A (call (.ref f) [.ref x, b]) (fun v s' => v ≠ .notImplemented ∧ Q v s') E s) : wpAny (model prog w) A (richCompare op (.ref x) b) Q E s := by
  have mine : wpAny (model prog w) A (tryCompare (.ref x) (cmpInfo op).2.1 b) (fun r s' => ∃ v, r = some v ∧ Q v s') E s := by
    unfold tryCompare
    refine wpAny_bind (PySem.W.ifBound_K kin J at_ isf (wpAny_mono go (fun v s' hv => ?_) fun _ _ z => z))
    obtain ⟨nv, hv⟩ := hv
    cases v <;> first | exact absurd rfl nv | exact wpAny_pure ⟨_, rfl, hv⟩
  have last : ∀ {g : Option Value → Sem Value}, (∀ v, g (some v) = pure v) → wpAny (model prog w) A (tryCompare (.ref x) (cmpInfo op).2.1 b >>= g) Q E s := fun {g} hg => wpAny_bind (wpAny_mono mine (fun r s' ⟨v, er, hq⟩ => by rw [er, hg]; exact wpAny_pure hq) fun _ _ z => z)
  unfold richCompare
  simp only [oneThing_ref]
  refine wpAny_holding (wpAny_bind (wpAny_cRoomFor hu ?_))
  refine wpAny_bind (J.type.here (wpAny_bind (tyb.here ?_)))
  split
  · rename_i q
    have sb : PySem.W.subIn K tb (.ref C) = some false := by
      rcases Bool.or_eq_true_iff.mp nf with z | z
      · rw [beq_iff_eq.mp z] at q
        simp at q
      · exact beq_iff_eq.mp z
    refine wpAny_bind ((PySem.W.looks_subIn kin sb).here ?_)
    simp only [Bool.false_eq_true, if_false]
    exact last fun v => rfl
  · refine wpAny_bind (wpAny_pure ?_)
    simp only [Bool.false_eq_true, if_false]
    exact last fun v => rfl
section
variable {X : Cx} {k j : Nat} {C : Addr} {sp : Sp}
theorem op_eqO (c : Met X.prog X.w X.K X.mg X.base k C "__eq__" sp) (hr : Room j X.A) (hk : k ≤ j) (nf : PySem.W.notFirst X.K C (.ref C) = true) : OpR X (compareOp .Eq) (rAddO C sp) := by
  intro pins s σ H x y v u Q I rx ry h
  obtain ⟨a, b, dx, dy, fs, gs, rfl, rfl, ha, hb, q⟩ := h
  obtain ⟨f, fd, ps, hc, hm, F, bd⟩ := c.ex
  cases (show v = Value.ref a from rx)
  cases (show u = Value.ref b from ry)
  obtain ⟨ox, od, J⟩ := inst_of I ha
  obtain ⟨ox2, od2, J2⟩ := inst_of I hb
  have hu : X.A.units < cLine := by have := hr.units; omega
  show wpAny _ X.A (richCompare .Eq _ _) _ _ s
  refine eq_own (op := .Eq) hu I.kIn J J2.type nf hm.at_ hm.fn (wpAny_mono (run_at (vs := [.ref a, .ref b]) F (hr.mono hk) bd I I.env0 (.cons rfl (.cons rfl .nil)) q) (fun w s' hw => ?_) fun _ _ z => z)
  exact ⟨by obtain ⟨z, _, _, r, _⟩ := hw; exact relV_ni r, hw⟩
end
end Lp
set_option Elab.async false
set_option linter.all false
set_option maxRecDepth 100000
set_option maxHeartbeats 1000000
namespace Lp
open PySem PySem.Spec PyProof.Rows L2
/-! ### x(e, ..) of an instance, by __call__ -/
theorem inst_plain {X : Cx} {C : Addr} {pins : List (Addr × Obj)} {σ : L2.St} {H : Hp} {s : Shared} {a dx : Addr} {fs : List (Str × V)} (I : Inv X pins σ H s) (e : H a = some (.ins C dx fs)) : ∃ ox od, PySem.W.InstAt s.heap a ox C od ∧ ox.data = .plain := by
  obtain ⟨mA, O, _⟩ := ins_get I.hok e
  obtain ⟨od, J, _⟩ := O.look
  exact ⟨_, _, J, rfl⟩
theorem callWith_obj {M : Model} {A : Around} {E : Value → Shared → Prop} {s : Shared} {pos : Pos} {x : Addr} {first : List Value} {Q : Value → Shared → Prop} {args : List (Bool × Sem Value)} {kws : List (Option Str × Sem Value)} (hp : (args.any (·.1) || kws.any (·.1.isNone)) = false)
    (h : wpAny M A (evalArgs (.ref x) true args kws) (fun a s₁ => (∃ C ox od, PySem.W.InstAt s₁.heap x ox C od ∧ ox.data = .plain) ∧ wpAny M A (call (.ref x) (first ++ a.pos) a.kw) Q E s₁) E s) : wpAny M A (callWith pos (.ref x) first args kws) Q E s := by
  unfold callWith
  refine wpAny_bind (wpAny_holding (wpAny_mono h (fun a s₁ ⟨⟨C, ox, od, J, hd⟩, hq⟩ => wpAny_bind (wpAny_standAt ?_)) fun _ _ z => z))
  have kl := PySem.W.kco_keeper (M := M) J hd
  simp only [hp]
  refine wpAny_bind (kl.here ?_)
  have tl : ∀ {t : Sem Value}, wpAny M A t Q E s₁ → wpAny M A (t >>= fun r => holding [r] point >>= fun _ => pure r) Q E s₁ :=
    fun ht => wpAny_bind (wpAny_mono ht (fun r s₂ hr => wpAny_bind (wpAny_holding (wpAny_point (wpAny_pure hr)))) fun _ _ z => z)
  exact tl (wpAny_operateT hq)
section
variable {X : Cx} {k j i : Nat} {C : Addr} {sp : Sp} {x : Str} {p pos : Pos} {e : Expr} {es : List Expr} {t : TA}
def tCallO (i : Nat) (C : Addr) (sp : Sp) (t : TA) : TE := fun σ H Q => ∃ a : Addr, σ[i]? = some (some (.ref a)) ∧ t σ H fun vs H1 => ∃ (dx : Addr) (fs : List (Str × V)), H1 a = some (.ins C dx fs) ∧ sp (.ref a :: vs) H1 Q E0
theorem pe_callO (c : Met X.prog X.w X.K X.mg X.base k C "__call__" sp) (fi : ∀ f, PySem.W.findIn X.K (.ref C) "__call__" = some (some (.ref f)) → PySem.W.fnIn X.K f = true) (hr : Room j X.A) (hk : k ≤ j) (hN : X.N[i]? = some x) (hv : Vis X.env.scope x) (ha : PA X (e :: es) t)
    (hdb : (x == ("__debug__" : Str)) = false := by decide) (hcd : (x == ("__classdict__" : Str)) = false := by decide)
    (he : starEach (e :: es) X.env = (false, eval e X.env) :: starEach es X.env := by rfl) (hpl : (backTo pos (starEach es X.env)).any (·.1) = false := by rfl) : PE X (.Call (.Name x p) (e :: es) [] pos) (tCallO i C sp t) := by
  obtain ⟨f, fd, ps, hc, hm, F, b⟩ := c.ex
  refine ⟨fun pins s σ H Q I h => ?_⟩
  obtain ⟨a, hs, ht⟩ := h
  refine wpAny_Call_Name_kw (thn ((pe_var (pos := p) hN hv hdb hcd).run pins s σ H (fun v H1 => v = .ref a ∧ H1 = H) I ⟨.ref a, hs, rfl, rfl⟩) fun u s1 ⟨v, H1, I1, r1, q1⟩ => ?_)
  obtain ⟨rfl, rfl⟩ := q1
  cases r1
  have go := ha.run pos pins s1 σ _ _ I1 ht
  rw [he] at go ⊢
  refine callWith_obj (by show ((false || (backTo pos (starEach es X.env)).any (·.1)) || false) = false; rw [hpl]; rfl) (Calls.evalArgs_plain ?_)
  refine thn go fun us s2 ⟨vs, H2, I2, r, dx, fs, ea, q⟩ => ?_
  obtain ⟨ox, od, J, hd⟩ := inst_plain I2 ea
  refine ⟨⟨C, ox, od, J, hd⟩, ?_⟩
  have rr : Vals (.ref a :: vs) (.ref a :: us) := .cons rfl r
  have hl : (Value.ref a :: us).length = ps.length := by rw [← rr.length]; exact F.len _ _ _ _ q
  have bd := b s2 (.ref a :: us) I2.kIn (by rw [List.append_nil]; exact hl)
  rw [List.append_nil] at bd
  refine wpAny_call (PySem.W.kco_code I2.kIn J hd hm.at_ hm.fn (fi f hm.at_) (codeAny_mono (F.run X.A X.stack s2 H2 ⟨.ref a :: us, []⟩ (.ref a :: us) (.ref a :: vs) Q E0 (hr.mono hk) I2.env0 bd rr q) fun r s' hq => ?_))
  cases r with
  | error e => exact hq.elim
  | ok fl =>
    cases fl with
    | ret u => exact I2.after hq
    | next => exact False.elim hq
    | brk => exact False.elim hq
    | cont => exact False.elim hq
end
end Lp
set_option Elab.async false
set_option linter.all false
set_option maxRecDepth 100000
set_option maxHeartbeats 1000000
namespace Lp
open PySem PySem.Spec PyProof.Rows L2
/-! ### sorted(d) of a dict with int keys, any number of them -/
def rSortedDIO : List V → Hp → VK → Prop := fun xs H Q => ∃ (a : Addr) (kvs : List (Key × V)) (ks : List Int), xs = [.ref a] ∧ Rd H a (.dK kvs) ∧ kvs.map (·.1) = ks.map Sum.inl ∧
  ∀ (ys : List Int) (p : Addr), ys.Perm ks → ys.Pairwise (· ≤ ·) → H p = none → Q (.ref p) (upd H p (.lst (ys.map V.int)))
theorem call_sortedDIO {X : Cx} (hcalm : X.calm = true) : CallR X (.builtin "sorted") rSortedDIO := by
  intro pins s σ H xs us Q I r q
  obtain ⟨a, kvs, ks, ex, hd, hks, q⟩ := q
  subst ex
  obtain ⟨u, eu, rx⟩ := vals1 r
  subst eu
  cases rx
  obtain ⟨z, lo, vs, rel, dd⟩ := dk_rd I.hok hd
  obtain ⟨ep, hat⟩ := dd.dictAt
  have hkeys : vs.map (·.1) = ks.map Sum.inl := rel.keys.symm.trans hks
  have hl : vs.length = ks.length := by
    have e := congrArg List.length hkeys
    rw [List.length_map, List.length_map] at e
    exact e
  have hl2 : kvs.length = ks.length := by
    have e := congrArg List.length hks
    rw [List.length_map, List.length_map] at e
    exact e
  have h16 : vs.length ≤ sizeLine := by rw [hl, ← hl2]; exact z
  refine Calls.call_function_entry PyProof.Rows.kind_sorted PyProof.Rows.plain_sorted PyProof.Rows.entry_sorted (PyProof.Rows.args_sorted1 _) ?_
  unfold Builtin.«sorted»
  refine wpAny_bind (m := checkCount "sorted" 1 1 _) (wpAny_pure ?_)
  refine wpAny_bind (PySem.W.kdu_collect (A := X.A.in1) (PySem.W.kdl_dict (knd := mixKind X.prog X.w) (kvs := vs) (ep := ep) lo) (I.ok.hd hcalm) hat h16 fun h' tk acc hk hacc => ?_)
  have hal : acc.toList.length = ks.length := by rw [Array.length_toList, hacc.1, hl]
  have hS : IntsAre acc.toList ks := ints_each hal fun j v e => by
    obtain ⟨k, x, e1, e2⟩ := hacc.2 j v (by rw [← Array.getElem?_toList]; exact e)
    have e3 : (vs.map (·.1))[j]? = some k := by rw [List.getElem?_map, e1]; rfl
    rw [hkeys, List.getElem?_map] at e3
    cases e4 : ks[j]? with
    | none => rw [e4] at e3; cases e3
    | some y =>
      rw [e4] at e3
      have e5 : Sum.inl y = k := Option.some.inj e3
      subst e5
      rcases keyIs_shape (show keyIs (Sum.inl y) v = true from e2) with ⟨i, t, ek, ev⟩ | ⟨z, t, ek, ev⟩
      · cases ek
        exact ⟨y, t, rfl, ev⟩
      · cases ek
  have I1 : Inv X pins σ H { s with heap := h', toks := tk } := I.kept hk
  have hz2 : acc.toList.length ≤ sizeLine := by rw [hal, ← hl2]; exact z
  refine wpAny_bind (wpAny_newList ?_ hz2)
  have hoL : (h'.push (seqObj "list" acc.toList.toArray 0)).get? h'.objs.size = some (seqObj "list" acc.toList.toArray 0) := Heap.get?_push_size _ rfl
  show wpAny _ _ _ _ _ { s with heap := h'.push (seqObj "list" acc.toList.toArray 0), toks := tk }
  refine wpAny_bind (wpAny_holding (wpAny_call_entry PyProof.Rows.slot_list_sort ⟨_, hoL, rfl⟩ PyProof.Rows.entry_list_sort
    (SrtO.list_sort_ord (s := { s with heap := h'.push (seqObj "list" acc.toList.toArray 0), toks := tk }) SrtO.swo_int hoL hz2 (fun h2 => SrtO.ints_sortable hS h2) fun out g1 g2 => ⟨_, rfl, ?_⟩) (PyProof.Rows.args_list_sort _)))
  obtain ⟨k1, k2, k3⟩ := SrtO.ints_out hS g1 g2
  obtain ⟨e', he'⟩ := PyProof.Rows.sortedHeap_at (vs := acc.toList) (out := out.toArray) hoL
  have hlen : ((out.map SrtO.iv).map V.int).length ≤ sizeLine := by
    rw [List.length_map, k2.length_eq, ← hl2]
    exact z
  refine wpAny_pure ⟨_, rfl, .ref h'.objs.size, upd H h'.objs.size (.lst ((out.map SrtO.iv).map V.int)), I1.laid (t' := tk) (fun b u e => ?_) (Nat.le_refl _)
    (show ObjOk X.prog X.w _ _ _ (.lst ((out.map SrtO.iv).map V.int)) from ⟨hlen, out, e', vals_of_ints k1, he'⟩), rfl, q _ _ k2 k3 (I1.hok.fresh (Nat.le_refl _))⟩
  have hb : b < h'.objs.size := Heap.lt_size e
  rw [PyProof.Rows.sortedHeap_old (Nat.ne_of_lt hb) (by rw [size_push']; exact Nat.lt_succ_of_lt hb)]
  exact Heap.get?_push_of_some _ e
end Lp
set_option Elab.async false
set_option linter.all false
set_option maxRecDepth 100000
set_option maxHeartbeats 1000000
namespace Lp
open PySem PySem.Spec PyProof.Rows L2 L2.DX
/-! ### d.items() and sorted(d.items()) of a dict of ints by ints, any number of them -/
def rItemsI : V → List V → Hp → VK → Prop := fun x xs H Q => ∃ (a : Addr) (kvs : List (Key × V)), x = .ref a ∧ xs = [] ∧ H a = some (.dK kvs) ∧ ∀ p, H p = none → Q (.ref p) (upd H p (itemsO p a))
theorem mt_itemsI {X : Cx} : MtR X "dict.items" rItemsI := by
  intro pins s σ H x xs v us Q I rx rxs h
  obtain ⟨a, kvs, rfl, rfl, ha, q⟩ := h
  cases rx
  cases rxs
  obtain ⟨z, hd, vs, rel, dd⟩ := dk_of I.hok ha
  obtain ⟨o, es, ep, ho, hx, hdat, _⟩ := dd
  refine DT.callItems (es := es) (ep := ep) hd ⟨o, ho, hx, hdat⟩ ?_
  have hf : H s.heap.objs.size = none := I.hok.fresh (Nat.le_refl _)
  exact ⟨.ref s.heap.objs.size, upd H s.heap.objs.size (itemsO s.heap.objs.size a), I.laid (t' := s.toks) (fun b u e => Heap.get?_push_of_some _ e) (Nat.le_refl _) (itemsO_ok (Heap.get?_push_size _ rfl)), rfl, q _ hf⟩
abbrev entI (e : Int × Int) : Key × V := (Sum.inl e.1, V.int e.2)
def rSortItI : List V → Hp → VK → Prop := fun vs H Q => ∃ (p a : Addr) (ks : List (Int × Int)), vs = [.ref p] ∧ H p = some (itemsO p a) ∧ H a = some (.dK (ks.map entI)) ∧
  ∀ (H' : Hp) (l : Addr) (ps : List (Addr × Int × Int)), (∀ b o, H b = some o → H' b = some o) → (ps.map (·.2)).Perm ks → (ps.map (·.2)).Pairwise (fun e f => e.1 ≤ f.1) → H' l = some (.lst (ps.map fun z => V.ref z.1)) →
    (∀ z ∈ ps, H' z.1 = some (.tup [.int z.2.1, .int z.2.2])) → H l = none → (∀ z ∈ ps, H z.1 = none) → Q (.ref l) H'
def pairOf (as : List Addr) (ks : List (Int × Int)) : Value → Int × Int
  | .ref b => (ks[as.idxOf b]?).getD (0, 0)
  | _ => (0, 0)
theorem pairOf_at {as : List Addr} {ks : List (Int × Int)} (nd : as.Nodup) {j : Nat} {b : Addr} {e : Int × Int} (hj : as[j]? = some b) (he : ks[j]? = some e) : pairOf as ks (.ref b) = e := by
  obtain ⟨hl, hb⟩ := List.getElem?_eq_some_iff.mp hj
  have hi : as.idxOf b = j := by
    subst hb
    exact nd.idxOf_getElem j hl
  show (ks[as.idxOf b]?).getD (0, 0) = e
  rw [hi, he]
  rfl
theorem pairOf_all {as : List Addr} {ks : List (Int × Int)} (nd : as.Nodup) (hl : as.length = ks.length) : as.map (fun b => pairOf as ks (.ref b)) = ks := by
  refine List.ext_getElem? fun j => ?_
  rw [List.getElem?_map]
  cases hj : as[j]? with
  | none =>
    have h1 := List.getElem?_eq_none_iff.mp hj
    exact (List.getElem?_eq_none (by omega)).symm
  | some b =>
    obtain ⟨h1, _⟩ := List.getElem?_eq_some_iff.mp hj
    have he : ks[j]? = some (ks[j]'(by omega)) := List.getElem?_eq_getElem (by omega)
    rw [he]
    exact congrArg some (pairOf_at nd hj he)
def adOf : Value → Addr
  | .ref b => b
  | _ => 0
theorem adOf_ref : ∀ {out : List Value}, (∀ v ∈ out, ∃ b, v = Value.ref b) → out = (out.map adOf).map Value.ref
  | [], _ => rfl
  | v :: out, h => by
    obtain ⟨b, rfl⟩ := h v List.mem_cons_self
    show Value.ref b :: out = Value.ref b :: (out.map adOf).map Value.ref
    rw [← adOf_ref fun u hu => h u (List.mem_cons_of_mem _ hu)]
theorem adOf_map (as : List Addr) : (as.map Value.ref).map adOf = as := by
  rw [List.map_map]
  exact List.map_id as
theorem cr_sortedItemsI {X : Cx} (hc : X.calm = true) : CallR X (.builtin "sorted") rSortItI := by
  intro pins s σ H xs us Q I r h
  obtain ⟨p, a, ks, rfl, hp, ha, q⟩ := h
  obtain rfl := Vals.ref1 r
  have view : s.heap.IsItemsView p a := (show ObjOk X.prog X.w H s.heap p (itemsO p a) from I.hok p _ hp).1
  obtain ⟨z, hd, vs, rel, o, es, ep, ho, hx, hdat, hes, hprs, hn⟩ := dk_of I.hok ha
  have l1 : (ks.map entI).length = vs.length := rel.length
  have l0 : (ks.map entI).length = ks.length := List.length_map ..
  have l2 : es.size = vs.length := by rw [← hprs.length]; simp
  have hh : X.A.handled = none := I.ok.hd hc
  refine DT.sortedI (es := es) (ep := ep) hh view ⟨o, ho, hx, hdat⟩ (by omega) fun h' tk as hk hlt hl hG => ?_
  have lak : as.length = ks.length := by omega
  have nd : as.Nodup := List.Pairwise.imp (fun h => Nat.ne_of_lt h) hG.rise
  -- the pairs that were made
  have pr : ∀ (j : Nat) (b : Addr), as[j]? = some b → ∃ (e : Int × Int) (t1 t2 : Tok), ks[j]? = some e ∧ h'.get? b = some { cls := .type "tuple", data := .seq #[Value.int e.1 t1, Value.int e.2 t2] } := by
    intro j b hj
    obtain ⟨en, he, hg⟩ := hG.pairs j b hj
    obtain ⟨hjl, _⟩ := List.getElem?_eq_some_iff.mp hj
    have hkj : ks[j]? = some (ks[j]'(by omega)) := List.getElem?_eq_getElem (by omega)
    have hvj : vs[j]? = some (vs[j]'(by omega)) := List.getElem?_eq_getElem (by omega)
    obtain ⟨e1, e2⟩ := hprs.get? (e := en) (by rw [Array.getElem?_toList]; exact he) (show vs[j]? = some ((vs[j]'(by omega)).1, (vs[j]'(by omega)).2) from hvj)
    obtain ⟨x, hx1, hx2⟩ := KV.at' rel (show vs[j]? = some ((vs[j]'(by omega)).1, (vs[j]'(by omega)).2) from hvj)
    rw [List.getElem?_map, hkj] at hx1
    have e3 := Option.some.inj hx1
    have e4 : Sum.inl (ks[j]'(by omega)).1 = (vs[j]'(by omega)).1 := congrArg Prod.fst e3
    have e5 : V.int (ks[j]'(by omega)).2 = x := congrArg Prod.snd e3
    subst e5
    obtain ⟨t2, e6⟩ := hx2
    rw [← e4] at e1
    rcases keyIs_shape (show keyIs (Sum.inl (ks[j]'(by omega)).1) en.key = true from e1) with ⟨i, t, ek, ev⟩ | ⟨z, t, ek, ev⟩
    · cases ek
      refine ⟨_, t, t2, hkj, ?_⟩
      rw [hg, ev, e2, e6]
    · cases ek
  have hob : (h'.push { cls := .type "list", data := .seq (as.map Value.ref).toArray }).get? h'.objs.size = some (seqObj "list" (as.map Value.ref).toArray 0) := Heap.get?_push_size _ rfl
  have kb : ∀ b o, s.heap.get? b = some o → (h'.push { cls := .type "list", data := .seq (as.map Value.ref).toArray }).get? b = some o := fun b o e => Heap.get?_push_of_some _ (hk b o e)
  have ne0 : ∀ b o, h'.get? b = some o → b ≠ h'.objs.size := fun b o e => Nat.ne_of_lt (Heap.lt_size e)
  generalize hh2 : h'.push { cls := .type "list", data := .seq (as.map Value.ref).toArray } = h2 at hob kb ⊢
  have ka : ∀ b o, h'.get? b = some o → h2.get? b = some o := fun b o e => by rw [← hh2]; exact Heap.get?_push_of_some _ e
  have at_ : ∀ v ∈ as.map Value.ref, ∃ (j : Nat) (b : Addr), v = .ref b ∧ as[j]? = some b := by
    intro v hv'
    obtain ⟨b, hb, rfl⟩ := List.mem_map.mp hv'
    obtain ⟨j, hj⟩ := List.mem_iff_getElem?.mp hb
    exact ⟨j, b, rfl, hj⟩
  have isp : ∀ v ∈ as.map Value.ref, Srt.IsPair h2 v (pairOf as ks v).1 (pairOf as ks v).2 := by
    intro v hv'
    obtain ⟨j, b, rfl, hj⟩ := at_ v hv'
    obtain ⟨e, t1, t2, he, hg⟩ := pr j b hj
    rw [pairOf_at nd hj he]
    exact ⟨b, _, t1, t2, _, rfl, ka _ _ hg, rfl, rfl⟩
  have hz2 : (as.map Value.ref).length ≤ sizeLine := by rw [List.length_map]; omega
  refine wpAny_call_entry PyProof.Rows.slot_list_sort ⟨_, hob, rfl⟩ PyProof.Rows.entry_list_sort
    (SrtO.list_sort_ord (s := { s with heap := h2, toks := tk }) (SrtO.swo_lex (pairOf as ks)) hob hz2 (fun h2' => SrtO.pairs_sortableO (s := { s with heap := h2, toks := tk }) (by omega) isp fun o e => ?_) fun out o1 o2 => ⟨.none, rfl, ?_⟩) (PyProof.Rows.args_list_sort _)
  · have e' : some o = some (seqObj "list" (as.map Value.ref).toArray 0) := e.symm.trans hob
    cases e'
    intro c
    exact absurd (Value.type.inj c) (by decide)
  · show EP X pins σ Q (.ref h'.objs.size) { s with heap := sortedHeap h2 h'.objs.size (as.map Value.ref) out.toArray, toks := tk }
    have rfs : ∀ v ∈ out, ∃ b, v = Value.ref b := fun v hv => by
      obtain ⟨_, b, e, _⟩ := at_ v (o2.perm.mem_iff.mp hv)
      exact ⟨b, e⟩
    have eo := adOf_ref rfs
    have pz : (out.map adOf).Perm as := by
      have e := o2.perm.map adOf
      rw [adOf_map] at e
      exact e
    generalize hzs : out.map adOf = zs at eo pz
    have hall := pairOf_all nd lak
    have hperm : (zs.map fun b => pairOf as ks (.ref b)).Perm ks := by
      have e := pz.map fun b => pairOf as ks (.ref b)
      rw [hall] at e
      exact e
    have hsort : (zs.map fun b => pairOf as ks (.ref b)).Pairwise (fun e f => e.1 ≤ f.1) := by
      rw [eo] at o1
      have o3 := List.pairwise_map.mp (show ((zs.map Value.ref).Pairwise fun x y => SrtO.lexB (pairOf as ks y) (pairOf as ks x) = false) from o1)
      refine List.pairwise_map.mpr (o3.imp fun {x y} h => ?_)
      have h' := SrtO.lexB_no.mp h
      omega
    -- behind the sort
    have kF : ∀ b o, b ≠ h'.objs.size → h2.get? b = some o → (sortedHeap h2 h'.objs.size (as.map Value.ref) out.toArray).get? b = some o := fun b o hb e => (PyProof.Rows.sortedHeap_old hb (Heap.lt_size e)).trans e
    have kS : ∀ b o, s.heap.get? b = some o → (sortedHeap h2 h'.objs.size (as.map Value.ref) out.toArray).get? b = some o := fun b o e => kF b o (ne0 _ _ (hk b o e)) (kb b o e)
    obtain ⟨eF, heF⟩ := PyProof.Rows.sortedHeap_at (vs := as.map Value.ref) (out := out.toArray) hob
    have I1 : Inv X pins σ H { s with heap := sortedHeap h2 h'.objs.size (as.map Value.ref) out.toArray, toks := tk } := I.kept (t' := tk) kS
    have hn0 : H h'.objs.size = none := I.hok.fresh (Nat.le_of_lt hlt)
    have hlen : (zs.map fun z => V.ref z).length ≤ sizeLine := by
      have e := hperm.length_eq
      rw [List.length_map] at e
      rw [List.length_map]
      omega
    have rv : Vals (zs.map fun z => V.ref z) out := by
      rw [eo]
      exact vals_maps (fun z : Addr => V.ref z) (fun z => Value.ref z) zs fun _ _ => rfl
    have I2 : Inv X pins σ (upd H h'.objs.size (.lst (zs.map fun z => V.ref z))) { s with heap := sortedHeap h2 h'.objs.size (as.map Value.ref) out.toArray, toks := tk } :=
      I1.take (h' := sortedHeap h2 h'.objs.size (as.map Value.ref) out.toArray) (t' := tk) (fun b ob _ e => e) (I.fpOk (Nat.le_of_lt hlt) hn0) ⟨hlen, out, eF, rv, heF⟩
    obtain ⟨H2, I3, g, qt⟩ := takeT (P := fun b vs => vs = [V.int (pairOf as ks (.ref b)).1, V.int (pairOf as ks (.ref b)).2]) I as _ I2 nd fun b hb => by
      obtain ⟨j, hj⟩ := List.mem_iff_getElem?.mp hb
      obtain ⟨e, t1, t2, he, hg⟩ := pr j b hj
      have hbl : s.heap.objs.size ≤ b := Nat.le_of_lt (hG.above b hb)
      refine ⟨hbl, ?_, _, rfl, fun H3 => ⟨(by rw [sizeLine_eq]; show 2 ≤ 16777216; omega), [Value.int e.1 t1, Value.int e.2 t2], ?_, ⟨_, kF _ _ (ne0 _ _ hg) (ka _ _ hg), rfl, 0, rfl⟩⟩⟩
      · rw [upd_ne (ne0 _ _ hg)]
        exact I.hok.fresh hbl
      · rw [pairOf_at nd hj he]
        exact .cons ⟨t1, rfl⟩ (.cons ⟨t2, rfl⟩ .nil)
    have gr : ∀ b o, H b = some o → H2 b = some o := fun b o e => g b o (by rw [upd_ne (ne_of_none e hn0)]; exact e)
    have em : (zs.map fun b => (b, pairOf as ks (.ref b))).map (·.2) = zs.map fun b => pairOf as ks (.ref b) := by
      rw [List.map_map]
      all_goals rfl
    have em1 : ((zs.map fun b => (b, pairOf as ks (.ref b))).map fun z => V.ref z.1) = zs.map fun z => V.ref z := by
      rw [List.map_map]
      all_goals rfl
    refine ⟨.ref h'.objs.size, H2, I3, rfl, q H2 h'.objs.size (zs.map fun b => (b, pairOf as ks (.ref b))) gr (by rw [em]; exact hperm) (by rw [em]; exact hsort) (by rw [em1]; exact g _ _ upd_same) (fun z' hz' => ?_) hn0 fun z' hz' => ?_⟩
    · obtain ⟨b, hb, rfl⟩ := List.mem_map.mp hz'
      obtain ⟨vs', ev, hH⟩ := qt b (pz.mem_iff.mp hb)
      rw [ev] at hH
      exact hH
    · obtain ⟨b, hb, rfl⟩ := List.mem_map.mp hz'
      exact I.hok.fresh (Nat.le_of_lt (hG.above b (pz.mem_iff.mp hb)))
end Lp
set_option Elab.async false
set_option linter.all false
set_option maxRecDepth 100000
set_option maxHeartbeats 1000000
namespace Lp
open PySem PySem.Spec PyProof.Rows L2
/-! ### y not in x: by __contains__ of an own class -/
section
variable {X : Cx} {k j : Nat} {C : Addr} {sp : Sp}
theorem pc_notinO {i o : Expr} {ty td : TE} (c : Met X.prog X.w X.K X.mg X.base k C "__contains__" sp) (hr : Room j X.A) (hk : k ≤ j) (hi : PE X i ty) (ho : PE X o td) : PC X .NotIn i o (tInO C sp ty td true) := by
  obtain ⟨f, fd, ps, hc, hm, F, b⟩ := c.ex
  refine ⟨fun pins s σ H Q I h => ?_⟩
  refine thn (hi.run pins s σ H _ I h) fun iv s1 ⟨y, H1, I1, ry, q1⟩ => thn (ho.run pins s1 σ H1 _ I1 q1) fun u s2 ⟨x, H2, I2, rx, a, dx, fs, ex, ea, q2⟩ => ?_
  subst ex
  cases (show u = Value.ref a from rx)
  obtain ⟨ox, od, J⟩ := inst_of I2 ea
  refine wpAny_bind ?_
  unfold contains
  refine wpAny_holding (wpAny_bind (wpAny_bind (J.type.here ((PySem.W.looks_findIn I2.kIn hm.at_).here ?_))))
  rw [if_neg (by simp)]
  refine wpAny_bind (PySem.W.unlessNone_K I2.kIn J hm.at_ hm.fn (wpAny_mono (run_at (vs := [.ref a, y]) F (hr.mono hk) b I2 I2.env0 (.cons rfl (.cons ry .nil)) q2) (fun v s' hv => ?_) fun _ _ z => z))
  obtain ⟨v, H', I', rv, b', rfl, hq⟩ := hv
  cases rv
  refine wpAny_of_eq (a := b') (by first | rfl | simp [truthy]) ?_
  exact wpAny_pure ⟨.bl (!b'), H', I', rfl, hq⟩
end
end Lp
set_option Elab.async false
set_option linter.all false
set_option maxRecDepth 100000
set_option maxHeartbeats 1000000
namespace Lp
open PySem PySem.Spec PyProof.Rows L2 L2.DX
/-! ### x(e, ..) and x(k = e) of an instance, by __call__; x any expression -/
structure MetK (P : Program) (w : World) (K : PySem.W.Frag) (mg : Str → Option Value) (base : Heap) (k : Nat) (C : Addr) (m : Str) (n : Nat) (ks : List Str) (gV : List V → List V → List V) (sp : Sp) : Prop where
  ex : ∃ (f : Addr) (fd : FuncData) (ps : List Str) (g : List Value → List Value → List Value), Cls K C ∧ Meth K C m f ∧ FnOk P w K mg base CX0 k f fd ps sp ∧ KBn K fd ps n ks g gV
section
variable {X : Cx} {k j : Nat} {C : Addr} {sp : Sp} {p pos : Pos} {fe e : Expr} {es : List Expr} {t tk' : TA} {tf : TE} {kws : List Keyword} {ks : List Str} {gV : List V → List V → List V}
def tCallE (C : Addr) (sp : Sp) (tf : TE) (t : TA) : TE := fun σ H Q => tf σ H fun x H1 => ∃ a : Addr, x = .ref a ∧ t σ H1 fun vs H2 => ∃ (dx : Addr) (fs : List (Str × V)), H2 a = some (.ins C dx fs) ∧ sp (.ref a :: vs) H2 Q E0
theorem pe_callE (c : Met X.prog X.w X.K X.mg X.base k C "__call__" sp) (fi : ∀ f, PySem.W.findIn X.K (.ref C) "__call__" = some (some (.ref f)) → PySem.W.fnIn X.K f = true) (hr : Room j X.A) (hk : k ≤ j) (hf : PE X fe tf) (ha : PA X (e :: es) t)
    (hc : eval (.Call fe (e :: es) [] pos) X.env = (do callWith pos (← eval fe X.env) [] (backTo pos (starEach (e :: es) X.env)) (backToKw pos (keywordEach [] X.env))) := by rfl)
    (he : starEach (e :: es) X.env = (false, eval e X.env) :: starEach es X.env := by rfl) (hpl : (backTo pos (starEach es X.env)).any (·.1) = false := by rfl) : PE X (.Call fe (e :: es) [] pos) (tCallE C sp tf t) := by
  obtain ⟨f, fd, ps, hc', hm, F, b⟩ := c.ex
  refine ⟨fun pins s σ H Q I h => ?_⟩
  refine Call_ (thn (hf.run pins s σ H _ I h) fun u s1 ⟨v, H1, I1, r1, a, ev, ht⟩ => ?_) hc
  subst ev
  cases (show u = Value.ref a from r1)
  have go := ha.run pos pins s1 σ _ _ I1 ht
  rw [he] at go ⊢
  refine callWith_obj (by show ((false || (backTo pos (starEach es X.env)).any (·.1)) || false) = false; rw [hpl]; rfl) (Calls.evalArgs_plain ?_)
  refine thn go fun us s2 ⟨vs, H2, I2, r, dx, fs, ea, q⟩ => ?_
  obtain ⟨ox, od, J, hd⟩ := inst_plain I2 ea
  refine ⟨⟨C, ox, od, J, hd⟩, ?_⟩
  have rr : Vals (.ref a :: vs) (.ref a :: us) := .cons rfl r
  have hl : (Value.ref a :: us).length = ps.length := by rw [← rr.length]; exact F.len _ _ _ _ q
  have bd := b s2 (.ref a :: us) I2.kIn (by rw [List.append_nil]; exact hl)
  rw [List.append_nil] at bd
  refine wpAny_call (PySem.W.kco_code I2.kIn J hd hm.at_ hm.fn (fi f hm.at_) (codeAny_mono (F.run X.A X.stack s2 H2 ⟨.ref a :: us, []⟩ (.ref a :: us) (.ref a :: vs) Q E0 (hr.mono hk) I2.env0 bd rr q) fun r s' hq => ?_))
  cases r with
  | error e => exact hq.elim
  | ok fl =>
    cases fl with
    | ret u => exact I2.after hq
    | next => exact False.elim hq
    | brk => exact False.elim hq
    | cont => exact False.elim hq
def tCallEK (C : Addr) (m : Nat) (sp : Sp) (gV : List V → List V → List V) (tf : TE) (t : TA) : TE := fun σ H Q => tf σ H fun x H1 => ∃ a : Addr, x = .ref a ∧ t σ H1 fun zs H2 => ∃ (dx : Addr) (fs : List (Str × V)), zs.length = m ∧ H2 a = some (.ins C dx fs) ∧ sp (gV [.ref a] zs) H2 Q E0
theorem pe_callEK (c : MetK X.prog X.w X.K X.mg X.base k C "__call__" 1 ks gV sp) (fi : ∀ f, PySem.W.findIn X.K (.ref C) "__call__" = some (some (.ref f)) → PySem.W.fnIn X.K f = true) (hr : Room j X.A) (hk : k ≤ j) (hf : PE X fe tf) (hkw : PK X kws tk')
    (hc : eval (.Call fe [] kws pos) X.env = (do callWith pos (← eval fe X.env) [] (backTo pos (starEach [] X.env)) (backToKw pos (keywordEach kws X.env))) := by rfl)
    (hall : (backToKw pos (keywordEach kws X.env)).all (·.1.isSome) = true := by rfl) (hks : (backToKw pos (keywordEach kws X.env)).filterMap (·.1) = ks := by rfl)
    (hpl : ((backTo pos (starEach [] X.env)).any (·.1) || (backToKw pos (keywordEach kws X.env)).any (·.1.isNone)) = false := by rfl) : PE X (.Call fe [] kws pos) (tCallEK C ks.length sp gV tf tk') := by
  obtain ⟨f, fd, ps, g, hc', hm, F, b⟩ := c.ex
  refine ⟨fun pins s σ H Q I h => ?_⟩
  rw [hc]
  refine wpAny_bind (thn (hf.run pins s σ H _ I h) fun u s1 ⟨v, H1, I1, r1, a, ev, ht⟩ => ?_)
  subst ev
  cases (show u = Value.ref a from r1)
  refine callWith_obj hpl (evalArgs_kw2_nil hall ?_)
  refine thn (hkw.run pos pins s1 σ _ _ I1 ht) fun ws s2 ⟨zs, H2, I2, rz, dx, fs, lz, ea, q⟩ => ?_
  obtain ⟨ox, od, J, hd⟩ := inst_plain I2 ea
  refine ⟨⟨C, ox, od, J, hd⟩, ?_⟩
  have r0 : Vals [.ref a] [Value.ref a] := .cons rfl .nil
  have rr := b.rel r0 rz
  have bd := b.to s2 [.ref a] ws I2.kIn rfl (rz.length.symm.trans lz)
  rw [hks]
  refine wpAny_call (PySem.W.kco_code I2.kIn J hd hm.at_ hm.fn (fi f hm.at_) (codeAny_mono (F.run X.A X.stack s2 H2 ⟨[.ref a], ks.zip ws⟩ (g [.ref a] ws) (gV [.ref a] zs) Q E0 (hr.mono hk) I2.env0 bd rr q) fun r s' hq => ?_))
  cases r with
  | error e => exact hq.elim
  | ok fl =>
    cases fl with
    | ret u => exact I2.after hq
    | next => exact False.elim hq
    | brk => exact False.elim hq
    | cont => exact False.elim hq
end
/-! ### d.values() and list(d.values()) -/
def valsO (p d : Addr) : HO := .ext fun h => h.IsValuesView p d
theorem valsO_ok {P : Program} {w : World} {H : Hp} {h : Heap} {p d : Addr} (e : h.get? p = some { cls := .type "dict_values", data := .fields #[.ref d] }) : ObjOk P w H h p (valsO p d) :=
  ⟨⟨_, e, rfl, rfl⟩, ⟨_, e⟩, fun h1 h2 x k => let ⟨o, ho, r⟩ := x; ⟨o, k o ho, r⟩⟩
def rValuesI : V → List V → Hp → VK → Prop := fun x xs H Q => ∃ (a : Addr) (kvs : List (L2.Key × V)), x = .ref a ∧ xs = [] ∧ H a = some (.dK kvs) ∧ ∀ p, H p = none → Q (.ref p) (upd H p (valsO p a))
theorem mt_valuesI {X : Cx} : MtR X "dict.values" rValuesI := by
  intro pins s σ H x xs v us Q I rx rxs h
  obtain ⟨a, kvs, rfl, rfl, ha, q⟩ := h
  cases rx
  cases rxs
  obtain ⟨z, hd, vs, rel, dof⟩ := dk_of I.hok ha
  obtain ⟨ep, dat⟩ := dof.dictAt
  obtain ⟨ob, es, ho, ex, hdat, hko, hpr, hnd⟩ := id dat
  refine call_meetsIn PySem.F.slot_dict_values ⟨ob, ho, ex.1⟩ PySem.F.entry_dict_values (PySem.F.args_dict_values_1 _) (meets_dict_values (mixKind X.prog X.w) a hd) ⟨⟨vs, dof⟩, ?_⟩
  have hf : H s.heap.objs.size = none := I.hok.fresh (Nat.le_refl _)
  exact ⟨.ref s.heap.objs.size, upd H s.heap.objs.size (valsO s.heap.objs.size a), I.laid (t' := s.toks) (fun b u e => Heap.get?_push_of_some _ e) (Nat.le_refl _) (valsO_ok (Heap.get?_push_size _ rfl)), rfl, q _ hf⟩
def rListVals : List V → Hp → VK → Prop := fun xs H Q => ∃ (p a : Addr) (kvs : List (L2.Key × V)), xs = [.ref p] ∧ H p = some (valsO p a) ∧ H a = some (.dK kvs) ∧ ∀ q, H q = none → Q (.ref q) (upd H q (.lst (kvs.map (·.2))))
theorem call_listVals {X : Cx} (hc : X.calm = true) : CallR X (.type "list") rListVals := by
  intro pins s σ H xs us Q I r h
  obtain ⟨p, a, kvs, e, hp, hk, q⟩ := h
  subst e
  obtain ⟨u, eu, rx⟩ := vals1 r
  subst eu
  obtain rfl : u = Value.ref p := rx
  have view : s.heap.IsValuesView p a := (show ObjOk X.prog X.w H s.heap p (valsO p a) from I.hok p _ hp).1
  obtain ⟨z, lo, vs, rk, hd⟩ := (show ObjOk X.prog X.w H s.heap a (.dK kvs) from I.hok a _ hk)
  obtain ⟨ep, hat⟩ := hd.dictAt
  have hl : kvs.length = vs.length := Paired.length rk
  refine PySem.W.kdl_call (PySem.W.kdl_values (knd := mixKind X.prog X.w) (kvs := vs) (ep := ep)) (I.ok.hd hc) ⟨view, hat⟩ (by rw [← hl]; exact z) fun h' tk acc' c' hkeep hS hacc => ?_
  refine ⟨.ref s.heap.objs.size, upd H s.heap.objs.size (.lst (kvs.map (·.2))), I.laid hkeep (Nat.le_refl _) (show ObjOk X.prog X.w _ _ _ (.lst (kvs.map (·.2))) from ⟨?_, acc'.toList, c', ?_, ?_⟩), rfl, q _ (I.hok.fresh (Nat.le_refl _))⟩
  · rw [List.length_map]; exact z
  · have el : acc'.toList.length = acc'.size := by simp
    refine vals_of_at (by rw [List.length_map, el, hacc.1, hl]) fun j x w h1 h2 => ?_
    obtain ⟨k, hky⟩ := hacc.2 j w (by rw [← Array.getElem?_toList]; exact h2)
    obtain ⟨y, e1, e2⟩ := KV.at' rk hky
    rw [List.getElem?_map, e1] at h1
    cases h1
    exact e2
  · rw [Array.toArray_toList]; exact hS
end Lp
set_option Elab.async false
set_option linter.all false
set_option maxRecDepth 100000
set_option maxHeartbeats 1000000
namespace Lp
open PySem PySem.Spec PyProof.Rows L2
/-! ### set(xs) and sorted(set(xs)) of ints, any number of them -/
def rSetLG (K : PySem.W.Frag) (w : World) : List V → Hp → VK → Prop := fun xs H Q => ∃ (a : Addr) (ns : List Int), xs = [V.ref a] ∧ SqL K H a (ns.map V.int) ∧ ns.length ≤ 1000 ∧ ∀ (p : Addr) (c : Nat), H p = none → c ≤ ns.length → Q (.ref p) (upd H p (SetO w p (fun j => decide (j ∈ ns)) c))
theorem cr_setLG {X : Cx} (hc : X.calm = true) : CallR X (.type "set") (rSetLG X.K X.w) := by
  intro pins s σ H xs us Q I r h
  obtain ⟨a, ns, rfl, hq, hl, q⟩ := h
  cases r with
  | cons r rr =>
    cases rr
    cases (show _ = Value.ref a from r)
    obtain ⟨its, rv, p, _⟩ := I.list hq
    refine call_set_listI ns (I.ok.hd hc) p.isList (RZ.intsAre_vals rv) (Nat.lt_of_le_of_lt (Nat.succ_le_succ hl) (by decide)) fun h' tk c hs hcn hk => ?_
    refine ⟨.ref _, upd H _ (SetO X.w s.heap.objs.size (fun j => decide (j ∈ ns)) c), I.laid hk (Nat.le_refl _) ⟨hs, ?_, fun h1 h2 x k => ?_⟩, rfl, q _ c (I.hok.fresh (Nat.le_refl _)) hcn⟩
    · obtain ⟨o, _, _, _, e, _⟩ := hs
      exact ⟨o, e⟩
    · obtain ⟨o, es, ep, t, e, r⟩ := x
      exact ⟨o, es, ep, t, k o e, r⟩
section
variable {P : Program} {w : World} {A : Around} {E : Value → Shared → Prop} {s : Shared} {a : Addr}
theorem sorted_setG {S : Int → Bool} {n : Nat} {Q : Value → Shared → Prop} (R : SetR w s.heap a S n) (hh : A.handled = none) (hn : n ≤ 100000)
    (hQ : ∀ s' p (out : Array Value) (c : Nat) (ns : List Int), (∀ b o, s.heap.get? b = some o → s'.heap.get? b = some o) → s'.gens = s.gens → s'.os = s.os → s.heap.objs.size ≤ p →
      s'.heap.get? p = some (seqObj "list" out c) → IntsAre out.toList ns → ns.Pairwise (· ≤ ·) → ns.Nodup → (∀ k, k ∈ ns ↔ S k = true) → ns.length = n → Q (.ref p) s') :
    wpAny (model P w) A (call (.builtin "sorted") [.ref a]) Q E s := by
  obtain ⟨o, es, ep, t, ho, hex, hd, g, nd, hm, hb, hf, hn', hr, hl⟩ := R
  refine Calls.call_function_entry PyProof.Rows.kind_sorted PyProof.Rows.plain_sorted PyProof.Rows.entry_sorted (PyProof.Rows.args_sorted1 _) ?_
  unfold Builtin.«sorted»
  refine wpAny_bind (m := checkCount "sorted" 1 1 _) (wpAny_pure ?_)
  refine wpAny_bind (collect_set (A := A.in1) hh ⟨o, ho, hex.1, hd⟩ hf hb hr hl fun s1 vs k1 hz g1 o1 pm => ?_)
  have hvl : vs.length = n := by rw [pm.length_eq, List.length_map, Array.length_toList]; exact hn'
  have hI : IntsAre vs (vs.map Builtin.Re.reRawOf) := ints_of vs fun v hv => by
    obtain ⟨e, he, q⟩ := List.mem_map.mp (pm.mem_iff.mp hv)
    obtain ⟨k, tk, h1, _⟩ := g e he
    exact ⟨k, tk, by rw [← q]; exact h1⟩
  have pk : (vs.map Builtin.Re.reRawOf).Perm (es.toList.map keyOf) := by
    have q := pm.map Builtin.Re.reRawOf
    rw [List.map_map] at q
    exact q
  have hz2 : vs.length ≤ sizeLine := by rw [hvl]; exact zs hn
  refine wpAny_bind (wpAny_newList ?_ hz2)
  have hoL : (s1.heap.push (seqObj "list" vs.toArray 0)).get? s1.heap.objs.size = some (seqObj "list" vs.toArray 0) := Heap.get?_push_size _ rfl
  refine wpAny_bind (wpAny_holding (wpAny_call_entry PyProof.Rows.slot_list_sort ⟨_, hoL, rfl⟩ PyProof.Rows.entry_list_sort
    (SrtO.list_sort_ord SrtO.swo_int hoL hz2 (fun h2 => SrtO.ints_sortable hI h2) fun out g1' g2 => ⟨_, rfl, ?_⟩) (PyProof.Rows.args_list_sort _)))
  obtain ⟨q1, q2, q3⟩ := SrtO.ints_out hI g1' g2
  obtain ⟨c, hc⟩ := PyProof.Rows.sortedHeap_at (vs := vs) (out := out.toArray) hoL
  have pn : (out.map SrtO.iv).Perm (es.toList.map keyOf) := q2.trans pk
  refine wpAny_pure ⟨_, rfl, hQ _ s1.heap.objs.size out.toArray c (out.map SrtO.iv) (fun b u e => ?_) g1 o1 hz hc (by simpa using q1) q3 (pn.nodup_iff.mpr nd) (fun k => by rw [pn.mem_iff, ← hm k]) ?_⟩
  · have q := k1 b u e
    have hlt := Heap.lt_size q
    show (PyProof.Rows.sortedHeap (s1.heap.push (seqObj "list" vs.toArray 0)) s1.heap.objs.size vs out.toArray).get? b = some u
    rw [PyProof.Rows.sortedHeap_old (Nat.ne_of_lt hlt) (by rw [size_push']; exact Nat.lt_succ_of_lt hlt)]
    exact Heap.get?_push_of_some _ q
  · rw [pn.length_eq, List.length_map, Array.length_toList]; exact hn'
end
section
variable {X : Cx}
def rSortedSetG (w : World) : List V → Hp → VK → Prop := fun vs H Q => ∃ (a : Addr) (S : Int → Bool) (n : Nat), vs = [V.ref a] ∧ H a = some (SetO w a S n) ∧ n ≤ 100000 ∧
  ∀ (ns : List Int) (p : Addr), ns.Pairwise (· ≤ ·) → ns.Nodup → (∀ k : Int, k ∈ ns ↔ S k = true) → H p = none → Q (.ref p) (upd H p (.lst (ns.map V.int)))
theorem cr_sortedSetG (hc : X.calm = true) : CallR X (.builtin "sorted") (rSortedSetG X.w) := by
  intro pins s σ H vs us Q I r h
  obtain ⟨a, S, n, rfl, ha, h64, q⟩ := h
  have R := setO_get I ha
  rw [Vals.ref1 r]
  refine sorted_setG R (I.ok.hd hc) h64 fun s' p out c ns k g o hp hg hi hs hnd hm hl => ?_
  have hlen : (ns.map V.int).length ≤ sizeLine := by rw [List.length_map, hl]; exact zs h64
  have hn : H p = none := I.hok.fresh hp
  have J : Inv X pins σ (upd H p (.lst (ns.map V.int))) { s with heap := s'.heap, gens := s'.gens, drawn := s'.drawn, toks := s'.toks } :=
    I.call (ch := []) (Un.laid k hp hn) (I.hok.laid k hp ⟨hlen, out.toList, c, vals_of_ints hi, hg⟩) (by rw [g]; exact I.bare) (fun _ z => nomatch z)
  have e : s' = { s with heap := s'.heap, gens := s'.gens, drawn := s'.drawn, toks := s'.toks } := by
    cases s'
    cases s
    cases o
    rfl
  rw [e]
  exact ⟨.ref p, _, J, rfl, q ns p hs hnd hm hn⟩
end
end Lp
set_option Elab.async false
set_option linter.all false
set_option maxRecDepth 100000
set_option maxHeartbeats 1000000
namespace Lp
open PySem PySem.Spec PyProof.Rows L2
/-! ### a != b of two instances whose class has __eq__ alone -/
theorem one_bind (self : Value) : bindSpecial (.builtin "object.__ne__") self = pure (.builtin "object.__ne__", [self]) :=
  (Slot.of (T := "object") (name := "__ne__") (owner := "object") (n := "__ne__") (by rw [typeLookup_type, builtinLookup_eq_fast]; kernel_rfl) (by decide +kernel) (by decide +kernel) (by decide +kernel)
    (.inl (by decide +kernel)) (by rw [isSubtype_type]; kernel_rfl)).bind self
theorem ifBound_ne {M : Model} {A : Around} {E : Value → Shared → Prop} {s : Shared} {K : PySem.W.Frag} {x C : Addr} {ox : Obj} {od : Option Obj} {args : List Value} {Q : Option Value → Shared → Prop} (X : K.In s.heap) (I : PySem.W.InstAt s.heap x ox C od) (hs : PySem.W.findIn K (.ref C) "__ne__" = some (some (.builtin "object.__ne__")))
    (h : wpAny M A (call (.builtin "object.__ne__") (.ref x :: args)) (fun v => Q (some v)) E s) : wpAny M A (callSpecialIfBound? (.ref x) "__ne__" args) Q E s := by
  simp only [callSpecialIfBound?, bindSpecialIfBound?]
  refine wpAny_holding (wpAny_bind (wpAny_bind (wpAny_bind (I.type.here ((PySem.W.looks_findIn X hs).here ?_)))))
  refine wpAny_bind (wpAny_askSetting (wpAny_ite ?_))
  have fin : wpAny M A (call (.builtin "object.__ne__") ([.ref x] ++ args) >>= fun v => pure (some v)) Q E s := wpAny_bind (wpAny_mono h (fun v s' h' => wpAny_pure h') fun _ _ h' => h')
  have bnd : PySem.W.Looks M s.heap (bindSpecial (.builtin "object.__ne__") (.ref x)) (.builtin "object.__ne__", [.ref x]) := PySem.W.Looks.of_pure (one_bind _)
  split
  · exact wpAny_bind (bnd.here (wpAny_pure (by exact fin)))
  · exact wpAny_tryCatch (wpAny_bind (bnd.here (wpAny_pure (by exact fin))))
theorem ne_entry {prog : Program} {w : World} {A : Around} {E : Value → Shared → Prop} {s : Shared} {K : PySem.W.Frag} {x C f : Addr} {ox : Obj} {od : Option Obj} {b : Value} {Q : Value → Shared → Prop} (hu : A.in1.units < cLine) (X : K.In s.heap) (I : PySem.W.InstAt s.heap x ox C od)
    (hob : PySem.W.subIn K (.ref C) (.type "object") = some true) (at_ : PySem.W.findIn K (.ref C) "__eq__" = some (some (.ref f))) (isf : PySem.W.isFn K (.ref f) = true)
    (go : wpAny (model prog w) A.in1 (call (.ref f) [.ref x, b]) (fun v s' => ∃ c, v = .bool c ∧ Q (.bool (!c)) s') E s) : wpAny (model prog w) A (call (.builtin "object.__ne__") [.ref x, b]) Q E s := by
  have hi : PySem.W.Looks (model prog w) s.heap (isInstance (.ref x) (.type "object")) true := I.type.andThen (PySem.W.looks_subIn X hob)
  refine wpAny_call (codeAny_call_builtin (by decide +kernel) F.cmpEntry_ne (PySem.W.check_slot F.cmpKind_ne F.cmpSplit_ne hi (F.cmpArgs_ne _ _) ?_))
  unfold Builtin.«object.__ne__»
  refine wpAny_bind (m := slotArgs "__ne__" 1 _) (wpAny_of_eq (a := ((Value.ref x : Value), [b])) (by first | rfl | (simp only [slotArgs]; rfl)) ?_)
  refine wpAny_bind (wpAny_cRoomFor hu ?_)
  refine wpAny_bind (m := callSpecialIfBound? (.ref x) (Str.ofString "__eq__") [b]) (PySem.W.ifBound_K X I at_ isf (wpAny_mono go (fun v s' hv => ?_) fun _ _ z => z))
  obtain ⟨c, rfl, hq⟩ := hv
  show wpAny (model prog w) A.in1 (truthy (.bool c) >>= fun b => ret (Value.bool !b)) _ E s'
  exact wpAny_bind (wpAny_of_eq (a := c) (by first | rfl | simp [truthy]) (wpAny_pure hq))
theorem ne_own {prog : Program} {w : World} {A : Around} {E : Value → Shared → Prop} {s : Shared} {K : PySem.W.Frag} {x C f : Addr} {ox : Obj} {od : Option Obj} {b tb : Value} {Q : Value → Shared → Prop} (hu : A.units < cLine) (hu1 : A.in1.units < cLine) (X : K.In s.heap) (I : PySem.W.InstAt s.heap x ox C od) (tyb : PySem.W.Looks (model prog w) s.heap (typeOf b) tb)
    (nf : PySem.W.notFirst K C tb = true) (hne : PySem.W.findIn K (.ref C) "__ne__" = some (some (.builtin "object.__ne__"))) (hob : PySem.W.subIn K (.ref C) (.type "object") = some true) (at_ : PySem.W.findIn K (.ref C) "__eq__" = some (some (.ref f))) (isf : PySem.W.isFn K (.ref f) = true)
    (go : wpAny (model prog w) A.in1 (call (.ref f) [.ref x, b]) (fun v s' => ∃ c, v = .bool c ∧ Q (.bool (!c)) s') E s) : wpAny (model prog w) A (richCompare .NotEq (.ref x) b) Q E s := by
  have mine : wpAny (model prog w) A (tryCompare (.ref x) (cmpInfo .NotEq).2.1 b) (fun r s' => ∃ v, r = some v ∧ Q v s') E s := by
    show wpAny (model prog w) A (tryCompare (.ref x) "__ne__" b) _ E s
    unfold tryCompare
    have ent : wpAny (model prog w) A (call (.builtin "object.__ne__") [.ref x, b]) (fun v s' => ∃ c, v = .bool c ∧ Q (.bool c) s') E s :=
      ne_entry (Q := fun v s' => ∃ c, v = .bool c ∧ Q (.bool c) s') hu1 X I hob at_ isf (wpAny_mono go (fun v s' hv => by
        obtain ⟨c, rfl, hq⟩ := hv
        exact ⟨c, rfl, !c, rfl, hq⟩) fun _ _ z => z)
    refine wpAny_bind (ifBound_ne X I hne (wpAny_mono ent (fun v s' hv => ?_) fun _ _ z => z))
    obtain ⟨c, rfl, hq⟩ := hv
    exact wpAny_pure ⟨_, rfl, hq⟩
  have last : ∀ {g : Option Value → Sem Value}, (∀ v, g (some v) = pure v) → wpAny (model prog w) A (tryCompare (.ref x) (cmpInfo .NotEq).2.1 b >>= g) Q E s := fun {g} hg => wpAny_bind (wpAny_mono mine (fun r s' ⟨v, er, hq⟩ => by rw [er, hg]; exact wpAny_pure hq) fun _ _ z => z)
  unfold richCompare
  simp only [oneThing_ref]
  refine wpAny_holding (wpAny_bind (wpAny_cRoomFor hu ?_))
  refine wpAny_bind (I.type.here (wpAny_bind (tyb.here ?_)))
  split
  · rename_i q
    have sb : PySem.W.subIn K tb (.ref C) = some false := by
      rcases Bool.or_eq_true_iff.mp nf with z | z
      · rw [beq_iff_eq.mp z] at q
        simp at q
      · exact beq_iff_eq.mp z
    refine wpAny_bind ((PySem.W.looks_subIn X sb).here ?_)
    simp only [Bool.false_eq_true, if_false]
    exact last fun v => rfl
  · refine wpAny_bind (wpAny_pure ?_)
    simp only [Bool.false_eq_true, if_false]
    exact last fun v => rfl
section
variable {X : Cx} {k j : Nat} {C : Addr} {sp : Sp}
def rNeO (C : Addr) (sp : Sp) : R2 := fun x y H Q => ∃ (a b dx dy : Addr) (fs gs : List (Str × V)), x = .ref a ∧ y = .ref b ∧ H a = some (.ins C dx fs) ∧ H b = some (.ins C dy gs) ∧ sp [.ref a, .ref b] H (fun v H' => ∃ c : Bool, v = .bl c ∧ Q (.bl (!c)) H') E0
theorem op_neO (c : Met X.prog X.w X.K X.mg X.base k C "__eq__" sp) (hr : Room j X.A) (hk : k + 1 ≤ j) (nf : PySem.W.notFirst X.K C (.ref C) = true) (hne : PySem.W.findIn X.K (.ref C) "__ne__" = some (some (.builtin "object.__ne__"))) (hob : PySem.W.subIn X.K (.ref C) (.type "object") = some true) : OpR X (compareOp .NotEq) (rNeO C sp) := by
  intro pins s σ H x y v u Q I rx ry h
  obtain ⟨a, b, dx, dy, fs, gs, rfl, rfl, ha, hb, q⟩ := h
  obtain ⟨f, fd, ps, hc, hm, F, bd⟩ := c.ex
  cases (show v = Value.ref a from rx)
  cases (show u = Value.ref b from ry)
  obtain ⟨ox, od, J⟩ := inst_of I ha
  obtain ⟨ox2, od2, J2⟩ := inst_of I hb
  have hu : X.A.units < cLine := by have := hr.units; omega
  have hu1 : X.A.in1.units < cLine := by
    have := hr.units
    show X.A.units + 1 < cLine
    omega
  show wpAny _ X.A (richCompare .NotEq _ _) _ _ s
  refine ne_own hu hu1 I.kIn J J2.type nf hne hob hm.at_ hm.fn (wpAny_mono (run_at (A := X.A.in1) (vs := [.ref a, .ref b]) F (hr.mono hk).in1 bd I I.env0.in1 (.cons rfl (.cons rfl .nil)) q) (fun w s' hw => ?_) fun _ _ z => z)
  obtain ⟨z, H', I', r, c, rfl, hq⟩ := hw
  cases r
  exact ⟨c, rfl, .bl (!c), H', I', rfl, hq⟩
end
end Lp
set_option Elab.async false
set_option linter.all false
set_option maxRecDepth 100000
set_option maxHeartbeats 1000000
namespace Lp
open PySem PySem.Spec PyProof.Rows L2
/-! ### a == y, a != y of an instance and any value -/
section
variable {X : Cx} {k j : Nat} {C : Addr} {sp : Sp}
def rEqOV (K : PySem.W.Frag) (C : Addr) (sp : Sp) : R2 := fun x y H Q => ∃ (a dx : Addr) (fs : List (Str × V)) (t : Value), x = .ref a ∧ H a = some (.ins C dx fs) ∧ TyX K H y t ∧ PySem.W.notFirst K C t = true ∧ sp [.ref a, y] H Q E0
theorem op_eqOV (c : Met X.prog X.w X.K X.mg X.base k C "__eq__" sp) (hr : Room j X.A) (hk : k ≤ j) : OpR X (compareOp .Eq) (rEqOV X.K C sp) := by
  intro pins s σ H x y v u Q I rx ry h
  obtain ⟨a, dx, fs, t, rfl, ha, ty, nf, q⟩ := h
  obtain ⟨f, fd, ps, hc, hm, F, bd⟩ := c.ex
  cases (show v = Value.ref a from rx)
  obtain ⟨ox, od, J⟩ := inst_of I ha
  obtain ⟨P, Z, p, _⟩ := kit_of I ry ty
  have hu : X.A.units < cLine := by have := hr.units; omega
  show wpAny _ X.A (richCompare .Eq _ _) _ _ s
  refine eq_own (op := .Eq) hu I.kIn J (Z.ty _ _ I.kIn p) nf hm.at_ hm.fn (wpAny_mono (run_at (vs := [.ref a, y]) F (hr.mono hk) bd I I.env0 (.cons rfl (.cons ry .nil)) q) (fun w s' hw => ?_) fun _ _ z => z)
  exact ⟨by obtain ⟨z, _, _, r, _⟩ := hw; exact relV_ni r, hw⟩
def rNeOV (K : PySem.W.Frag) (C : Addr) (sp : Sp) : R2 := fun x y H Q => ∃ (a dx : Addr) (fs : List (Str × V)) (t : Value), x = .ref a ∧ H a = some (.ins C dx fs) ∧ TyX K H y t ∧ PySem.W.notFirst K C t = true ∧ sp [.ref a, y] H (fun v H' => ∃ c : Bool, v = .bl c ∧ Q (.bl (!c)) H') E0
theorem op_neOV (c : Met X.prog X.w X.K X.mg X.base k C "__eq__" sp) (hr : Room j X.A) (hk : k + 1 ≤ j) (hne : PySem.W.findIn X.K (.ref C) "__ne__" = some (some (.builtin "object.__ne__"))) (hob : PySem.W.subIn X.K (.ref C) (.type "object") = some true) : OpR X (compareOp .NotEq) (rNeOV X.K C sp) := by
  intro pins s σ H x y v u Q I rx ry h
  obtain ⟨a, dx, fs, t, rfl, ha, ty, nf, q⟩ := h
  obtain ⟨f, fd, ps, hc, hm, F, bd⟩ := c.ex
  cases (show v = Value.ref a from rx)
  obtain ⟨ox, od, J⟩ := inst_of I ha
  obtain ⟨P, Z, p, _⟩ := kit_of I ry ty
  have hu : X.A.units < cLine := by have := hr.units; omega
  have hu1 : X.A.in1.units < cLine := by
    have := hr.units
    show X.A.units + 1 < cLine
    omega
  show wpAny _ X.A (richCompare .NotEq _ _) _ _ s
  refine ne_own hu hu1 I.kIn J (Z.ty _ _ I.kIn p) nf hne hob hm.at_ hm.fn (wpAny_mono (run_at (A := X.A.in1) (vs := [.ref a, y]) F (hr.mono hk).in1 bd I I.env0.in1 (.cons rfl (.cons ry .nil)) q) (fun w s' hw => ?_) fun _ _ z => z)
  obtain ⟨z, H', I', r, c, rfl, hq⟩ := hw
  cases r
  exact ⟨c, rfl, .bl (!c), H', I', rfl, hq⟩
end
end Lp
set_option Elab.async false
set_option linter.all false
set_option maxRecDepth 100000
namespace Lp
open PySem PySem.Spec PyProof.Rows L2
/-! ### the same, with K told apart (for comprehensions) -/
section
variable {X : Cx} {K : PySem.W.Frag} {k j : Nat} {C : Addr} {sp : Sp}
theorem k_eqOV (e : X.K = K) (c : Met X.prog X.w X.K X.mg X.base k C "__eq__" sp) (hr : Room j X.A) (hk : k ≤ j) : OpR X (compareOp .Eq) (rEqOV K C sp) := by
  subst e
  exact op_eqOV c hr hk
theorem k_neOV (e : X.K = K) (c : Met X.prog X.w X.K X.mg X.base k C "__eq__" sp) (hr : Room j X.A) (hk : k + 1 ≤ j) (hne : PySem.W.findIn X.K (.ref C) "__ne__" = some (some (.builtin "object.__ne__"))) (hob : PySem.W.subIn X.K (.ref C) (.type "object") = some true) : OpR X (compareOp .NotEq) (rNeOV K C sp) := by
  subst e
  exact op_neOV c hr hk hne hob
end
end Lp
set_option Elab.async false
set_option linter.all false
set_option maxRecDepth 100000
namespace Lp
open PySem PySem.Spec PyProof.Rows L2
/-! ### values of any kind: None, bools, ints, texts, lists, tuples, the empty dict -/
mutual
inductive Ox (K : PySem.W.Frag) (H : Hp) : V → PyData → Prop
  | non : Ox K H .non .none
  | bl (b : Bool) : Ox K H (.bl b) (.bool b)
  | int (i : Int) : Ox K H (.int i) (.int i)
  | str (x : Str) : Ox K H (.str x) (.str x)
  | lst {a : Addr} {xs : List V} {ds : List PyData} : SqL K H a xs → OxAll K H xs ds → Ox K H (.ref a) (.list ds)
  | tup {a : Addr} {xs : List V} {ds : List PyData} : SqT K H a xs → OxAll K H xs ds → Ox K H (.ref a) (.tuple ds)
  | dct {a : Addr} : H a = some (.dK []) → Ox K H (.ref a) (.dict [])
inductive OxAll (K : PySem.W.Frag) (H : Hp) : List V → List PyData → Prop
  | nil : OxAll K H [] []
  | cons {v : V} {vs : List V} {d : PyData} {ds : List PyData} : Ox K H v d → OxAll K H vs ds → OxAll K H (v :: vs) (d :: ds)
end
section
variable {X : Cx} {pins : List (Addr × Obj)} {σ : L2.St} {H : Hp} {s : Shared}
open PySem
/-- the empty dict, as it stands -/
theorem Ox.dctAt (I : Inv X pins σ H s) {a : Addr} (ha : H a = some (.dK [])) : ∃ o es ep, s.heap.get? a = some o ∧ o.cls = .type "dict" ∧ o.data = .dict es ep ∧ es.toList = [] ∧ (a == sysModules) = false := by
  obtain ⟨_, hns, vs, hkv, o, es, ep, e1, ex, ed, _, pr, _⟩ := (show ObjOk X.prog X.w H s.heap a (.dK []) from I.hok _ _ ha)
  cases hkv
  exact ⟨o, es, ep, e1, ex.1, ed, List.length_eq_zero_iff.mp pr.length, hns⟩
mutual
theorem Ox.rk (I : Inv X pins σ H s) : ∀ (d : PyData) (v : V) (u : Value), Ox X.K H v d → RelV v u → d.showable = true → d.shown.length ≤ sizeLine → ∃ bs as, Reads s.heap u d as ∧ ReadAtMost s.heap d.depth bs ∧ ReprK X.prog X.w bs s.heap d.depth u d.shown
  | .none, _, _, h, r, _, _ => by
    cases h
    cases r
    exact ⟨[], _, Reads.none, (fun _ z => absurd z List.not_mem_nil), .of_is ReprIs.none _ _ _⟩
  | .bool b, _, _, h, r, _, _ => by
    cases h
    cases r
    exact ⟨[], _, Reads.bool b, (fun _ z => absurd z List.not_mem_nil), .of_is (ReprIs.bool b) _ _ _⟩
  | .int i, _, _, h, r, sh, _ => by
    cases h
    obtain ⟨t, rfl⟩ := r
    exact ⟨[], _, Reads.int i t, (fun _ z => absurd z List.not_mem_nil), .of_is (ReprIs.int t (of_decide_eq_true sh)) _ _ _⟩
  | .str x, _, _, h, r, _, hz => by
    cases h
    obtain ⟨t, rfl⟩ := r
    exact ⟨[], _, Reads.str x t, (fun _ z => absurd z List.not_mem_nil), .of_is (ReprIs.str x t hz) _ _ _⟩
  | .list ds, _, _, h, r, sh, hz => by
    cases h with
    | @lst a xs _ hs ha =>
      cases r
      obtain ⟨its, rv, ⟨o, n, ho, hc, _, hd⟩, _⟩ := I.list hs
      have len : (listText (PyData.shownAll ds)).length ≤ sizeLine := hz
      obtain ⟨bs, as, ra, rb, rk⟩ := Ox.rkAll I ds xs its ha rv sh (fun t ht => Nat.le_trans (listText_mem_le ht) len)
      have rr := Reads.list ho hc hd ra
      have fresh : a ∉ bs := not_mem_of_deeper rr (Nat.lt_succ_self (PyData.depthAll ds)) rb
      refine ⟨a :: bs, _, rr, ReadAtMost.cons rr (Nat.le_succ (PyData.depthAll ds)) rb, ?_⟩
      show ReprK X.prog X.w (a :: bs) s.heap (PyData.depthAll ds + 1) (.ref a) (listText (PyData.shownAll ds))
      cases its with
      | nil =>
        cases ra
        show ReprK X.prog X.w (a :: bs) s.heap _ (.ref a) (listText [])
        rw [listText_nil]
        exact ReprK.listEmpty ho hc hd
      | cons y l => exact ReprK.list ho hc hd fresh (by simpa using rk.length_eq) (fun i z e => rk.item i z (by simpa using e))
  | .tuple ds, _, _, h, r, sh, hz => by
    cases h with
    | @tup a xs _ hs ha =>
      cases r
      obtain ⟨its, rv, ⟨o, ho, hc, n, hd⟩, _⟩ := I.tuple hs
      have len : (tupleText (PyData.shownAll ds)).length ≤ sizeLine := hz
      obtain ⟨bs, as, ra, rb, rk⟩ := Ox.rkAll I ds xs its ha rv sh (fun t ht => Nat.le_trans (tupleText_mem_le ht) len)
      have rr := Reads.tuple ho hc hd ra
      have fresh : a ∉ bs := not_mem_of_deeper rr (Nat.lt_succ_self (PyData.depthAll ds)) rb
      exact ⟨a :: bs, _, rr, ReadAtMost.cons rr (Nat.le_succ (PyData.depthAll ds)) rb, ReprK.tuple ho hc hd fresh rk⟩
  | .dict kvs, _, _, h, r, _, _ => by
    cases h with
    | @dct a ha =>
      cases r
      obtain ⟨o, es, ep, e1, ec, ed, e0, hns⟩ := Ox.dctAt I ha
      have rr : Reads s.heap (.ref a) (.dict []) [a] := Reads.dict (kvs := []) (as := []) (bs := []) e1 ec ed (by rw [e0]; exact ReadsAll.nil) (by rw [e0]; exact ReadsAll.nil)
      refine ⟨[a], _, rr, ReadAtMost.cons (n := 0) rr (Nat.zero_le _) (fun _ z => absurd z List.not_mem_nil), ?_⟩
      exact ReprK.dict (d := 0) e1 ec ed hns List.not_mem_nil (by rw [e0]; exact ReprEntriesK.of_two [] [] [] .nil .nil)
theorem Ox.rkAll (I : Inv X pins σ H s) : ∀ (ds : List PyData) (vs : List V) (us : List Value), OxAll X.K H vs ds → Vals vs us → PyData.showableAll ds = true → (∀ t ∈ PyData.shownAll ds, t.length ≤ sizeLine) → ∃ bs as, ReadsAll s.heap us ds as ∧ ReadAtMost s.heap (PyData.depthAll ds) bs ∧ ReprAllK X.prog X.w bs s.heap (PyData.depthAll ds) us (PyData.shownAll ds)
  | [], _, _, h, r, _, _ => by
    cases h
    cases r
    exact ⟨[], _, ReadsAll.nil, (fun _ z => absurd z List.not_mem_nil), .nil⟩
  | d :: ds, _, _, h, r, sh, hz => by
    cases h with
    | cons h1 h2 =>
      cases r with
      | cons r1 r2 =>
        have sh2 : (d.showable && PyData.showableAll ds) = true := sh
        rw [Bool.and_eq_true] at sh2
        obtain ⟨b1, a1, q1, m1, k1⟩ := Ox.rk I d _ _ h1 r1 sh2.1 (hz _ List.mem_cons_self)
        obtain ⟨b2, a2, q2, m2, k2⟩ := Ox.rkAll I ds _ _ h2 r2 sh2.2 (fun t ht => hz t (List.mem_cons_of_mem _ ht))
        have l1 : d.depth ≤ PyData.depthAll (d :: ds) := Nat.le_max_left _ _
        have l2 : PyData.depthAll ds ≤ PyData.depthAll (d :: ds) := Nat.le_max_right _ _
        exact ⟨b1 ++ b2, _, ReadsAll.cons q1 q2, (m1.mono l1).append (m2.mono l2), .cons ((k1.more fun b z => List.mem_append_left _ z).level_le l1) (k2.more_le (fun b z => List.mem_append_right _ z) l2)⟩
end
end
section
variable {K : PySem.W.Frag} {H H' : Hp}
mutual
theorem ox_same (s : Same H H') : ∀ {v : V} {d : PyData}, Ox K H v d → Ox K H' v d
  | _, _, .non => .non
  | _, _, .bl b => .bl b
  | _, _, .int i => .int i
  | _, _, .str x => .str x
  | _, _, .lst h1 h2 => .lst (s.seq h1) (oxAll_same s h2)
  | _, _, .tup h1 h2 => .tup (seqT s h1) (oxAll_same s h2)
  | _, _, .dct h => .dct (s _ _ h)
theorem oxAll_same (s : Same H H') : ∀ {vs : List V} {ds : List PyData}, OxAll K H vs ds → OxAll K H' vs ds
  | _, _, .nil => .nil
  | _, _, .cons h1 h2 => .cons (ox_same s h1) (oxAll_same s h2)
end
mutual
theorem ox_dp : ∀ {v : V} {d : PyData}, Dp K H v d → Ox K H v d
  | _, _, .non => .non
  | _, _, .bl b => .bl b
  | _, _, .int i => .int i
  | _, _, .str x => .str x
  | _, _, .lst h1 h2 => .lst h1 (oxAll_dp h2)
  | _, _, .tup h1 h2 => .tup h1 (oxAll_dp h2)
theorem oxAll_dp : ∀ {vs : List V} {ds : List PyData}, DpAll K H vs ds → OxAll K H vs ds
  | _, _, .nil => .nil
  | _, _, .cons h1 h2 => .cons (ox_dp h1) (oxAll_dp h2)
end
theorem oxAll_len : ∀ {vs : List V} {ds : List PyData}, OxAll K H vs ds → vs.length = ds.length
  | _, _, .nil => rfl
  | _, _, .cons _ h => congrArg (· + 1) (oxAll_len h)
theorem oxAll_get : ∀ {vs : List V} {ds : List PyData} {i : Nat} {v : V}, OxAll K H vs ds → vs[i]? = some v → ∃ d, ds[i]? = some d ∧ Ox K H v d
  | _, _, 0, _, .cons h _, e => by cases e; exact ⟨_, rfl, h⟩
  | _, _, i + 1, _, .cons _ h, e => oxAll_get (i := i) h e
theorem oxAll_app : ∀ {vs ws : List V} {ds es : List PyData}, OxAll K H vs ds → OxAll K H ws es → OxAll K H (vs ++ ws) (ds ++ es)
  | _, _, _, _, .nil, h => h
  | _, _, _, _, .cons h1 h2, h => .cons h1 (oxAll_app h2 h)
theorem oxAll_take : ∀ {vs : List V} {ds : List PyData} (n : Nat), OxAll K H vs ds → OxAll K H (vs.take n) (ds.take n)
  | _, _, 0, _ => .nil
  | _, _, _ + 1, .nil => .nil
  | _, _, n + 1, .cons h1 h2 => .cons h1 (oxAll_take n h2)
theorem oxAll_drop : ∀ {vs : List V} {ds : List PyData} (n : Nat), OxAll K H vs ds → OxAll K H (vs.drop n) (ds.drop n)
  | _, _, 0, h => h
  | _, _, _ + 1, .nil => .nil
  | _, _, n + 1, .cons _ h2 => oxAll_drop n h2
theorem oxAll_ints : ∀ ns : List Int, OxAll K H (ns.map V.int) (ns.map PyData.int)
  | [] => .nil
  | n :: r => .cons (.int n) (oxAll_ints r)
end
/-- the type of a value by its data -/
def tyD : PyData → String
  | .none => "NoneType" | .bool _ => "bool" | .int _ => "int" | .str _ => "str" | .list _ => "list" | .tuple _ => "tuple" | .dict _ => "dict"
section
variable {K : PySem.W.Frag} {H : Hp}
theorem Ox.tyx {v : V} {d : PyData} (h : Ox K H v d) : TyX K H v (.type (tyD d)) := by
  cases h with
  | non => exact .base .non
  | bl b => exact .base (.bl b)
  | int i => exact .base (.int i)
  | str x => exact .base (.str x)
  | lst h1 _ => exact tyx_l h1
  | tup h1 _ => exact tyx_t h1
  | dct h => exact .base (.dK h)
theorem Ox.tyb {v : V} {d : PyData} (h : Ox K H v d) : TyB K H v (tyD d) := by
  cases h with
  | non => exact .non
  | bl b => exact .bl b
  | int i => exact .int i
  | str x => exact .str x
  | lst h1 _ => exact .lst h1
  | tup h1 _ => exact .tup h1
  | dct h => exact .dK h
theorem tyD_meta (d : PyData) : ∀ s' : Shared, s'.TypeIs (.type (tyD d)) "type" := by
  cases d with
  | none => exact PySem.TypeEq.meta_NoneType
  | bool _ => exact PySem.TypeEq.meta_bool
  | int _ => exact PySem.TypeEq.meta_int
  | str _ => exact PySem.TypeEq.meta_str
  | list _ => exact PySem.TypeEq.meta_list
  | tuple _ => exact PySem.TypeEq.meta_tuple
  | dict _ => exact PySem.TypeEq.meta_dict
end
def isI : PyData → Bool | .int _ => true | _ => false
def isB : PyData → Bool | .bool _ => true | _ => false
def isL : PyData → Bool | .list _ => true | _ => false
def isT : PyData → Bool | .tuple _ => true | _ => false
def isS : PyData → Bool | .str _ => true | _ => false
def isN : PyData → Bool | .none => true | _ => false
theorem kit_int {K : PySem.W.Frag} (d : PyData) : PySem.W.kitOne K (.type (tyD d)) (.type "int") = some (isI d || isB d) :=
  match d with
  | .none => kit_ty (show kitB "NoneType" "int" = some false by decide +kernel)
  | .bool _ => kit_ty (show kitB "bool" "int" = some true by decide +kernel)
  | .int _ => kit_ty (show kitB "int" "int" = some true by decide +kernel)
  | .str _ => kit_ty (show kitB "str" "int" = some false by decide +kernel)
  | .list _ => kit_ty (show kitB "list" "int" = some false by decide +kernel)
  | .tuple _ => kit_ty (show kitB "tuple" "int" = some false by decide +kernel)
  | .dict _ => kit_ty (show kitB "dict" "int" = some false by decide +kernel)
theorem kit_bool {K : PySem.W.Frag} (d : PyData) : PySem.W.kitOne K (.type (tyD d)) (.type "bool") = some (isB d) :=
  match d with
  | .none => kit_ty (show kitB "NoneType" "bool" = some false by decide +kernel)
  | .bool _ => kit_ty (show kitB "bool" "bool" = some true by decide +kernel)
  | .int _ => kit_ty (show kitB "int" "bool" = some false by decide +kernel)
  | .str _ => kit_ty (show kitB "str" "bool" = some false by decide +kernel)
  | .list _ => kit_ty (show kitB "list" "bool" = some false by decide +kernel)
  | .tuple _ => kit_ty (show kitB "tuple" "bool" = some false by decide +kernel)
  | .dict _ => kit_ty (show kitB "dict" "bool" = some false by decide +kernel)
theorem kit_list {K : PySem.W.Frag} (d : PyData) : PySem.W.kitOne K (.type (tyD d)) (.type "list") = some (isL d) :=
  match d with
  | .none => kit_ty (show kitB "NoneType" "list" = some false by decide +kernel)
  | .bool _ => kit_ty (show kitB "bool" "list" = some false by decide +kernel)
  | .int _ => kit_ty (show kitB "int" "list" = some false by decide +kernel)
  | .str _ => kit_ty (show kitB "str" "list" = some false by decide +kernel)
  | .list _ => kit_ty (show kitB "list" "list" = some true by decide +kernel)
  | .tuple _ => kit_ty (show kitB "tuple" "list" = some false by decide +kernel)
  | .dict _ => kit_ty (show kitB "dict" "list" = some false by decide +kernel)
theorem kit_tuple {K : PySem.W.Frag} (d : PyData) : PySem.W.kitOne K (.type (tyD d)) (.type "tuple") = some (isT d) :=
  match d with
  | .none => kit_ty (show kitB "NoneType" "tuple" = some false by decide +kernel)
  | .bool _ => kit_ty (show kitB "bool" "tuple" = some false by decide +kernel)
  | .int _ => kit_ty (show kitB "int" "tuple" = some false by decide +kernel)
  | .str _ => kit_ty (show kitB "str" "tuple" = some false by decide +kernel)
  | .list _ => kit_ty (show kitB "list" "tuple" = some false by decide +kernel)
  | .tuple _ => kit_ty (show kitB "tuple" "tuple" = some true by decide +kernel)
  | .dict _ => kit_ty (show kitB "dict" "tuple" = some false by decide +kernel)
theorem kit_str {K : PySem.W.Frag} (d : PyData) : PySem.W.kitOne K (.type (tyD d)) (.type "str") = some (isS d) :=
  match d with
  | .none => kit_ty (show kitB "NoneType" "str" = some false by decide +kernel)
  | .bool _ => kit_ty (show kitB "bool" "str" = some false by decide +kernel)
  | .int _ => kit_ty (show kitB "int" "str" = some false by decide +kernel)
  | .str _ => kit_ty (show kitB "str" "str" = some true by decide +kernel)
  | .list _ => kit_ty (show kitB "list" "str" = some false by decide +kernel)
  | .tuple _ => kit_ty (show kitB "tuple" "str" = some false by decide +kernel)
  | .dict _ => kit_ty (show kitB "dict" "str" = some false by decide +kernel)
/-- type(x) != T -/
theorem neTyL {σ : L2.St} {H : Hp} {d : PyData} {Q : VK} (q : Q (.bl (!isL d)) H) : tC (.ty "list") σ H (fun y H2 => rNeTyG (.ty (tyD d)) y H2 Q) := by
  show rNeTyG (.ty (tyD d)) (.ty "list") H Q
  cases d with
  | list ds => exact .inl ⟨_, rfl, rfl, PySem.TypeEq.meta_list, q⟩
  | none => exact .inr ⟨_, _, rfl, rfl, PySem.TypeEq.meta_NoneType, PySem.TypeEq.meta_list, (show (Value.type "NoneType" == Value.type "list") = false by decide +kernel), (show (Value.type "list" == Value.type "NoneType") = false by decide +kernel), q⟩
  | bool _ => exact .inr ⟨_, _, rfl, rfl, PySem.TypeEq.meta_bool, PySem.TypeEq.meta_list, (show (Value.type "bool" == Value.type "list") = false by decide +kernel), (show (Value.type "list" == Value.type "bool") = false by decide +kernel), q⟩
  | int _ => exact .inr ⟨_, _, rfl, rfl, PySem.TypeEq.meta_int, PySem.TypeEq.meta_list, (show (Value.type "int" == Value.type "list") = false by decide +kernel), (show (Value.type "list" == Value.type "int") = false by decide +kernel), q⟩
  | str _ => exact .inr ⟨_, _, rfl, rfl, PySem.TypeEq.meta_str, PySem.TypeEq.meta_list, (show (Value.type "str" == Value.type "list") = false by decide +kernel), (show (Value.type "list" == Value.type "str") = false by decide +kernel), q⟩
  | tuple _ => exact .inr ⟨_, _, rfl, rfl, PySem.TypeEq.meta_tuple, PySem.TypeEq.meta_list, (show (Value.type "tuple" == Value.type "list") = false by decide +kernel), (show (Value.type "list" == Value.type "tuple") = false by decide +kernel), q⟩
  | dict _ => exact .inr ⟨_, _, rfl, rfl, PySem.TypeEq.meta_dict, PySem.TypeEq.meta_list, (show (Value.type "dict" == Value.type "list") = false by decide +kernel), (show (Value.type "list" == Value.type "dict") = false by decide +kernel), q⟩
theorem neTyT {σ : L2.St} {H : Hp} {d : PyData} {Q : VK} (q : Q (.bl (!isT d)) H) : tC (.ty "tuple") σ H (fun y H2 => rNeTyG (.ty (tyD d)) y H2 Q) := by
  show rNeTyG (.ty (tyD d)) (.ty "tuple") H Q
  cases d with
  | tuple ds => exact .inl ⟨_, rfl, rfl, PySem.TypeEq.meta_tuple, q⟩
  | none => exact .inr ⟨_, _, rfl, rfl, PySem.TypeEq.meta_NoneType, PySem.TypeEq.meta_tuple, (show (Value.type "NoneType" == Value.type "tuple") = false by decide +kernel), (show (Value.type "tuple" == Value.type "NoneType") = false by decide +kernel), q⟩
  | bool _ => exact .inr ⟨_, _, rfl, rfl, PySem.TypeEq.meta_bool, PySem.TypeEq.meta_tuple, (show (Value.type "bool" == Value.type "tuple") = false by decide +kernel), (show (Value.type "tuple" == Value.type "bool") = false by decide +kernel), q⟩
  | int _ => exact .inr ⟨_, _, rfl, rfl, PySem.TypeEq.meta_int, PySem.TypeEq.meta_tuple, (show (Value.type "int" == Value.type "tuple") = false by decide +kernel), (show (Value.type "tuple" == Value.type "int") = false by decide +kernel), q⟩
  | str _ => exact .inr ⟨_, _, rfl, rfl, PySem.TypeEq.meta_str, PySem.TypeEq.meta_tuple, (show (Value.type "str" == Value.type "tuple") = false by decide +kernel), (show (Value.type "tuple" == Value.type "str") = false by decide +kernel), q⟩
  | list _ => exact .inr ⟨_, _, rfl, rfl, PySem.TypeEq.meta_list, PySem.TypeEq.meta_tuple, (show (Value.type "list" == Value.type "tuple") = false by decide +kernel), (show (Value.type "tuple" == Value.type "list") = false by decide +kernel), q⟩
  | dict _ => exact .inr ⟨_, _, rfl, rfl, PySem.TypeEq.meta_dict, PySem.TypeEq.meta_tuple, (show (Value.type "dict" == Value.type "tuple") = false by decide +kernel), (show (Value.type "tuple" == Value.type "dict") = false by decide +kernel), q⟩

/-! ### how long the text of a value is -/
mutual
def wt : PyData → Nat
  | .none => 4
  | .bool _ => 5
  | .int i => (Str.ofString (toString i)).length
  | .str x => (reprText x).length
  | .list ds => 2 + wtAll ds
  | .tuple ds => 3 + wtAll ds
  | .dict _ => 2
def wtAll : List PyData → Nat
  | [] => 0
  | d :: ds => wt d + 2 + wtAll ds
end
/-! no dict but the empty one -/
mutual
def nod : PyData → Bool
  | .dict kvs => kvs.isEmpty
  | .list ds => nodAll ds
  | .tuple ds => nodAll ds
  | _ => true
def nodAll : List PyData → Bool
  | [] => true
  | d :: ds => nod d && nodAll ds
end
def sumLen (ts : List Str) : Nat := (ts.map fun t => t.length + 2).sum
theorem textFrom_sum : ∀ (ts : List Str) (k : Nat) (acc : Str), (textFrom k acc ts).length ≤ acc.length + sumLen ts
  | [], k, acc => by
    show acc.length ≤ _
    exact Nat.le_add_right _ _
  | t :: r, k, acc => by
    have z := textFrom_sum r (k + 1) (acc ++ (if k > 0 then ", " else "" : String) ++ t)
    have e : (acc ++ (if k > 0 then ", " else "" : String) ++ t).length ≤ acc.length + 2 + t.length := by
      rw [Str.length_append, Str.length_append]
      by_cases hk : k > 0
      · rw [if_pos hk]
        exact Nat.le_refl _
      · rw [if_neg hk]
        show acc.length + 0 + t.length ≤ _
        omega
    show (textFrom (k + 1) (acc ++ (if k > 0 then ", " else "" : String) ++ t) r).length ≤ acc.length + (t.length + 2 + sumLen r)
    omega
theorem join_sum : ∀ ts : List Str, (Str.join ", " ts).length ≤ sumLen ts
  | [] => Nat.zero_le _
  | [x] => by show x.length ≤ x.length + 2 + 0; omega
  | x :: y :: r => by
    have ih := join_sum (y :: r)
    show (x ++ ", " ++ Str.join ", " (y :: r)).length ≤ x.length + 2 + sumLen (y :: r)
    have e2 : ((", " : String) : Str).length = 2 := rfl
    rw [Str.length_append, Str.length_append, e2]
    omega
mutual
theorem shown_wt : ∀ d : PyData, nod d = true → d.shown.length ≤ wt d
  | .none, _ => by decide
  | .bool b, _ => by cases b <;> decide
  | .int i, _ => Nat.le_refl _
  | .str x, _ => Nat.le_refl _
  | .list ds, h => by
    have z := textFrom_sum (PyData.shownAll ds) 0 "["
    have z2 := shownAll_wt ds h
    show (textFrom 0 "[" (PyData.shownAll ds) ++ ("]" : Str)).length ≤ 2 + wtAll ds
    rw [Str.length_append]
    have e1 : ("[" : Str).length = 1 := rfl
    have e2 : ("]" : Str).length = 1 := rfl
    omega
  | .tuple ds, h => by
    have z := join_sum (PyData.shownAll ds)
    have z2 := shownAll_wt ds h
    show (("(" : Str) ++ Str.join ", " (PyData.shownAll ds) ++ (if (PyData.shownAll ds).length == 1 then ",)" else ")" : String)).length ≤ 3 + wtAll ds
    rw [Str.length_append, Str.length_append]
    have e1 : ("(" : Str).length = 1 := rfl
    have e2 : (((if (PyData.shownAll ds).length == 1 then ",)" else ")" : String)) : Str).length ≤ 2 := by split <;> decide
    omega
  | .dict kvs, h => by
    cases kvs with
    | nil => decide
    | cons _ _ => cases h
theorem shownAll_wt : ∀ ds : List PyData, nodAll ds = true → sumLen (PyData.shownAll ds) ≤ wtAll ds
  | [], _ => Nat.le_refl _
  | d :: ds, h => by
    have h : (nod d && nodAll ds) = true := h
    rw [Bool.and_eq_true] at h
    have a := shown_wt d h.1
    have b := shownAll_wt ds h.2
    show d.shown.length + 2 + sumLen (PyData.shownAll ds) ≤ wt d + 2 + wtAll ds
    omega
end
/-- data that is to be shown: its text, its depth -/
structure Bd (m k : Nat) (d : PyData) : Prop where
  w : wt d ≤ m
  dp : d.depth ≤ k
  s : d.showable = true
  n : nod d = true
structure BdAll (m k : Nat) (ds : List PyData) : Prop where
  w : wtAll ds ≤ m
  dp : PyData.depthAll ds ≤ k
  s : PyData.showableAll ds = true
  n : nodAll ds = true
theorem Bd.mono {m k m' k' : Nat} {d : PyData} (h : Bd m k d) (a : m ≤ m') (b : k ≤ k') : Bd m' k' d := ⟨Nat.le_trans h.w a, Nat.le_trans h.dp b, h.s, h.n⟩
theorem BdAll.mono {m k m' k' : Nat} {d : List PyData} (h : BdAll m k d) (a : m ≤ m') (b : k ≤ k') : BdAll m' k' d := ⟨Nat.le_trans h.w a, Nat.le_trans h.dp b, h.s, h.n⟩
theorem Bd.list {m k : Nat} {ds : List PyData} (h : BdAll m k ds) : Bd (2 + m) (k + 1) (.list ds) := ⟨Nat.add_le_add_left h.w 2, Nat.succ_le_succ h.dp, h.s, h.n⟩
theorem Bd.tuple {m k : Nat} {ds : List PyData} (h : BdAll m k ds) : Bd (3 + m) (k + 1) (.tuple ds) := ⟨Nat.add_le_add_left h.w 3, Nat.succ_le_succ h.dp, h.s, h.n⟩
theorem BdAll.nil {k : Nat} : BdAll 0 k [] := ⟨Nat.le_refl _, Nat.zero_le _, rfl, rfl⟩
theorem BdAll.cons {m n k : Nat} {d : PyData} {ds : List PyData} (h : Bd m k d) (g : BdAll n k ds) : BdAll (m + 2 + n) k (d :: ds) := by
  refine ⟨?_, Nat.max_le.mpr ⟨h.dp, g.dp⟩, ?_, ?_⟩
  · show wt d + 2 + wtAll ds ≤ _
    have := h.w
    have := g.w
    omega
  · show (d.showable && PyData.showableAll ds) = true
    rw [h.s, g.s]
    rfl
  · show (nod d && nodAll ds) = true
    rw [h.n, g.n]
    rfl
theorem BdAll.app {m n k : Nat} {as bs : List PyData} (h : BdAll m k as) (g : BdAll n k bs) : BdAll (m + n) k (as ++ bs) := by
  induction as generalizing m with
  | nil => exact g.mono (Nat.le_add_left _ _) (Nat.le_refl _)
  | cons d r ih =>
    obtain ⟨h1, h2, h3, h4⟩ := h
    have h3 : (d.showable && PyData.showableAll r) = true := h3
    have h4 : (nod d && nodAll r) = true := h4
    rw [Bool.and_eq_true] at h3 h4
    have h2 : max d.depth (PyData.depthAll r) ≤ k := h2
    have h1 : wt d + 2 + wtAll r ≤ m := h1
    have z := ih (m := wtAll r) ⟨Nat.le_refl _, Nat.le_trans (Nat.le_max_right _ _) h2, h3.2, h4.2⟩
    refine (BdAll.cons (m := wt d) ⟨Nat.le_refl _, Nat.le_trans (Nat.le_max_left _ _) h2, h3.1, h4.1⟩ z).mono (by omega) (Nat.le_refl _)
theorem BdAll.sub {m k : Nat} {as bs : List PyData} (h : BdAll m k bs) (s : as.Sublist bs) : BdAll m k as := by
  induction s generalizing m with
  | slnil => exact h
  | cons d _ ih =>
    obtain ⟨h1, h2, h3, h4⟩ := h
    have h3 : (d.showable && _) = true := h3
    have h4 : (nod d && _) = true := h4
    rw [Bool.and_eq_true] at h3 h4
    have h1 : wt d + 2 + _ ≤ m := h1
    exact ih ⟨by omega, Nat.le_trans (Nat.le_max_right _ _) h2, h3.2, h4.2⟩
  | @cons_cons l1 l2 d _ ih =>
    obtain ⟨h1, h2, h3, h4⟩ := h
    have h3 : (d.showable && _) = true := h3
    have h4 : (nod d && _) = true := h4
    rw [Bool.and_eq_true] at h3 h4
    have h1 : wt d + 2 + wtAll l2 ≤ m := h1
    have z := ih (m := wtAll l2) ⟨Nat.le_refl _, Nat.le_trans (Nat.le_max_right _ _) h2, h3.2, h4.2⟩
    exact (BdAll.cons (m := wt d) ⟨Nat.le_refl _, Nat.le_trans (Nat.le_max_left _ _) h2, h3.1, h4.1⟩ z).mono (by omega) (Nat.le_refl _)
theorem BdAll.get {m k : Nat} {ds : List PyData} (h : BdAll m k ds) {d : PyData} (hd : d ∈ ds) : Bd m k d := by
  induction ds generalizing m with
  | nil => cases hd
  | cons x r ih =>
    obtain ⟨h1, h2, h3, h4⟩ := h
    have h3 : (x.showable && _) = true := h3
    have h4 : (nod x && _) = true := h4
    rw [Bool.and_eq_true] at h3 h4
    have h1 : wt x + 2 + wtAll r ≤ m := h1
    rcases List.mem_cons.mp hd with rfl | hd
    · exact ⟨by omega, Nat.le_trans (Nat.le_max_left _ _) h2, h3.1, h4.1⟩
    · exact ih ⟨by omega, Nat.le_trans (Nat.le_max_right _ _) h2, h3.2, h4.2⟩ hd
/-- the text of a number of at most so many digits -/
theorem bd_int {i : Int} {k : Nat} (h : i.natAbs < 10 ^ 31) : Bd 40 k (.int i) := by
  have hb : i.natAbs < 2 ^ 110 := Nat.lt_trans h (by decide)
  have hl : i.natAbs.log2 < 1920 := Nat.lt_of_lt_of_le (PySem.Flt.log2_lt_of (by decide) hb) (by decide)
  refine ⟨?_, Nat.zero_le _, by show decide (i.natAbs.log2 < 1920) = true; exact decide_eq_true hl, rfl⟩
  show (Str.ofString (toString i)).length ≤ 40
  have z := PySem.int_text_length_le10 (a := i) (k := 31) (by decide) h
  rw [PySem.ofString_length]
  omega
theorem bd_ints {k m : Nat} : ∀ {ns : List Int}, (∀ n ∈ ns, n.natAbs < 10 ^ 31) → ns.length ≤ m → BdAll (m * 42) k (ns.map PyData.int)
  | [], _, _ => BdAll.nil.mono (Nat.zero_le _) (Nat.le_refl _)
  | n :: r, h, hm => by
    have hm : r.length + 1 ≤ m := hm
    have z := bd_ints (k := k) (m := r.length) (ns := r) (fun x hx => h x (List.mem_cons_of_mem _ hx)) (Nat.le_refl _)
    exact (BdAll.cons (bd_int (k := k) (h n List.mem_cons_self)) z).mono (by omega) (Nat.le_refl _)
/-! ### repr of any value -/
def rReprO (K : PySem.W.Frag) : List V → Hp → VK → Prop := fun xs H Q => ∃ (v : V) (d : PyData), xs = [v] ∧ Ox K H v d ∧ Bd 10000000 60 d ∧ Q (.str d.shown) H
theorem call_reprO {X : Cx} (hg : X.A.guards = some []) (hu : X.A.units + 64 < cLine) : CallR X (.builtin "repr") (rReprO X.K) := by
  intro pins s σ H xs us Q I r h
  obtain ⟨v, d, rfl, hv, hb, q⟩ := h
  obtain ⟨u, rfl, rx⟩ := vals1 r
  have hl : d.shown.length ≤ sizeLine := Nat.le_trans (Nat.le_trans (shown_wt d hb.n) hb.w) (by decide)
  have hdp := hb.dp
  have hs := hb.s
  cases hv with
  | non =>
    cases (show u = Value.none from rx)
    exact call_repr_gives (T := "NoneType") rfl F.slot_NoneType_repr F.entry_NoneType_repr (F.args_NoneType_repr_1 _) gives_none_repr ⟨.str _, H, I.tok _, ⟨_, rfl⟩, q⟩ (hx := by decide)
  | bl b =>
    cases (show u = Value.bool b from rx)
    exact PySem.P.repr_of_bool ⟨.str _, H, I.tok _, ⟨_, rfl⟩, by cases b <;> exact q⟩
  | int i =>
    obtain ⟨t, rfl⟩ := (show ∃ t, u = Value.int i t from rx)
    exact PySem.P.repr_of_int (of_decide_eq_true hs) ⟨.str _, H, I.tok _, ⟨_, rfl⟩, q⟩
  | str x =>
    obtain ⟨t, rfl⟩ := (show ∃ t, u = Value.str x t from rx)
    exact PySem.P.repr_of_str ⟨.str _, H, I.tok _, ⟨_, rfl⟩, q⟩ hl
  | @lst a xs ds hL ha =>
    cases (show u = Value.ref _ from rx)
    obtain ⟨its, rv, ⟨o, n, ho, hc, _, hd⟩, _⟩ := I.list hL
    have len : (PySem.listText (PyData.shownAll ds)).length ≤ sizeLine := hl
    have hdp : PyData.depthAll ds + 1 ≤ 60 := hdp
    obtain ⟨bs, as, ra, rb, rk⟩ := Ox.rkAll I ds xs its ha rv hs (fun t ht => Nat.le_trans (PySem.listText_mem_le ht) len)
    have rr := Reads.list ho hc hd ra
    have fresh : a ∉ bs := PySem.not_mem_of_deeper rr (Nat.lt_succ_self (PyData.depthAll ds)) rb
    refine PySem.call_repr_slot (T := "list") (idr := "list.__repr__") (by omega) ⟨o, ho, hc⟩ PySem.F.slot_list_repr.toG ?_
    cases its with
    | nil =>
      cases ra
      refine PySem.call_list_repr_empty ⟨o, ho, hc⟩ ho hd ⟨_, _, rfl, .str _, H, I.tok _, ⟨_, rfl⟩, ?_⟩
      have q : Q (.str (PySem.listText [])) H := q
      rw [PySem.listText_nil] at q
      exact q
    | cons y l => exact PySem.call_list_reprK ho hc hd fresh (by simpa using rk.length_eq) (fun i z e => rk.item i z (by simpa using e)) hg (fun b _ => PySem.Clear.nil b) (by show X.A.units + 1 + (PyData.depthAll ds + 1) < cLine; omega) (fun _ _ e => e) (fun h' t tk hk => ⟨_, _, rfl, .str _, H, I.kept hk, ⟨t, rfl⟩, q⟩) len
  | @tup a xs ds hT ha =>
    cases (show u = Value.ref _ from rx)
    obtain ⟨its, rv, ⟨o, ho, hc, n, hd⟩, _⟩ := I.tuple hT
    have len : (PySem.tupleText (PyData.shownAll ds)).length ≤ sizeLine := hl
    have hdp : PyData.depthAll ds + 1 ≤ 60 := hdp
    obtain ⟨bs, as, ra, rb, rk⟩ := Ox.rkAll I ds xs its ha rv hs (fun t ht => Nat.le_trans (PySem.tupleText_mem_le ht) len)
    have rr := Reads.tuple ho hc hd ra
    have fresh : a ∉ bs := PySem.not_mem_of_deeper rr (Nat.lt_succ_self (PyData.depthAll ds)) rb
    refine PySem.call_repr_slot (T := "tuple") (idr := "tuple.__repr__") (by omega) ⟨o, ho, hc⟩ PySem.F.slot_tuple_repr ?_
    exact PySem.call_tuple_reprK ho hc hd fresh rk hg (fun b _ => PySem.Clear.nil b) (by show X.A.units + 1 + (PyData.depthAll ds + 1) < cLine; omega) (fun _ _ e => e) (fun h' t tk hk => ⟨_, _, rfl, .str _, H, I.kept hk, ⟨t, rfl⟩, q⟩) len
  | @dct a ha =>
    cases (show u = Value.ref _ from rx)
    obtain ⟨o, es, ep, e1, ec, ed, e0, hns⟩ := Ox.dctAt I ha
    refine PySem.call_repr_slot (T := "dict") (idr := "dict.__repr__") (by omega) ⟨o, e1, ec⟩ PySem.F.slot_dict_repr ?_
    exact PySem.call_dict_reprK (d := 0) (as := []) e1 ec ed hns List.not_mem_nil (by rw [e0]; exact PySem.ReprEntriesK.of_two [] [] [] .nil .nil) hg (fun b _ => PySem.Clear.nil b) (by show X.A.units + 1 + (0 + 1) < cLine; omega) (fun _ _ e => e) (fun h' t tk hk => ⟨_, _, rfl, .str _, H, I.kept hk, ⟨t, rfl⟩, q⟩) (by decide)
end Lp
set_option Elab.async false
set_option linter.all false
set_option maxRecDepth 100000
set_option maxHeartbeats 1000000
namespace Lp
open PySem PySem.Spec PyProof.Rows L2
/-! ### a weaker promise of the same def -/
section
variable {P : Program} {w : World} {K : PySem.W.Frag} {mg : Str → Option Value} {base : Heap} {k : Nat} {x : Str} {sp sp' : Sp}
theorem FnOk.weak {CX : CXT} {f : Addr} {fd : FuncData} {ps : List Str} (F : FnOk P w K mg base CX k f fd ps sp) (h : ∀ vs H Q E, sp' vs H Q E → sp vs H Q E) : FnOk P w K mg base CX k f fd ps sp' :=
  ⟨fun vs H Q E s => F.len vs H Q E (h _ _ _ _ s), fun A out s H ar us vs Q E r e b v s1 => F.run A out s H ar us vs Q E r e b v (h _ _ _ _ s1)⟩
theorem FnG.weak {CX : CXT} {f : Addr} {fd : FuncData} {ps : List Str} (F : FnG P w K mg base CX k f fd ps sp) (h : ∀ vs H Q E, sp' vs H Q E → sp vs H Q E) : FnG P w K mg base CX k f fd ps sp' :=
  ⟨fun vs H Q E s => F.len vs H Q E (h _ _ _ _ s), fun A out s H ar us vs Q E g r e b v s1 => F.runG A out s H ar us vs Q E g r e b v (h _ _ _ _ s1)⟩
theorem cal_weak (c : Cal P w K mg base k x sp) (h : ∀ vs H Q E, sp' vs H Q E → sp vs H Q E) : Cal P w K mg base k x sp' := by
  obtain ⟨f, fd, ps, F, r⟩ := c.ex
  exact ⟨f, fd, ps, Lp.FnOk.weak F h, r⟩
theorem gc_weak (c : Gc P w K mg base k x sp) (h : ∀ vs H Q E, sp' vs H Q E → sp vs H Q E) : Gc P w K mg base k x sp' := by
  obtain ⟨f, fd, ps, F, r⟩ := c.ex
  exact ⟨f, fd, ps, Lp.FnG.weak F h, r⟩
end
/-! ### len(set(xs)), xs a list of ints -/
theorem firstMet_le (ns : List Int) : ∀ i : Nat, i ≤ ns.length → (PyProof.Rows.firstMet (fun j => ns.getD j 0) i).length ≤ i ∧ ((PyProof.Rows.firstMet (fun j => ns.getD j 0) i).length = i → PyProof.Rows.firstMet (fun j => ns.getD j 0) i = ns.take i ∧ (ns.take i).Nodup)
  | 0, _ => ⟨Nat.le_refl _, fun _ => ⟨by rw [List.take_zero]; rfl, by rw [List.take_zero]; exact List.nodup_nil⟩⟩
  | i + 1, h => by
    obtain ⟨h1, h2⟩ := firstMet_le ns i (by omega)
    have hlt : i < ns.length := h
    have e : ns.getD i 0 = ns[i] := by rw [List.getD_eq_getElem?_getD, List.getElem?_eq_getElem hlt] <;> rfl
    have st : PyProof.Rows.firstMet (fun j => ns.getD j 0) (i + 1) = if (PyProof.Rows.firstMet (fun j => ns.getD j 0) i).any (· == ns.getD i 0) = true then PyProof.Rows.firstMet (fun j => ns.getD j 0) i else PyProof.Rows.firstMet (fun j => ns.getD j 0) i ++ [ns.getD i 0] := by
      rw [PyProof.Rows.firstMet_succ]
      rfl
    rw [st]
    by_cases c : (PyProof.Rows.firstMet (fun j => ns.getD j 0) i).any (· == ns.getD i 0) = true
    · rw [if_pos c]
      exact ⟨by omega, fun z => by omega⟩
    · rw [if_neg c, List.length_append]
      refine ⟨by show _ + 1 ≤ _; omega, fun z => ?_⟩
      have z : (PyProof.Rows.firstMet (fun j => ns.getD j 0) i).length + 1 = i + 1 := z
      obtain ⟨a, b⟩ := h2 (by omega)
      have t : ns.take (i + 1) = ns.take i ++ [ns[i]] := take_get (List.getElem?_eq_getElem hlt)
      rw [a, e] at c
      rw [a, e, t]
      refine ⟨rfl, List.nodup_append.mpr ⟨b, List.nodup_cons.mpr ⟨List.not_mem_nil, List.nodup_nil⟩, fun x hx y hy q => c ?_⟩⟩
      rw [List.mem_singleton] at hy
      subst hy
      subst q
      exact List.any_eq_true.mpr ⟨_, hx, beq_self_eq_true _⟩
theorem firstMet_len (ns : List Int) : (PyProof.Rows.firstMet (fun j => ns.getD j 0) ns.length).length = ns.length ↔ ns.Nodup := by
  constructor
  · intro h
    have := ((firstMet_le ns ns.length (Nat.le_refl _)).2 h).2
    rwa [List.take_length] at this
  · intro h
    rw [RZ.firstMet_nodup h ns.length (Nat.le_refl _), List.take_length]
def tLenSetG (K : PySem.W.Frag) (ta : TE) : TE := fun σ H Q => ta σ H fun x H1 => ∃ (l : Addr) (ns : List Int), x = .ref l ∧ SqL K H1 l (ns.map V.int) ∧ ns.length ≤ 4000 ∧ ∀ c : Nat, (c = ns.length ↔ ns.Nodup) → Q (.int (c : Int)) H1
theorem pe_lenSetG {X : Cx} {a : Expr} {ta : TE} {p p2 q pos : Pos} (hg : Gl X "len") (hm : X.mg "len" = none) (hg2 : Gl X "set") (hm2 : X.mg "set" = none) (ha : PE X a ta) (hc : X.calm = true := by rfl)
    (na : starEach [a] X.env = (false, eval a X.env) :: starEach [] X.env := by rfl) : PE X (.Call (.Name "len" p) [.Call (.Name "set" p2) [a] [] q] [] pos) (tLenSetG X.K ta) := by
  refine ⟨fun pins s σ H Q I h => ?_⟩
  refine Call_ (ld_blt I hg hm boot_len ?_)
  refine PyProof.Rows.callWith_builtin1 (PyProof.Rows.args_cons ?_ rfl) rfl rfl
  refine Call_ (ld_blt I hg2 hm2 boot_set ?_)
  refine PyProof.Rows.callWith_type1 (PyProof.Rows.args_cons (thn (ha.run pins s σ H _ I h) fun v s1 ⟨x, H1, I1, r1, q1⟩ => PyProof.Rows.args_nil ?_) na) na rfl
  obtain ⟨l, ns, rfl, hq, hl, q1⟩ := q1
  cases r1
  obtain ⟨its, r, pl, hz⟩ := I1.list hq
  have hlen : its.toArray.size = ns.length := by rw [List.size_toArray, ← r.length, List.length_map]
  refine call_set_list (I1.ok.hd hc) pl.isList (by simpa using RZ.intsAre_vals r) (by rw [hlen]; unfold scanBound; omega) fun h' tk hS hk => ?_
  refine PyProof.Rows.args_nil ?_
  rw [hlen] at hS
  have hc2 := firstMet_len ns
  have hc3 := (firstMet_le ns ns.length (Nat.le_refl _)).1
  obtain ⟨o, es, ep, t, ho, hex, hd, _, _, _, hf, hn⟩ := hS
  have I2 : Inv X pins σ H1 { s1 with heap := h', toks := tk } := I1.kept fun b o e => hk b o (Heap.lt_size e) e
  exact call_len_set ho hex hd hf (by rw [hn] <;> omega) ⟨.int ((PyProof.Rows.firstMet (fun j => ns.getD j 0) ns.length).length : Nat), H1, I2.tok _, ⟨_, by rw [hn]⟩, q1 _ hc2⟩
/-! ### xs != [] -/
def rNeNil (K : PySem.W.Frag) : R2 := fun x y H Q => ∃ (a b : Addr) (xs : List V), x = .ref a ∧ y = .ref b ∧ SqL K H a xs ∧ SqL K H b [] ∧ Q (.bl (!xs.isEmpty)) H
theorem op_neNil {X : Cx} (hu : X.A.units + 64 < cLine) : OpR X (compareOp .NotEq) (rNeNil X.K) := by
  intro pins s σ H x y v u Q I rx ry h
  obtain ⟨a, b, xs, rfl, rfl, ha, hb, q⟩ := h
  cases (show v = Value.ref a from rx)
  cases (show u = Value.ref b from ry)
  obtain ⟨its, r1, p1, _⟩ := I.list ha
  obtain ⟨jts, r2, p2, _⟩ := I.list hb
  cases r2
  cases xs with
  | nil =>
    cases r1
    have e : (!PyData.eqv (dI []) (dI [])) = false := rfl
    exact op_neD hu pins s σ H (.ref a) (.ref b) _ _ Q I rfl rfl ⟨dI [], dI [], dp_ints (ns := []) ha, dp_ints (ns := []) hb, shaped_ints [], shaped_ints [], q⟩
  | cons z zs =>
    cases r1 with
    | cons r rr =>
      exact PySem.SeqAt.RcNeAt.lists_lengths p1.isList p2.isList rfl (by omega) X.prog X.w X.xe _ ⟨.bl true, H, I, rfl, q⟩
/-! ### set(xs) of more than a thousand -/
def rSetLH (K : PySem.W.Frag) (w : World) : List V → Hp → VK → Prop := fun xs H Q => ∃ (a : Addr) (ns : List Int), xs = [V.ref a] ∧ SqL K H a (ns.map V.int) ∧ ns.length ≤ 4000 ∧ ∀ (p : Addr) (c : Nat), H p = none → c ≤ ns.length → Q (.ref p) (upd H p (SetO w p (fun j => decide (j ∈ ns)) c))
theorem cr_setLH {X : Cx} (hc : X.calm = true) : CallR X (.type "set") (rSetLH X.K X.w) := by
  intro pins s σ H xs us Q I r h
  obtain ⟨a, ns, rfl, hq, hl, q⟩ := h
  cases r with
  | cons r rr =>
    cases rr
    cases (show _ = Value.ref a from r)
    obtain ⟨its, rv, p, _⟩ := I.list hq
    refine call_set_listI ns (I.ok.hd hc) p.isList (RZ.intsAre_vals rv) (Nat.lt_of_le_of_lt (Nat.succ_le_succ hl) (by decide)) fun h' tk c hs hcn hk => ?_
    refine ⟨.ref _, upd H _ (SetO X.w s.heap.objs.size (fun j => decide (j ∈ ns)) c), I.laid hk (Nat.le_refl _) ⟨hs, ?_, fun h1 h2 x k => ?_⟩, rfl, q _ c (I.hok.fresh (Nat.le_refl _)) hcn⟩
    · obtain ⟨o, _, _, _, e, _⟩ := hs
      exact ⟨o, e⟩
    · obtain ⟨o, es, ep, t, e, r⟩ := x
      exact ⟨o, es, ep, t, k o e, r⟩
theorem num_len3 : ∀ n : Int, -999 ≤ n → n ≤ 999 → (Str.ofString (toString n)).length ≤ 4 := by
  intro n h0 h1
  have key : ∀ i : Fin 1999, (Str.ofString (toString ((i.val : Int) - 999))).length ≤ 4 := by decide +kernel
  have e := key ⟨(n + 999).toNat, by omega⟩
  have e2 : (((n + 999).toNat : Nat) : Int) - 999 = n := by omega
  rw [e2] at e
  exact e
end Lp
namespace Lp
open PySem PySem.Spec PyProof.Rows L2
/-! ### != of equal lists of texts -/
def rNeStrs (K : PySem.W.Frag) : R2 := fun x y H Q => ∃ (a b : Addr) (zs : List Str), x = .ref a ∧ y = .ref b ∧ SqL K H a (zs.map V.str) ∧ SqL K H b (zs.map V.str) ∧ Q (.bl false) H
theorem op_neStrs {X : Cx} (hu : X.A.units + 64 < cLine) : OpR X (compareOp .NotEq) (rNeStrs X.K) := by
  intro pins s σ H x y v u Q I rx ry h
  obtain ⟨a, b, zs, rfl, rfl, ha, hb, q⟩ := h
  cases (show v = Value.ref a from rx)
  cases (show u = Value.ref b from ry)
  obtain ⟨its, r1, p1, _⟩ := I.list ha
  obtain ⟨jts, r2, p2, _⟩ := I.list hb
  have l1 := r1.length
  have l2 := r2.length
  refine PySem.SeqAt.RcNeAt.lists (e := fun _ => true) p1.isList p2.isList (by simp; omega) (by omega) (fun j h1 h2 => ?_) X.prog X.w X.xe _ ?_
  · have g1 : j < its.length := by simpa using h1
    have g2 : j < jts.length := by simpa using h2
    have gz : (zs.map V.str)[j]? = some (.str (zs[j]'(by rw [List.length_map] at l1; omega))) := by rw [List.getElem?_map, List.getElem?_eq_getElem (by rw [List.length_map] at l1; omega)]; rfl
    obtain ⟨u1, e1, t1, q1⟩ := r1.get gz
    obtain ⟨u2, e2, t2, q2⟩ := r2.get gz
    rw [List.getElem?_eq_getElem g1] at e1
    rw [List.getElem?_eq_getElem g2] at e2
    have f1 : its.toArray[j] = u1 := by simpa using Option.some.inj e1
    have f2 : jts.toArray[j] = u2 := by simpa using Option.some.inj e2
    rw [f1, f2, q1, q2]
    have z := PySem.SeqAt.EqAt.str_str (A := X.A.in1) (s := s) (zs[j]'(by rw [List.length_map] at l1; omega)) t1 (zs[j]'(by rw [List.length_map] at l1; omega)) t2
    rw [beq_self_eq_true] at z
    exact z
  · have e : (!(List.range its.toArray.size).all fun _ => true) = false := by simp
    rw [e]
    exact ⟨.bl false, H, I, rfl, q⟩
end Lp
set_option Elab.async false
set_option linter.all false
set_option maxRecDepth 100000
namespace L11
open PySem PySem.Spec PyProof.Rows L2 Lp
def topS (i : Nat) : Stmt := PySem.Challenge.pw_latepatches_k11_orders_recognized.main.body.getD i (.Pass ⟨0, 0, 0, 0⟩)
abbrev s_is_integer : Stmt := topS 4
abbrev N_is_integer : List Str := ["value"]
theorem sc_is_integer : FnScope N_is_integer ["value"] (defScope s_is_integer) := ⟨rfl, rfl, rfl, by decide +kernel, rfl, by decide +kernel, by decide +kernel⟩
abbrev s_is_integer_within : Stmt := topS 5
abbrev N_is_integer_within : List Str := ["value", "least", "greatest"]
theorem sc_is_integer_within : FnScope N_is_integer_within ["value", "least", "greatest"] (defScope s_is_integer_within) := ⟨rfl, rfl, rfl, by decide +kernel, rfl, by decide +kernel, by decide +kernel⟩
abbrev s_are_integers : Stmt := topS 6
abbrev N_are_integers : List Str := ["value", "least", "greatest", "most", "item"]
theorem sc_are_integers : FnScope N_are_integers ["value", "least", "greatest", "most"] (defScope s_are_integers) := ⟨rfl, rfl, rfl, by decide +kernel, rfl, by decide +kernel, by decide +kernel⟩
abbrev s_are_events : Stmt := topS 10
abbrev N_are_events : List Str := ["value"]
theorem sc_are_events : FnScope N_are_events ["value"] (defScope s_are_events) := ⟨rfl, rfl, rfl, by decide +kernel, rfl, by decide +kernel, by decide +kernel⟩
abbrev s_is_history : Stmt := topS 11
abbrev N_is_history : List Str := ["value", "started", "event"]
theorem sc_is_history : FnScope N_is_history ["value"] (defScope s_is_history) := ⟨rfl, rfl, rfl, by decide +kernel, rfl, by decide +kernel, by decide +kernel⟩
abbrev s_check_history : Stmt := topS 12
abbrev N_check_history : List Str := ["history"]
theorem sc_check_history : FnScope N_check_history ["history"] (defScope s_check_history) := ⟨rfl, rfl, rfl, by decide +kernel, rfl, by decide +kernel, by decide +kernel⟩
abbrev s_starts_of : Stmt := topS 13
abbrev N_starts_of : List Str := ["history", "event"]
theorem sc_starts_of : FnScope N_starts_of ["history"] (defScope s_starts_of) := ⟨rfl, rfl, rfl, by decide +kernel, rfl, by decide +kernel, by decide +kernel⟩
abbrev s_running_after : Stmt := topS 14
abbrev N_running_after : List Str := ["history", "patch"]
theorem sc_running_after : FnScope N_running_after ["history"] (defScope s_running_after) := ⟨rfl, rfl, rfl, by decide +kernel, rfl, by decide +kernel, by decide +kernel⟩
abbrev s_is_order : Stmt := topS 16
abbrev N_is_order : List Str := ["history", "value", "running"]
theorem sc_is_order : FnScope N_is_order ["history", "value"] (defScope s_is_order) := ⟨rfl, rfl, rfl, by decide +kernel, rfl, by decide +kernel, by decide +kernel⟩
abbrev s_law_source : Stmt := topS 18
abbrev N_law_source : List Str := ["cell", "k"]
theorem sc_law_source : FnScope N_law_source ["cell", "k"] (defScope s_law_source) := ⟨rfl, rfl, rfl, by decide +kernel, rfl, by decide +kernel, by decide +kernel⟩
abbrev s_law_draw : Stmt := topS 19
abbrev N_law_draw : List Str := ["source", "count", "digit", "mixed"]
theorem sc_law_draw : FnScope N_law_draw ["source", "count"] (defScope s_law_draw) := ⟨rfl, rfl, rfl, by decide +kernel, rfl, by decide +kernel, by decide +kernel⟩
abbrev s_law_row : Stmt := topS 20
abbrev N_law_row : List Str := ["source", "most", "many", "style", "ends", "named", "left", "active", "found", "lap", "begins", "spots"]
theorem sc_law_row : FnScope N_law_row ["source", "most"] (defScope s_law_row) := ⟨rfl, rfl, rfl, by decide +kernel, rfl, by decide +kernel, by decide +kernel⟩
abbrev s_law_active : Stmt := topS 21
abbrev N_law_active : List Str := ["row", "event"]
theorem sc_law_active : FnScope N_law_active ["row"] (defScope s_law_active) := ⟨rfl, rfl, rfl, by decide +kernel, rfl, by decide +kernel, by decide +kernel⟩
abbrev s_law_mixed : Stmt := topS 22
abbrev N_law_mixed : List Str := ["source", "things", "left", "style", "lap"]
theorem sc_law_mixed : FnScope N_law_mixed ["source", "things"] (defScope s_law_mixed) := ⟨rfl, rfl, rfl, by decide +kernel, rfl, by decide +kernel, by decide +kernel⟩
abbrev s_law_is_due : Stmt := topS 23
abbrev N_law_is_due : List Str := ["row", "value", "odd", "one"]
theorem sc_law_is_due : FnScope N_law_is_due ["row", "value"] (defScope s_law_is_due) := ⟨rfl, rfl, rfl, by decide +kernel, rfl, by decide +kernel, by decide +kernel⟩
abbrev s_law_changed : Stmt := topS 24
abbrev N_law_changed : List Str := ["source", "order", "at", "patch", "odd", "one", "some"]
theorem sc_law_changed : FnScope N_law_changed ["source", "order"] (defScope s_law_changed) := ⟨rfl, rfl, rfl, by decide +kernel, rfl, by decide +kernel, by decide +kernel⟩
abbrev s_law_holds : Stmt := topS 25
abbrev N_law_holds : List Str := ["source", "most", "row", "nested", "lap", "order", "value", "before", "told"]
theorem sc_law_holds : FnScope N_law_holds ["source", "most"] (defScope s_law_holds) := ⟨rfl, rfl, rfl, by decide +kernel, rfl, by decide +kernel, by decide +kernel⟩
abbrev s_law : Stmt := topS 26
abbrev N_law : List Str := ["script", "k", "cell"]
theorem sc_law : FnScope N_law ["script"] (defScope s_law) := ⟨rfl, rfl, rfl, by decide +kernel, rfl, by decide +kernel, by decide +kernel⟩
end L11
set_option Elab.async false
set_option linter.all false
set_option maxRecDepth 100000
namespace L11
open PySem PySem.Spec PyProof.Rows L2 Lp
/-! ### values of any kind: is_integer and its kin -/
def toI : PyData → Int | .int i => i | _ => 0
def numB (lo hi : Int) : PyData → Bool | .int i => decide (lo ≤ i) && decide (i ≤ hi) | _ => false
theorem numB_iff {lo hi : Int} {d : PyData} : numB lo hi d = true ↔ ∃ i, d = .int i ∧ lo ≤ i ∧ i ≤ hi := by
  cases d with
  | int i =>
    show (decide (lo ≤ i) && decide (i ≤ hi)) = true ↔ _
    rw [Bool.and_eq_true, decide_eq_true_eq, decide_eq_true_eq]
    exact ⟨fun h => ⟨i, rfl, h⟩, fun ⟨j, e, h⟩ => by cases e; exact h⟩
  | none => exact ⟨(fun h => nomatch h), (fun ⟨j, e, h⟩ => nomatch e)⟩
  | bool _ => exact ⟨(fun h => nomatch h), (fun ⟨j, e, h⟩ => nomatch e)⟩
  | str _ => exact ⟨(fun h => nomatch h), (fun ⟨j, e, h⟩ => nomatch e)⟩
  | list _ => exact ⟨(fun h => nomatch h), (fun ⟨j, e, h⟩ => nomatch e)⟩
  | tuple _ => exact ⟨(fun h => nomatch h), (fun ⟨j, e, h⟩ => nomatch e)⟩
  | dict _ => exact ⟨(fun h => nomatch h), (fun ⟨j, e, h⟩ => nomatch e)⟩
theorem numB_all {lo hi : Int} : ∀ {ds : List PyData}, (ds.map (numB lo hi)).all id = true ↔ ∃ ns : List Int, ds = ns.map PyData.int ∧ ∀ n ∈ ns, lo ≤ n ∧ n ≤ hi
  | [] => ⟨fun _ => ⟨[], rfl, fun _ h => absurd h List.not_mem_nil⟩, fun _ => rfl⟩
  | d :: ds => by
    rw [List.map_cons, List.all_cons, Bool.and_eq_true, numB_all (ds := ds)]
    show numB lo hi d = true ∧ _ ↔ _
    rw [numB_iff]
    constructor
    · rintro ⟨⟨i, rfl, h⟩, ns, rfl, hn⟩
      exact ⟨i :: ns, rfl, fun n hm => (List.mem_cons.mp hm).elim (fun e => e ▸ h) (hn n)⟩
    · rintro ⟨ns, e, hn⟩
      cases ns with
      | nil => cases e
      | cons i ns =>
        rw [List.map_cons] at e
        cases e
        exact ⟨⟨i, rfl, hn i List.mem_cons_self⟩, ns, rfl, fun n hm => hn n (List.mem_cons_of_mem _ hm)⟩
theorem wt_len : ∀ ds : List PyData, 2 * ds.length ≤ wtAll ds
  | [] => Nat.zero_le _
  | d :: ds => by
    have := wt_len ds
    show 2 * (ds.length + 1) ≤ wt d + 2 + wtAll ds
    omega
theorem oxAll_ints_inv {K : PySem.W.Frag} {H : Hp} : ∀ {xs : List V} {ns : List Int}, OxAll K H xs (ns.map PyData.int) → xs = ns.map V.int
  | [], [], _ => rfl
  | x :: xs, n :: ns, h => by
    cases h with
    | cons h1 h2 =>
      cases h1
      rw [oxAll_ints_inv h2]
      rfl
  | [], _ :: _, h => nomatch h
  | _ :: _, [], h => nomatch h
theorem ox_ints_inv {K : PySem.W.Frag} {H : Hp} {v : V} {ns : List Int} (h : Ox K H v (dI ns)) : ∃ a, v = .ref a ∧ SqL K H a (ns.map V.int) := by
  cases h with
  | lst hs ha =>
    rw [oxAll_ints_inv ha] at hs
    exact ⟨_, rfl, hs⟩
theorem ox_ints {K : PySem.W.Frag} {H : Hp} {a : Addr} {ns : List Int} (h : SqL K H a (ns.map V.int)) : Ox K H (.ref a) (dI ns) := .lst h (oxAll_ints ns)
def AreI (lo hi m : Int) (d : PyData) : Prop := ∃ ns : List Int, d = dI ns ∧ ((ns.length : Nat) : Int) ≤ m ∧ ∀ n ∈ ns, lo ≤ n ∧ n ≤ hi
/-- different events -/
def EvD (d : PyData) : Prop := ∃ ns : List Int, d = dI ns ∧ (∀ e ∈ ns, e ≠ 0 ∧ -100 ≤ e ∧ e ≤ 100) ∧ ns.Nodup ∧ ns.length ≤ 200
section
variable {P : Program} {w : World} {K : PySem.W.Frag} {mg : Str → Option Value} {base : Heap}
def spIsIntO (K : PySem.W.Frag) : Sp := fun vs H Q _ => ∃ (v : V) (d : PyData), vs = [v] ∧ Ox K H v d ∧ Q (.bl (isI d)) H
theorem ok_is_integer_O {f : Addr} {fd : FuncData} (F : Fun K "is_integer" "is_integer" s_is_integer f fd) (B : NoB mg) : FnOk P w K mg base CX0 1 f fd ["value"] (spIsIntO K) := by
  refine F.ok sc_is_integer (fun vs H Q E h => ?_) (fun cdv A outer s H vs Q E hr h => ?_)
  · obtain ⟨v, d, rfl, _⟩ := h
    rfl
  · obtain ⟨v, d, rfl, hv, q⟩ := h
    refine ⟨_, (pss_one (ps_ret (pe_and (pe_callB call_isi (by rfl) B.isinstance (by decide +kernel) (pa_cons (pv 0) (pa_cons (pe_bltn (v := .ty "int") (by rfl) B.int boot_int rfl) pa_nil))) (pe_one (pe_not (pe_callB call_isi (by rfl) B.isinstance (by decide +kernel) (pa_cons (pv 0) (pa_cons (pe_bltn (v := .ty "bool") (by rfl) B.bool boot_bool rfl) pa_nil)))))))), ?_⟩
    refine ⟨_, rfl, _, _, _, _, _, rfl, .ty _, hv.tyx, kit_int d, _, rfl, ?_⟩
    by_cases h1 : (isI d || isB d) = true
    · rw [if_pos h1]
      refine ⟨_, rfl, _, _, _, _, _, rfl, .ty _, hv.tyx, kit_bool d, _, rfl, ?_⟩
      have e : (!isB d) = isI d := by cases d <;> first | rfl | cases h1
      rw [e]
      exact q
    · rw [if_neg h1]
      have e : isI d = false := by cases d <;> first | rfl | exact absurd rfl h1
      rw [e] at q
      exact q
def spWithinO (K : PySem.W.Frag) : Sp := fun vs H Q _ => ∃ (v : V) (d : PyData) (lo hi : Int), vs = [v, .int lo, .int hi] ∧ Ox K H v d ∧ Q (.bl (numB lo hi d)) H
theorem ok_is_integer_within_O {f : Addr} {fd : FuncData} (F : Fun K "is_integer_within" "is_integer_within" s_is_integer_within f fd) (T_is_integer : Cal P w K mg base 1 "is_integer" (spIsIntO K)) : FnOk P w K mg base CX0 2 f fd ["value", "least", "greatest"] (spWithinO K) := by
  refine F.ok sc_is_integer_within (fun vs H Q E h => ?_) (fun cdv A outer s H vs Q E hr h => ?_)
  · obtain ⟨v, d, lo, hi, rfl, _⟩ := h
    rfl
  · obtain ⟨v, d, lo, hi, rfl, hv, q⟩ := h
    refine ⟨_, (pss_one (ps_ret (pe_and (pe_c T_is_integer hr (by decide) (by rfl) (pa_cons (pv 0) pa_nil)) (pe_one (pe_chain op_le op_le (pv 1) (pv 0) (pv 2)))))), ?_⟩
    refine ⟨_, rfl, v, d, rfl, hv, _, rfl, ?_⟩
    cases hv with
    | int i =>
      refine iteT ?_
      refine ⟨_, rfl, _, rfl, _, _, rfl, rfl, _, rfl, ?_⟩
      by_cases h1 : lo ≤ i
      · rw [decide_eq_true h1]
        refine iteT ⟨_, rfl, _, _, rfl, rfl, ?_⟩
        have e : numB lo hi (.int i) = decide (i ≤ hi) := by
          show (decide (lo ≤ i) && _) = _
          rw [decide_eq_true h1]
          rfl
        rw [e] at q
        exact q
      · rw [decide_eq_false h1]
        have e : numB lo hi (.int i) = false := by
          show (decide (lo ≤ i) && _) = _
          rw [decide_eq_false h1]
          rfl
        rw [e] at q
        exact iteF q
    | non => exact iteF q
    | bl b => exact iteF q
    | str x => exact iteF q
    | lst _ _ => exact iteF q
    | tup _ _ => exact iteF q
    | dct _ => exact iteF q
/-! ### are_integers -/
def spAreIntsO (K : PySem.W.Frag) : Sp := fun vs H Q _ => ∃ (v : V) (d : PyData) (lo hi m : Int), vs = [v, .int lo, .int hi, .int m] ∧ Ox K H v d ∧ wt d ≤ 190000 ∧ ∀ H' (b : Bool), Same H H' → (b = true ↔ AreI lo hi m d) → Q (.bl b) H'
theorem ok_are_integers_O {f : Addr} {fd : FuncData} (F : Fun K "are_integers" "are_integers" s_are_integers f fd) (B : NoB mg) (T_is_integer_within : Cal P w K mg base 2 "is_integer_within" (spWithinO K)) : FnOk P w K mg base CX0 3 f fd ["value", "least", "greatest", "most"] (spAreIntsO K) := by
  refine F.ok sc_are_integers (fun vs H Q E h => ?_) (fun cdv A outer s H vs Q E hr h => ?_)
  · obtain ⟨v, d, lo, hi, m, rfl, _⟩ := h
    rfl
  · obtain ⟨v, d, lo, hi, m, rfl, hv, hw, q⟩ := h
    refine ⟨_, (pss_cons (ps_if (PW.pt (pw_or (pt_cmpR op_neTyG (pe_callTy call_type1 (by rfl) B.type (by decide +kernel) (pa_cons (pv 0) pa_nil)) (pe_bltn (v := .ty "list") (by rfl) B.list boot_list rfl) (nomark _)) (pw_or1 (pt_cmpR op_gt (pe_callB call_len_seq (by rfl) B.len PySem.boot_len (pa_cons (pv 0) pa_nil)) (pv 3) (nomark _))))) (pss_one (ps_ret pe_bl)) pss_nil)
        (pss_one (ps_ret (pe_callB (cr_all rfl) (by rfl) B.all (by decide +kernel) (pa_cons (pe_lc (own := [("item", 4)]) (g := gName 4) (tt := tYes) rfl sc_are_integers.nd (pi_list (pv 0)) (blkOk_by (own := [("item", 4)]) (N := N_are_integers) (sc := defScope s_are_integers) (by decide +kernel)) (fun _ _ _ _ _ => (pg_name (i := 4) sc_are_integers.nd rfl (Or.inl rfl))) (fun _ _ _ _ _ => pts_nil) (fun _ _ _ _ _ => (pe_c T_is_integer_within hr (by decide) (by rfl) (pa_cons (pv 4) (pa_cons (pv 1) (pa_cons (pv 2) pa_nil)))))) pa_nil))))), ?_⟩
    by_cases hl : isL d = true
    · cases hv with
      | @lst a xs ds hS ha =>
        have ln := oxAll_len ha
        have wl := wt_len ds
        have hw : 2 + wtAll ds ≤ 190000 := hw
        refine ⟨_, rfl, _, _, rfl, .lst hS, .inl ⟨_, rfl, rfl, PySem.TypeEq.meta_list, _, rfl, iteF ?_⟩⟩
        refine ⟨_, rfl, a, _, rfl, .inl hS, _, rfl, _, _, rfl, rfl, _, rfl, ?_⟩
        by_cases hm : m < ((xs.length : Nat) : Int)
        · rw [decide_eq_true hm]
          refine iteT (q _ false (Same.refl _) ⟨(fun h => nomatch h), fun ⟨ns, e, h, _⟩ => ?_⟩)
          cases e
          rw [List.length_map] at ln
          omega
        · rw [decide_eq_false hm]
          refine iteF ?_
          refine ⟨_, rfl, a, rfl, ⟨_, hS⟩, fun D hD => lc_list (xs := xs) (LcP H D fun i => ((ds.take i).map (numB lo hi)).map V.bl) (.init hD rfl) (fun i H' _ p => p.2.1.seq hS) (fun i x H' hx p => ?_) (fun H' p => ?_)⟩
          · obtain ⟨e, he, hxo⟩ := oxAll_get ha hx
            have li := lt_get he
            refine ⟨rfl, ?_⟩
            refine ⟨_, rfl, _, rfl, _, rfl, x, e, lo, hi, rfl, ox_same p.2.1 hxo, ?_⟩
            refine p.put (Same.refl _) ?_ (by rw [List.length_map, List.length_map, List.length_take]; omega)
            rw [take_get he, List.map_append, List.map_append]
            rfl
          · have h2 : H' D = some (.lst ((ds.map (numB lo hi)).map V.bl)) := by
              have z := p.2.2
              rw [ln] at z
              rw [z]
              show some (HO.lst (((ds.take ds.length).map (numB lo hi)).map V.bl)) = _
              rw [List.take_length]
            refine ⟨D, _, rfl, .of h2, q _ _ p.2.1 ?_⟩
            rw [numB_all]
            constructor
            · rintro ⟨ns, rfl, hn⟩
              rw [List.length_map] at ln
              exact ⟨ns, rfl, by omega, hn⟩
            · rintro ⟨ns, e, _, hn⟩
              cases e
              exact ⟨ns, rfl, hn⟩
      | non => cases hl
      | bl b => cases hl
      | int i => cases hl
      | str x => cases hl
      | tup _ _ => cases hl
      | dct _ => cases hl
    · have hl' : isL d = false := Bool.eq_false_iff.mpr hl
      refine ⟨_, rfl, _, _, rfl, hv.tyb, ?_⟩
      refine neTyL ⟨_, rfl, ?_⟩
      rw [hl']
      refine iteT (q _ false (Same.refl _) ⟨(fun h => nomatch h), fun ⟨ns, e, _⟩ => ?_⟩)
      subst e
      cases hl'
/-! ### are_events -/
def spAreEvO (K : PySem.W.Frag) : Sp := fun vs H Q _ => ∃ (v : V) (d : PyData), vs = [v] ∧ Ox K H v d ∧ wt d ≤ 190000 ∧ ∀ H' (b : Bool), Same H H' → (b = true ↔ EvD d) → Q (.bl b) H'
theorem ok_are_events_O {f : Addr} {fd : FuncData} (F : Fun K "are_events" "are_events" s_are_events f fd) (B : NoB mg) {t1 t2 : Tok} (T_g_LAST_PATCH : mg "LAST_PATCH" = some (.int 100 t1)) (T_g_MOST_EVENTS : mg "MOST_EVENTS" = some (.int 200 t2))
    (T_are_integers : Cal P w K mg base 3 "are_integers" (spAreIntsO K)) : FnOk P w K mg base CX0 4 f fd ["value"] (spAreEvO K) := by
  refine F.ok sc_are_events (fun vs H Q E h => ?_) (fun cdv A outer s H vs Q E hr h => ?_)
  · obtain ⟨v, d, rfl, _⟩ := h
    rfl
  · obtain ⟨v, d, rfl, hv, hw, q⟩ := h
    refine ⟨_, (pss_cons (ps_if (pt_not (pt_val (pe_c T_are_integers hr (by decide) (by rfl) (pa_cons (pv 0) (pa_cons (pe_un un_neg (pe_glob (v := .int 100) (by rfl) T_g_LAST_PATCH ⟨_, rfl⟩)) (pa_cons (pe_glob (v := .int 100) (by rfl) T_g_LAST_PATCH ⟨_, rfl⟩) (pa_cons (pe_glob (v := .int 200) (by rfl) T_g_MOST_EVENTS ⟨_, rfl⟩) pa_nil))))))) (pss_one (ps_ret pe_bl)) pss_nil)
        (pss_one (ps_ret (pe_and (pe_cmpR op_notIn_seq pe_int (pv 0) (by rfl)) (pe_one (pe_cmpR op_eq (pe_lenSetG (by rfl) B.len (by rfl) B.set (pv 0)) (pe_callB call_len_seq (by rfl) B.len PySem.boot_len (pa_cons (pv 0) pa_nil)) (nomark _))))))), ?_⟩
    refine ⟨_, rfl, _, rfl, v, d, -100, 100, 200, rfl, hv, hw, fun H1 b s1 hb => ?_⟩
    cases b with
    | false =>
      refine ⟨_, rfl, iteT (q _ false s1 ⟨(fun h => nomatch h), fun ⟨ns, e, h1, h2, h3⟩ => ?_⟩)⟩
      exact hb.mpr ⟨ns, e, by omega, fun n hn => (h1 n hn).2⟩
    | true =>
      obtain ⟨ns, rfl, hlen, hr0⟩ := hb.mp rfl
      obtain ⟨a, rfl, hS⟩ := ox_ints_inv hv
      refine ⟨_, rfl, iteF ?_⟩
      have hS1 := s1.seq hS
      by_cases h0 : (0 : Int) ∈ ns
      · refine ⟨_, rfl, a, ns.map V.int, rfl, .inl hS1, rfl, flatI ns, false, notInF h0, iteF (q _ false s1 ⟨(fun h => nomatch h), fun ⟨ms, e, h1, _⟩ => ?_⟩)⟩
        have e2 : ns = ms := by
          have := PyData.list.inj e
          exact List.map_inj_right (fun x y h => PyData.int.inj h) |>.mp this
        subst e2
        exact absurd rfl (h1 0 h0).1
      · refine ⟨_, rfl, a, ns.map V.int, rfl, .inl hS1, rfl, flatI ns, true, notInT h0, iteT ?_⟩
        refine ⟨_, rfl, a, ns, rfl, hS1, by omega, fun c hc => ?_⟩
        refine ⟨_, rfl, a, _, rfl, .inl hS1, rfl, ?_⟩
        rw [List.length_map]
        refine q _ _ s1 ?_
        rw [decide_eq_true_eq]
        constructor
        · intro h
          have h : (c : Int) = ((ns.length : Nat) : Int) := by
            have := V.int.inj h
            exact this
          exact ⟨ns, rfl, fun e he => ⟨fun z => h0 (z ▸ he), hr0 e he⟩, hc.mp (by omega), by omega⟩
        · rintro ⟨ms, e, _, nd, _⟩
          have e2 : ns = ms := by
            have := PyData.list.inj e
            exact List.map_inj_right (fun x y h => PyData.int.inj h) |>.mp this
          subst e2
          rw [hc.mpr nd]
end
section
variable {P : Program} {w : World} {K : PySem.W.Frag} {mg : Str → Option Value} {base : Heap}
/-- a def of the text at its name -/
structure At (K : PySem.W.Frag) (mg : Str → Option Value) (x : Str) (st : Stmt) (f : Addr) (fd : FuncData) : Prop where
  fn : Fun K x x st f fd
  mgf : mg x = some (.ref f)
theorem At.gc {k : Nat} {x : Str} {st : Stmt} {f : Addr} {fd : FuncData} {ps : List Str} {sp : Sp} (a : At K mg x st f fd) (b : Binds K fd ps []) (F : FnOk P w K mg base CX0 k f fd ps sp) : Cal P w K mg base k x sp := ⟨f, fd, ps, F, a.mgf, a.fn.kp, b⟩

/-! ### is_integer and its kin -/
def spIsInt : Sp := fun vs H Q _ => ∃ i : Int, vs = [.int i] ∧ Q (.bl true) H
def spWithin : Sp := fun vs H Q _ => ∃ i lo hi : Int, vs = [.int i, .int lo, .int hi] ∧ lo ≤ i ∧ i ≤ hi ∧ Q (.bl true) H
/-! ### are_integers -/
def spAreInts (K : PySem.W.Frag) : Sp := fun vs H Q _ => ∃ (a : Addr) (ns : List Int) (lo hi m : Int), vs = [.ref a, .int lo, .int hi, .int m] ∧ SqL K H a (ns.map V.int) ∧ ((ns.length : Nat) : Int) ≤ m ∧ ns.length ≤ 1000 ∧ (∀ n ∈ ns, lo ≤ n ∧ n ≤ hi) ∧ ∀ H', Same H H' → Q (.bl true) H'
/-! ### histories -/
structure Hist (ns : List Int) : Prop where
  rng : ∀ e ∈ ns, e ≠ 0 ∧ -100 ≤ e ∧ e ≤ 100
  nd : ns.Nodup
  ord : ∀ (i : Nat) (e : Int), ns[i]? = some e → e < 0 → -e ∈ ns.take i
  len : ns.length ≤ 200
theorem not_mem_take {ns : List Int} (nd : ns.Nodup) {i : Nat} {e : Int} (h : ns[i]? = some e) : e ∉ ns.take i := by
  intro hm
  obtain ⟨j, hj, e1⟩ := List.mem_iff_getElem.mp hm
  rw [List.length_take] at hj
  have hjn : j < ns.length := by omega
  have e2 : ns[j]? = some e := by
    rw [List.getElem?_eq_getElem hjn, ← e1, List.getElem_take]
  have := nd_ix nd e2 h
  omega
theorem mem_take_succ {ns : List Int} {i : Nat} {e x : Int} (h : ns[i]? = some e) : (x ∈ ns.take (i + 1)) ↔ (x ∈ ns.take i ∨ x = e) := by
  rw [take_get h, List.mem_append, List.mem_singleton]
/-! ### are_events -/
def spAreEv (K : PySem.W.Frag) : Sp := fun vs H Q _ => ∃ (a : Addr) (ns : List Int), vs = [.ref a] ∧ SqL K H a (ns.map V.int) ∧ (∀ e ∈ ns, e ≠ 0 ∧ -100 ≤ e ∧ e ≤ 100) ∧ ns.Nodup ∧ ns.length ≤ 200 ∧ ∀ H', Same H H' → Q (.bl true) H'
def spIsHist (K : PySem.W.Frag) : Sp := fun vs H Q _ => ∃ (a : Addr) (ns : List Int), vs = [.ref a] ∧ SqL K H a (ns.map V.int) ∧ Hist ns ∧ ∀ H', Same H H' → Q (.bl true) H'
theorem ok_is_history {f : Addr} {fd : FuncData} (F : Fun K "is_history" "is_history" s_is_history f fd) (B : NoB mg) (T_are_events : Cal P w K mg base 4 "are_events" (spAreEv K)) : FnOk P w K mg base CX0 5 f fd ["value"] (spIsHist K) := by
  refine F.ok sc_is_history (fun vs H Q E h => ?_) (fun cdv A outer s H vs Q E hr h => ?_)
  · obtain ⟨a, ns, rfl, _⟩ := h
    rfl
  · obtain ⟨a, ns, rfl, hS, hh, q⟩ := h
    have hu := hu_of hr
    refine ⟨_, (pss_cons (ps_if (pt_not (pt_val (pe_c T_are_events hr (by decide) (by rfl) (pa_cons (pv 0) pa_nil)))) (pss_one (ps_ret pe_bl)) pss_nil)
        (pss_cons (ps_set (i := 1) sc_is_history.nd rfl (Or.inl rfl) (pe_callTy0 cr_set0 (by rfl) B.set (by decide +kernel)))
        (pss_cons (ps_for PassesOwn.never rfl (pi_list (pv 0)) (pg_name (i := 2) sc_is_history.nd rfl (Or.inl rfl))
          (pss_one (ps_if (pt_cmpR op_gt (pv 2) pe_int (nomark _)) (pss_one (ps_expr (pe_sadd (pv 1) (pa_cons (pv 2) pa_nil)))) (pss_one (ps_if (pt_cmpR or_snotin (pe_un un_neg (pv 2)) (pv 1) (by rfl)) (pss_one (ps_ret pe_bl)) pss_nil)))))
        (pss_one (ps_ret pe_bl))))), ?_⟩
    refine ⟨_, rfl, a, ns, rfl, hS, hh.rng, hh.nd, hh.len, fun H1 s1 => ?_⟩
    refine ⟨_, rfl, iteF ?_⟩
    refine ⟨rfl, fun p np => ?_⟩
    have hS1 := s1.seq hS
    refine ⟨_, rfl, a, rfl, ⟨_, (same_new np).seq hS1⟩, for_list (xs := ns.map V.int) (fun i σ H' => (∃ y, σ = [some (.ref a), some (.ref p), y]) ∧ Same H1 H' ∧ ∃ n, n ≤ i ∧ H' p = some (SetO w p (fun x => decide (0 < x ∧ x ∈ ns.take i)) n)) ⟨⟨_, rfl⟩, same_new np, 0, Nat.le_refl _, ?_⟩ (fun i σ H' _ h => h.2.1.seq hS1) (fun i x σ H' hx h => ?_) (fun σ H' h => ?_)⟩
    · rw [upd_same]
      show some (SetO w p (fun x => false) 0) = some (SetO w p (fun x => decide (0 < x ∧ x ∈ ns.take 0)) 0)
      simp
    · obtain ⟨n, rfl, hn⟩ := get_int hx
      obtain ⟨⟨y, rfl⟩, sm, m, hm, hp⟩ := h
      have hi : i < 200 := Nat.lt_of_lt_of_le (lt_get hn) hh.len
      by_cases h0 : 0 < n
      · refine ⟨_, rfl, _, _, rfl, rfl, true, dT h0, ?_⟩
        refine ⟨_, rfl, ⟨p, _, m, rfl, hp⟩, _, rfl, p, n, _, m, rfl, rfl, hp, by show m + 1 < 4096; omega, ⟨_, rfl⟩, fun b o e => ?_, m + 1, by omega, ?_⟩
        rotate_left 1
        · have hnt : ¬ (0 < n ∧ n ∈ ns.take i) := fun z => not_mem_take hh.nd hn z.2
          rw [upd_same, decide_eq_false hnt, if_neg Bool.false_ne_true]
          refine congrArg some (congrArg (fun S => SetO w p S _) (funext fun x => ?_))
          rw [← Bool.decide_or]
          refine decide_eq_decide.mpr ?_
          have := mem_take_succ (x := x) hn
          rw [this]
          constructor
          · rintro (⟨a, b⟩ | rfl)
            · exact ⟨a, .inl b⟩
            · exact ⟨h0, .inr rfl⟩
          · rintro ⟨a, b | b⟩
            · exact .inl ⟨a, b⟩
            · exact .inr b
        · rw [upd_ne (ne_of_none e np)]
          exact sm _ _ e
      · refine ⟨_, rfl, _, _, rfl, rfl, false, dF h0, ?_⟩
        have e0 := (hh.rng n (mem_get hn)).1
        have hpre := hh.ord i n hn (by omega)
        refine ⟨_, rfl, n, rfl, _, rfl, -n, p, _, m, rfl, rfl, hp, false, nF ⟨by omega, hpre⟩, ⟨_, rfl⟩, sm, m, by omega, ?_⟩
        rw [hp]
        refine congrArg some (congrArg (fun S => SetO w p S m) (funext fun x => decide_eq_decide.mpr ?_))
        rw [mem_take_succ hn]
        constructor
        · exact fun ⟨a, b⟩ => ⟨a, .inl b⟩
        · rintro ⟨a, b | b⟩
          · exact ⟨a, b⟩
          · omega
    · obtain ⟨⟨y, rfl⟩, sm, _⟩ := h
      exact q _ (s1.trans sm)

/-! ### check_history -/
def spCheck (K : PySem.W.Frag) : Sp := fun vs H Q _ => ∃ (a : Addr) (ns : List Int), vs = [.ref a] ∧ SqL K H a (ns.map V.int) ∧ Hist ns ∧ ∀ H', Same H H' → Q .non H'
theorem ok_check_history {f : Addr} {fd : FuncData} (F : Fun K "check_history" "check_history" s_check_history f fd) (T_is_history : Cal P w K mg base 5 "is_history" (spIsHist K)) : FnOk P w K mg base CX0 6 f fd ["history"] (spCheck K) := by
  refine F.ok sc_check_history (fun vs H Q E h => ?_) (fun cdv A outer s H vs Q E hr h => ?_)
  · obtain ⟨a, ns, rfl, _⟩ := h
    rfl
  · obtain ⟨a, ns, rfl, hS, hh, q⟩ := h
    refine ⟨_, (pss_one (ps_if (pt_not (pt_val (pe_c T_is_history hr (by decide) (by rfl) (pa_cons (pv 0) pa_nil)))) (pss_one ps_never) pss_nil)), ?_⟩
    exact ⟨_, rfl, a, ns, rfl, hS, hh, fun H1 s1 => ⟨_, rfl, iteF (q _ s1)⟩⟩

end
/-! ### the good ones among them -/
theorem wtAll_small : ∀ {ns : List Int}, (∀ e ∈ ns, -100 ≤ e ∧ e ≤ 100) → wtAll (ns.map PyData.int) ≤ 6 * ns.length
  | [], _ => Nat.le_refl _
  | n :: r, h => by
    have a := wtAll_small (ns := r) fun e he => h e (List.mem_cons_of_mem _ he)
    have b := num_len n (h n List.mem_cons_self).1 (h n List.mem_cons_self).2
    show (Str.ofString (toString n)).length + 2 + wtAll (r.map PyData.int) ≤ 6 * (r.length + 1)
    omega
theorem bd_small {ns : List Int} {k m : Nat} (h : ∀ e ∈ ns, -100 ≤ e ∧ e ≤ 100) (hl : ns.length ≤ m) : BdAll (6 * m) k (ns.map PyData.int) := by
  have z := bd_ints (k := k) (m := m) (ns := ns) (fun e he => by
    have := h e he
    have z2 : e.natAbs ≤ 100 := by omega
    exact Nat.lt_of_le_of_lt z2 (by decide)) hl
  exact ⟨Nat.le_trans (wtAll_small h) (Nat.mul_le_mul_left _ hl), z.dp, z.s, z.n⟩
section
variable {P : Program} {w : World} {K : PySem.W.Frag} {mg : Str → Option Value} {base : Heap}
theorem areEv_good : ∀ vs H Q E, spAreEv K vs H Q E → spAreEvO K vs H Q E := by
  rintro vs H Q E ⟨a, ns, rfl, hS, hb, nd, hl, q⟩
  refine ⟨.ref a, dI ns, rfl, ox_ints hS, ?_, fun H' b s hb2 => ?_⟩
  · have z : wtAll (ns.map PyData.int) ≤ 6 * ns.length := wtAll_small fun e he => (hb e he).2
    show 2 + wtAll (ns.map PyData.int) ≤ 190000
    omega
  · have e : b = true := hb2.mpr ⟨ns, rfl, hb, nd, hl⟩
    subst e
    exact q H' s
end
/-! ### is_history of any value -/
def HistD (d : PyData) : Prop := ∃ ns : List Int, d = dI ns ∧ Hist ns
theorem dI_inj {ns ms : List Int} (e : dI ns = dI ms) : ns = ms := List.map_inj_right (fun x y h => PyData.int.inj h) |>.mp (PyData.list.inj e)
section
variable {P : Program} {w : World} {K : PySem.W.Frag} {mg : Str → Option Value} {base : Heap}
def spIsHistO (K : PySem.W.Frag) : Sp := fun vs H Q _ => ∃ (v : V) (d : PyData), vs = [v] ∧ Ox K H v d ∧ wt d ≤ 190000 ∧ ∀ H' (b : Bool), Same H H' → (b = true ↔ HistD d) → Q (.bl b) H'
theorem ok_is_history_O {f : Addr} {fd : FuncData} (F : Fun K "is_history" "is_history" s_is_history f fd) (B : NoB mg) (T_are_events : Cal P w K mg base 4 "are_events" (spAreEvO K)) : FnOk P w K mg base CX0 5 f fd ["value"] (spIsHistO K) := by
  refine F.ok sc_is_history (fun vs H Q E h => ?_) (fun cdv A outer s H vs Q E hr h => ?_)
  · obtain ⟨v, d, rfl, _⟩ := h
    rfl
  · obtain ⟨v, d, rfl, hv, hw, q0⟩ := h
    have hu := hu_of hr
    refine ⟨_, (pss_cons (ps_if (pt_not (pt_val (pe_c T_are_events hr (by decide) (by rfl) (pa_cons (pv 0) pa_nil)))) (pss_one (ps_ret pe_bl)) pss_nil)
        (pss_cons (ps_set (i := 1) sc_is_history.nd rfl (Or.inl rfl) (pe_callTy0 cr_set0 (by rfl) B.set (by decide +kernel)))
        (pss_cons (ps_for PassesOwn.never rfl (pi_list (pv 0)) (pg_name (i := 2) sc_is_history.nd rfl (Or.inl rfl))
          (pss_one (ps_if (pt_cmpR op_gt (pv 2) pe_int (nomark _)) (pss_one (ps_expr (pe_sadd (pv 1) (pa_cons (pv 2) pa_nil)))) (pss_one (ps_if (pt_cmpR or_snotin (pe_un un_neg (pv 2)) (pv 1) (by rfl)) (pss_one (ps_ret pe_bl)) pss_nil)))))
        (pss_one (ps_ret pe_bl))))), ?_⟩
    refine ⟨_, rfl, v, d, rfl, hv, hw, fun H1 b1 s1 hb1 => ?_⟩
    cases b1 with
    | false => exact ⟨_, rfl, iteT (q0 _ false s1 ⟨(fun h => nomatch h), fun ⟨ns, e, hp⟩ => hb1.mpr ⟨ns, e, hp.rng, hp.nd, hp.len⟩⟩)⟩
    | true =>
    obtain ⟨ns, rfl, hr0, nd0, hlen⟩ := hb1.mp rfl
    obtain ⟨a, rfl, hS⟩ := ox_ints_inv hv
    have q : ∀ (H' : Hp) (b : Bool), Same H H' → (b = true ↔ Hist ns) → Q (.bl b) H' := fun H' b s hb => q0 H' b s ⟨fun e => ⟨ns, rfl, hb.mp e⟩, fun ⟨ms, e, hp⟩ => by
      have e2 := dI_inj e
      subst e2
      exact hb.mpr hp⟩
    refine ⟨_, rfl, iteF ?_⟩
    refine ⟨rfl, fun p np => ?_⟩
    have hS1 := s1.seq hS
    refine ⟨_, rfl, a, rfl, ⟨_, (same_new np).seq hS1⟩, for_list (xs := ns.map V.int) (fun i σ H' => (∃ y, σ = [some (.ref a), some (.ref p), y]) ∧ Same H1 H' ∧ (∃ n, n ≤ i ∧ H' p = some (SetO w p (fun x => decide (0 < x ∧ x ∈ ns.take i)) n)) ∧ ∀ (j : Nat) (e : Int), j < i → ns[j]? = some e → e < 0 → -e ∈ ns.take j) ⟨⟨_, rfl⟩, same_new np, ⟨0, Nat.le_refl _, ?_⟩, fun j e h => absurd h (Nat.not_lt_zero _)⟩ (fun i σ H' _ h => h.2.1.seq hS1) (fun i x σ H' hx h => ?_) (fun σ H' h => ?_)⟩
    · rw [upd_same]
      show some (SetO w p (fun x => false) 0) = some (SetO w p (fun x => decide (0 < x ∧ x ∈ ns.take 0)) 0)
      simp
    · obtain ⟨n, rfl, hn⟩ := get_int hx
      obtain ⟨⟨y, rfl⟩, sm, ⟨m, hm, hp⟩, ho⟩ := h
      have hi : i < 200 := Nat.lt_of_lt_of_le (lt_get hn) hlen
      have e0 := (hr0 n (mem_get hn)).1
      have ho' : (n < 0 → -n ∈ ns.take i) → ∀ (j : Nat) (e : Int), j < i + 1 → ns[j]? = some e → e < 0 → -e ∈ ns.take j := fun hnn j e hj he hneg => by
        rcases Nat.lt_or_ge j i with h | h
        · exact ho j e h he hneg
        · have : j = i := by omega
          subst this
          rw [hn] at he
          cases he
          exact hnn hneg
      by_cases h0 : 0 < n
      · refine ⟨_, rfl, _, _, rfl, rfl, true, dT h0, ?_⟩
        refine ⟨_, rfl, ⟨p, _, m, rfl, hp⟩, _, rfl, p, n, _, m, rfl, rfl, hp, by show m + 1 < 4096; omega, ⟨_, rfl⟩, fun b o e => ?_, ⟨m + 1, by omega, ?_⟩, ho' (fun z => by omega)⟩
        rotate_left 1
        · have hnt : ¬ (0 < n ∧ n ∈ ns.take i) := fun z => not_mem_take nd0 hn z.2
          rw [upd_same, decide_eq_false hnt, if_neg Bool.false_ne_true]
          refine congrArg some (congrArg (fun S => SetO w p S _) (funext fun x => ?_))
          rw [← Bool.decide_or]
          refine decide_eq_decide.mpr ?_
          have := mem_take_succ (x := x) hn
          rw [this]
          constructor
          · rintro (⟨a, b⟩ | rfl)
            · exact ⟨a, .inl b⟩
            · exact ⟨h0, .inr rfl⟩
          · rintro ⟨a, b | b⟩
            · exact .inl ⟨a, b⟩
            · exact .inr b
        · rw [upd_ne (ne_of_none e np)]
          exact sm _ _ e
      · refine ⟨_, rfl, _, _, rfl, rfl, false, dF h0, ?_⟩
        by_cases hpre : -n ∈ ns.take i
        · refine ⟨_, rfl, n, rfl, _, rfl, -n, p, _, m, rfl, rfl, hp, false, nF ⟨by omega, hpre⟩, ⟨_, rfl⟩, sm, ⟨m, by omega, ?_⟩, ho' (fun _ => hpre)⟩
          rw [hp]
          refine congrArg some (congrArg (fun S => SetO w p S m) (funext fun x => decide_eq_decide.mpr ?_))
          rw [mem_take_succ hn]
          constructor
          · exact fun ⟨a, b⟩ => ⟨a, .inl b⟩
          · rintro ⟨a, b | b⟩
            · exact ⟨a, b⟩
            · omega
        · refine ⟨_, rfl, n, rfl, _, rfl, -n, p, _, m, rfl, rfl, hp, true, nT (fun z => hpre z.2), ?_⟩
          exact q _ false (s1.trans sm) ⟨(fun h => nomatch h), fun hh => absurd (hh.ord i n hn (by omega)) hpre⟩
    · obtain ⟨⟨y, rfl⟩, sm, _, ho⟩ := h
      refine q _ true (s1.trans sm) ⟨fun _ => ⟨hr0, nd0, fun i e he h0 => ho i e ?_ he h0, hlen⟩, fun _ => rfl⟩
      rw [List.length_map]
      exact lt_get he
end
end L11
set_option Elab.async false
set_option linter.all false
set_option maxRecDepth 100000
namespace L11
open PySem PySem.Spec PyProof.Rows L2 Lp
section
variable {P : Program} {w : World} {K : PySem.W.Frag} {mg : Str → Option Value} {base : Heap}
/-! ### draws -/
/-- the list of three ints that draws are made of: at most n draws were made in the second way -/
def Src (H : Hp) (a : Addr) (n : Nat) : Prop := ∃ x y z : Int, H a = some (.lst [.int x, .int y, .int z]) ∧ 0 ≤ y ∧ y < 2 ^ 300 ∧ 0 ≤ z ∧ z ≤ (n : Int)
theorem Src.mono {H : Hp} {a : Addr} {n m : Nat} (h : Src H a n) (l : n ≤ m) : Src H a m := by
  obtain ⟨x, y, z, h1, h2, h3, h4, h5⟩ := h
  exact ⟨x, y, z, h1, h2, h3, h4, by omega⟩
theorem Src.bt {H H' : Hp} {a b : Addr} {n : Nat} (h : Src H a n) (x : Bt b H H') (e : a ≠ b) : Src H' a n := by
  obtain ⟨p, y, z, h1, h2⟩ := h
  exact ⟨p, y, z, x _ _ e h1, h2⟩
theorem Src.same {H H' : Hp} {a : Addr} {n : Nat} (h : Src H a n) (x : Same H H') : Src H' a n := by
  obtain ⟨p, y, z, h1, h2⟩ := h
  exact ⟨p, y, z, x _ _ h1, h2⟩
theorem Src.new {H : Hp} {a p : Addr} {n : Nat} {o : HO} (h : Src H a n) (e : H p = none) : Src (upd H p o) a n := h.same (same_new e)
theorem Src.ne {H : Hp} {a p : Addr} {n : Nat} (h : Src H a n) (e : H p = none) : p ≠ a := fun z => by
  obtain ⟨_, _, _, h1, _⟩ := h
  rw [← z, e] at h1
  cases h1
theorem Src.upd {H : Hp} {a p : Addr} {n : Nat} {o : HO} (h : Src H a n) (e : p ≠ a) : Src (upd H p o) a n := by
  obtain ⟨x, y, z, h1, h2⟩ := h
  exact ⟨x, y, z, by rw [upd_ne e.symm]; exact h1, h2⟩
def spDraw : Sp := fun vs H Q _ => ∃ (a : Addr) (m : Int) (n : Nat), vs = [.ref a, .int m] ∧ Src H a n ∧ n ≤ 1000000 ∧ 1 ≤ m ∧ m ≤ 1000000 ∧ ∀ r H', 0 ≤ r → r < m → Src H' a (n + 1) → Bt a H H' → Q (.int r) H'
theorem lt_pow {i : Int} {n : Nat} (h0 : 0 ≤ i) (h : i < 2 ^ n) : i.natAbs < 2 ^ n := by
  have e : ((i.natAbs : Nat) : Int) = i := Int.natAbs_of_nonneg h0
  have h' : ((i.natAbs : Nat) : Int) < ((2 ^ n : Nat) : Int) := by
    rw [e]
    simpa using h
  exact Int.ofNat_lt.mp h'
theorem zz_le {z : Int} (h0 : 0 ≤ z) (h : z ≤ 1000001) : z * z ≤ 1000002000001 := by
  have := Int.mul_le_mul h h h0 (by decide)
  omega
theorem ok_law_draw {f : Addr} {fd : FuncData} (F : Fun K "_law_draw" "_law_draw" s_law_draw f fd) : FnG P w K mg base CX0 1 f fd ["source", "count"] spDraw := by
  refine okG F sc_law_draw (fun vs H Q E h => ?_) (fun cdv A outer s H vs Q E hG hr h => ?_)
  · obtain ⟨a, m, n, rfl, _⟩ := h
    rfl
  · obtain ⟨a, m, n, rfl, ⟨x, y, z, ha, y0, y1, z0, z1⟩, hn, m0, m1, q⟩ := h
    refine ⟨_, (pss_cons (ps_if (pt_cmpR op_gt (pe_ix ix_list (pv 0) pe_int (fun _ _ => rfl)) pe_int (nomark _)) (pss_cons (ps_set (i := 2) sc_law_draw.nd rfl (Or.inl rfl) (pe_op op_mod (pe_ix ix_list (pv 0) pe_int (fun _ _ => rfl)) (pv 1)))
          (pss_cons (ps_asg (pe_op op_fdivW (pe_ix ix_list (pv 0) pe_int (fun _ _ => rfl)) (pv 1)) (pg_sub (pv 0) pe_int set_list))
          (pss_one (ps_ret (pv 2))))) pss_nil)
        (pss_cons (ps_asg (pe_op op_add (pe_ix ix_list (pv 0) pe_int (fun _ _ => rfl)) pe_int) (pg_sub (pv 0) pe_int set_list))
        (pss_cons (ps_set (i := 3) sc_law_draw.nd rfl (Or.inl rfl) (pe_op op_mod (pe_op op_powW (pe_op op_add (pe_ix ix_list (pv 0) pe_int (fun _ _ => rfl)) (pe_op op_mulW pe_int (pe_ix ix_list (pv 0) pe_int (fun _ _ => rfl)))) pe_int) (pe_op op_add (pe_op op_powW pe_int pe_int) pe_int)))
        (pss_cons (ps_set (i := 3) sc_law_draw.nd rfl (Or.inl rfl) (pe_op op_mod (pe_op op_powW (pe_op op_add (pv 3) (pe_op op_mulW pe_int (pe_ix ix_list (pv 0) pe_int (fun _ _ => rfl)))) pe_int) (pe_op op_add (pe_op op_powW pe_int pe_int) pe_int)))
        (pss_one (ps_ret (pe_op op_mod (pe_op op_fdivW (pv 3) pe_int) (pv 1)))))))), ?_⟩
    have hS : SqL K H a [.int x, .int y, .int z] := .of ha
    by_cases hx : 0 < x
    · refine ⟨_, rfl, a, _, 0, _, rfl, rfl, hS, at0, _, _, rfl, rfl, true, dT hx, ?_⟩
      refine ⟨_, rfl, a, _, 0, _, rfl, rfl, hS, at0, _, rfl, _, _, rfl, rfl, (by show (0 : Int) < m; omega), ?_⟩
      refine ⟨_, rfl, a, _, 0, _, rfl, rfl, hS, at0, _, rfl, _, _, rfl, rfl, wide_div (b := 30) (by omega) (lt_pow (by omega) (by omega)) (by decide) (by decide), ?_⟩
      refine ⟨_, rfl, a, _, 0, 0, rfl, rfl, ha, rfl, _, rfl, ?_⟩
      exact q _ _ (Int.emod_nonneg _ (by omega)) (Int.emod_lt_of_pos _ (by omega)) ⟨_, _, _, upd_same, y0, y1, z0, by omega⟩ (.at_ _ _ _)
    · refine ⟨_, rfl, a, _, 0, _, rfl, rfl, hS, at0, _, _, rfl, rfl, false, dF hx, ?_⟩
      refine ⟨_, rfl, a, _, 2, _, rfl, rfl, hS, at2, _, _, rfl, rfl, _, rfl, a, _, 2, 2, rfl, rfl, ha, rfl, ?_⟩
      have hS2 : SqL K (upd H a (.lst [.int x, .int y, .int (z + 1)])) a [.int x, .int y, .int (z + 1)] := .of upd_same
      have c1 : CPowW (y + 980131 * (z + 1)) 3 := powW_ok (n := 400) (lt_pow (by omega) (by omega)) (by decide) (by decide)
      have p1 : CPowW 10 39 := powW_ok (n := 4) (by decide) (by decide) (by decide)
      have p2 : CPowW 10 36 := powW_ok (n := 4) (by decide) (by decide) (by decide)
      have k1 : (10 : Int) ^ (39 : Int).toNat + 3 = 1000000000000000000000000000000000000003 := by decide +kernel
      have k2 : (10 : Int) ^ (36 : Int).toNat + 67 = 1000000000000000000000000000000000067 := by decide +kernel
      have n1 : (0 : Int) < 10 ^ (39 : Int).toNat + 3 := by rw [k1]; decide
      have n2 : (0 : Int) < 10 ^ (36 : Int).toNat + 67 := by rw [k2]; decide
      refine ⟨_, rfl, a, _, 1, _, rfl, rfl, hS2, at1, _, rfl, a, _, 2, _, rfl, rfl, hS2, at2, _, _, rfl, rfl, wide_mul (a := 30) (b := 30) (by decide) (lt_pow (by omega) (by omega)) (by decide) (by decide) (by decide), _, _, rfl, rfl, _, _, rfl, rfl, c1, _, _, rfl, rfl, p1, _, _, rfl, rfl, _, _, rfl, rfl, n1, ?_⟩
      generalize (y + 980131 * (z + 1)) ^ (3 : Int).toNat = big
      have b0 : 0 ≤ big % (10 ^ (39 : Int).toNat + 3) := Int.emod_nonneg _ (Int.ne_of_gt n1)
      have b1 : big % (10 ^ (39 : Int).toNat + 3) < 1000000000000000000000000000000000000003 := by
        have := Int.emod_lt_of_pos big n1
        rw [k1] at this
        rw [k1]
        exact this
      have c2 : ∀ mx : Int, 0 ≤ mx → mx < 1000000000000000000000000000000000000003 → CPowW (mx + 79 * (z + 1)) 3 := fun mx b0 b1 => powW_ok (n := 400) (lt_pow (by omega) (by omega)) (by decide) (by decide)
      refine ⟨_, rfl, _, rfl, a, _, 2, _, rfl, rfl, hS2, at2, _, _, rfl, rfl, wide_mul (a := 30) (b := 30) (by decide) (lt_pow (by omega) (by omega)) (by decide) (by decide) (by decide), _, _, rfl, rfl, _, _, rfl, rfl, c2 _ b0 b1, _, _, rfl, rfl, p2, _, _, rfl, rfl, _, _, rfl, rfl, n2, ?_⟩
      refine ⟨_, rfl, _, _, rfl, rfl, wide_div (b := 30) (by decide) (by decide) (by decide) (by decide), _, rfl, _, _, rfl, rfl, (by show (0 : Int) < m; omega), ?_⟩
      exact q _ _ (Int.emod_nonneg _ (by omega)) (Int.emod_lt_of_pos _ (by omega)) ⟨_, _, _, upd_same, y0, y1, by omega, by omega⟩ (.at_ _ _ _)
/-! ### where the draws come from -/
def spSource : Sp := fun vs H Q _ => ∃ (c : Int) (k : Nat), vs = [.int c, .int (k : Int)] ∧ k ≤ 1000 ∧ ∀ H' p, Same H H' → H p = none → Src H' p 0 → Q (.ref p) H'
theorem ok_law_source {f : Addr} {fd : FuncData} (F : Fun K "_law_source" "_law_source" s_law_source f fd) (B : NoB mg) : FnG P w K mg base CX0 1 f fd ["cell", "k"] spSource := by
  refine okG F sc_law_source (fun vs H Q E h => ?_) (fun cdv A outer s H vs Q E hG hr h => ?_)
  · obtain ⟨c, k, rfl, _⟩ := h
    rfl
  · obtain ⟨c, k, rfl, hk, q⟩ := h
    refine ⟨_, (pss_one (ps_ret (pe_lst (pa_cons (pe_callB (call_max2 rfl) (by rfl) B.max (by decide +kernel) (pa_cons pe_int (pa_cons (pe_op op_sub (pv 0) (pe_op op_powW pe_int pe_int)) pa_nil))) (pa_cons (pe_op op_add (pe_op op_mulW (pe_op op_mod (pv 0) (pe_op op_add (pe_op op_powW pe_int pe_int) pe_int)) pe_int) (pv 1)) (pa_cons pe_int pa_nil)))))), ?_⟩
    have p1 : CPowW 10 18 := powW_ok (n := 4) (by decide) (by decide) (by decide)
    have p2 : CPowW 10 33 := powW_ok (n := 4) (by decide) (by decide) (by decide)
    have e : (10 : Int) ^ (33 : Int).toNat + 153 = 1000000000000000000000000000000153 := by decide +kernel
    have m0 : (0 : Int) < 10 ^ (33 : Int).toNat + 153 := by rw [e]; decide
    have r0 := Int.emod_nonneg c (Int.ne_of_gt m0)
    have r1 := Int.emod_lt_of_pos c m0
    have r2 : c % (10 ^ (33 : Int).toNat + 153) < 1000000000000000000000000000000153 := by
      rw [e] at r1
      rw [e]
      exact r1
    refine ⟨_, rfl, _, _, rfl, rfl, p1, _, _, rfl, rfl, _, _, rfl, _, rfl, _, _, rfl, rfl, p2, _, _, rfl, rfl, _, _, rfl, rfl, m0, _, _, rfl, rfl, wide_mul (a := 200) (b := 30) (lt_pow r0 (by omega)) (by decide) (by decide) (by decide) (by decide),
      _, rfl, _, _, rfl, rfl, by show 3 ≤ sizeLine; decide, fun p np => q _ p (same_new np) np ?_⟩
    exact ⟨_, _, _, upd_same, by omega, by omega, Int.le_refl _, Int.le_refl _⟩
end
/-! ### the drawn history -/
def upL (n : Nat) : List Int := (List.range n).map fun i : Nat => 1 + (i : Int)
theorem nodup_map {α β : Type} {f : α → β} (hf : ∀ x y, f x = f y → x = y) : ∀ {l : List α}, l.Nodup → (l.map f).Nodup
  | [], _ => List.nodup_nil
  | x :: r, h => by
    obtain ⟨h1, h2⟩ := List.nodup_cons.mp h
    refine List.nodup_cons.mpr ⟨fun hm => ?_, nodup_map hf h2⟩
    obtain ⟨y, hy, e⟩ := List.mem_map.mp hm
    exact h1 (hf _ _ e ▸ hy)
theorem upL_nd (n : Nat) : (upL n).Nodup := nodup_map (fun x y e => by omega) List.nodup_range
theorem upL_mem {n : Nat} {k : Int} (h : k ∈ upL n) : 1 ≤ k ∧ k ≤ (n : Int) := by
  obtain ⟨i, hi, rfl⟩ := List.mem_map.mp h
  have := List.mem_range.mp hi
  omega
theorem upL_len (n : Nat) : (upL n).length = n := by
  unfold upL
  rw [List.length_map, List.length_range]
theorem rgV_up (b : Int) : rgV 1 b = (upL (b - 1).toNat).map V.int := by
  unfold rgV upL
  rw [List.map_map]
  rfl
structure Good (fr av fd : List Int) : Prop where
  rng : ∀ e ∈ fd, e ≠ 0 ∧ -100 ≤ e ∧ e ≤ 100
  nd : fd.Nodup
  ord : ∀ (i : Nat) (e : Int), fd[i]? = some e → e < 0 → -e ∈ fd.take i
  avn : av.Nodup
  avm : ∀ k ∈ av, 0 < k ∧ k ∈ fd ∧ -k ∉ fd
  frn : fr.Nodup
  frm : ∀ k ∈ fr, 1 ≤ k ∧ k ≤ 100 ∧ k ∉ fd
theorem ord_snoc {fd : List Int} {x : Int} (h : ∀ (i : Nat) (e : Int), fd[i]? = some e → e < 0 → -e ∈ fd.take i) (hx : x < 0 → -x ∈ fd) (i : Nat) (e : Int) (he : (fd ++ [x])[i]? = some e) (h0 : e < 0) : -e ∈ (fd ++ [x]).take i := by
  by_cases hi : i < fd.length
  · rw [List.getElem?_append_left hi] at he
    rw [List.take_append_of_le_length (Nat.le_of_lt hi)]
    exact h i e he h0
  · have hi2 := lt_get he
    rw [List.length_append, List.length_singleton] at hi2
    have e1 : i = fd.length := by omega
    subst e1
    rw [List.getElem?_append_right (Nat.le_refl _), Nat.sub_self] at he
    have e2 : x = e := Option.some.inj he
    subst e2
    rw [List.take_append_of_le_length (Nat.le_refl _), List.take_length]
    exact hx h0
theorem ord_mem {fd : List Int} (h : ∀ (i : Nat) (e : Int), fd[i]? = some e → e < 0 → -e ∈ fd.take i) {e : Int} (he : e ∈ fd) (h0 : e < 0) : -e ∈ fd := by
  obtain ⟨i, hi, rfl⟩ := List.mem_iff_getElem.mp he
  exact List.mem_of_mem_take (h i _ (List.getElem?_eq_getElem hi) h0)
theorem nodup_snoc {l : List Int} {x : Int} (h : l.Nodup) (hx : x ∉ l) : (l ++ [x]).Nodup :=
  List.nodup_append.mpr ⟨h, List.nodup_cons.mpr ⟨List.not_mem_nil, List.nodup_nil⟩, fun a ha b hb e => hx (by
    rw [List.mem_singleton] at hb
    rw [← hb, ← e]
    exact ha)⟩
theorem Good.push {k : Int} {fr av fd : List Int} (g : Good (k :: fr) av fd) : Good fr (av ++ [k]) (fd ++ [k]) := by
  obtain ⟨k1, k2, k3⟩ := g.frm k List.mem_cons_self
  obtain ⟨n1, n2⟩ := List.nodup_cons.mp g.frn
  have kn : -k ∉ fd := fun h => k3 (by
    have z := ord_mem g.ord h (by omega)
    rwa [Int.neg_neg] at z)
  have kav : k ∉ av := fun h => k3 (g.avm k h).2.1
  refine ⟨fun e he => ?_, nodup_snoc g.nd k3, ord_snoc g.ord (fun z => by omega), nodup_snoc g.avn kav, fun j hj => ?_, n2, fun j hj => ?_⟩
  · rcases List.mem_append.mp he with h | h
    · exact g.rng e h
    · rw [List.mem_singleton] at h
      omega
  · rw [List.mem_append, List.mem_append, List.mem_singleton, List.mem_singleton]
    rcases List.mem_append.mp hj with h | h
    · obtain ⟨a, b, c⟩ := g.avm j h
      exact ⟨a, .inl b, fun z => z.elim c fun z => by omega⟩
    · rw [List.mem_singleton] at h
      subst h
      exact ⟨by omega, .inr rfl, fun z => z.elim kn fun z => by omega⟩
  · obtain ⟨a, b, c⟩ := g.frm j (List.mem_cons_of_mem _ hj)
    refine ⟨a, b, fun z => ?_⟩
    rcases List.mem_append.mp z with h | h
    · exact c h
    · rw [List.mem_singleton] at h
      exact n1 (h ▸ hj)
theorem Good.stop {fr av fd : List Int} (g : Good fr av fd) {j : Nat} (hj : j < av.length) : Good fr (av.eraseIdx j) (fd ++ [-av[j]]) := by
  obtain ⟨a0, a1, a2⟩ := g.avm av[j] (List.getElem_mem hj)
  have pm := erase_perm av j hj
  have ndp : (av[j] :: av.eraseIdx j).Nodup := pm.nodup_iff.mpr g.avn
  obtain ⟨m1, m2⟩ := List.nodup_cons.mp ndp
  refine ⟨fun e he => ?_, nodup_snoc g.nd a2, ord_snoc g.ord (fun _ => by rw [Int.neg_neg]; exact a1), m2, fun k hk => ?_, g.frn, fun k hk => ?_⟩
  · rcases List.mem_append.mp he with h | h
    · exact g.rng e h
    · rw [List.mem_singleton] at h
      have := g.rng _ a1
      omega
  · have hk2 : k ∈ av := pm.mem_iff.mp (List.mem_cons_of_mem _ hk)
    obtain ⟨a, b, c⟩ := g.avm k hk2
    refine ⟨a, List.mem_append_left _ b, fun z => ?_⟩
    rcases List.mem_append.mp z with h | h
    · exact c h
    · rw [List.mem_singleton] at h
      have e : k = av[j] := by omega
      exact m1 (e ▸ hk)
  · obtain ⟨a, b, c⟩ := g.frm k hk
    refine ⟨a, b, fun z => ?_⟩
    rcases List.mem_append.mp z with h | h
    · exact c h
    · rw [List.mem_singleton] at h
      omega
theorem eqvT {xs ys : List Int} (h : xs = ys) : V.bl (PyData.eqv (dI xs) (dI ys)) = V.bl true := by rw [eqv_ints, decide_eq_true h]
theorem eqvF {xs ys : List Int} (h : ¬ xs = ys) : V.bl (PyData.eqv (dI xs) (dI ys)) = V.bl false := by rw [eqv_ints, decide_eq_false h]
theorem neqT {xs ys : List Int} (h : ¬ xs = ys) : V.bl (!PyData.eqv (dI xs) (dI ys)) = V.bl true := by rw [eqv_ints, decide_eq_false h]; rfl
theorem neqF {xs ys : List Int} (h : xs = ys) : V.bl (!PyData.eqv (dI xs) (dI ys)) = V.bl false := by rw [eqv_ints, decide_eq_true h]; rfl
theorem nodup_len {l : List Int} : ∀ {m : List Int}, l.Nodup → (∀ x ∈ l, x ∈ m) → l.length ≤ m.length := by
  induction l with
  | nil => intro m _ _; exact Nat.zero_le _
  | cons x r ih =>
    intro m h s
    obtain ⟨h1, h2⟩ := List.nodup_cons.mp h
    have hx := s x List.mem_cons_self
    have z := ih (m := m.erase x) h2 fun y hy => (List.mem_erase_of_ne (fun e : y = x => h1 (e ▸ hy))).mpr (s y (List.mem_cons_of_mem _ hy))
    rw [List.length_erase_of_mem hx] at z
    have := List.length_pos_of_mem hx
    show r.length + 1 ≤ m.length
    omega
theorem Good.perm {fr fr' av fd : List Int} (g : Good fr av fd) (p : fr'.Perm fr) : Good fr' av fd :=
  ⟨g.rng, g.nd, g.ord, g.avn, g.avm, p.nodup_iff.mpr g.frn, fun k hk => g.frm k (p.mem_iff.mp hk)⟩
theorem Good.pushAt {fr av fd : List Int} (g : Good fr av fd) {j : Nat} (hj : j < fr.length) : Good (fr.eraseIdx j) (av ++ [fr[j]]) (fd ++ [fr[j]]) :=
  (g.perm (erase_perm fr j hj)).push
section
variable {P : Program} {w : World} {K : PySem.W.Frag} {mg : Str → Option Value} {base : Heap}
/-! ### _law_row -/
def spRow : Sp := fun vs H Q _ => ∃ (src : Addr) (most : Int) (n : Nat), vs = [.ref src, .int most] ∧ Src H src n ∧ n ≤ 800000 ∧ 0 ≤ most ∧ most ≤ 200 ∧
  ∀ (H' : Hp) (p : Addr) (row : List Int), Hist row → (row.length : Int) ≤ most → Bt src H H' → Src H' src (n + 2000) → H p = none → H' p = some (.lst (row.map V.int)) → Q (.ref p) H'
/-- what the loop of _law_row keeps -/
def LogF (H H' : Hp) (src fa fo al : Addr) (n : Nat) (fr av fd : List Int) : Prop :=
  H' fa = some (.lst (fr.map V.int)) ∧ H' al = some (.lst (av.map V.int)) ∧ H' fo = some (.lst (fd.map V.int)) ∧ Src H' src n ∧ Bt src H H'
theorem ok_law_row {f : Addr} {fdd : FuncData} (F : Fun K "_law_row" "_law_row" s_law_row f fdd) (B : NoB mg) (T_law_draw : Gc P w K mg base 1 "_law_draw" spDraw) : FnG P w K mg base CX0 2 f fdd ["source", "most"] spRow := by
  refine okG F sc_law_row (fun vs H Q E h => ?_) (fun cdv A outer s H vs Q E hG hr h => ?_)
  · obtain ⟨src, most, n, rfl, _⟩ := h
    rfl
  · obtain ⟨src, most, n, rfl, hs, hn, o1, o2, q⟩ := h
    have hu64 := hr.units
    refine ⟨_, (pss_cons (ps_set (i := 2) sc_law_row.nd rfl (Or.inl rfl) (pe_ix ix_list (pe_lst (pa_cons (pe_g T_law_draw hG hr (by decide) (by rfl) (pa_cons (pv 0) (pa_cons (pe_op op_add (pv 1) pe_int) pa_nil))) (pa_cons (pe_g T_law_draw hG hr (by decide) (by rfl) (pa_cons (pv 0) (pa_cons (pe_op op_add (pe_callB (call_min2 rfl) (by rfl) B.min (by decide +kernel) (pa_cons (pv 1) (pa_cons pe_int pa_nil))) pe_int) pa_nil))) (pa_cons (pv 1) pa_nil)))) (pe_g T_law_draw hG hr (by decide) (by rfl) (pa_cons (pv 0) (pa_cons pe_int pa_nil))) (fun _ _ => rfl)))
        (pss_cons (ps_par3 (i := 3) (j := 4) (l := 5) (by rfl) sc_law_row.nd rfl rfl rfl (by decide) (by decide) (by decide) rfl rfl rfl (pa_cons (pe_g T_law_draw hG hr (by decide) (by rfl) (pa_cons (pv 0) (pa_cons pe_int pa_nil))) (pa_cons (pe_g T_law_draw hG hr (by decide) (by rfl) (pa_cons (pv 0) (pa_cons pe_int pa_nil))) (pa_cons (pe_g T_law_draw hG hr (by decide) (by rfl) (pa_cons (pv 0) (pa_cons pe_int pa_nil))) pa_nil))) (by rfl))
        (pss_cons (ps_par3 (i := 6) (j := 7) (l := 8) (by rfl) sc_law_row.nd rfl rfl rfl (by decide) (by decide) (by decide) rfl rfl rfl (pa_cons (pe_listRg rfl (by rfl) B.list (prg_2 (by rfl) B.range pe_int pe_int)) (pa_cons (pe_lst pa_nil) (pa_cons (pe_lst pa_nil) pa_nil))) (by rfl))
        (pss_cons (ps_for PassesOwn.never rfl (pi_range1 rfl B.range (pa_cons (pv 2) pa_nil)) (pg_name (i := 9) sc_law_row.nd rfl (Or.inl rfl))
          (pss_cons (ps_set (i := 10) sc_law_row.nd rfl (Or.inl rfl) (pe_ix ix_list (pe_lst (pa_cons (pe_cmpR op_eq (pe_g T_law_draw hG hr (by decide) (by rfl) (pa_cons (pv 0) (pa_cons pe_int pa_nil))) pe_int (nomark _)) (pa_cons (pe_cmpR op_gt (pe_g T_law_draw hG hr (by decide) (by rfl) (pa_cons (pv 0) (pa_cons pe_int pa_nil))) pe_int (nomark _)) (pa_cons (pe_cmpR op_lt (pe_op op_mulW pe_int (pv 9)) (pv 2) (nomark _)) (pa_cons (pe_cmpR (op_eqD hu64) (pv 7) (pe_lst pa_nil) (nomark _)) pa_nil))))) (pv 3) (fun _ _ => rfl)))
          (pss_one (ps_if (pt_mid (PW.pt (pw_and (pt_cmpR (op_neD hu64) (pv 6) (pe_lst pa_nil) (nomark _)) (pw_and1 (PW.pt (pw_or (pt_cmpR (op_eqD hu64) (pv 7) (pe_lst pa_nil) (nomark _)) (pw_or1 (pt_val (pv 10))))))))) (pss_cons (ps_expr (pe_bm PySem.F.plainAttrs_list PySem.F.slot_list_append PySem.F.type_list_append mt_append (pv 7) (pa_cons (pe_bm PySem.F.plainAttrs_list PySem.F.slot_list_pop PySem.F.type_list_pop mt_popAt (pv 6) (pa_cons (pe_ix ix_list (pe_lst (pa_cons pe_int (pa_cons (pe_g T_law_draw hG hr (by decide) (by rfl) (pa_cons (pv 0) (pa_cons (pe_callB call_len_seq (by rfl) B.len PySem.boot_len (pa_cons (pv 6) pa_nil)) pa_nil))) pa_nil))) (pv 5) (fun _ _ => rfl)) pa_nil)) pa_nil)))
            (pss_one (ps_expr (pe_bm PySem.F.plainAttrs_list PySem.F.slot_list_append PySem.F.type_list_append mt_append (pv 8) (pa_cons (pe_ix ix_list (pv 7) (pe_un un_neg pe_int) (fun _ _ => rfl)) pa_nil))))) (pss_one (ps_if (pt_cmpR (op_neD hu64) (pv 7) (pe_lst pa_nil) (nomark _)) (pss_cons (ps_set (i := 11) sc_law_row.nd rfl (Or.inl rfl) (pe_lst (pa_cons (pe_g T_law_draw hG hr (by decide) (by rfl) (pa_cons (pv 0) (pa_cons (pe_callB call_len_seq (by rfl) B.len PySem.boot_len (pa_cons (pv 7) pa_nil)) pa_nil))) (pa_cons (pe_op op_sub (pe_callB call_len_seq (by rfl) B.len PySem.boot_len (pa_cons (pv 7) pa_nil)) pe_int) (pa_cons pe_int (pa_cons (pe_g T_law_draw hG hr (by decide) (by rfl) (pa_cons (pv 0) (pa_cons (pe_callB call_len_seq (by rfl) B.len PySem.boot_len (pa_cons (pv 7) pa_nil)) pa_nil))) pa_nil))))))
              (pss_one (ps_expr (pe_bm PySem.F.plainAttrs_list PySem.F.slot_list_append PySem.F.type_list_append mt_append (pv 8) (pa_cons (pe_op op_sub pe_int (pe_bm PySem.F.plainAttrs_list PySem.F.slot_list_pop PySem.F.type_list_pop mt_popAt (pv 7) (pa_cons (pe_ix ix_list (pv 11) (pv 4) (fun _ _ => rfl)) pa_nil))) pa_nil))))) pss_nil))))))
        (pss_one (ps_ret (pv 8))))))), ?_⟩
    -- many
    refine ⟨_, rfl, _, rfl, _, _, rfl, rfl, src, _, n, rfl, hs, by omega, by omega, by omega, fun r1 H1 r10 r11 hs1 b1 => ?_⟩
    refine ⟨_, rfl, _, rfl, _, _, rfl, _, _, rfl, rfl, src, _, n + 1, rfl, hs1, by omega, by split <;> omega, by split <;> omega, fun r2 H2 r20 r21 hs2 b2 => ?_⟩
    have r22 : r2 ≤ most := by
      split at r21 <;> omega
    refine ⟨_, rfl, by show 3 ≤ sizeLine; decide, fun L nL => ?_⟩
    refine ⟨_, rfl, src, 3, n + 2, rfl, hs2.new nL, by omega, by decide, by decide, fun r3 H3 r30 r31 hs3 b3 => ?_⟩
    have nLs := hs2.ne nL
    have hL3 : H3 L = some (.lst [.int r1, .int r2, .int most]) := b3 _ _ nLs upd_same
    obtain ⟨many, em, k1, k2⟩ : ∃ m : Int, atI [V.int r1, .int r2, .int most] r3 = some (.int m) ∧ 0 ≤ m ∧ m ≤ most := by
      have c : r3 = 0 ∨ r3 = 1 ∨ r3 = 2 := by omega
      rcases c with rfl | rfl | rfl
      · exact ⟨_, at0, by omega, by omega⟩
      · exact ⟨_, at1, by omega, by omega⟩
      · exact ⟨_, at2, o1, Int.le_refl _⟩
    have b03 : Bt src H H3 := ((b1.trans b2).add nL).trans b3
    refine ⟨L, _, r3, _, rfl, rfl, .of hL3, em, ?_⟩
    -- style, ends, named
    refine ⟨_, rfl, src, 4, n + 3, rfl, hs3, by omega, by decide, by decide, fun st H4 st0 st1 hs4 b4 => ?_⟩
    refine ⟨_, rfl, src, 4, n + 4, rfl, hs4, by omega, by decide, by decide, fun en H5 en0 en1 hs5 b5 => ?_⟩
    refine ⟨_, rfl, src, 2, n + 5, rfl, hs5, by omega, by decide, by decide, fun nd H6 nd0 nd1 hs6 b6 => ⟨_, _, _, rfl, ?_⟩⟩
    have b06 := ((b03.trans b4).trans b5).trans b6
    -- left, active, found
    refine ⟨_, _, rfl, rfl, RgOk.of_le (by decide) (by decide) (by decide) (by decide), fun lf nlf => ⟨Nat.zero_le _, fun al nal => ⟨Nat.zero_le _, fun fo nfo => ⟨_, _, _, rfl, ?_⟩⟩⟩⟩
    have nlfs := hs6.ne nlf
    have nals := (hs6.new nlf).ne nal
    have nfos := ((hs6.new nlf).new nal).ne nfo
    have nla : lf ≠ al := ne_of_none upd_same nal
    have nlo : lf ≠ fo := ne_of_none (show (upd (upd H6 lf (.lst (rgV 1 101))) al (.lst [])) lf = some (.lst (rgV 1 101)) by rw [upd_ne nla, upd_same]) nfo
    have nao : al ≠ fo := ne_of_none upd_same nfo
    have hlf0 : H lf = none := free_of b06 nlfs nlf
    have nal6 : H6 al = none := by rw [upd_ne nla.symm] at nal; exact nal
    have hal0 : H al = none := free_of b06 nals nal6
    have nfo6 : H6 fo = none := by rw [upd_ne nao.symm, upd_ne nlo.symm] at nfo; exact nfo
    have hfo0 : H fo = none := free_of b06 nfos nfo6
    -- the turns
    refine ⟨_, rfl, many, rfl, by omega, by omega, ?_⟩
    refine for_range (lo := 0) (n := many.toNat) (fun i σ H' => (∃ y1 y2 y3, σ = [some (.ref src), some (.int most), some (.int many), some (.int st), some (.int en), some (.int nd), some (.ref lf), some (.ref al), some (.ref fo), y1, y2, y3]) ∧
      ∃ fr av fd : List Int, LogF H H' src lf fo al (n + 6 + 5 * i) fr av fd ∧ Good fr av fd ∧ fd.length ≤ i ∧ fr.length ≤ 100) ⟨⟨_, _, _, rfl⟩, upL 100, [], [], ⟨?_, ?_, upd_same, ((hs6.new nlf).new nal).new nfo, ((b06.add nlf).add nal).add nfo⟩, ?_, Nat.le_refl _, by rw [upL_len]; exact Nat.le_refl _⟩ (fun i σ H' hi h => ?_) (fun σ H' h => ?_)
    · rw [upd_ne nlo, upd_ne nla, upd_same, rgV_up]
      rfl
    · rw [upd_ne nao, upd_same]
      rfl
    · exact ⟨fun e he => absurd he List.not_mem_nil, List.nodup_nil, fun i e he => by simp at he, List.nodup_nil, fun k hk => absurd hk List.not_mem_nil, upL_nd 100, fun k hk => ⟨(upL_mem hk).1, (upL_mem hk).2, List.not_mem_nil⟩⟩
    · obtain ⟨⟨y1, y2, y3, rfl⟩, fr, av, fd, ⟨f1, f2, f3, f4, f5⟩, g, ln, frl⟩ := h
      have avl : av.length ≤ 100 := Nat.le_trans (nodup_len (m := upL 100) g.avn fun k hk => by
        obtain ⟨a, b, _⟩ := g.avm k hk
        have := g.rng k b
        exact List.mem_map.mpr ⟨(k - 1).toNat, List.mem_range.mpr (by omega), by omega⟩) (by rw [upL_len]; exact Nat.le_refl _)
      have i200 : i < 200 := by omega
      -- begins
      refine ⟨_, rfl, src, 2, n + 6 + 5 * i, rfl, f4, by omega, by decide, by decide, fun q1 G1 q10 q11 hg1 c1 => ⟨rfl, ?_⟩⟩
      refine ⟨_, rfl, src, 4, n + 6 + 5 * i + 1, rfl, hg1, by omega, by decide, by decide, fun q2 G2 q20 q21 hg2 c2 => ⟨_, _, rfl, rfl, ?_⟩⟩
      refine ⟨_, rfl, _, _, rfl, rfl, wide_mul (a := 3) (b := 10) (by decide) (by omega) (by decide) (by decide) (by decide), _, rfl, _, _, rfl, rfl, ?_⟩
      have f1b := c2 _ _ nlfs (c1 _ _ nlfs f1)
      have f2b := c2 _ _ nals (c1 _ _ nals f2)
      have f3b := c2 _ _ nfos (c1 _ _ nfos f3)
      have f5b := (f5.trans c1).trans c2
      refine ⟨_, rfl, Nat.zero_le _, fun e1 ne1 => ?_⟩
      refine ⟨dI av, dI [], dp_ints (.of (same_new ne1 _ _ f2b)), dp_ints (ns := []) (.of upd_same), shaped_ints _, shaped_ints _, ?_⟩
      refine ⟨by show 4 ≤ sizeLine; decide, fun L2 nL2 => ?_⟩
      have s3 := (same_new (o := .lst []) ne1).trans (same_new (o := .lst [V.bl (decide (V.int q1 = V.int 0)), V.bl (decide (0 < q2)), V.bl (decide (2 * (0 + (i : Int)) < many)), V.bl (PyData.eqv (dI av) (dI []))]) nL2)
      obtain ⟨bb, ebb⟩ : ∃ bb : Bool, atI [V.bl (decide (V.int q1 = V.int 0)), V.bl (decide (0 < q2)), V.bl (decide (2 * (0 + (i : Int)) < many)), V.bl (PyData.eqv (dI av) (dI []))] st = some (.bl bb) := by
        have c : st = 0 ∨ st = 1 ∨ st = 2 ∨ st = 3 := by omega
        rcases c with rfl | rfl | rfl | rfl
        · exact ⟨_, at0⟩
        · exact ⟨_, at1⟩
        · exact ⟨_, at2⟩
        · exact ⟨_, atI_nat (j := 3) rfl⟩
      refine ⟨_, rfl, L2, _, st, .bl bb, rfl, rfl, .of upd_same, ebb, ?_⟩
      have l0 : LogF H (upd (upd G2 e1 (.lst [])) L2 (.lst [V.bl (decide (V.int q1 = V.int 0)), V.bl (decide (0 < q2)), V.bl (decide (2 * (0 + (i : Int)) < many)), V.bl (PyData.eqv (dI av) (dI []))])) src lf fo al (n + 6 + 5 * i + 2) fr av fd :=
        ⟨s3 _ _ f1b, s3 _ _ f2b, s3 _ _ f3b, hg2.same s3, f5b.trans (.of s3)⟩
      generalize upd (upd G2 e1 (.lst [])) L2 (.lst [V.bl (decide (V.int q1 = V.int 0)), V.bl (decide (0 < q2)), V.bl (decide (2 * (0 + (i : Int)) < many)), V.bl (PyData.eqv (dI av) (dI []))]) = G3 at l0 ⊢
      have lnew : ∀ {Ga : Hp} {e : Addr} {o : HO} {k : Nat}, LogF H Ga src lf fo al k fr av fd → Ga e = none → LogF H (upd Ga e o) src lf fo al k fr av fd := fun {Ga e o k} l ne => by
        obtain ⟨g1, g2, g3, g4, g5⟩ := l
        exact ⟨same_new ne _ _ g1, same_new ne _ _ g2, same_new ne _ _ g3, g4.new ne, g5.add ne⟩
      refine ⟨fun b H3 => LogF H H3 src lf fo al (n + 6 + 5 * i + 2) fr av fd ∧ (b = true → fr ≠ []), ?_, fun b H3 hM => ?_⟩
      · refine ⟨_, rfl, Nat.zero_le _, fun e ne => ?_⟩
        have l1 := lnew (o := .lst []) l0 ne
        by_cases hfr : fr = []
        · exact ⟨dI fr, dI [], dp_ints (.of l1.1), dp_ints (ns := []) (.of upd_same), shaped_ints _, shaped_ints _, false, neqF hfr, l1, fun z => absurd z Bool.false_ne_true⟩
        · refine ⟨dI fr, dI [], dp_ints (.of l1.1), dp_ints (ns := []) (.of upd_same), shaped_ints _, shaped_ints _, true, neqT hfr, ?_⟩
          refine ⟨_, rfl, Nat.zero_le _, fun e3 ne3 => ?_⟩
          have l2 := lnew (o := .lst []) l1 ne3
          by_cases hav : av = []
          · exact ⟨dI av, dI [], dp_ints (.of l2.2.1), dp_ints (ns := []) (.of upd_same), shaped_ints _, shaped_ints _, true, eqvT hav, l2, fun _ => hfr⟩
          · exact ⟨dI av, dI [], dp_ints (.of l2.2.1), dp_ints (ns := []) (.of upd_same), shaped_ints _, shaped_ints _, false, eqvF hav, _, rfl, bb, rfl, l2, fun _ => hfr⟩
      · obtain ⟨⟨f1, f2, f3, f4, f5⟩, hb1⟩ := hM
        have fdl : fd.length < 100000 := by omega
        cases b with
        | true =>
          have hfr := hb1 rfl
          have fpos : 0 < fr.length := Nat.pos_of_ne_zero fun z => hfr (List.length_eq_zero_iff.mp z)
          refine ⟨_, rfl, .inl ⟨rfl, _, .of f2⟩, _, rfl, .inl ⟨rfl, _, .of f1⟩, _, rfl, _, rfl, lf, _, rfl, .inl (.of f1), src, _, n + 6 + 5 * i + 2, rfl, f4, by omega, by rw [List.length_map]; omega, by rw [List.length_map]; omega, fun r5 H5 r50 r51 hs5 b5 => ?_⟩
          rw [List.length_map] at r51
          have f1f := b5 _ _ nlfs f1
          have f2f := b5 _ _ nals f2
          have f3f := b5 _ _ nfos f3
          refine ⟨by show 2 ≤ sizeLine; decide, fun sp nsp => ?_⟩
          obtain ⟨j, ej, hj⟩ : ∃ j : Nat, atI [V.int 0, .int r5] nd = some (.int (j : Int)) ∧ j < fr.length := by
            have c : nd = 0 ∨ nd = 1 := by omega
            obtain ⟨j, rfl⟩ := nat_of r50
            rcases c with rfl | rfl
            · exact ⟨0, at0, fpos⟩
            · exact ⟨j, at1, by omega⟩
          have f1g := same_new (o := .lst [V.int 0, .int r5]) nsp _ _ f1f
          have f2g := same_new (o := .lst [V.int 0, .int r5]) nsp _ _ f2f
          have f3g := same_new (o := .lst [V.int 0, .int r5]) nsp _ _ f3f
          have f4g := hs5.new (o := .lst [V.int 0, .int r5]) nsp
          have f5g := (f5.trans b5).add (o := .lst [V.int 0, .int r5]) nsp
          refine ⟨_, rfl, sp, _, nd, _, rfl, rfl, .of upd_same, ej, lf, _, _, j, _, rfl, rfl, f1g, (nm (by omega)).1, (nm (by omega)).2, by rw [List.length_map]; exact ix_at hj, get_at hj, al, _, _, rfl, rfl, (by rw [upd_ne nla.symm]; exact f2g), by rw [List.length_map]; exact zl (by omega), ?_⟩
          generalize upd H5 sp (.lst [V.int 0, .int r5]) = H6' at f1g f2g f3g f4g f5g ⊢
          have fo3 : (upd (upd H6' lf (.lst ((fr.map V.int).eraseIdx j))) al (.lst (av.map V.int ++ [.int fr[j]]))) fo = some (.lst (fd.map V.int)) := by rw [upd_ne nao.symm, upd_ne nlo.symm]; exact f3g
          refine ⟨_, rfl, .inl ⟨rfl, _, .of fo3⟩, _, rfl, 1, rfl, al, _, -1, _, rfl, rfl, .of upd_same, at_last, fo, _, _, rfl, rfl, fo3, by rw [List.length_map]; exact zl fdl, ⟨_, _, _, rfl⟩, fr.eraseIdx j, av ++ [fr[j]], fd ++ [fr[j]], ⟨?_, ?_, ?_, ?_, ?_⟩, g.pushAt hj, ?_, ?_⟩
          · rw [upd_ne nlo, upd_ne nla, upd_same, erase_map]
          · rw [upd_ne nao, upd_same, List.map_append]
            rfl
          · rw [upd_same, List.map_append]
            rfl
          · exact (((f4g.upd nlfs).upd nals).upd nfos).mono (by omega)
          · exact ((f5g.mut hlf0).mut hal0).mut hfo0
          · rw [List.length_append]
            exact Nat.succ_le_succ ln
          · rw [List.length_eraseIdx]
            split <;> omega
        | false =>
          refine ⟨_, rfl, Nat.zero_le _, fun e ne => ?_⟩
          have l1 := lnew (o := .lst []) (⟨f1, f2, f3, f4, f5⟩ : LogF H H3 src lf fo al (n + 6 + 5 * i + 2) fr av fd) ne
          obtain ⟨f1e, f2e, f3e, f4e, f5e⟩ := l1
          by_cases hav : av = []
          · refine ⟨dI av, dI [], dp_ints (.of f2e), dp_ints (ns := []) (.of upd_same), shaped_ints _, shaped_ints _, false, neqF hav, ?_⟩
            exact ⟨⟨_, _, _, rfl⟩, fr, av, fd, ⟨f1e, f2e, f3e, f4e.mono (by omega), f5e⟩, g, Nat.le_succ_of_le ln, frl⟩
          · refine ⟨dI av, dI [], dp_ints (.of f2e), dp_ints (ns := []) (.of upd_same), shaped_ints _, shaped_ints _, true, neqT hav, ?_⟩
            have apos : 0 < av.length := Nat.pos_of_ne_zero fun z => hav (List.length_eq_zero_iff.mp z)
            refine ⟨_, rfl, _, rfl, al, _, rfl, .inl (.of f2e), src, _, n + 6 + 5 * i + 2, rfl, f4e, by omega, by rw [List.length_map]; omega, by rw [List.length_map]; omega, fun r5 H5 r50 r51 hs5 b5 => ?_⟩
            rw [List.length_map] at r51
            have f1f := b5 _ _ nlfs f1e
            have f2f := b5 _ _ nals f2e
            have f3f := b5 _ _ nfos f3e
            refine ⟨_, rfl, al, _, rfl, .inl (.of f2f), _, _, rfl, rfl, ?_⟩
            refine ⟨_, rfl, _, rfl, al, _, rfl, .inl (.of f2f), src, _, n + 6 + 5 * i + 3, rfl, hs5, by omega, by rw [List.length_map]; omega, by rw [List.length_map]; omega, fun r6 H6 r60 r61 hs6 b6 => ?_⟩
            rw [List.length_map] at r61
            have f1g := b6 _ _ nlfs f1f
            have f2g := b6 _ _ nals f2f
            have f3g := b6 _ _ nfos f3f
            refine ⟨by show 4 ≤ sizeLine; decide, fun sp nsp => ?_⟩
            have f1h : ∀ o, (upd H6 sp o) lf = some (.lst (fr.map V.int)) := fun o => same_new nsp _ _ f1g
            have f2h : ∀ o, (upd H6 sp o) al = some (.lst (av.map V.int)) := fun o => same_new nsp _ _ f2g
            have f3h : ∀ o, (upd H6 sp o) fo = some (.lst (fd.map V.int)) := fun o => same_new nsp _ _ f3g
            have f4h : ∀ o, Src (upd H6 sp o) src (n + 6 + 5 * i + 4) := fun o => hs6.new nsp
            have f5h : ∀ o, Bt src H (upd H6 sp o) := fun o => ((f5e.trans b5).trans b6).add nsp
            obtain ⟨j, ej, hj⟩ : ∃ j : Nat, atI [V.int r5, .int ((((av.map V.int).length : Nat) : Int) - 1), .int 0, .int r6] en = some (.int (j : Int)) ∧ j < av.length := by
              have c : en = 0 ∨ en = 1 ∨ en = 2 ∨ en = 3 := by omega
              have fin : ∀ (s : Nat) (v : Int), [V.int r5, .int ((((av.map V.int).length : Nat) : Int) - 1), .int 0, .int r6][s]? = some (.int v) → 0 ≤ v → v < (av.length : Int) → ∃ j : Nat, atI [V.int r5, .int ((((av.map V.int).length : Nat) : Int) - 1), .int 0, .int r6] (s : Int) = some (.int (j : Int)) ∧ j < av.length := fun s v e v0 v1 => by
                obtain ⟨j, rfl⟩ := nat_of v0
                exact ⟨j, atI_nat e, by omega⟩
              rcases c with rfl | rfl | rfl | rfl
              · exact fin 0 r5 rfl r50 r51
              · exact fin 1 _ rfl (by rw [List.length_map]; omega) (by rw [List.length_map]; omega)
              · exact fin 2 0 rfl (by decide) (by omega)
              · exact fin 3 r6 rfl r60 r61
            refine ⟨_, rfl, .inl ⟨rfl, _, .of (f3h _)⟩, _, rfl, .inl ⟨rfl, _, .of (f2h _)⟩, _, rfl, _, rfl, sp, _, en, _, rfl, rfl, .of upd_same, ej, al, _, _, j, _, rfl, rfl, f2h _, (nm (by omega)).1, (nm (by omega)).2, by rw [List.length_map]; exact ix_at hj, get_at hj, _, _, rfl, rfl, fo, _, _, rfl, rfl, (by rw [upd_ne nao.symm]; exact f3h _), by rw [List.length_map]; exact zl fdl, ?_⟩
            refine ⟨⟨_, _, _, rfl⟩, fr, av.eraseIdx j, fd ++ [-av[j]], ⟨?_, ?_, ?_, ?_, ?_⟩, g.stop hj, ?_, frl⟩
            · rw [upd_ne nlo, upd_ne nla]
              exact f1h _
            · rw [upd_ne nao, upd_same, erase_map]
            · rw [upd_same, List.map_append]
              show some (HO.lst (_ ++ [V.int (0 - av[j])])) = _
              rw [Int.zero_sub]
              rfl
            · exact (((f4h _).upd nals).upd nfos).mono (by omega)
            · exact ((f5h _).mut hal0).mut hfo0
            · rw [List.length_append]
              exact Nat.succ_le_succ ln
    · obtain ⟨⟨y1, y2, y3, rfl⟩, fr, av, fd, ⟨f1, f2, f3, f4, f5⟩, g, ln, frl⟩ := h
      exact ⟨_, rfl, q _ fo fd ⟨g.rng, g.nd, g.ord, by omega⟩ (by omega) f5 (f4.mono (by omega)) hfo0 f3⟩
end
theorem filt_succ {ns : List Int} {f : Int → Bool} {i : Nat} {e : Int} (h : ns[i]? = some e) : (ns.take (i + 1)).filter f = (ns.take i).filter f ++ if f e = true then [e] else [] := by
  rw [take_get h, List.filter_append, List.filter_cons]
  split <;> rfl
theorem filt_len {ns : List Int} {f : Int → Bool} (i : Nat) : ((ns.take i).filter f).length ≤ i := by
  have a := List.length_filter_le f (ns.take i)
  rw [List.length_take] at a
  omega
def stL (ns : List Int) : List Int := ns.filter fun e => decide (0 < e)
theorem stL_len (ns : List Int) : (stL ns).length ≤ ns.length := List.length_filter_le _ _
theorem stL_nd {ns : List Int} (hh : Hist ns) : (stL ns).Nodup := hh.nd.sublist List.filter_sublist
theorem mem_stL {ns : List Int} {k : Int} (h : k ∈ ns) (h0 : 0 < k) : k ∈ stL ns := List.mem_filter.mpr ⟨h, decide_eq_true h0⟩
section
variable {P : Program} {w : World} {K : PySem.W.Frag} {mg : Str → Option Value} {base : Heap}
/-! ### starts_of -/
def spStarts (K : PySem.W.Frag) : Sp := fun vs H Q _ => ∃ (a : Addr) (ns : List Int), vs = [.ref a] ∧ SqL K H a (ns.map V.int) ∧ ns.length ≤ 1000 ∧
  ∀ H' p, Same H H' → H' p = some (.lst ((stL ns).map V.int)) → H p = none → Q (.ref p) H'
theorem ok_starts_of {f : Addr} {fd : FuncData} (F : Fun K "starts_of" "starts_of" s_starts_of f fd) : FnOk P w K mg base CX0 1 f fd ["history"] (spStarts K) := by
  refine F.ok sc_starts_of (fun vs H Q E h => ?_) (fun cdv A outer s H vs Q E hr h => ?_)
  · obtain ⟨a, ns, rfl, _⟩ := h
    rfl
  · obtain ⟨a, ns, rfl, hS, hl, q⟩ := h
    refine ⟨_, (pss_one (ps_ret (pe_lc (own := [("event", 1)]) (g := gName 1) (tt := _) rfl sc_starts_of.nd (pi_list (pv 0)) (blkOk_by (own := [("event", 1)]) (N := N_starts_of) (sc := defScope s_starts_of) (by decide +kernel)) (fun _ _ _ _ _ => (pg_name (i := 1) sc_starts_of.nd rfl (Or.inl rfl))) (fun _ _ _ _ _ => (pts_one (pt_cmpR op_gt (pv 1) pe_int (nomark _)))) (fun _ _ _ _ _ => (pv 1))))), ?_⟩
    refine ⟨_, rfl, a, rfl, ⟨_, hS⟩, fun D hD => lc_list (xs := ns.map V.int) (LcP H D fun i => ((ns.take i).filter fun e => decide (0 < e)).map V.int) (.init hD rfl) (fun i H' _ p => p.2.1.seq hS) (fun i x H' hx p => ?_) (fun H1 p => ?_)⟩
    · obtain ⟨e, rfl, he⟩ := get_int hx
      have fs := filt_succ (f := fun e => decide (0 < e)) he
      have fl := filt_len (ns := ns) (f := fun e => decide (0 < e)) i
      have li := lt_get he
      refine ⟨rfl, ?_⟩
      by_cases h0 : 0 < e
      · refine ⟨_, rfl, _, _, rfl, rfl, true, dT h0, ?_⟩
        refine ⟨_, rfl, p.put (Same.refl _) ?_ (by rw [List.length_map]; omega)⟩
        show ((ns.take (i + 1)).filter _).map V.int = _
        rw [fs, if_pos (by simp [h0]), List.map_append]
        rfl
      · refine ⟨_, rfl, _, _, rfl, rfl, false, dF h0, ?_⟩
        refine p.skip (Same.refl _) ?_
        show ((ns.take (i + 1)).filter _).map V.int = _
        rw [fs, if_neg (by simp [h0]), List.append_nil]
    · have hp := p.2.2
      rw [List.length_map] at hp
      have hp : H1 D = some (.lst (((ns.take ns.length).filter fun e => decide (0 < e)).map V.int)) := hp
      rw [List.take_length] at hp
      exact q _ _ p.2.1 hp hD
end
theorem fl_put {ns : List Int} {f : Int → Bool} {i : Nat} {e : Int} (h : ns[i]? = some e) (hf : f e = true) (g : Int → V) : ((ns.take (i + 1)).filter f).map g = ((ns.take i).filter f).map g ++ [g e] := by
  rw [filt_succ h, if_pos hf, List.map_append]
  rfl
theorem fl_skip {ns : List Int} {f : Int → Bool} {i : Nat} {e : Int} (h : ns[i]? = some e) (hf : f e = false) (g : Int → V) : ((ns.take (i + 1)).filter f).map g = ((ns.take i).filter f).map g := by
  rw [filt_succ h, if_neg (by rw [hf]; exact Bool.false_ne_true), List.append_nil]
theorem fl_len {ns : List Int} {f : Int → Bool} {i : Nat} {g : Int → V} (h : i ≤ 1000) : (((ns.take i).filter f).map g).length < 100000 := by
  rw [List.length_map]
  have := filt_len (ns := ns) (f := f) i
  omega
theorem fl_end {H : Hp} {D : Addr} {l : List Int} {f : Int → Bool} {g : Int → V} {n : Nat} (hn : n = l.length) (h : H D = some (.lst (((l.take n).filter f).map g))) : H D = some (.lst ((l.filter f).map g)) := by
  subst hn
  rw [List.take_length] at h
  exact h
section
variable {P : Program} {w : World} {K : PySem.W.Frag} {mg : Str → Option Value} {base : Heap}
def runL (ns : List Int) : List Int := (stL ns).filter fun e => decide (-e ∉ ns)
def spRunA (K : PySem.W.Frag) : Sp := fun vs H Q _ => ∃ (a : Addr) (ns : List Int), vs = [.ref a] ∧ SqL K H a (ns.map V.int) ∧ Hist ns ∧
  ∀ (H' : Hp) (p : Addr) (R : List Int), Same H H' → H p = none → H' p = some (.lst (R.map V.int)) → R.Perm (runL ns) → R.Pairwise (· ≤ ·) → Q (.ref p) H'
theorem ok_running_after {f : Addr} {fd : FuncData} (F : Fun K "running_after" "running_after" s_running_after f fd) (B : NoB mg) (T_check_history : Cal P w K mg base 6 "check_history" (spCheck K)) (T_starts_of : Cal P w K mg base 1 "starts_of" (spStarts K)) : FnOk P w K mg base CX0 7 f fd ["history"] (spRunA K) := by
  refine F.ok sc_running_after (fun vs H Q E h => ?_) (fun cdv A outer s H vs Q E hr h => ?_)
  · obtain ⟨a, ns, rfl, _⟩ := h
    rfl
  · obtain ⟨a, ns, rfl, hS, hh, q⟩ := h
    have hl : ns.length ≤ 1000 := by have := hh.len; omega
    refine ⟨_, (pss_cons (ps_expr (pe_c T_check_history hr (by decide) (by rfl) (pa_cons (pv 0) pa_nil)))
        (pss_one (ps_ret (pe_callB cr_sortedI (by rfl) B.sorted (by decide +kernel) (pa_cons (pe_lc (own := [("patch", 1)]) (g := gName 1) (tt := _) rfl sc_running_after.nd (pi_list (pe_c T_starts_of hr (by decide) (by rfl) (pa_cons (pv 0) pa_nil))) (blkOk_by (own := [("patch", 1)]) (N := N_running_after) (sc := defScope s_running_after) (by decide +kernel)) (fun _ _ _ _ _ => (pg_name (i := 1) sc_running_after.nd rfl (Or.inl rfl))) (fun _ _ _ _ _ => (pts_one (pt_cmpR (k_notin (K := K) rfl) (pe_un un_neg (pv 1)) (pv 0) (by rfl)))) (fun _ _ _ _ _ => (pv 1))) pa_nil))))), ?_⟩
    refine ⟨_, rfl, a, ns, rfl, hS, hh, fun H1 s1 => ?_⟩
    refine ⟨_, rfl, a, ns, rfl, s1.seq hS, hl, fun H2 p s2 hp np => ⟨p, rfl, ⟨_, .of hp⟩, fun D nD => ?_⟩⟩
    have s02 := s1.trans s2
    refine lc_list (xs := (stL ns).map V.int) (LcP H2 D fun i => (((stL ns).take i).filter fun e => decide (-e ∉ ns)).map V.int) (.init nD rfl) (fun i H' _ p => .of (p.2.1 _ _ hp)) (fun i x H' hx p => ?_) (fun H3 p3 => ?_)
    · obtain ⟨k, rfl, hk⟩ := get_int hx
      have il := lt_get hk
      have sl := stL_len ns
      refine ⟨rfl, ?_⟩
      by_cases c : -k ∈ ns
      · exact ⟨_, rfl, k, rfl, _, rfl, a, _, rfl, .inl ((s02.trans p.2.1).seq hS), rfl, flatI _, false, notInF c, p.skip (Same.refl _) (fl_skip hk (decide_eq_false (fun z => z c)) V.int)⟩
      · exact ⟨_, rfl, k, rfl, _, rfl, a, _, rfl, .inl ((s02.trans p.2.1).seq hS), rfl, flatI _, true, notInT c, _, rfl, p.put (Same.refl _) (fl_put hk (decide_eq_true c) V.int) (fl_len (by omega))⟩
    · have hD : H3 D = some (.lst ((runL ns).map V.int)) := fl_end (List.length_map ..) p3.2.2
      have s3 := p3.2.1
      exact ⟨D, runL ns, rfl, .of hD, fun ns' z pm pw nz => q _ z ns' ((s02.trans s3).trans (same_new nz)) ((s02.trans s3).free nz) upd_same pm pw⟩
end
section
variable {P : Program} {w : World} {K : PySem.W.Frag} {mg : Str → Option Value} {base : Heap}
/-! ### _law_active, _law_nested -/
def actL (ns : List Int) : List Int := ns.filter fun e => decide (e > 0 ∧ 0 - e ∉ ns)
def spAct (K : PySem.W.Frag) : Sp := fun vs H Q _ => ∃ (a : Addr) (ns : List Int), vs = [.ref a] ∧ SqL K H a (ns.map V.int) ∧ ns.length ≤ 1000 ∧
  ∀ (H' : Hp) (p : Addr) (R : List Int), Same H H' → H p = none → H' p = some (.lst (R.map V.int)) → R.Perm (actL ns) → R.Pairwise (· ≤ ·) → Q (.ref p) H'
theorem ok_law_active {f : Addr} {fd : FuncData} (F : Fun K "_law_active" "_law_active" s_law_active f fd) (B : NoB mg) : FnG P w K mg base CX0 1 f fd ["row"] (spAct K) := by
  refine okG F sc_law_active (fun vs H Q E h => ?_) (fun cdv A outer s H vs Q E hG hr h => ?_)
  · obtain ⟨a, ns, rfl, _⟩ := h
    rfl
  · obtain ⟨a, ns, rfl, hS, hl, q⟩ := h
    refine ⟨_, (pss_one (ps_ret (pe_callB cr_sortedI (by rfl) B.sorted (by decide +kernel) (pa_cons (pe_lc (own := [("event", 1)]) (g := gName 1) (tt := _) rfl sc_law_active.nd (pi_list (pv 0)) (blkOk_by (own := [("event", 1)]) (N := N_law_active) (sc := defScope s_law_active) (by decide +kernel)) (fun _ _ _ _ _ => (pg_name (i := 1) sc_law_active.nd rfl (Or.inl rfl))) (fun _ _ _ _ _ => (pts_one (PW.pt (pw_and (pt_cmpR op_gt (pv 1) pe_int (nomark _)) (pw_and1 (pt_cmpR (k_notin (K := K) rfl) (pe_op op_sub pe_int (pv 1)) (pv 0) (by rfl))))))) (fun _ _ _ _ _ => (pv 1))) pa_nil)))), ?_⟩
    refine ⟨_, rfl, a, rfl, ⟨_, hS⟩, fun D nD => ?_⟩
    refine lc_list (xs := ns.map V.int) (LcP H D fun i => ((ns.take i).filter fun e => decide (e > 0 ∧ 0 - e ∉ ns)).map V.int) (.init nD rfl) (fun i H' _ p => p.2.1.seq hS) (fun i x H' hx p => ?_) (fun H3 p3 => ?_)
    · obtain ⟨e, rfl, he⟩ := get_int hx
      have il := lt_get he
      have hS' := p.2.1.seq hS
      refine ⟨rfl, ?_⟩
      by_cases c : e > 0
      · by_cases c2 : 0 - e ∈ ns
        · exact ⟨_, rfl, _, _, rfl, rfl, true, dT c, _, rfl, _, _, rfl, rfl, _, rfl, a, _, rfl, .inl hS', rfl, flatI _, false, notInF c2, p.skip (.refl _) (fl_skip he (decide_eq_false (fun z => z.2 c2)) _)⟩
        · exact ⟨_, rfl, _, _, rfl, rfl, true, dT c, _, rfl, _, _, rfl, rfl, _, rfl, a, _, rfl, .inl hS', rfl, flatI _, true, notInT c2, _, rfl, p.put (.refl _) (fl_put he (decide_eq_true ⟨c, c2⟩) _) (fl_len (by omega))⟩
      · exact ⟨_, rfl, _, _, rfl, rfl, false, dF c, p.skip (.refl _) (fl_skip he (decide_eq_false (fun z => c z.1)) _)⟩
    · have hD : H3 D = some (.lst ((actL ns).map V.int)) := fl_end (List.length_map ..) p3.2.2
      have s3 := p3.2.1
      exact ⟨D, actL ns, rfl, .of hD, fun ns' z pm pw nz => q _ z ns' (s3.trans (same_new nz)) (s3.free nz) upd_same pm pw⟩
end
/-! ### orders, of any value -/
theorem sorted_uniq {xs ys : List Int} (p : xs.Perm ys) (h1 : xs.Pairwise (· ≤ ·)) (h2 : ys.Pairwise (· ≤ ·)) : xs = ys :=
  List.Perm.eq_of_pairwise (le := (· ≤ ·)) (fun a b _ _ h1 h2 => Int.le_antisymm h1 h2) h1 h2 p
theorem act_run (ns : List Int) : actL ns = runL ns := by
  unfold actL runL stL
  rw [List.filter_filter]
  refine List.filter_congr fun e _ => ?_
  rw [← Bool.decide_and]
  refine decide_eq_decide.mpr ?_
  rw [Int.zero_sub]
  exact ⟨fun h => ⟨h.2, h.1⟩, fun h => ⟨h.2, h.1⟩⟩
theorem mem_run {ns : List Int} {k : Int} : k ∈ runL ns ↔ k ∈ ns ∧ 0 < k ∧ -k ∉ ns := by
  unfold runL stL
  rw [List.mem_filter, List.mem_filter, decide_eq_true_eq, decide_eq_true_eq, and_assoc]
theorem runL_len {ns : List Int} (hh : Hist ns) : (runL ns).length ≤ 100 := by
  have nd : (runL ns).Nodup := (stL_nd hh).sublist List.filter_sublist
  have z := nodup_len (m := upL 100) nd fun k hk => by
    obtain ⟨h1, h2, _⟩ := mem_run.mp hk
    have := hh.rng k h1
    exact List.mem_map.mpr ⟨(k - 1).toNat, List.mem_range.mpr (by omega), by omega⟩
  rwa [upL_len] at z
def OrdD (ns : List Int) (d : PyData) : Prop := ∃ O : List Int, d = dI O ∧ O.Perm (runL ns)
theorem ord_sorted {O R S ns : List Int} (hS : S.Perm O) (wS : S.Pairwise (· ≤ ·)) (hR : R.Perm (runL ns)) (wR : R.Pairwise (· ≤ ·)) : S = R ↔ O.Perm (runL ns) :=
  ⟨fun e => hS.symm.trans (e ▸ hR), fun h => sorted_uniq (hS.trans (h.trans hR.symm)) wS wR⟩
theorem bool_of {b c : Bool} {p : Prop} (h : b = true ↔ p) (g : c = true ↔ p) : b = c := by
  cases b <;> cases c <;> simp_all
def rEqNil (K : PySem.W.Frag) : R2 := fun x y H Q => ∃ (a b : Addr) (xs : List V), x = .ref a ∧ y = .ref b ∧ SqL K H a xs ∧ SqL K H b [] ∧ Q (.bl xs.isEmpty) H
theorem op_eqNil {X : Cx} (hu : X.A.units + 64 < cLine) : OpR X (compareOp .Eq) (rEqNil X.K) := by
  intro pins s σ H x y v u Q I rx ry h
  obtain ⟨a, b, xs, rfl, rfl, ha, hb, q⟩ := h
  cases (show v = Value.ref a from rx)
  cases (show u = Value.ref b from ry)
  obtain ⟨its, r1, p1, _⟩ := I.list ha
  obtain ⟨jts, r2, p2, _⟩ := I.list hb
  cases r2
  cases xs with
  | nil =>
    cases r1
    exact op_eqD hu pins s σ H (.ref a) (.ref b) _ _ Q I rfl rfl ⟨dI [], dI [], dp_ints (ns := []) ha, dp_ints (ns := []) hb, shaped_ints [], shaped_ints [], q⟩
  | cons z zs =>
    cases r1 with
    | cons r rr =>
      exact PySem.SeqAt.RcAt.lists_lengths p1.isList p2.isList rfl (by omega) X.prog X.w X.xe _ ⟨.bl false, H, I, rfl, q⟩
section
variable {P : Program} {w : World} {K : PySem.W.Frag} {mg : Str → Option Value} {base : Heap}
def spIsOrdO (K : PySem.W.Frag) : Sp := fun vs H Q _ => ∃ (a : Addr) (ns : List Int) (v : V) (d : PyData), vs = [.ref a, v] ∧ SqL K H a (ns.map V.int) ∧ Hist ns ∧ Ox K H v d ∧ wt d ≤ 190000 ∧ ∀ H' (b : Bool), Same H H' → (b = true ↔ OrdD ns d) → Q (.bl b) H'
theorem ok_is_order_O {f : Addr} {fd : FuncData} (F : Fun K "is_order" "is_order" s_is_order f fd) (B : NoB mg) {t1 : Tok} (T_g_LAST_PATCH : mg "LAST_PATCH" = some (.int 100 t1)) (T_running_after : Cal P w K mg base 7 "running_after" (spRunA K)) (T_are_integers : Cal P w K mg base 3 "are_integers" (spAreIntsO K)) : FnOk P w K mg base CX0 8 f fd ["history", "value"] (spIsOrdO K) := by
  refine F.ok sc_is_order (fun vs H Q E h => ?_) (fun cdv A outer s H vs Q E hr h => ?_)
  · obtain ⟨a, ns, v, d, rfl, _⟩ := h
    rfl
  · obtain ⟨a, ns, v, d, rfl, hS, hh, hv, hw, q⟩ := h
    have hu64 := hr.units
    refine ⟨_, (pss_cons (ps_set (i := 2) sc_is_order.nd rfl (Or.inl rfl) (pe_c T_running_after hr (by decide) (by rfl) (pa_cons (pv 0) pa_nil)))
        (pss_one (ps_ret (pe_and (pe_c T_are_integers hr (by decide) (by rfl) (pa_cons (pv 1) (pa_cons pe_int (pa_cons (pe_glob (v := .int 100) (by rfl) T_g_LAST_PATCH ⟨_, rfl⟩) (pa_cons (pe_glob (v := .int 100) (by rfl) T_g_LAST_PATCH ⟨_, rfl⟩) pa_nil))))) (pe_one (pe_cmpR (op_eqD hu64) (pe_callB cr_sortedI (by rfl) B.sorted (by decide +kernel) (pa_cons (pv 1) pa_nil)) (pv 2) (nomark _))))))), ?_⟩
    refine ⟨_, rfl, a, ns, rfl, hS, hh, fun H1 p R s1 np hp pR pw => ?_⟩
    have hv1 := ox_same s1 hv
    refine ⟨_, rfl, v, d, 1, 100, 100, rfl, hv1, hw, fun H2 b s2 hb => ?_⟩
    have s12 := s1.trans s2
    cases b with
    | false =>
      refine ⟨_, rfl, iteF (q _ false s12 ⟨(fun h => nomatch h), fun ⟨O, e, hp⟩ => hb.mpr ⟨O, e, ?_, fun n hn => ?_⟩⟩)⟩
      · have := hp.length_eq
        have := runL_len hh
        omega
      · obtain ⟨h1, h2, _⟩ := mem_run.mp (hp.mem_iff.mp hn)
        have := hh.rng n h1
        omega
    | true =>
      obtain ⟨O, rfl, lO, rO⟩ := hb.mp rfl
      obtain ⟨bO, rfl, hO⟩ := ox_ints_inv hv
      refine ⟨_, rfl, iteT ?_⟩
      refine ⟨_, rfl, bO, O, rfl, s12.seq hO, fun ns' z pz wz nz => ?_⟩
      have s3 := same_new (o := .lst (ns'.map V.int)) nz
      refine ⟨_, rfl, dI ns', dI R, dp_ints (.of upd_same), dp_ints (.of (s3 _ _ (s2 _ _ hp))), shaped_ints _, shaped_ints _, ?_⟩
      refine q _ _ (s12.trans s3) ?_
      rw [eqv_ints, decide_eq_true_eq, ord_sorted pz wz pR pw]
      exact ⟨fun h => ⟨O, rfl, h⟩, fun ⟨O', e, h⟩ => dI_inj e ▸ h⟩
/-! ### _law_is_due -/
theorem ok_law_is_due {f : Addr} {fd : FuncData} (F : Fun K "_law_is_due" "_law_is_due" s_law_is_due f fd) (B : NoB mg) (T_law_active : Gc P w K mg base 1 "_law_active" (spAct K)) : FnG P w K mg base CX0 2 f fd ["row", "value"] (spIsOrdO K) := by
  refine okG F sc_law_is_due (fun vs H Q E h => ?_) (fun cdv A outer s H vs Q E hG hr h => ?_)
  · obtain ⟨a, ns, v, d, rfl, _⟩ := h
    rfl
  · obtain ⟨a, ns, v, d, rfl, hS, hh, hv, hw, q⟩ := h
    have hu64 := hr.units
    refine ⟨_, (pss_cons (ps_if (pt_not (pt_val (pe_callB call_isi (by rfl) B.isinstance (by decide +kernel) (pa_cons (pv 1) (pa_cons (pe_bltn (v := .ty "list") (by rfl) B.list boot_list rfl) pa_nil))))) (pss_one (ps_ret pe_bl)) pss_nil)
        (pss_cons (ps_setLc (i := 2) (own := [("one", 3)]) (g := gName 3) (tt := _) rfl sc_law_is_due.nd rfl rfl (sw_true rfl rfl rfl (by decide +kernel)) (pi_list (pv 1)) (blkOk_by (own := [("one", 3)]) (N := N_law_is_due) (sc := defScope s_law_is_due) (by decide +kernel)) (fun _ _ _ _ _ => (pg_name (i := 3) sc_law_is_due.nd rfl (Or.inl rfl))) (fun _ _ _ _ _ => (pts_one (PW.pt (pw_or (pt_val (pe_callB (k_isi (K := K) rfl) (by rfl) B.isinstance (by decide +kernel) (pa_cons (pv 3) (pa_cons (pe_bltn (v := .ty "bool") (by rfl) B.bool boot_bool rfl) pa_nil)))) (pw_or1 (pt_not (pt_val (pe_callB (k_isi (K := K) rfl) (by rfl) B.isinstance (by decide +kernel) (pa_cons (pv 3) (pa_cons (pe_bltn (v := .ty "int") (by rfl) B.int boot_int rfl) pa_nil)))))))))) (fun _ _ _ _ _ => (pv 3)))
        (pss_one (ps_ret (pe_and (pe_cmpR (op_eqNil hu64) (pv 2) (pe_lst pa_nil) (nomark _)) (pe_one (pe_cmpR (op_eqD hu64) (pe_callB cr_sortedI (by rfl) B.sorted (by decide +kernel) (pa_cons (pv 1) pa_nil)) (pe_g T_law_active hG hr (by decide) (by rfl) (pa_cons (pv 0) pa_nil)) (nomark _)))))))), ?_⟩
    refine ⟨_, rfl, _, _, _, _, _, rfl, .ty _, hv.tyx, kit_list d, _, rfl, ?_⟩
    by_cases hl : isL d = true
    · cases hv with
      | @lst va xs ds hX ha =>
        have ln := oxAll_len ha
        have wl := wt_len ds
        have hw : 2 + wtAll ds ≤ 190000 := hw
        refine iteF ?_
        refine ⟨_, rfl, va, rfl, ⟨_, hX⟩, fun D nD => lc_list (xs := xs) (fun i H' => Same H H' ∧ ∃ ys : List V, H' D = some (.lst ys) ∧ ys.length ≤ i ∧ (ys = [] ↔ ∀ e ∈ ds.take i, isI e = true)) ⟨same_new nD, [], upd_same, Nat.le_refl _, fun _ e h => absurd h List.not_mem_nil, fun _ => rfl⟩ (fun i H' _ p => p.1.seq hX) (fun i x H' hx p => ?_) (fun H1 p => ?_)⟩
        · obtain ⟨sm, ys, hD, hyl, hy⟩ := p
          obtain ⟨e, he, hxo⟩ := oxAll_get ha hx
          have hxo := ox_same sm hxo
          have li := lt_get he
          have tk : ∀ {q : Prop}, (∀ z ∈ ds.take (i + 1), isI z = true) ↔ ((∀ z ∈ ds.take i, isI z = true) ∧ isI e = true) := fun {q} => by
            rw [take_get he]
            constructor
            · exact fun h => ⟨fun z hz => h z (List.mem_append_left _ hz), h e (List.mem_append_right _ (List.mem_singleton.mpr rfl))⟩
            · rintro ⟨h1, h2⟩ z hz
              rcases List.mem_append.mp hz with hz | hz
              · exact h1 z hz
              · rw [List.mem_singleton] at hz
                rw [hz]
                exact h2
          have put : isI e = false → ∃ acc, H' D = some (.lst acc) ∧ acc.length < sizeLine ∧ Same H (upd H' D (.lst (acc ++ [x]))) ∧ ∃ ys : List V, (upd H' D (.lst (acc ++ [x]))) D = some (.lst ys) ∧ ys.length ≤ i + 1 ∧ (ys = [] ↔ ∀ z ∈ ds.take (i + 1), isI z = true) := fun hi => ⟨ys, hD, zl (by omega), Lp.Same.mut sm nD, ys ++ [x], upd_same, by rw [List.length_append]; show ys.length + 1 ≤ i + 1; omega, ⟨fun z => by simp at z, fun z => by rw [(tk (q := True)).mp z |>.2] at hi; cases hi⟩⟩
          have skip : isI e = true → Same H H' ∧ ∃ ys : List V, H' D = some (.lst ys) ∧ ys.length ≤ i + 1 ∧ (ys = [] ↔ ∀ z ∈ ds.take (i + 1), isI z = true) := fun hi => ⟨sm, ys, hD, by omega, hy.trans ⟨fun h => (tk (q := True)).mpr ⟨h, hi⟩, fun h => ((tk (q := True)).mp h).1⟩⟩
          refine ⟨rfl, ?_⟩
          refine ⟨_, rfl, _, _, _, _, _, rfl, .ty _, hxo.tyx, kit_bool e, _, rfl, ?_⟩
          by_cases hB : isB e = true
          · have hI : isI e = false := by cases e <;> first | rfl | cases hB
            rw [hB]
            exact iteT ⟨_, rfl, put hI⟩
          · have hB' : isB e = false := Bool.eq_false_iff.mpr hB
            rw [hB']
            refine iteF ?_
            have kk := kit_int (K := K) e
            rw [hB', Bool.or_false] at kk
            refine ⟨_, rfl, _, _, _, _, _, rfl, .ty _, hxo.tyx, kk, _, rfl, ?_⟩
            by_cases hI : isI e = true
            · rw [hI]
              exact iteF (skip hI)
            · have hI' : isI e = false := Bool.eq_false_iff.mpr hI
              rw [hI']
              exact iteT ⟨_, rfl, put hI'⟩
        · obtain ⟨s1, ys, hD, _, hy⟩ := p
          rw [ln, List.take_length] at hy
          refine ⟨_, rfl, Nat.zero_le _, fun z nz => ?_⟩
          have s2 := same_new (o := .lst []) nz
          have s12 := s1.trans s2
          refine ⟨D, z, ys, rfl, rfl, .of (s2 _ _ hD), .of upd_same, ?_⟩
          by_cases hys : ys = []
          · have hI := hy.mp hys
            have hds : ∃ ns : List Int, ds = ns.map PyData.int := by
              have key : ∀ l : List PyData, (∀ e ∈ l, isI e = true) → ∃ ns : List Int, l = ns.map PyData.int := by
                intro l
                induction l with
                | nil => exact fun _ => ⟨[], rfl⟩
                | cons e l ih =>
                  intro h
                  obtain ⟨ns, rfl⟩ := ih fun z hz => h z (List.mem_cons_of_mem _ hz)
                  have he := h e List.mem_cons_self
                  cases e with
                  | int i => exact ⟨i :: ns, rfl⟩
                  | none => cases he
                  | bool _ => cases he
                  | str _ => cases he
                  | list _ => cases he
                  | tuple _ => cases he
                  | dict _ => cases he
              exact key ds hI
            obtain ⟨O, rfl⟩ := hds
            have eX := oxAll_ints_inv ha
            rw [eX] at hX
            rw [hys]
            refine ⟨true, rfl, iteT ?_⟩
            refine ⟨_, rfl, va, O, rfl, s12.seq hX, fun S zs pS wS nzs => ?_⟩
            have s3 := same_new (o := .lst (S.map V.int)) nzs
            have s13 := s12.trans s3
            refine ⟨_, rfl, a, ns, rfl, s13.seq hS, by have := hh.len; omega, fun H4 p R s4 np hp pR wR => ?_⟩
            rw [act_run] at pR
            refine ⟨dI S, dI R, dp_ints (.of (s4 _ _ upd_same)), dp_ints (.of hp), shaped_ints _, shaped_ints _, ?_⟩
            refine q _ _ (s13.trans s4) ?_
            rw [eqv_ints, decide_eq_true_eq, ord_sorted pS wS pR wR]
            exact ⟨fun h => ⟨O, rfl, h⟩, fun ⟨O', e, h⟩ => dI_inj e ▸ h⟩
          · have e : ys.isEmpty = false := by cases ys with | nil => exact absurd rfl hys | cons _ _ => rfl
            rw [e]
            refine ⟨false, rfl, iteF (q _ false s12 ⟨(fun h => nomatch h), fun ⟨O, e, _⟩ => ?_⟩)⟩
            refine absurd (hy.mpr fun z hz => ?_) hys
            rw [PyData.list.inj e] at hz
            obtain ⟨n, _, rfl⟩ := List.mem_map.mp hz
            rfl
      | non => cases hl
      | bl b => cases hl
      | int i => cases hl
      | str x => cases hl
      | tup _ _ => cases hl
      | dct _ => cases hl
    · have hl' : isL d = false := Bool.eq_false_iff.mpr hl
      rw [hl']
      refine iteT (q _ false (Same.refl _) ⟨(fun h => nomatch h), fun ⟨ns, e, _⟩ => ?_⟩)
      subst e
      cases hl'
end
end L11
set_option Elab.async false
set_option linter.all false
set_option maxRecDepth 100000
namespace L11
open PySem PySem.Spec PyProof.Rows L2 Lp
theorem six_nat {n j : Nat} (h : j < n) : seqIndex? (j : Int) n = some j := by
  unfold seqIndex?
  rw [if_neg (show ¬ ((j : Int) < 0) by omega), if_pos (by rw [decide_eq_true (show (0 : Int) ≤ j by omega), decide_eq_true (show (j : Int) < (n : Int) by omega)]; rfl)]
  rfl
theorem erase_map' {α β : Type} (f : α → β) : ∀ (l : List α) (k : Nat), (l.map f).eraseIdx k = (l.eraseIdx k).map f
  | [], _ => rfl
  | _ :: _, 0 => rfl
  | x :: l, k + 1 => by
    show f x :: (l.map f).eraseIdx k = f x :: (l.eraseIdx k).map f
    rw [erase_map' f l k]
/-! ### what a display of values of any kind gives; what is drawn from stands apart -/
abbrev only (a : Addr) : Addr → Bool := fun b => decide (b = a)
def avA (A : Addr → Bool) (H : Hp) : Hp := fun b => if A b = true then none else H b
abbrev av (a : Addr) (H : Hp) : Hp := avA (only a) H
section
variable {A : Addr → Bool} {a b p src : Addr} {H H' H1 : Hp} {o : HO}
theorem avA_ne (n : A b = false) : avA A H b = H b := if_neg (by rw [n]; exact Bool.false_ne_true)
theorem avA_at (n : A b = false) (h : H b = some o) : avA A H b = some o := by rw [avA_ne n]; exact h
theorem avA_some (h : avA A H b = some o) : A b = false ∧ H b = some o := by
  by_cases e : A b = true
  · have : avA A H b = none := if_pos e
    rw [this] at h
    cases h
  · have e := Bool.eq_false_iff.mpr e
    rw [avA_ne e] at h
    exact ⟨e, h⟩
theorem av_ne (n : b ≠ a) : av a H b = H b := avA_ne (decide_eq_false n)
theorem av_at (n : b ≠ a) (h : H b = some o) : av a H b = some o := avA_at (decide_eq_false n) h
theorem av_some (h : av a H b = some o) : b ≠ a ∧ H b = some o := ⟨of_decide_eq_false (avA_some h).1, (avA_some h).2⟩
theorem avA_le : Same (avA A H) H := fun b o h => (avA_some h).2
theorem av_le : Same (av a H) H := avA_le
theorem avA_bt (hA : A src = true) (s : Bt src H H') : Same (avA A H) (avA A H') := fun b o h => by
  obtain ⟨n, e⟩ := avA_some h
  exact avA_at n (s b o (fun z => by rw [z, hA] at n; cases n) e)
theorem av_bt (s : Bt src H H') : Same (av src H) (av src H') := avA_bt (decide_eq_true rfl) s
theorem avA_same (s : Same H H') : Same (avA A H) (avA A H') := fun b o h => by
  obtain ⟨n, e⟩ := avA_some h
  exact avA_at n (s b o e)
theorem av_same (s : Same H H') : Same (av src H) (av src H') := avA_same s
/-- a thing apart from those of A and from a new p -/
theorem avA_new {u : HO} (n : H p = none) : Same (avA A H) (av p (avA A (upd H p u))) := fun b o h => by
  obtain ⟨n1, e⟩ := avA_some h
  have bp : b ≠ p := ne_of_none e n
  exact av_at bp (avA_at n1 (by rw [upd_ne bp]; exact e))
theorem avA_mut {u : HO} : Same (av p (avA A H)) (av p (avA A (upd H p u))) := fun b o h => by
  obtain ⟨bp, h⟩ := av_some h
  obtain ⟨n1, e⟩ := avA_some h
  exact av_at bp (avA_at n1 (by rw [upd_ne bp]; exact e))
/-- those of A stand -/
structure Al (A : Addr → Bool) (src : Addr) (H : Hp) : Prop where
  s : A src = true
  a : ∀ b, A b = true → H b ≠ none
theorem Al.new (h : Al A src H) (np : H p = none) : A p = false := by
  cases e : A p with
  | false => rfl
  | true => exact absurd np (h.a p e)
theorem Al.bt {n : Nat} (h : Al A src H) (b : Bt src H H') (hs : Src H' src n) : Al A src H' := ⟨h.s, fun c hc z => by
  by_cases e : c = src
  · obtain ⟨_, _, _, h1, _⟩ := hs
    rw [e, h1] at z
    cases z
  · cases q : H c with
    | none => exact h.a c hc q
    | some o =>
      rw [b c o e q] at z
      cases z⟩
theorem al_only {n : Nat} (hs : Src H src n) : Al (only src) src H := ⟨decide_eq_true rfl, fun b hb z => by
  have e : b = src := of_decide_eq_true hb
  obtain ⟨_, _, _, h1, _⟩ := hs
  rw [e, h1] at z
  cases z⟩
end
abbrev both (a b : Addr) : Addr → Bool := fun x => decide (x = a) || decide (x = b)
theorem both_ne {a b x : Addr} (h : x ≠ a) (g : x ≠ b) : both a b x = false := by
  show (decide (x = a) || decide (x = b)) = false
  rw [decide_eq_false h, decide_eq_false g]
  rfl
theorem both_of {a b : Addr} {H : Hp} : Same (av b (av a H)) (avA (both a b) H) := fun x o h => by
  obtain ⟨n1, h⟩ := av_some h
  obtain ⟨n2, h⟩ := av_some h
  exact avA_at (both_ne n2 n1) h
theorem both_to {a b : Addr} {H : Hp} : Same (avA (both a b) H) (av b (av a H)) := fun x o h => by
  obtain ⟨n, h⟩ := avA_some h
  have n : (decide (x = a) || decide (x = b)) = false := n
  rw [Bool.or_eq_false_iff] at n
  exact av_at (of_decide_eq_false n.2) (av_at (of_decide_eq_false n.1) h)
theorem al_both {a b : Addr} {H : Hp} {n : Nat} (hs : Src H a n) (hb : H b ≠ none) : Al (both a b) a H := ⟨by show (decide (a = a) || _) = true; rw [decide_eq_true rfl]; rfl, fun x hx z => by
  have hx : (decide (x = a) || decide (x = b)) = true := hx
  rw [Bool.or_eq_true, decide_eq_true_eq, decide_eq_true_eq] at hx
  rcases hx with e | e
  · obtain ⟨_, _, _, h1, _⟩ := hs
    rw [e, h1] at z
    cases z
  · rw [e] at z
    exact hb z⟩
/-- what stood ahead of a new D stands apart from it -/
theorem both_new {a D : Addr} {H H' : Hp} (n : H D = none) (b : Bt a H H') : Same (av a H) (avA (both a D) H') := fun x o h => by
  obtain ⟨n1, e⟩ := av_some h
  exact avA_at (both_ne n1 (ne_of_none e n)) (b x o n1 e)
theorem seq_asg {te : TE} {g : TG} {u : TS} {D : Ends} {σ : L2.St} {H : Hp} (h : te σ H fun x H1 => g x σ H1 (u D)) : tSeq (tAsg te g) u D σ H := h
theorem tOp_run {r : R2} {ta tb : TE} {σ : L2.St} {H : Hp} {Q : VK} (h : ta σ H fun x H1 => tb σ H1 fun y H2 => r x y H2 Q) : tOp r ta tb σ H Q := h
theorem arg1 {te : TE} {σ : L2.St} {H : Hp} {Q : List V → Hp → Prop} (h : te σ H fun x H1 => Q [x] H1) : tCons te tNil σ H Q := h
def Opt (σ : L2.St) (tl : TO) : Prop := ∃ o, ∀ (H : Hp) (Q : Option Int → Hp → Prop), Q o H → tl σ H Q
def Ix (σ : L2.St) (i : Int) (te : TE) : Prop := ∀ (H : Hp) (Q : VK), Q (.int i) H → te σ H Q
section
variable {σ : L2.St} {i j : Int} {ta tb : TE}
theorem Ix.c : Ix σ i (tC (.int i)) := fun H Q h => h
theorem Ix.var {k : Nat} (hs : σ[k]? = some (some (.int i))) : Ix σ i (tVar k) := fun H Q h => ⟨_, hs, h⟩
theorem Ix.neg (h : Ix σ i ta) : Ix σ (-i) (tUn (rU fun i => .int (-i)) ta) := fun H Q q => h H _ ⟨i, rfl, q⟩
theorem Ix.add (h : Ix σ i ta) (g : Ix σ j tb) : Ix σ (i + j) (tOp (rI0 fun i j => .int (i + j)) ta tb) := fun H Q q => h H _ (g H _ ⟨i, j, rfl, rfl, q⟩)
theorem Ix.sub (h : Ix σ i ta) (g : Ix σ j tb) : Ix σ (i - j) (tOp (rI0 fun i j => .int (i - j)) ta tb) := fun H Q q => h H _ (g H _ ⟨i, j, rfl, rfl, q⟩)
theorem Opt.no : Opt σ tNoPart := ⟨none, fun H Q h => h⟩
theorem Opt.ix (h : Ix σ i ta) : Opt σ (tPart ta) := ⟨some i, fun H Q q => h H _ ⟨i, rfl, q⟩⟩
end
structure Vx (K : PySem.W.Frag) (src : Addr) (A : Addr → Bool) (σ : L2.St) (H0 : Hp) (j c k : Nat) (te : TE) : Prop where
  run : ∀ (H : Hp) (Q : VK) (n : Nat), Bt src H0 H → Al A src H → Src H src n → n + j ≤ 900000 → (∀ v d H', Bt src H H' → Src H' src (n + j) → Ox K (avA A H') v d → Bd c k d → Q v H') → te σ H Q
structure Ax (K : PySem.W.Frag) (src : Addr) (A : Addr → Bool) (σ : L2.St) (H0 : Hp) (j c k l : Nat) (ta : TA) : Prop where
  run : ∀ (H : Hp) (Q : List V → Hp → Prop) (n : Nat), Bt src H0 H → Al A src H → Src H src n → n + j ≤ 900000 → (∀ vs ds H', Bt src H H' → Src H' src (n + j) → OxAll K (avA A H') vs ds → (∀ d ∈ ds, Bd c k d) → vs.length = l → Q vs H') → ta σ H Q
structure Lx (K : PySem.W.Frag) (src : Addr) (A : Addr → Bool) (σ : L2.St) (H0 : Hp) (fr : Bool) (j c k L : Nat) (te : TE) : Prop where
  run : ∀ (H : Hp) (Q : VK) (n : Nat), Bt src H0 H → Al A src H → Src H src n → n + j ≤ 900000 → (∀ p vs ds H', Bt src H H' → Src H' src (n + j) → (fr = true → H0 p = none) → A p = false → p ≠ src → H' p = some (.lst vs) → OxAll K (av p (avA A H')) vs ds → (∀ d ∈ ds, Bd c k d) → ds.length ≤ L → Q (.ref p) H') → te σ H Q
theorem bd_all {c k : Nat} : ∀ {ds : List PyData} {L : Nat}, (∀ d ∈ ds, Bd c k d) → ds.length ≤ L → BdAll (L * (c + 2)) k ds
  | [], _, _, _ => BdAll.nil.mono (Nat.zero_le _) (Nat.le_refl _)
  | d :: ds, L, h, hl => by
    have hl : ds.length + 1 ≤ L := hl
    obtain ⟨M, rfl⟩ : ∃ M, L = M + 1 := ⟨L - 1, by omega⟩
    refine (BdAll.cons (h d List.mem_cons_self) (bd_all (L := M) (fun x hx => h x (List.mem_cons_of_mem _ hx)) (by omega))).mono ?_ (Nat.le_refl _)
    rw [Nat.succ_mul]
    omega
theorem bd_wt {m k : Nat} {ds : List PyData} (h : BdAll m k ds) : ∀ d ∈ ds, wt d ≤ m := fun d hd => (h.get hd).w
theorem bd_len {m k : Nat} {ds : List PyData} (h : BdAll m k ds) : 2 * ds.length ≤ m := Nat.le_trans (wt_len ds) h.w
theorem BdAll_rev {m k : Nat} {ds : List PyData} (h : BdAll m k ds) : BdAll m k ds.reverse := by
  induction ds generalizing m with
  | nil => exact h
  | cons d r ih =>
    obtain ⟨h1, h2, h3, h4⟩ := h
    have h3 : (d.showable && PyData.showableAll r) = true := h3
    have h4 : (nod d && nodAll r) = true := h4
    rw [Bool.and_eq_true] at h3 h4
    have h2 : max d.depth (PyData.depthAll r) ≤ k := h2
    have h1 : wt d + 2 + wtAll r ≤ m := h1
    rw [List.reverse_cons]
    refine (BdAll.app (ih (m := wtAll r) ⟨Nat.le_refl _, Nat.le_trans (Nat.le_max_right _ _) h2, h3.2, h4.2⟩) (BdAll.cons (m := wt d) ⟨Nat.le_refl _, Nat.le_trans (Nat.le_max_left _ _) h2, h3.1, h4.1⟩ BdAll.nil)).mono (by omega) (Nat.le_refl _)
theorem oxAll_rev {K : PySem.W.Frag} {H : Hp} : ∀ {vs : List V} {ds : List PyData}, OxAll K H vs ds → OxAll K H vs.reverse ds.reverse
  | _, _, .nil => .nil
  | _, _, .cons h1 h2 => by
    rw [List.reverse_cons, List.reverse_cons]
    exact oxAll_app (oxAll_rev h2) (.cons h1 .nil)
theorem oxAll_cut {K : PySem.W.Frag} {H : Hp} {vs : List V} {ds : List PyData} {lo hi : Option Int} (h : OxAll K H vs ds) : ∃ es, OxAll K H (cutV vs lo hi) es ∧ es.Sublist ds := by
  unfold cutV
  exact ⟨_, oxAll_take _ (oxAll_drop _ h), (List.take_sublist _ _).trans (List.drop_sublist _ _)⟩
theorem oxAll_rep {K : PySem.W.Frag} {H : Hp} {vs : List V} {ds : List PyData} (h : OxAll K H vs ds) : ∀ n : Nat, OxAll K H (List.replicate n vs).flatten (List.replicate n ds).flatten
  | 0 => .nil
  | n + 1 => by
    rw [List.replicate_succ, List.replicate_succ, List.flatten_cons, List.flatten_cons]
    exact oxAll_app h (oxAll_rep h n)
theorem bd_rep {m k : Nat} {ds : List PyData} (h : BdAll m k ds) : ∀ n : Nat, BdAll (n * m) k (List.replicate n ds).flatten
  | 0 => BdAll.nil.mono (Nat.zero_le _) (Nat.le_refl _)
  | n + 1 => by
    rw [List.replicate_succ, List.flatten_cons]
    exact (h.app (bd_rep h n)).mono (by rw [Nat.succ_mul]; omega) (Nat.le_refl _)
theorem mem_rep {ds : List PyData} {d : PyData} : ∀ {n : Nat}, d ∈ (List.replicate n ds).flatten → d ∈ ds := fun {n} h => by
  obtain ⟨l, hl, hd⟩ := List.mem_flatten.mp h
  rw [(List.mem_replicate.mp hl).2] at hd
  exact hd
section
variable {K : PySem.W.Frag} {src : Addr} {A : Addr → Bool} {σ : L2.St} {H0 : Hp} {fr : Bool} {j j1 j2 c c1 k k1 l L L1 L2 : Nat} {te t1 t2 : TE} {ta : TA} {tl th : TO}
theorem big_ok {n L : Nat} (h : n ≤ L) (g : L ≤ 5000000) : n ≤ sizeLine := Nat.le_trans (Nat.le_trans h g) (by decide)
theorem Ax.nil : Ax K src A σ H0 j c k 0 tNil := ⟨fun H Q n b al hs hn q => q [] [] H (.refl _ _) (hs.mono (Nat.le_add_right _ _)) .nil (fun _ h => absurd h List.not_mem_nil) rfl⟩
theorem Ax.cons (h : Vx K src A σ H0 j1 c k te) (g : Ax K src A σ H0 j2 c k l ta) (hj : j1 + j2 ≤ j := by decide) : Ax K src A σ H0 j c k (l + 1) (tCons te ta) :=
  ⟨fun H Q n b al hs hn q => h.run H _ n b al hs (by omega) fun v d H1 b1 hs1 ox bd => g.run H1 _ (n + j1) (b.trans b1) (al.bt b1 hs1) hs1 (by omega) fun vs ds H2 b2 hs2 oxs bds el => by
    refine q _ (d :: ds) H2 (b1.trans b2) (hs2.mono (by omega)) (.cons (ox_same (avA_bt al.s b2) ox) oxs) (fun x hx => ?_) (by rw [List.length_cons, el])
    rcases List.mem_cons.mp hx with rfl | hx
    · exact bd
    · exact bds x hx⟩
theorem Lx.lst (h : Ax K src A σ H0 j c k l ta) (hL : l ≤ L := by decide) (hm : L ≤ 5000000 := by decide) : Lx K src A σ H0 fr j c k L (tLst ta) :=
  ⟨fun H Q n b al hs hn q => h.run H _ n b al hs hn fun vs ds H1 b1 hs1 ox bd el => ⟨by rw [el]; exact big_ok hL hm, fun p np => q p vs ds _ (b1.add np) (hs1.new np) (fun _ => free_of b (hs1.ne np) (free_of b1 (hs1.ne np) np)) ((al.bt b1 hs1).new np) (hs1.ne np) upd_same (oxAll_same (avA_new np) ox) bd (by rw [← oxAll_len ox, el]; exact hL)⟩⟩
theorem Lx.cat (h : Lx K src A σ H0 false j1 c k L1 t1) (g : Lx K src A σ H0 false j2 c k L2 t2) (hL : L1 + L2 ≤ L := by decide) (hj : j1 + j2 ≤ j := by decide) (hm : L ≤ 5000000 := by decide) : Lx K src A σ H0 fr j c k L (tOp rCat t1 t2) :=
  ⟨fun H Q n b al hs hn q => h.run H _ n b al hs (by omega) fun p vs ds H1 b1 hs1 _ pA ps hp ox bd e => g.run H1 _ (n + j1) (b.trans b1) (al.bt b1 hs1) hs1 (by omega) fun p2 vs2 ds2 H2 b2 hs2 _ pA2 ps2 hp2 ox2 bd2 e2 => by
    have l1 := oxAll_len ox
    have l2 := oxAll_len ox2
    refine ⟨p, p2, vs, vs2, rfl, rfl, b2 _ _ ps hp, hp2, big_ok (by omega) hm, fun z nz => ?_⟩
    exact q z _ (ds ++ ds2) _ ((b1.trans b2).add nz) ((hs2.mono (by omega)).new nz) (fun _ => free_of b (hs2.ne nz) (free_of b1 (hs2.ne nz) (free_of b2 (hs2.ne nz) nz))) ((al.bt (b1.trans b2) hs2).new nz) (hs2.ne nz) upd_same (oxAll_same (avA_new nz) (oxAll_app (oxAll_same (avA_bt al.s b2) (oxAll_same avA_le ox)) (oxAll_same avA_le ox2))) (fun x hx => (List.mem_append.mp hx).elim (bd x) (bd2 x)) (by rw [List.length_append]; omega)⟩
theorem Lx.var {i : Nat} {r : Addr} {xs : List V} {ds : List PyData} (hs : σ[i]? = some (some (.ref r))) (rs : r ≠ src) (rA : A r = false) (hr : H0 r = some (.lst xs)) (ox : OxAll K (av r (avA A H0)) xs ds) (bd : ∀ d ∈ ds, Bd c1 k1 d) (hc : c1 ≤ c) (hk : k1 ≤ k) (hL : ds.length ≤ L) : Lx K src A σ H0 false j c k L (tVar i) :=
  ⟨fun H Q n b al hsr hn q => ⟨_, hs, q r xs ds H (.refl _ _) (hsr.mono (Nat.le_add_right _ _)) (fun h => nomatch h) rA rs (b _ _ rs hr) (oxAll_same (avA_same (avA_bt al.s b)) ox) (fun d hd => (bd d hd).mono hc hk) hL⟩⟩
theorem Lx.cut (h : Lx K src A σ H0 false j c k L te) (hl : Opt σ tl) (hh : Opt σ th) : Lx K src A σ H0 fr j c k L (tSl (rSlL K) te tl th) :=
  ⟨fun H Q n b al hs hn q => h.run H _ n b al hs hn fun p vs ds H1 b1 hs1 _ pA ps hp ox bd e => by
    obtain ⟨lo, hlo⟩ := hl
    obtain ⟨hi, hhi⟩ := hh
    refine hlo _ _ (hhi _ _ ⟨p, vs, rfl, .of hp, fun z nz => ?_⟩)
    obtain ⟨es, oe, sub⟩ := oxAll_cut (lo := lo) (hi := hi) (oxAll_same avA_le ox)
    exact q z _ es _ (b1.add nz) (hs1.new nz) (fun _ => free_of b (hs1.ne nz) (free_of b1 (hs1.ne nz) nz)) ((al.bt b1 hs1).new nz) (hs1.ne nz) upd_same (oxAll_same (avA_new nz) oe) (fun x hx => bd x (sub.subset hx)) (Nat.le_trans sub.length_le e)⟩
theorem Lx.rev (h : Lx K src A σ H0 false j c k L te) : Lx K src A σ H0 fr j c k L (tRevL K te) :=
  ⟨fun H Q n b al hs hn q => h.run H _ n b al hs hn fun p vs ds H1 b1 hs1 _ pA ps hp ox bd e => ⟨p, vs, rfl, .of hp, fun z nz => q z _ ds.reverse _ (b1.add nz) (hs1.new nz) (fun _ => free_of b (hs1.ne nz) (free_of b1 (hs1.ne nz) nz)) ((al.bt b1 hs1).new nz) (hs1.ne nz) upd_same (oxAll_same (avA_new nz) (oxAll_rev (oxAll_same avA_le ox))) (fun x hx => bd x (List.mem_reverse.mp hx)) (by rw [List.length_reverse]; exact e)⟩⟩
theorem rep_len {α : Type} (l : List α) : ∀ n : Nat, (List.replicate n l).flatten.length = n * l.length
  | 0 => by simp
  | n + 1 => by rw [List.replicate_succ, List.flatten_cons, List.length_append, rep_len l n, Nat.succ_mul, Nat.add_comm]
theorem Lx.rep {r : Nat} (h : Lx K src A σ H0 false j c k L1 te) (hL : r * L1 ≤ L := by decide) (hm : L ≤ 5000000 := by decide) (hr : r ≤ 1000000 := by decide) : Lx K src A σ H0 fr j c k L (tOp rRep te (tC (.int (r : Int)))) :=
  ⟨fun H Q n b al hs hn q => h.run H _ n b al hs hn fun p vs ds H1 b1 hs1 _ pA ps hp ox bd e => by
    have e1 : ((r : Nat) : Int).toNat = r := Int.toNat_natCast r
    have h2 := oxAll_len ox
    have h3 : r * ds.length ≤ r * L1 := Nat.mul_le_mul_left r e
    refine ⟨p, (r : Int), vs, rfl, rfl, hp, by omega, by omega, ?_, fun z nz => ?_⟩
    · rw [e1, h2, Nat.mul_comm]
      exact big_ok (Nat.le_trans h3 hL) hm
    · rw [e1]
      exact q z _ _ _ (b1.add nz) (hs1.new nz) (fun _ => free_of b (hs1.ne nz) (free_of b1 (hs1.ne nz) nz)) ((al.bt b1 hs1).new nz) (hs1.ne nz) upd_same (oxAll_same (avA_new nz) (oxAll_rep (oxAll_same avA_le ox) r)) (fun x hx => bd x (mem_rep hx)) (by rw [rep_len]; exact Nat.le_trans h3 hL)⟩
theorem ox_of_list {H' : Hp} {p : Addr} {vs : List V} {ds : List PyData} (ps : A p = false) (hp : H' p = some (.lst vs)) (ox : OxAll K (av p (avA A H')) vs ds) : Ox K (avA A H') (.ref p) (.list ds) := .lst (.of (avA_at ps hp)) (oxAll_same avA_le ox)
theorem Vx.ofL (c1 k1 L : Nat) (h : Lx K src A σ H0 false j c1 k1 L te) (hc : 2 + L * (c1 + 2) ≤ c := by decide) (hk : k1 + 1 ≤ k := by decide) : Vx K src A σ H0 j c k te :=
  ⟨fun H Q n b al hs hn q => h.run H Q n b al hs hn fun p vs ds H' b1 hs1 _ pA ps hp ox bd e => q (.ref p) (.list ds) H' b1 hs1 (ox_of_list pA hp ox) ((Bd.list (bd_all bd e)).mono hc hk)⟩
theorem Vx.tup (c1 k1 : Nat) (h : Ax K src A σ H0 j c1 k1 l ta) (hc : 3 + l * (c1 + 2) ≤ c := by decide) (hk : k1 + 1 ≤ k := by decide) (hl : l ≤ 5000000 := by decide) : Vx K src A σ H0 j c k (tTup ta) :=
  ⟨fun H Q n b al hs hn q => h.run H _ n b al hs hn fun vs ds H1 b1 hs1 ox bd el => ⟨by rw [el]; exact big_ok (Nat.le_refl _) hl, fun p np => q (.ref p) (.tuple ds) _ (b1.add np) (hs1.new np) (.tup (.of (avA_at ((al.bt b1 hs1).new np) upd_same)) (oxAll_same avA_le (oxAll_same (avA_new np) ox))) ((Bd.tuple (bd_all (L := l) bd (by rw [← oxAll_len ox, el]; exact Nat.le_refl _))).mono hc hk)⟩⟩
theorem Vx.tupOf (c1 k1 L : Nat) (h : Lx K src A σ H0 false j c1 k1 L te) (hc : 3 + L * (c1 + 2) ≤ c := by decide) (hk : k1 + 1 ≤ k := by decide) : Vx K src A σ H0 j c k (tCB (fun xs H Q => ∃ p ys, xs = [.ref p] ∧ ((SqL K H p ys ∧ ∀ l, H l = none → Q (.ref l) (upd H l (.tup ys))) ∨ (SqT K H p ys ∧ Q (.ref p) H))) (tCons te tNil)) :=
  ⟨fun H Q n b al hs hn q => h.run H _ n b al hs hn fun p vs ds H1 b1 hs1 _ pA ps hp ox bd e => ⟨p, vs, rfl, .inl ⟨.of hp, fun z nz => q (.ref z) (.tuple ds) _ (b1.add nz) (hs1.new nz) (.tup (.of (avA_at ((al.bt b1 hs1).new nz) upd_same)) (oxAll_same avA_le (oxAll_same (avA_new nz) (oxAll_same avA_le ox)))) ((Bd.tuple (bd_all bd e)).mono hc hk)⟩⟩⟩
theorem Vx.non (hc : 4 ≤ c := by decide) : Vx K src A σ H0 j c k (tC .non) := ⟨fun H Q n b al hs hn q => q .non .none H (.refl _ _) (hs.mono (Nat.le_add_right _ _)) .non ⟨hc, Nat.zero_le _, rfl, rfl⟩⟩
theorem Vx.bl {x : Bool} (hc : 5 ≤ c := by decide) : Vx K src A σ H0 j c k (tC (.bl x)) := ⟨fun H Q n b al hs hn q => q (.bl x) (.bool x) H (.refl _ _) (hs.mono (Nat.le_add_right _ _)) (.bl x) ⟨hc, Nat.zero_le _, rfl, rfl⟩⟩
theorem Vx.str {x : Str} (h : (reprText x).length ≤ c) : Vx K src A σ H0 j c k (tC (.str x)) := ⟨fun H Q n b al hs hn q => q (.str x) (.str x) H (.refl _ _) (hs.mono (Nat.le_add_right _ _)) (.str x) ⟨h, Nat.zero_le _, rfl, rfl⟩⟩
theorem Vx.ix {i : Int} (h : Ix σ i te) (hi : i.natAbs < 10 ^ 31) (hc : 40 ≤ c := by decide) : Vx K src A σ H0 j c k te := ⟨fun H Q n b al hs hn q => h H Q (q (.int i) (.int i) H (.refl _ _) (hs.mono (Nat.le_add_right _ _)) (.int i) ((bd_int hi).mono hc (Nat.le_refl _)))⟩
theorem bd_i4 {i : Int} (hi : -999 ≤ i ∧ i ≤ 999) : Bd 4 k (.int i) := by
  have z := bd_int (i := i) (k := k) (Nat.lt_of_le_of_lt (show i.natAbs ≤ 999 by omega) (by decide))
  exact ⟨num_len3 i hi.1 hi.2, z.dp, z.s, z.n⟩
theorem Vx.ix4 {i : Int} (h : Ix σ i te) (hi : -999 ≤ i ∧ i ≤ 999) (hc : 4 ≤ c := by decide) : Vx K src A σ H0 j c k te := ⟨fun H Q n b al hs hn q => h H Q (q (.int i) (.int i) H (.refl _ _) (hs.mono (Nat.le_add_right _ _)) (.int i) ((bd_i4 hi).mono hc (Nat.le_refl _)))⟩
theorem Vx.var {i : Nat} {v : V} {d : PyData} (hs : σ[i]? = some (some v)) (ox : Ox K (avA A H0) v d) (bd : Bd c1 k1 d) (hc : c1 ≤ c := by decide) (hk : k1 ≤ k := by decide) : Vx K src A σ H0 j c k (tVar i) := ⟨fun H Q n b al hsr hn q => ⟨_, hs, q v d H (.refl _ _) (hsr.mono (Nat.le_add_right _ _)) (ox_same (avA_bt al.s b) ox) (bd.mono hc hk)⟩⟩
theorem Vx.dict (hc : 2 ≤ c := by decide) (hk : 1 ≤ k := by decide) : Vx K src A σ H0 j c k tDNewK := ⟨fun H Q n b al hs hn q => fun p np => q (.ref p) (.dict []) _ (.new np) ((hs.mono (Nat.le_add_right _ _)).new np) (.dct (avA_at (al.new np) upd_same)) ⟨hc, hk, rfl, rfl⟩⟩
theorem Vx.draw {i : Nat} {a : Int} {tm : TE} (hs : σ[i]? = some (some (.ref src))) (hm : Ix σ a tm) (h1 : 1 ≤ a) (h2 : a ≤ 1000000) (hc : 40 ≤ c := by decide) (hj : 1 ≤ j := by decide) : Vx K src A σ H0 j c k (tCall spDraw [] E0 (tCons (tVar i) (tCons tm tNil))) :=
  ⟨fun H Q n b al hsr hn q => ⟨_, hs, hm H _ ⟨src, a, n, rfl, hsr, by omega, h1, h2, fun r H' r0 r1 hs' b' => q (.int r) (.int r) H' b' (hs'.mono (by omega)) (.int r) ((bd_int (Nat.lt_of_le_of_lt (show r.natAbs ≤ 1000000 by omega) (by decide))).mono hc (Nat.le_refl _))⟩⟩⟩
theorem Vx.addDraw {i : Nat} {a s : Int} {tm ta : TE} (hs : σ[i]? = some (some (.ref src))) (hm : Ix σ a tm) (h1 : 1 ≤ a) (h2 : a ≤ 1000000) (ha : Ix σ s ta) (hg : -1000 ≤ s ∧ s ≤ 1000) (hc : 40 ≤ c := by decide) (hj : 1 ≤ j := by decide) :
    Vx K src A σ H0 j c k (tOp (rI0 fun i j => .int (i + j)) ta (tCall spDraw [] E0 (tCons (tVar i) (tCons tm tNil)))) :=
  ⟨fun H Q n b al hsr hn q => ha H _ ⟨_, hs, hm H _ ⟨src, a, n, rfl, hsr, by omega, h1, h2, fun r H' r0 r1 hs' b' => ⟨s, r, rfl, rfl, q (.int (s + r)) (.int (s + r)) H' b' (hs'.mono (by omega)) (.int _) ((bd_int (Nat.lt_of_le_of_lt (show (s + r).natAbs ≤ 1001000 by omega) (by decide))).mono hc (Nat.le_refl _))⟩⟩⟩⟩
theorem Vx.subDraw {i : Nat} {a s : Int} {tm ta : TE} (hs : σ[i]? = some (some (.ref src))) (hm : Ix σ a tm) (h1 : 1 ≤ a) (h2 : a ≤ 1000000) (ha : Ix σ s ta) (hg : -1000 ≤ s ∧ s ≤ 1000) (hc : 40 ≤ c := by decide) (hj : 1 ≤ j := by decide) :
    Vx K src A σ H0 j c k (tOp (rI0 fun i j => .int (i - j)) ta (tCall spDraw [] E0 (tCons (tVar i) (tCons tm tNil)))) :=
  ⟨fun H Q n b al hsr hn q => ha H _ ⟨_, hs, hm H _ ⟨src, a, n, rfl, hsr, by omega, h1, h2, fun r H' r0 r1 hs' b' => ⟨s, r, rfl, rfl, q (.int (s - r)) (.int (s - r)) H' b' (hs'.mono (by omega)) (.int _) ((bd_int (Nat.lt_of_le_of_lt (show (s - r).natAbs ≤ 1001000 by omega) (by decide))).mono hc (Nat.le_refl _))⟩⟩⟩⟩
theorem Ax.runL (h : Ax K src A σ H0 j c k l ta) (hl : l ≤ 5000000 := by decide) (H : Hp) (Q : VK) (n : Nat) (b : Bt src H0 H) (al : Al A src H) (hs : Src H src n) (hn : n + j ≤ 900000)
    (q : ∀ p vs ds H', Bt src H H' → Src H' src (n + j) → p ≠ src → H' p = some (.lst vs) → OxAll K (av p (avA A H')) vs ds → (∀ d ∈ ds, Bd c k d) → vs.length = l → Q (.ref p) H') : tLst ta σ H Q :=
  h.run H _ n b al hs hn fun vs ds H1 b1 hs1 ox bd el => ⟨by rw [el]; exact big_ok (Nat.le_refl _) hl, fun p np => q p vs ds _ (b1.add np) (hs1.new np) (hs1.ne np) upd_same (oxAll_same (avA_new np) ox) bd el⟩
/-- a new list is put behind the others -/
theorem ox_put {H H' : Hp} {f y : Addr} {vs xs : List V} {ds es : List PyData} (ox : OxAll K (av f (av src H)) vs ds) (b : Bt src H H') (ys : y ≠ src) (yf : y ≠ f) (hy : H' y = some (.lst xs)) (oy : OxAll K (av f (av src (upd H' f (.lst (vs ++ [.ref y]))))) xs es) :
    OxAll K (av f (av src (upd H' f (.lst (vs ++ [.ref y]))))) (vs ++ [.ref y]) (ds ++ [.list es]) :=
  oxAll_app (oxAll_same (Same.trans (av_same (av_bt b)) avA_mut) ox) (.cons (.lst (.of (av_at yf (av_at ys (by rw [upd_ne yf]; exact hy)))) oy) .nil)
end
/-! ### _law_bad_row -/
theorem nat_of' {i : Int} (h : 0 ≤ i) : ∃ n : Nat, i = (n : Int) := ⟨i.toNat, by omega⟩
theorem Ix.pow {σ : L2.St} {i j : Int} {ta tb : TE} (h : Ix σ i ta) (g : Ix σ j tb) (c : CPowW i j) : Ix σ (i ^ j.toNat) (tOp (rI CPowW fun i j => .int (i ^ j.toNat)) ta tb) := fun H Q q => h H _ (g H _ ⟨i, j, rfl, rfl, c, q⟩)
section
variable {K : PySem.W.Frag} {src : Addr} {A : Addr → Bool} {σ : L2.St} {H0 : Hp} {fr : Bool} {j c k L : Nat}
theorem Lx.rng {a b : Int} (h : RgOk a b) (hb : ∀ i : Nat, i < (b - a).toNat → -999 ≤ a + (i : Int) ∧ a + (i : Int) ≤ 999) (hc : 4 ≤ c := by decide) (hL : (b - a).toNat ≤ L := by decide) : Lx K src A σ H0 fr j c k L (tLstRg (tRg2 (tC (.int a)) (tC (.int b)))) :=
  ⟨fun H Q n bt al hs hn q => ⟨a, b, rfl, rfl, h, fun p np => by
    have e : rgV a b = ((List.range (b - a).toNat).map fun i : Nat => a + (i : Int)).map V.int := by
      unfold rgV
      rw [List.map_map]
      rfl
    rw [e]
    refine q p _ (((List.range (b - a).toNat).map fun i : Nat => a + (i : Int)).map PyData.int) _ (.new np) ((hs.mono (Nat.le_add_right _ _)).new np) (fun _ => free_of bt (hs.ne np) np) (al.new np) (hs.ne np) upd_same (oxAll_ints _) (fun d hd => ?_) (by rw [List.length_map, List.length_map, List.length_range]; exact hL)
    obtain ⟨x, hx, rfl⟩ := List.mem_map.mp hd
    obtain ⟨i, hi, rfl⟩ := List.mem_map.mp hx
    exact (bd_i4 (hb i (List.mem_range.mp hi))).mono hc (Nat.le_refl _)⟩⟩
end
section
variable {P : Program} {w : World} {K : PySem.W.Frag} {mg : Str → Option Value} {base : Heap}
def spChanged (K : PySem.W.Frag) : Sp := fun vs H Q _ => ∃ (src a : Addr) (n : Nat) (ns : List Int), vs = [.ref src, .ref a] ∧ Src H src n ∧ n ≤ 890000 ∧ a ≠ src ∧ H a = some (.lst (ns.map V.int)) ∧ (∀ e ∈ ns, -100 ≤ e ∧ e ≤ 100) ∧ ns.length ≤ 200 ∧
  ∀ (H' : Hp) (v : V) (d : PyData), Bt src H H' → Src H' src (n + 5) → Ox K (av src H') v d → Bd 26000 3 d → Q v H'
set_option maxHeartbeats 1000000 in
theorem ok_law_changed {f : Addr} {fd : FuncData} (F : Fun K "_law_changed" "_law_changed" s_law_changed f fd) (B : NoB mg) (T_law_draw : Gc P w K mg base 1 "_law_draw" spDraw) : FnG P w K mg base CX0 2 f fd ["source", "order"] (spChanged K) := by
  refine okG F sc_law_changed (fun vs H Q E h => ?_) (fun cdv A outer s H vs Q E hG hr h => ?_)
  · obtain ⟨src, a, n, ns, rfl, _⟩ := h
    rfl
  · obtain ⟨src, a, n, ns, rfl, hs, hn, nas, ha, hb, hl, q⟩ := h
    refine ⟨_, (pss_cons (ps_set (i := 2) sc_law_changed.nd rfl (Or.inl rfl) (pe_g T_law_draw hG hr (by decide) (by rfl) (pa_cons (pv 0) (pa_cons (pe_op op_add (pe_callB call_len_seq (by rfl) B.len PySem.boot_len (pa_cons (pv 1) pa_nil)) pe_int) pa_nil))))
        (pss_cons (ps_set (i := 3) sc_law_changed.nd rfl (Or.inl rfl) (pe_ix ix_list (pe_op op_cat (pv 1) (pe_lst (pa_cons pe_int pa_nil))) (pv 2) (fun _ _ => rfl)))
        (pss_cons (ps_set (i := 4) sc_law_changed.nd rfl (Or.inl rfl) (pe_lst (pa_cons (pe_op op_sub pe_int (pv 3)) (pa_cons (pv 3) (pa_cons pe_int (pa_cons pe_int (pa_cons pe_bl (pa_cons pe_bl (pa_cons pe_non (pa_cons pe_str (pa_cons (pe_lst (pa_cons pe_int pa_nil)) (pa_cons (pe_tup (pa_cons pe_int pa_nil)) (pa_cons (pe_op op_powW pe_int pe_int) (pa_cons (pe_un un_neg pe_int) (pa_cons (pe_op op_add (pv 3) pe_int) (pa_cons pe_int (pa_cons (pe_op op_add (pv 3) pe_int) pa_nil)))))))))))))))))
        (pss_cons (ps_set (i := 5) sc_law_changed.nd rfl (Or.inl rfl) (pe_ix ix_list (pv 4) (pe_g T_law_draw hG hr (by decide) (by rfl) (pa_cons (pv 0) (pa_cons pe_int pa_nil))) (fun _ _ => rfl)))
        (pss_cons (ps_set (i := 6) sc_law_changed.nd rfl (Or.inl rfl) (pe_lst (pa_cons (pe_op op_cat (pe_op op_cat (pe_slice sl_list (pv 1) po_none (po_some (pv 2))) (pe_lst (pa_cons (pv 5) pa_nil))) (pe_slice sl_list (pv 1) (po_some (pv 2)) po_none)) (pa_cons (pe_op op_cat (pe_op op_cat (pe_slice sl_list (pv 1) po_none (po_some (pv 2))) (pe_lst (pa_cons (pv 5) pa_nil))) (pe_slice sl_list (pv 1) (po_some (pe_op op_add (pv 2) pe_int)) po_none)) (pa_cons (pe_op op_cat (pe_slice sl_list (pv 1) po_none (po_some (pv 2))) (pe_slice sl_list (pv 1) (po_some (pe_op op_add (pv 2) pe_int)) po_none)) pa_nil)))))
        (pss_cons (ps_set (i := 6) sc_law_changed.nd rfl (Or.inl rfl) (pe_op op_cat (pv 6) (pe_lst (pa_cons (pe_callTy call_tuple_of (by rfl) B.tuple (by decide +kernel) (pa_cons (pv 1) pa_nil)) (pa_cons pe_non (pa_cons pe_int (pa_cons pe_str (pa_cons pe_dnewK (pa_cons (pe_lst (pa_cons (pv 1) pa_nil)) (pa_cons (pe_op op_rep (pv 1) pe_int) (pa_cons (pe_op op_rep (pe_lst (pa_cons (pv 3) pa_nil)) pe_int) (pa_cons pe_bl (pa_cons (pe_lst pa_nil) pa_nil)))))))))))))
        (pss_one (ps_ret (pe_ix ix_list (pv 6) (pe_ix ix_list (pe_lst (pa_cons pe_int (pa_cons pe_int (pa_cons pe_int (pa_cons (pe_g T_law_draw hG hr (by decide) (by rfl) (pa_cons (pv 0) (pa_cons pe_int pa_nil))) pa_nil))))) (pe_g T_law_draw hG hr (by decide) (by rfl) (pa_cons (pv 0) (pa_cons pe_int pa_nil))) (fun _ _ => rfl)) (fun _ _ => rfl)))))))))), ?_⟩
    refine ⟨_, rfl, _, rfl, a, _, rfl, .inl (.of ha), _, _, rfl, rfl, src, _, n, rfl, hs, by omega, by rw [List.length_map]; omega, by rw [List.length_map]; omega, fun at_ H1 a0 a1 hs1 b1 => ?_⟩
    rw [List.length_map] at a1
    have ha1 := b1 _ _ nas ha
    obtain ⟨i, rfl⟩ := nat_of' a0
    -- event
    refine ⟨_, rfl, by show 1 ≤ sizeLine; decide, fun z nz => ⟨a, z, _, _, rfl, rfl, same_new nz _ _ ha1, upd_same, by rw [List.length_map]; exact Nat.le_trans (Nat.add_le_add_right hl 1) (by decide), fun z2 nz2 => ?_⟩⟩
    have hi : i < (ns ++ [1]).length := by rw [List.length_append]; show i < ns.length + 1; omega
    have ev : ∃ e : Int, (ns ++ [1])[i]? = some e ∧ -100 ≤ e ∧ e ≤ 100 := ⟨_, List.getElem?_eq_getElem hi, by
      have m : (ns ++ [1])[i] ∈ ns ++ [1] := List.getElem_mem hi
      rcases List.mem_append.mp m with h | h
      · exact hb _ h
      · rw [List.mem_singleton] at h
        rw [h]
        decide⟩
    obtain ⟨e, he, e0, e1⟩ := ev
    have b12 : Bt src H1 (upd (upd H1 z (.lst [.int 1])) z2 (.lst (ns.map V.int ++ [.int 1]))) := (Bt.new nz).add nz2
    have hs2 : Src (upd (upd H1 z (.lst [.int 1])) z2 (.lst (ns.map V.int ++ [.int 1]))) src (n + 1) := (hs1.new nz).new nz2
    refine ⟨_, rfl, z2, _, _, .int e, rfl, rfl, .of upd_same, ?_, ?_⟩
    · have : (ns.map V.int ++ [.int 1])[i]? = some (.int e) := by
        have : ns.map V.int ++ [.int 1] = (ns ++ [1]).map V.int := by rw [List.map_append]; rfl
        rw [this, List.getElem?_map, he]
        rfl
      exact atI_nat this
    generalize upd (upd H1 z (.lst [.int 1])) z2 (.lst (ns.map V.int ++ [.int 1])) = H2 at b12 hs2 ⊢
    have ha2 := b12 _ _ nas ha1
    have b02 := b1.trans b12
    have he1 : -999 ≤ e ∧ e ≤ 999 := by omega
    generalize es : ((start N_law_changed [V.ref src, V.ref a]).set 2 (some (V.int (i : Int)))).set 3 (some (V.int e)) = σ0
    have es' : σ0 = [some (.ref src), some (.ref a), some (.int (i : Int)), some (.int e), none, none, none] := es.symm
    subst es'
    -- odd
    try dsimp only
    refine seq_asg (Ax.runL (K := K) (A := only src) (src := src) (H0 := H2) (j := 0) (c := 60) (k := 1) (l := 15) ?odd (by decide) H2 _ (n + 1) (.refl _ _) (al_only hs2) hs2 (by omega) fun o os ods H3 b3 hs3 nos hos oox obd ol => ?_)
    case odd =>
      have big : CPowW 10 30 := powW_ok (n := 4) (by decide) (by decide) (by decide)
      have bigN : ((10 : Int) ^ (30 : Int).toNat).natAbs < 10 ^ 31 := by decide +kernel
      exact .cons (j1 := 0) (j2 := 0) (.ix4 (.sub .c (.var rfl)) (by omega)) (.cons (j1 := 0) (j2 := 0) (.ix4 (.var rfl) he1) (.cons (j1 := 0) (j2 := 0) (.ix4 .c (by decide)) (.cons (j1 := 0) (j2 := 0) (.ix4 .c (by decide)) (.cons (j1 := 0) (j2 := 0) .bl (.cons (j1 := 0) (j2 := 0) .bl (.cons (j1 := 0) (j2 := 0) .non (.cons (j1 := 0) (j2 := 0) (.str (by decide +kernel)) (.cons (j1 := 0) (j2 := 0) (.ofL 4 0 1 (.lst (.cons (j1 := 0) (j2 := 0) (.ix4 .c (by decide)) .nil))) (.cons (j1 := 0) (j2 := 0) (.tup 4 0 (.cons (j1 := 0) (j2 := 0) (.ix4 .c (by decide)) .nil)) (.cons (j1 := 0) (j2 := 0) (.ix (.pow .c .c big) bigN) (.cons (j1 := 0) (j2 := 0) (.ix4 (.neg .c) (by decide)) (.cons (j1 := 0) (j2 := 0) (.ix4 (.add (.var rfl) .c) (by omega)) (.cons (j1 := 0) (j2 := 0) (.ix4 .c (by decide)) (.cons (j1 := 0) (j2 := 0) (.ix4 (.add (.var rfl) .c) (by omega)) .nil))))))))))))))
    have ha3 := b3 _ _ nas ha2
    -- one
    refine ⟨_, rfl, _, rfl, src, 15, n + 1, rfl, hs3, by omega, by decide, by decide, fun r H5 r0 r1 hs5 b5 => ?_⟩
    obtain ⟨ri, rfl⟩ := nat_of' r0
    have hri : ri < os.length := by rw [ol]; omega
    refine ⟨o, _, _, _, rfl, rfl, .of (b5 _ _ nos hos), atI_nat (List.getElem?_eq_getElem hri), ?_⟩
    obtain ⟨d1, hd1, ox1⟩ := oxAll_get (oxAll_same (av_bt b5) (oxAll_same av_le oox)) (List.getElem?_eq_getElem hri)
    have bd1 := obd d1 (mem_get hd1)
    generalize os[ri] = one at ox1
    have b05 : Bt src H H5 := (b02.trans b3).trans b5
    have ha5 : H5 a = some (.lst (ns.map V.int)) := b05 _ _ nas ha
    have PA : ∀ d ∈ ns.map PyData.int, Bd 4 0 d := fun d hd => by
      obtain ⟨e, he, rfl⟩ := List.mem_map.mp hd
      exact bd_i4 ⟨by have := hb e he; omega, by have := hb e he; omega⟩
    have oxI : ∀ {H : Hp}, OxAll K H (ns.map V.int) (ns.map PyData.int) := oxAll_ints ns
    have PL : (ns.map PyData.int).length ≤ 200 := by rw [List.length_map]; exact hl
    have LP : ∀ {H0 : Hp} {σ : L2.St} {j : Nat}, σ[1]? = some (some (.ref a)) → H0 a = some (.lst (ns.map V.int)) → Lx K src (only src) σ H0 false j 60 1 200 (tVar 1) := fun h1 h2 => .var h1 nas (decide_eq_false nas) h2 oxI PA (by decide) (by decide) PL
    have LO : ∀ {H0 : Hp} {σ : L2.St} {j : Nat}, σ[5]? = some (some one) → Ox K (av src H0) one d1 → Lx K src (only src) σ H0 false j 60 1 1 (tLst (tCons (tVar 5) tNil)) := fun h1 h2 => .lst (.cons (j1 := 0) (j2 := 0) (.var h1 h2 bd1) .nil (Nat.zero_le _))
    -- some
    try dsimp only
    refine seq_asg (Ax.runL (K := K) (A := only src) (src := src) (H0 := H5) (j := 0) (c := 26000) (k := 3) (l := 3) ?some1 (by decide) H5 _ (n + 2) (.refl _ _) (al_only hs5) hs5 (by omega) fun f1 v1 e1 H6 b6 hs6 nf1 hf1 fox1 fbd1 fe1 => ?_)
    case some1 =>
      refine .cons (j1 := 0) (j2 := 0) ?_ (.cons (j1 := 0) (j2 := 0) ?_ (.cons (j1 := 0) (j2 := 0) ?_ .nil))
      · exact .ofL 60 1 401 (.cat (L1 := 201) (L2 := 200) (j1 := 0) (j2 := 0) (.cat (L1 := 200) (L2 := 1) (j1 := 0) (j2 := 0) (.cut (LP rfl ha5) .no (.ix (.var rfl))) (LO rfl ox1)) (.cut (LP rfl ha5) (.ix (.var rfl)) .no))
      · exact .ofL 60 1 401 (.cat (L1 := 201) (L2 := 200) (j1 := 0) (j2 := 0) (.cat (L1 := 200) (L2 := 1) (j1 := 0) (j2 := 0) (.cut (LP rfl ha5) .no (.ix (.var rfl))) (LO rfl ox1)) (.cut (LP rfl ha5) (.ix (.add (.var rfl) .c)) .no))
      · exact .ofL 60 1 400 (.cat (L1 := 200) (L2 := 200) (j1 := 0) (j2 := 0) (.cut (LP rfl ha5) .no (.ix (.var rfl))) (.cut (LP rfl ha5) (.ix (.add (.var rfl) .c)) .no))
    have ha6 := b6 _ _ nas ha5
    try dsimp only
    refine seq_asg (tOp_run ⟨_, rfl, Ax.runL (K := K) (A := only src) (src := src) (H0 := H6) (j := 0) (c := 26000) (k := 3) (l := 10) ?some2 (by decide) H6 _ (n + 2) (.refl _ _) (al_only hs6) hs6 (by omega) fun f2 v2 e2 H7 b7 hs7 nf2 hf2 fox2 fbd2 fe2 => ?_⟩)
    case some2 =>
      refine .cons (j1 := 0) (j2 := 0) ?_ (.cons (j1 := 0) (j2 := 0) .non (.cons (j1 := 0) (j2 := 0) (.ix4 .c (by decide)) (.cons (j1 := 0) (j2 := 0) (.str (by decide +kernel)) (.cons (j1 := 0) (j2 := 0) .dict (.cons (j1 := 0) (j2 := 0) ?_ (.cons (j1 := 0) (j2 := 0) ?_ (.cons (j1 := 0) (j2 := 0) ?_ (.cons (j1 := 0) (j2 := 0) .bl (.cons (j1 := 0) (j2 := 0) ?_ .nil)))))))))
      · exact .tupOf 60 1 200 (LP rfl ha6)
      · exact .ofL 13000 2 1 (.lst (.cons (j1 := 0) (j2 := 0) (.ofL 60 1 200 (LP rfl ha6)) .nil))
      · exact .ofL 60 1 400 (.rep (r := 2) (L1 := 200) (LP rfl ha6))
      · exact .ofL 4 0 400 (.rep (r := 400) (L1 := 1) (.lst (.cons (j1 := 0) (j2 := 0) (.ix4 (.var rfl) he1) .nil)))
      · exact .ofL 4 0 0 (.lst .nil)
    have hf17 := b7 _ _ nf1 hf1
    refine ⟨f1, f2, v1, v2, rfl, rfl, hf17, hf2, Nat.le_trans (Nat.le_of_eq (by rw [fe1, fe2])) (show 13 ≤ sizeLine by decide), fun z5 nz5 => ?_⟩
    have ox8 : OxAll K (av src (upd H7 z5 (.lst (v1 ++ v2)))) (v1 ++ v2) (e1 ++ e2) := oxAll_same (av_same (same_new nz5)) (oxAll_app (oxAll_same (av_bt b7) (oxAll_same av_le fox1)) (oxAll_same av_le fox2))
    have bd8 : ∀ d ∈ e1 ++ e2, Bd 26000 3 d := fun d hd => (List.mem_append.mp hd).elim (fbd1 d) (fbd2 d)
    have h8 : (upd H7 z5 (.lst (v1 ++ v2))) z5 = some (.lst (v1 ++ v2)) := upd_same
    have hs8 : Src (upd H7 z5 (.lst (v1 ++ v2))) src (n + 2) := hs7.new nz5
    have n5s : z5 ≠ src := hs7.ne nz5
    have b08 : Bt src H (upd H7 z5 (.lst (v1 ++ v2))) := ((b05.trans b6).trans b7).add nz5
    have l8 : (v1 ++ v2).length = 13 := by rw [List.length_append, fe1, fe2]
    generalize upd H7 z5 (.lst (v1 ++ v2)) = H8 at ox8 h8 hs8 b08 ⊢
    generalize v1 ++ v2 = v8 at ox8 h8 l8 ⊢
    generalize e1 ++ e2 = e8 at ox8 bd8
    refine ⟨_, rfl, _, rfl, src, 13, n + 2, rfl, hs8, by omega, by decide, by decide, fun c H9 c0 c1 hs9 b9 => ⟨by show 4 ≤ sizeLine; decide, fun p np => ?_⟩⟩
    have s9 := Bt.of (a := src) (same_new (o := .lst [.int 0, .int 1, .int 2, .int c]) np)
    have hs9' := hs9.new (o := .lst [.int 0, .int 1, .int 2, .int c]) np
    refine ⟨_, rfl, src, 4, n + 3, rfl, hs9', by omega, by decide, by decide, fun t H10 t0 t1 hs10 b10 => ?_⟩
    have ix : ∃ g : Nat, g < 13 ∧ atI [V.int 0, .int 1, .int 2, .int c] t = some (.int (g : Int)) := by
      obtain ⟨ci, rfl⟩ := nat_of' c0
      obtain ⟨ti, rfl⟩ := nat_of' t0
      match ti, t1 with
      | 0, _ => exact ⟨0, by decide, rfl⟩
      | 1, _ => exact ⟨1, by decide, rfl⟩
      | 2, _ => exact ⟨2, by decide, rfl⟩
      | 3, _ => exact ⟨ci, by omega, rfl⟩
      | (k + 4), h => omega
    obtain ⟨g, hg, hat⟩ := ix
    refine ⟨p, _, t, _, rfl, rfl, .of (b10 _ _ (hs9.ne np) upd_same), hat, ?_⟩
    have hgl : g < v8.length := by omega
    have b810 := (b9.trans s9).trans b10
    obtain ⟨d, hd, oxd⟩ := oxAll_get (oxAll_same (av_bt b810) ox8) (List.getElem?_eq_getElem hgl)
    exact ⟨z5, v8, _, _, rfl, rfl, .of (b810 _ _ n5s h8), atI_nat (List.getElem?_eq_getElem hgl), q H10 _ d (b08.trans b810) (hs10.mono (by omega)) oxd (bd8 d (mem_get hd))⟩
end
end L11
set_option Elab.async false
set_option linter.all false
set_option maxRecDepth 100000
namespace L11
open PySem PySem.Spec PyProof.Rows L2 Lp
section
variable {P : Program} {w : World} {K : PySem.W.Frag} {mg : Str → Option Value} {base : Heap}
/-! ### _law_mixed -/
def spMixed (K : PySem.W.Frag) : Sp := fun vs H Q _ => ∃ (src a : Addr) (n : Nat) (th : List Int), vs = [.ref src, .ref a] ∧ Src H src n ∧ n ≤ 800000 ∧ a ≠ src ∧ H a = some (.lst (th.map V.int)) ∧ th.length ≤ 200 ∧
  ∀ (H' : Hp) (p : Addr) (L : List Int), Bt src H H' → Src H' src (n + 201) → p ≠ src → H' p = some (.lst (L.map V.int)) → L.Perm th → Q (.ref p) H'
theorem ok_law_mixed {f : Addr} {fd : FuncData} (F : Fun K "_law_mixed" "_law_mixed" s_law_mixed f fd) (B : NoB mg) (T_law_draw : Gc P w K mg base 1 "_law_draw" spDraw) : FnG P w K mg base CX0 2 f fd ["source", "things"] (spMixed K) := by
  refine okG F sc_law_mixed (fun vs H Q E h => ?_) (fun cdv A outer s H vs Q E hG hr h => ?_)
  · obtain ⟨src, a, n, th, rfl, _⟩ := h
    rfl
  · obtain ⟨src, a, n, th, rfl, hs, hn, nas, ha, hl, q⟩ := h
    refine ⟨_, (pss_cons (ps_asg (pe_tup (pa_cons (pe_callB cr_sortedI (by rfl) B.sorted (by decide +kernel) (pa_cons (pv 1) pa_nil)) (pa_cons (pe_g T_law_draw hG hr (by decide) (by rfl) (pa_cons (pv 0) (pa_cons pe_int pa_nil))) pa_nil))) (pg_tup rfl (pgs_cons (pg_name (i := 2) sc_law_mixed.nd rfl (Or.inr rfl)) (pgs_cons (pg_name (i := 3) sc_law_mixed.nd rfl (Or.inl rfl)) pgs_nil))))
        (pss_cons (ps_if (pt_cmpR op_gt (pv 3) pe_int (nomark _)) (pss_one (ps_ret (pe_ifExp (pt_cmpR op_eq (pv 3) pe_int (nomark _)) (pv 2) (pe_revL (pv 2))))) pss_nil)
        (pss_one (ps_ret (pe_lc (own := [("lap", 4)]) (g := gName 4) (tt := tYes) rfl sc_law_mixed.nd (pi_range1 rfl B.range (pa_cons (pe_callB call_len_seq (by rfl) B.len PySem.boot_len (pa_cons (pv 1) pa_nil)) pa_nil)) (blkOk_by (own := [("lap", 4)]) (N := N_law_mixed) (sc := defScope s_law_mixed) (by decide +kernel)) (fun _ _ _ _ _ => (pg_name (i := 4) sc_law_mixed.nd rfl (Or.inl rfl))) (fun _ _ _ _ _ => pts_nil) (fun _ _ _ _ _ => (k_bm (K := K) rfl PySem.F.plainAttrs_list PySem.F.slot_list_pop PySem.F.type_list_pop mt_popAt (pv 2) (pa_cons (pe_g T_law_draw hG hr (by decide) (by rfl) (pa_cons (pv 0) (pa_cons (pe_callB (k_len (K := K) rfl) (by rfl) B.len PySem.boot_len (pa_cons (pv 2) pa_nil)) pa_nil))) pa_nil)))))))), ?_⟩
    refine ⟨_, rfl, a, th, rfl, .of ha, fun S p pS wS np => ?_⟩
    have s1 := same_new (o := .lst (S.map V.int)) np
    have hp : (upd H p (.lst (S.map V.int))) p = some (.lst (S.map V.int)) := upd_same
    have nps := hs.ne np
    refine ⟨_, rfl, src, 4, n, rfl, hs.same s1, by omega, by decide, by decide, fun r H2 r0 r1 hs2 b2 => ⟨by show 2 ≤ sizeLine; decide, fun t nt => ?_⟩⟩
    have s3 := same_new (o := .tup [V.ref p, .int r]) nt
    refine ⟨t, _, rfl, .of upd_same, rfl, _, _, rfl, _, _, rfl, rfl, ?_⟩
    have hp3 := s3 _ _ (b2 _ _ nps hp)
    have hs3 := hs2.same s3
    have b03 : Bt src H (upd H2 t (.tup [V.ref p, .int r])) := ((Bt.of s1).trans b2).trans (.of s3)
    have ha3 := b03 _ _ nas ha
    have lS := pS.length_eq
    generalize upd H2 t (.tup [V.ref p, .int r]) = H3 at hp3 hs3 b03 ha3 ⊢
    by_cases c : (1 : Int) < r
    · refine ⟨_, rfl, _, _, rfl, rfl, true, dT c, ?_⟩
      by_cases c2 : r = 2
      · refine ⟨_, rfl, rfl, true, dT (congrArg V.int c2), ?_⟩
        exact ⟨_, rfl, q _ p S b03 (hs3.mono (by omega)) nps hp3 pS⟩
      · refine ⟨_, rfl, rfl, false, dF (vne c2), ?_⟩
        refine ⟨_, rfl, p, _, rfl, .of hp3, fun z nz => q _ z S.reverse (b03.add nz) ((hs3.new nz).mono (by omega)) (hs3.ne nz) (by rw [upd_same, List.map_reverse]) ((List.reverse_perm S).trans pS)⟩
    · refine ⟨_, rfl, _, _, rfl, rfl, false, dF c, ?_⟩
      refine ⟨_, rfl, a, _, rfl, .inl (.of ha3), ?_⟩
      rw [List.length_map]
      refine ⟨((th.length : Nat) : Int), rfl, by omega, by omega, fun D nD => ?_⟩
      rw [Int.toNat_natCast]
      have nDs := hs3.ne nD
      have nDp : D ≠ p := fun z => by rw [z, hp3] at nD; cases nD
      refine lc_range (lo := 0) (n := th.length) (fun k H' => Bt src H H' ∧ Src H' src (n + 1 + k) ∧ ∃ lf fd : List Int, H' p = some (.lst (lf.map V.int)) ∧ H' D = some (.lst (fd.map V.int)) ∧ (fd ++ lf).Perm th ∧ fd.length = k) ⟨b03.add nD, (hs3.new nD).mono (by omega), S, [], same_new nD _ _ hp3, upd_same, pS, rfl⟩ (fun k H' hk h => ?_) (fun H' h => ?_)
      · obtain ⟨bt, hsk, lf, fdn, hpk, hDk, pm, lk⟩ := h
        have ll := pm.length_eq
        rw [List.length_append] at ll
        refine ⟨rfl, ?_⟩
        refine ⟨_, rfl, .inl ⟨rfl, _, .of hpk⟩, _, rfl, _, rfl, p, _, rfl, .inl (.of hpk), src, _, _, rfl, hsk, by omega, by rw [List.length_map]; omega, by rw [List.length_map]; omega, fun r2 H4 q0 q1 hs4 b4 => ?_⟩
        rw [List.length_map] at q1
        obtain ⟨ri, rfl⟩ := nat_of' q0
        have hri : ri < lf.length := by omega
        have hp4 := b4 _ _ nps hpk
        have hD4 := b4 _ _ nDs hDk
        have gV : (lf.map V.int)[ri]? = some (.int lf[ri]) := by rw [List.getElem?_map, List.getElem?_eq_getElem hri]; rfl
        refine ⟨p, _, _, ri, _, rfl, rfl, hp4, by omega, by omega, six_nat (by rw [List.length_map]; exact hri), gV, ?_⟩
        refine ⟨_, by rw [upd_ne nDp]; exact hD4, by rw [List.length_map]; exact zl (by omega), ((bt.trans b4).mut np).mut ?_, ((hs4.upd nps).upd nDs).mono (by omega), lf.eraseIdx ri, fdn ++ [lf[ri]], ?_, by rw [upd_same, List.map_append]; rfl, ?_, by rw [List.length_append, lk]; rfl⟩
        · cases e : H D with
          | none => rfl
          | some o => rw [b03 D o nDs e] at nD; cases nD
        · rw [upd_ne nDp.symm, upd_same, erase_map']
        · refine List.Perm.trans ?_ pm
          rw [List.append_assoc]
          exact List.Perm.append_left _ (erase_perm lf ri hri)
      · obtain ⟨bt, hsk, lf, fdn, hpk, hDk, pm, lk⟩ := h
        have ll := pm.length_eq
        rw [List.length_append] at ll
        have e : lf = [] := List.length_eq_zero_iff.mp (by omega)
        rw [e, List.append_nil] at pm
        exact q _ D fdn bt (hsk.mono (by omega)) nDs hDk pm
end
end L11
set_option Elab.async false
set_option linter.all false
set_option maxRecDepth 100000
namespace L11
open PySem PySem.Spec PyProof.Rows L2 Lp
/-! ### whether a list is a history; a nest; lists of bools -/
def histB (ns : List Int) : Bool := (ns.all fun e => decide (e ≠ 0) && (decide (-100 ≤ e) && decide (e ≤ 100))) && (decide ns.Nodup && (decide (ns.length ≤ 200) && ((List.range ns.length).all fun i => match ns[i]? with | some e => decide (0 ≤ e) || (ns.take i).contains (-e) | none => true)))
theorem histB_iff {ns : List Int} : histB ns = true ↔ Hist ns := by
  unfold histB
  rw [Bool.and_eq_true, Bool.and_eq_true, Bool.and_eq_true, List.all_eq_true, List.all_eq_true, decide_eq_true_eq, decide_eq_true_eq]
  constructor
  · rintro ⟨h1, h2, h3, h4⟩
    refine ⟨fun e he => ?_, h2, fun i e he h0 => ?_, h3⟩
    · have := h1 e he
      rw [Bool.and_eq_true, Bool.and_eq_true, decide_eq_true_eq, decide_eq_true_eq, decide_eq_true_eq] at this
      exact this
    · have := h4 i (List.mem_range.mpr (lt_get he))
      rw [he] at this
      have this : (decide (0 ≤ e) || (ns.take i).contains (-e)) = true := this
      rw [Bool.or_eq_true, decide_eq_true_eq] at this
      rcases this with h | h
      · omega
      · simpa using h
  · intro hh
    refine ⟨fun e he => ?_, hh.nd, hh.len, fun i hi => ?_⟩
    · have := hh.rng e he
      rw [Bool.and_eq_true, Bool.and_eq_true, decide_eq_true_eq, decide_eq_true_eq, decide_eq_true_eq]
      exact this
    · have hi := List.mem_range.mp hi
      rw [List.getElem?_eq_getElem hi]
      show (decide (0 ≤ ns[i]) || (ns.take i).contains (-ns[i])) = true
      by_cases h : 0 ≤ ns[i]
      · rw [decide_eq_true h]
        rfl
      · have := hh.ord i _ (List.getElem?_eq_getElem hi) (by omega)
        rw [Bool.or_eq_true]
        exact .inr (by simpa using this)
theorem histD_ints {ns : List Int} : HistD (dI ns) ↔ histB ns = true := by
  rw [histB_iff]
  exact ⟨fun ⟨ms, e, h⟩ => dI_inj e ▸ h, fun h => ⟨ns, rfl, h⟩⟩
def nestD : Nat → PyData
  | 0 => .int 1
  | n + 1 => .list [nestD n]
theorem nest_bd : ∀ n : Nat, Bd (1 + 4 * n) n (nestD n)
  | 0 => ⟨by show (Str.ofString (toString (1 : Int))).length ≤ 1; decide +kernel, Nat.le_refl _, rfl, rfl⟩
  | n + 1 => (Bd.list (.cons (nest_bd n) .nil)).mono (by omega) (Nat.le_refl _)
theorem nest_no (n : Nat) : ¬ HistD (nestD (n + 2)) := fun ⟨ns, e, _⟩ => by
  cases ns with
  | nil => cases e
  | cons x r =>
    have e : PyData.list [nestD (n + 1)] = PyData.list (PyData.int x :: r.map PyData.int) := e
    have := (List.cons.inj (PyData.list.inj e)).1
    cases this
/-! ### lists of bools -/
def dB (bs : List Bool) : PyData := .list (bs.map .bool)
theorem lay_bools : ∀ bs : List Bool, PyData.canLayAll0 (bs.map PyData.bool) = true
  | [] => rfl
  | _ :: r => by
    show (PyData.canLay0 (.bool _) && PyData.canLayAll0 (r.map PyData.bool)) = true
    rw [lay_bools r]
    rfl
theorem depth_bools : ∀ bs : List Bool, PyData.depthAll (bs.map PyData.bool) = 0
  | [] => rfl
  | _ :: r => by
    show max (PyData.depth (.bool _)) (PyData.depthAll (r.map PyData.bool)) = 0
    rw [depth_bools r]
    rfl
theorem shaped_bools (bs : List Bool) : SeqAt.shaped (dB bs) = true := by
  show (PyData.canLayAll0 (bs.map PyData.bool) && decide (PyData.depthAll (bs.map PyData.bool) + 1 ≤ 64)) = true
  rw [lay_bools, depth_bools]
  rfl
theorem dpAll_bools {K : PySem.W.Frag} {H : Hp} : ∀ bs : List Bool, DpAll K H (bs.map V.bl) (bs.map PyData.bool)
  | [] => .nil
  | b :: r => .cons (.bl b) (dpAll_bools r)
theorem dp_bools {K : PySem.W.Frag} {H : Hp} {a : Addr} {bs : List Bool} (h : SqL K H a (bs.map V.bl)) : Dp K H (.ref a) (dB bs) := .lst h (dpAll_bools bs)
theorem eqv_bools (bs : List Bool) : PyData.eqv (dB bs) (dB bs) = true := SeqAt.eqv_refl _ (lay_bools bs)
section
variable {K : PySem.W.Frag} {src po : Addr} {σ : L2.St} {H0 : Hp} {j c k : Nat} {O : List Int}
theorem Vx.chg (h0 : σ[0]? = some (some (.ref src))) (h5 : σ[5]? = some (some (.ref po))) (nps : po ≠ src) (hpo : H0 po = some (.lst (O.map V.int))) (hb : ∀ e ∈ O, -100 ≤ e ∧ e ≤ 100) (hl : O.length ≤ 200) (hj : 20000 ≤ j := by decide) (hc : 26000 ≤ c := by decide) (hk : 3 ≤ k := by decide) :
    Vx K src (only src) σ H0 j c k (tCall (spChanged K) [] E0 (tCons (tVar 0) (tCons (tVar 5) tNil))) :=
  ⟨fun H Q n b al hs hn q => ⟨_, h0, _, h5, src, po, n, O, rfl, hs, by omega, nps, b _ _ nps hpo, hb, hl, fun H' v d b' hs' ox bd => q v d H' b' (hs'.mono (by omega)) ox (bd.mono hc hk)⟩⟩
end
section
variable {P : Program} {w : World} {K : PySem.W.Frag} {mg : Str → Option Value} {base : Heap}
theorem bdB {b : Bool} : Bd 10000000 60 (.bool b) := ⟨by show 5 ≤ _; decide, Nat.zero_le _, rfl, rfl⟩
theorem gfor {i : Nat} {x : V} {σ : L2.St} {H : Hp} {wi : TI} {g : TG} {tb : TS} {D} (h : tFor wi g tb D (σ.set i (some x)) H) : gName i x σ H (tFor wi g tb D) := h
def spHolds : Sp := fun vs H Q _ => ∃ (src : Addr) (most : Int) (n : Nat), vs = [.ref src, .int most] ∧ Src H src n ∧ n ≤ 100000 ∧ 0 ≤ most ∧ most ≤ 200 ∧ ∀ H', Bt src H H' → Q (.bl true) H'
set_option maxHeartbeats 2000000 in
theorem ok_law_holds {f : Addr} {fd : FuncData} (F : Fun K "_law_holds" "_law_holds" s_law_holds f fd) (B : NoB mg) (T_law_row : Gc P w K mg base 2 "_law_row" spRow) (T_law_active : Gc P w K mg base 1 "_law_active" (spAct K)) (T_law_mixed : Gc P w K mg base 2 "_law_mixed" (spMixed K)) (T_law_changed : Gc P w K mg base 2 "_law_changed" (spChanged K)) (T_law_is_due : Gc P w K mg base 2 "_law_is_due" (spIsOrdO K)) (T_is_order : Cal P w K mg base 8 "is_order" (spIsOrdO K)) :
    FnG P w K mg base CX0 9 f fd ["source", "most"] spHolds := by
  refine okG F sc_law_holds (fun vs H Q E h => ?_) (fun cdv A outer s H vs Q E hG hr h => ?_)
  · obtain ⟨src, most, n, rfl, _⟩ := h
    rfl
  · obtain ⟨src, most, n, rfl, hs, hn, o1, o2, q⟩ := h
    have hu64 := hr.units
    refine ⟨_, (pss_cons (ps_par (i := 2) (j := 3) (by rfl) sc_law_holds.nd rfl rfl (by decide) rfl rfl (pa_cons (pe_g T_law_row hG hr (by decide) (by rfl) (pa_cons (pv 0) (pa_cons (pv 1) pa_nil))) (pa_cons pe_int pa_nil)) (by rfl))
        (pss_cons (ps_for PassesOwn.never rfl (pi_range1 rfl B.range (pa_cons pe_int pa_nil)) (pg_name (i := 4) sc_law_holds.nd rfl (Or.inl rfl))
          (pss_one (ps_set (i := 3) sc_law_holds.nd rfl (Or.inl rfl) (pe_lst (pa_cons (pv 3) pa_nil)))))
        (pss_cons (ps_for PassesOwn.never rfl (pi_range1 rfl B.range (pa_cons pe_int pa_nil)) (pg_name (i := 4) sc_law_holds.nd rfl (Or.inl rfl))
          (pss_cons (ps_set (i := 5) sc_law_holds.nd rfl (Or.inl rfl) (pe_g T_law_mixed hG hr (by decide) (by rfl) (pa_cons (pv 0) (pa_cons (pe_g T_law_active hG hr (by decide) (by rfl) (pa_cons (pv 2) pa_nil)) pa_nil))))
          (pss_one (ps_for PassesOwn.never rfl (pi_list (pe_lst (pa_cons (pv 5) (pa_cons (pe_revL (pv 5)) (pa_cons (pe_g T_law_changed hG hr (by decide) (by rfl) (pa_cons (pv 0) (pa_cons (pv 5) pa_nil))) (pa_cons (pe_g T_law_changed hG hr (by decide) (by rfl) (pa_cons (pv 0) (pa_cons (pv 5) pa_nil))) (pa_cons (pv 2) (pa_cons (pv 3) pa_nil)))))))) (pg_name (i := 6) sc_law_holds.nd rfl (Or.inl rfl))
            (pss_cons (ps_par (i := 7) (j := 8) (by rfl) sc_law_holds.nd rfl rfl (by decide) rfl rfl (pa_cons (pe_callB (call_reprO hG hu64) (by rfl) B.repr (by decide +kernel) (pa_cons (pe_lst (pa_cons (pv 2) (pa_cons (pv 6) pa_nil))) pa_nil)) (pa_cons (pe_c T_is_order hr (by decide) (by rfl) (pa_cons (pv 2) (pa_cons (pv 6) pa_nil))) pa_nil)) (by rfl))
            (pss_one (ps_if (PW.pt (pw_or (pt_cmpR op_ne (pe_callB (call_reprO hG hu64) (by rfl) B.repr (by decide +kernel) (pa_cons (pv 8) pa_nil)) (pe_callB (call_reprO hG hu64) (by rfl) B.repr (by decide +kernel) (pa_cons (pe_g T_law_is_due hG hr (by decide) (by rfl) (pa_cons (pv 2) (pa_cons (pv 6) pa_nil))) pa_nil)) (nomark _)) (pw_or1 (pt_cmpR op_ne (pe_callB (call_reprO hG hu64) (by rfl) B.repr (by decide +kernel) (pa_cons (pe_lst (pa_cons (pv 2) (pa_cons (pv 6) pa_nil))) pa_nil)) (pv 7) (nomark _))))) (pss_one (ps_ret pe_bl)) pss_nil)))))))
        (pss_one (ps_ret (pe_cmpR (op_eqD hu64) (pe_lst (pa_cons (pe_c T_is_order hr (by decide) (by rfl) (pa_cons (pe_lst (pa_cons pe_int (pa_cons pe_int (pa_cons (pe_un un_neg pe_int) pa_nil)))) (pa_cons (pe_lst (pa_cons pe_int pa_nil)) pa_nil))) (pa_cons (pe_c T_is_order hr (by decide) (by rfl) (pa_cons (pe_lst (pa_cons pe_int (pa_cons (pe_un un_neg pe_int) pa_nil))) (pa_cons (pe_lst pa_nil) pa_nil))) (pa_cons (pe_c T_is_order hr (by decide) (by rfl) (pa_cons (pe_lst (pa_cons pe_int pa_nil)) (pa_cons (pe_lst (pa_cons pe_bl pa_nil)) pa_nil))) pa_nil)))) (pe_lst (pa_cons pe_bl (pa_cons pe_bl (pa_cons pe_bl pa_nil)))) (nomark _))))))), ?_⟩
    refine ⟨_, rfl, _, rfl, src, most, n, rfl, hs, by omega, o1, o2, fun H1 p1 row hh l1 b1 hs1 n1 h1 => ⟨_, _, rfl, ?_⟩⟩
    have p1s := hs.ne n1
    have hb : ∀ e ∈ row, -100 ≤ e ∧ e ≤ 100 := fun e he => (hh.rng e he).2
    have hl := hh.len
    have rb : Bd (2 + 6 * 200) 1 (dI row) := Bd.list (bd_small (k := 0) hb hl)
    -- nested
    refine ⟨_, rfl, by decide, by decide, for_range (lo := 0) (n := 39) (fun i σ H' => ∃ v y, σ = [some (.ref src), some (.int most), some (.ref p1), some v, y, none, none, none, none] ∧ Same H1 H' ∧ Ox K (av src H') v (nestD i)) ⟨_, _, rfl, .refl _, .int 1⟩ (fun i σ H' hi h => ?_) (fun σ H2 h => ?_)⟩
    · obtain ⟨v, y, rfl, sm, ox⟩ := h
      refine ⟨_, rfl, by show 1 ≤ sizeLine; decide, fun p np => ?_⟩
      have ps : p ≠ src := (hs1.same sm).ne np
      exact ⟨_, _, rfl, Lp.Same.add sm np, .lst (.of (av_at ps upd_same)) (.cons (ox_same (av_same (same_new np)) ox) .nil)⟩
    obtain ⟨v, y, rfl, s2, oxn⟩ := h
    have bdn : Bd 26000 40 (nestD 39) := (nest_bd 39).mono (by decide) (by decide)
    have hs2 := hs1.same s2
    have h2 := s2 _ _ h1
    -- six times
    refine ⟨_, rfl, by decide, by decide, for_range (lo := 0) (n := 6) (fun i σ H' => (∃ y4 y5 y6 y7 y8, σ = [some (.ref src), some (.int most), some (.ref p1), some v, y4, y5, y6, y7, y8]) ∧ Bt src H2 H' ∧ Src H' src (n + 2000 + 40500 * i)) ⟨⟨_, _, _, _, _, rfl⟩, .refl _ _, hs2⟩ (fun i σ H3 hi h => ?_) (fun σ H3 h => ?_)⟩
    · obtain ⟨⟨y4, y5, y6, y7, y8, rfl⟩, bt, hsi⟩ := h
      have h3 := bt _ _ p1s h2
      refine ⟨_, rfl, _, rfl, p1, row, rfl, .of h3, by omega, fun H4 pa R s4 npa hpa pR wR => ?_⟩
      rw [act_run] at pR
      have lr := runL_len hh
      have lR := pR.length_eq
      have hs4 := hsi.same s4
      refine ⟨src, pa, _, R, rfl, hs4, by omega, hsi.ne npa, hpa, by omega, fun H5 po O b5 hs5 nps hpo pO => ?_⟩
      have lO := pO.length_eq
      have hbO : ∀ e ∈ O, -100 ≤ e ∧ e ≤ 100 := fun e he => hb e (mem_run.mp ((pO.trans pR).mem_iff.mp he)).1
      have PO : ∀ d ∈ O.map PyData.int, Bd 4 0 d := fun d hd => by
        obtain ⟨e, he, rfl⟩ := List.mem_map.mp hd
        exact bd_i4 ⟨by have := hbO e he; omega, by have := hbO e he; omega⟩
      have b25 : Bt src H2 H5 := (bt.trans (.of s4)).trans b5
      have h5 := b25 _ _ p1s h2
      have oxr : Ox K (av src H5) (.ref p1) (dI row) := ox_ints (.of (av_at p1s h5))
      have oxo : Ox K (av src H5) (.ref po) (dI O) := ox_ints (.of (av_at nps hpo))
      have bdO : Bd (2 + 6 * 200) 1 (dI O) := Bd.list (bd_small (k := 0) hbO (by omega))
      dsimp only
      refine gfor ?_
      unfold tFor iList
      refine Ax.runL (K := K) (A := only src) (src := src) (H0 := H5) (j := 40000) (c := 26000) (k := 40) (l := 6) ?vals (by decide) H5 _ (n + 2000 + 40500 * i + 201) (.refl _ _) (al_only hs5) hs5 (by omega) fun T vs ds H6 b6 hs6 nT hT oxs bds el => ?_
      case vals =>
        exact .cons (j1 := 0) (j2 := 40000) (.var rfl oxo bdO) (.cons (j1 := 0) (j2 := 40000) (.ofL 4 0 200 (.rev (.var rfl nps (decide_eq_false nps) hpo (oxAll_ints O) PO (by decide) (by decide) (by rw [List.length_map]; omega)))) (.cons (j1 := 20000) (j2 := 20000) (.chg rfl rfl nps hpo hbO (by omega)) (.cons (j1 := 20000) (j2 := 0) (.chg rfl rfl nps hpo hbO (by omega)) (.cons (j1 := 0) (j2 := 0) (.var rfl oxr rb) (.cons (j1 := 0) (j2 := 0) (.var rfl (ox_same (av_bt b25) (ox_same (Same.refl _) oxn)) bdn) .nil)))))
      have h6 := b6 _ _ p1s h5
      refine ⟨T, rfl, ⟨_, .of hT⟩, for_list (xs := vs) (fun k σ H' => (∃ y6 y7 y8, σ = [some (.ref src), some (.int most), some (.ref p1), some v, some (.int (0 + (i : Int))), some (.ref po), y6, y7, y8]) ∧ Same H6 H') ⟨⟨_, _, _, rfl⟩, .refl _⟩ (fun k σ H' _ h => .of (h.2 _ _ hT)) (fun k x σ H' hx h => ?_) (fun σ H' h => ?_)⟩
      · obtain ⟨⟨y6', y7', y8', rfl⟩, sm⟩ := h
        obtain ⟨d, hd, hxo⟩ := oxAll_get (oxAll_same av_le (oxAll_same av_le oxs)) hx
        have bd := bds d (mem_get hd)
        have wd : wt d ≤ 190000 := Nat.le_trans bd.w (by decide)
        have bq : Bd 10000000 60 (.list [dI row, d]) := (Bd.list (.cons (rb.mono (show 2 + 6 * 200 ≤ 26000 by decide) (show 1 ≤ 40 by decide)) (.cons bd .nil))).mono (by decide) (by decide)
        refine ⟨_, rfl, _, rfl, by show 2 ≤ sizeLine; decide, fun z nz => ?_⟩
        have sz := same_new (o := .lst [V.ref p1, x]) nz
        have s7 := sm.trans sz
        have ox2 : ∀ {H'' : Hp} {z' : Addr}, Same H6 H'' → H'' z' = some (.lst [V.ref p1, x]) → Ox K H'' (.ref z') (.list [dI row, d]) := fun s e => .lst (.of e) (.cons (ox_ints (.of (s _ _ h6))) (.cons (ox_same s hxo) .nil))
        refine ⟨.ref z, .list [dI row, d], rfl, ox2 s7 upd_same, bq, ?_⟩
        refine ⟨_, rfl, _, rfl, p1, row, x, d, rfl, .of (s7 _ _ h6), hh, ox_same s7 hxo, wd, fun H8 bb s8 hbb => ⟨_, _, rfl, ?_⟩⟩
        refine ⟨_, rfl, .bl bb, .bool bb, rfl, .bl bb, bdB, ?_⟩
        have s78 := s7.trans s8
        refine ⟨_, rfl, _, rfl, p1, row, x, d, rfl, .of (s78 _ _ h6), hh, ox_same s78 hxo, wd, fun H9 b2 s9 hb2 => ?_⟩
        have e := bool_of hbb hb2
        subst e
        refine ⟨.bl bb, .bool bb, rfl, .bl bb, bdB, rfl, false, nF rfl, iteF ?_⟩
        have s79 := s78.trans s9
        refine ⟨_, rfl, _, rfl, by show 2 ≤ sizeLine; decide, fun z2 nz2 => ?_⟩
        have sz2 := same_new (o := .lst [V.ref p1, x]) nz2
        refine ⟨.ref z2, .list [dI row, d], rfl, ox2 (s79.trans sz2) upd_same, bq, _, rfl, rfl, false, nF rfl, iteF ?_⟩
        exact ⟨⟨_, _, _, rfl⟩, s79.trans sz2⟩
      · obtain ⟨⟨y6', y7', y8', rfl⟩, sm⟩ := h
        exact ⟨⟨_, _, _, _, _, rfl⟩, (b25.trans b6).trans (.of sm), (hs6.same sm).mono (by omega)⟩
    · obtain ⟨⟨y4, y5, y6, y7, y8, rfl⟩, b3, hs3⟩ := h
      have hz : ∀ {ns : List Int}, histB ns = true → Hist ns := fun h => histB_iff.mp h
      refine ⟨_, rfl, by show 3 ≤ sizeLine; decide, fun a1 na1 => ⟨by show 1 ≤ sizeLine; decide, fun a2 na2 => ?_⟩⟩
      have sa1 := same_new (o := .lst [V.int 1, .int 2, .int (-1)]) na1
      have sa2 := same_new (o := .lst [V.int 2]) na2
      refine ⟨a1, [1, 2, -1], .ref a2, dI [2], rfl, .of (sa2 _ _ upd_same), hz (by decide +kernel), ox_ints (ns := [2]) (.of upd_same), by decide +kernel, fun H4 c1 s4 hc1 => ?_⟩
      have e1 : c1 = true := hc1.mpr ⟨[2], rfl, by decide⟩
      subst e1
      refine ⟨_, rfl, by show 2 ≤ sizeLine; decide, fun a3 na3 => ⟨Nat.zero_le _, fun a4 na4 => ?_⟩⟩
      have sa3 := same_new (o := .lst [V.int 1, .int (-1)]) na3
      have sa4 := same_new (o := .lst []) na4
      refine ⟨a3, [1, -1], .ref a4, dI [], rfl, .of (sa4 _ _ upd_same), hz (by decide +kernel), ox_ints (ns := []) (.of upd_same), by decide +kernel, fun H5 c2 s5 hc2 => ?_⟩
      have e2 : c2 = true := hc2.mpr ⟨[], rfl, by decide⟩
      subst e2
      refine ⟨by show 1 ≤ sizeLine; decide, fun a5 na5 => ⟨by show 1 ≤ sizeLine; decide, fun a6 na6 => ?_⟩⟩
      have sa5 := same_new (o := .lst [V.int 1]) na5
      have sa6 := same_new (o := .lst [V.bl true]) na6
      refine ⟨a5, [1], .ref a6, .list [.bool true], rfl, .of (sa6 _ _ upd_same), hz (by decide +kernel), .lst (.of upd_same) (.cons (.bl true) .nil), by decide +kernel, fun H6 c3 s6 hc3 => ?_⟩
      have e3 : c3 = false := by
        cases c3 with
        | false => rfl
        | true =>
          obtain ⟨O, e, _⟩ := hc3.mp rfl
          cases O with
          | nil => cases e
          | cons x r => cases (List.cons.inj (PyData.list.inj e)).1
      subst e3
      refine ⟨by show 3 ≤ sizeLine; decide, fun a7 na7 => ⟨by show 3 ≤ sizeLine; decide, fun a8 na8 => ?_⟩⟩
      have sa7 := same_new (o := .lst [V.bl true, .bl true, .bl false]) na7
      have sa8 := same_new (o := .lst [V.bl true, .bl true, .bl false]) na8
      refine ⟨dB [true, true, false], dB [true, true, false], dp_bools (bs := [true, true, false]) (.of (sa8 _ _ upd_same)), dp_bools (bs := [true, true, false]) (.of upd_same), shaped_bools _, shaped_bools _, ?_⟩
      rw [eqv_bools]
      exact q _ ((((b1.trans (.of s2)).trans b3)).trans (.of ((((((((sa1.trans sa2).trans s4).trans sa3).trans sa4).trans s5).trans sa5).trans sa6).trans (s6.trans (sa7.trans sa8)))))
end
end L11
set_option Elab.async false
set_option linter.all false
set_option maxRecDepth 100000
namespace L11
open PySem PySem.Spec PyProof.Rows L2 Lp
section
variable {P : Program} {w : World} {K : PySem.W.Frag} {mg : Str → Option Value} {base : Heap}
def spLaw (K : PySem.W.Frag) : Sp := fun vs H Q _ => ∃ (a : Addr) (ns : List Int), vs = [.ref a] ∧ SqL K H a (ns.map V.int) ∧ ns.length ≤ 63 ∧ ∀ H', Q (.bl true) H'
theorem ok_law {f : Addr} {fd : FuncData} (F : Fun K "law" "law" s_law f fd) (B : NoB mg) (T_law_source : Gc P w K mg base 1 "_law_source" spSource) (T_law_holds : Gc P w K mg base 9 "_law_holds" spHolds) : FnG P w K mg base CX0 10 f fd ["script"] (spLaw K) := by
  refine okG F sc_law (fun vs H Q E h => ?_) (fun cdv A outer s H vs Q E hG hr h => ?_)
  · obtain ⟨a, ns, rfl, _⟩ := h
    rfl
  · obtain ⟨sc, ns, rfl, hS, hl, q⟩ := h
    have hu64 := hr.units
    refine ⟨_, (pss_cons (ps_for PassesOwn.never rfl (pi_enum (by rfl) B.enumerate (pa_cons (pe_slice sl_list (pe_op op_catS (pv 0) (pe_lst (pa_cons pe_int pa_nil))) po_none (po_some (pe_callB (call_max2 rfl) (by rfl) B.max (by decide +kernel) (pa_cons pe_int (pa_cons (pe_callB (call_min2 rfl) (by rfl) B.min (by decide +kernel) (pa_cons (pe_callB call_len_seq (by rfl) B.len PySem.boot_len (pa_cons (pv 0) pa_nil)) (pa_cons pe_int pa_nil))) pa_nil))))) pa_nil)) (pg_tup rfl (pgs_cons (pg_name (i := 1) sc_law.nd rfl (Or.inl rfl)) (pgs_cons (pg_name (i := 2) sc_law.nd rfl (Or.inl rfl)) pgs_nil)))
          (pss_one (ps_if (pt_not (pt_val (pe_g T_law_holds hG hr (by decide) (by rfl) (pa_cons (pe_g T_law_source hG hr (by decide) (by rfl) (pa_cons (pv 2) (pa_cons (pv 1) pa_nil))) (pa_cons (pe_ifExp (pt_cmpR (op_eqD hu64) (pv 0) (pe_lst pa_nil) (nomark _)) pe_int pe_int) pa_nil))))) (pss_one (ps_ret pe_bl)) pss_nil)))
        (pss_one (ps_ret pe_bl))), ?_⟩
    refine ⟨_, rfl, by show 1 ≤ sizeLine; decide, fun z nz => ?_⟩
    have hS1 := (same_new (o := .lst [V.int 0]) nz).seq hS
    refine ⟨sc, z, ns.map V.int, [V.int 0], rfl, rfl, hS1, .of upd_same, by rw [List.length_map]; exact zs (by show ns.length + 1 ≤ _; omega), fun p np => ?_⟩
    have s2 : Same H (upd (upd H z (.lst [V.int 0])) p (.lst (ns.map V.int ++ [V.int 0]))) := (same_new nz).trans (same_new np)
    refine ⟨_, rfl, sc, _, rfl, .inl (s2.seq hS), _, _, rfl, _, _, rfl, _, rfl, p, _, rfl, .of upd_same, fun p2 np2 => ?_⟩
    generalize ec : (if (if 20 < (((ns.map V.int).length : Nat) : Int) then (20 : Int) else (((ns.map V.int).length : Nat) : Int)) > 1 then (if 20 < (((ns.map V.int).length : Nat) : Int) then (20 : Int) else (((ns.map V.int).length : Nat) : Int)) else 1) = c
    have c0 : 1 ≤ c ∧ c ≤ (ns.length : Int) + 1 := by
      rw [← ec, List.length_map]
      split <;> split <;> omega
    have ecut : cutV (ns.map V.int ++ [V.int 0]) none (some c) = ((ns ++ [0]).take c.toNat).map V.int := by
      have e : c = ((c.toNat : Nat) : Int) := by omega
      rw [e, cut_take _ _ (by rw [List.length_append, List.length_map, List.length_singleton]; omega), List.map_take, List.map_append]
      rfl
    rw [ecut]
    have cl : ((ns ++ [0]).take c.toNat).length ≤ 64 := by
      rw [List.length_take, List.length_append, List.length_singleton]
      omega
    have s3 := s2.trans (same_new (o := .lst (((ns ++ [0]).take c.toNat).map V.int)) np2)
    refine ⟨p2, _, rfl, .of upd_same, for_it (walk_enum (xs := ((ns ++ [0]).take c.toNat).map V.int)) (fun i σ H' => (∃ y1 y2, σ = [some (.ref sc), y1, y2]) ∧ Same H H' ∧ H' p2 = some (.lst (((ns ++ [0]).take c.toNat).map V.int))) ⟨⟨_, _, rfl⟩, s3, upd_same⟩ (fun i σ H' _ h => .of h.2.2) (fun i x σ H' H2 hi h hy => ?_) (fun σ H' h => ?_)⟩
    · obtain ⟨T, x1, x2, rfl, nT, rfl, e1, e2⟩ := hy
      cases e1
      obtain ⟨e, rfl, he⟩ := get_int e2
      obtain ⟨⟨y1, y2, rfl⟩, sm, hp2⟩ := h
      have hi2 := lt_get he
      refine ⟨T, _, rfl, .of upd_same, rfl, _, _, rfl, _, _, rfl, rfl, ?_⟩
      have sT := same_new (o := .tup [V.int ((i : Nat) : Int), .int e]) nT
      refine ⟨_, rfl, _, rfl, e, i, rfl, by omega, fun H3 src s3 nsrc hs3 => ?_⟩
      have nsrc' : H' src = none := sT.free nsrc
      have sm3 : Same H' H3 := sT.trans s3
      have fin : ∀ H5, Bt src H3 H5 → Same H H5 ∧ H5 p2 = some (.lst (((ns ++ [0]).take c.toNat).map V.int)) := fun H5 b5 => by
        have s5 : Same H' H5 := fun b o eb => b5 b o (ne_of_none eb nsrc') (sm3 b o eb)
        exact ⟨sm.trans s5, s5 _ _ hp2⟩
      refine ⟨_, rfl, Nat.zero_le _, fun e4 ne4 => ?_⟩
      have s4 := same_new (o := .lst []) ne4
      have hS4 : SqL K (upd H3 e4 (.lst [])) sc (ns.map V.int) := ((sm.trans sm3).trans s4).seq hS
      by_cases hb : ns = []
      · refine ⟨dI ns, dI [], dp_ints hS4, dp_ints (ns := []) (.of upd_same), shaped_ints _, shaped_ints _, true, eqvT hb, ?_⟩
        exact ⟨src, 7, 0, rfl, hs3.same s4, by decide, by decide, by decide, fun H5 b5 => ⟨true, rfl, ⟨_, _, rfl⟩, fin H5 ((Lp.Bt.of s4).trans b5)⟩⟩
      · refine ⟨dI ns, dI [], dp_ints hS4, dp_ints (ns := []) (.of upd_same), shaped_ints _, shaped_ints _, false, eqvF hb, ?_⟩
        exact ⟨src, 200, 0, rfl, hs3.same s4, by decide, by decide, by decide, fun H5 b5 => ⟨true, rfl, ⟨_, _, rfl⟩, fin H5 ((Lp.Bt.of s4).trans b5)⟩⟩
    · obtain ⟨⟨y1, y2, rfl⟩, sm, hp2⟩ := h
      exact q _
end
end L11
set_option Elab.async false
set_option linter.all false
set_option maxRecDepth 100000
namespace L11
open PySem PySem.Spec PyProof.Rows L2 Lp
set_option maxHeartbeats 0 in
theorem all_mk {l : PySem.W.OpenLaw} {w : World} {K : PySem.W.Frag} {h : Heap} {mg : Str → Option Value} {fa : Addr} (X : K.In h) (G : h.Ns mainGlobals mg) (hfa : mg "law" = some (.ref fa))
    {f0 : Addr} {oc0 kV0 dc0 pm0 cd0 ct0 : Value} {od0 an0 : Option Addr} {sl0 : Array (Option Value)}
    (a0 : PySem.W.nsIn K mainGlobals "is_integer" = some (some (.ref f0))) (l0 : K.lookup f0 = some ⟨oc0, od0, .func (PySem.W.fnOf "is_integer" "is_integer" (defArgs s_is_integer) (defBody s_is_integer) (defScope s_is_integer) .none kV0 dc0 pm0 an0 cd0 ct0), sl0⟩) (c0 : PySem.W.codeIn K cd0 "is_integer" = true) (k0 : PySem.W.keepIn K (.ref f0) = true)
    {f1 : Addr} {oc1 kV1 dc1 pm1 cd1 ct1 : Value} {od1 an1 : Option Addr} {sl1 : Array (Option Value)}
    (a1 : PySem.W.nsIn K mainGlobals "is_integer_within" = some (some (.ref f1))) (l1 : K.lookup f1 = some ⟨oc1, od1, .func (PySem.W.fnOf "is_integer_within" "is_integer_within" (defArgs s_is_integer_within) (defBody s_is_integer_within) (defScope s_is_integer_within) .none kV1 dc1 pm1 an1 cd1 ct1), sl1⟩) (c1 : PySem.W.codeIn K cd1 "is_integer_within" = true) (k1 : PySem.W.keepIn K (.ref f1) = true)
    {f2 : Addr} {oc2 kV2 dc2 pm2 cd2 ct2 : Value} {od2 an2 : Option Addr} {sl2 : Array (Option Value)}
    (a2 : PySem.W.nsIn K mainGlobals "are_integers" = some (some (.ref f2))) (l2 : K.lookup f2 = some ⟨oc2, od2, .func (PySem.W.fnOf "are_integers" "are_integers" (defArgs s_are_integers) (defBody s_are_integers) (defScope s_are_integers) .none kV2 dc2 pm2 an2 cd2 ct2), sl2⟩) (c2 : PySem.W.codeIn K cd2 "are_integers" = true) (k2 : PySem.W.keepIn K (.ref f2) = true)
    {f3 : Addr} {oc3 kV3 dc3 pm3 cd3 ct3 : Value} {od3 an3 : Option Addr} {sl3 : Array (Option Value)}
    (a3 : PySem.W.nsIn K mainGlobals "are_events" = some (some (.ref f3))) (l3 : K.lookup f3 = some ⟨oc3, od3, .func (PySem.W.fnOf "are_events" "are_events" (defArgs s_are_events) (defBody s_are_events) (defScope s_are_events) .none kV3 dc3 pm3 an3 cd3 ct3), sl3⟩) (c3 : PySem.W.codeIn K cd3 "are_events" = true) (k3 : PySem.W.keepIn K (.ref f3) = true)
    {f4 : Addr} {oc4 kV4 dc4 pm4 cd4 ct4 : Value} {od4 an4 : Option Addr} {sl4 : Array (Option Value)}
    (a4 : PySem.W.nsIn K mainGlobals "is_history" = some (some (.ref f4))) (l4 : K.lookup f4 = some ⟨oc4, od4, .func (PySem.W.fnOf "is_history" "is_history" (defArgs s_is_history) (defBody s_is_history) (defScope s_is_history) .none kV4 dc4 pm4 an4 cd4 ct4), sl4⟩) (c4 : PySem.W.codeIn K cd4 "is_history" = true) (k4 : PySem.W.keepIn K (.ref f4) = true)
    {f5 : Addr} {oc5 kV5 dc5 pm5 cd5 ct5 : Value} {od5 an5 : Option Addr} {sl5 : Array (Option Value)}
    (a5 : PySem.W.nsIn K mainGlobals "check_history" = some (some (.ref f5))) (l5 : K.lookup f5 = some ⟨oc5, od5, .func (PySem.W.fnOf "check_history" "check_history" (defArgs s_check_history) (defBody s_check_history) (defScope s_check_history) .none kV5 dc5 pm5 an5 cd5 ct5), sl5⟩) (c5 : PySem.W.codeIn K cd5 "check_history" = true) (k5 : PySem.W.keepIn K (.ref f5) = true)
    {f6 : Addr} {oc6 kV6 dc6 pm6 cd6 ct6 : Value} {od6 an6 : Option Addr} {sl6 : Array (Option Value)}
    (a6 : PySem.W.nsIn K mainGlobals "starts_of" = some (some (.ref f6))) (l6 : K.lookup f6 = some ⟨oc6, od6, .func (PySem.W.fnOf "starts_of" "starts_of" (defArgs s_starts_of) (defBody s_starts_of) (defScope s_starts_of) .none kV6 dc6 pm6 an6 cd6 ct6), sl6⟩) (c6 : PySem.W.codeIn K cd6 "starts_of" = true) (k6 : PySem.W.keepIn K (.ref f6) = true)
    {f7 : Addr} {oc7 kV7 dc7 pm7 cd7 ct7 : Value} {od7 an7 : Option Addr} {sl7 : Array (Option Value)}
    (a7 : PySem.W.nsIn K mainGlobals "running_after" = some (some (.ref f7))) (l7 : K.lookup f7 = some ⟨oc7, od7, .func (PySem.W.fnOf "running_after" "running_after" (defArgs s_running_after) (defBody s_running_after) (defScope s_running_after) .none kV7 dc7 pm7 an7 cd7 ct7), sl7⟩) (c7 : PySem.W.codeIn K cd7 "running_after" = true) (k7 : PySem.W.keepIn K (.ref f7) = true)
    {f8 : Addr} {oc8 kV8 dc8 pm8 cd8 ct8 : Value} {od8 an8 : Option Addr} {sl8 : Array (Option Value)}
    (a8 : PySem.W.nsIn K mainGlobals "is_order" = some (some (.ref f8))) (l8 : K.lookup f8 = some ⟨oc8, od8, .func (PySem.W.fnOf "is_order" "is_order" (defArgs s_is_order) (defBody s_is_order) (defScope s_is_order) .none kV8 dc8 pm8 an8 cd8 ct8), sl8⟩) (c8 : PySem.W.codeIn K cd8 "is_order" = true) (k8 : PySem.W.keepIn K (.ref f8) = true)
    {f9 : Addr} {oc9 kV9 dc9 pm9 cd9 ct9 : Value} {od9 an9 : Option Addr} {sl9 : Array (Option Value)}
    (a9 : PySem.W.nsIn K mainGlobals "_law_source" = some (some (.ref f9))) (l9 : K.lookup f9 = some ⟨oc9, od9, .func (PySem.W.fnOf "_law_source" "_law_source" (defArgs s_law_source) (defBody s_law_source) (defScope s_law_source) .none kV9 dc9 pm9 an9 cd9 ct9), sl9⟩) (c9 : PySem.W.codeIn K cd9 "_law_source" = true) (k9 : PySem.W.keepIn K (.ref f9) = true)
    {f10 : Addr} {oc10 kV10 dc10 pm10 cd10 ct10 : Value} {od10 an10 : Option Addr} {sl10 : Array (Option Value)}
    (a10 : PySem.W.nsIn K mainGlobals "_law_draw" = some (some (.ref f10))) (l10 : K.lookup f10 = some ⟨oc10, od10, .func (PySem.W.fnOf "_law_draw" "_law_draw" (defArgs s_law_draw) (defBody s_law_draw) (defScope s_law_draw) .none kV10 dc10 pm10 an10 cd10 ct10), sl10⟩) (c10 : PySem.W.codeIn K cd10 "_law_draw" = true) (k10 : PySem.W.keepIn K (.ref f10) = true)
    {f11 : Addr} {oc11 kV11 dc11 pm11 cd11 ct11 : Value} {od11 an11 : Option Addr} {sl11 : Array (Option Value)}
    (a11 : PySem.W.nsIn K mainGlobals "_law_row" = some (some (.ref f11))) (l11 : K.lookup f11 = some ⟨oc11, od11, .func (PySem.W.fnOf "_law_row" "_law_row" (defArgs s_law_row) (defBody s_law_row) (defScope s_law_row) .none kV11 dc11 pm11 an11 cd11 ct11), sl11⟩) (c11 : PySem.W.codeIn K cd11 "_law_row" = true) (k11 : PySem.W.keepIn K (.ref f11) = true)
    {f12 : Addr} {oc12 kV12 dc12 pm12 cd12 ct12 : Value} {od12 an12 : Option Addr} {sl12 : Array (Option Value)}
    (a12 : PySem.W.nsIn K mainGlobals "_law_active" = some (some (.ref f12))) (l12 : K.lookup f12 = some ⟨oc12, od12, .func (PySem.W.fnOf "_law_active" "_law_active" (defArgs s_law_active) (defBody s_law_active) (defScope s_law_active) .none kV12 dc12 pm12 an12 cd12 ct12), sl12⟩) (c12 : PySem.W.codeIn K cd12 "_law_active" = true) (k12 : PySem.W.keepIn K (.ref f12) = true)
    {f13 : Addr} {oc13 kV13 dc13 pm13 cd13 ct13 : Value} {od13 an13 : Option Addr} {sl13 : Array (Option Value)}
    (a13 : PySem.W.nsIn K mainGlobals "_law_mixed" = some (some (.ref f13))) (l13 : K.lookup f13 = some ⟨oc13, od13, .func (PySem.W.fnOf "_law_mixed" "_law_mixed" (defArgs s_law_mixed) (defBody s_law_mixed) (defScope s_law_mixed) .none kV13 dc13 pm13 an13 cd13 ct13), sl13⟩) (c13 : PySem.W.codeIn K cd13 "_law_mixed" = true) (k13 : PySem.W.keepIn K (.ref f13) = true)
    {f14 : Addr} {oc14 kV14 dc14 pm14 cd14 ct14 : Value} {od14 an14 : Option Addr} {sl14 : Array (Option Value)}
    (a14 : PySem.W.nsIn K mainGlobals "_law_is_due" = some (some (.ref f14))) (l14 : K.lookup f14 = some ⟨oc14, od14, .func (PySem.W.fnOf "_law_is_due" "_law_is_due" (defArgs s_law_is_due) (defBody s_law_is_due) (defScope s_law_is_due) .none kV14 dc14 pm14 an14 cd14 ct14), sl14⟩) (c14 : PySem.W.codeIn K cd14 "_law_is_due" = true) (k14 : PySem.W.keepIn K (.ref f14) = true)
    {f15 : Addr} {oc15 kV15 dc15 pm15 cd15 ct15 : Value} {od15 an15 : Option Addr} {sl15 : Array (Option Value)}
    (a15 : PySem.W.nsIn K mainGlobals "_law_changed" = some (some (.ref f15))) (l15 : K.lookup f15 = some ⟨oc15, od15, .func (PySem.W.fnOf "_law_changed" "_law_changed" (defArgs s_law_changed) (defBody s_law_changed) (defScope s_law_changed) .none kV15 dc15 pm15 an15 cd15 ct15), sl15⟩) (c15 : PySem.W.codeIn K cd15 "_law_changed" = true) (k15 : PySem.W.keepIn K (.ref f15) = true)
    {f16 : Addr} {oc16 kV16 dc16 pm16 cd16 ct16 : Value} {od16 an16 : Option Addr} {sl16 : Array (Option Value)}
    (a16 : PySem.W.nsIn K mainGlobals "_law_holds" = some (some (.ref f16))) (l16 : K.lookup f16 = some ⟨oc16, od16, .func (PySem.W.fnOf "_law_holds" "_law_holds" (defArgs s_law_holds) (defBody s_law_holds) (defScope s_law_holds) .none kV16 dc16 pm16 an16 cd16 ct16), sl16⟩) (c16 : PySem.W.codeIn K cd16 "_law_holds" = true) (k16 : PySem.W.keepIn K (.ref f16) = true)
    {f17 : Addr} {oc17 kV17 dc17 pm17 cd17 ct17 : Value} {od17 an17 : Option Addr} {sl17 : Array (Option Value)}
    (a17 : PySem.W.nsIn K mainGlobals "law" = some (some (.ref f17))) (l17 : K.lookup f17 = some ⟨oc17, od17, .func (PySem.W.fnOf "law" "law" (defArgs s_law) (defBody s_law) (defScope s_law) .none kV17 dc17 pm17 an17 cd17 ct17), sl17⟩) (c17 : PySem.W.codeIn K cd17 "law" = true) (k17 : PySem.W.keepIn K (.ref f17) = true)
    {t_LAST_PATCH : Tok} (g_LAST_PATCH : PySem.W.nsIn K mainGlobals "LAST_PATCH" = some (some (.int 100 t_LAST_PATCH)))
    {t_MOST_EVENTS : Tok} (g_MOST_EVENTS : PySem.W.nsIn K mainGlobals "MOST_EVENTS" = some (some (.int 200 t_MOST_EVENTS)))
    (z_len : PySem.W.nsIn K mainGlobals "len" = some none)
    (z_list : PySem.W.nsIn K mainGlobals "list" = some none)
    (z_int : PySem.W.nsIn K mainGlobals "int" = some none)
    (z_bool : PySem.W.nsIn K mainGlobals "bool" = some none)
    (z_str : PySem.W.nsIn K mainGlobals "str" = some none)
    (z_tuple : PySem.W.nsIn K mainGlobals "tuple" = some none)
    (z_max : PySem.W.nsIn K mainGlobals "max" = some none)
    (z_min : PySem.W.nsIn K mainGlobals "min" = some none)
    (z_range : PySem.W.nsIn K mainGlobals "range" = some none)
    (z_repr : PySem.W.nsIn K mainGlobals "repr" = some none)
    (z_isinstance : PySem.W.nsIn K mainGlobals "isinstance" = some none)
    (z_type : PySem.W.nsIn K mainGlobals "type" = some none)
    (z_all : PySem.W.nsIn K mainGlobals "all" = some none)
    (z_set : PySem.W.nsIn K mainGlobals "set" = some none)
    (z_zip : PySem.W.nsIn K mainGlobals "zip" = some none)
    (z_enumerate : PySem.W.nsIn K mainGlobals "enumerate" = some none)
    (z_sorted : PySem.W.nsIn K mainGlobals "sorted" = some none)
    (z_abs : PySem.W.nsIn K mainGlobals "abs" = some none) :
    ∃ fd : FuncData, (∀ (s : Shared) (v : Value), BindsTo s fd ⟨[v], []⟩ [("script", v)]) ∧ ∀ base : Heap, K.In base → base.Ns mainGlobals mg → FnG l.prog w K mg base CX0 10 fa fd ["script"] (spLaw K) := by
  have e := hfa.symm.trans (PySem.W.mg_of X G a17)
  cases e
  have B : NoB mg := ⟨PySem.W.mg_none_of X G z_len, PySem.W.mg_none_of X G z_list, PySem.W.mg_none_of X G z_int, PySem.W.mg_none_of X G z_bool, PySem.W.mg_none_of X G z_str, PySem.W.mg_none_of X G z_tuple, PySem.W.mg_none_of X G z_max, PySem.W.mg_none_of X G z_min, PySem.W.mg_none_of X G z_range, PySem.W.mg_none_of X G z_repr, PySem.W.mg_none_of X G z_isinstance, PySem.W.mg_none_of X G z_type, PySem.W.mg_none_of X G z_all, PySem.W.mg_none_of X G z_set, PySem.W.mg_none_of X G z_zip, PySem.W.mg_none_of X G z_enumerate, PySem.W.mg_none_of X G z_sorted, PySem.W.mg_none_of X G z_abs⟩
  have F0 := fun_mk (st := s_is_integer) l0 c0 k0
  have b0 := F0.binds (ps := ["value"]) fun _ _ _ _ _ _ us hl => match us, hl with | [_], _ => rfl
  have F1 := fun_mk (st := s_is_integer_within) l1 c1 k1
  have b1 := F1.binds (ps := ["value", "least", "greatest"]) fun _ _ _ _ _ _ us hl => match us, hl with | [_, _, _], _ => rfl
  have F2 := fun_mk (st := s_are_integers) l2 c2 k2
  have b2 := F2.binds (ps := ["value", "least", "greatest", "most"]) fun _ _ _ _ _ _ us hl => match us, hl with | [_, _, _, _], _ => rfl
  have F3 := fun_mk (st := s_are_events) l3 c3 k3
  have b3 := F3.binds (ps := ["value"]) fun _ _ _ _ _ _ us hl => match us, hl with | [_], _ => rfl
  have F4 := fun_mk (st := s_is_history) l4 c4 k4
  have b4 := F4.binds (ps := ["value"]) fun _ _ _ _ _ _ us hl => match us, hl with | [_], _ => rfl
  have F5 := fun_mk (st := s_check_history) l5 c5 k5
  have b5 := F5.binds (ps := ["history"]) fun _ _ _ _ _ _ us hl => match us, hl with | [_], _ => rfl
  have F6 := fun_mk (st := s_starts_of) l6 c6 k6
  have b6 := F6.binds (ps := ["history"]) fun _ _ _ _ _ _ us hl => match us, hl with | [_], _ => rfl
  have F7 := fun_mk (st := s_running_after) l7 c7 k7
  have b7 := F7.binds (ps := ["history"]) fun _ _ _ _ _ _ us hl => match us, hl with | [_], _ => rfl
  have F8 := fun_mk (st := s_is_order) l8 c8 k8
  have b8 := F8.binds (ps := ["history", "value"]) fun _ _ _ _ _ _ us hl => match us, hl with | [_, _], _ => rfl
  have F9 := fun_mk (st := s_law_source) l9 c9 k9
  have b9 := F9.binds (ps := ["cell", "k"]) fun _ _ _ _ _ _ us hl => match us, hl with | [_, _], _ => rfl
  have F10 := fun_mk (st := s_law_draw) l10 c10 k10
  have b10 := F10.binds (ps := ["source", "count"]) fun _ _ _ _ _ _ us hl => match us, hl with | [_, _], _ => rfl
  have F11 := fun_mk (st := s_law_row) l11 c11 k11
  have b11 := F11.binds (ps := ["source", "most"]) fun _ _ _ _ _ _ us hl => match us, hl with | [_, _], _ => rfl
  have F12 := fun_mk (st := s_law_active) l12 c12 k12
  have b12 := F12.binds (ps := ["row"]) fun _ _ _ _ _ _ us hl => match us, hl with | [_], _ => rfl
  have F13 := fun_mk (st := s_law_mixed) l13 c13 k13
  have b13 := F13.binds (ps := ["source", "things"]) fun _ _ _ _ _ _ us hl => match us, hl with | [_, _], _ => rfl
  have F14 := fun_mk (st := s_law_is_due) l14 c14 k14
  have b14 := F14.binds (ps := ["row", "value"]) fun _ _ _ _ _ _ us hl => match us, hl with | [_, _], _ => rfl
  have F15 := fun_mk (st := s_law_changed) l15 c15 k15
  have b15 := F15.binds (ps := ["source", "order"]) fun _ _ _ _ _ _ us hl => match us, hl with | [_, _], _ => rfl
  have F16 := fun_mk (st := s_law_holds) l16 c16 k16
  have b16 := F16.binds (ps := ["source", "most"]) fun _ _ _ _ _ _ us hl => match us, hl with | [_, _], _ => rfl
  have F17 := fun_mk (st := s_law) l17 c17 k17
  refine ⟨PySem.W.fnOf "law" "law" (defArgs s_law) (defBody s_law) (defScope s_law) .none kV17 dc17 pm17 an17 cd17 ct17, fun s v => .of_eq rfl, fun base _ _ => ?_⟩
  have T_is_integer : Cal l.prog w K mg base 1 "is_integer" _ := ⟨f0, _, ["value"], ok_is_integer_O F0 B, PySem.W.mg_of X G a0, F0.kp, b0⟩
  have T_is_integer_within : Cal l.prog w K mg base 2 "is_integer_within" _ := ⟨f1, _, ["value", "least", "greatest"], ok_is_integer_within_O F1 T_is_integer, PySem.W.mg_of X G a1, F1.kp, b1⟩
  have T_are_integers : Cal l.prog w K mg base 3 "are_integers" _ := ⟨f2, _, ["value", "least", "greatest", "most"], ok_are_integers_O F2 B T_is_integer_within, PySem.W.mg_of X G a2, F2.kp, b2⟩
  have T_are_events : Cal l.prog w K mg base 4 "are_events" _ := ⟨f3, _, ["value"], ok_are_events_O F3 B (PySem.W.mg_of X G g_LAST_PATCH) (PySem.W.mg_of X G g_MOST_EVENTS) T_are_integers, PySem.W.mg_of X G a3, F3.kp, b3⟩
  have T_are_events_good : Cal l.prog w K mg base 4 "are_events" _ := cal_weak T_are_events areEv_good
  have T_is_history : Cal l.prog w K mg base 5 "is_history" _ := ⟨f4, _, ["value"], ok_is_history F4 B T_are_events_good, PySem.W.mg_of X G a4, F4.kp, b4⟩
  have T_check_history : Cal l.prog w K mg base 6 "check_history" _ := ⟨f5, _, ["history"], ok_check_history F5 T_is_history, PySem.W.mg_of X G a5, F5.kp, b5⟩
  have T_starts_of : Cal l.prog w K mg base 1 "starts_of" _ := ⟨f6, _, ["history"], ok_starts_of F6, PySem.W.mg_of X G a6, F6.kp, b6⟩
  have T_running_after : Cal l.prog w K mg base 7 "running_after" _ := ⟨f7, _, ["history"], ok_running_after F7 B T_check_history T_starts_of, PySem.W.mg_of X G a7, F7.kp, b7⟩
  have T_is_order : Cal l.prog w K mg base 8 "is_order" _ := ⟨f8, _, ["history", "value"], ok_is_order_O F8 B (PySem.W.mg_of X G g_LAST_PATCH) T_running_after T_are_integers, PySem.W.mg_of X G a8, F8.kp, b8⟩
  have T_law_source : Gc l.prog w K mg base 1 "_law_source" _ := ⟨f9, _, ["cell", "k"], ok_law_source F9 B, PySem.W.mg_of X G a9, F9.kp, b9⟩
  have T_law_draw : Gc l.prog w K mg base 1 "_law_draw" _ := ⟨f10, _, ["source", "count"], ok_law_draw F10, PySem.W.mg_of X G a10, F10.kp, b10⟩
  have T_law_row : Gc l.prog w K mg base 2 "_law_row" _ := ⟨f11, _, ["source", "most"], ok_law_row F11 B T_law_draw, PySem.W.mg_of X G a11, F11.kp, b11⟩
  have T_law_active : Gc l.prog w K mg base 1 "_law_active" _ := ⟨f12, _, ["row"], ok_law_active F12 B, PySem.W.mg_of X G a12, F12.kp, b12⟩
  have T_law_mixed : Gc l.prog w K mg base 2 "_law_mixed" _ := ⟨f13, _, ["source", "things"], ok_law_mixed F13 B T_law_draw, PySem.W.mg_of X G a13, F13.kp, b13⟩
  have T_law_is_due : Gc l.prog w K mg base 2 "_law_is_due" _ := ⟨f14, _, ["row", "value"], ok_law_is_due F14 B T_law_active, PySem.W.mg_of X G a14, F14.kp, b14⟩
  have T_law_changed : Gc l.prog w K mg base 2 "_law_changed" _ := ⟨f15, _, ["source", "order"], ok_law_changed F15 B T_law_draw, PySem.W.mg_of X G a15, F15.kp, b15⟩
  have T_law_holds : Gc l.prog w K mg base 9 "_law_holds" _ := ⟨f16, _, ["source", "most"], ok_law_holds F16 B T_law_row T_law_active T_law_mixed T_law_changed T_law_is_due T_is_order, PySem.W.mg_of X G a16, F16.kp, b16⟩
  exact ok_law F17 B T_law_source T_law_holds
end L11
open PySem PySem.W PyProof.Rows
set_option maxHeartbeats 0 in
theorem PySem.Challenge.cw_latepatches_k11_orders_recognized_holds : PySem.Challenge.rw_latepatches_k11_orders_recognized.Holds := by
  w_on; o_law; k_head; (case hw => w_witness2)
  k_fill
  refine Lp.walk_ofG (l := PySem.Challenge.rw_latepatches_k11_orders_recognized) (n := 63) (k := 10) (x := "script") (CX := fun _ => L2.CX0) (sp := fun w => L11.spLaw _) rfl (by decide) rfl ⟨rfl, by decide, by decide⟩ (fun w h Y => PySem.W.kIn_of Y) ?F (fun _ _ a ns hl _ hS => ⟨a, ns, rfl, hS, hl, fun _ => rfl⟩) (fun _ _ _ _ _ h => h)
  case F =>
    intro w mg fa h KX G hmg
    refine' L11.all_mk KX G hmg ?a0 ?l0 ?c0 ?k0 ?a1 ?l1 ?c1 ?k1 ?a2 ?l2 ?c2 ?k2 ?a3 ?l3 ?c3 ?k3 ?a4 ?l4 ?c4 ?k4 ?a5 ?l5 ?c5 ?k5 ?a6 ?l6 ?c6 ?k6 ?a7 ?l7 ?c7 ?k7 ?a8 ?l8 ?c8 ?k8 ?a9 ?l9 ?c9 ?k9 ?a10 ?l10 ?c10 ?k10 ?a11 ?l11 ?c11 ?k11 ?a12 ?l12 ?c12 ?k12 ?a13 ?l13 ?c13 ?k13 ?a14 ?l14 ?c14 ?k14 ?a15 ?l15 ?c15 ?k15 ?a16 ?l16 ?c16 ?k16 ?a17 ?l17 ?c17 ?k17 ?g_LAST_PATCH ?g_MOST_EVENTS ?z_len ?z_list ?z_int ?z_bool ?z_str ?z_tuple ?z_max ?z_min ?z_range ?z_repr ?z_isinstance ?z_type ?z_all ?z_set ?z_zip ?z_enumerate ?z_sorted ?z_abs
    (case a0 => k_is); (case l0 => k_is); (case c0 => k_is); (case k0 => k_is); (case a1 => k_is); (case l1 => k_is); (case c1 => k_is); (case k1 => k_is); (case a2 => k_is); (case l2 => k_is); (case c2 => k_is); (case k2 => k_is); (case a3 => k_is); (case l3 => k_is); (case c3 => k_is); (case k3 => k_is); (case a4 => k_is); (case l4 => k_is); (case c4 => k_is); (case k4 => k_is); (case a5 => k_is); (case l5 => k_is); (case c5 => k_is); (case k5 => k_is); (case a6 => k_is); (case l6 => k_is); (case c6 => k_is); (case k6 => k_is); (case a7 => k_is); (case l7 => k_is); (case c7 => k_is); (case k7 => k_is); (case a8 => k_is); (case l8 => k_is); (case c8 => k_is); (case k8 => k_is); (case a9 => k_is); (case l9 => k_is); (case c9 => k_is); (case k9 => k_is); (case a10 => k_is); (case l10 => k_is); (case c10 => k_is); (case k10 => k_is); (case a11 => k_is); (case l11 => k_is); (case c11 => k_is); (case k11 => k_is); (case a12 => k_is); (case l12 => k_is); (case c12 => k_is); (case k12 => k_is); (case a13 => k_is); (case l13 => k_is); (case c13 => k_is); (case k13 => k_is); (case a14 => k_is); (case l14 => k_is); (case c14 => k_is); (case k14 => k_is); (case a15 => k_is); (case l15 => k_is); (case c15 => k_is); (case k15 => k_is); (case a16 => k_is); (case l16 => k_is); (case c16 => k_is); (case k16 => k_is); (case a17 => k_is); (case l17 => k_is); (case c17 => k_is); (case k17 => k_is); (case g_LAST_PATCH => k_is); (case g_MOST_EVENTS => k_is); (case z_len => k_is); (case z_list => k_is); (case z_int => k_is); (case z_bool => k_is); (case z_str => k_is); (case z_tuple => k_is); (case z_max => k_is); (case z_min => k_is); (case z_range => k_is); (case z_repr => k_is); (case z_isinstance => k_is); (case z_type => k_is); (case z_all => k_is); (case z_set => k_is); (case z_zip => k_is); (case z_enumerate => k_is); (case z_sorted => k_is); (case z_abs => k_is)
