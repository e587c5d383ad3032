import PyProof.Rows.All
import Wide.All
import OpenK.AllK
import Wide.FinOn
import HandS.ForMost
import HandS.IsInst
import HandS.More
import HandS.Strs
import HandS.Wide
import HandS.SortInts
import HandS.Style
import HandS.Conv
import PyProof.TypeEq
import PyProof.ReprRoads
import HandS.ForExc
import HandS.Evl
import HandS.Zip
import HandS.SetFor
import HandS.Walk
import PyProof.Rows.CountFlat
import HandS.DictComp
import PyProof.Rows.SeqMore
import HandS.Text
import HandS.WideBits
import HandS.Gcd
import HandS.Defaults
import PyProof.Rows.RegReprOcc
import PyProof.StrOps2
import HandS.NamedTupSort
import KE.LtSeq
import KE.KMathG
import PyProof.Walk
import PyProof.WalkLemmas
import PyProof.Pure
import PyProof.TableTree
import PyProof.FactsTree
import HandS.Rev
import HandS.FStr
import KE.KxField
import PyProof.FString3
import PyProof.Rows.StrIntSpec
import PyProof.StrLawsChain
import PyProof.StrLawsTight
import PyProof.Rows.StrItems
import HandS.Property
import HandS.ExcOwn
import HandS.TryMany
import HandS.WordsExc
import HandS.MakeKwOnly
import HandS.GenList
import HandS.ExcIs
import HandS.ExcValue
import HandS.HotCalls
import HandS.ExcBuiltin
import HandS.ExcField
import PySem.Challenge.RW_latepatches_k71_errors_are_distinct
set_option Elab.async false
set_option linter.all false
set_option maxRecDepth 100000
namespace Lp
open PySem PySem.Spec PyProof.Rows L2

/-! ### operators that the layer lacks -/
def CPowW (i j : Int) : Prop := 0 ≤ j ∧ (Builtin.Int.intBits i : Int) * j ≤ 2 ^ 27
section
variable {X : Cx}
theorem op_powW : OpR X (binaryOp .Pow) (rI CPowW fun i j => .int (i ^ j.toNat)) := opI fun _ _ _ _ _ _ _ hc q => pow_int hc.1 hc.2 q
end
theorem powW_ok {i : Int} {n : Nat} {j : Int} (h : i.natAbs < 2 ^ n) (hj : 0 ≤ j) (hn : (n : Int) * j ≤ 100000000) : CPowW i j := by
  refine ⟨hj, ?_⟩
  have b := PyProof.Rows.intBits_le h
  have e : (2 : Int) ^ 27 = 134217728 := by decide
  rw [e]
  have h1 : (Builtin.Int.intBits i : Int) ≤ (n : Int) := by omega
  have h2 := Int.mul_le_mul_of_nonneg_right h1 hj
  omega

/-! ### repr -/
def rRepr (K : PySem.W.Frag) : List V → Hp → VK → Prop := fun xs H Q => ∃ (a : Addr) (d : PyData), xs = [.ref a] ∧ Dp K H (.ref a) d ∧ d.showable = true ∧ d.hasDict = false ∧ d.depth ≤ 60 ∧ d.shown.length ≤ sizeLine ∧ Q (.str d.shown) H
theorem call_repr {X : Cx} (hg : X.A.guards = some []) (hu : X.A.units + 64 < cLine) : CallR X (.builtin "repr") (rRepr X.K) := by
  intro pins s σ H xs us Q I r h
  obtain ⟨a, d, rfl, hd, h1, h2, h3, h4, q⟩ := h
  obtain ⟨u, rfl, rx⟩ := vals1 r
  obtain ⟨as, hr⟩ := Dp.reads I d _ u hd rx
  cases (show u = Value.ref a from rx)
  exact PySem.repr_of_reads' hr h1 (PyData.noDict_hsm h2) hg (by omega) (fun _ _ e => e) (fun h' t tk hk => ⟨.str d.shown, H, I.kept hk, ⟨t, rfl⟩, q⟩) h4
end Lp
set_option Elab.async false
set_option linter.all false
set_option maxRecDepth 100000
namespace Lp
open PySem PySem.Spec PyProof.Rows L2

/-! ### defs that are called where no repr is under way (guards = some []) -/
structure FnG (P : Program) (w : World) (K : PySem.W.Frag) (mg : Str → Option Value) (base : Heap) (CX : CXT) (k : Nat) (f : Addr) (fd : FuncData) (ps : List Str) (sp : Sp) : Prop where
  len : ∀ vs H Q E, sp vs H Q E → vs.length = ps.length
  runG : ∀ (A : Around) (out : List Env) (s : Shared) (H : Hp) (ar : Args) (us : List Value) (vs : List V) (Q : VK) (E : XK), A.guards = some [] → Room k A → Env0 P w K mg base A out s H →
    BindsTo s fd ar (ps.zip us) → Vals vs us → sp vs H Q E → codeAny (model P w) A (.call (.ref f) ar) (CR CX out P w H s Q E) s
section
variable {P : Program} {w : World} {K : PySem.W.Frag} {mg : Str → Option Value} {base : Heap}
theorem FnG.of {CX : CXT} {k : Nat} {f : Addr} {fd : FuncData} {ps : List Str} {sp : Sp} (F : FnOk P w K mg base CX k f fd ps sp) : FnG P w K mg base CX k f fd ps sp :=
  ⟨F.len, fun A out s H ar us vs Q E _ hr => F.run A out s H ar us vs Q E hr⟩
theorem fnG_of {CX : CXT} {k : Nat} {f : Addr} {name qual : Str} {params : Arguments} {body : List Stmt} {scope : Scope} {dV kV doc pm cdv ct oc : Value} {an od : Option Addr}
    {osl : Array (Option Value)} {N ps : List Str} {sp : Sp} (lk : K.lookup f = some ⟨oc, od, .func (PySem.W.fnOf name qual params body scope dV kV doc pm an cdv ct), osl⟩) (hcd : PySem.W.codeIn K cdv qual = true) (S : FnScope N ps scope)
    (ln : ∀ vs H Q E, sp vs H Q E → vs.length = ps.length)
    (hb : ∀ (A : Around) (out : List Env) (s : Shared) (H : Hp) (vs : List V) (Q : VK) (E : XK), A.guards = some [] → Room k (A.deeper (envOfC qual scope s.heap.objs.size f cdv)) → sp vs H Q E →
      ∃ t, PSs (cxOf CX P w K mg base N qual scope f cdv A out s H E) body t ∧ t { nx := fun _ H' => Q .non H', rt := Q } (start N vs) H) :
    FnG P w K mg base CX (k + 1) f (PySem.W.fnOf name qual params body scope dV kV doc pm an cdv ct) ps sp := by
  refine ⟨ln, fun A out s H ar us vs Q E hG room en bd rv hs => ?_⟩
  have KX : K.In s.heap := en.mod.kin.keeps fun b o e => (en.bs b o e).1
  have nl : s.heap.NoLimit := en.mod.nolimit.keeps fun b o e => (en.bs b o e).1
  have kd : ∀ y ∈ ps.zip us, scope.names.lookup y.1 = some .local ∨ (scope.names.lookup y.1 = some .cell ∧ ((cellsFrom (s.heap.objs.size + 1) scope.names []).lookup y.1).isSome = true) := by
    rintro ⟨n, v⟩ hy
    have hm := (List.of_mem_zip hy).1
    exact (S.par n hm).elim (fun q => .inl q) fun q => .inr ⟨q, PySem.W.cellsFrom_some _ _ _ (.inl q)⟩
  refine codeAny_call_function room.depth (KX _ _ lk) rfl S.co S.gen rfl (PySem.W.codeRec_of KX hcd) (bd _ _ _ _ ?_)
  refine wpAny_newFunctionEnv_cells S.kind kd fun e1 he s1 x => ?_
  subst he
  refine ⟨nl.keeps x.toInCall.keep, codeAny_func ?_⟩
  obtain ⟨t, ht, hq⟩ := hb A out s H vs Q E hG (room.deeper _) hs
  have J0 : Inv (cxOf CX P w K mg base N qual scope f cdv A out s H E) [] (start N vs) H s1 := inv_start S room.hd en (ln _ _ _ _ hs) rv x
  refine wpAny_mono (ht.run [] s1 (start N vs) H _ J0 hq) (fun fl s' h3 => ?_) fun _ _ h3 => h3
  cases fl with
  | ret u => exact let ⟨v, _, H', J, r2, q⟩ := h3; ⟨v, H', J.os, J.bare, J.base, J.hok, r2, q⟩
  | next => exact let ⟨_, H', J, q⟩ := h3; ⟨.non, H', J.os, J.bare, J.base, J.hok, rfl, q⟩
  | brk => exact (let ⟨_, _, _, q⟩ := h3; q : False).elim
  | cont => exact (let ⟨_, _, _, q⟩ := h3; q : False).elim
theorem okG {x qual : Str} {st : Stmt} {f : Addr} {fd : FuncData} {N ps : List Str} {k : Nat} {sp : Sp} (F : Fun K x qual st f fd) (S : FnScope N ps (defScope st)) (ln : ∀ vs H Q E, sp vs H Q E → vs.length = ps.length)
    (hb : ∀ (cdv : Value) (A : Around) (out : List Env) (s : Shared) (H : Hp) (vs : List V) (Q : VK) (E : XK), A.guards = some [] → Room k (A.deeper (envOfC qual (defScope st) s.heap.objs.size f cdv)) → sp vs H Q E →
      ∃ t, PSs (cxOf CX0 P w K mg base N qual (defScope st) f cdv A out s H E).nox (defBody st) t ∧ t { nx := fun _ H' => Q .non H', rt := Q } (start N vs) H) : FnG P w K mg base CX0 (k + 1) f fd ps sp := by
  obtain ⟨oc, od, kV, doc, pm, an, cdv, ct, osl, rfl, lk, hcd⟩ := F.ex
  refine fnG_of lk hcd S ln fun A out s H vs Q E hG room h => ?_
  obtain ⟨t, ht, q⟩ := hb cdv A out s H vs Q E hG room h
  exact ⟨t, ht.nox, q⟩
end
section
variable {X : Cx} {CX : CXT} {k : Nat} {f : Addr} {fd : FuncData} {ps : List Str} {sp : Sp} {dvs : List V} {ds : List Value} {E : XK} {x : Str} {p pos : Pos} {e : Expr} {es : List Expr} {t : TA}
theorem pe_callG (F : FnG X.prog X.w X.K X.mg X.base CX k f fd ps sp) (hG : X.A.guards = some []) (hr : Room k X.A) (hg : Gl X x) (hm : X.mg x = some (.ref f)) (hk : PySem.W.keepIn X.K (.ref f) = true) (hb : Binds X.K fd ps ds) (hd : Vals dvs ds) (hx : Passes CX X E)
    (ha : PA X (e :: es) t) (hdb : (x == ("__debug__" : Str)) = false := by decide) (he : starEach (e :: es) X.env = (false, eval e X.env) :: starEach es X.env := by rfl) (hpl : (backTo pos (starEach es X.env)).any (·.1) = false := by rfl) :
    PE X (.Call (.Name x p) (e :: es) [] pos) (tCall sp dvs E t) := by
  refine ⟨fun pins s σ H Q I h => wpAny_Call_Name_kw (ld_glob I hg hm ?_ hdb)⟩
  refine PySem.W.callWith_K (h₀ := X.base) I.ok.mod.kin hk (thn (ha.run pos pins s σ H _ I h) fun us s1 ⟨vs, H1, I1, r, q⟩ => ⟨I1.kIn, ?_⟩) he hpl
  have rr : Vals (vs ++ dvs) (us ++ ds) := r.append hd
  have hl : (us ++ ds).length = ps.length := rr.length.symm.trans (F.len _ _ _ _ q)
  refine wpAny_call (codeAny_mono (F.runG X.A X.stack s1 H1 ⟨us, []⟩ (us ++ ds) (vs ++ dvs) Q E hG hr I1.env0 (hb s1 us I1.kIn hl) rr q) fun r s' hq => ?_)
  cases r with
  | error e => exact hx pins σ H1 s1 e s' I1 hq
  | ok fl =>
    cases fl with
    | ret u => exact I1.after hq
    | next => exact False.elim hq
    | brk => exact False.elim hq
    | cont => exact False.elim hq
end

/-! ### the end of a law's row, for such a law -/
theorem law_callG {P : Program} {w : World} {K : PySem.W.Frag} {mg mb : Str → Option Value} {CX : CXT} {k : Nat} {fa a : Addr} {fd : FuncData} {x : Str} {sp : Sp} {s₁ : Shared} {vs : List Value} {ns : List Int}
    (KX : K.In s₁.heap) (hns : s₁.heap.Ns mainGlobals mg) (hb : s₁.heap.Ns builtinsNs mb) (hbb : ∀ x : Str, x ≠ "__name__" → mb x = bootBuiltins x) (hlim : s₁.heap.NoLimit) (hg : s₁.gens = #[])
    (ha : s₁.heap.get? a = some { cls := .type "list", data := .seq vs.toArray }) (hi : IntsAre vs ns) (hl : ns.length ≤ sizeLine) (hr : Room k callerA)
    (F : ∀ base : Heap, K.In base → base.Ns mainGlobals mg → FnG P w K mg base CX k fa fd [x] sp) (hbind : ∀ (s : Shared) (u : Value), BindsTo s fd ⟨[u], []⟩ [(x, u)])
    (hsp : ∀ H : Hp, Only H → SqL K H a (ns.map V.int) → sp [.ref a] H (fun v _ => v = .bl true) fun _ _ _ => False)
    (hCX : ∀ H e s', CX [] H s₁ (fun _ _ _ => False) e s' → False) :
    codeAny (model P w) callerA (.call (.ref fa) ⟨[.ref a], []⟩) (fun r s' => r = .ok (.ret (.bool true)) ∧ OldK s₁.heap s'.heap ∧ s'.os = s₁.os ∧ AllBare s'.gens) s₁ := by
  have rv := vals_ints hi
  have szV := hi.length
  have main : ∀ H : Hp, Only H → SqL K H a (ns.map V.int) → HOk P w H s₁.heap → (∀ b, H b ≠ none → b = a) → (H a ≠ none → K.lookup a = none) →
      codeAny (model P w) callerA (.call (.ref fa) ⟨[.ref a], []⟩) (fun r s' => r = .ok (.ret (.bool true)) ∧ OldK s₁.heap s'.heap ∧ s'.os = s₁.os ∧ AllBare s'.gens) s₁ := by
    intro H hO hS ok hA hK
    have free : ∀ {b : Addr}, b ≠ a → H b = none := fun {b} hb => by
      cases q : H b with
      | none => rfl
      | some u => exact absurd (hA b (by rw [q]; simp)) hb
    have nsK : ∀ {b : Addr} {m : Str → Option Value}, s₁.heap.Ns b m → (hidT s₁.heap H).Ns b m := by
      rintro b m ⟨o, es, ep, e, d, r⟩
      refine ⟨o, es, ep, hidT_get e (free fun z => ?_), d, r⟩
      subst z
      rw [ha] at e
      cases e
      exact nomatch (show Data.seq vs.toArray _ = Data.dict es ep from d)
    have hKb : K.In (hidT s₁.heap H) := by
      intro b o e
      refine hidT_get (KX b o e) ?_
      cases q : H b with
      | none => rfl
      | some u =>
        have z := hA b (by rw [q]; simp)
        subst z
        rw [hK (by rw [q]; simp)] at e
        cases e
    have hM : Mod K mg (hidT s₁.heap H) := ⟨hKb, nsK hns, ⟨mb, nsK hb, hbb⟩, let ⟨mc, h1, h2⟩ := hlim; ⟨mc, nsK h1, h2⟩⟩
    have e0 : Env0 P w K mg (hidT s₁.heap H) callerA [] s₁ H := ⟨rfl, hM, fun b o e => of_hidT e, Nat.le_of_eq (hidT_size _ _), trivial, fun b hb => absurd (show b ∈ ([] : List Addr) from hb) (by simp), ok, .of_eq hg⟩
    refine codeAny_mono ((F _ hKb (nsK hns)).runG callerA [] s₁ H ⟨[.ref a], []⟩ [.ref a] [.ref a] _ _ rfl hr e0 (hbind s₁ (.ref a)) (.cons rfl .nil) (hsp H hO hS)) fun r s' h => ?_
    cases r with
    | error e => exact (hCX H e s' h).elim
    | ok fl =>
      cases fl with
      | next => exact False.elim h
      | brk => exact False.elim h
      | cont => exact False.elim h
      | ret u =>
        obtain ⟨v, H', os, bare, un, hok', r', q⟩ := h
        cases (show v = .bl true from q)
        cases (show u = Value.bool true from r')
        refine ⟨rfl, OldK.of_keep fun b o e => ?_, os, bare⟩
        rcases hO b with z | ⟨ob, xs, z⟩
        · exact un.keep b o e z (fun z => absurd (show b ∈ ([] : List Addr) from z) (by simp)) (by simp)
        · obtain ⟨e1, _⟩ := ok b _ z
          obtain ⟨e2, _⟩ := hok' b _ (un.frzs b ob _ z)
          rw [e] at e1; cases e1
          exact e2
  cases hk : K.lookup a with
  | some o =>
    have e := KX a o hk
    rw [ha] at e
    cases e
    exact main (fun _ => none) (fun _ => .inl rfl) (.inr ⟨_, vs.toArray, _, hk, rfl, rfl, rfl, by rw [List.size_toArray, szV]; exact hl, by simpa using rv⟩) (fun b u z => nomatch z) (fun b z => absurd rfl z) fun z => absurd rfl z
  | none =>
    refine main (fun b => if b = a then some (.frz { cls := .type "list", data := .seq vs.toArray } (.lst (ns.map V.int))) else none) (fun b => ?_) (.inl (.inr ⟨{ cls := .type "list", data := .seq vs.toArray }, if_pos rfl⟩)) (fun b u z => ?_) (fun b z => ?_) fun _ => hk
    · by_cases h : b = a
      · exact .inr ⟨_, _, if_pos h⟩
      · exact .inl (if_neg h)
    · by_cases h : b = a
      · cases (if_pos h).symm.trans z
        subst h
        exact ⟨ha, by rw [List.length_map]; exact hl, vs, _, rv, ha⟩
      · cases (if_neg h).symm.trans z
    · by_cases h : b = a
      · exact h
      · exact absurd (if_neg h) z
theorem walk_ofG {l : PySem.W.OpenLaw} {n k : Nat} {q : Program} {loose : List Str} {XP : (Str → Option Value) → Heap → Prop} {YP : World → Heap → Prop} {d : DefRec} {K : Params → PySem.W.Frag} {CX : World → CXT} {sp : World → Sp} {x : Str}
    (hn : l.most = some n) (hn2 : n ≤ sizeLine) (hdf : d.params.defaults = []) (hr : Room k callerA)
    (hY : ∀ (w : World) (h : Heap), YP w h → (K w.params).In h)
    (F : ∀ (w : World) (mg : Str → Option Value) (fa : Addr) (h : Heap), (K w.params).In h → h.Ns mainGlobals mg → mg d.name = some (.ref fa) →
      ∃ fd : FuncData, (∀ (s : Shared) (u : Value), BindsTo s fd ⟨[u], []⟩ [(x, u)]) ∧
        ∀ base : Heap, (K w.params).In base → base.Ns mainGlobals mg → FnG l.prog w (K w.params) mg base (CX w) k fa fd [x] (sp w))
    (hsp : ∀ (w : World) (H : Hp) (a : Addr) (ns : List Int), ns.length ≤ n → Only H → SqL (K w.params) H a (ns.map V.int) → sp w [.ref a] H (fun v _ => v = .bl true) fun _ _ _ => False)
    (hCX : ∀ (w : World) (H : Hp) (s : Shared) (e : Value) (s' : Shared), CX w [] H s (fun _ _ _ => False) e s' → False) :
    PySem.W.WalkO q loose XP YP l.row.toRowW d [] (fun f vs => PySem.call f vs) := by
  refine Att.attach_call hn hdf fun w _ s₁ mg _ fa _ _ _ _ a vs ns G Y _ _ _ hmg hobj hints hlen hg => ?_
  obtain ⟨fd, hb, hF⟩ := F w mg fa _ (hY w _ Y) G.T.g hmg
  exact law_callG (hY w _ Y) G.T.g G.T.b G.T.builtins G.T.nolimit hg hobj hints (Nat.le_trans hlen hn2) hr hF hb (fun H hO hS => hsp w H a ns hlen hO hS) fun H e s' => hCX w H s₁ e s'
end Lp
set_option Elab.async false
set_option linter.all false
set_option maxRecDepth 100000
namespace Lp
open PySem PySem.Spec PyProof.Rows L2

/-- the names of the built-ins that the text leaves alone -/
structure NoB (mg : Str → Option Value) : Prop where
  len : mg "len" = none
  list : mg "list" = none
  int : mg "int" = none
  bool : mg "bool" = none
  str : mg "str" = none
  tuple : mg "tuple" = none
  max : mg "max" = none
  min : mg "min" = none
  range : mg "range" = none
  repr : mg "repr" = none
  isinstance : mg "isinstance" = none
  type : mg "type" = none
  all : mg "all" = none
  set : mg "set" = none
  zip : mg "zip" = none
  enumerate : mg "enumerate" = none
  sorted : mg "sorted" = none
  abs : mg "abs" = none

/-- a def that may be called by its name -/
structure Gc (P : Program) (w : World) (K : PySem.W.Frag) (mg : Str → Option Value) (base : Heap) (k : Nat) (x : Str) (sp : Sp) : Prop where
  ex : ∃ (f : Addr) (fd : FuncData) (ps : List Str), FnG P w K mg base CX0 k f fd ps sp ∧ mg x = some (.ref f) ∧ PySem.W.keepIn K (.ref f) = true ∧ Binds K fd ps []
theorem FnG.mono {P : Program} {w : World} {K : PySem.W.Frag} {mg : Str → Option Value} {base : Heap} {CX : CXT} {j k : Nat} {f : Addr} {fd : FuncData} {ps : List Str} {sp : Sp} (F : FnG P w K mg base CX j f fd ps sp) (h : j ≤ k) : FnG P w K mg base CX k f fd ps sp :=
  ⟨F.len, fun A out s H ar us vs Q E hG hr => F.runG A out s H ar us vs Q E hG (hr.mono h)⟩
section
variable {X : Cx} {k j : Nat} {x : Str} {sp : Sp} {p pos : Pos} {e : Expr} {es : List Expr} {t : TA}
theorem pe_g (c : Gc X.prog X.w X.K X.mg X.base k x sp) (hG : X.A.guards = some []) (hr : Room j X.A) (hk : k ≤ j) (hg : Gl X x) (ha : PA X (e :: es) t)
    (hdb : (x == ("__debug__" : Str)) = false := by decide) (he : starEach (e :: es) X.env = (false, eval e X.env) :: starEach es X.env := by rfl) (hpl : (backTo pos (starEach es X.env)).any (·.1) = false := by rfl) :
    PE X (.Call (.Name x p) (e :: es) [] pos) (tCall sp [] E0 t) := by
  obtain ⟨f, fd, ps, F, hm, kp, b⟩ := c.ex
  exact pe_callG F hG (hr.mono hk) hg hm kp b .nil pass0 ha hdb he hpl
end

/-! ### == and != of types -/
def rEqTy : R2 := fun x y H Q => ∃ a b, x = .ty a ∧ y = .ty b ∧ (∀ s' : Shared, s'.TypeIs (.type a) "type") ∧ (∀ s' : Shared, s'.TypeIs (.type b) "type") ∧ Q (.bl (decide (a = b))) H
def rNeTy : R2 := fun x y H Q => ∃ a b, x = .ty a ∧ y = .ty b ∧ (∀ s' : Shared, s'.TypeIs (.type a) "type") ∧ (∀ s' : Shared, s'.TypeIs (.type b) "type") ∧ Q (.bl (!decide (a = b))) H
section
variable {X : Cx}
theorem op_eqTy : OpR X (compareOp .Eq) rEqTy := by
  intro pins s σ H x y v u Q I rx ry h
  obtain ⟨a, b, rfl, rfl, ha, hb, q⟩ := h
  cases (show v = Value.type a from rx)
  cases (show u = Value.type b from ry)
  by_cases e : a = b
  · subst e
    exact PySem.TypeEq.eq_type_same ha ⟨.bl true, H, I, rfl, by simpa using q⟩
  · exact PySem.TypeEq.eq_type_other ha hb (by rw [ty_beq]; exact decide_eq_false e) ⟨.bl false, H, I, rfl, by simpa [e] using q⟩
end

open PySem.TypeEq
theorem slot_type_ne : Slot "type" (cmpInfo .NotEq).2.1 "object.__ne__" :=
  .of (owner := "object") (n := "__ne__") (by rw [typeLookup_type, builtinLookup_eq_fast]; kernel_rfl) (by decide +kernel) (by decide +kernel) (by decide +kernel)
    (by first | exact .inl (by decide +kernel) | exact .inr (by decide +kernel)) (by rw [isSubtype_type]; kernel_rfl)
section
variable {prog : Program} {w : World} {A : Around} {E : Value → Shared → Prop} {s : Shared} {Q : Value → Shared → Prop}
theorem ne_type_same {X : String} (hX : ∀ s' : Shared, s'.TypeIs (.type X) "type") (h : Q (.bool false) s) : wpAny (model prog w) A (compareOp .NotEq (.type X) (.type X)) Q E s := by
  show wpAny _ A (richCompare .NotEq _ _) Q E s
  refine PySem.wpAny_richCompare_same (T := "type") (hX s) (hX s) slot_type_ne (wpAny_call_entry slot_type_ne (hX s) F.entry_object_ne ?_ (F.args_object_ne_2 _ _))
  unfold Builtin.«object.__ne__»
  refine wpAny_bind (m := slotArgs "__ne__" 1 _) (wpAny_of_eq (a := ((Value.type X : Value), [Value.type X])) (by first | rfl | (simp only [slotArgs]; rfl)) ?_)
  refine wpAny_bind (wpAny_cRoomFor_or (.inl rfl) ?_)
  refine wpAny_bind (m := callSpecialIfBound? (.type X) (Str.ofString "__eq__") [.type X]) (wpAny_callSpecialIfBound?_slot (hX s) slot_type_eq
    (call_gives slot_type_eq (hX s) F.entry_object_eq (F.args_object_eq_2 _ _) (object_eq_same rfl (by simp)) ?_))
  show wpAny (model prog w) A.in1 (truthy (.bool true) >>= fun b => ret (Value.bool !b)) _ E s
  exact wpAny_bind (wpAny_of_eq (a := true) (by first | rfl | simp [truthy]) (wpAny_pure ⟨_, rfl, (by intro e; cases e), h⟩))
end

/-- a != b of the same built-in type -/
def rNeTyS : R2 := fun x y H Q => ∃ a, x = .ty a ∧ y = .ty a ∧ (∀ s' : Shared, s'.TypeIs (.type a) "type") ∧ Q (.bl false) H
theorem op_neTy {X : Cx} : OpR X (compareOp .NotEq) rNeTyS := by
  intro pins s σ H x y v u Q I rx ry h
  obtain ⟨a, rfl, rfl, ha, q⟩ := h
  cases (show v = Value.type a from rx)
  cases (show u = Value.type a from ry)
  exact ne_type_same ha ⟨.bl false, H, I, rfl, q⟩
/-! ### heaps -/
theorem same_new {H : Hp} {p : Addr} {o : HO} (h : H p = none) : Same H (upd H p o) := fun b x e => by
  rw [upd_ne (ne_of_none e h)]
  exact e
/-- all but what stands at a is as it was -/
def But (a : Addr) (H H' : Hp) : Prop := ∀ b, b ≠ a → ∀ o, H b = some o → H' b = some o
end Lp
set_option Elab.async false
set_option linter.all false
set_option maxRecDepth 100000
namespace Lp
open PySem PySem.Spec PyProof.Rows L2

/-! ### comprehensions that only add -/
def LcP (H1 : Hp) (D : Addr) (acc : Nat → List V) (i : Nat) (H : Hp) : Prop := H1 D = none ∧ Same H1 H ∧ H D = some (.lst (acc i))
section
variable {H1 H H4 : Hp} {D : Addr} {acc : Nat → List V} {i : Nat} {y : V}
theorem LcP.init (h : H1 D = none) (e : acc 0 = []) : LcP H1 D acc 0 (upd H1 D (.lst [])) := ⟨h, same_new h, by rw [upd_same, e]⟩
theorem LcP.put (p : LcP H1 D acc i H) (s : Same H H4) (e : acc (i + 1) = acc i ++ [y]) (hz : (acc i).length < 100000) :
    ∃ l, H4 D = some (.lst l) ∧ l.length < sizeLine ∧ LcP H1 D acc (i + 1) (upd H4 D (.lst (l ++ [y]))) := by
  obtain ⟨p1, p2, p3⟩ := p
  refine ⟨acc i, s _ _ p3, Nat.lt_of_lt_of_le hz (by decide), p1, fun b o h => ?_, by rw [upd_same, e]⟩
  rw [upd_ne (ne_of_none h p1)]
  exact s _ _ (p2 _ _ h)
theorem LcP.skip (p : LcP H1 D acc i H) (s : Same H H4) (e : acc (i + 1) = acc i) : LcP H1 D acc (i + 1) H4 := ⟨p.1, p.2.1.trans s, by rw [e]; exact s _ _ p.2.2⟩
end
theorem get_int {ns : List Int} {i : Nat} {x : V} (h : (ns.map V.int)[i]? = some x) : ∃ n, x = .int n ∧ ns[i]? = some n := by
  rw [List.getElem?_map] at h
  cases e : ns[i]? with
  | none => rw [e] at h; cases h
  | some n => rw [e] at h; cases h; exact ⟨n, rfl, rfl⟩
theorem mem_get {α : Type} {l : List α} {i : Nat} {x : α} (h : l[i]? = some x) : x ∈ l := List.mem_of_getElem? h
theorem lt_get {α : Type} {l : List α} {i : Nat} {x : α} (h : l[i]? = some x) : i < l.length := (List.getElem?_eq_some_iff.mp h).1
theorem take_get {α : Type} {l : List α} {i : Nat} {x : α} (h : l[i]? = some x) : l.take (i + 1) = l.take i ++ [x] := by
  rw [List.take_add_one, h]
  rfl
theorem zs {n : Nat} (h : n ≤ 100000) : n ≤ sizeLine := Nat.le_trans h (by decide)
theorem zl {n : Nat} (h : n < 100000) : n < sizeLine := Nat.lt_of_lt_of_le h (by decide)
theorem at0 {x : V} {r : List V} : atI (x :: r) 0 = some x := atI_nat (j := 0) rfl
theorem at1 {x y : V} {r : List V} : atI (x :: y :: r) 1 = some y := atI_nat (j := 1) rfl
theorem at2 {x y z : V} {r : List V} : atI (x :: y :: z :: r) 2 = some z := atI_nat (j := 2) rfl
theorem at_last {xs : List V} {y : V} : atI (xs ++ [y]) (-1) = some y := atI_last _ _
theorem dT {p : Prop} [Decidable p] (h : p) : V.bl (decide p) = V.bl true := congrArg V.bl (decide_eq_true h)
theorem dF {p : Prop} [Decidable p] (h : ¬ p) : V.bl (decide p) = V.bl false := congrArg V.bl (decide_eq_false h)
theorem nT {p : Prop} [Decidable p] (h : ¬ p) : V.bl (!decide p) = V.bl true := by rw [decide_eq_false h]; rfl
theorem nF {p : Prop} [Decidable p] (h : p) : V.bl (!decide p) = V.bl false := by rw [decide_eq_true h]; rfl
theorem vne {i j : Int} (h : i ≠ j) : ¬ V.int i = V.int j := fun e => h (V.int.inj e)

/-! ### a word behind a test, a value -/
def tMid (t : TT) : TT := fun σ H Q => ∃ M : Bool → Hp → Prop, t σ H M ∧ ∀ b H', M b H' → Q b H'
theorem pt_mid {X : Cx} {e : Expr} {t : TT} (h : PT X e t) : PT X e (tMid t) := ⟨fun pins s σ H _ I ⟨M, hm, hq⟩ => thn (h.run pins s σ H M I hm) fun b _ ⟨H', I', m⟩ => ⟨H', I', hq b H' m⟩⟩
def tMidE (t : TE) : TE := fun σ H Q => ∃ M : VK, t σ H M ∧ ∀ v H', M v H' → Q v H'
theorem pe_mid {X : Cx} {e : Expr} {t : TE} (h : PE X e t) : PE X e (tMidE t) := ⟨fun pins s σ H _ I ⟨M, hm, hq⟩ => thn (h.run pins s σ H M I hm) fun _ _ ⟨v, H', I', r, m⟩ => ⟨v, H', I', r, hq v H' m⟩⟩
/-! ### all but what stands at a is as it was -/
def Bt (a : Addr) (H H' : Hp) : Prop := ∀ b o, b ≠ a → H b = some o → H' b = some o
section
variable {a b p : Addr} {H H1 H2 H' : Hp} {o : HO}
theorem Bt.refl (a : Addr) (H : Hp) : Bt a H H := fun _ _ _ e => e
theorem Bt.trans (x : Bt a H H1) (y : Bt a H1 H2) : Bt a H H2 := fun b o n e => y b o n (x b o n e)
theorem Bt.of (x : Same H H') : Bt a H H' := fun b o _ e => x b o e
theorem Bt.at_ (a : Addr) (H : Hp) (o : HO) : Bt a H (upd H a o) := fun b u n e => by rw [upd_ne n]; exact e
theorem Bt.new (h : H p = none) : Bt a H (upd H p o) := .of (same_new h)
theorem Bt.mut (x : Bt a H H') (h : H p = none) : Bt a H (upd H' p o) := fun b u n e => by rw [upd_ne (ne_of_none e h)]; exact x b u n e
theorem Bt.add (x : Bt a H H') (h : H' p = none) : Bt a H (upd H' p o) := x.trans (.new h)
theorem Same.mut (x : Same H H') (h : H p = none) : Same H (upd H' p o) := fun b u e => by rw [upd_ne (ne_of_none e h)]; exact x b u e
theorem Same.add (x : Same H H') (h : H' p = none) : Same H (upd H' p o) := x.trans (same_new h)
theorem Bt.seq {K : PySem.W.Frag} {xs : List V} (x : Bt a H H') (n : b ≠ a) (h : SqL K H b xs) : SqL K H' b xs := by
  rcases h with (h | ⟨o, h⟩) | h
  · exact .inl (.inl (x _ _ n h))
  · exact .inl (.inr ⟨o, x _ _ n h⟩)
  · exact .inr h
end

/-! ### rules that name the written part outright: for the inside of comprehensions -/
section
variable {X : Cx} {K : PySem.W.Frag} {o e : Expr} {es : List Expr} {to : TE} {t : TA} {name : Str} {apos cpos : Pos} {T id : String} {r : V → List V → Hp → VK → Prop}
theorem k_bm (hK : X.K = K) (pa : PlainAttrs T) (slot : Slot T name id) (hty : typeOf (.builtin id) = pure (.type "method_descriptor")) (hm : MtR X id r) (ho : PE X o to) (ha : PA X (e :: es) t)
    (hbase : attributeBase o name X.env (eval o X.env) = eval o X.env := by rfl)
    (hfew : ((backTo cpos (starEach (e :: es) X.env)).all (fun x => !x.1) && (backToKw cpos (keywordEach [] X.env)).all (fun x => x.1.isSome)
      && decide ((e :: es).length + ([] : List Keyword).length + (if ([] : List Keyword).isEmpty then 0 else 1) < 30)) = true := by rfl)
    (hline : (apos.endLine == cpos.line) = true := by rfl) (hs : starEach (e :: es) X.env = (false, eval e X.env) :: starEach es X.env := by rfl) (hplain : (backTo cpos (starEach es X.env)).any (·.1) = false := by rfl) :
    PE X (.Call (.Attribute o name apos) (e :: es) [] cpos) (tBM K T r to t) := by
  subst hK
  exact pe_bm pa slot hty hm ho ha hbase hfew hline hs hplain
def rLenK (K : PySem.W.Frag) : List V → Hp → VK → Prop := fun xs H Q => ∃ p ys, xs = [.ref p] ∧ (SqL K H p ys ∨ SqT K H p ys) ∧ Q (.int ys.length) H
theorem k_len (hK : X.K = K) : CallR X (.builtin "len") (rLenK K) := by
  subst hK
  exact call_len_seq
theorem k_ix (hK : X.K = K) : IxR X (rIxL K) := by
  subst hK
  exact ix_list
theorem k_ixT (hK : X.K = K) : IxR X (rIxT K) := by
  subst hK
  exact ix_tup
theorem k_in (hK : X.K = K) : OpR X (compareOp .In) (rIn K false) := by
  subst hK
  exact op_in_seq
theorem k_notin (hK : X.K = K) : OpR X (compareOp .NotIn) (rIn K true) := by
  subst hK
  exact op_notIn_seq
theorem k_isi (hK : X.K = K) : CallR X (.builtin "isinstance") (rIsi K) := by
  subst hK
  exact call_isi
end
end Lp
set_option Elab.async false
set_option linter.all false
set_option maxRecDepth 100000
namespace Lp
open PySem PySem.Spec PyProof.Rows L2
/-! ### lists of ints as data -/
abbrev dI (ns : List Int) : PyData := .list (ns.map PyData.int)
theorem lay_ints : ∀ ns : List Int, PyData.canLayAll0 (ns.map PyData.int) = true
  | [] => rfl
  | _ :: r => by
    show (PyData.canLay0 (.int _) && PyData.canLayAll0 (r.map PyData.int)) = true
    rw [lay_ints r]
    rfl
theorem depth_ints : ∀ ns : List Int, PyData.depthAll (ns.map PyData.int) = 0
  | [] => rfl
  | _ :: r => by
    show max (PyData.depth (.int _)) (PyData.depthAll (r.map PyData.int)) = 0
    rw [depth_ints r]
    rfl
theorem shaped_ints (ns : List Int) : SeqAt.shaped (dI ns) = true := by
  show (PyData.canLayAll0 (ns.map PyData.int) && decide (PyData.depthAll (ns.map PyData.int) + 1 ≤ 64)) = true
  rw [lay_ints, depth_ints]
  rfl
theorem noDict_ints : ∀ ns : List Int, PyData.hasDictAll (ns.map PyData.int) = false
  | [] => rfl
  | _ :: r => by
    show (PyData.hasDict (.int _) || PyData.hasDictAll (r.map PyData.int)) = false
    rw [noDict_ints r]
    rfl
theorem show_ints : ∀ ns : List Int, (∀ n ∈ ns, n.natAbs.log2 < 1920) → PyData.showableAll (ns.map PyData.int) = true
  | [], _ => rfl
  | n :: r, h => by
    show (decide (n.natAbs.log2 < 1920) && PyData.showableAll (r.map PyData.int)) = true
    rw [show_ints r (fun m hm => h m (List.mem_cons_of_mem _ hm)), decide_eq_true (h n List.mem_cons_self)]
    rfl
theorem dpAll_ints {K : PySem.W.Frag} {H : Hp} : ∀ ns : List Int, DpAll K H (ns.map V.int) (ns.map PyData.int)
  | [] => .nil
  | n :: r => .cons (.int n) (dpAll_ints r)
theorem dp_ints {K : PySem.W.Frag} {H : Hp} {a : Addr} {ns : List Int} (h : SqL K H a (ns.map V.int)) : Dp K H (.ref a) (dI ns) := .lst h (dpAll_ints ns)
theorem eqvAll_ints : ∀ xs ys : List Int, PyData.eqvAll (xs.map PyData.int) (ys.map PyData.int) = decide (xs = ys)
  | [], [] => rfl
  | [], _ :: _ => rfl
  | _ :: _, [] => rfl
  | x :: r, y :: s => by
    show (PyData.eqv (.int x) (.int y) && PyData.eqvAll (r.map PyData.int) (s.map PyData.int)) = decide (x :: r = y :: s)
    rw [eqvAll_ints r s]
    show ((x == y) && decide (r = s)) = decide (x :: r = y :: s)
    by_cases e : x = y <;> by_cases e' : r = s <;> simp [e, e']
theorem eqv_ints (xs ys : List Int) : PyData.eqv (dI xs) (dI ys) = decide (xs = ys) := by
  show PyData.eqvAll (xs.map PyData.int) (ys.map PyData.int) = _
  exact eqvAll_ints xs ys
/-- [] == [], by the reading of == -/
theorem textFrom_le : ∀ (ts : List Str) (k : Nat) (acc : Str) (m : Nat), (∀ t ∈ ts, t.length ≤ m) → (textFrom k acc ts).length ≤ acc.length + ts.length * (m + 2)
  | [], k, acc, m, _ => by
    show acc.length ≤ _
    simp
  | t :: r, k, acc, m, h => by
    have ih := fun k' acc' => textFrom_le r k' acc' m (fun x hx => h x (List.mem_cons_of_mem _ hx))
    have ht := h t List.mem_cons_self
    have z := ih (k + 1) (acc ++ (if k > 0 then ", " else "" : String) ++ t)
    have e : (acc ++ (if k > 0 then ", " else "" : String) ++ t).length ≤ acc.length + 2 + t.length := by
      rw [Str.length_append, Str.length_append]
      by_cases hk : k > 0
      · rw [if_pos hk]
        exact Nat.le_refl _
      · rw [if_neg hk]
        show acc.length + 0 + t.length ≤ _
        omega
    show (textFrom (k + 1) (acc ++ (if k > 0 then ", " else "" : String) ++ t) r).length ≤ acc.length + (r.length + 1) * (m + 2)
    rw [Nat.succ_mul]
    omega
theorem num_len : ∀ n : Int, -100 ≤ n → n ≤ 100 → (Str.ofString (toString n)).length ≤ 4 := by
  intro n h0 h1
  have key : ∀ i : Fin 201, (Str.ofString (toString ((i.val : Int) - 100))).length ≤ 4 := by decide +kernel
  have e := key ⟨(n + 100).toNat, by omega⟩
  have e2 : (((n + 100).toNat : Nat) : Int) - 100 = n := by omega
  rw [e2] at e
  exact e
theorem shownAll_mem : ∀ (ns : List Int) (t : Str), t ∈ PyData.shownAll (ns.map PyData.int) → ∃ n ∈ ns, t = Str.ofString (toString n)
  | [], t, h => by
    have h' : t ∈ ([] : List Str) := h
    cases h'
  | n :: r, t, h => by
    have h' : t ∈ Str.ofString (toString n) :: PyData.shownAll (r.map PyData.int) := h
    rcases List.mem_cons.mp h' with e | e
    · exact ⟨n, List.mem_cons_self, e⟩
    · obtain ⟨m, hm, e⟩ := shownAll_mem r t e
      exact ⟨m, List.mem_cons_of_mem _ hm, e⟩
theorem shownAll_len : ∀ ns : List Int, (PyData.shownAll (ns.map PyData.int)).length = ns.length
  | [] => rfl
  | n :: r => congrArg (· + 1) (shownAll_len r)
theorem shown_ints {ns : List Int} (hb : ∀ n ∈ ns, -100 ≤ n ∧ n ≤ 100) (hl : ns.length ≤ 1000) : (dI ns).shown.length ≤ sizeLine := by
  show (textFrom 0 "[" (PyData.shownAll (ns.map PyData.int)) ++ ("]" : Str)).length ≤ sizeLine
  rw [Str.length_append]
  have z := textFrom_le (PyData.shownAll (ns.map PyData.int)) 0 "[" 4 (fun t ht => by
    obtain ⟨n, hn, e⟩ := shownAll_mem ns t ht
    rw [e]
    exact num_len n (hb n hn).1 (hb n hn).2)
  rw [shownAll_len] at z
  have e1 : ("[" : Str).length = 1 := rfl
  have e2 : ("]" : Str).length = 1 := rfl
  rw [e1] at z
  rw [e2]
  exact zs (by omega)
theorem log2_small {n : Int} (h0 : -100 ≤ n) (h1 : n ≤ 100) : n.natAbs.log2 < 1920 := by
  have h : n.natAbs < 2 ^ 7 := by omega
  exact Nat.lt_trans (PySem.Flt.log2_lt_of (by decide : 0 < 7) h) (by decide)
theorem rrepr_ints {K : PySem.W.Frag} {H : Hp} {a : Addr} {ns : List Int} {Q : VK} (hS : SqL K H a (ns.map V.int)) (hb : ∀ n ∈ ns, -100 ≤ n ∧ n ≤ 100) (hl : ns.length ≤ 1000) (q : Q (.str (dI ns).shown) H) : rRepr K [.ref a] H Q :=
  ⟨a, dI ns, rfl, dp_ints hS, show_ints ns (fun n hn => log2_small (hb n hn).1 (hb n hn).2), noDict_ints ns, by
    show PyData.depthAll (ns.map PyData.int) + 1 ≤ 60
    rw [depth_ints]
    decide, shown_ints hb hl, q⟩

/-! ### places -/
theorem erase_map {α β : Type} (f : α → β) : ∀ (l : List α) (j : Nat), (l.map f).eraseIdx j = (l.eraseIdx j).map f
  | [], _ => by simp
  | x :: r, 0 => rfl
  | x :: r, j + 1 => congrArg (f x :: ·) (erase_map f r j)
theorem get_at {al : List Int} {j : Nat} (h : j < al.length) : (al.map V.int)[j]? = some (.int al[j]) := by
  rw [List.getElem?_map, List.getElem?_eq_getElem h]
  rfl
theorem ix_at {j n : Nat} (h : j < n) : seqIndex? (j : Int) n = some j := (ixN_seq (Evl.ixN_nat h)).1
theorem nat_of {r : Int} (h : 0 ≤ r) : ∃ j : Nat, r = (j : Int) := ⟨r.toNat, by omega⟩
theorem nm {k : Nat} (h : k ≤ 100000) : -(2 ^ 63) ≤ (k : Int) ∧ (k : Int) < 2 ^ 63 := by omega
theorem free_of {a p : Addr} {H H' : Hp} (b : Bt a H H') (n : p ≠ a) (h : H' p = none) : H p = none := by
  cases e : H p with
  | none => rfl
  | some o =>
    rw [b _ _ n e] at h
    cases h
theorem erase_perm : ∀ (l : List Int) (j : Nat) (h : j < l.length), (l[j] :: l.eraseIdx j).Perm l
  | x :: r, 0, _ => .refl _
  | x :: r, j + 1, h => by
    have h' : j < r.length := Nat.lt_of_succ_lt_succ h
    exact (List.Perm.swap x (r[j]'h') (r.eraseIdx j)).trans ((erase_perm r j h').cons x)
end Lp
set_option Elab.async false
set_option linter.all false
set_option maxRecDepth 100000
namespace Lp
open PySem PySem.Spec PyProof.Rows L2
theorem lc_enum {K : PySem.W.Frag} {a : Addr} {xs : List V} {g : TG} {tt : TT} {te : TE} {vs : List Nat} {σ : L2.St} {H1 : Hp} {D : Addr} {Qd : Hp → Prop} (Pv : Nat → Hp → Prop) (h0 : Pv 0 (upd H1 D (.lst []))) (hl : ∀ i H, i ≤ xs.length → Pv i H → SqL K H a xs)
    (hs : ∀ (i : Nat) (x : V) (T : Addr) (H : Hp), xs[i]? = some x → H T = none → Pv i H → g (.ref T) (wipe σ vs) (upd H T (.tup [.int (i : Nat), x])) fun σ2 H2 => wipe σ2 vs = wipe σ vs ∧ tt σ2 H2 fun b H3 =>
      if b = true then te σ2 H3 fun y H4 => ∃ acc, H4 D = some (.lst acc) ∧ acc.length < sizeLine ∧ Pv (i + 1) (upd H4 D (.lst (acc ++ [y]))) else Pv (i + 1) H3) (hd : ∀ H, Pv xs.length H → Qd H) :
    ∃ W : Nat → Nat → Hp → Prop, (∃ m, W 0 m (upd H1 D (.lst []))) ∧ ∀ i m H, W i m H →
      ((Ite K a).stop i H ∧ Qd H) ∨ ((Ite K a).go i H ∧ ∃ Nx : Hp → Prop, (∀ H', Nx H' → ∃ m', m' < m ∧ W (i + 1) m' H') ∧ ∀ x H', (Ite K a).yld i H x H' → g x (wipe σ vs) H' fun σ2 H2 => wipe σ2 vs = wipe σ vs ∧ tt σ2 H2 fun b H3 =>
        if b = true then te σ2 H3 fun y H4 => ∃ acc, H4 D = some (.lst acc) ∧ acc.length < sizeLine ∧ Nx (upd H4 D (.lst (acc ++ [y]))) else Nx H3) := by
  refine ⟨fun i m H => m = xs.length - i ∧ i ≤ xs.length ∧ Pv i H, ⟨xs.length, by simp, Nat.zero_le _, h0⟩, ?_⟩
  rintro i m H ⟨rfl, hi, pv⟩
  have sq := hl i H hi pv
  rcases Nat.lt_or_ge i xs.length with hlt | hge
  · refine .inr ⟨⟨xs, xs[i], sq, List.getElem?_eq_getElem hlt⟩, Pv (i + 1), fun H' p' => ⟨xs.length - (i + 1), by omega, rfl, hlt, p'⟩, fun x H' y => ?_⟩
    obtain ⟨T, z, rfl, nT, rfl, ez⟩ := y
    exact hs i z T H (ez xs sq) nT pv
  · have e : i = xs.length := by omega
    subst e
    exact .inl ⟨⟨xs, sq, Nat.le_refl _⟩, hd H pv⟩
theorem cut_take (xs : List V) (k : Nat) (h : k ≤ xs.length) : cutV xs none (some (k : Int)) = xs.take k := by
  unfold cutV
  rw [HT.sIx_none, HT.sIx_nat, List.drop_zero, Nat.sub_zero, Nat.min_eq_left h]
theorem decV (i j : Int) : decide (V.int i = V.int j) = decide (i = j) := decide_eq_decide.mpr ⟨fun z => V.int.inj z, fun z => congrArg V.int z⟩
theorem k_sl {X : Cx} {K : PySem.W.Frag} (hK : X.K = K) : SlR X (rSlL K) := by
  subst hK
  exact sl_list
theorem k_tup {X : Cx} {K : PySem.W.Frag} {es : List Expr} {k : Nat} {pos : Pos} {t : TGs} {n : Nat} (hK : X.K = K) (hc : X.calm = true) (h : PGs X es t)
    (hn : (assignEach es X.env).length = n := by rfl) (hst : (assignEach es X.env).findIdx? (·.1) = none := by rfl) : PG X (.Tuple es k pos) (gTup K n t) := by
  subst hK
  exact pg_tup hc h hn hst
theorem seqN {K : PySem.W.Frag} {xs : List V} {H H1 H' : Hp} {a b : Addr} (h : SqL K H b xs) (n : H a = none) (s : Same H H1) (x : Bt a H1 H') : SqL K H' b xs := by
  rcases h with (h | ⟨o, h⟩) | h
  · exact .inl (.inl (x _ _ (ne_of_none h n) (s _ _ h)))
  · exact .inl (.inr ⟨o, x _ _ (ne_of_none h n) (s _ _ h)⟩)
  · exact .inr h
theorem rI1 {ns : List Int} (hb : ∀ n ∈ ns, -100 ≤ n ∧ n ≤ 100) : (dI ns).showable = true := show_ints ns (fun n hn => log2_small (hb n hn).1 (hb n hn).2)
theorem rI2 (ns : List Int) : (dI ns).depth ≤ 60 := by
  show PyData.depthAll (ns.map PyData.int) + 1 ≤ 60
  rw [depth_ints]
  decide
end Lp
set_option Elab.async false
set_option linter.all false
set_option maxRecDepth 100000
namespace Lp
open PySem PySem.Spec PyProof.Rows L2
theorem lc_zipL {K : PySem.W.Frag} {a b : Addr} {xs ys : List V} {g : TG} {tt : TT} {te : TE} {vs : List Nat} {σ : L2.St} {H1 : Hp} {D : Addr} {Qd : Hp → Prop} (le : xs.length = ys.length) (Pv : Nat → Hp → Prop) (h0 : Pv 0 (upd H1 D (.lst []))) (hl : ∀ i H, i ≤ xs.length → Pv i H → SqL K H a xs ∧ SqL K H b ys)
    (hs : ∀ (i : Nat) (x y : V) (T : Addr) (H : Hp), xs[i]? = some x → ys[i]? = some y → H T = none → Pv i H → g (.ref T) (wipe σ vs) (upd H T (.tup [x, y])) fun σ2 H2 => wipe σ2 vs = wipe σ vs ∧ tt σ2 H2 fun b H3 =>
      if b = true then te σ2 H3 fun y H4 => ∃ acc, H4 D = some (.lst acc) ∧ acc.length < sizeLine ∧ Pv (i + 1) (upd H4 D (.lst (acc ++ [y]))) else Pv (i + 1) H3) (hd : ∀ H, Pv xs.length H → Qd H) :
    ∃ W : Nat → Nat → Hp → Prop, (∃ m, W 0 m (upd H1 D (.lst []))) ∧ ∀ i m H, W i m H →
      ((Itz K a b).stop i H ∧ Qd H) ∨ ((Itz K a b).go i H ∧ ∃ Nx : Hp → Prop, (∀ H', Nx H' → ∃ m', m' < m ∧ W (i + 1) m' H') ∧ ∀ x H', (Itz K a b).yld i H x H' → g x (wipe σ vs) H' fun σ2 H2 => wipe σ2 vs = wipe σ vs ∧ tt σ2 H2 fun b H3 =>
        if b = true then te σ2 H3 fun y H4 => ∃ acc, H4 D = some (.lst acc) ∧ acc.length < sizeLine ∧ Nx (upd H4 D (.lst (acc ++ [y]))) else Nx H3) := by
  refine ⟨fun i m H => m = xs.length - i ∧ i ≤ xs.length ∧ Pv i H, ⟨xs.length, by simp, Nat.zero_le _, h0⟩, ?_⟩
  rintro i m H ⟨rfl, hi, pv⟩
  obtain ⟨sa, sb⟩ := hl i H hi pv
  rcases Nat.lt_or_ge i xs.length with hlt | hge
  · refine .inr ⟨⟨xs, ys, xs[i], ys[i]'(by omega), sa, sb, List.getElem?_eq_getElem hlt, List.getElem?_eq_getElem (by omega)⟩, Pv (i + 1), fun H' p' => ⟨xs.length - (i + 1), by omega, rfl, hlt, p'⟩, fun x H' y => ?_⟩
    obtain ⟨T, z1, z2, rfl, nT, rfl, e1, e2⟩ := y
    exact hs i z1 z2 T H (e1 xs sa) (e2 ys sb) nT pv
  · have e : i = xs.length := by omega
    subst e
    exact .inl ⟨⟨xs, ys, sa, sb, .inl (Nat.le_refl _)⟩, hd H pv⟩
theorem lc_zipT {K : PySem.W.Frag} {a b : Addr} {xs ys : List V} {g : TG} {tt : TT} {te : TE} {vs : List Nat} {σ : L2.St} {H1 : Hp} {D : Addr} {Qd : Hp → Prop} (le : xs.length = ys.length) (Pv : Nat → Hp → Prop) (h0 : Pv 0 (upd H1 D (.lst []))) (hl : ∀ i H, i ≤ xs.length → Pv i H → SqT K H a xs ∧ SqT K H b ys)
    (hs : ∀ (i : Nat) (x y : V) (T : Addr) (H : Hp), xs[i]? = some x → ys[i]? = some y → H T = none → Pv i H → g (.ref T) (wipe σ vs) (upd H T (.tup [x, y])) fun σ2 H2 => wipe σ2 vs = wipe σ vs ∧ tt σ2 H2 fun b H3 =>
      if b = true then te σ2 H3 fun y H4 => ∃ acc, H4 D = some (.lst acc) ∧ acc.length < sizeLine ∧ Pv (i + 1) (upd H4 D (.lst (acc ++ [y]))) else Pv (i + 1) H3) (hd : ∀ H, Pv xs.length H → Qd H) :
    ∃ W : Nat → Nat → Hp → Prop, (∃ m, W 0 m (upd H1 D (.lst []))) ∧ ∀ i m H, W i m H →
      ((RZ.ItzT K a b).stop i H ∧ Qd H) ∨ ((RZ.ItzT K a b).go i H ∧ ∃ Nx : Hp → Prop, (∀ H', Nx H' → ∃ m', m' < m ∧ W (i + 1) m' H') ∧ ∀ x H', (RZ.ItzT K a b).yld i H x H' → g x (wipe σ vs) H' fun σ2 H2 => wipe σ2 vs = wipe σ vs ∧ tt σ2 H2 fun b H3 =>
        if b = true then te σ2 H3 fun y H4 => ∃ acc, H4 D = some (.lst acc) ∧ acc.length < sizeLine ∧ Nx (upd H4 D (.lst (acc ++ [y]))) else Nx H3) := by
  refine ⟨fun i m H => m = xs.length - i ∧ i ≤ xs.length ∧ Pv i H, ⟨xs.length, by simp, Nat.zero_le _, h0⟩, ?_⟩
  rintro i m H ⟨rfl, hi, pv⟩
  obtain ⟨sa, sb⟩ := hl i H hi pv
  rcases Nat.lt_or_ge i xs.length with hlt | hge
  · refine .inr ⟨⟨xs, ys, xs[i], ys[i]'(by omega), sa, sb, List.getElem?_eq_getElem hlt, List.getElem?_eq_getElem (by omega)⟩, Pv (i + 1), fun H' p' => ⟨xs.length - (i + 1), by omega, rfl, hlt, p'⟩, fun x H' y => ?_⟩
    obtain ⟨T, z1, z2, rfl, nT, rfl, e1, e2⟩ := y
    exact hs i z1 z2 T H (e1 xs sa) (e2 ys sb) nT pv
  · have e : i = xs.length := by omega
    subst e
    exact .inl ⟨⟨xs, ys, sa, sb, .inl (Nat.le_refl _)⟩, hd H pv⟩
theorem tyx_l {K : PySem.W.Frag} {H : Hp} {a : Addr} {xs : List V} (h : SqL K H a xs) : TyX K H (.ref a) (.type "list") := by
  rcases h with (h | ⟨o, h⟩) | ⟨o, its, n, h, c, _⟩
  · exact .base (.lst h)
  · exact .base (.frz h)
  · exact .kList h c
theorem tyx_t {K : PySem.W.Frag} {H : Hp} {a : Addr} {xs : List V} (h : SqT K H a xs) : TyX K H (.ref a) (.type "tuple") := by
  rcases h with (h | ⟨o, h⟩) | ⟨o, its, n, h, c, _⟩
  · exact .base (.tup h)
  · exact .fTuple h
  · exact .kTuple h c
theorem seqT {K : PySem.W.Frag} {H H' : Hp} {a : Addr} {xs : List V} (e : Same H H') (h : SqT K H a xs) : SqT K H' a xs := by
  rcases h with (h | ⟨o, h⟩) | h
  · exact .inl (.inl (e _ _ h))
  · exact .inl (.inr ⟨o, e _ _ h⟩)
  · exact .inr h
mutual
theorem dp_same {K : PySem.W.Frag} {H H' : Hp} (s : Same H H') : ∀ {v : V} {d : PyData}, Dp K H v d → Dp K H' v d
  | _, _, .non => .non
  | _, _, .bl b => .bl b
  | _, _, .int i => .int i
  | _, _, .str x => .str x
  | _, _, .lst h1 h2 => .lst (s.seq h1) (dpAll_same s h2)
  | _, _, .tup h1 h2 => .tup (seqT s h1) (dpAll_same s h2)
theorem dpAll_same {K : PySem.W.Frag} {H H' : Hp} (s : Same H H') : ∀ {vs : List V} {ds : List PyData}, DpAll K H vs ds → DpAll K H' vs ds
  | _, _, .nil => .nil
  | _, _, .cons h1 h2 => .cons (dp_same s h1) (dpAll_same s h2)
end
theorem dpAll_len {K : PySem.W.Frag} {H : Hp} : ∀ {vs : List V} {ds : List PyData}, DpAll K H vs ds → vs.length = ds.length
  | _, _, .nil => rfl
  | _, _, .cons _ h => congrArg (· + 1) (dpAll_len h)
theorem dpAll_get {K : PySem.W.Frag} {H : Hp} : ∀ {vs : List V} {ds : List PyData} {i : Nat} {v : V}, DpAll K H vs ds → vs[i]? = some v → ∃ d, ds[i]? = some d ∧ Dp K H v d
  | _, _, 0, _, .cons h _, e => by cases e; exact ⟨_, rfl, h⟩
  | _, _, i + 1, _, .cons _ h, e => dpAll_get (i := i) h e
theorem depth_get : ∀ {ds : List PyData} {i : Nat} {d : PyData}, ds[i]? = some d → d.depth ≤ PyData.depthAll ds
  | x :: r, 0, d, e => by cases e; exact Nat.le_max_left _ _
  | x :: r, i + 1, d, e => Nat.le_trans (depth_get (ds := r) (i := i) e) (Nat.le_max_right _ _)
theorem kitA {K : PySem.W.Frag} {t c1 c2 : Value} {b : Bool} (h1 : PySem.W.kitOne K t c1 = some false) (h2 : PySem.W.kitOne K t c2 = some b) : PySem.W.kitAny K t [c1, c2] = some b := by
  unfold PySem.W.kitAny
  rw [h1]
  show PySem.W.kitAny K t [c2] = _
  unfold PySem.W.kitAny
  rw [h2]
  cases b <;> rfl
theorem kitT {K : PySem.W.Frag} {t c1 : Value} {cs : List Value} (h1 : PySem.W.kitOne K t c1 = some true) : PySem.W.kitAny K t (c1 :: cs) = some true := by
  unfold PySem.W.kitAny
  rw [h1]
/-! ### list(range(a, b, c)) -/
def tList3 (ta : TA) : TE := fun σ H Q => ta σ H fun vs H1 => ∃ (i j c : Int) (n : Nat), vs = [.int i, .int j, .int c] ∧ RgC i j c n ∧ n ≤ 100000 ∧ ∀ q, H1 q = none → Q (.ref q) (upd H1 q (.lst ((List.range n).map fun k : Nat => V.int (i + (k : Int) * c))))
theorem vals_rg3 {a c : Int} {n : Nat} {acc : Array Value} (h : ItemsOf (fun i v => ∃ t, v = .int (a + i * c) t) acc n) : Vals ((List.range n).map fun k : Nat => V.int (a + (k : Int) * c)) acc.toList := by
  have e : acc.toList.length = n := by rw [Array.length_toList]; exact h.1
  rw [← e]
  refine vals_of_get acc.toList _ fun j u hj => ?_
  obtain ⟨t, rfl⟩ := h.2 j u (by rw [← hj, Array.getElem?_toList])
  exact ⟨t, rfl⟩
theorem pe_list3 {X : Cx} {a b c : Expr} {ta : TA} {p p2 pos pos2 : Pos} (hc : X.calm = true) (hg : Gl X "list") (hm : X.mg "list" = none) (hg2 : Gl X "range") (hm2 : X.mg "range" = none) (ha : PA X [a, b, c] ta)
    (hs : starEach [a, b, c] X.env = (false, eval a X.env) :: starEach [b, c] X.env := by rfl) (hpl : (backTo pos2 (starEach [b, c] X.env)).any (·.1) = false := by rfl)
    (na : starEach [.Call (.Name "range" p2) [a, b, c] [] pos2] X.env = (false, eval (.Call (.Name "range" p2) [a, b, c] [] pos2) X.env) :: starEach [] X.env := by rfl) :
    PE X (.Call (.Name "list" p) [.Call (.Name "range" p2) [a, b, c] [] pos2] [] pos) (tList3 ta) := by
  refine ⟨fun pins s σ H Q I h => ?_⟩
  refine Call_ (ld_blt I hg hm boot_list (PyProof.Rows.callWith_type1 (args_cons (?_) na) na))
  refine Call_ (ld_blt I hg2 hm2 boot_range (PyProof.Rows.callWith_type1 (thn (ha.run pos2 pins s σ H _ I h) fun us s1 ⟨vs, H1, I1, r1, q1⟩ => ?_) hs hpl))
  obtain ⟨i, j, k, n, e, ⟨c0, c1, c2, c3⟩, hn, q⟩ := q1
  subst e
  cases r1 with
  | cons r rr =>
    cases rr with
    | cons r' rr =>
      cases rr with
      | cons r'' rr =>
        cases rr
        obtain ⟨t, rfl⟩ := r
        obtain ⟨t', rfl⟩ := r'
        obtain ⟨t'', rfl⟩ := r''
        refine call_range_3 c0 ?_ (.inl (PyProof.noPylong_small c1))
        refine args_nil ?_
        have I2 : Inv X pins σ H1 { s1 with heap := s1.heap.push { cls := .type "range", data := .fields #[.int i t, .int j t', .int k t''] } } := I1.kept (t' := s1.toks) fun b o e => Heap.get?_push_of_some _ e
        refine call_list_range (n := n) (I2.ok.hd hc) (IsRange.new ..) c2 c3 (by omega) fun h' tk acc c' hk e' hi => ?_
        refine ⟨.ref _, upd H1 _ (.lst ((List.range n).map fun m : Nat => V.int (i + (m : Int) * k))), I2.laid hk (Nat.le_refl _) (show ObjOk X.prog X.w _ _ _ (.lst _) from ⟨?_, acc.toList, c', vals_rg3 hi, ?_⟩), rfl, q _ (I2.hok.fresh (Nat.le_refl _))⟩
        · rw [List.length_map, List.length_range]
          exact zs hn
        · rw [Array.toArray_toList]; exact e'
end Lp
set_option Elab.async false
set_option linter.all false
set_option maxRecDepth 100000
namespace Lp
open PySem PySem.Spec PyProof.Rows L2
/-! ### xs.count(text) -/
theorem strCount {k : Str} : ∀ {us : List Value} {ys : List Str}, StrsAre us ys → us.countP (isStrOf k) = ys.countP (fun y => y == k)
  | _, _, .nil => rfl
  | _, _, .cons n t h => by
    have ih := strCount (k := k) h
    rw [List.countP_cons, List.countP_cons, ih] <;> rfl
def rCntS (K : PySem.W.Frag) : V → List V → Hp → VK → Prop := fun x xs H Q => ∃ (p : Addr) (ys : List Str) (k : Str), x = .ref p ∧ xs = [.str k] ∧ SqL K H p (ys.map V.str) ∧ Q (.int (ys.countP (fun y => y == k) : Nat)) H
theorem mt_lcountS {X : Cx} : MtR X "list.count" (rCntS X.K) := by
  intro pins s σ H x xs v us Q I rx rxs h
  obtain ⟨p, ys, k, rfl, rfl, hs, q⟩ := h
  cases rx
  obtain ⟨u, rfl, ru⟩ := rxs.one
  obtain ⟨t, rfl⟩ := ru
  obtain ⟨its, rv, ⟨⟨cls, dd, data, sl⟩, n, ho, hc, hdn, hd⟩, hlen⟩ := I.list hs
  simp only at hc hd
  subst hc hd
  have hi := Vals.strs rv
  refine call_meets PySem.F.slot_list_count ⟨_, ho, rfl⟩ PySem.F.entry_list_count (PySem.F.args_list_count_2 _ _)
    (SeqAt.list_countAt p its.toArray n dd sl (.str k t) (isStrOf k)) ⟨ho, fun y hy => (eq_isStrOf k t hi y (by simpa using hy)).at _ _, ?_⟩
  have ec : its.toArray.toList.countP (isStrOf k) = ys.countP (fun y => y == k) := strCount hi
  refine ⟨.int (ys.countP (fun y => y == k) : Nat), H, I.tok _, ⟨s.toks, ?_⟩, q⟩
  show Value.int ((its.toArray.toList.countP (isStrOf k) : Nat) : Int) s.toks = Value.int ((ys.countP (fun y => y == k) : Nat) : Int) s.toks
  rw [ec]
end Lp
set_option Elab.async false
set_option linter.all false
set_option maxRecDepth 100000
namespace Lp
open PySem PySem.Spec PyProof.Rows L2
/-! ### dict comprehensions over enumerate -/
theorem dc_enum {K : PySem.W.Frag} {a : Addr} {xs : List V} {g : TG} {tt : TT} {tk tv : TE} {vs : List Nat} {σ : L2.St} {H1 : Hp} {D : Addr} {Qd : Hp → Prop} (Pv : Nat → Hp → Prop) (h0 : Pv 0 (upd H1 D (.dK []))) (hl : ∀ i H, i ≤ xs.length → Pv i H → SqL K H a xs)
    (hs : ∀ (i : Nat) (x : V) (T : Addr) (H : Hp), xs[i]? = some x → H T = none → Pv i H → g (.ref T) (wipe σ vs) (upd H T (.tup [.int (i : Nat), x])) fun σ2 H2 => wipe σ2 vs = wipe σ vs ∧ tt σ2 H2 fun b H3 =>
      if b = true then tk σ2 H3 fun y H4 => tv σ2 H4 fun z H5 => ∃ kvs k, y = kV k ∧ H5 D = some (.dK kvs) ∧ kvs.length < sizeLine ∧ Pv (i + 1) (upd H5 D (.dK (putK kvs k z))) else Pv (i + 1) H3) (hd : ∀ H, Pv xs.length H → Qd H) :
    ∃ W : Nat → Nat → Hp → Prop, (∃ m, W 0 m (upd H1 D (.dK []))) ∧ ∀ i m H, W i m H →
      ((Ite K a).stop i H ∧ Qd H) ∨ ((Ite K a).go i H ∧ ∃ Nx : Hp → Prop, (∀ H', Nx H' → ∃ m', m' < m ∧ W (i + 1) m' H') ∧ ∀ x H', (Ite K a).yld i H x H' → g x (wipe σ vs) H' fun σ2 H2 => wipe σ2 vs = wipe σ vs ∧ tt σ2 H2 fun b H3 =>
        if b = true then tk σ2 H3 fun y H4 => tv σ2 H4 fun z H5 => ∃ kvs k, y = kV k ∧ H5 D = some (.dK kvs) ∧ kvs.length < sizeLine ∧ Nx (upd H5 D (.dK (putK kvs k z))) else Nx H3) := by
  refine ⟨fun i m H => m = xs.length - i ∧ i ≤ xs.length ∧ Pv i H, ⟨xs.length, by simp, Nat.zero_le _, h0⟩, ?_⟩
  rintro i m H ⟨rfl, hi, pv⟩
  have sq := hl i H hi pv
  rcases Nat.lt_or_ge i xs.length with hlt | hge
  · refine .inr ⟨⟨xs, xs[i], sq, List.getElem?_eq_getElem hlt⟩, Pv (i + 1), fun H' p' => ⟨xs.length - (i + 1), by omega, rfl, hlt, p'⟩, fun x H' y => ?_⟩
    obtain ⟨T, z, rfl, nT, rfl, e1⟩ := y
    exact hs i z T H (e1 xs sq) nT pv
  · have e : i = xs.length := by omega
    subst e
    exact .inl ⟨⟨xs, sq, Nat.le_refl _⟩, hd H pv⟩
end Lp
set_option Elab.async false
set_option linter.all false
set_option maxRecDepth 100000
namespace Lp
open PySem PySem.Spec PyProof.Rows L2
/-! ### list + list, the script's own list too -/
def rCatS (K : PySem.W.Frag) : R2 := fun x y H Q => ∃ l b xs zs, x = .ref l ∧ y = .ref b ∧ SqL K H l xs ∧ SqL K H b zs ∧ xs.length + zs.length ≤ sizeLine ∧ ∀ p, H p = none → Q (.ref p) (upd H p (.lst (xs ++ zs)))
theorem op_catS {X : Cx} : OpR X (binaryOp .Add) (rCatS X.K) := by
  intro pins s σ H x y v u Q I rx ry h
  obtain ⟨l, b, xs, zs, rfl, rfl, hl, hb, hz, q⟩ := h
  cases rx
  cases ry
  obtain ⟨its, r, ⟨⟨cls, dd, data, sl⟩, n, ho, hc, hdn, hd⟩, h1⟩ := I.list hl
  obtain ⟨its2, r2, ⟨⟨cls2, dd2, data2, sl2⟩, n2, ho2, hc2, hdn2, hd2⟩, h2⟩ := I.list hb
  simp only at hc hd hc2 hd2
  subst hc hd hc2 hd2
  have e1 := r.length
  have e2 := r2.length
  refine concat_meets ⟨_, ho, rfl⟩ ⟨_, ho2, rfl⟩ noFill_list_add seq_list_add PySem.F.slot_list_add PySem.F.entry_list_add (PySem.F.args_list_add_2 _ _) (list_addW l b its.toArray its2.toArray n n2 dd dd2 sl sl2 (by rw [List.size_toArray, List.size_toArray]; omega)) ⟨ho, ho2, ?_⟩
  have ea : its.toArray ++ its2.toArray = (its ++ its2).toArray := by simp
  rw [ea]
  exact ⟨.ref _, _, I.lnew (t' := s.toks) (r.append r2) (by rw [List.length_append]; omega), rfl, q _ I.fresh⟩
end Lp
set_option Elab.async false
set_option linter.all false
set_option maxRecDepth 100000
namespace Lp
open PySem PySem.Spec PyProof.Rows L2

/-! ### calls by keywords, of defs that are called where no repr is under way -/
structure Gk (P : Program) (w : World) (K : PySem.W.Frag) (mg : Str → Option Value) (base : Heap) (k : Nat) (x : Str) (n : Nat) (ks : List Str) (gV : List V → List V → List V) (sp : Sp) : Prop where
  ex : ∃ (f : Addr) (fd : FuncData) (ps : List Str) (g : List Value → List Value → List Value), FnG P w K mg base CX0 k f fd ps sp ∧ mg x = some (.ref f) ∧ PySem.W.keepIn K (.ref f) = true ∧ KBn K fd ps n ks g gV
theorem kb_of {K : PySem.W.Frag} {x qual : Str} {st : Stmt} {f : Addr} {fd : FuncData} {ps : List Str} (F : Fun K x qual st f fd) (n : Nat) (ks : List Str) (g : {α : Type} → List α → List α → List α)
    (hrel : ∀ {vs : List V} {us : List Value} {zs : List V} {ws : List Value}, Vals vs us → Vals zs ws → Vals (g vs zs) (g us ws))
    (h : ∀ (kV doc pm : Value) (an : Option Addr) (cdv ct : Value) (us ws : List Value), us.length = n → ws.length = ks.length → bindArgs (PySem.W.fnOf x qual (defArgs st) (defBody st) (defScope st) .none kV doc pm an cdv ct) ⟨us, ks.zip ws⟩ = pure (ps.zip (g us ws))) :
    KBn K fd ps n ks g g := by
  obtain ⟨oc, od, kV, doc, pm, an, cdv, ct, osl, rfl, lk, hcd⟩ := F.ex
  exact ⟨fun s us ws _ l1 l2 => .of_eq (h kV doc pm an cdv ct us ws l1 l2), hrel⟩
theorem kb_gApp0 {vs : List V} {us : List Value} {zs : List V} {ws : List Value} (a : Vals vs us) (b : Vals zs ws) : Vals (vs ++ zs) (us ++ ws) := a.append b
def gApp {α : Type} (us ws : List α) : List α := us ++ ws
def gRev {α : Type} (us ws : List α) : List α := us ++ ws.reverse
theorem kb_gApp {vs : List V} {us : List Value} {zs : List V} {ws : List Value} (a : Vals vs us) (b : Vals zs ws) : Vals (gApp vs zs) (gApp us ws) := a.append b
theorem vals_rev2 : ∀ {zs : List V} {ws : List Value}, Vals zs ws → Vals zs.reverse ws.reverse
  | _, _, .nil => .nil
  | _, _, .cons h t => by
    rw [List.reverse_cons, List.reverse_cons]
    exact (vals_rev2 t).append (.cons h .nil)
theorem kb_gRev {vs : List V} {us : List Value} {zs : List V} {ws : List Value} (a : Vals vs us) (b : Vals zs ws) : Vals (gRev vs zs) (gRev us ws) := a.append (vals_rev2 b)
def tCallG (n m : Nat) (sp : Sp) (gV : List V → List V → List V) (t tk : TA) : TE := fun σ H Q => t σ H fun vs H1 => tk σ H1 fun zs H2 => vs.length = n ∧ zs.length = m ∧ sp (gV vs zs) H2 Q E0
section
variable {X : Cx} {CX : CXT} {k n : Nat} {f : Addr} {fd : FuncData} {ps ks : List Str} {sp : Sp} {E : XK} {x : Str} {p pos : Pos} {e : Expr} {es : List Expr} {kws : List Keyword} {t tk : TA} {g : List Value → List Value → List Value} {gV : List V → List V → List V}
theorem run_fnG {pins : List (Addr × Obj)} {σ : L2.St} {H : Hp} {s : Shared} {Q : VK} {us ws : List Value} {vs zs : List V} (F : FnG X.prog X.w X.K X.mg X.base CX k f fd ps sp) (hG : X.A.guards = some []) (hr : Room k X.A) (hb : KBn X.K fd ps n ks g gV) (hx : Passes CX X E)
    (I : Inv X pins σ H s) (r : Vals vs us) (rz : Vals zs ws) (l1 : vs.length = n) (l2 : zs.length = ks.length) (h : sp (gV vs zs) H Q E) : wpAny (model X.prog X.w) X.A (call (.ref f) us (ks.zip ws)) (EP X pins σ Q) X.xe s := by
  have r2 := hb.rel r rz
  refine wpAny_call (codeAny_mono (F.runG X.A X.stack s H ⟨us, ks.zip ws⟩ (g us ws) (gV vs zs) Q E hG hr I.env0 (hb.to s us ws I.kIn (r.length.symm.trans l1) (rz.length.symm.trans l2)) r2 h) fun r s' hq => ?_)
  cases r with
  | error e => exact hx pins σ H s e s' I hq
  | ok fl =>
    cases fl with
    | ret u => exact I.after hq
    | next => exact False.elim hq
    | brk => exact False.elim hq
    | cont => exact False.elim hq
/-- f(k = v, ..) -/
theorem pe_gK0 {j : Nat} (c : Gk X.prog X.w X.K X.mg X.base k x 0 ks gV sp) (hG : X.A.guards = some []) (hr : Room j X.A) (hk : k ≤ j) (hg : Gl X x) (hkw : PK X kws tk)
    (hall : (backToKw pos (keywordEach kws X.env)).all (·.1.isSome) = true := by rfl) (hks : (backToKw pos (keywordEach kws X.env)).filterMap (·.1) = ks := by rfl) (hdb : (x == ("__debug__" : Str)) = false := by decide)
    (hpl : ((backTo pos (starEach [] X.env)).any (·.1) || (backToKw pos (keywordEach kws X.env)).any (·.1.isNone)) = false := by rfl) :
    PE X (.Call (.Name x p) [] kws pos) (tCallG 0 ks.length sp gV tNil tk) := by
  obtain ⟨f, fd, ps, g, F, hm, kp, hb⟩ := c.ex
  refine ⟨fun pins s σ H Q I h => ?_⟩
  refine wpAny_Call_Name_kw (ld_glob I hg hm ?_ hdb)
  refine PySem.W.callWith_KW0 (h₀ := X.base) I.ok.mod.kin kp hall ?_ hpl
  refine thn (hkw.run pos pins s σ H _ I h) fun ws s2 ⟨zs, H2, I2, rz, l1, l2, q2⟩ => ⟨I2.kIn, ?_⟩
  rw [hks]
  exact run_fnG (us := []) (vs := []) F hG (hr.mono hk) hb pass0 I2 .nil rz rfl l2 q2
/-- f(e, .., k = v, ..) -/
theorem pe_gK {j : Nat} (c : Gk X.prog X.w X.K X.mg X.base k x n ks gV sp) (hG : X.A.guards = some []) (hr : Room j X.A) (hk : k ≤ j) (hg : Gl X x) (ha : PA X (e :: es) t) (hkw : PK X kws tk)
    (hall : (backToKw pos (keywordEach kws X.env)).all (·.1.isSome) = true := by rfl) (hks : (backToKw pos (keywordEach kws X.env)).filterMap (·.1) = ks := by rfl) (hdb : (x == ("__debug__" : Str)) = false := by decide)
    (he : starEach (e :: es) X.env = (false, eval e X.env) :: starEach es X.env := by rfl) (hpl : ((backTo pos (starEach (e :: es) X.env)).any (·.1) || (backToKw pos (keywordEach kws X.env)).any (·.1.isNone)) = false := by rfl) :
    PE X (.Call (.Name x p) (e :: es) kws pos) (tCallG n ks.length sp gV t tk) := by
  obtain ⟨f, fd, ps, g, F, hm, kp, hb⟩ := c.ex
  refine ⟨fun pins s σ H Q I h => ?_⟩
  refine wpAny_Call_Name_kw (ld_glob I hg hm ?_ hdb)
  refine PySem.W.callWith_KW (h₀ := X.base) I.ok.mod.kin kp hall (thn (ha.run pos pins s σ H _ I h) fun us s1 ⟨vs, H1, I1, r, q⟩ => ?_) hpl he
  refine thn (hkw.run pos pins s1 σ H1 _ I1 q) fun ws s2 ⟨zs, H2, I2, rz, l1, l2, q2⟩ => ⟨I2.kIn, ?_⟩
  rw [hks]
  exact run_fnG F hG (hr.mono hk) hb pass0 I2 r rz l1 l2 q2
end

/-! ### i *= j of great ints -/
def ipC (C : Int → Int → Prop) (f : Int → Int → Int) : TIp := fun x y H Q => ∃ i j, x = .int i ∧ y = .int j ∧ C i j ∧ Q (.int (f i j)) H
section
variable {X : Cx}
theorem ip_mulW : PIp X .Mult (ipC CMulW fun i j => i * j) := by
  intro pins s σ H x y v u Q I r1 r2 h
  obtain ⟨i, j, e1, e2, hc, q⟩ := h
  subst e1; subst e2
  obtain ⟨t, rfl⟩ := r1
  obtain ⟨t', rfl⟩ := r2
  exact imul_int ⟨.int _, H, I.tok _, ⟨_, rfl⟩, q⟩ hc.ok
/-! ### text * int -/
theorem foldl_repN (l : List Nat) : ∀ (n : Nat) (acc : List Nat), List.foldl (fun x1 x2 => x1 ++ x2) acc.toArray (List.replicate n l.toArray) = (acc ++ (List.replicate n l).flatten).toArray
  | 0, acc => by simp
  | n + 1, acc => by
    rw [List.replicate_succ, List.foldl_cons, List.append_toArray, foldl_repN l n (acc ++ l), List.replicate_succ, List.flatten_cons, List.append_assoc]
theorem op_repS : OpR X (binaryOp .Mult) (fun x y H Q => ∃ (z : Str) (n : Nat), x = .str z ∧ y = .int (n : Int) ∧ 2 ≤ n ∧ z.length ≠ 0 ∧ z.length * n ≤ 100000 ∧ Q (.str ⟨(List.replicate n z.cps.toList).flatten.toArray⟩) H) := by
  intro pins s σ H x y v u Q I r1 r2 h
  obtain ⟨z, n, e1, e2, h1, h3, h4, q⟩ := h
  subst e1; subst e2
  obtain ⟨t, rfl⟩ := r1
  obtain ⟨t', rfl⟩ := r2
  have hn : ¬ (n : Int) < 1 := by omega
  have hz1 : 1 ≤ z.length := Nat.pos_of_ne_zero h3
  have hn2 : n ≤ 100000 := Nat.le_trans (Nat.le_mul_of_pos_left n hz1) h4
  have hb : ((n : Int) == 1 || z.length == 0) = false := by
    have a : ((n : Int) == 1) = false := beq_eq_false_iff_ne.mpr (by omega)
    have b : (z.length == 0) = false := beq_eq_false_iff_ne.mpr h3
    rw [a, b]
    rfl
  have hsz : z.length * n ≤ sizeLine := zs h4
  have f0 : List.foldl (fun x1 x2 => x1 ++ x2) #[] (List.replicate n z.cps) = (List.replicate n z.cps.toList).flatten.toArray := by
    have := foldl_repN z.cps.toList n []
    rw [List.nil_append, Array.toArray_toList] at this
    exact this
  have hl : (⟨(List.replicate n z.cps.toList).flatten.toArray⟩ : Str).length = n * z.length := by
    show ((List.replicate n z.cps.toList).flatten.toArray).size = n * z.length
    rw [List.size_toArray, List.length_flatten, List.map_replicate, List.sum_replicate_nat, Array.length_toList]
    rfl
  refine PySem.P.mul_str ?_ (fun _ _ => ?_) (fun _ _ => ?_) ?_
  · have a : ¬ (n : Int) < -(2 ^ 63 : Int) := by omega
    have b : ¬ (n : Int) ≥ 2 ^ 63 := by omega
    rw [decide_eq_false a, decide_eq_false b]
    rfl
  · have h5 : (z.length : Int) * (n : Int) ≤ 100000 := by
      have := Int.ofNat_le.mpr h4
      rwa [Int.natCast_mul] at this
    have := (Int.le_ediv_iff_mul_le (show (0 : Int) < n by omega)).mpr (show (z.length : Int) * (n : Int) ≤ 2 ^ 63 - 1 by omega)
    omega
  · have e : (n : Int).toNat = n := rfl
    rw [e]
    unfold Builtin.Str.tooLong
    exact decide_eq_false (by omega)
  · rw [if_neg hn, hb, if_neg Bool.false_ne_true]
    have e : (n : Int).toNat = n := rfl
    rw [e, f0]
    exact ⟨by rw [hl]; rw [Nat.mul_comm]; exact hsz, .str _, H, I.tok _, ⟨_, rfl⟩, q⟩
end
/-! ### math.factorial, math.comb -/
def facN : Nat → Nat
  | 0 => 1
  | n + 1 => facN n * (n + 1)
theorem fac_eq : ∀ n : Nat, Builtin.Math.factorialNat n = facN n
  | 0 => rfl
  | n + 1 => by
    have e : Builtin.Math.factorialNat (n + 1) = Builtin.Math.factorialNat n * (n + 1) := by
      unfold Builtin.Math.factorialNat
      rw [List.range_succ, List.foldl_append]
      rfl
    rw [e, fac_eq n]
    rfl
theorem fac_lt : ∀ n : Nat, n ≤ 1000 → facN n < 2 ^ (10 * n + 1)
  | 0, _ => by decide
  | n + 1, h => by
    have z := fac_lt n (by omega)
    have e : 10 * (n + 1) + 1 = (10 * n + 1) + 10 := by omega
    show facN n * (n + 1) < _
    rw [e, Nat.pow_add]
    exact Nat.mul_lt_mul_of_lt_of_le z (by have : (2 : Nat) ^ 10 = 1024 := by decide
                                           omega) (by decide)
def rFac : List V → Hp → VK → Prop := fun vs H Q => ∃ n : Nat, vs = [.int (n : Int)] ∧ n ≤ 1000 ∧ Q (.int ((facN n : Nat) : Int)) H
theorem cr_fac {X : Cx} : CallR X (.builtin "math.factorial") rFac := by
  intro pins s σ H vs us Q I r h
  obtain ⟨n, rfl, hn, q⟩ := h
  obtain ⟨u, rfl, t, rfl⟩ := vals1 r
  have hl := fac_lt n hn
  have e : Builtin.Math.factorialNat (n : Int).toNat = facN n := fac_eq n
  refine PySem.W.mg_factorial (by show ¬ (n : Int) > 2 ^ 63 - 1; omega) (by omega) (by show ¬ (n : Int) > 20000; omega) ?_ ?_
  · rw [e]
    show (facN n).log2 < bitsLine
    have b := PySem.Flt.log2_lt_of (by omega : 0 < 10 * n + 1) hl
    have e2 : bitsLine = 134217728 := by decide
    rw [e2]
    omega
  · rw [e]
    exact ⟨.int _, H, I.tok _, ⟨_, rfl⟩, q⟩
/-! ### lists of great ints as text -/
theorem shown_big {ns : List Int} (hb : ∀ n ∈ ns, n.natAbs.log2 < 1920) (hl : ns.length ≤ 40) : (dI ns).shown.length ≤ sizeLine := by
  show (textFrom 0 "[" (PyData.shownAll (ns.map PyData.int)) ++ ("]" : Str)).length ≤ sizeLine
  rw [Str.length_append]
  have z := textFrom_le (PyData.shownAll (ns.map PyData.int)) 0 "[" 1921 (fun t ht => by
    obtain ⟨n, hn, e⟩ := shownAll_mem ns t ht
    rw [e]
    exact PyProof.Rows.int_text_len_1921 (hb n hn))
  rw [shownAll_len] at z
  have e1 : ("[" : Str).length = 1 := rfl
  have e2 : ("]" : Str).length = 1 := rfl
  rw [e1] at z
  rw [e2]
  exact zs (by omega)
theorem rrepr_big {K : PySem.W.Frag} {H : Hp} {a : Addr} {ns : List Int} {Q : VK} (hS : SqL K H a (ns.map V.int)) (hb : ∀ n ∈ ns, n.natAbs.log2 < 1920) (hl : ns.length ≤ 40) (q : Q (.str (dI ns).shown) H) : rRepr K [.ref a] H Q :=
  ⟨a, dI ns, rfl, dp_ints hS, show_ints ns hb, noDict_ints ns, rI2 ns, shown_big hb hl, q⟩
theorem log_nat {n k : Nat} (h : n < 2 ^ k) (h0 : 0 < k) (hk : k ≤ 1920) : ((n : Nat) : Int).natAbs.log2 < 1920 := Nat.lt_of_lt_of_le (PySem.Flt.log2_lt_of h0 (show ((n : Nat) : Int).natAbs < 2 ^ k from h)) hk
end Lp
set_option Elab.async false
set_option linter.all false
set_option maxRecDepth 100000
namespace Lp
open PySem PySem.Spec PyProof.Rows L2
theorem filtG {α : Type} {l : List α} {f : α → Bool} {i : Nat} {e : α} (he : l[i]? = some e) : (l.take (i + 1)).filter f = (l.take i).filter f ++ (if f e = true then [e] else []) := by
  rw [take_get he, List.filter_append]
  congr 1
  simp only [List.filter_cons, List.filter_nil]
theorem filtG_len {α : Type} {l : List α} {f : α → Bool} (i : Nat) : ((l.take i).filter f).length ≤ l.length := Nat.le_trans (List.length_filter_le _ _) (by rw [List.length_take]; exact Nat.min_le_right _ _)
theorem inVI (x : Int) : ∀ ns : List Int, inV (.int x) (ns.map V.int) = decide (x ∈ ns)
  | [] => rfl
  | n :: r => by
    show (eqV (.int n) (.int x) || inV (.int x) (r.map V.int)) = _
    rw [inVI x r]
    show ((n == x) || decide (x ∈ r)) = _
    by_cases e : n = x
    · subst e
      simp
    · have e' : ¬ x = n := fun z => e z.symm
      simp [e, e']
theorem flatI (ns : List Int) : (ns.map V.int).all flatV = true := by
  rw [List.all_eq_true]
  intro v hv
  obtain ⟨n, _, rfl⟩ := List.mem_map.mp hv
  rfl
theorem notInT {x : Int} {ns : List Int} (h : x ∉ ns) : V.bl (if true = true then !inV (.int x) (ns.map V.int) else inV (.int x) (ns.map V.int)) = V.bl true := by
  rw [if_pos rfl, inVI, decide_eq_false h]
  rfl
theorem notInF {x : Int} {ns : List Int} (h : x ∈ ns) : V.bl (if true = true then !inV (.int x) (ns.map V.int) else inV (.int x) (ns.map V.int)) = V.bl false := by
  rw [if_pos rfl, inVI, decide_eq_true h]
  rfl

/-! ### rows of ints in the heap -/
def RowsR (H : Hp) (rs : List V) (rows : List (List Int)) : Prop := rs.length = rows.length ∧ ∀ (i : Nat) (row : List Int), rows[i]? = some row → ∃ a, rs[i]? = some (.ref a) ∧ H a = some (.lst (row.map V.int))
theorem RowsR.same {H H' : Hp} {rs : List V} {rows : List (List Int)} (h : RowsR H rs rows) (s : Same H H') : RowsR H' rs rows := ⟨h.1, fun i row e => by
  obtain ⟨a, b, c⟩ := h.2 i row e
  exact ⟨a, b, s _ _ c⟩⟩
theorem RowsR.upd {H : Hp} {rs : List V} {rows : List (List Int)} {q : Addr} {o : HO} (h : RowsR H rs rows) (n : V.ref q ∉ rs) : RowsR (upd H q o) rs rows := ⟨h.1, fun i row e => by
  obtain ⟨a, b, c⟩ := h.2 i row e
  have ne : a ≠ q := fun z => n (by rw [← z]; exact List.mem_of_getElem? b)
  refine ⟨a, b, ?_⟩
  rw [upd_ne ne]
  exact c⟩
theorem RowsR.nil (H : Hp) : RowsR H [] [] := ⟨rfl, fun i row e => by simp at e⟩
theorem RowsR.app {H : Hp} {rs ss : List V} {rows sows : List (List Int)} (h : RowsR H rs rows) (g : RowsR H ss sows) : RowsR H (rs ++ ss) (rows ++ sows) := by
  refine ⟨by rw [List.length_append, List.length_append, h.1, g.1], fun i row e => ?_⟩
  by_cases hi : i < rows.length
  · rw [List.getElem?_append_left hi] at e
    rw [List.getElem?_append_left (by rw [h.1]; exact hi)]
    exact h.2 i row e
  · rw [List.getElem?_append_right (by omega)] at e
    rw [List.getElem?_append_right (by rw [h.1]; omega), h.1]
    exact g.2 _ row e
theorem RowsR.one {H : Hp} {a : Addr} {row : List Int} (h : H a = some (.lst (row.map V.int))) : RowsR H [.ref a] [row] := ⟨rfl, fun i r e => by
  cases i with
  | zero => cases e; exact ⟨a, rfl, h⟩
  | succ i => simp at e⟩
theorem RowsR.dp {K : PySem.W.Frag} {H : Hp} : ∀ {rs : List V} {rows : List (List Int)}, RowsR H rs rows → DpAll K H rs (rows.map dI)
  | [], [], _ => .nil
  | [], _ :: _, h => absurd h.1 (by simp)
  | _ :: _, [], h => absurd h.1 (by simp)
  | v :: rs, r :: rows, h => by
    obtain ⟨a, b, c⟩ := h.2 0 r rfl
    have e : v = .ref a := Option.some.inj b
    subst e
    exact .cons (dp_ints (.of c)) (RowsR.dp ⟨Nat.succ.inj h.1, fun i row e => h.2 (i + 1) row e⟩)
theorem flatMap_take_len {α β : Type} {f : α → List β} (l : List α) (j : Nat) : ((l.take j).flatMap f).length ≤ (l.flatMap f).length := by
  have e : l.flatMap f = (l.take j).flatMap f ++ (l.drop j).flatMap f := by rw [← List.flatMap_append, List.take_append_drop]
  rw [e, List.length_append]
  omega
theorem flatMap_take_succ {α β : Type} {f : α → List β} {l : List α} {j : Nat} {x : α} (h : l[j]? = some x) : (l.take (j + 1)).flatMap f = (l.take j).flatMap f ++ f x := by
  rw [take_get h, List.flatMap_append]
  simp
end Lp
set_option Elab.async false
set_option linter.all false
set_option maxRecDepth 100000
namespace Lp
open PySem PySem.Spec PyProof.Rows L2
theorem rgc_two (n : Nat) (h : n ≤ 1000) : RgC 1 (2 * (n : Int)) 2 n := by
  have hs : Builtin.Range.rangeSize 1 (2 * (n : Int)) 2 = (n : Int) := by
    unfold Builtin.Range.rangeSize
    rw [if_pos (by decide)]
    by_cases h0 : n = 0
    · subst h0
      rw [if_neg (by omega)]
      rfl
    · rw [if_pos (by omega)]
      omega
  refine ⟨by decide, by decide, ?_, hs⟩
  unfold Builtin.Range.small
  rw [hs]
  have f : ∀ z : Int, -1000000 ≤ z → z ≤ 1000000 → Builtin.Range.rangeFitsLong z = true := fun z a b => by
    unfold Builtin.Range.rangeFitsLong
    rw [decide_eq_true (show -2 ^ 63 ≤ z by omega), decide_eq_true (show z < 2 ^ 63 by omega)]
    rfl
  rw [f 1 (by decide) (by decide), f (2 * (n : Int)) (by omega) (by omega), f 2 (by decide) (by decide), f (n : Int) (by omega) (by omega), if_pos (by decide), f (2 * (n : Int) + (2 - 1)) (by omega) (by omega), Bool.or_true]
  rfl
/-! ### lists of objects in the heap -/
def ObjR {α : Type} (o : α → HO) (H : Hp) (rs : List V) (l : List α) : Prop := rs.length = l.length ∧ ∀ (i : Nat) (x : α), l[i]? = some x → ∃ a, rs[i]? = some (.ref a) ∧ H a = some (o x)
section
variable {α : Type} {o : α → HO} {H H' : Hp} {rs ss : List V} {l m : List α}
theorem ObjR.same (h : ObjR o H rs l) (s : Same H H') : ObjR o H' rs l := ⟨h.1, fun i x e => by
  obtain ⟨a, b, c⟩ := h.2 i x e
  exact ⟨a, b, s _ _ c⟩⟩
theorem ObjR.upd {q : Addr} {u : HO} (h : ObjR o H rs l) (n : V.ref q ∉ rs) : ObjR o (upd H q u) rs l := ⟨h.1, fun i x e => by
  obtain ⟨a, b, c⟩ := h.2 i x e
  have ne : a ≠ q := fun z => n (by rw [← z]; exact List.mem_of_getElem? b)
  refine ⟨a, b, ?_⟩
  rw [upd_ne ne]
  exact c⟩
theorem ObjR.nil : ObjR o H [] [] := ⟨rfl, fun i x e => by simp at e⟩
theorem ObjR.app (h : ObjR o H rs l) (g : ObjR o H ss m) : ObjR o H (rs ++ ss) (l ++ m) := by
  refine ⟨by rw [List.length_append, List.length_append, h.1, g.1], fun i x e => ?_⟩
  by_cases hi : i < l.length
  · rw [List.getElem?_append_left hi] at e
    rw [List.getElem?_append_left (by rw [h.1]; exact hi)]
    exact h.2 i x e
  · rw [List.getElem?_append_right (by omega)] at e
    rw [List.getElem?_append_right (by rw [h.1]; omega), h.1]
    exact g.2 _ x e
theorem ObjR.one {a : Addr} {x : α} (h : H a = some (o x)) : ObjR o H [.ref a] [x] := ⟨rfl, fun i r e => by
  cases i with
  | zero => cases e; exact ⟨a, rfl, h⟩
  | succ i => simp at e⟩
end
theorem rep_one (b : Bool) (v : V) : (List.replicate (if b = true then (1 : Int) else 0).toNat [v]).flatten = if b = true then [v] else [] := by cases b <;> rfl
theorem rep_sz (b : Bool) (v : V) : [v].length * (if b = true then (1 : Int) else 0).toNat ≤ sizeLine := by
  cases b
  · exact Nat.zero_le _
  · exact Lp.zs (show 1 * 1 ≤ 100000 by decide)
theorem ifs_len (b : Bool) (v : V) : (if b = true then [v] else []).length ≤ 1 := by
  cases b
  · exact Nat.zero_le _
  · exact Nat.le_refl _
theorem ints_get {ns : List Int} {i : Nat} {n : Int} (h : ns[i]? = some n) : (ns.map V.int)[i]? = some (.int n) := by rw [List.getElem?_map, h]; rfl
end Lp
set_option Elab.async false
set_option linter.all false
set_option maxRecDepth 100000
namespace Lp
open PySem PySem.Spec PyProof.Rows L2
/-! ### lists of ints, by < -/
theorem firstLt_map (e r : Nat → Bool) (fin : Bool) (f : Nat → Nat) : ∀ l : List Nat, SeqAt.firstLt e r fin (l.map f) = SeqAt.firstLt (fun j => e (f j)) (fun j => r (f j)) fin l
  | [] => rfl
  | j :: t => by
    show (if e (f j) = true then SeqAt.firstLt e r fin (t.map f) else r (f j)) = (if e (f j) = true then SeqAt.firstLt (fun j => e (f j)) (fun j => r (f j)) fin t else r (f j))
    rw [firstLt_map e r fin f t]
theorem first_lex : ∀ ns ms : List Int, SeqAt.firstLt (fun j => ns.getD j 0 == ms.getD j 0) (fun j => decide (ns.getD j 0 < ms.getD j 0)) (decide (ns.length < ms.length)) (List.range (min ns.length ms.length)) = HT.lexLt ns ms
  | [], [] => rfl
  | [], _ :: _ => rfl
  | _ :: _, [] => rfl
  | n :: ns, m :: ms => by
    have e : min (n :: ns).length (m :: ms).length = min ns.length ms.length + 1 := by
      simp only [List.length_cons]
      omega
    have e2 : decide ((n :: ns).length < (m :: ms).length) = decide (ns.length < ms.length) := decide_eq_decide.mpr (by simp only [List.length_cons]; omega)
    rw [e, e2, List.range_succ_eq_map]
    show (if (n == m) = true then SeqAt.firstLt _ _ _ ((List.range (min ns.length ms.length)).map Nat.succ) else decide (n < m)) = if n = m then HT.lexLt ns ms else decide (n < m)
    rw [firstLt_map]
    by_cases h : n = m
    · rw [if_pos (beq_iff_eq.mpr h), if_pos h]
      exact first_lex ns ms
    · rw [if_neg (fun z => h (beq_iff_eq.mp z)), if_neg h]
def IsLs (h : Heap) (v : Value) (ns : List Int) : Prop := ∃ (a : Addr) (items : List Value), v = .ref a ∧ h.IsList a items.toArray ∧ IntsAre items ns
theorem IsLs.keeps {h h' : Heap} {v : Value} {ns : List Int} (x : IsLs h v ns) (k : ∀ b o, v = .ref b → h.get? b = some o → h'.get? b = some o) : IsLs h' v ns := by
  obtain ⟨a, its, rfl, ⟨o, ho, hc, n, hd⟩, hi⟩ := x
  exact ⟨a, its, rfl, ⟨o, k a o rfl ho, hc, n, hd⟩, hi⟩
theorem ints_at : ∀ {us : List Value} {ns : List Int}, IntsAre us ns → ∀ j (h : j < us.length), ∃ t, us[j] = .int (ns.getD j 0) t
  | _, _, .cons n t r, 0, _ => ⟨t, rfl⟩
  | _, _, .cons n t r, j + 1, h => by
    obtain ⟨u, e⟩ := ints_at r j (Nat.lt_of_succ_lt_succ h)
    exact ⟨u, e⟩
section
variable {prog : Program} {w : World} {A : Around} {E : Value → Shared → Prop} {s : Shared}
theorem rcLt_int (A : Around) (s : Shared) (a : Int) (t : Tok) (b : Int) (u : Tok) : SeqAt.RcLt A s (.int a t) (.int b u) (decide (a < b)) := fun prog w E Q h => by
  have z : wpAny (model prog w) A (compareOp .Lt (.int a t) (.int b u)) Q E s := lt_int h
  exact z
theorem lt_ls {v u : Value} {ns ms : List Int} {Q : Bool → Shared → Prop} (hu : A.units < cLine) (hv : IsLs s.heap v ns) (hw : IsLs s.heap u ms) (h : Q (HT.lexLt ns ms) s) : wpAny (model prog w) A (keyLt' oneType' v u) Q E s := by
  obtain ⟨a, its, rfl, la, ia⟩ := hv
  obtain ⟨b, its2, rfl, lb, ib⟩ := hw
  have l1 := ia.length
  have l2 := ib.length
  rw [keyLt'_oneType, oneLt'_eq]
  simp only [if_true]
  refine wpAny_bind (wpAny_cRoomFor hu ?_)
  refine wpAny_bind (wpAny_callSpecialIfBound?_slot la.typeIs PySem.F.slot_list_lt (SeqAt.call_list_lt (e := fun j => ns.getD j 0 == ms.getD j 0) (r := fun j => decide (ns.getD j 0 < ms.getD j 0)) la lb (fun j h1 h2 => ?_) (fun j h1 h2 _ => ?_) ?_))
  · obtain ⟨t, e⟩ := ints_at ia j (by simpa using h1)
    obtain ⟨t', e'⟩ := ints_at ib j (by simpa using h2)
    rw [List.getElem_toArray, List.getElem_toArray, e, e']
    exact SeqAt.EqAt.int_int _ t _ t'
  · obtain ⟨t, e⟩ := ints_at ia j (by simpa using h1)
    obtain ⟨t', e'⟩ := ints_at ib j (by simpa using h2)
    rw [List.getElem_toArray, List.getElem_toArray, e, e']
    exact rcLt_int _ _ _ t _ t'
  · rw [List.size_toArray, List.size_toArray, l1, l2, first_lex]
    exact wpAny_truthy_bool h
theorem ls_cmp {vs : List Value} {k : Value → List Int} (hu : A.units < cLine) (hv : ∀ v ∈ vs, IsLs s.heap v (k v)) : SrtO.Cmp prog w A s oneType' (fun p => p.1 ∈ vs) (SrtO.lt2 fun v u => HT.lexLt (k v) (k u)) := by
  intro p q hp hq
  exact lt_ls (Q := fun r s' => s' = s ∧ r = HT.lexLt (k p.1) (k q.1)) (E := fun _ _ => False) hu (hv p.1 hp) (hv q.1 hq) ⟨rfl, rfl⟩
theorem ls_sortable {a : Addr} {vs : List Value} {k : Value → List Int} (h2 : 2 ≤ vs.length) (hu : A.units < cLine) (hv : ∀ v ∈ vs, IsLs s.heap v (k v)) (ha : ∀ v ∈ vs, v ≠ .ref a) :
    SrtO.SortableO prog w A s a vs fun v u => HT.lexLt (k v) (k u) := by
  intro h' keep
  have hv' : ∀ v ∈ vs, IsLs h' v (k v) := fun v hm => (hv v hm).keeps fun b o e g => keep b o (fun z => ha v hm (by rw [e, z])) g
  refine ⟨oneType', fun Q E hq => ?_, ls_cmp (s := { s with heap := h' }) hu hv'⟩
  refine PySem.W.kas_kind (s := { s with heap := h' }) (T := .type "list") h2 (fun v hm => ?_) (by rfl) (by simp) hq
  obtain ⟨a, its, rfl, ⟨o, ho, hc, n, hd⟩, hi⟩ := hv' v hm
  rw [← hc]
  exact (PySem.W.Looks.ld ho).andThen .now
end
/-- sorted(xs), xs a list of lists of ints of any length (k says which) -/
def rSortedLL (K : PySem.W.Frag) : List V → Hp → VK → Prop := fun vs H Q => ∃ (a : Addr) (xs : List V) (k : V → List Int), vs = [V.ref a] ∧ SqL K H a xs ∧ (∀ x ∈ xs, ∃ t, x = V.ref t ∧ SqL K H t ((k x).map V.int)) ∧
  ∀ ys p, ys.Perm xs → ys.Pairwise (fun x y => HT.lexLt (k y) (k x) = false) → H p = none → Q (.ref p) (upd H p (.lst ys))
theorem cr_sortedLL {X : Cx} (hu : X.A.units + 64 < cLine) : CallR X (.builtin "sorted") (rSortedLL X.K) := by
  intro pins s σ H vs us Q I r h
  obtain ⟨a, xs, k, rfl, hs, hx, q⟩ := h
  obtain ⟨its, rv, hl, hz⟩ := I.list hs
  obtain ⟨u, rfl, ru⟩ := vals1 r
  obtain rfl : u = Value.ref a := ru
  obtain ⟨e1, e2⟩ := refs_back rv fun x m => by
    obtain ⟨t, e, _⟩ := hx x m
    exact ⟨t, e⟩
  have hv : ∀ v ∈ its, IsLs s.heap v (k (backV v)) := fun v hv => by
    obtain ⟨t, rfl⟩ := e2 v hv
    have hm : V.ref t ∈ xs := by rw [e1]; exact List.mem_map.mpr ⟨_, hv, rfl⟩
    obtain ⟨t', e, ht⟩ := hx _ hm
    cases e
    obtain ⟨its2, r2, l2, _⟩ := I.list ht
    exact ⟨t, its2, rfl, l2.isList, r2.ints⟩
  refine SrtO.sorted_ord (NtL.swo_lexL fun u => k (backV u)) hl.isList (by rw [← rv.length]; exact hz) (fun h2 h₁ a' g keep => ls_sortable h2 (by show X.A.units + 1 + 1 < cLine; omega) (fun v hm => (hv v hm).keeps fun b o _ g => (keep b o g).2) fun v hm z => ?_) fun out h1 h2 => ?_
  · obtain ⟨b, its3, e, ⟨o, ho, _⟩, _⟩ := hv v hm
    rw [z] at e
    cases e
    exact (keep _ o ho).1 rfl
  · have h3 : ∀ u ∈ out, ∃ a, u = Value.ref a := fun u hu => e2 u (h2.perm.mem_iff.mp hu)
    obtain ⟨ep, he'⟩ := PyProof.Rows.sortedAll_at s.heap its out.toArray
    have hp : (out.map backV).Perm xs := by
      rw [e1]
      exact h2.perm.map backV
    have hlen : (out.map backV).length ≤ sizeLine := by
      rw [hp.length_eq]
      exact hz
    exact ⟨.ref _, upd H (s.heap.objs.size + 1) (.lst (out.map backV)), I.laid (t' := s.toks) (fun _ _ => PyProof.Rows.sortedAll_old) (Nat.le_succ _) ⟨hlen, out, ep, vals_back h3, he'⟩, rfl, q _ _ hp (List.pairwise_map.mpr (h1.imp fun {x y} z => z)) (I.hok.fresh (Nat.le_succ _))⟩
end Lp
set_option Elab.async false
set_option linter.all false
set_option maxRecDepth 100000
namespace Lp
open PySem PySem.Spec PyProof.Rows L2
theorem all_bounds (n : Nat) : PySem.sliceBounds none none none n = (0, (n : Int), 1) := by
  simp [PySem.sliceBounds]
section
variable {prog : Program} {w : World} {A : Around} {E : Value → Shared → Prop} {s : Shared}
/-- xs[:] = ys -/
theorem whole_set {p q z : Addr} {old new : Array Value} {n1 n2 : Nat} {R : Unit → Shared → Prop} (hp : s.heap.get? p = some { cls := .type "list", data := .seq old n1 }) (hq : s.heap.get? q = some { cls := .type "list", data := .seq new n2 })
    (npq : p ≠ q) (hz : s.heap.IsSliceOf z .none .none .none) (fit : old.size + new.size ≤ sizeLine) (h : R () { s with heap := s.heap.update p (Obj.mapSeq fun xs => xs.extract 0 0 ++ new ++ xs.extract old.size xs.size) }) :
    wpAny (model prog w) A (setItem (.ref p) (.ref z) (.ref q)) R E s := by
  have tp : s.heap.IsList p old := PySem.IsL.isList hp
  have tq : s.heap.IsList q new := PySem.IsL.isList hq
  obtain ⟨oz, goz, coz, doz⟩ := id hz
  have tz : s.TypeIs (.ref z) "slice" := ⟨oz, goz, coz⟩
  have noZero : ¬ ((rawPart none == rawInt 0) = true) := Bool.false_ne_true
  have two : Builtin.List.listSameRef (.ref p) (.ref q) = false := by unfold Builtin.List.listSameRef; exact beq_eq_false_iff_ne.mpr npq
  have upper : (max (0 : Int) (old.size : Int)).toNat = old.size := by omega
  have fit' : ((fun xs : Array Value => xs.extract 0 0 ++ new ++ xs.extract old.size xs.size) old).size ≤ sizeLine + 1 := by simp only [Array.size_append, Array.size_extract]; omega
  unfold setItem; try with_reducible refine wpAny_holding ?_
  first | refine wpAny_bind (wpAny_pure ?_) | skip
  refine wpAny_bind (wpAny_sequenceKey tp.typeIs (by decide) (wpAny_bind (wpAny_callSpecial?_slot (name := Str.ofString "__setitem__") tp.typeIs slot_list_setitem (wpAny_call_entry slot_list_setitem tp.typeIs entry_list_setitem ?_ (args_list_setitem _ _ _)))))
  show wpAny _ _ (Builtin.List.listSubscript? (.ref z) >>= _) _ _ s
  refine wpAny_bind ?_
  unfold Builtin.List.listSubscript?
  refine wpAny_bind (wpAny_specialOf tz slice_no_index ?_)
  simp only [Option.isNone_none, if_true]
  refine wpAny_pure (?_ : wpAny _ _ (typeOf (.ref z) >>= _) _ _ s)
  refine wpAny_bind (wpAny_typeOf tz ?_)
  first | rw [if_neg (by decide)] | refine PySem.W.KFB.if_not (by decide) ?_
  rw [listSliceParts_eq]
  refine wpAny_bind (wpAny_bind (wpAny_field goz doz (x := .none) rfl (wpAny_bind (wpAny_listPart .none (?_ : wpAny _ _ _ _ _ _)))))
  rw [if_neg noZero]
  refine wpAny_bind (wpAny_field goz doz (x := .none) rfl (wpAny_bind (wpAny_listPart .none (wpAny_bind (wpAny_field goz doz (x := .none) rfl (wpAny_bind (wpAny_listPart .none (wpAny_pure ?_))))))))
  first | simp only [two, Bool.false_eq_true, if_false] | refine PySem.W.KFB.if_not two ?_ | (dsimp only; rw [if_neg (by rw [two]; exact Bool.false_ne_true)])
  refine wpAny_bind (m := Builtin.List.listAllItems (.ref q) "must assign iterable to extended slice") ?_
  unfold Builtin.List.listAllItems; refine wpAny_bind (wpAny_typeOf tq.typeIs ?_)
  first | refine PySem.W.KFB.if_so (by decide) ?_ | rw [if_pos (by decide)] | simp only [beq_self_eq_true, Bool.true_or, if_true]
  unfold Builtin.List.listItems; refine wpAny_bind (wpAny_seqItems hq rfl (wpAny_pure (wpAny_bind (wpAny_bind (wpAny_seqItems hp rfl (wpAny_pure ?_))))))
  refine wpAny_bind (wpAny_of_eq ((sliceIndices_raw none none none old.size (by simp)).trans (congrArg (pure : Int × Int × Int → Sem (Int × Int × Int)) (all_bounds old.size))) ?_)
  show wpAny _ _ (if ((1 : Int) == 1) = true then _ else _) _ _ s
  rw [if_pos (by decide)]; refine wpAny_bind (wpAny_rule ?_)
  first | simp only [notLongL fit, Bool.false_eq_true, if_false] | refine PySem.W.KFB.if_not (notLongL fit) ?_
  first | refine wpAny_bind (wpAny_pure ?_) | skip
  show wpAny _ _ (updateSeq p (fun xs => xs.extract 0 ((0 : Int)).toNat ++ new ++ xs.extract (max (0 : Int) (old.size : Int)).toNat xs.size) >>= _) _ _ s
  rw [upper]; refine wpAny_bind (wpAny_updateSeq (hz := Nat.le_trans (Nat.le_add_right _ _) fit) (_hz' := fit') hp rfl (wpAny_bind (wpAny_letGo ?_)))
  first | exact wpAny_bind (wpAny_pure (wpAny_pure ⟨.none, rfl, wpAny_pure h⟩)) | exact wpAny_pure ⟨.none, rfl, wpAny_pure h⟩
end
/-- the slice object of [:] -/
def SlO (a : Addr) : HO := .ext fun h => h.IsSliceOf a .none .none .none
section
variable {X : Cx} {pos : Pos}
def tSlAll : TE := fun _ H Q => ∀ p, H p = none → Q (.ref p) (upd H p (SlO p))
theorem pe_slAll : PE X (.Slice none none none pos) tSlAll := by
  refine ⟨fun pins s σ H Q I h => ?_⟩
  refine wpAny_Slice ?_
  rw [evalPart_none]
  refine wpAny_pure (wpAny_pure (wpAny_pure ?_))
  refine ⟨.ref s.heap.objs.size, upd H s.heap.objs.size (SlO s.heap.objs.size), I.laid (t' := s.toks) (fun b ob q => Heap.get?_push_of_some _ q) (Nat.le_refl _) ⟨Heap.IsSliceOf.new .., ⟨_, Heap.get?_push_size s.heap rfl⟩, fun h1 h2 x k => ?_⟩, rfl, h _ (I.hok.fresh (Nat.le_refl _))⟩
  obtain ⟨o, e, c, d⟩ := x
  exact ⟨o, k o e, c, d⟩
def sAll : TSet := fun x y z H Q => ∃ (l b sl : Addr) (xs ys : List V), x = .ref l ∧ y = .ref sl ∧ z = .ref b ∧ H sl = some (SlO sl) ∧ H l = some (.lst xs) ∧ H b = some (.lst ys) ∧ l ≠ b ∧ xs.length + ys.length ≤ sizeLine ∧ Q (upd H l (.lst ys))
theorem set_all : PSet X sAll := by
  intro pins s σ H o i v ov iv u Q I r1 r2 r3 h
  obtain ⟨l, b, sl, xs, ys, rfl, rfl, rfl, hsl, hl, hb, ne, hz, q⟩ := h
  cases r1
  cases r2
  cases r3
  obtain ⟨z, its, n, r, el, e⟩ := I.lstM hl
  obtain ⟨z2, its2, n2, r', el2, e2⟩ := I.lstM hb
  have os : ObjOk X.prog X.w H s.heap sl (SlO sl) := I.hok sl _ hsl
  refine whole_set e e2 ne os.1 (by rw [List.size_toArray, List.size_toArray]; omega) ⟨_, I.lset (its' := its2) (t' := s.toks) hl e ?_ r' (by omega), q⟩
  apply Array.toList_inj.mp
  simp
/-- xs[..] = as a target, a slice without a step -/
theorem pg_slAll {o i : Expr} {to ti : TE} {t : TSet} (ho : PE X o to) (hi : PE X i ti) (hs : PSet X t)
    (ha : ∀ v, assign (.Subscript o i pos) X.env v = (holding [v] (eval o X.env) >>= fun ov => holding [v, ov] (eval i X.env) >>= fun iv => standAt pos >>= fun _ => holding [v, ov, iv] (setItem ov iv v) >>= fun _ => release [iv, v, ov] []) := by intro _; rfl) : PG X (.Subscript o i pos) (gSub to ti t) := by
  refine ⟨fun pins s σ H v u Q I r h => ?_⟩
  rw [ha u]
  refine wpAny_bind (wpAny_holding (thn (ho.run pins s σ H _ I h) fun ov sA ⟨x, HA, IA, rA, qA⟩ => wpAny_bind (wpAny_holding (thn (hi.run pins sA σ HA _ IA qA) fun iv sB ⟨y, HB, IB, rB, qB⟩ =>
    wpAny_bind (wpAny_standAt (wpAny_bind (wpAny_holding (thn (hs pins sB σ HB x y v ov iv u _ IB rA rB r qB) fun _ sC ⟨HC, IC, qC⟩ => wpAny_release ⟨σ, HC, IC, qC⟩))))))))
end
end Lp
set_option Elab.async false
set_option linter.all false
set_option maxRecDepth 100000
namespace Lp
open PySem PySem.Calls
theorem comb_entry : entryFor table "math.comb" = some Builtin.«math.comb» := entryFor_of_tree (by kernel_rfl)
theorem comb_kind : builtinKind "math.comb" = none := by kernel_rfl
theorem comb_plain : plainId "math.comb" = true := by decide +kernel
theorem comb_args (a b : Value) : argsOk "math.comb" ⟨[a, b], []⟩ := by unfold argsOk; kernel_rfl
theorem comb_run (a : Int) (t : Tok) (b : Int) (u : Tok) (h0 : ¬ a < 0) (h1 : ¬ b < 0) (h2 : ¬ b > a) (h3 : ¬ min b (a - b) > Builtin.Math.maxSsize) (h4 : ¬ min b (a - b) > Builtin.Math.manyFactors) (h5 : ¬ min b (a - b) > 9000)
    (hs : (Builtin.Math.fallingProduct a (min b (a - b)).toNat / Builtin.Math.fallingProduct (min b (a - b)) (min b (a - b)).toNat).natAbs.log2 < bitsLine) :
    Gives (Builtin.«math.comb» ⟨[.int a t, .int b u], []⟩) (.int (Builtin.Math.fallingProduct a (min b (a - b)).toNat / Builtin.Math.fallingProduct (min b (a - b)) (min b (a - b)).toNat)) :=
  .of_wp fun M A E s Q h => by obtain ⟨hp, g, d, tk, os⟩ := s; wp_walk; (try (refine wpAny_ite_false (decide_eq_false (Nat.not_le.mpr hs)) ?_; wp_walk)); exact ⟨_, rfl, h⟩
end Lp
namespace Lp
open PySem PySem.Spec PySem.Calls PyProof.Rows L2
/-! ### binomial coefficients -/
theorem facN_pos' : ∀ n, 0 < facN n
  | 0 => by decide
  | n + 1 => Nat.mul_pos (facN_pos' n) (Nat.succ_pos n)
def chN (n k : Nat) : Nat := facN n / (facN k * facN (n - k))
def chP : Nat → Nat → Nat
  | _, 0 => 1
  | 0, _ + 1 => 0
  | n + 1, k + 1 => chP n k + chP n (k + 1)
theorem chP_zero (n : Nat) : chP n 0 = 1 := by cases n <;> rfl
theorem chP_gt : ∀ n k, n < k → chP n k = 0
  | 0, k + 1, _ => rfl
  | n + 1, k + 1, h => by
    show chP n k + chP n (k + 1) = 0
    rw [chP_gt n k (by omega), chP_gt n (k + 1) (by omega)]
theorem chP_self : ∀ n, chP n n = 1
  | 0 => rfl
  | n + 1 => by
    show chP n n + chP n (n + 1) = 1
    rw [chP_self n, chP_gt n (n + 1) (by omega)]
theorem chP_fac : ∀ n k, k ≤ n → chP n k * (facN k * facN (n - k)) = facN n
  | n, 0, _ => by
    rw [chP_zero, Nat.sub_zero]
    show 1 * (1 * facN n) = facN n
    rw [Nat.one_mul, Nat.one_mul]
  | n + 1, k + 1, h => by
    show (chP n k + chP n (k + 1)) * (facN k * (k + 1) * facN (n + 1 - (k + 1))) = facN n * (n + 1)
    have e : n + 1 - (k + 1) = n - k := by omega
    rw [e]
    have a := chP_fac n k (by omega)
    rcases Nat.lt_or_ge k n with hk | hk
    · have b := chP_fac n (k + 1) (by omega)
      have b2 : facN (n - k) = facN (n - (k + 1)) * (n - k) := by
        have e2 : n - k = (n - (k + 1)) + 1 := by omega
        rw [e2]
        rfl
      have x1 : chP n k * (facN k * (k + 1) * facN (n - k)) = facN n * (k + 1) := by
        rw [← a]
        simp only [Nat.mul_assoc, Nat.mul_comm, Nat.mul_left_comm]
      have x2 : chP n (k + 1) * (facN k * (k + 1) * facN (n - k)) = facN n * (n - k) := by
        rw [← b, b2]
        show _ = chP n (k + 1) * (facN k * (k + 1) * facN (n - (k + 1))) * (n - k)
        simp only [Nat.mul_assoc, Nat.mul_comm, Nat.mul_left_comm]
      rw [Nat.add_mul, x1, x2, ← Nat.mul_add]
      congr 1
      omega
    · have ek : k = n := by omega
      subst ek
      have x : chP k k * (facN k * (k + 1) * facN (k - k)) = chP k k * (facN k * facN (k - k)) * (k + 1) := by
        simp only [Nat.mul_assoc, Nat.mul_comm, Nat.mul_left_comm]
      rw [chP_gt k (k + 1) (by omega), Nat.add_zero, x, a]
theorem ch_eq {n k : Nat} (h : k ≤ n) : chN n k = chP n k := by
  unfold chN
  rw [← chP_fac n k h]
  exact Nat.mul_div_cancel _ (Nat.mul_pos (facN_pos' k) (facN_pos' _))
theorem ch_sym {n k : Nat} (h : k ≤ n) : chN n (n - k) = chN n k := by
  unfold chN
  have e : n - (n - k) = k := by omega
  rw [e, Nat.mul_comm]
theorem ch_le (n k : Nat) : chN n k ≤ facN n := Nat.div_le_self _ _
theorem fall_fac (n : Nat) : ∀ k, k ≤ n → Builtin.Math.fallingProduct (n : Int) k * ((facN (n - k) : Nat) : Int) = ((facN n : Nat) : Int)
  | 0, _ => by
    show 1 * _ = _
    rw [Int.one_mul, Nat.sub_zero]
  | k + 1, h => by
    have e : Builtin.Math.fallingProduct (n : Int) (k + 1) = Builtin.Math.fallingProduct (n : Int) k * ((n : Int) - (k : Int)) := by
      unfold Builtin.Math.fallingProduct
      rw [List.range_succ, List.foldl_append]
      rfl
    have ih := fall_fac n k (by omega)
    have e2 : facN (n - k) = facN (n - (k + 1)) * (n - k) := by
      have e3 : n - k = (n - (k + 1)) + 1 := by omega
      rw [e3]
      rfl
    rw [← ih, e, e2, Int.natCast_mul, Int.mul_assoc]
    congr 1
    rw [Int.mul_comm]
    congr 1
    omega
theorem comb_val {n k : Nat} (h : k ≤ n) : Builtin.Math.fallingProduct (n : Int) k / Builtin.Math.fallingProduct (k : Int) k = ((chN n k : Nat) : Int) := by
  have a := fall_fac n k h
  have b := fall_fac k k (Nat.le_refl k)
  have c := chP_fac n k h
  rw [Nat.sub_self] at b
  have b' : Builtin.Math.fallingProduct (k : Int) k = ((facN k : Nat) : Int) := by
    rw [← b]
    exact (Int.mul_one _).symm
  have fp : ((facN (n - k) : Nat) : Int) ≠ 0 := by
    have := facN_pos' (n - k)
    omega
  have a' : Builtin.Math.fallingProduct (n : Int) k = ((chP n k * facN k : Nat) : Int) := by
    refine Int.eq_of_mul_eq_mul_right fp ?_
    rw [a, ← c, ← Int.natCast_mul, Nat.mul_assoc]
  rw [a', b', ← Int.natCast_ediv, Nat.mul_div_cancel _ (facN_pos' k), ch_eq h]
def rComb : List V → Hp → VK → Prop := fun vs H Q => ∃ n k : Nat, vs = [.int (n : Int), .int (k : Int)] ∧ k ≤ n ∧ n ≤ 1000 ∧ Q (.int ((chN n k : Nat) : Int)) H
theorem cr_comb {X : Cx} : CallR X (.builtin "math.comb") rComb := by
  intro pins s σ H vs us Q I r h
  obtain ⟨n, k, rfl, hk, hn, q⟩ := h
  obtain ⟨t, u, rfl⟩ := Vals.int2 r
  obtain ⟨m, em, hm, ech⟩ : ∃ m : Nat, min (k : Int) ((n : Int) - (k : Int)) = (m : Int) ∧ m ≤ n ∧ chN n m = chN n k := by
    rcases Nat.le_total k (n - k) with c | c
    · exact ⟨k, by omega, hk, rfl⟩
    · exact ⟨n - k, by omega, by omega, ch_sym hk⟩
  have v : Builtin.Math.fallingProduct (n : Int) (min (k : Int) ((n : Int) - (k : Int))).toNat / Builtin.Math.fallingProduct (min (k : Int) ((n : Int) - (k : Int))) (min (k : Int) ((n : Int) - (k : Int))).toNat = ((chN n k : Nat) : Int) := by
    rw [em, Int.toNat_natCast, comb_val hm, ech]
  have fl := fac_lt n hn
  refine call_function_meets comb_kind comb_plain comb_entry (comb_args _ _) (comb_run (n : Int) t (k : Int) u (by omega) (by omega) (by omega) (by rw [em]; show ¬ (m : Int) > 2 ^ 63 - 1; omega) (by rw [em]; show ¬ (m : Int) > 20000; omega) (by omega) ?_).meets ?_
  · rw [v]
    show (chN n k).log2 < bitsLine
    have b := PySem.Flt.log2_lt_of (by omega : 0 < 10 * n + 1) (Nat.lt_of_le_of_lt (ch_le n k) fl)
    have e2 : bitsLine = 134217728 := by decide
    rw [e2]
    omega
  · rw [v]
    exact ⟨.int _, H, I.tok _, ⟨_, rfl⟩, q⟩
end Lp
set_option Elab.async false
set_option linter.all false
set_option maxRecDepth 100000
namespace Lp
open PySem PySem.Spec PyProof.Rows L2
/-! ### a text read from its end -/
theorem fm_all {α : Type} : ∀ m : List α, List.filterMap (fun k => m[k]?) (List.range m.length) = m
  | [] => rfl
  | a :: m => by
    rw [List.length_cons, List.range_succ_eq_map, List.filterMap_cons]
    show a :: List.filterMap (fun k => (a :: m)[k]?) (List.map Nat.succ (List.range m.length)) = a :: m
    rw [List.filterMap_map]
    exact congrArg (a :: ·) (fm_all m)
theorem fm_congr {α β : Type} {f g : α → Option β} : ∀ {l : List α}, (∀ x ∈ l, f x = g x) → l.filterMap f = l.filterMap g
  | [], _ => rfl
  | a :: l, h => by
    rw [List.filterMap_cons, List.filterMap_cons, h a (List.mem_cons_self ..), fm_congr fun x hx => h x (List.mem_cons_of_mem _ hx)]
theorem fm_rev {α : Type} (l : List α) : List.filterMap (fun k => l[l.length - 1 - k]?) (List.range l.length) = l.reverse := by
  refine Eq.trans (fm_congr (g := fun k => l.reverse[k]?) fun k hk => ?_) ((congrArg (fun n => List.filterMap (fun k => l.reverse[k]?) (List.range n)) (List.length_reverse (as := l)).symm).trans (fm_all l.reverse))
  rw [List.getElem?_reverse (List.mem_range.mp hk)]
theorem rev_idx (n : Nat) : Builtin.Str.strSliceIndices none none (-1) n = (List.range n).map fun k => n - 1 - k := by
  show sliceRange ((n : Int) - 1) (-1) (-1) = _
  have e : sliceRange ((n : Int) - 1) (-1) (-1) = List.map (fun k : Nat => ((n : Int) - 1 + (-1) * (k : Int)).toNat) (List.range (if (n : Int) - 1 > -1 then ((n : Int) - 1 - (-1) - (-1) - 1) / 1 else (0 : Int)).toNat) := rfl
  rw [e]
  have c : (if (n : Int) - 1 > -1 then ((n : Int) - 1 - (-1) - (-1) - 1) / 1 else (0 : Int)).toNat = n := by
    split <;> omega
  rw [c]
  exact List.map_congr_left fun k hk => by omega
def revS (x : Str) : Str := ⟨x.cps.toList.reverse.toArray⟩
theorem rev_made (x : Str) (t q : Tok) : sliceMade x t none none (some (-1, q)) = .str (revS x) := by
  show (if ((-1 : Int) == 1 && _) = true then _ else _) = _
  rw [if_neg (by simp)]
  show Made.str ⟨(List.filterMap (fun i => x.cps[i]?) (Builtin.Str.strSliceIndices none none (-1) x.length)).toArray⟩ = _
  rw [rev_idx, List.filterMap_map]
  have := fm_rev x.cps.toList
  simp only [Array.getElem?_toList, Array.length_toList] at this
  exact congrArg (fun l => Made.str ⟨List.toArray l⟩) this
section
variable {X : Cx}
def tRevS (te : TE) : TE := fun σ H Q => te σ H fun x H1 => ∃ z, x = .str z ∧ z.cps.size ≤ sizeLine ∧ Q (.str (revS z)) H1
theorem pe_revS {e : Expr} {te : TE} {k : Nat} {p1 p2 p3 pos : Pos} (he : PE X e te) : PE X (e.Subscript (Expr.Slice none none (some (Expr.UnaryOp UnaryOp.USub (Expr.Constant (Const.int 1) k p1) p2)) p3) pos) (tRevS te) := by
  refine ⟨fun pins s σ H Q I h => ?_⟩
  refine Subscript_ (thn (he.run pins s σ H _ I h) fun o s1 ⟨v, H1, I1, r1, q1⟩ => ?_)
  obtain ⟨z, rfl, hz, q⟩ := q1
  obtain ⟨t, rfl⟩ := r1
  refine wpAny_Slice ?_
  rw [evalPart_none]
  refine wpAny_pure (wpAny_pure ?_)
  refine thn ((po_some (pe_un un_neg pe_int)).run pins s1 σ H1 (fun o H2 => o = some (-1) ∧ H2 = H1) I1 ⟨1, rfl, _, rfl, rfl, rfl⟩) fun u s2 ⟨o, H2, I2, ip, eo, eh⟩ => ?_
  subst eo
  subst eh
  cases ip with
  | int i tk =>
    refine tail_any (typeIs_str _ _ _) F.slot_str_getitem.lookup ?_ rfl
    refine wpAny_getItem_str_slice (l := none) (u := none) (st := some (-1, tk)) (Heap.IsSliceOf.new ..) rfl ?_
    rw [rev_made]
    have I3 : Inv X pins σ H2 { s2 with heap := s2.heap.push { cls := .type "slice", data := .fields #[.none, .none, .int (-1) tk] } } := I2.kept (t' := s2.toks) fun b o e => Heap.get?_push_of_some _ e
    have hl : (revS z).length ≤ sizeLine := by
      show (z.cps.toList.reverse.toArray).size ≤ sizeLine
      rw [List.size_toArray, List.length_reverse, Array.length_toList]
      exact hz
    exact ⟨hl, .str (revS z), H2, I3.tok _, ⟨_, rfl⟩, q⟩
/-! ### list and tuple of a text -/
def chL (z : Str) : List V := z.cps.toList.map fun c => V.str ⟨#[c]⟩
theorem vals_ch {z : Str} {acc : Array Value} (h : ItemsOf (SignAt z) acc z.cps.size) : Vals (chL z) acc.toList := by
  have e : chL z = (List.range acc.toList.length).map fun j => V.str ⟨#[z.cps.toList.getD j 0]⟩ := by
    unfold chL
    rw [Array.length_toList, h.1]
    apply List.ext_getElem?
    intro i
    rw [List.getElem?_map, List.getElem?_map]
    by_cases c : i < z.cps.size
    · rw [List.getElem?_range (by omega), List.getElem?_eq_getElem (by rw [Array.length_toList]; exact c)]
      simp [c]
    · rw [List.getElem?_eq_none (by rw [Array.length_toList]; omega), List.getElem?_eq_none (by rw [List.length_range]; omega)]
      rfl
  rw [e]
  refine vals_of_get acc.toList _ fun j u hj => ?_
  obtain ⟨c, t, hc, rfl⟩ := h.2 j u (by rw [← hj, Array.getElem?_toList])
  refine ⟨t, ?_⟩
  have : z.cps.toList.getD j 0 = c := by
    rw [List.getD_eq_getElem?_getD, Array.getElem?_toList, hc]
    rfl
  rw [this]
def rLStr : List V → Hp → VK → Prop := fun xs H Q => ∃ z, xs = [.str z] ∧ z.cps.size ≤ sizeLine ∧ ∀ p, H p = none → Q (.ref p) (upd H p (.lst (chL z)))
theorem cr_listStr (hc : X.calm = true) : CallR X (.type "list") rLStr := by
  intro pins s σ H xs us Q I r h
  obtain ⟨z, rfl, hz, q⟩ := h
  cases r with
  | cons r rr =>
    cases rr
    obtain ⟨t, rfl⟩ := r
    refine call_list_str (I.ok.hd hc) z t (fun h' tk acc' c' hk e hi => ?_) hz
    refine ⟨.ref _, upd H _ (.lst (chL z)), I.laid hk (Nat.le_refl _) (show ObjOk X.prog X.w _ _ _ (.lst _) from ⟨?_, acc'.toList, c', vals_ch hi, ?_⟩), rfl, q _ (I.hok.fresh (Nat.le_refl _))⟩
    · unfold chL
      rw [List.length_map, Array.length_toList]
      exact hz
    · rw [Array.toArray_toList]; exact e
def rTStr : List V → Hp → VK → Prop := fun xs H Q => ∃ z, xs = [.str z] ∧ z.cps.size ≤ sizeLine ∧ ∀ p, H p = none → Q (.ref p) (upd H p (.tup (chL z)))
theorem cr_tupStr (hc : X.calm = true) : CallR X (.type "tuple") rTStr := by
  intro pins s σ H xs us Q I r h
  obtain ⟨z, rfl, hz, q⟩ := h
  cases r with
  | cons r rr =>
    cases rr
    obtain ⟨t, rfl⟩ := r
    refine call_tuple_str (I.ok.hd hc) z t (fun h' tk acc hk hi => ?_) hz
    have I2 : Inv X pins σ H { s with heap := h', toks := tk } := I.kept (t' := tk) hk
    refine ⟨.ref _, upd H _ (.tup (chL z)), I2.laid (fun b o e => Heap.get?_push_of_some _ e) (Nat.le_refl _) (show ObjOk X.prog X.w _ _ _ (.tup _) from ?_), rfl, q _ (I2.hok.fresh (Nat.le_refl _))⟩
    simp only [ObjOk]
    refine ⟨by unfold chL; rw [List.length_map, Array.length_toList]; exact hz, acc.toList, vals_ch hi, ?_⟩
    rw [Array.toArray_toList]
    exact ⟨_, Heap.get?_push_size _ rfl, rfl, _, rfl⟩
end
end Lp
set_option Elab.async false
set_option linter.all false
set_option maxRecDepth 100000
namespace Lp
open PySem PySem.Spec PyProof.Rows L2
section
variable {prog : Program} {w : World} {A : Around} {E : Value → Shared → Prop} {s : Shared}
theorem zipS_next_item {z TI TO i1 i2 l1 : Addr} {k1 k2 : Nat} {xs : Array Value} {ty : String} {t : Str} {tk : Tok} {x a b : Value} {c : Nat} {Q : Value → Shared → Prop}
    (nx : ∀ (s : Shared) (Q : Value → Shared → Prop) (E : Value → Shared → Prop), s.heap.IsStrIter i2 ty t tk k2 → (∀ h', h'.IsStrIter i2 ty t tk (k2 + 1) → Heap.SameBut i2 s.heap h' → Q (.str ⟨#[c]⟩ s.toks) { heap := h', gens := s.gens, drawn := s.drawn, toks := s.toks + 1, os := s.os }) → wpAny (model prog w) A (Builtin.SmallTypes.nextOf (.ref i2)) Q E s)
    (TIz : TI ≠ z) (TOz : TO ≠ z) (i1z : i1 ≠ z) (i2z : i2 ≠ z) (TITO : TI ≠ TO) (TOi1 : TO ≠ i1) (TOi2 : TO ≠ i2) (i12 : i1 ≠ i2) (l1z : l1 ≠ z)
    (hz : IsZip s.heap z TI TO .none) (hTI : IsPair s.heap TI (.ref i1) (.ref i2)) (hTO : IsPair s.heap TO a b) (h1 : s.heap.IsListIter i1 l1 k1) (h2 : s.heap.IsStrIter i2 ty t tk k2) (hl : s.heap.IsList l1 xs) (hx : xs[k1]? = some x)
    (q : ∀ h' : Heap, IsZip h' z TI TO (rawInt ↑s.heap.objs.size) → IsPair h' TO x (.str ⟨#[c]⟩ s.toks) → h'.IsListIter i1 l1 (k1 + 1) → h'.IsStrIter i2 ty t tk (k2 + 1) → IsPair h' s.heap.objs.size x (.str ⟨#[c]⟩ s.toks) → h'.objs.size = s.heap.objs.size + 1 →
      (∀ (e : Addr) (o : Obj), e ≠ z → e ≠ TO → e ≠ i1 → e ≠ i2 → s.heap.get? e = some o → h'.get? e = some o) → Q (.ref s.heap.objs.size) { heap := h', gens := s.gens, drawn := s.drawn, toks := s.toks + 1, os := s.os }) :
    wpAny (model prog w) A (Builtin.«zip.__next__» { pos := [.ref z] }) (fun fin s' => ∃ v, fin = Fin.done (Flow.ret v) ∧ Q v s') E s := by
  unfold Builtin.«zip.__next__»
  refine wpAny_bind (m := slotArgs "__next__" 0 _) (wpAny_of_eq (a := ((Value.ref z : Value), ([] : List Value))) (by first | rfl | (simp only [slotArgs]; rfl)) ?_)
  refine wpAny_bind (wpAny_field hz rfl rfl ?_)
  refine wpAny_bind (wpAny_field hz rfl rfl ?_)
  refine wpAny_bind (wpAny_seqItems hTI rfl ?_)
  refine wpAny_bind (m := Builtin.SmallTypes.ownedTupleIsFree (.ref z)) ?_
  unfold Builtin.SmallTypes.ownedTupleIsFree
  refine wpAny_bind (wpAny_field hz rfl rfl (wpAny_pure ?_))
  show wpAny _ _ (rule _ >>= _) _ _ _
  refine wpAny_bind (wpAny_rule ?_)
  refine wpAny_bind (wpAny_field hz rfl rfl ?_)
  refine wpAny_bind (wpAny_setField_rec hz (by show 0 < 5; decide) fun g1 gz1 sb1 => ?_)
  refine wpAny_bind ?_
  rw [show (#[Value.ref i1, Value.ref i2] : Array Value).toList.zipIdx = [(Value.ref i1, 0), (Value.ref i2, 1)] from rfl, List.forIn_cons]
  refine wpAny_bind (wpAny_bind (wpAny_onRaise ?_))
  show wpAny _ _ (Builtin.SmallTypes.nextOf (.ref i1) >>= fun v => pure (some v)) _ _ _
  have x1 := sb1.extBut
  have hl1 : g1.IsList l1 xs := hl.extBut x1 l1z
  refine wpAny_bind (wpAny_nextOf_list_item (h1.extBut x1 i1z) hl1 hx fun g2 it2 sb2 => ?_)
  refine wpAny_pure ?_
  have TO2 : IsPair g2 TO a b := by
    show g2.get? TO = _
    rw [sb2.2 TO TOi1, sb1.2 TO TOz]
    exact hTO
  refine wpAny_bind (wpAny_seqItems TO2 rfl ?_)
  refine wpAny_bind (wpAny_updateSeq_pair TO2 fun g3 gt3 sb3 => ?_)
  refine wpAny_bind (wpAny_letGo ?_)
  refine wpAny_pure ?_
  show wpAny _ _ (forIn [((Value.ref i2 : Value), 1)] ((none : Option PySem.Fin), ()) _) _ _ _
  rw [List.forIn_cons]
  refine wpAny_bind (wpAny_bind (wpAny_onRaise ?_))
  show wpAny _ _ (Builtin.SmallTypes.nextOf (.ref i2) >>= fun v => pure (some v)) _ _ _
  have h23 : g3.IsStrIter i2 ty t tk k2 := ((h2.extBut x1 i2z).extBut sb2.extBut i12.symm).extBut sb3.extBut TOi2.symm
  refine wpAny_bind (nx _ _ _ h23 fun g4 it4 sb4 => ?_)
  refine wpAny_pure ?_
  have TO4 : IsPair g4 TO x b := by
    show g4.get? TO = _
    rw [sb4.2 TO TOi2]
    exact gt3
  refine wpAny_bind (wpAny_seqItems TO4 rfl ?_)
  refine wpAny_bind (wpAny_updateSeq_pair TO4 fun g5 gt5 sb5 => ?_)
  refine wpAny_bind (wpAny_letGo ?_)
  refine wpAny_pure ?_
  show wpAny _ _ (forIn [] ((none : Option PySem.Fin), ()) _) _ _ _
  rw [List.forIn_nil]
  refine wpAny_pure ?_
  refine wpAny_bind (wpAny_seqItems gt5 rfl ?_)
  refine wpAny_bind (wpAny_newTuple ?_ (by show 2 ≤ sizeLine; decide))
  refine wpAny_bind ?_
  unfold Builtin.SmallTypes.ownedTupleHandOut
  have gz5 : g5.get? z = some { cls := Value.type "zip", data := Data.fields #[Value.ellipsis, Value.bool false, Value.bool false, Value.ref TI, Value.ref TO] } := by
    rw [sb5.2 z TOz.symm, sb4.2 z i2z.symm, sb3.2 z TOz.symm, sb2.2 z i1z.symm]
    exact gz1
  show wpAny _ _ (setField (.ref z) 0 (rawInt ↑g5.objs.size) >>= fun _ => setField (.ref z) 1 (.bool false)) _ _ _
  have zlt : z < g5.objs.size := Heap.lt_size gz5
  refine wpAny_bind (wpAny_setField_rec (Heap.get?_push_of_some _ gz5) (by show 0 < 5; decide) fun g6 gz6 sb6 => ?_)
  refine wpAny_setField_rec gz6 (by show 1 < 5; decide) fun g7 gz7 sb7 => ?_
  refine wpAny_pure ⟨_, rfl, ?_⟩
  have sz : g5.objs.size = s.heap.objs.size := by rw [sb5.1, sb4.1, sb3.1, sb2.1, sb1.1]
  rw [← sz] at q
  have at7 : ∀ e : Addr, e ≠ z → g7.get? e = (g5.push { cls := Value.type "tuple", data := Data.seq (#[x, b].setIfInBounds 1 (.str ⟨#[c]⟩ s.toks)).toList.toArray }).get? e := fun e he => by
    rw [sb7.2 e he, sb6.2 e he]
  refine q g7 gz7 ?_ ?_ ?_ ?_ ?_ ?_
  · show g7.get? TO = _
    rw [at7 TO TOz]
    exact Heap.get?_push_of_some _ gt5
  · have y := ((it2.extBut sb3.extBut TOi1.symm).extBut sb4.extBut i12).extBut sb5.extBut TOi1.symm
    obtain ⟨o, h, c1, c2⟩ := y
    exact ⟨o, by rw [at7 i1 i1z]; exact Heap.get?_push_of_some _ h, c1, c2⟩
  · obtain ⟨o, h, c1, c2⟩ := it4.extBut sb5.extBut TOi2.symm
    exact ⟨o, by rw [at7 i2 i2z]; exact Heap.get?_push_of_some _ h, c1, c2⟩
  · show g7.get? g5.objs.size = _
    rw [at7 _ (Nat.ne_of_gt zlt)]
    exact Heap.get?_push_size _ rfl
  · rw [sb7.1, sb6.1]
    exact Heap.size_push ..
  · intro e o n1 n2 n3 n4 he
    rw [at7 e n1]
    refine Heap.get?_push_of_some _ ?_
    rw [sb5.2 e n2, sb4.2 e n4, sb3.2 e n2, sb2.2 e n3, sb1.2 e n1]
    exact he
theorem zipS_next_end {z TI TO i1 i2 l1 : Addr} {k1 : Nat} {xs : Array Value} {Q : PySem.Fin → Shared → Prop} (hh : A.handled = none)
    (i1z : i1 ≠ z) (l1z : l1 ≠ z)
    (hz : IsZip s.heap z TI TO .none) (hTI : IsPair s.heap TI (.ref i1) (.ref i2)) (h1 : s.heap.IsListIter i1 l1 k1) (hl : s.heap.IsList l1 xs) (hx : xs[k1]? = none)
    (q : ∀ (h' : Heap) (e : Addr), (∀ (c : Addr) (o : Obj), c ≠ z → c ≠ TO → c ≠ i1 → c ≠ i2 → s.heap.get? c = some o → h'.get? c = some o) → (∃ o, h'.get? e = some o ∧ o.cls = Value.type "StopIteration") → E (.ref e) { heap := h', gens := s.gens, drawn := s.drawn, toks := s.toks, os := s.os }) :
    wpAny (model prog w) A (Builtin.«zip.__next__» { pos := [.ref z] }) Q E s := by
  unfold Builtin.«zip.__next__»
  refine wpAny_bind (m := slotArgs "__next__" 0 _) (wpAny_of_eq (a := ((Value.ref z : Value), ([] : List Value))) (by first | rfl | (simp only [slotArgs]; rfl)) ?_)
  refine wpAny_bind (wpAny_field hz rfl rfl ?_)
  refine wpAny_bind (wpAny_field hz rfl rfl ?_)
  refine wpAny_bind (wpAny_seqItems hTI rfl ?_)
  refine wpAny_bind (m := Builtin.SmallTypes.ownedTupleIsFree (.ref z)) ?_
  unfold Builtin.SmallTypes.ownedTupleIsFree
  refine wpAny_bind (wpAny_field hz rfl rfl (wpAny_pure ?_))
  show wpAny _ _ (rule _ >>= _) _ _ _
  refine wpAny_bind (wpAny_rule ?_)
  refine wpAny_bind (wpAny_field hz rfl rfl ?_)
  refine wpAny_bind (wpAny_setField_rec hz (by show 0 < 5; decide) fun g1 gz1 sb1 => ?_)
  refine wpAny_bind ?_
  rw [show (#[Value.ref i1, Value.ref i2] : Array Value).toList.zipIdx = [(Value.ref i1, 0), (Value.ref i2, 1)] from rfl, List.forIn_cons]
  refine wpAny_bind (wpAny_bind (wpAny_onRaise ?_))
  show wpAny _ _ (Builtin.SmallTypes.nextOf (.ref i1) >>= fun v => pure (some v)) _ _ _
  have x1 := sb1.extBut
  have hl1 : g1.IsList l1 xs := hl.extBut x1 l1z
  refine wpAny_bind (wpAny_nextOf_list_end hh (h1.extBut x1 i1z) hl1 hx fun g2 e x2 so => ?_)
  refine wpAny_setField_rec (x2 z _ i1z.symm gz1) (by show 0 < 5; decide) fun g3 gz3 sb3 => ?_
  refine q g3 e (fun c o n1 n2 n3 n4 hc => ?_) ?_
  · rw [sb3.2 c n1]
    refine x2 c o n3 ?_
    rw [sb1.2 c n1]
    exact hc
  · obtain ⟨o, ho, hc⟩ := so
    by_cases ez : e = z
    · subst ez
      rw [x2 e _ i1z.symm gz1] at ho
      cases ho
      exact absurd (show Value.type "zip" = Value.type "StopIteration" from hc) (by decide)
    · exact ⟨o, by rw [sb3.2 e ez]; exact ho, hc⟩
/-- how an iterator of a text goes on -/
def NxS (prog : Program) (w : World) (ty : String) : Prop := ∀ (A : Around) (E : Value → Shared → Prop) (s : Shared) (it : Addr) (x : Str) (t : Tok) (i c : Nat) (Q : Value → Shared → Prop), s.heap.IsStrIter it ty x t i → x.cps[i]? = some c →
  (∀ h' : Heap, h'.IsStrIter it ty x t (i + 1) → Heap.SameBut it s.heap h' → Q (.str ⟨#[c]⟩ s.toks) { heap := h', gens := s.gens, drawn := s.drawn, toks := s.toks + 1, os := s.os }) → wpAny (model prog w) A (Builtin.SmallTypes.nextOf (.ref it)) Q E s
theorem nxs_ascii : NxS prog w "str_ascii_iterator" := fun _ _ _ _ _ _ _ _ _ h1 h2 h3 => wpAny_nextOf_ascii_item h1 h2 h3
theorem nxs_wide : NxS prog w "str_iterator" := fun _ _ _ _ _ _ _ _ _ h1 h2 h3 => wpAny_nextOf_wide_item h1 h2 h3
theorem pyNext_zipS_item {z TI TO i1 i2 l1 : Addr} {k1 : Nat} {xs : Array Value} {ty : String} {t : Str} {tk : Tok} {x a b : Value} {c : Nat} {Q : Option Value → Shared → Prop}
    (nx : NxS prog w ty) (D : ZipApart z TI TO i1 i2 l1 l1)
    (hz : IsZip s.heap z TI TO .none) (hTI : IsPair s.heap TI (.ref i1) (.ref i2)) (hTO : IsPair s.heap TO a b) (h1 : s.heap.IsListIter i1 l1 k1) (h2 : s.heap.IsStrIter i2 ty t tk k1) (hl : s.heap.IsList l1 xs) (hx : xs[k1]? = some x) (hc : t.cps[k1]? = some c)
    (q : ∀ h' : Heap, IsZip h' z TI TO (rawInt ↑s.heap.objs.size) → IsPair h' TO x (.str ⟨#[c]⟩ s.toks) → h'.IsListIter i1 l1 (k1 + 1) → h'.IsStrIter i2 ty t tk (k1 + 1) → IsPair h' s.heap.objs.size x (.str ⟨#[c]⟩ s.toks) → h'.objs.size = s.heap.objs.size + 1 →
      (∀ (e : Addr) (o : Obj), e ≠ z → e ≠ TO → e ≠ i1 → e ≠ i2 → s.heap.get? e = some o → h'.get? e = some o) → Q (some (.ref s.heap.objs.size)) { heap := h', gens := s.gens, drawn := s.drawn, toks := s.toks + 1, os := s.os }) :
    wpAny (model prog w) A (pyNext (.ref z)) Q E s := by
  have hT : s.TypeIs (.ref z) "zip" := ⟨_, hz, rfl⟩
  unfold pyNext
  exact wpAny_bind (wpAny_attempt (wpAny_callSpecial?_slot hT F.slot_zip_next (wpAny_call_entry F.slot_zip_next hT F.entry_zip_next
    (zipS_next_item (fun s Q E h k => nx _ E s i2 t tk k1 c Q h hc k) D.TIz D.TOz D.i1z D.i2z D.TITO D.TOi1 D.TOi2 D.i12 D.l1z hz hTI hTO h1 h2 hl hx fun h' a1 a2 a3 a4 a5 a6 a7 => wpAny_pure (q h' a1 a2 a3 a4 a5 a6 a7)) (F.args_zip_next_1 (.ref z)))))
theorem pyNext_zipS_end {z TI TO i1 i2 l1 : Addr} {k1 : Nat} {xs : Array Value} {Q : Option Value → Shared → Prop} (hh : A.handled = none) (D : ZipApart z TI TO i1 i2 l1 l1)
    (hz : IsZip s.heap z TI TO .none) (hTI : IsPair s.heap TI (.ref i1) (.ref i2)) (h1 : s.heap.IsListIter i1 l1 k1) (hl : s.heap.IsList l1 xs) (hx : xs[k1]? = none)
    (q : ∀ h' : Heap, (∀ (c : Addr) (o : Obj), c ≠ z → c ≠ TO → c ≠ i1 → c ≠ i2 → s.heap.get? c = some o → h'.get? c = some o) → Q none { heap := h', gens := s.gens, drawn := s.drawn, toks := s.toks, os := s.os }) :
    wpAny (model prog w) A (pyNext (.ref z)) Q E s := by
  have hT : s.TypeIs (.ref z) "zip" := ⟨_, hz, rfl⟩
  unfold pyNext
  exact wpAny_bind (wpAny_attempt (wpAny_callSpecial?_slot hT F.slot_zip_next (wpAny_call_entry F.slot_zip_next hT F.entry_zip_next
    (zipS_next_end hh D.i1z D.l1z hz hTI h1 hl hx fun h' e hk he => by
      obtain ⟨o, ho, hc⟩ := he
      exact wpAny_bind (wpAny_isInstance ⟨o, ho, hc⟩ isSubtype_stop (wpAny_pure (q h' hk)))) (F.args_zip_next_1 (.ref z)))))
def zsH1 (h : Heap) (l1 : Addr) : Heap := h.push { cls := .type "list_iterator", data := .fields #[.ref l1, .int 0 0] }
def zsH2 (h : Heap) (l1 : Addr) (x : Str) (t : Tok) : Heap := (zsH1 h l1).push { cls := .type "str_ascii_iterator", data := .fields #[.str x t, .int 0 0] }
def zsH3 (h : Heap) (l1 : Addr) (x : Str) (t : Tok) : Heap := (zsH2 h l1 x t).push { cls := .type "tuple", data := .seq #[.ref h.objs.size, .ref (zsH1 h l1).objs.size] }
def zsH4 (h : Heap) (l1 : Addr) (x : Str) (t : Tok) : Heap := (zsH3 h l1 x t).push { cls := .type "tuple", data := .seq #[.none, .none] }
def zsH5 (h : Heap) (l1 : Addr) (x : Str) (t : Tok) : Heap := (zsH4 h l1 x t).push { cls := .type "zip", data := .fields #[.none, .bool false, .bool false, .ref (zsH2 h l1 x t).objs.size, .ref (zsH3 h l1 x t).objs.size] }
end
theorem meets_zipS_new (l1 : Addr) (x : Str) (t : Tok) (xs : Array Value) (ha : (x.cps.all fun c => decide (c < 128)) = true) : Meets (Builtin.«zip.__new__» { pos := [.type "zip", .ref l1, .str x t] }) fun _ R s =>
    s.heap.IsList l1 xs ∧ R (Except.ok (Flow.ret (.ref (zsH4 s.heap l1 x t).objs.size))) { heap := zsH5 s.heap l1 x t, gens := s.gens, drawn := s.drawn, toks := s.toks, os := s.os } :=
  Meets.of_wp fun prog w A R s h => by
    obtain ⟨hp, g, d, tk, os⟩ := s
    obtain ⟨hl1, hR⟩ := h
    unfold Builtin.«zip.__new__»
    refine wpAny_bind ?_
    unfold Builtin.SmallTypes.newClass
    refine wpAny_bind (m := isType _) (wpAny_pure ?_)
    refine wpAny_ite_false rfl ?_
    refine wpAny_bind (wpAny_of_eq sub_zip (wpAny_ite_false rfl (wpAny_pure ?_)))
    refine wpAny_ite_false rfl ?_
    refine wpAny_bind (m := Builtin.SmallTypes.iterAll _) ?_
    unfold Builtin.SmallTypes.iterAll
    refine wpAny_bind ?_
    rw [List.forIn_cons]
    refine wpAny_bind (wpAny_bind (wpAny_holding (wpAny_pyIter_list hl1 (wpAny_pure ?_))))
    show wpAny _ _ (forIn [Value.str x t] _ _) _ _ _
    rw [List.forIn_cons]
    refine wpAny_bind (wpAny_bind (wpAny_holding (wpAny_pyIter_ascii ha (wpAny_pure ?_))))
    show wpAny _ _ (forIn [] _ _) _ _ _
    rw [List.forIn_nil]
    refine wpAny_pure (wpAny_pure ?_)
    refine wpAny_bind (wpAny_newTuple ?_ (by show 2 ≤ sizeLine; decide))
    refine wpAny_bind (wpAny_newTuple ?_ (by show 2 ≤ sizeLine; decide))
    refine wpAny_bind ?_
    unfold Builtin.SmallTypes.newRecord
    show wpAny _ _ (newObj _ _) _ _ _
    unfold newObj
    refine wpAny_bind (wpAny_alloc' ?_)
    refine wpAny_pure ?_
    exact wpAny_pure ⟨_, rfl, hR⟩
theorem call_zipS {prog : Program} {w : World} {A : Around} {E : Value → Shared → Prop} {s : Shared} {l1 : Addr} {xs : Array Value} {x : Str} {t : Tok} {Q : Value → Shared → Prop} (ha : (x.cps.all fun c => decide (c < 128)) = true) (hl1 : s.heap.IsList l1 xs)
    (h : ∀ h' : Heap, IsZip h' (s.heap.objs.size + 4) (s.heap.objs.size + 2) (s.heap.objs.size + 3) .none → IsPair h' (s.heap.objs.size + 2) (.ref s.heap.objs.size) (.ref (s.heap.objs.size + 1)) → IsPair h' (s.heap.objs.size + 3) .none .none → h'.IsListIter s.heap.objs.size l1 0 →
      h'.IsStrIter (s.heap.objs.size + 1) "str_ascii_iterator" x t 0 → h'.objs.size = s.heap.objs.size + 5 → (∀ (c : Addr) (o : Obj), s.heap.get? c = some o → h'.get? c = some o) → Q (.ref (s.heap.objs.size + 4)) { heap := h', gens := s.gens, drawn := s.drawn, toks := s.toks, os := s.os }) :
    wpAny (model prog w) A (call (.type "zip") [.ref l1, .str x t]) Q E s := by
  have z1 : (zsH1 s.heap l1).objs.size = s.heap.objs.size + 1 := Heap.size_push ..
  have z2 : (zsH2 s.heap l1 x t).objs.size = s.heap.objs.size + 2 := (Heap.size_push ..).trans (by rw [z1])
  have z3 : (zsH3 s.heap l1 x t).objs.size = s.heap.objs.size + 3 := (Heap.size_push ..).trans (by rw [z2])
  have z4 : (zsH4 s.heap l1 x t).objs.size = s.heap.objs.size + 4 := (Heap.size_push ..).trans (by rw [z3])
  have z5 : (zsH5 s.heap l1 x t).objs.size = s.heap.objs.size + 5 := (Heap.size_push ..).trans (by rw [z4])
  have g5 : (zsH5 s.heap l1 x t).get? (zsH4 s.heap l1 x t).objs.size = _ := Heap.get?_push_size _ rfl
  have g4 : (zsH5 s.heap l1 x t).get? (zsH3 s.heap l1 x t).objs.size = _ := Heap.get?_push_of_some _ (Heap.get?_push_size _ rfl)
  have g3 : (zsH5 s.heap l1 x t).get? (zsH2 s.heap l1 x t).objs.size = _ := Heap.get?_push_of_some _ (Heap.get?_push_of_some _ (Heap.get?_push_size _ rfl))
  have g2 : (zsH5 s.heap l1 x t).get? (zsH1 s.heap l1).objs.size = _ := Heap.get?_push_of_some _ (Heap.get?_push_of_some _ (Heap.get?_push_of_some _ (Heap.get?_push_size _ rfl)))
  have g1 : (zsH5 s.heap l1 x t).get? s.heap.objs.size = _ := Heap.get?_push_of_some _ (Heap.get?_push_of_some _ (Heap.get?_push_of_some _ (Heap.get?_push_of_some _ (Heap.get?_push_size _ rfl))))
  have gk : ∀ (c : Addr) (o : Obj), s.heap.get? c = some o → (zsH5 s.heap l1 x t).get? c = some o := fun c o e => Heap.get?_push_of_some _ (Heap.get?_push_of_some _ (Heap.get?_push_of_some _ (Heap.get?_push_of_some _ (Heap.get?_push_of_some _ e))))
  rw [z1] at g2 g3
  rw [z2] at g3 g5
  rw [z3] at g4 g5
  rw [z4] at g5
  refine callType_new F.called_zip (by decide) (F.typeCall_zip_2 (.ref l1) (.str x t)) (F.newCall_zip_2 (.ref l1) (.str x t)) (fun obj => F.args_object_init_3 obj (.ref l1) (.str x t)) F.entry_zip_new (meets_zipS_new l1 x t xs ha) ⟨hl1, ?_⟩
  show Shared.TypeIs _ (.ref (zsH4 s.heap l1 x t).objs.size) "zip" ∧ Q (.ref (zsH4 s.heap l1 x t).objs.size) _
  rw [z4]
  exact ⟨⟨_, g5, rfl⟩, h _ g5 g3 g4 ⟨_, g1, rfl, rfl⟩ ⟨_, g2, rfl, rfl⟩ z5 gk⟩
/-! ### for one, sign in zip(a list, a text) -/
def ItzS (K : PySem.W.Frag) (a : Addr) (z : Str) : It where
  go i H := ∃ xs x c, SqL K H a xs ∧ xs[i]? = some x ∧ z.cps[i]? = some c
  yld i H v H' := ∃ T x c, v = V.ref T ∧ H T = none ∧ H' = upd H T (.tup [x, .str ⟨#[c]⟩]) ∧ (∀ xs, SqL K H a xs → xs[i]? = some x) ∧ z.cps[i]? = some c
  stop i H := ∃ xs, SqL K H a xs ∧ xs.length ≤ i
theorem walk_zipS {K : PySem.W.Frag} {a : Addr} {xs : List V} {z : Str} (le : xs.length = z.cps.size) :
    Walk (ItzS K a z) xs.length (fun H => SqL K H a xs) (fun i H v H' => ∃ T x c, v = V.ref T ∧ H T = none ∧ H' = upd H T (.tup [x, .str ⟨#[c]⟩]) ∧ xs[i]? = some x ∧ z.cps[i]? = some c) where
  goes i H hi h := ⟨xs, _, _, h, List.getElem?_eq_getElem hi, Array.getElem?_eq_getElem (by omega)⟩
  stops H h := ⟨xs, h, Nat.le_refl _⟩
  yields i H v H' hi h y := by
    obtain ⟨T, x, c, e1, e2, e3, e4, e5⟩ := y
    exact ⟨T, x, c, e1, e2, e3, e4 xs h, e5⟩
theorem turn_zipS {P : Program} {w : World} {K : PySem.W.Frag} {elts : List Expr} {kk : Nat} {tpos : Pos} {a z TI TO i1 i2 : Addr} {x : Str} {t : Tok} (D : ZipApart z TI TO i1 i2 a a) :
    Turn P w K (Expr.Tuple elts kk tpos) (ItzS K a x) [z, TI, TO, i1, i2] z fun i h => IsZip h z TI TO .none ∧ IsPair h TI (.ref i1) (.ref i2) ∧ (∃ x y, IsPair h TO x y) ∧ h.IsListIter i1 a i ∧ h.IsStrIter i2 "str_ascii_iterator" x t i where
  mem := by simp
  obj i h st c hc := by
    obtain ⟨hz, hTI, ⟨u, v, hTO⟩, ⟨o1, e1, _, d1⟩, ⟨o2, e2, _, d2⟩⟩ := st
    simp only [List.mem_cons, List.not_mem_nil, or_false] at hc
    rcases hc with rfl | rfl | rfl | rfl | rfl
    · exact ⟨_, hz, fun v q => nomatch q⟩
    · exact ⟨_, hTI, fun v q => nomatch q⟩
    · exact ⟨_, hTO, fun v q => nomatch q⟩
    · exact ⟨_, e1, fun v q => by rw [d1] at q; cases q⟩
    · exact ⟨_, e2, fun v q => by rw [d2] at q; cases q⟩
  keep i h h' st k := by
    obtain ⟨hz, hTI, ⟨u, v, hTO⟩, ⟨o1, e1, c1, d1⟩, ⟨o2, e2, c2, d2⟩⟩ := st
    exact ⟨k z (by simp) _ hz, k TI (by simp) _ hTI, ⟨u, v, k TO (by simp) _ hTO⟩, ⟨o1, k i1 (by simp) _ e1, c1, d1⟩, ⟨o2, k i2 (by simp) _ e2, c2, d2⟩⟩
  item X hP hw hK hc i pins s σ H E I hf st hg := by
    subst hP
    subst hw
    subst hK
    obtain ⟨hz, hTI, ⟨x0, y0, hTO⟩, h1, h2⟩ := st
    obtain ⟨xs, v, c, hq, hx, hcx⟩ := hg
    obtain ⟨its, rv, p, _⟩ := I.list hq
    obtain ⟨u, hu, ru⟩ := rv.get hx
    have hzl := Heap.lt_size hz
    refine pyNext_zipS_item nxs_ascii D hz hTI hTO h1 h2 p.isList (by rw [List.getElem?_toArray]; exact hu) hcx fun h' z' TO' h1' h2' hT hsz hk => ?_
    refine ⟨.ref s.heap.objs.size, rfl, wpAny_letOwnedTupleGo_zip z' fun h'' z'' sb => ?_⟩
    have hT2 : h''.get? s.heap.objs.size = _ := (sb.2 s.heap.objs.size (Nat.ne_of_gt hzl)).trans hT
    have new : ObjOk X.prog X.w (upd H s.heap.objs.size (.tup [v, .str ⟨#[c]⟩])) h'' s.heap.objs.size (.tup [v, .str ⟨#[c]⟩]) := ⟨by show 2 ≤ sizeLine; decide, [u, .str ⟨#[c]⟩ s.toks], .cons ru (.cons ⟨_, rfl⟩ .nil), ⟨_, hT2, rfl, 0, rfl⟩⟩
    have I1 := I.turnedNew (h' := h'') (t' := s.toks + 1) (ch := [z, TI, TO, i1, i2]) (T := s.heap.objs.size) (ob := .tup [v, .str ⟨#[c]⟩]) (fun e o hb q => by
      simp only [List.mem_cons, List.not_mem_nil, or_false, not_or] at hb
      rw [sb.2 e hb.1]
      exact hk e o hb.1 hb.2.2.1 hb.2.2.2.1 hb.2.2.2.2 q) hf (Nat.le_refl _) new
    have fr : H s.heap.objs.size = none := I.hok.fresh (Nat.le_refl _)
    have lt : ∀ b : Addr, b ∈ [z, TI, TO, i1, i2] → b ≠ s.heap.objs.size := fun b hb => by
      simp only [List.mem_cons, List.not_mem_nil, or_false] at hb
      obtain ⟨o1, e1, _⟩ := h1
      obtain ⟨o2, e2, _⟩ := h2
      rcases hb with rfl | rfl | rfl | rfl | rfl
      · exact Nat.ne_of_lt hzl
      · exact Nat.ne_of_lt (Heap.lt_size hTI)
      · exact Nat.ne_of_lt (Heap.lt_size hTO)
      · exact Nat.ne_of_lt (Heap.lt_size e1)
      · exact Nat.ne_of_lt (Heap.lt_size e2)
    refine ⟨.ref _, _, I1, rfl, ⟨_, v, c, rfl, fr, rfl, fun xs2 q2 => by rw [I.list_inj q2 hq]; exact hx, hcx⟩, ⟨z'', (sb.2 TI D.TIz).trans (hk TI _ D.TIz D.TITO D.TIi1 D.TIi2 hTI), ⟨_, _, (sb.2 TO D.TOz).trans TO'⟩, h1'.extBut sb.extBut D.i1z, h2'.extBut sb.extBut D.i2z⟩, fun b hb => ?_⟩
    rw [upd_ne (lt b hb)]
    exact (hf b hb).1
  done X hP hw hK hc i pins s σ H E I hf st hg := by
    subst hP
    subst hw
    subst hK
    obtain ⟨hz, hTI, _, h1, h2⟩ := st
    obtain ⟨xs, hq, hle⟩ := hg
    obtain ⟨its, rv, p, _⟩ := I.list hq
    have hl := rv.length
    refine pyNext_zipS_end (I.ok.hd hc) D hz hTI h1 p.isList (by rw [List.getElem?_toArray]; exact List.getElem?_eq_none (by omega)) fun h' hk => ⟨rfl, I.turnedL (ch := [z, TI, TO, i1, i2]) (fun e o hb q => ?_) hf⟩
    simp only [List.mem_cons, List.not_mem_nil, or_false, not_or] at hb
    exact hk e o hb.1 hb.2.2.1 hb.2.2.2.1 hb.2.2.2.2 q
  self A i s Q E st h := wpAny_pyIter_zip st.1 h
def iZipS (K : PySem.W.Frag) (ta : TA) : TI := fun σ H R => ta σ H fun vs H1 => ∃ a xs z, vs = [V.ref a, .str z] ∧ SqL K H1 a xs ∧ (z.cps.all fun c => decide (c < 128)) = true ∧ R (ItzS K a z) H1
theorem pi_zipS {X : Cx} {e e2 : Expr} {ta : TA} {p pos tpos : Pos} {elts : List Expr} {kk : Nat} (hg : Gl X "zip") (hm : X.mg "zip" = none) (ha : PA X [e, e2] ta)
    (hs : starEach [e, e2] X.env = (false, eval e X.env) :: starEach [e2] X.env := by rfl) (hpl : (backTo pos (starEach [e2] X.env)).any (·.1) = false := by rfl) :
    PI X (.Tuple elts kk tpos) (.Call (.Name "zip" p) [e, e2] [] pos) (iZipS X.K ta) := by
  refine ⟨fun pins s σ H R I h => ?_⟩
  refine Call_ (ld_blt I hg hm boot_zip (PyProof.Rows.callWith_type1 (thn (ha.run pos pins s σ H _ I h) fun us s1 ⟨vs, H1, I1, r1, q1⟩ => ?_) hs hpl))
  obtain ⟨a, xs, z, ev, hq, hz, q⟩ := q1
  subst ev
  cases r1 with
  | cons r rr =>
    cases rr with
    | cons r' rr =>
      cases rr
      obtain ⟨t', rfl⟩ := r'
      cases (show _ = Value.ref a from r)
      obtain ⟨its, rv, pl, _⟩ := I1.list hq
      refine call_zipS hz pl.isList fun h' a1 a2 a3 a4 a5 a6 a7 => wpAny_pyIter_zip a1 ?_
      have fp : ∀ b : Addr, b ∈ [s1.heap.objs.size + 4, s1.heap.objs.size + 2, s1.heap.objs.size + 3, s1.heap.objs.size, s1.heap.objs.size + 1] → s1.heap.objs.size ≤ b := fun b hb => by
        simp only [List.mem_cons, List.not_mem_nil, or_false] at hb
        rcases hb with rfl | rfl | rfl | rfl | rfl <;> omega
      exact ⟨_, _, _, ItzS X.K a z, H1, rfl, I1.kept (t' := s1.toks) a7, turn_zipS (W.ktu_apart _ a a pl.lt pl.lt), ⟨a1, a2, ⟨_, _, a3⟩, a4, a5⟩, fun b hb => I1.fpOk (fp b hb) (I1.hok.fresh (fp b hb)), q⟩
end Lp
set_option Elab.async false
set_option linter.all false
set_option maxRecDepth 100000
namespace Lp
open PySem PySem.Spec PyProof.Rows L2
/-! ### set(a list of ints) -/
theorem call_set_listI {P : Program} {w : World} {A : Around} {E : Value → Shared → Prop} {s : Shared} {l : Addr} {items : Array Value} (ns : List Int) {Q : Value → Shared → Prop} (hh : A.handled = none) (hl : s.heap.IsList l items) (hit : IntsAre items.toList ns) (hb : ns.length + 1 < scanBound)
    (h : ∀ (h' : Heap) (tk c : Nat), SetR w h' s.heap.objs.size (fun j => decide (j ∈ ns)) c → c ≤ ns.length → (∀ (b : Addr) (o : Obj), s.heap.get? b = some o → h'.get? b = some o) → Q (.ref s.heap.objs.size) { heap := h', gens := s.gens, drawn := s.drawn, toks := tk, os := s.os }) :
    wpAny (model P w) A (call (.type "set") [.ref l]) Q E s := by
  have hisz : items.size = ns.length := by
    have q := hit.length
    rwa [Array.length_toList] at q
  obtain ⟨c, tl, hmro⟩ := F.called_set.mro
  have hmade := F.called_set.made
  have hsub := F.called_set.sub
  refine wpAny_call (codeAny_of_tree ?_)
  refine wpAny_pure ⟨Code.quiet_builtin _ (by decide +kernel), codeAny_builtin F.entry_type_call ?_⟩
  rw [Around.under_plain (weight_type_call_type "set" [.ref l] []) rfl]
  have h1 := F.called_set.notType
  have h2 := F.called_set.canCreate
  have hct := F.typeCall_set_1 (.ref l)
  unfold Builtin.«type.__call__»
  refine wpAny_ite_false rfl (wpAny_ite_false rfl ?_)
  refine wpAny_bind (wpAny_of_eq hct ?_)
  refine wpAny_bind (wpAny_of_eq hmro (wpAny_ite_false rfl ?_))
  refine wpAny_bind (wpAny_of_eq hmade ?_)
  refine wpAny_bind (wpAny_pure (wpAny_bind (wpAny_holding (wpAny_call (codeAny_mono (code_set_led1 (.ref l) (Q₁ := fun obj s₁ => obj = .ref s.heap.objs.size ∧ s₁ = { heap := s.heap.push { cls := .type "set", data := .set #[] 0 (SetTable.fresh 0 0 !w.params.followText "set-order") }, gens := s.gens, drawn := s.drawn, toks := s.toks, os := s.os }) (E := E) ⟨rfl, rfl⟩) fun r s₁ hr => ?_)))))
  cases r with
  | error e => exact hr
  | ok fl =>
    cases fl with
    | next => exact hr.elim
    | brk => exact hr.elim
    | cont => exact hr.elim
    | ret v =>
      obtain ⟨rfl, rfl⟩ := hr
      have hS : (s.heap.push { cls := .type "set", data := .set #[] 0 (SetTable.fresh 0 0 !w.params.followText "set-order") }).get? s.heap.objs.size = _ := Heap.get?_push_size s.heap rfl
      have hT : Shared.TypeIs { heap := s.heap.push { cls := .type "set", data := .set #[] 0 (SetTable.fresh 0 0 !w.params.followText "set-order") }, gens := s.gens, drawn := s.drawn, toks := s.toks, os := s.os } (.ref s.heap.objs.size) "set" := ⟨_, hS, rfl⟩
      have hli := F.called_set.init.lookup
      have hbi := F.called_set.init.bind (.ref s.heap.objs.size)
      refine wpAny_bind (wpAny_isInstance hT hsub (wpAny_ite_false rfl (wpAny_bind (wpAny_holding ?_))))
      unfold callSpecial?
      refine wpAny_bind (wpAny_specialOf hT hli (wpAny_holding (wpAny_bind (wpAny_of_eq hbi (wpAny_bind (wpAny_call (codeAny_mono (R := wants (fun r s₂ => r = Value.none ∧ ∃ h' tk c, s₂ = { heap := h', gens := s.gens, drawn := s.drawn, toks := tk, os := s.os } ∧ SetR w h' s.heap.objs.size (fun j => decide (j ∈ ns)) c ∧ c ≤ ns.length ∧ ∀ (b : Addr) (o : Obj), s.heap.get? b = some o → h'.get? b = some o) E) (codeAny_call_builtin F.called_set.init.plain F.entry_set_init (check_set_init_1 hT ?_)) fun r s₂ hr => ?_)))))))
      · obtain ⟨ol, hol, hcl, nl, hdl⟩ := hl
        obtain ⟨ocls, odict, odata, oslots⟩ := ol
        cases (show ocls = Value.type "list" from hcl)
        cases (show odata = Data.seq items nl from hdl)
        have hol' := Heap.get?_push_of_some { cls := .type "set", data := .set #[] 0 (SetTable.fresh 0 0 !w.params.followText "set-order") } hol
        have hsls := F.sub_list_set
        have hslf := F.sub_list_frozenset
        have hl1 : (s.heap.push { cls := .type "set", data := .set #[] 0 (SetTable.fresh 0 0 !w.params.followText "set-order") }).IsList l items := ⟨_, hol', rfl, nl, rfl⟩
        unfold Builtin.«set.__init__»
        refine wpAny_bind (wpAny_ite_true rfl (wpAny_pure ?_))
        refine wpAny_bind (wpAny_bind (wpAny_bind (wpAny_typeOf hT (wpAny_ite_false rfl (wpAny_pure (wpAny_pure ?_))))))
        refine wpAny_bind ?_
        unfold checkCount
        refine wpAny_ite_false rfl (wpAny_ite_false rfl (wpAny_ite_false rfl (wpAny_pure ?_)))
        refine wpAny_bind ?_
        unfold Builtin.Frozenset.addrOf
        refine wpAny_pure ?_
        refine wpAny_bind ?_
        unfold setUsed
        refine wpAny_bind ?_
        unfold setState
        refine wpAny_bind (wpAny_load' hS (wpAny_ite_false rfl (wpAny_pure (wpAny_pure (wpAny_ite_false rfl ?_)))))
        refine wpAny_bind ?_
        unfold Builtin.Frozenset.updateFrom
        refine wpAny_bind ?_
        unfold Builtin.Frozenset.isAnySet
        refine wpAny_bind (m := isInstance (.ref l) (.type "set")) (wpAny_isInstance hl1.typeIs hsls ?_)
        show wpAny _ _ (isInstance (.ref l) (.type "frozenset")) _ _ _
        refine wpAny_isInstance hl1.typeIs hslf ?_
        refine wpAny_ite_false rfl ?_
        refine wpAny_bind (wpAny_typeOf hl1.typeIs (wpAny_ite_false rfl ?_))
        refine wpAny_bind (wpAny_pyIter_list hl1 ?_)
        refine wpAny_bind (wpAny_runValue ?_)
        have hlS := Heap.lt_size hol
        have hneI : l ≠ (s.heap.push { cls := .type "set", data := .set #[] 0 (SetTable.fresh 0 0 !w.params.followText "set-order") }).objs.size := by
          rw [Heap.size_push]
          exact Nat.ne_of_lt (Nat.lt_succ_of_lt hlS)
        have hSf : ¬ s.heap.objs.size ∈ [(s.heap.push { cls := .type "set", data := .set #[] 0 (SetTable.fresh 0 0 !w.params.followText "set-order") }).objs.size, l] := by
          rw [Heap.size_push]
          intro hm
          rcases List.mem_cons.mp hm with e | e
          · exact Nat.ne_of_lt (Nat.lt_succ_self _) e
          · exact Nat.ne_of_gt hlS (List.mem_singleton.mp e)
        have hval : ∀ (i : Nat) (v : Value), items[i]? = some v → ∃ k t, ns[i]? = some k ∧ v = Value.int k t := fun i v hv => by
          have hi : i < ns.length := by
            rw [← hisz]
            exact (Array.getElem?_eq_some_iff.mp hv).1
          obtain ⟨t, e⟩ := hit.int_at i v (by rw [Array.getElem?_toList]; exact hv)
          exact ⟨ns[i], t, List.getElem?_eq_getElem hi, by rw [e, List.getD_eq_getElem?_getD, List.getElem?_eq_getElem hi]; rfl⟩
        refine set_update_ints (Walks.toS (Walks.list (A := A.in1.in1.in1) (show A.in1.in1.in1.handled = none from hh) _ l hneI items)) s.heap.objs.size hSf ns hisz hb hval (items.size - 0) 0 _ rfl (Nat.zero_le _) ⟨⟨_, Heap.get?_push_size _ rfl, rfl, rfl⟩, hl1.push _⟩ ⟨0, Nat.le_refl 0, setR_new_at (Heap.get?_push_of_some _ hS)⟩ fun s' c' hm hc' hS' => ?_
        obtain ⟨h', g2, d', tk', os'⟩ := s'
        have eg := hm.gens
        have ed := hm.drawn
        have eo := hm.os
        cases eg
        cases ed
        cases eo
        have hk : ∀ (b : Addr) (o : Obj), s.heap.get? b = some o → h'.get? b = some o := fun b o e => by
          have hlt := Heap.lt_size e
          refine hm.heap b o ?_ (Heap.get?_push_of_some _ (Heap.get?_push_of_some _ e))
          intro hb'
          rcases List.mem_cons.mp hb' with e1 | e1
          · exact Nat.ne_of_lt hlt e1
          · rw [List.mem_singleton] at e1
            have e2 : b = s.heap.objs.size + 1 := e1.trans (Heap.size_push ..)
            rw [e2] at hlt
            exact absurd hlt (Nat.not_lt_of_le (Nat.le_succ _))
        exact wpAny_pure (wpAny_pure ⟨rfl, h', tk', c', rfl, hS', by rw [← hisz]; exact hc', hk⟩)
      · cases r with
        | error e => exact hr
        | ok fl =>
          cases fl with
          | next => exact hr.elim
          | brk => exact hr.elim
          | cont => exact hr.elim
          | ret v =>
            obtain ⟨rfl, h', tk, c', rfl, hs, hc, hk⟩ := hr
            exact wpAny_pure (wpAny_ite_false rfl (wpAny_pure (h h' tk c' hs hc hk)))
def rSetL (K : PySem.W.Frag) (w : World) : List V → Hp → VK → Prop := fun xs H Q => ∃ (a : Addr) (ns : List Int), xs = [V.ref a] ∧ SqL K H a (ns.map V.int) ∧ ns.length ≤ 60 ∧ ∀ (p : Addr) (c : Nat), H p = none → c ≤ ns.length → Q (.ref p) (upd H p (SetO w p (fun j => decide (j ∈ ns)) c))
theorem cr_setL {X : Cx} (hc : X.calm = true) : CallR X (.type "set") (rSetL X.K X.w) := by
  intro pins s σ H xs us Q I r h
  obtain ⟨a, ns, rfl, hq, hl, q⟩ := h
  cases r with
  | cons r rr =>
    cases rr
    cases (show _ = Value.ref a from r)
    obtain ⟨its, rv, p, _⟩ := I.list hq
    refine call_set_listI ns (I.ok.hd hc) p.isList (RZ.intsAre_vals rv) (Nat.lt_of_le_of_lt (Nat.succ_le_succ hl) (by decide)) fun h' tk c hs hcn hk => ?_
    refine ⟨.ref _, upd H _ (SetO X.w s.heap.objs.size (fun j => decide (j ∈ ns)) c), I.laid hk (Nat.le_refl _) ⟨hs, ?_, fun h1 h2 x k => ?_⟩, rfl, q _ c (I.hok.fresh (Nat.le_refl _)) hcn⟩
    · obtain ⟨o, _, _, _, e, _⟩ := hs
      exact ⟨o, e⟩
    · obtain ⟨o, es, ep, t, e, r⟩ := x
      exact ⟨o, es, ep, t, k o e, r⟩
theorem op_ltLL {X : Cx} (hu : X.A.units + 64 < cLine) : OpR X (compareOp .Lt) (fun x y H Q => ∃ (a b : Addr) (xs ys : List Int), x = V.ref a ∧ y = V.ref b ∧ SqL X.K H a (xs.map V.int) ∧ SqL X.K H b (ys.map V.int) ∧ Q (.bl (HT.lexLt xs ys)) H) := by
  intro pins s σ H x y v u Q I r1 r2 h
  obtain ⟨a, b, xs, ys, rfl, rfl, h1, h2, q⟩ := h
  cases (show v = Value.ref a from r1)
  cases (show u = Value.ref b from r2)
  obtain ⟨its, rv, p, _⟩ := I.list h1
  obtain ⟨its2, rv2, p2, _⟩ := I.list h2
  have ia := RZ.intsAre_vals rv
  have ib := RZ.intsAre_vals rv2
  have l1 := ia.length
  have l2 := ib.length
  show wpAny _ _ (richCompare .Lt _ _) _ _ s
  refine SeqAt.RcLt.lists (e := fun j => xs.getD j 0 == ys.getD j 0) (r := fun j => decide (xs.getD j 0 < ys.getD j 0)) p.isList p2.isList (by omega) (fun j h1 h2 => ?_) (fun j h1 h2 _ => ?_) _ _ _ _ ?_
  · obtain ⟨t, e⟩ := ints_at ia j (by simpa using h1)
    obtain ⟨t', e'⟩ := ints_at ib j (by simpa using h2)
    rw [List.getElem_toArray, List.getElem_toArray, e, e']
    exact SeqAt.EqAt.int_int _ t _ t'
  · obtain ⟨t, e⟩ := ints_at ia j (by simpa using h1)
    obtain ⟨t', e'⟩ := ints_at ib j (by simpa using h2)
    rw [List.getElem_toArray, List.getElem_toArray, e, e']
    exact rcLt_int _ _ _ t _ t'
  · rw [List.size_toArray, List.size_toArray, l1, l2, first_lex]
    exact ⟨.bl _, H, I, rfl, q⟩
end Lp
set_option Elab.async false
set_option linter.all false
set_option maxRecDepth 100000
namespace Lp
open PySem PySem.Spec PyProof.Rows L2
/-! ### a space, so many times -/
def spc (n : Nat) : Str := ⟨(List.replicate n 32).toArray⟩
theorem spc1 : spc 1 = (" " : Str) := by decide +kernel
theorem spc_len (n : Nat) : (spc n).length = n := by
  show ((List.replicate n 32).toArray).size = n
  rw [List.size_toArray, List.length_replicate]
section
variable {X : Cx}
theorem op_repB : OpR X (binaryOp .Mult) (fun x y H Q => ∃ n : Nat, x = .str (" " : Str) ∧ y = .int (n : Int) ∧ n ≤ 1000 ∧ Q (.str (spc n)) H) := by
  intro pins s σ H x y v u Q I r1 r2 h
  obtain ⟨n, e1, e2, hn, q⟩ := h
  subst e1; subst e2
  obtain ⟨t, rfl⟩ := r1
  obtain ⟨t', rfl⟩ := r2
  have hz : (" " : Str).length = 1 := by decide +kernel
  have hc : (" " : Str).cps = [32].toArray := by decide +kernel
  refine PySem.P.mul_str ?_ (fun c _ => ?_) (fun _ _ => ?_) ?_
  · rw [decide_eq_false (show ¬ (n : Int) < -(2 ^ 63 : Int) by omega), decide_eq_false (show ¬ (n : Int) ≥ 2 ^ 63 by omega)]
    rfl
  · rw [hz]
    have := (Int.le_ediv_iff_mul_le (show (0 : Int) < n by omega)).mpr (show ((1 : Nat) : Int) * (n : Int) ≤ 2 ^ 63 - 1 by omega)
    omega
  · rw [hz]
    unfold Builtin.Str.tooLong
    refine decide_eq_false ?_
    have e : (n : Int).toNat = n := rfl
    have z := zs (show n ≤ 100000 by omega)
    omega
  · by_cases h0 : n = 0
    · subst h0
      rw [if_pos (by decide)]
      exact ⟨by decide, .str _, H, I.tok _, ⟨_, rfl⟩, q⟩
    · rw [if_neg (show ¬ (n : Int) < 1 by omega), hz]
      by_cases h1 : n = 1
      · subst h1
        rw [if_pos (by rfl)]
        rw [spc1] at q
        exact ⟨.str _, H, I, ⟨_, rfl⟩, q⟩
      · have hb : ((n : Int) == 1 || (1 : Nat) == 0) = false := by
          rw [beq_eq_false_iff_ne.mpr (show (n : Int) ≠ 1 by omega)]
          rfl
        rw [hb, if_neg Bool.false_ne_true]
        have e : (n : Int).toNat = n := rfl
        have f0 : List.foldl (fun x1 x2 => x1 ++ x2) #[] (List.replicate n [32].toArray) = (List.replicate n 32).toArray := by
          have := foldl_repN [32] n []
          rw [List.nil_append] at this
          rw [this]
          congr 1
          clear this hb h1 h0 q
          induction n with
          | zero => rfl
          | succ m ih => rw [List.replicate_succ, List.flatten_cons, ih (by omega) rfl, List.replicate_succ]; rfl
        rw [e, hc, f0]
        exact ⟨by rw [show (⟨(List.replicate n 32).toArray⟩ : Str).length = n from spc_len n]; exact zs (by omega), .str _, H, I.tok _, ⟨_, rfl⟩, q⟩
/-! ### an int, written in a form -/
def FmtI (i : Int) (sp y : Str) : Prop := ∀ (prog : Program) (w : World) (A : Around) (E : Value → Shared → Prop) (s : Shared) (t : Tok) (Q : Value → Shared → Prop), (∀ t' k, Q (.str y t') { s with toks := k }) → wpAny (model prog w) A (formatField (.int i t) sp) Q E s
def tFmtS (te ts : TE) : TE := fun σ H Q => te σ H fun x H1 => ts σ H1 fun y H2 => ∃ (i : Int) (f z : Str), x = .int i ∧ y = .str f ∧ FmtI i f z ∧ Q (.str z) H2
theorem pe_fmtS {e sp : Expr} {te ts : TE} {pos : Pos} (he : PE X e te) (hs : PE X sp ts) : PE X (.FormattedValue e (-1) (some sp) pos) (tFmtS te ts) := by
  refine ⟨fun pins s σ H Q I h => ?_⟩
  refine wpAny_FormattedValue_spec (thn (he.run pins s σ H _ I h) fun v s1 ⟨x, H1, I1, r1, q1⟩ => thn (hs.run pins s1 σ H1 _ I1 q1) fun u s2 ⟨y, H2, I2, r2, i, f, z, e1, e2, hf, q⟩ => ?_)
  subst e1
  subst e2
  obtain ⟨t, rfl⟩ := r1
  obtain ⟨t', rfl⟩ := r2
  exact ⟨f, t', rfl, hf _ _ _ _ _ _ _ fun _ _ => ⟨.str z, H2, I2.tok _, ⟨_, rfl⟩, q⟩⟩
end
open Builtin Builtin.Int Builtin.Float in
def fmF (f : FormatSpec) (i : Int) : Str := intField' f (decide (i < 0)) [] ((Nat.toDigits 10 i.natAbs).map fun c => (if (100 : Nat) == 88 then c.toUpper else c).toNat) [] 3
abbrev fs3 : Builtin.Float.FormatSpec := { align := 62, width := some 3 }
abbrev fs4 : Builtin.Float.FormatSpec := { align := 62, width := some 4 }
abbrev fs5 : Builtin.Float.FormatSpec := { align := 62, width := some 5, sign := some 43 }
abbrev fsD : Builtin.Float.FormatSpec := { align := 62, sign := some 43, type := some 100 }
section
open Builtin Builtin.Int Builtin.Float PySem.W
theorem par3 : parseFormatSpec (">3" : Str).cps.toList "int" 62 = .ok fs3 := by kernel_rfl
theorem par4 : parseFormatSpec (">4" : Str).cps.toList "int" 62 = .ok fs4 := by kernel_rfl
theorem par5 : parseFormatSpec (">+5" : Str).cps.toList "int" 62 = .ok fs5 := by kernel_rfl
theorem parD : parseFormatSpec ("+d" : Str).cps.toList "int" 62 = .ok fsD := by kernel_rfl
theorem fmt_3 {i : Int} (hi : i.natAbs.log2 < 1920) (hl : (fmF fs3 i).length ≤ sizeLine) : FmtI i (">3" : Str) (fmF fs3 i) := by
  intro prog w A E s t Q h
  refine KXf.field_int rfl (by decide +kernel) (by decide +kernel) (fun u => KPc.meets_of ?_) h
  intro _ _ _ _ _ _ hh
  unfold Builtin.«int.__format__»; refine wpAny_bind (wpAny_of_eq (a := (_, _)) rfl (wpAny_bind (wpAny_of_eq (a := _) rfl ?_)))
  kxf_if; refine wpAny_bind (wpAny_typeNameOf (T := "str") (typeIs_str _ _ _) (by decide) fun _ => wpAny_bind (wpAny_of_eq (a := some _) rfl ?_))
  kxf_if; kxf_if; refine wpAny_bind (wpAny_typeNameOfCut_int ?_); rw [par3]
  have e100 : (none : Option Nat).getD (if ((">3" : Str).cps.back? == some 0) = true then 0 else 100) = 100 := by decide +kernel
  dsimp only
  rw [e100]
  refine wpAny_ite (KPc.ite_yes (by decide +kernel) ?_)
  refine wpAny_bind (m := Builtin.overDigitLimit? i) (wpAny_of_eq (PySem.overDigitLimit_small hi) (KXf.ret_text (T := fmF fs3 i) rfl hl ?_))
  assumption
theorem fmt_4 {i : Int} (hi : i.natAbs.log2 < 1920) (hl : (fmF fs4 i).length ≤ sizeLine) : FmtI i (">4" : Str) (fmF fs4 i) := by
  intro prog w A E s t Q h
  refine KXf.field_int rfl (by decide +kernel) (by decide +kernel) (fun u => KPc.meets_of ?_) h
  intro _ _ _ _ _ _ hh
  unfold Builtin.«int.__format__»; refine wpAny_bind (wpAny_of_eq (a := (_, _)) rfl (wpAny_bind (wpAny_of_eq (a := _) rfl ?_)))
  kxf_if; refine wpAny_bind (wpAny_typeNameOf (T := "str") (typeIs_str _ _ _) (by decide) fun _ => wpAny_bind (wpAny_of_eq (a := some _) rfl ?_))
  kxf_if; kxf_if; refine wpAny_bind (wpAny_typeNameOfCut_int ?_); rw [par4]
  have e100 : (none : Option Nat).getD (if ((">4" : Str).cps.back? == some 0) = true then 0 else 100) = 100 := by decide +kernel
  dsimp only
  rw [e100]
  refine wpAny_ite (KPc.ite_yes (by decide +kernel) ?_)
  refine wpAny_bind (m := Builtin.overDigitLimit? i) (wpAny_of_eq (PySem.overDigitLimit_small hi) (KXf.ret_text (T := fmF fs4 i) rfl hl ?_))
  assumption
theorem fmt_5 {i : Int} (hi : i.natAbs.log2 < 1920) (hl : (fmF fs5 i).length ≤ sizeLine) : FmtI i (">+5" : Str) (fmF fs5 i) := by
  intro prog w A E s t Q h
  refine KXf.field_int rfl (by decide +kernel) (by decide +kernel) (fun u => KPc.meets_of ?_) h
  intro _ _ _ _ _ _ hh
  unfold Builtin.«int.__format__»; refine wpAny_bind (wpAny_of_eq (a := (_, _)) rfl (wpAny_bind (wpAny_of_eq (a := _) rfl ?_)))
  kxf_if; refine wpAny_bind (wpAny_typeNameOf (T := "str") (typeIs_str _ _ _) (by decide) fun _ => wpAny_bind (wpAny_of_eq (a := some _) rfl ?_))
  kxf_if; kxf_if; refine wpAny_bind (wpAny_typeNameOfCut_int ?_); rw [par5]
  have e100 : (none : Option Nat).getD (if ((">+5" : Str).cps.back? == some 0) = true then 0 else 100) = 100 := by decide +kernel
  dsimp only
  rw [e100]
  refine wpAny_ite (KPc.ite_yes (by decide +kernel) ?_)
  refine wpAny_bind (m := Builtin.overDigitLimit? i) (wpAny_of_eq (PySem.overDigitLimit_small hi) (KXf.ret_text (T := fmF fs5 i) rfl hl ?_))
  assumption
theorem fmt_D {i : Int} (hi : i.natAbs.log2 < 1920) (hl : (fmF fsD i).length ≤ sizeLine) : FmtI i ("+d" : Str) (fmF fsD i) := by
  intro prog w A E s t Q h
  refine KXf.field_int rfl (by decide +kernel) (by decide +kernel) (fun u => KPc.meets_of ?_) h
  intro _ _ _ _ _ _ hh
  unfold Builtin.«int.__format__»; refine wpAny_bind (wpAny_of_eq (a := (_, _)) rfl (wpAny_bind (wpAny_of_eq (a := _) rfl ?_)))
  kxf_if; refine wpAny_bind (wpAny_typeNameOf (T := "str") (typeIs_str _ _ _) (by decide) fun _ => wpAny_bind (wpAny_of_eq (a := some _) rfl ?_))
  kxf_if; kxf_if; refine wpAny_bind (wpAny_typeNameOfCut_int ?_); rw [parD]
  have e100 : (some 100 : Option Nat).getD (if (("+d" : Str).cps.back? == some 0) = true then 0 else 100) = 100 := by decide +kernel
  dsimp only
  rw [e100]
  refine wpAny_ite (KPc.ite_yes (by decide +kernel) ?_)
  refine wpAny_bind (m := Builtin.overDigitLimit? i) (wpAny_of_eq (PySem.overDigitLimit_small hi) (KXf.ret_text (T := fmF fsD i) rfl hl ?_))
  assumption
end
end Lp
set_option Elab.async false
set_option linter.all false
set_option maxRecDepth 100000
namespace Lp
open PySem PySem.Spec PyProof.Rows L2
/-! ### dict comprehensions over a range -/
theorem dc_range {lo : Int} {n : Nat} {g : TG} {tt : TT} {tk tv : TE} {vs : List Nat} {σ : L2.St} {H1 : Hp} {D : Addr} {Qd : Hp → Prop} (Pv : Nat → Hp → Prop) (h0 : Pv 0 (upd H1 D (.dK [])))
    (hs : ∀ (i : Nat) (H : Hp), i < n → Pv i H → g (.int (lo + i)) (wipe σ vs) H fun σ2 H2 => wipe σ2 vs = wipe σ vs ∧ tt σ2 H2 fun b H3 =>
      if b = true then tk σ2 H3 fun y H4 => tv σ2 H4 fun z H5 => ∃ kvs k, y = kV k ∧ H5 D = some (.dK kvs) ∧ kvs.length < sizeLine ∧ Pv (i + 1) (upd H5 D (.dK (putK kvs k z))) else Pv (i + 1) H3) (hd : ∀ H, Pv n H → Qd H) :
    ∃ W : Nat → Nat → Hp → Prop, (∃ m, W 0 m (upd H1 D (.dK []))) ∧ ∀ i m H, W i m H →
      ((Itr lo n).stop i H ∧ Qd H) ∨ ((Itr lo n).go i H ∧ ∃ Nx : Hp → Prop, (∀ H', Nx H' → ∃ m', m' < m ∧ W (i + 1) m' H') ∧ ∀ x H', (Itr lo n).yld i H x H' → g x (wipe σ vs) H' fun σ2 H2 => wipe σ2 vs = wipe σ vs ∧ tt σ2 H2 fun b H3 =>
        if b = true then tk σ2 H3 fun y H4 => tv σ2 H4 fun z H5 => ∃ kvs k, y = kV k ∧ H5 D = some (.dK kvs) ∧ kvs.length < sizeLine ∧ Nx (upd H5 D (.dK (putK kvs k z))) else Nx H3) := by
  refine ⟨fun i m H => m = n - i ∧ i ≤ n ∧ Pv i H, ⟨n, by simp, Nat.zero_le _, h0⟩, ?_⟩
  rintro i m H ⟨rfl, hi, pv⟩
  rcases Nat.lt_or_ge i n with hlt | hge
  · refine .inr ⟨hlt, Pv (i + 1), fun H' p' => ⟨n - (i + 1), by omega, rfl, hlt, p'⟩, fun x H' y => ?_⟩
    obtain ⟨rfl, rfl⟩ := y
    exact hs i _ hlt pv
  · have e : i = n := by omega
    subst e
    exact .inl ⟨Nat.le_refl _, hd H pv⟩
/-! ### words with single spaces between -/
abbrev jn (l : List Str) : Str := Str.join (" " : Str) l
theorem jn_snoc (x : Str) : ∀ l : List Str, jn (l ++ [x]) = if l = [] then x else jn l ++ (" " : Str) ++ x
  | [] => rfl
  | [y] => rfl
  | y :: z :: r => by
    have ih := jn_snoc x (z :: r)
    rw [if_neg (by simp)] at ih
    rw [if_neg (by simp)]
    show y ++ (" " : Str) ++ jn (z :: r ++ [x]) = y ++ (" " : Str) ++ jn (z :: r) ++ (" " : Str) ++ x
    rw [ih]
    simp only [Str.append_assoc]
theorem space1 : (" " : Str) = ⟨#[32]⟩ := by decide +kernel
def jc : List (List Nat) → List Nat
  | [] => []
  | [x] => x
  | x :: y :: r => x ++ 32 :: jc (y :: r)
theorem jn_jc : ∀ l : List Str, (jn l).cps.toList = jc (l.map fun x => x.cps.toList)
  | [] => rfl
  | [x] => rfl
  | x :: y :: r => by
    have ih := jn_jc (y :: r)
    show (x ++ (" " : Str) ++ jn (y :: r)).cps.toList = x.cps.toList ++ 32 :: jc ((y :: r).map fun x => x.cps.toList)
    rw [← ih, space1, Str.cps_append, Str.cps_append]
    simp
theorem cut32 : ∀ {x y a b : List Nat}, 32 ∉ x → 32 ∉ y → x ++ 32 :: a = y ++ 32 :: b → x = y ∧ a = b
  | [], [], a, b, _, _, h => ⟨rfl, (List.cons.inj h).2⟩
  | [], c :: y, a, b, _, hy, h => absurd ((List.cons.inj h).1 ▸ List.mem_cons_self) hy
  | c :: x, [], a, b, hx, _, h => absurd ((List.cons.inj h).1 ▸ List.mem_cons_self) hx
  | c :: x, d :: y, a, b, hx, hy, h => by
    obtain ⟨e1, e2⟩ := List.cons.inj h
    obtain ⟨e3, e4⟩ := cut32 (fun z => hx (List.mem_cons_of_mem _ z)) (fun z => hy (List.mem_cons_of_mem _ z)) e2
    exact ⟨by rw [e1, e3], e4⟩
theorem jc_inj : ∀ {l m : List (List Nat)}, l ≠ [] → m ≠ [] → (∀ x ∈ l, 32 ∉ x) → (∀ x ∈ m, 32 ∉ x) → jc l = jc m → l = m
  | [], _, h, _, _, _, _ => absurd rfl h
  | _ :: _, [], _, h, _, _, _ => absurd rfl h
  | [x], [y], _, _, _, _, h => by rw [show x = y from h]
  | [x], y :: z :: r, _, _, hx, _, h => absurd (show 32 ∈ x by rw [show x = y ++ 32 :: jc (z :: r) from h]; simp) (hx x List.mem_cons_self)
  | x :: z :: r, [y], _, _, _, hy, h => absurd (show 32 ∈ y by rw [← show x ++ 32 :: jc (z :: r) = y from h]; simp) (hy y List.mem_cons_self)
  | x :: z :: r, y :: u :: s, _, _, hx, hy, h => by
    obtain ⟨e1, e2⟩ := cut32 (hx x List.mem_cons_self) (hy y List.mem_cons_self) (show x ++ 32 :: jc (z :: r) = y ++ 32 :: jc (u :: s) from h)
    rw [e1, jc_inj (l := z :: r) (m := u :: s) (by simp) (by simp) (fun q hq => hx q (List.mem_cons_of_mem _ hq)) (fun q hq => hy q (List.mem_cons_of_mem _ hq)) e2]
theorem map_cps_inj : ∀ {l m : List Str}, (l.map fun x => x.cps.toList) = (m.map fun x => x.cps.toList) → l = m
  | [], [], _ => rfl
  | [], _ :: _, h => nomatch h
  | _ :: _, [], h => nomatch h
  | x :: l, y :: m, h => by
    obtain ⟨e1, e2⟩ := List.cons.inj h
    have e3 : x = y := Str.ext' (Array.toList_inj.mp e1)
    rw [e3, map_cps_inj e2]
theorem split_jn {l : List Str} (h : l ≠ []) (hf : ∀ x ∈ l, 32 ∉ x.cps.toList) : Txt.split (jn l) (" " : Str) = l := by
  have e1 : jn (Txt.split (jn l) (" " : Str)) = jn l := StrLaws.join_split _ _
  have e2 : ∀ p ∈ Txt.split (jn l) (" " : Str), 32 ∉ p.cps.toList := by
    rw [space1]
    exact StrLaws.split_free _ 32
  have e3 : Txt.split (jn l) (" " : Str) ≠ [] := fun z => by
    have := split_pos (jn l) (" " : Str)
    rw [z] at this
    simp at this
  refine map_cps_inj (jc_inj (by simpa using e3) (by simpa using h) ?_ ?_ ?_)
  · intro x hx
    obtain ⟨p, hp, rfl⟩ := List.mem_map.mp hx
    exact e2 p hp
  · intro x hx
    obtain ⟨p, hp, rfl⟩ := List.mem_map.mp hx
    exact hf p hp
  · rw [← jn_jc, ← jn_jc, e1]
end Lp
set_option Elab.async false
set_option linter.all false
set_option maxRecDepth 100000
namespace Lp
open PySem PySem.Spec PyProof.Rows L2
/-! ### defs, methods, classes, properties that may be used by their names -/
structure Cal (P : Program) (w : World) (K : PySem.W.Frag) (mg : Str → Option Value) (base : Heap) (k : Nat) (x : Str) (sp : Sp) : Prop where
  ex : ∃ (f : Addr) (fd : FuncData) (ps : List Str), FnOk P w K mg base CX0 k f fd ps sp ∧ mg x = some (.ref f) ∧ PySem.W.keepIn K (.ref f) = true ∧ Binds K fd ps []
structure Met (P : Program) (w : World) (K : PySem.W.Frag) (mg : Str → Option Value) (base : Heap) (k : Nat) (C : Addr) (m : Str) (sp : Sp) : Prop where
  ex : ∃ (f : Addr) (fd : FuncData) (ps : List Str), Cls K C ∧ Meth K C m f ∧ FnOk P w K mg base CX0 k f fd ps sp ∧ Binds K fd ps []
structure Mak (P : Program) (w : World) (K : PySem.W.Frag) (mg : Str → Option Value) (base : Heap) (k : Nat) (x : Str) (C : Addr) (sp : Sp) : Prop where
  ex : ∃ (f : Addr) (fd : FuncData) (ps : List Str), Mk K C f ∧ FnOk P w K mg base CX0 k f fd ps sp ∧ mg x = some (.ref C) ∧ Binds K fd ps []
structure Prp (P : Program) (w : World) (K : PySem.W.Frag) (mg : Str → Option Value) (base : Heap) (k : Nat) (C : Addr) (f : Str) (sp : Sp) : Prop where
  ex : ∃ (p g : Addr) (fd : FuncData) (ps : List Str), Cls K C ∧ PropOf K C f p g ∧ FnOk P w K mg base CX0 k g fd ps sp ∧ Binds K fd ps []
theorem Cal.gc {P : Program} {w : World} {K : PySem.W.Frag} {mg : Str → Option Value} {base : Heap} {k : Nat} {x : Str} {sp : Sp} (c : Cal P w K mg base k x sp) : Gc P w K mg base k x sp := by
  obtain ⟨f, fd, ps, F, h⟩ := c.ex
  exact ⟨f, fd, ps, .of F, h⟩
section
variable {X : Cx} {k j : Nat} {C : Addr} {x m f : Str} {sp : Sp} {p pos apos : Pos} {e o : Expr} {es : List Expr} {ta : TE} {t : TA}
theorem pe_c (c : Cal X.prog X.w X.K X.mg X.base k x sp) (hr : Room j X.A) (hk : k ≤ j) (hg : Gl X x) (ha : PA X (e :: es) t)
    (hdb : (x == ("__debug__" : Str)) = false := by decide) (he : starEach (e :: es) X.env = (false, eval e X.env) :: starEach es X.env := by rfl) (hpl : (backTo pos (starEach es X.env)).any (·.1) = false := by rfl) :
    PE X (.Call (.Name x p) (e :: es) [] pos) (tCall sp [] E0 t) := by
  obtain ⟨g, fd, ps, F, hm, kp, b⟩ := c.ex
  exact pe_call F (hr.mono hk) hg hm kp b .nil pass0 ha hdb he hpl
theorem pe_mk (c : Mak X.prog X.w X.K X.mg X.base k x C sp) (hr : Room j X.A) (hk : k + 1 ≤ j) (hg : Gl X x) (ha : PA X (e :: es) t)
    (hdb : (x == ("__debug__" : Str)) = false := by decide) (he : starEach (e :: es) X.env = (false, eval e X.env) :: starEach es X.env := by rfl) (hpl : (backTo pos (starEach es X.env)).any (·.1) = false := by rfl) :
    PE X (.Call (.Name x p) (e :: es) [] pos) (tMake C sp [] E0 t) := by
  obtain ⟨g, fd, ps, M, F, hm, b⟩ := c.ex
  exact pe_make M F (hr.mono hk) hg hm b .nil pass0 ha hdb he hpl
theorem pe_mt {pl : Sem Bool} (c : Met X.prog X.w X.K X.mg X.base k C m sp) (hr : Room j X.A) (hk : k ≤ j) (he : PE X o ta) (ha : PA X (e :: es) t)
    (hst : starEach (e :: es) X.env = (false, eval e X.env) :: starEach es X.env := by rfl) (hpl : (backTo pos (starEach es X.env)).any (·.1) = false := by rfl)
    (ht : eval (.Call (.Attribute o m apos) (e :: es) [] pos) X.env = (eval o X.env >>= fun ov => standAt apos.atName >>= fun _ => holding [ov] (getMethod ov m pl) >>= fun r => callWith pos r.1 r.2 (backTo pos (starEach (e :: es) X.env)) (backToKw pos (keywordEach [] X.env))) := by rfl) :
    PE X (.Call (.Attribute o m apos) (e :: es) [] pos) (tMeth C m sp [] E0 ta t) := by
  obtain ⟨g, fd, ps, hc, hm, F, b⟩ := c.ex
  exact pe_meth (pl := pl) he hc hm F (hr.mono hk) b .nil pass0 ha hst hpl ht
theorem pe_mt0 {pl : Sem Bool} (c : Met X.prog X.w X.K X.mg X.base k C m sp) (hr : Room j X.A) (hk : k ≤ j) (he : PE X o ta)
    (ht : eval (.Call (.Attribute o m apos) [] [] pos) X.env = (eval o X.env >>= fun ov => standAt apos.atName >>= fun _ => holding [ov] (getMethod ov m pl) >>= fun r => callWith pos r.1 r.2 (backTo pos (starEach [] X.env)) (backToKw pos (keywordEach [] X.env))) := by rfl) :
    PE X (.Call (.Attribute o m apos) [] [] pos) (tMeth C m sp [] E0 ta tNil) := by
  obtain ⟨g, fd, ps, hc, hm, F, b⟩ := c.ex
  exact pe_meth0 (pl := pl) he hc hm F (hr.mono hk) b .nil pass0 ht
theorem pe_pr (c : Prp X.prog X.w X.K X.mg X.base k C f sp) (hr : Room j X.A) (hk : k + 1 ≤ j) (he : PE X e ta) (hab : attributeBase e f X.env (eval e X.env) = eval e X.env := by rfl) : PE X (.Attribute e f pos) (tProp C sp [] E0 ta) := by
  obtain ⟨p, g, fd, ps, hc, hp, F, b⟩ := c.ex
  exact pe_prop he hc hp F (hr.mono hk) b .nil pass0 hab
end
/-! ### slices that end one before the end -/
theorem cut_init (xs : List V) : cutV xs none (some (-1)) = xs.dropLast := by
  have e : HT.sIx xs.length xs.length (some (-1)) = xs.length - 1 := by
    show (if (-1 : Int) < 0 then ((-1 : Int) + (xs.length : Int)).toNat else min (-1 : Int).toNat xs.length) = _
    rw [if_pos (by decide)]
    omega
  unfold cutV
  rw [HT.sIx_none, e, List.drop_zero, Nat.sub_zero, List.dropLast_eq_take]
end Lp
set_option Elab.async false
set_option linter.all false
set_option maxRecDepth 100000
namespace Lp
open PySem PySem.Spec PyProof.Rows L2
/-! ### methods that may raise, called where it is caught -/
structure MetX (P : Program) (w : World) (K : PySem.W.Frag) (mg : Str → Option Value) (base : Heap) (k : Nat) (C : Addr) (m : Str) (sp : Sp) : Prop where
  ex : ∃ (f : Addr) (fd : FuncData) (ps : List Str), Cls K C ∧ Meth K C m f ∧ FnOk P w K mg base (L2.CX P w) k f fd ps sp ∧ Binds K fd ps []
def tMtX0 (C : Addr) (m : Str) (sp : Sp) (W : WX) (ta : TE) : TE := fun σ H Q => ta σ H fun x H1 => ∃ a dx fs, x = .ref a ∧ H1 a = some (.ins C dx fs) ∧ fs.lookup m = none ∧ sp [x] H1 Q (WE W σ)
/-- classes made by keywords alone -/
structure MakK (P : Program) (w : World) (K : PySem.W.Frag) (mg : Str → Option Value) (base : Heap) (k : Nat) (x : Str) (C : Addr) (ks : List Str) (gV : List V → List V → List V) (sp : Sp) : Prop where
  ex : ∃ (f : Addr) (fd : FuncData) (ps : List Str) (g : List Value → List Value → List Value), Mk K C f ∧ FnOk P w K mg base CX0 k f fd ps sp ∧ mg x = some (.ref C) ∧ KBn K fd ps 1 ks g gV
section
variable {X : Cx} {k j : Nat} {C : Addr} {x m : Str} {sp : Sp} {p pos apos : Pos} {o : Expr} {ta : TE} {tk' : TA} {kws : List Keyword} {ks : List Str} {gV : List V → List V → List V}
theorem pe_mtX0 {pl : Sem Bool} {W : WX} (c : MetX X.prog X.w X.K X.mg X.base k C m sp) (hr : Room j X.A) (hk : k ≤ j) (tk : Takes X W) (he : PE X o ta)
    (ht : eval (.Call (.Attribute o m apos) [] [] pos) X.env = (eval o X.env >>= fun ov => standAt apos.atName >>= fun _ => holding [ov] (getMethod ov m pl) >>= fun r => callWith pos r.1 r.2 (backTo pos (starEach [] X.env)) (backToKw pos (keywordEach [] X.env))) := by rfl) :
    PE X (.Call (.Attribute o m apos) [] [] pos) (tMtX0 C m sp W ta) := by
  obtain ⟨g, fd, ps, hc, hm, F, b⟩ := c.ex
  refine ⟨fun pins s σ H Q I h => ?_⟩
  refine PySem.W.methodCall_KW (pl := pl) (thn (he.run pins s σ H _ I h) fun u s1 ⟨y, H1, I1, rx, a, dx, fs, ex, ea, l, q⟩ => ?_) ht
  subst ex
  obtain rfl : u = Value.ref a := rx
  refine getmeth_ok I1 ea hc hm l (PySem.W.callWith_K0 (first := [.ref a]) I1.kIn hm.kp ?_)
  exact run_fnS (us := [.ref a]) (vs := [.ref a]) F (hr.mono hk) b (passAt tk σ) I1 (.cons rfl .nil) q
theorem pe_mkK (c : MakK X.prog X.w X.K X.mg X.base k x C ks gV sp) (hr : Room j X.A) (hk : k + 1 ≤ j) (hg : Gl X x) (hkw : PK X kws tk')
    (hall : (backToKw pos (keywordEach kws X.env)).all (·.1.isSome) = true := by rfl) (hks : (backToKw pos (keywordEach kws X.env)).filterMap (·.1) = ks := by rfl) (hdb : (x == ("__debug__" : Str)) = false := by decide)
    (hpl : ((backTo pos (starEach [] X.env)).any (·.1) || (backToKw pos (keywordEach kws X.env)).any (·.1.isNone)) = false := by rfl) : PE X (.Call (.Name x p) [] kws pos) (tMakeK C 0 ks.length sp gV E0 tNil tk') := by
  obtain ⟨f, fd, ps, g, M, F, hm, hb⟩ := c.ex
  exact pe_makeK0 M F (hr.mono hk) hg hm hb pass0 hkw hall hks hdb hpl
end
end Lp
set_option Elab.async false
set_option linter.all false
set_option maxRecDepth 100000
set_option maxHeartbeats 1000000
namespace Lp
open PySem PySem.Spec PyProof.Rows L2 GenW
/-! ### yield from a list -/
section
variable {prog : Program} {w : World} {A : Around} {E : Value → Shared → Prop} {s : Shared}
theorem special_lst_item {it l : Addr} {i : Nat} {items : Array Value} {x : Value} {Q : Option Value → Shared → Prop} (hit : s.heap.IsListIter it l i)
    (hl : s.heap.IsList l items) (hx : items[i]? = some x)
    (hQ : ∀ h', h'.IsListIter it l (i + 1) → Heap.SameBut it s.heap h' → Q (some x) { s with heap := h' }) :
    wpAny (model prog w) A (callSpecial? (.ref it) "__next__") Q E s := by
  obtain ⟨o, ho, hc, hd⟩ := id hit
  obtain ⟨ol, hol, _, nl, hdl⟩ := hl
  refine wpAny_callSpecial?_slot (name := Str.ofString "__next__") hit.typeIs slot_listiter_next (wpAny_call_entry slot_listiter_next hit.typeIs entry_listiter_next ?_ (args_listiter_next _))
  show wpAny _ _ (field (.ref it) 0 >>= _) _ _ s
  refine wpAny_bind (wpAny_field ho hd (x := .ref l) rfl ?_)
  show wpAny _ _ (if (Value.ref l == Value.none) = true then _ else _) _ _ s
  rw [if_neg (show ¬ ((Value.ref l == Value.none) = true) from Bool.false_ne_true)]
  show wpAny _ _ (field (.ref it) 1 >>= _) _ _ s
  refine wpAny_bind (wpAny_field ho hd (x := .int i 0) rfl ?_)
  show wpAny _ _ (seqItems? (.ref l) >>= _) _ _ s
  refine wpAny_bind (wpAny_seqItems hol hdl ?_)
  simp only [Int.toNat_natCast, hx]
  refine wpAny_bind (wpAny_setField ho hd (by simp) (wpAny_pure ⟨x, rfl, hQ _ ?_ (Heap.SameBut.update ..)⟩))
  exact ⟨_, Heap.get?_update_self _ ho (Obj.isFreed_of_fields (Obj.data_mapFields hd _)), (Obj.cls_mapFields ..).trans hc, by
    rw [Obj.data_mapFields hd]; simp [rawInt]⟩
theorem special_lst_end {it l : Addr} {i : Nat} {items : Array Value} {Q : Option Value → Shared → Prop} (hh : A.handled = none) (hit : s.heap.IsListIter it l i) (hl : s.heap.IsList l items) (hx : items[i]? = none)
    (hE : ∀ e h', StopX e h' → Heap.ExtBut it s.heap h' → E e { s with heap := h' }) : wpAny (model prog w) A (callSpecial? (.ref it) "__next__") Q E s := by
  obtain ⟨o, ho, hc, hd⟩ := id hit
  obtain ⟨ol, hol, _, nl, hdl⟩ := hl
  refine wpAny_callSpecial?_slot (name := Str.ofString "__next__") hit.typeIs slot_listiter_next (wpAny_call_entry slot_listiter_next hit.typeIs entry_listiter_next ?_ (args_listiter_next _))
  show wpAny _ _ (field (.ref it) 0 >>= _) _ _ s
  refine wpAny_bind (wpAny_field ho hd (x := .ref l) rfl ?_)
  show wpAny _ _ (if (Value.ref l == Value.none) = true then _ else _) _ _ s
  rw [if_neg (show ¬ ((Value.ref l == Value.none) = true) from Bool.false_ne_true)]
  show wpAny _ _ (field (.ref it) 1 >>= _) _ _ s
  refine wpAny_bind (wpAny_field ho hd (x := .int i 0) rfl ?_)
  show wpAny _ _ (seqItems? (.ref l) >>= _) _ _ s
  refine wpAny_bind (wpAny_seqItems hol hdl ?_)
  simp only [Int.toNat_natCast, hx]
  refine wpAny_bind (wpAny_rule (wpAny_bind (wpAny_setField ho hd (by simp) ?_)))
  show wpAny _ _ (newExc (.type "StopIteration") [] >>= _) _ _ _
  refine wpAny_bind ?_
  simp only [newExc, newTuple]
  refine wpAny_bind (wpAny_newObj_type ?_ (by size_fits))
  refine wpAny_bind (m := firstArgMember _ _) (wpAny_of_eq (a := Value.none) (by first | rfl | (simp only [firstArgMember]; rfl)) ?_)
  refine wpAny_newObj_type ?_ (by size_fits)
  simp only [raiseNew]
  refine wpAny_bind (wpAny_handled ?_)
  first | rw [show A.in1.handled = none from hh] | rw [hh]
  refine wpAny_bind (wpAny_pure (wpAny_throw ?_))
  refine hE _ _ ⟨_, _, _, rfl, Heap.get?_push_size _ rfl, rfl, rfl, ?_⟩ (((Heap.SameBut.update ..).extBut.push _).push _)
  first
    | rfl
    | (rw [Array.getElem?_append_left (by decide)]; rfl)
    | kernel_rfl
end
section
variable {X : Cx} {e : Expr} {te : TE}
def tYfLst (te : TE) : TYf := fun σ H Q => te σ H fun x H1 => ∃ a xs, x = .ref a ∧ H1 a = some (.lst xs) ∧ Q xs H1
theorem close_lst : typeLookup (.type "list_iterator") "close" = pure none := by rw [typeLookup_type, builtinLookup_eq_fast]; kernel_rfl
theorem yf_lst (he : PE X e te) : YfE X e (tYfLst te) := by
  refine ⟨fun pins s σ H Q I h => ?_⟩
  refine thn (he.run pins s σ H _ I h) fun v s1 ⟨x, H1, I1, r1, a, xs, ex, ha, hq⟩ => ?_
  subst ex
  obtain rfl : v = Value.ref a := r1
  obtain ⟨hlen, its, c, rits, hg⟩ := I1.hok a _ ha
  have ht : s1.heap.IsList a its.toArray := ⟨_, hg, rfl, _, rfl⟩
  refine ⟨"list", ht.typeIs, by decide, wpAny_pyIter_list ht ?_⟩
  have ksz : ∀ b o, s1.heap.get? b = some o → b ≠ s1.heap.objs.size := fun b o e => Nat.ne_of_lt (Heap.lt_size e)
  have kp : ∀ b o, s1.heap.get? b = some o → (s1.heap.push { cls := .type "list_iterator", data := .fields #[.ref a, .int 0 0] }).get? b = some o := fun b o e => Heap.get?_push_of_some _ e
  refine ⟨s1.heap.objs.size, H1, xs, fun j h => h.IsListIter s1.heap.objs.size a j ∧ h.IsList a its.toArray, rfl, I1.kept (t' := s1.toks) kp, .inr I1.sz, Nat.ne_of_gt I1.lt, fun y c hy => ?_, I1.hok.fresh (Nat.le_refl _), fun p hp => ?_,
    ⟨⟨_, Heap.get?_push_size _ rfl, rfl, rfl⟩, ⟨_, kp _ _ hg, rfl, _, rfl⟩⟩, ⟨⟨"list_iterator", fun j h q => ?_, close_lst, by decide⟩, fun j h h' q hk => ?_, fun A' j x s2 Q' E' hA hx q hQ => ?_, fun A' s2 Q' E' hA q hE => ?_⟩, hq⟩
  · obtain ⟨v, o, ho, _⟩ := I1.cell y c hy
    exact ksz c o ho
  · exact ksz p.1 _ (I1.pin p hp).1
  · obtain ⟨⟨o, ho, hc, _⟩, _⟩ := q
    exact ⟨o, ho, hc⟩
  · obtain ⟨⟨o, ho, r⟩, o2, ho2, r2⟩ := q
    exact ⟨⟨o, hk _ o (.inl rfl) ho, r⟩, o2, hk _ o2 (.inr (by rw [ha]; exact fun z => by cases z)) ho2, r2⟩
  · obtain ⟨q1, q2⟩ := q
    obtain ⟨u, hu, ru⟩ := rits.get hx
    have hne : a ≠ s1.heap.objs.size := Nat.ne_of_lt (Heap.lt_size hg)
    exact special_lst_item q1 q2 (x := u) (by simpa using hu) fun h' q1' hs => hQ u h' s2.toks ru ⟨q1', (by obtain ⟨o2, ho2, r2⟩ := q2; exact ⟨o2, hs.extBut _ _ hne ho2, r2⟩)⟩ fun b o hb eb => hs.extBut b o hb eb
  · obtain ⟨q1, q2⟩ := q
    have hnone : its.toArray[xs.length]? = none := by
      have e := rits.length
      have e2 : its[xs.length]? = none := List.getElem?_eq_none_iff.mpr (by omega)
      simpa using e2
    exact special_lst_end hA q1 q2 hnone fun e h' hS hk => hE e h' s2.toks hS fun b o hb eb => hk b o hb eb
end
/-! ### generator defs by their names -/
section
variable {P : Program} {w : World} {K : PySem.W.Frag} {mg : Str → Option Value} {base : Heap}
theorem okGen {x qual : Str} {st : Stmt} {f : Addr} {fd : FuncData} {N ps : List Str} {k : Nat} {sp : SpG} (F : Fun K x qual st f fd) (S : GScope N ps (defScope st)) (ln : ∀ vs H Q E, sp vs H Q E → vs.length = ps.length)
    (hb : ∀ (cdv : Value) (A : Around) (outer : List Env) (s : Shared) (H : Hp) (vs : List V) (Q : List V → Hp → Prop) (E : XK) (pn : List (Addr × Obj)), Room k (A.deeper (envOfC qual (defScope st) s.heap.objs.size f cdv)) → sp vs H Q E →
      ∃ t, GSs (gcxOf P w K mg base N qual (defScope st) f cdv A outer s H E pn) (defBody st) t ∧ t { nx := fun ys _ H' => Q ys H', rt := fun ys v H' => v = .non ∧ Q ys H' } [] (start N vs) H) : GFn P w K mg base (k + 1) f fd ps sp := by
  obtain ⟨oc, od, kV, doc, pm, an, cdv, ct, osl, rfl, lk, hcd⟩ := F.ex
  exact gfn_of lk hcd S ln (hb cdv)
structure Gnr (P : Program) (w : World) (K : PySem.W.Frag) (mg : Str → Option Value) (base : Heap) (k : Nat) (x : Str) (sp : SpG) : Prop where
  ex : ∃ (f : Addr) (fd : FuncData) (ps : List Str), GFn P w K mg base k f fd ps sp ∧ mg x = some (.ref f) ∧ PySem.W.keepIn K (.ref f) = true ∧ Binds K fd ps []
end
section
variable {X : Cx} {k j : Nat} {x nm : Str} {sp : SpG} {p p2 pos pos' : Pos} {e : Expr} {es : List Expr} {t : TA}
theorem noStop0 {K : PySem.W.Frag} : NoStop K E0 := fun _ _ _ h => h.elim
theorem passes0 : Passes (CX X.prog X.w) X E0 := fun pins σ H s1 e s' I h => by
  obtain ⟨a, B, H', cls, d, _, _, _, _, _, _, _, z⟩ := h
  exact z.elim
/-- list(f(e, ..)) of a generator def -/
theorem pe_lg (c : Gnr X.prog X.w X.K X.mg X.base k x sp) (hr : Room j X.A) (hk : k + 3 ≤ j) (hg : Gl X x) (ha : PA X (e :: es) t) (hg2 : Gl X nm) (hmg : X.mg nm = none) (hv : bootBuiltins nm = some (.type "list")) (hnm : nm ≠ "__name__" := by decide) (hdb2 : (nm == ("__debug__" : Str)) = false := by decide)
    (hdb : (x == ("__debug__" : Str)) = false := by decide) (he : starEach (e :: es) X.env = (false, eval e X.env) :: starEach es X.env := by rfl) (hpl : (backTo pos' (starEach es X.env)).any (·.1) = false := by rfl)
    (he2 : starEach [.Call (.Name x p2) (e :: es) [] pos'] X.env = (false, eval (.Call (.Name x p2) (e :: es) [] pos') X.env) :: starEach [] X.env := by rfl) :
    PE X (.Call (.Name nm p) [.Call (.Name x p2) (e :: es) [] pos'] [] pos) (tListG (L2.tCallG sp [] E0 t)) := by
  obtain ⟨g, fd, ps, F, hm, kp, b⟩ := c.ex
  exact pe_listG (pgen_call F (hr.mono (by omega)) hg hm kp b .nil ha hdb he hpl) passes0 noStop0 (hr.mono hk) hg2 hmg hv hnm hdb2 he2
end
end Lp
set_option Elab.async false
set_option linter.all false
set_option maxRecDepth 100000
set_option maxHeartbeats 1000000
namespace Lp
open PySem PySem.Spec PyProof.Rows L2
/-! ### isinstance of an exception that is a value, or that an outer suite holds -/
def rIsX (K : PySem.W.Frag) : List V → Hp → VK → Prop := fun xs H Q => ∃ (a D : Addr) (c : V) (cv : Value) (b : Bool), xs = [.ref a, c] ∧ H a = some (ExO (.ref D) a) ∧ ExcC K D ∧ (∀ u, RelV c u → u = cv) ∧ PySem.W.kitOne K (.ref D) cv = some b ∧ Q (.bl b) H
theorem call_isX {X : Cx} : CallR X (.builtin "isinstance") (rIsX X.K) := by
  intro pins s σ H xs us Q I r h
  obtain ⟨a, D, c, cv, b, rfl, ha, C, hcv, e, q⟩ := h
  cases r with
  | cons rx rr =>
    cases rr with
    | cons rt rr =>
      cases rr
      cases rx
      cases hcv _ rt
      obtain ⟨⟨oe, vs, hget, hz, hv, _⟩, _, _⟩ := I.hok a _ ha
      have J : PySem.W.InstAt s.heap a oe D none := by
        obtain ⟨oc, od, oda, osl⟩ := oe
        obtain ⟨h1, h2⟩ := hz
        dsimp only at h1 h2 hv
        subst h1 h2 hv
        exact ⟨hget, rfl, rfl, trivial⟩
      exact PySem.W.kia_one (PySem.W.handS_kitx_exc C.hg C.hk C.hs C.hd C.ha C.hn C.ht C.hm) I.kIn J e (fun z => nomatch z) fun tk => ⟨.bl b, H, I.kept (t' := tk) fun _ _ z => z, rfl, q⟩
def rIsP (K : PySem.W.Frag) (p : Addr × Obj) : List V → Hp → VK → Prop := fun xs H Q => ∃ (D : Addr) (c : V) (cv : Value) (b : Bool), xs = [.ref p.1, c] ∧ Zc (.ref D) none p.2 ∧ (∃ vs, p.2.data = .fields vs) ∧ ExcC K D ∧ (∀ u, RelV c u → u = cv) ∧ PySem.W.kitOne K (.ref D) cv = some b ∧ Q (.bl b) H
theorem call_isP {X : Cx} {p : Addr × Obj} (hp : p ∈ X.pn) : CallR X (.builtin "isinstance") (rIsP X.K p) := by
  intro pins s σ H xs us Q I r h
  obtain ⟨D, c, cv, b, rfl, hz, ⟨vs, hv⟩, C, hcv, e, q⟩ := h
  cases r with
  | cons rx rr =>
    cases rr with
    | cons rt rr =>
      cases rr
      cases rx
      cases hcv _ rt
      have hget := (I.pin p (List.mem_append_left _ hp)).1
      obtain ⟨a, oe⟩ := p
      have J : PySem.W.InstAt s.heap a oe D none := by
        obtain ⟨oc, od, oda, osl⟩ := oe
        obtain ⟨h1, h2⟩ := hz
        dsimp only at h1 h2 hv
        subst h1 h2 hv
        exact ⟨hget, rfl, rfl, trivial⟩
      exact PySem.W.kia_one (PySem.W.handS_kitx_exc C.hg C.hk C.hs C.hd C.ha C.hn C.ht C.hm) I.kIn J e (fun z => nomatch z) fun tk => ⟨.bl b, H, I.kept (t' := tk) fun _ _ z => z, rfl, q⟩
/-! ### defs that are given the exception that is held -/
structure FnE (P : Program) (w : World) (K : PySem.W.Frag) (mg : Str → Option Value) (base : Heap) (k : Nat) (f : Addr) (fd : FuncData) (ps : List Str) (sp : Addr × Obj → Sp) : Prop where
  len : ∀ p vs H Q E, sp p vs H Q E → vs.length = ps.length
  run : ∀ (p : Addr × Obj) (A : Around) (out : List Env) (s : Shared) (H : Hp) (ar : Args) (us : List Value) (vs : List V) (Q : VK) (E : XK), L2H.RoomH k A → L2H.PinOk out H s p → Env0 P w K mg base A out s H →
    BindsTo s fd ar (ps.zip us) → Vals vs us → sp p vs H Q E → codeAny (model P w) A (.call (.ref f) ar) (CR CX0 out P w H s Q E) s
section
variable {P : Program} {w : World} {K : PySem.W.Frag} {mg : Str → Option Value} {base : Heap}
theorem okE {x qual : Str} {st : Stmt} {f : Addr} {fd : FuncData} {N ps : List Str} {k : Nat} {sp : Addr × Obj → Sp} (F : Fun K x qual st f fd) (S : FnScope N ps (defScope st)) (ln : ∀ p vs H Q E, sp p vs H Q E → vs.length = ps.length)
    (hb : ∀ (cdv : Value) (p : Addr × Obj) (A : Around) (out : List Env) (s : Shared) (H : Hp) (vs : List V) (Q : VK) (E : XK), L2H.RoomH k (A.deeper (envOfC qual (defScope st) s.heap.objs.size f cdv)) → sp p vs H Q E →
      ∃ t, PSs (L2H.cxH CX0 P w K mg base N qual (defScope st) f cdv A out s H E p) (defBody st) t ∧ t { nx := fun _ H' => Q .non H', rt := Q } (start N vs) H) : FnE P w K mg base (k + 1) f fd ps sp := by
  obtain ⟨oc, od, kV, doc, pm, an, cdv, ct, osl, rfl, lk, hcd⟩ := F.ex
  refine ⟨ln, fun p A out s H ar us vs Q E room hpin en bd rv hs => ?_⟩
  have KX : K.In s.heap := en.mod.kin.keeps fun b o e => (en.bs b o e).1
  have nl : s.heap.NoLimit := en.mod.nolimit.keeps fun b o e => (en.bs b o e).1
  have kd : ∀ y ∈ ps.zip us, (defScope st).names.lookup y.1 = some .local ∨ ((defScope st).names.lookup y.1 = some .cell ∧ ((cellsFrom (s.heap.objs.size + 1) (defScope st).names []).lookup y.1).isSome = true) := by
    rintro ⟨n, v⟩ hy
    have hm := (List.of_mem_zip hy).1
    exact (S.par n hm).elim (fun q => .inl q) fun q => .inr ⟨q, PySem.W.cellsFrom_some _ _ _ (.inl q)⟩
  refine codeAny_call_function room.depth (KX _ _ lk) rfl S.co S.gen rfl (PySem.W.codeRec_of KX hcd) (bd _ _ _ _ ?_)
  refine wpAny_newFunctionEnv_cells S.kind kd fun e1 he s1 x => ?_
  subst he
  refine ⟨nl.keeps x.toInCall.keep, codeAny_func ?_⟩
  obtain ⟨t, ht, hq⟩ := hb cdv p A out s H vs Q E (room.deeper _) hs
  have J0 : Inv (L2H.cxH CX0 P w K mg base N qual (defScope st) f cdv A out s H E p) [] (start N vs) H s1 := L2H.inv_startH S hpin en (ln _ _ _ _ _ hs) rv x
  refine wpAny_mono (ht.run [] s1 (start N vs) H _ J0 hq) (fun fl s' h3 => ?_) fun _ _ h3 => h3
  cases fl with
  | ret u => exact let ⟨v, _, H', J, r2, q⟩ := h3; ⟨v, H', J.os, J.bare, J.base, J.hok, r2, q⟩
  | next => exact let ⟨_, H', J, q⟩ := h3; ⟨.non, H', J.os, J.bare, J.base, J.hok, rfl, q⟩
  | brk => exact (let ⟨_, _, _, q⟩ := h3; q : False).elim
  | cont => exact (let ⟨_, _, _, q⟩ := h3; q : False).elim
structure CalE (P : Program) (w : World) (K : PySem.W.Frag) (mg : Str → Option Value) (base : Heap) (k : Nat) (x : Str) (sp : Addr × Obj → Sp) : Prop where
  ex : ∃ (f : Addr) (fd : FuncData) (ps : List Str), FnE P w K mg base k f fd ps sp ∧ mg x = some (.ref f) ∧ PySem.W.keepIn K (.ref f) = true ∧ Binds K fd ps []
structure CalX (P : Program) (w : World) (K : PySem.W.Frag) (mg : Str → Option Value) (base : Heap) (k : Nat) (x : Str) (sp : Sp) : Prop where
  ex : ∃ (f : Addr) (fd : FuncData) (ps : List Str), FnOk P w K mg base (L2.CX P w) k f fd ps sp ∧ mg x = some (.ref f) ∧ PySem.W.keepIn K (.ref f) = true ∧ Binds K fd ps []
end
section
variable {X : Cx} {k j : Nat} {x : Str} {p pos : Pos} {e : Expr} {es : List Expr} {t : TA}
def tCe (sp : Addr × Obj → Sp) (pr : Addr × Obj) (t : TA) : TE := fun σ H Q => t σ H fun vs H1 => sp pr vs H1 Q E0
theorem pe_ce {sp : Addr × Obj → Sp} {pr : Addr × Obj} (c : CalE X.prog X.w X.K X.mg X.base k x sp) (hr : L2H.RoomH k X.A) (hp : pr ∈ X.pn) (hg : Gl X x) (ha : PA X (e :: es) t)
    (hdb : (x == ("__debug__" : Str)) = false := by decide) (he : starEach (e :: es) X.env = (false, eval e X.env) :: starEach es X.env := by rfl) (hpl : (backTo pos (starEach es X.env)).any (·.1) = false := by rfl) :
    PE X (.Call (.Name x p) (e :: es) [] pos) (tCe sp pr t) := by
  obtain ⟨f, fd, ps, F, hm, kp, hb⟩ := c.ex
  refine ⟨fun pins s σ H Q I h => ?_⟩
  refine wpAny_Call_Name_kw (ld_glob I hg hm ?_ hdb)
  refine PySem.W.callWith_K (h₀ := X.base) I.ok.mod.kin kp (thn (ha.run pos pins s σ H _ I h) fun us s1 ⟨vs, H1, I1, r, q⟩ => ⟨I1.kIn, ?_⟩) he hpl
  have hl : us.length = ps.length := by rw [← r.length]; exact F.len _ _ _ _ _ q
  have b := hb s1 us I1.kIn (by rw [List.append_nil]; exact hl)
  rw [List.append_nil] at b
  have P1 := I1.pin pr (List.mem_append_left _ hp)
  have hpin : L2H.PinOk X.stack H1 s1 pr := ⟨P1.1, P1.2.1, fun hm => (List.mem_cons.mp (I1.stkSub pr.1 hm)).elim P1.2.2.1 P1.2.2.2.1, P1.2.2.2.2⟩
  refine wpAny_call (codeAny_mono (F.run pr X.A X.stack s1 H1 ⟨us, []⟩ us vs Q E0 hr hpin I1.env0 b r q) fun r s' hq => ?_)
  cases r with
  | error e => exact pass0 pins σ H1 s1 e s' I1 hq
  | ok fl =>
    cases fl with
    | ret u => exact I1.after hq
    | next => exact False.elim hq
    | brk => exact False.elim hq
    | cont => exact False.elim hq
def tCx (sp : Sp) (W : WX) (t : TA) : TE := fun σ H Q => t σ H fun vs H1 => sp vs H1 Q (WE W σ)
theorem pe_cx {sp : Sp} {W : WX} (c : CalX X.prog X.w X.K X.mg X.base k x sp) (hr : Room j X.A) (hk : k ≤ j) (tk : Takes X W) (hg : Gl X x) (ha : PA X (e :: es) t)
    (hdb : (x == ("__debug__" : Str)) = false := by decide) (he : starEach (e :: es) X.env = (false, eval e X.env) :: starEach es X.env := by rfl) (hpl : (backTo pos (starEach es X.env)).any (·.1) = false := by rfl) :
    PE X (.Call (.Name x p) (e :: es) [] pos) (tCx sp W t) := by
  obtain ⟨f, fd, ps, F, hm, kp, hb⟩ := c.ex
  refine ⟨fun pins s σ H Q I h => ?_⟩
  refine wpAny_Call_Name_kw (ld_glob I hg hm ?_ hdb)
  refine PySem.W.callWith_K (h₀ := X.base) I.ok.mod.kin kp (thn (ha.run pos pins s σ H _ I h) fun us s1 ⟨vs, H1, I1, r, q⟩ => ⟨I1.kIn, ?_⟩) he hpl
  exact run_fnS F (hr.mono hk) hb (passAt tk σ) I1 r q
end
/-! ### != of two built-in types -/
section
variable {M : Model} {A : Around} {E : Value → Shared → Prop} {s : Shared}
theorem richNe_decline {a b : Value} {T id : String} {k : Bool} {Q : Value → Shared → Prop} (ha : ∀ s' : Shared, s'.TypeIs a T) (hb : ∀ s' : Shared, s'.TypeIs b T)
    (h1 : Slot T (cmpInfo .NotEq).2.1 id) (h2 : Slot T (cmpInfo .NotEq).2.2 id) (hv : [a, b].any Value.onHeap = false) (hk : isSame a b = pure k)
    (hc : wpAny M A (call (.builtin id) [a, b]) (fun v s₁ => v = .notImplemented ∧ wpAny M A (call (.builtin id) [b, a]) (fun v s₂ => v = .notImplemented ∧ Q (.bool !k) s₂) E s₁) E s) :
    wpAny M A (richCompare .NotEq a b) Q E s := by
  rcases hi : cmpInfo CmpOp.NotEq with ⟨sym, f, r⟩
  rw [hi] at h1 h2
  simp only [richCompare, hi, (ha s).oneThing_none]
  try with_reducible refine wpAny_holding ?_
  refine wpAny_bind (wpAny_cRoomFor_or (.inl hv) ?_)
  refine wpAny_bind (wpAny_typeOf (ha s) (wpAny_bind (wpAny_typeOf (hb s) ?_)))
  simp only [bne_self_eq_false, Bool.false_eq_true, if_false, pure_bind, Bool.not_false, if_true]
  refine wpAny_bind (m := tryCompare a _ b) (wpAny_tryCompare_declines (ha s) h1 (wpAny_mono hc (fun v s₁ h₁ => ⟨h₁.1, ?_⟩) fun _ _ x => x))
  refine wpAny_bind (m := tryCompare b _ a) (wpAny_tryCompare_declines (hb s₁) h2 (wpAny_mono h₁.2 (fun v s₂ h₂ => ⟨h₂.1, ?_⟩) fun _ _ x => x))
  first
    | exact wpAny_bind (wpAny_rule (wpAny_bind (wpAny_of_eq hk (wpAny_pure h₂.2))))
    | exact wpAny_bind (wpAny_of_eq hk (wpAny_pure h₂.2))
end
section
variable {prog : Program} {w : World} {A : Around} {E : Value → Shared → Prop} {s : Shared} {Q : Value → Shared → Prop}
theorem slot_type_ne2 : Slot "type" (cmpInfo .NotEq).2.2 "object.__ne__" := slot_type_ne
theorem call_object_ne {X Y : String} (hX : ∀ s' : Shared, s'.TypeIs (.type X) "type") (hne : (Value.type X == Value.type Y) = false) (h : Q .notImplemented s) : wpAny (model prog w) A (call (.builtin "object.__ne__") [.type X, .type Y]) Q E s := by
  refine wpAny_call_entry slot_type_ne (hX s) F.entry_object_ne ?_ (F.args_object_ne_2 _ _)
  unfold Builtin.«object.__ne__»
  refine wpAny_bind (m := slotArgs "__ne__" 1 _) (wpAny_of_eq (a := ((Value.type X : Value), [Value.type Y])) (by first | rfl | (simp only [slotArgs]; rfl)) ?_)
  refine wpAny_bind (wpAny_cRoomFor_or (.inl rfl) ?_)
  refine wpAny_bind (m := callSpecialIfBound? (.type X) (Str.ofString "__eq__") [.type Y]) (wpAny_callSpecialIfBound?_slot (hX s) PySem.TypeEq.slot_type_eq
    (call_gives PySem.TypeEq.slot_type_eq (hX s) F.entry_object_eq (F.args_object_eq_2 _ _) (PySem.TypeEq.object_eq_other rfl hne) ?_))
  first
    | exact wpAny_pure ⟨_, rfl, h⟩
    | exact wpAny_pure h
    | exact wpAny_pure ⟨_, rfl, rfl, h⟩
theorem ne_type_other {X Y : String} (hX : ∀ s' : Shared, s'.TypeIs (.type X) "type") (hY : ∀ s' : Shared, s'.TypeIs (.type Y) "type") (hne : (Value.type X == Value.type Y) = false) (hne' : (Value.type Y == Value.type X) = false) (h : Q (.bool true) s) : wpAny (model prog w) A (compareOp .NotEq (.type X) (.type Y)) Q E s := by
  show wpAny _ A (richCompare .NotEq _ _) Q E s
  exact richNe_decline (T := "type") (k := false) hX hY slot_type_ne slot_type_ne2 rfl (by rw [isSame_plain rfl, hne]) (call_object_ne hX hne ⟨rfl, call_object_ne hY hne' ⟨rfl, h⟩⟩)
end
def rNeTyG : R2 := fun x y H Q => (∃ a, x = .ty a ∧ y = .ty a ∧ (∀ s' : Shared, s'.TypeIs (.type a) "type") ∧ Q (.bl false) H) ∨ ∃ a b, x = .ty a ∧ y = .ty b ∧ (∀ s' : Shared, s'.TypeIs (.type a) "type") ∧ (∀ s' : Shared, s'.TypeIs (.type b) "type") ∧ (Value.type a == Value.type b) = false ∧ (Value.type b == Value.type a) = false ∧ Q (.bl true) H
theorem op_neTyG {X : Cx} : OpR X (compareOp .NotEq) rNeTyG := by
  intro pins s σ H x y v u Q I rx ry h
  rcases h with ⟨a, rfl, rfl, ha, q⟩ | ⟨a, b, rfl, rfl, ha, hb, n1, n2, q⟩
  · cases (show v = Value.type a from rx)
    cases (show u = Value.type a from ry)
    exact ne_type_same ha ⟨.bl false, H, I, rfl, q⟩
  · cases (show v = Value.type a from rx)
    cases (show u = Value.type b from ry)
    exact ne_type_other ha hb n1 n2 ⟨.bl true, H, I, rfl, q⟩
/-! ### xs[i] op= e; one sign * n -/
def rGetL (K : PySem.W.Frag) : V → V → Hp → VK → Prop := fun o i H Q => ∃ p xs j v, o = .ref p ∧ i = .int j ∧ SqL K H p xs ∧ 0 ≤ j ∧ atI xs j = some v ∧ Q v H
theorem get_list {X : Cx} : PGet X (rGetL X.K) := by
  intro pins s σ H o i ov iv Q I ro ri h
  obtain ⟨p, xs, k, z, rfl, rfl, hq, h0, he, q⟩ := h
  cases ro
  obtain ⟨t, rfl⟩ := ri
  obtain ⟨its, r, pl, hz⟩ := I.list hq
  obtain ⟨j, h1, h2, h3, h4, h5⟩ := atI_get he
  obtain ⟨w, ew, rw'⟩ := r.get h2
  have hj : k.toNat = j := by
    rw [seqIndex_of h0 h5] at h1
    exact Option.some.inj h1
  have hl := r.length
  have hn := line63
  exact wpAny_getItem_list pl.isList h0 (by omega) (by rw [hj]; simpa using ew) ⟨z, H, I, rw', q⟩
theorem op_repA {X : Cx} : OpR X (binaryOp .Mult) (fun x y H Q => ∃ (z : Str) (n : Nat), x = .str z ∧ y = .int (n : Int) ∧ z.length = 1 ∧ n ≤ 1000 ∧ ∀ y, Q (.str y) H) := by
  intro pins s σ H x y v u Q I r1 r2 h
  obtain ⟨z, n, e1, e2, hz, hn, q⟩ := h
  subst e1; subst e2
  obtain ⟨t, rfl⟩ := r1
  obtain ⟨t', rfl⟩ := r2
  refine PySem.P.mul_str ?_ (fun c _ => ?_) (fun _ _ => ?_) ?_
  · rw [decide_eq_false (show ¬ (n : Int) < -(2 ^ 63 : Int) by omega), decide_eq_false (show ¬ (n : Int) ≥ 2 ^ 63 by omega)]
    rfl
  · rw [hz]
    have := (Int.le_ediv_iff_mul_le (show (0 : Int) < n by omega)).mpr (show ((1 : Nat) : Int) * (n : Int) ≤ 2 ^ 63 - 1 by omega)
    omega
  · rw [hz]
    unfold Builtin.Str.tooLong
    refine decide_eq_false ?_
    have e : (n : Int).toNat = n := rfl
    have z := zs (show n ≤ 100000 by omega)
    omega
  · by_cases h0 : n = 0
    · subst h0
      rw [if_pos (by decide)]
      exact ⟨by decide, .str _, H, I.tok _, ⟨_, rfl⟩, q _⟩
    · rw [if_neg (show ¬ (n : Int) < 1 by omega), hz]
      by_cases h1 : n = 1
      · subst h1
        rw [if_pos (by rfl)]
        exact ⟨.str _, H, I, ⟨_, rfl⟩, q _⟩
      · have hb : ((n : Int) == 1 || (1 : Nat) == 0) = false := by
          rw [beq_eq_false_iff_ne.mpr (show (n : Int) ≠ 1 by omega)]
          rfl
        rw [hb, if_neg Bool.false_ne_true]
        refine ⟨?_, .str _, H, I.tok _, ⟨_, rfl⟩, q _⟩
        have f0 := foldl_repN z.cps.toList n []
        rw [List.nil_append] at f0
        have e : (n : Int).toNat = n := rfl
        have e3 : z.cps = z.cps.toList.toArray := rfl
        rw [e]
        have f1 : List.foldl (fun x1 x2 => x1 ++ x2) #[] (List.replicate n z.cps) = ((List.replicate n z.cps.toList).flatten).toArray := f0
        show (List.foldl (fun (x1 x2 : Array Nat) => x1 ++ x2) #[] (List.replicate n z.cps)).size ≤ _
        rw [f1, List.size_toArray]
        have : ∀ m : Nat, ((List.replicate m z.cps.toList).flatten).length = m := fun m => by
          induction m with
          | zero => rfl
          | succ m ih =>
            rw [List.replicate_succ, List.flatten_cons, List.length_append, ih]
            have : z.cps.toList.length = 1 := hz
            omega
        rw [this]
        exact zs (by omega)
end Lp
set_option Elab.async false
set_option linter.all false
set_option maxRecDepth 100000
namespace L71
open PySem PySem.Spec PyProof.Rows L2 Lp
def topS (i : Nat) : Stmt := PySem.Challenge.pw_latepatches_k71_errors_are_distinct.main.body.getD i (.Pass ⟨0, 0, 0, 0⟩)
abbrev s_is_integer : Stmt := topS 20
abbrev N_is_integer : List Str := ["value"]
theorem sc_is_integer : FnScope N_is_integer ["value"] (defScope s_is_integer) := ⟨rfl, rfl, rfl, by decide +kernel, rfl, by decide +kernel, by decide +kernel⟩
abbrev s_is_integer_within : Stmt := topS 21
abbrev N_is_integer_within : List Str := ["value", "least", "greatest"]
theorem sc_is_integer_within : FnScope N_is_integer_within ["value", "least", "greatest"] (defScope s_is_integer_within) := ⟨rfl, rfl, rfl, by decide +kernel, rfl, by decide +kernel, by decide +kernel⟩
abbrev s_are_integers : Stmt := topS 22
abbrev N_are_integers : List Str := ["value", "least", "greatest", "most", "item"]
theorem sc_are_integers : FnScope N_are_integers ["value", "least", "greatest", "most"] (defScope s_are_integers) := ⟨rfl, rfl, rfl, by decide +kernel, rfl, by decide +kernel, by decide +kernel⟩
abbrev s_are_events : Stmt := topS 26
abbrev N_are_events : List Str := ["value"]
theorem sc_are_events : FnScope N_are_events ["value"] (defScope s_are_events) := ⟨rfl, rfl, rfl, by decide +kernel, rfl, by decide +kernel, by decide +kernel⟩
abbrev s_is_history : Stmt := topS 27
abbrev N_is_history : List Str := ["value", "started", "event"]
theorem sc_is_history : FnScope N_is_history ["value"] (defScope s_is_history) := ⟨rfl, rfl, rfl, by decide +kernel, rfl, by decide +kernel, by decide +kernel⟩
abbrev s_check_history : Stmt := topS 28
abbrev N_check_history : List Str := ["history"]
theorem sc_check_history : FnScope N_check_history ["history"] (defScope s_check_history) := ⟨rfl, rfl, rfl, by decide +kernel, rfl, by decide +kernel, by decide +kernel⟩
abbrev s_is_started : Stmt := topS 29
abbrev N_is_started : List Str := ["history", "value"]
theorem sc_is_started : FnScope N_is_started ["history", "value"] (defScope s_is_started) := ⟨rfl, rfl, rfl, by decide +kernel, rfl, by decide +kernel, by decide +kernel⟩
abbrev s_replay : Stmt := topS 31
abbrev N_replay : List Str := ["history", "presents", "saved", "event"]
theorem sc_replay : FnScope N_replay ["history"] (defScope s_replay) := ⟨rfl, rfl, rfl, by decide +kernel, rfl, by decide +kernel, by decide +kernel⟩
abbrev s_saved_by : Stmt := topS 32
abbrev N_saved_by : List Str := ["history", "patch", "_", "saved"]
theorem sc_saved_by : FnScope N_saved_by ["history", "patch"] (defScope s_saved_by) := ⟨rfl, rfl, rfl, by decide +kernel, rfl, by decide +kernel, by decide +kernel⟩
abbrev s_law_bag : Stmt := topS 34
abbrev N_law_bag : List Str := ["cell", "k"]
theorem sc_law_bag : FnScope N_law_bag ["cell", "k"] (defScope s_law_bag) := ⟨rfl, rfl, rfl, by decide +kernel, rfl, by decide +kernel, by decide +kernel⟩
abbrev s_law_draw : Stmt := topS 35
abbrev N_law_draw : List Str := ["bag", "many", "digit", "one"]
theorem sc_law_draw : FnScope N_law_draw ["bag", "many"] (defScope s_law_draw) := ⟨rfl, rfl, rfl, by decide +kernel, rfl, by decide +kernel, by decide +kernel⟩
abbrev s_law_marks : Stmt := topS 36
abbrev N_law_marks : List Str := ["e", "marks"]
theorem sc_law_marks : FnScope N_law_marks ["e"] (defScope s_law_marks) := ⟨rfl, rfl, rfl, by decide +kernel, rfl, by decide +kernel, by decide +kernel⟩
abbrev s_law_caught : Stmt := topS 37
abbrev N_law_caught : List Str := ["events", "patch", "marks", "e"]
theorem sc_law_caught : FnScope N_law_caught ["events", "patch"] (defScope s_law_caught) := ⟨rfl, rfl, rfl, by decide +kernel, rfl, by decide +kernel, by decide +kernel⟩
abbrev s_law_right : Stmt := topS 38
abbrev N_law_right : List Str := ["message", "some", "k", "due", "j", "place"]
theorem sc_law_right : FnScope N_law_right ["message"] (defScope s_law_right) := ⟨rfl, rfl, rfl, by decide +kernel, rfl, by decide +kernel, by decide +kernel⟩
abbrev s_law : Stmt := topS 39
abbrev N_law : List Str := ["script", "cells", "k", "bag"]
theorem sc_law : FnScope N_law ["script"] (defScope s_law) := ⟨rfl, rfl, rfl, by decide +kernel, rfl, by decide +kernel, by decide +kernel⟩
end L71
set_option Elab.async false
set_option linter.all false
set_option maxRecDepth 100000
namespace L71
open PySem PySem.Spec PyProof.Rows L2 Lp
structure Err (K : PySem.W.Frag) (mg : Str → Option Value) (E : Nat → Addr) : Prop where
  c0 : mg "EmptyHistoryError" = some (.ref (E 0))
  x0 : PySem.W.excIn K (E 0) [.type "ValueError", .type "Exception", .type "BaseException", .type "object"] "ValueError.__new__" = true
  k0 : PySem.W.keepIn K (.ref (E 0)) = true
  c1 : mg "FullError" = some (.ref (E 1))
  x1 : PySem.W.excIn K (E 1) [.type "ValueError", .type "Exception", .type "BaseException", .type "object"] "ValueError.__new__" = true
  k1 : PySem.W.keepIn K (.ref (E 1)) = true
  c2 : mg "InvalidFormatError" = some (.ref (E 2))
  x2 : PySem.W.excIn K (E 2) [.type "ValueError", .type "Exception", .type "BaseException", .type "object"] "ValueError.__new__" = true
  k2 : PySem.W.keepIn K (.ref (E 2)) = true
  c3 : mg "InvalidHistoryError" = some (.ref (E 3))
  x3 : PySem.W.excIn K (E 3) [.type "ValueError", .type "Exception", .type "BaseException", .type "object"] "ValueError.__new__" = true
  k3 : PySem.W.keepIn K (.ref (E 3)) = true
  c4 : mg "InvalidNumberError" = some (.ref (E 4))
  x4 : PySem.W.excIn K (E 4) [.type "ValueError", .type "Exception", .type "BaseException", .type "object"] "ValueError.__new__" = true
  k4 : PySem.W.keepIn K (.ref (E 4)) = true
  c5 : mg "InvalidOrderError" = some (.ref (E 5))
  x5 : PySem.W.excIn K (E 5) [.type "ValueError", .type "Exception", .type "BaseException", .type "object"] "ValueError.__new__" = true
  k5 : PySem.W.keepIn K (.ref (E 5)) = true
  c6 : mg "InvalidPatchError" = some (.ref (E 6))
  x6 : PySem.W.excIn K (E 6) [.type "ValueError", .type "Exception", .type "BaseException", .type "object"] "ValueError.__new__" = true
  k6 : PySem.W.keepIn K (.ref (E 6)) = true
  c7 : mg "InvalidPieceError" = some (.ref (E 7))
  x7 : PySem.W.excIn K (E 7) [.type "ValueError", .type "Exception", .type "BaseException", .type "object"] "ValueError.__new__" = true
  k7 : PySem.W.keepIn K (.ref (E 7)) = true
  c8 : mg "InvalidPresentsError" = some (.ref (E 8))
  x8 : PySem.W.excIn K (E 8) [.type "ValueError", .type "Exception", .type "BaseException", .type "object"] "ValueError.__new__" = true
  k8 : PySem.W.keepIn K (.ref (E 8)) = true
  c9 : mg "InvalidShapeError" = some (.ref (E 9))
  x9 : PySem.W.excIn K (E 9) [.type "ValueError", .type "Exception", .type "BaseException", .type "object"] "ValueError.__new__" = true
  k9 : PySem.W.keepIn K (.ref (E 9)) = true
  c10 : mg "InvalidStateError" = some (.ref (E 10))
  x10 : PySem.W.excIn K (E 10) [.type "ValueError", .type "Exception", .type "BaseException", .type "object"] "ValueError.__new__" = true
  k10 : PySem.W.keepIn K (.ref (E 10)) = true
  c11 : mg "InvalidTouchesError" = some (.ref (E 11))
  x11 : PySem.W.excIn K (E 11) [.type "ValueError", .type "Exception", .type "BaseException", .type "object"] "ValueError.__new__" = true
  k11 : PySem.W.keepIn K (.ref (E 11)) = true
  c12 : mg "InvalidValueError" = some (.ref (E 12))
  x12 : PySem.W.excIn K (E 12) [.type "ValueError", .type "Exception", .type "BaseException", .type "object"] "ValueError.__new__" = true
  k12 : PySem.W.keepIn K (.ref (E 12)) = true
  c13 : mg "MismatchError" = some (.ref (E 13))
  x13 : PySem.W.excIn K (E 13) [.type "ValueError", .type "Exception", .type "BaseException", .type "object"] "ValueError.__new__" = true
  k13 : PySem.W.keepIn K (.ref (E 13)) = true
  c14 : mg "NotRunningError" = some (.ref (E 14))
  x14 : PySem.W.excIn K (E 14) [.type "ValueError", .type "Exception", .type "BaseException", .type "object"] "ValueError.__new__" = true
  k14 : PySem.W.keepIn K (.ref (E 14)) = true
  c15 : mg "OutOfOrderError" = some (.ref (E 15))
  x15 : PySem.W.excIn K (E 15) [.type "ValueError", .type "Exception", .type "BaseException", .type "object"] "ValueError.__new__" = true
  k15 : PySem.W.keepIn K (.ref (E 15)) = true
  c16 : mg "StartedError" = some (.ref (E 16))
  x16 : PySem.W.excIn K (E 16) [.type "ValueError", .type "Exception", .type "BaseException", .type "object"] "ValueError.__new__" = true
  k16 : PySem.W.keepIn K (.ref (E 16)) = true
  c17 : mg "LatepatchError" = some (.ref (E 17))
  x17 : PySem.W.excIn K (E 17) [.type "ValueError", .type "Exception", .type "BaseException", .type "object"] "ValueError.__new__" = true
  k17 : PySem.W.keepIn K (.ref (E 17)) = true
  ec : ∀ d, d ≤ 17 → ExcC K (E d)
  kit : ∀ d j, d ≤ 17 → j < 17 → PySem.W.kitOne K (.ref (E d)) (.ref (E j)) = some (decide (j = d))
  kitL : ∀ d, d < 17 → PySem.W.kitOne K (.ref (E d)) (.ref (E 17)) = some true
  kitV : ∀ d, d < 17 → PySem.W.kitOne K (.ref (E d)) (.type "ValueError") = some true
  b3 : PySem.W.subIn K (.ref (E 3)) (.type "BaseException") = some true
  b6 : PySem.W.subIn K (.ref (E 6)) (.type "BaseException") = some true
  t3 : PySem.W.typeIn K (.ref (E 3)) = some (.type "type")
  t6 : PySem.W.typeIn K (.ref (E 6)) = some (.type "type")
  m3 : PySem.W.exmOne K (.ref (E 3)) (.ref (E 17)) = some true
  m6 : PySem.W.exmOne K (.ref (E 6)) (.ref (E 17)) = some true
/-! ### lists of bools -/
def dB (bs : List Bool) : PyData := .list (bs.map .bool)
theorem lay_bools : ∀ bs : List Bool, PyData.canLayAll0 (bs.map PyData.bool) = true
  | [] => rfl
  | _ :: r => by
    show (PyData.canLay0 (.bool _) && PyData.canLayAll0 (r.map PyData.bool)) = true
    rw [lay_bools r]
    rfl
theorem depth_bools : ∀ bs : List Bool, PyData.depthAll (bs.map PyData.bool) = 0
  | [] => rfl
  | _ :: r => by
    show max (PyData.depth (.bool _)) (PyData.depthAll (r.map PyData.bool)) = 0
    rw [depth_bools r]
    rfl
theorem shaped_bools (bs : List Bool) : SeqAt.shaped (dB bs) = true := by
  show (PyData.canLayAll0 (bs.map PyData.bool) && decide (PyData.depthAll (bs.map PyData.bool) + 1 ≤ 64)) = true
  rw [lay_bools, depth_bools]
  rfl
theorem dpAll_bools {K : PySem.W.Frag} {H : Hp} : ∀ bs : List Bool, DpAll K H (bs.map V.bl) (bs.map PyData.bool)
  | [] => .nil
  | b :: r => .cons (.bl b) (dpAll_bools r)
theorem dp_bools {K : PySem.W.Frag} {H : Hp} {a : Addr} {bs : List Bool} (h : SqL K H a (bs.map V.bl)) : Dp K H (.ref a) (dB bs) := .lst h (dpAll_bools bs)
theorem eqv_bools (bs : List Bool) : PyData.eqv (dB bs) (dB bs) = true := SeqAt.eqv_refl _ (lay_bools bs)
def marksL (d : Nat) : List Bool := (List.range 17).map fun j => decide (j = d)
section
variable {P : Program} {w : World} {K : PySem.W.Frag} {mg : Str → Option Value} {base : Heap} {E : Nat → Addr}
/-! ### _law_marks -/
def spMarks (K : PySem.W.Frag) (E : Nat → Addr) : Sp := fun vs H Q _ => ∃ (a : Addr) (d : Nat), vs = [.ref a] ∧ d ≤ 17 ∧ H a = some (ExO (.ref (E d)) a) ∧ ∀ H' p, Same H H' → H p = none → H' p = some (.lst ((marksL d).map V.bl)) → Q (.ref p) H'
def spMarksE (K : PySem.W.Frag) (E : Nat → Addr) : Addr × Obj → Sp := fun pr vs H Q _ => ∃ (d : Nat), vs = [.ref pr.1] ∧ d ≤ 17 ∧ Zc (.ref (E d)) none pr.2 ∧ (∃ vs, pr.2.data = .fields vs) ∧ ∀ H' p, Same H H' → H p = none → H' p = some (.lst ((marksL d).map V.bl)) → Q (.ref p) H'
theorem ok_law_marks {f : Addr} {fd : FuncData} (F : Fun K "_law_marks" "_law_marks" s_law_marks f fd) (B : NoB mg) (R : Err K mg E) : FnOk P w K mg base CX0 1 f fd ["e"] (spMarks K E) := by
  refine F.ok sc_law_marks (fun vs H Q E h => ?_) (fun cdv A outer s H vs Q E_ hr h => ?_)
  · obtain ⟨a, d, rfl, _⟩ := h
    rfl
  · obtain ⟨a, d, rfl, hd, ha, q⟩ := h
    refine ⟨_, (pss_cons (ps_set (i := 1) sc_law_marks.nd rfl (Or.inl rfl) (pe_lst (pa_cons (pe_callB call_isX (by rfl) B.isinstance (by decide +kernel) (pa_cons (pv 0) (pa_cons (pe_glob (v := .ref (E 0)) (by rfl) R.c0 rfl) pa_nil))) (pa_cons (pe_callB call_isX (by rfl) B.isinstance (by decide +kernel) (pa_cons (pv 0) (pa_cons (pe_glob (v := .ref (E 1)) (by rfl) R.c1 rfl) pa_nil))) (pa_cons (pe_callB call_isX (by rfl) B.isinstance (by decide +kernel) (pa_cons (pv 0) (pa_cons (pe_glob (v := .ref (E 2)) (by rfl) R.c2 rfl) pa_nil))) pa_nil)))))
        (pss_cons (ps_set (i := 1) sc_law_marks.nd rfl (Or.inl rfl) (pe_op op_cat (pv 1) (pe_lst (pa_cons (pe_callB call_isX (by rfl) B.isinstance (by decide +kernel) (pa_cons (pv 0) (pa_cons (pe_glob (v := .ref (E 3)) (by rfl) R.c3 rfl) pa_nil))) (pa_cons (pe_callB call_isX (by rfl) B.isinstance (by decide +kernel) (pa_cons (pv 0) (pa_cons (pe_glob (v := .ref (E 4)) (by rfl) R.c4 rfl) pa_nil))) pa_nil)))))
        (pss_cons (ps_set (i := 1) sc_law_marks.nd rfl (Or.inl rfl) (pe_op op_cat (pv 1) (pe_lst (pa_cons (pe_callB call_isX (by rfl) B.isinstance (by decide +kernel) (pa_cons (pv 0) (pa_cons (pe_glob (v := .ref (E 5)) (by rfl) R.c5 rfl) pa_nil))) (pa_cons (pe_callB call_isX (by rfl) B.isinstance (by decide +kernel) (pa_cons (pv 0) (pa_cons (pe_glob (v := .ref (E 6)) (by rfl) R.c6 rfl) pa_nil))) pa_nil)))))
        (pss_cons (ps_set (i := 1) sc_law_marks.nd rfl (Or.inl rfl) (pe_op op_cat (pv 1) (pe_lst (pa_cons (pe_callB call_isX (by rfl) B.isinstance (by decide +kernel) (pa_cons (pv 0) (pa_cons (pe_glob (v := .ref (E 7)) (by rfl) R.c7 rfl) pa_nil))) (pa_cons (pe_callB call_isX (by rfl) B.isinstance (by decide +kernel) (pa_cons (pv 0) (pa_cons (pe_glob (v := .ref (E 8)) (by rfl) R.c8 rfl) pa_nil))) pa_nil)))))
        (pss_cons (ps_set (i := 1) sc_law_marks.nd rfl (Or.inl rfl) (pe_op op_cat (pv 1) (pe_lst (pa_cons (pe_callB call_isX (by rfl) B.isinstance (by decide +kernel) (pa_cons (pv 0) (pa_cons (pe_glob (v := .ref (E 9)) (by rfl) R.c9 rfl) pa_nil))) (pa_cons (pe_callB call_isX (by rfl) B.isinstance (by decide +kernel) (pa_cons (pv 0) (pa_cons (pe_glob (v := .ref (E 10)) (by rfl) R.c10 rfl) pa_nil))) pa_nil)))))
        (pss_cons (ps_set (i := 1) sc_law_marks.nd rfl (Or.inl rfl) (pe_op op_cat (pv 1) (pe_lst (pa_cons (pe_callB call_isX (by rfl) B.isinstance (by decide +kernel) (pa_cons (pv 0) (pa_cons (pe_glob (v := .ref (E 11)) (by rfl) R.c11 rfl) pa_nil))) (pa_cons (pe_callB call_isX (by rfl) B.isinstance (by decide +kernel) (pa_cons (pv 0) (pa_cons (pe_glob (v := .ref (E 12)) (by rfl) R.c12 rfl) pa_nil))) pa_nil)))))
        (pss_cons (ps_set (i := 1) sc_law_marks.nd rfl (Or.inl rfl) (pe_op op_cat (pv 1) (pe_lst (pa_cons (pe_callB call_isX (by rfl) B.isinstance (by decide +kernel) (pa_cons (pv 0) (pa_cons (pe_glob (v := .ref (E 13)) (by rfl) R.c13 rfl) pa_nil))) (pa_cons (pe_callB call_isX (by rfl) B.isinstance (by decide +kernel) (pa_cons (pv 0) (pa_cons (pe_glob (v := .ref (E 14)) (by rfl) R.c14 rfl) pa_nil))) pa_nil)))))
        (pss_one (ps_ret (pe_op op_cat (pv 1) (pe_lst (pa_cons (pe_callB call_isX (by rfl) B.isinstance (by decide +kernel) (pa_cons (pv 0) (pa_cons (pe_glob (v := .ref (E 15)) (by rfl) R.c15 rfl) pa_nil))) (pa_cons (pe_callB call_isX (by rfl) B.isinstance (by decide +kernel) (pa_cons (pv 0) (pa_cons (pe_glob (v := .ref (E 16)) (by rfl) R.c16 rfl) pa_nil))) pa_nil))))))))))))), ?_⟩
    refine ⟨_, rfl, a, E d, _, _, _, rfl, ha, R.ec d hd, fun u h => h, R.kit d 0 hd (by decide), _, rfl, a, E d, _, _, _, rfl, ha, R.ec d hd, fun u h => h, R.kit d 1 hd (by decide), _, rfl, a, E d, _, _, _, rfl, ha, R.ec d hd, fun u h => h, R.kit d 2 hd (by decide), by show 3 ≤ sizeLine; decide, fun p0 n0 => ?_⟩
    have s0 : Same H (upd H p0 (.lst [.bl (decide (0 = d)), .bl (decide (1 = d)), .bl (decide (2 = d))])) := same_new n0
    have h0 : (upd H p0 (.lst [.bl (decide (0 = d)), .bl (decide (1 = d)), .bl (decide (2 = d))])) p0 = some (.lst (((marksL d).take 3).map V.bl)) := upd_same
    generalize upd H p0 (.lst [.bl (decide (0 = d)), .bl (decide (1 = d)), .bl (decide (2 = d))]) = H0 at s0 h0 ⊢
    refine ⟨_, rfl, _, rfl, a, E d, _, _, _, rfl, s0 _ _ ha, R.ec d hd, fun u h => h, R.kit d 3 hd (by decide), _, rfl, a, E d, _, _, _, rfl, s0 _ _ ha, R.ec d hd, fun u h => h, R.kit d 4 hd (by decide), by show 2 ≤ sizeLine; decide, fun q1 m1 => ?_⟩
    refine ⟨p0, q1, _, _, rfl, rfl, same_new m1 _ _ h0, upd_same, by show 3 + 2 ≤ sizeLine; decide, fun p1 n1 => ?_⟩
    have s1 : Same H (upd (upd H0 q1 (.lst [.bl (decide (3 = d)), .bl (decide (4 = d))])) p1 (.lst (((marksL d).take 3).map V.bl ++ [.bl (decide (3 = d)), .bl (decide (4 = d))]))) := Lp.Same.add (Lp.Same.add s0 m1) n1
    have f1 : H p1 = none := s0.free ((same_new m1).free n1)
    have h1 : (upd (upd H0 q1 (.lst [.bl (decide (3 = d)), .bl (decide (4 = d))])) p1 (.lst (((marksL d).take 3).map V.bl ++ [.bl (decide (3 = d)), .bl (decide (4 = d))]))) p1 = some (.lst (((marksL d).take 5).map V.bl)) := upd_same
    generalize upd (upd H0 q1 (.lst [.bl (decide (3 = d)), .bl (decide (4 = d))])) p1 (.lst (((marksL d).take 3).map V.bl ++ [.bl (decide (3 = d)), .bl (decide (4 = d))])) = H1 at s1 h1 ⊢
    refine ⟨_, rfl, _, rfl, a, E d, _, _, _, rfl, s1 _ _ ha, R.ec d hd, fun u h => h, R.kit d 5 hd (by decide), _, rfl, a, E d, _, _, _, rfl, s1 _ _ ha, R.ec d hd, fun u h => h, R.kit d 6 hd (by decide), by show 2 ≤ sizeLine; decide, fun q2 m2 => ?_⟩
    refine ⟨p1, q2, _, _, rfl, rfl, same_new m2 _ _ h1, upd_same, by show 5 + 2 ≤ sizeLine; decide, fun p2 n2 => ?_⟩
    have s2 : Same H (upd (upd H1 q2 (.lst [.bl (decide (5 = d)), .bl (decide (6 = d))])) p2 (.lst (((marksL d).take 5).map V.bl ++ [.bl (decide (5 = d)), .bl (decide (6 = d))]))) := Lp.Same.add (Lp.Same.add s1 m2) n2
    have f2 : H p2 = none := s1.free ((same_new m2).free n2)
    have h2 : (upd (upd H1 q2 (.lst [.bl (decide (5 = d)), .bl (decide (6 = d))])) p2 (.lst (((marksL d).take 5).map V.bl ++ [.bl (decide (5 = d)), .bl (decide (6 = d))]))) p2 = some (.lst (((marksL d).take 7).map V.bl)) := upd_same
    generalize upd (upd H1 q2 (.lst [.bl (decide (5 = d)), .bl (decide (6 = d))])) p2 (.lst (((marksL d).take 5).map V.bl ++ [.bl (decide (5 = d)), .bl (decide (6 = d))])) = H2 at s2 h2 ⊢
    refine ⟨_, rfl, _, rfl, a, E d, _, _, _, rfl, s2 _ _ ha, R.ec d hd, fun u h => h, R.kit d 7 hd (by decide), _, rfl, a, E d, _, _, _, rfl, s2 _ _ ha, R.ec d hd, fun u h => h, R.kit d 8 hd (by decide), by show 2 ≤ sizeLine; decide, fun q3 m3 => ?_⟩
    refine ⟨p2, q3, _, _, rfl, rfl, same_new m3 _ _ h2, upd_same, by show 7 + 2 ≤ sizeLine; decide, fun p3 n3 => ?_⟩
    have s3 : Same H (upd (upd H2 q3 (.lst [.bl (decide (7 = d)), .bl (decide (8 = d))])) p3 (.lst (((marksL d).take 7).map V.bl ++ [.bl (decide (7 = d)), .bl (decide (8 = d))]))) := Lp.Same.add (Lp.Same.add s2 m3) n3
    have f3 : H p3 = none := s2.free ((same_new m3).free n3)
    have h3 : (upd (upd H2 q3 (.lst [.bl (decide (7 = d)), .bl (decide (8 = d))])) p3 (.lst (((marksL d).take 7).map V.bl ++ [.bl (decide (7 = d)), .bl (decide (8 = d))]))) p3 = some (.lst (((marksL d).take 9).map V.bl)) := upd_same
    generalize upd (upd H2 q3 (.lst [.bl (decide (7 = d)), .bl (decide (8 = d))])) p3 (.lst (((marksL d).take 7).map V.bl ++ [.bl (decide (7 = d)), .bl (decide (8 = d))])) = H3 at s3 h3 ⊢
    refine ⟨_, rfl, _, rfl, a, E d, _, _, _, rfl, s3 _ _ ha, R.ec d hd, fun u h => h, R.kit d 9 hd (by decide), _, rfl, a, E d, _, _, _, rfl, s3 _ _ ha, R.ec d hd, fun u h => h, R.kit d 10 hd (by decide), by show 2 ≤ sizeLine; decide, fun q4 m4 => ?_⟩
    refine ⟨p3, q4, _, _, rfl, rfl, same_new m4 _ _ h3, upd_same, by show 9 + 2 ≤ sizeLine; decide, fun p4 n4 => ?_⟩
    have s4 : Same H (upd (upd H3 q4 (.lst [.bl (decide (9 = d)), .bl (decide (10 = d))])) p4 (.lst (((marksL d).take 9).map V.bl ++ [.bl (decide (9 = d)), .bl (decide (10 = d))]))) := Lp.Same.add (Lp.Same.add s3 m4) n4
    have f4 : H p4 = none := s3.free ((same_new m4).free n4)
    have h4 : (upd (upd H3 q4 (.lst [.bl (decide (9 = d)), .bl (decide (10 = d))])) p4 (.lst (((marksL d).take 9).map V.bl ++ [.bl (decide (9 = d)), .bl (decide (10 = d))]))) p4 = some (.lst (((marksL d).take 11).map V.bl)) := upd_same
    generalize upd (upd H3 q4 (.lst [.bl (decide (9 = d)), .bl (decide (10 = d))])) p4 (.lst (((marksL d).take 9).map V.bl ++ [.bl (decide (9 = d)), .bl (decide (10 = d))])) = H4 at s4 h4 ⊢
    refine ⟨_, rfl, _, rfl, a, E d, _, _, _, rfl, s4 _ _ ha, R.ec d hd, fun u h => h, R.kit d 11 hd (by decide), _, rfl, a, E d, _, _, _, rfl, s4 _ _ ha, R.ec d hd, fun u h => h, R.kit d 12 hd (by decide), by show 2 ≤ sizeLine; decide, fun q5 m5 => ?_⟩
    refine ⟨p4, q5, _, _, rfl, rfl, same_new m5 _ _ h4, upd_same, by show 11 + 2 ≤ sizeLine; decide, fun p5 n5 => ?_⟩
    have s5 : Same H (upd (upd H4 q5 (.lst [.bl (decide (11 = d)), .bl (decide (12 = d))])) p5 (.lst (((marksL d).take 11).map V.bl ++ [.bl (decide (11 = d)), .bl (decide (12 = d))]))) := Lp.Same.add (Lp.Same.add s4 m5) n5
    have f5 : H p5 = none := s4.free ((same_new m5).free n5)
    have h5 : (upd (upd H4 q5 (.lst [.bl (decide (11 = d)), .bl (decide (12 = d))])) p5 (.lst (((marksL d).take 11).map V.bl ++ [.bl (decide (11 = d)), .bl (decide (12 = d))]))) p5 = some (.lst (((marksL d).take 13).map V.bl)) := upd_same
    generalize upd (upd H4 q5 (.lst [.bl (decide (11 = d)), .bl (decide (12 = d))])) p5 (.lst (((marksL d).take 11).map V.bl ++ [.bl (decide (11 = d)), .bl (decide (12 = d))])) = H5 at s5 h5 ⊢
    refine ⟨_, rfl, _, rfl, a, E d, _, _, _, rfl, s5 _ _ ha, R.ec d hd, fun u h => h, R.kit d 13 hd (by decide), _, rfl, a, E d, _, _, _, rfl, s5 _ _ ha, R.ec d hd, fun u h => h, R.kit d 14 hd (by decide), by show 2 ≤ sizeLine; decide, fun q6 m6 => ?_⟩
    refine ⟨p5, q6, _, _, rfl, rfl, same_new m6 _ _ h5, upd_same, by show 13 + 2 ≤ sizeLine; decide, fun p6 n6 => ?_⟩
    have s6 : Same H (upd (upd H5 q6 (.lst [.bl (decide (13 = d)), .bl (decide (14 = d))])) p6 (.lst (((marksL d).take 13).map V.bl ++ [.bl (decide (13 = d)), .bl (decide (14 = d))]))) := Lp.Same.add (Lp.Same.add s5 m6) n6
    have f6 : H p6 = none := s5.free ((same_new m6).free n6)
    have h6 : (upd (upd H5 q6 (.lst [.bl (decide (13 = d)), .bl (decide (14 = d))])) p6 (.lst (((marksL d).take 13).map V.bl ++ [.bl (decide (13 = d)), .bl (decide (14 = d))]))) p6 = some (.lst (((marksL d).take 15).map V.bl)) := upd_same
    generalize upd (upd H5 q6 (.lst [.bl (decide (13 = d)), .bl (decide (14 = d))])) p6 (.lst (((marksL d).take 13).map V.bl ++ [.bl (decide (13 = d)), .bl (decide (14 = d))])) = H6 at s6 h6 ⊢
    refine ⟨_, rfl, _, rfl, a, E d, _, _, _, rfl, s6 _ _ ha, R.ec d hd, fun u h => h, R.kit d 15 hd (by decide), _, rfl, a, E d, _, _, _, rfl, s6 _ _ ha, R.ec d hd, fun u h => h, R.kit d 16 hd (by decide), by show 2 ≤ sizeLine; decide, fun q7 m7 => ?_⟩
    refine ⟨p6, q7, _, _, rfl, rfl, same_new m7 _ _ h6, upd_same, by show 15 + 2 ≤ sizeLine; decide, fun p7 n7 => ?_⟩
    have s7 : Same H (upd (upd H6 q7 (.lst [.bl (decide (15 = d)), .bl (decide (16 = d))])) p7 (.lst (((marksL d).take 15).map V.bl ++ [.bl (decide (15 = d)), .bl (decide (16 = d))]))) := Lp.Same.add (Lp.Same.add s6 m7) n7
    have f7 : H p7 = none := s6.free ((same_new m7).free n7)
    have h7 : (upd (upd H6 q7 (.lst [.bl (decide (15 = d)), .bl (decide (16 = d))])) p7 (.lst (((marksL d).take 15).map V.bl ++ [.bl (decide (15 = d)), .bl (decide (16 = d))]))) p7 = some (.lst (((marksL d).take 17).map V.bl)) := upd_same
    exact q _ p7 s7 f7 h7
theorem ok_law_marks_e {f : Addr} {fd : FuncData} (F : Fun K "_law_marks" "_law_marks" s_law_marks f fd) (B : NoB mg) (R : Err K mg E) : FnE P w K mg base 1 f fd ["e"] (spMarksE K E) := by
  refine okE F sc_law_marks (fun pr vs H Q E h => ?_) (fun cdv pr A outer s H vs Q E_ hr h => ?_)
  · obtain ⟨d, rfl, _⟩ := h
    rfl
  · obtain ⟨d, rfl, hd, hz, hf, q⟩ := h
    refine ⟨_, (pss_cons (ps_set (i := 1) sc_law_marks.nd rfl (Or.inl rfl) (pe_lst (pa_cons (pe_callB (call_isP List.mem_cons_self) (by rfl) B.isinstance (by decide +kernel) (pa_cons (pv 0) (pa_cons (pe_glob (v := .ref (E 0)) (by rfl) R.c0 rfl) pa_nil))) (pa_cons (pe_callB (call_isP List.mem_cons_self) (by rfl) B.isinstance (by decide +kernel) (pa_cons (pv 0) (pa_cons (pe_glob (v := .ref (E 1)) (by rfl) R.c1 rfl) pa_nil))) (pa_cons (pe_callB (call_isP List.mem_cons_self) (by rfl) B.isinstance (by decide +kernel) (pa_cons (pv 0) (pa_cons (pe_glob (v := .ref (E 2)) (by rfl) R.c2 rfl) pa_nil))) pa_nil)))))
        (pss_cons (ps_set (i := 1) sc_law_marks.nd rfl (Or.inl rfl) (pe_op op_cat (pv 1) (pe_lst (pa_cons (pe_callB (call_isP List.mem_cons_self) (by rfl) B.isinstance (by decide +kernel) (pa_cons (pv 0) (pa_cons (pe_glob (v := .ref (E 3)) (by rfl) R.c3 rfl) pa_nil))) (pa_cons (pe_callB (call_isP List.mem_cons_self) (by rfl) B.isinstance (by decide +kernel) (pa_cons (pv 0) (pa_cons (pe_glob (v := .ref (E 4)) (by rfl) R.c4 rfl) pa_nil))) pa_nil)))))
        (pss_cons (ps_set (i := 1) sc_law_marks.nd rfl (Or.inl rfl) (pe_op op_cat (pv 1) (pe_lst (pa_cons (pe_callB (call_isP List.mem_cons_self) (by rfl) B.isinstance (by decide +kernel) (pa_cons (pv 0) (pa_cons (pe_glob (v := .ref (E 5)) (by rfl) R.c5 rfl) pa_nil))) (pa_cons (pe_callB (call_isP List.mem_cons_self) (by rfl) B.isinstance (by decide +kernel) (pa_cons (pv 0) (pa_cons (pe_glob (v := .ref (E 6)) (by rfl) R.c6 rfl) pa_nil))) pa_nil)))))
        (pss_cons (ps_set (i := 1) sc_law_marks.nd rfl (Or.inl rfl) (pe_op op_cat (pv 1) (pe_lst (pa_cons (pe_callB (call_isP List.mem_cons_self) (by rfl) B.isinstance (by decide +kernel) (pa_cons (pv 0) (pa_cons (pe_glob (v := .ref (E 7)) (by rfl) R.c7 rfl) pa_nil))) (pa_cons (pe_callB (call_isP List.mem_cons_self) (by rfl) B.isinstance (by decide +kernel) (pa_cons (pv 0) (pa_cons (pe_glob (v := .ref (E 8)) (by rfl) R.c8 rfl) pa_nil))) pa_nil)))))
        (pss_cons (ps_set (i := 1) sc_law_marks.nd rfl (Or.inl rfl) (pe_op op_cat (pv 1) (pe_lst (pa_cons (pe_callB (call_isP List.mem_cons_self) (by rfl) B.isinstance (by decide +kernel) (pa_cons (pv 0) (pa_cons (pe_glob (v := .ref (E 9)) (by rfl) R.c9 rfl) pa_nil))) (pa_cons (pe_callB (call_isP List.mem_cons_self) (by rfl) B.isinstance (by decide +kernel) (pa_cons (pv 0) (pa_cons (pe_glob (v := .ref (E 10)) (by rfl) R.c10 rfl) pa_nil))) pa_nil)))))
        (pss_cons (ps_set (i := 1) sc_law_marks.nd rfl (Or.inl rfl) (pe_op op_cat (pv 1) (pe_lst (pa_cons (pe_callB (call_isP List.mem_cons_self) (by rfl) B.isinstance (by decide +kernel) (pa_cons (pv 0) (pa_cons (pe_glob (v := .ref (E 11)) (by rfl) R.c11 rfl) pa_nil))) (pa_cons (pe_callB (call_isP List.mem_cons_self) (by rfl) B.isinstance (by decide +kernel) (pa_cons (pv 0) (pa_cons (pe_glob (v := .ref (E 12)) (by rfl) R.c12 rfl) pa_nil))) pa_nil)))))
        (pss_cons (ps_set (i := 1) sc_law_marks.nd rfl (Or.inl rfl) (pe_op op_cat (pv 1) (pe_lst (pa_cons (pe_callB (call_isP List.mem_cons_self) (by rfl) B.isinstance (by decide +kernel) (pa_cons (pv 0) (pa_cons (pe_glob (v := .ref (E 13)) (by rfl) R.c13 rfl) pa_nil))) (pa_cons (pe_callB (call_isP List.mem_cons_self) (by rfl) B.isinstance (by decide +kernel) (pa_cons (pv 0) (pa_cons (pe_glob (v := .ref (E 14)) (by rfl) R.c14 rfl) pa_nil))) pa_nil)))))
        (pss_one (ps_ret (pe_op op_cat (pv 1) (pe_lst (pa_cons (pe_callB (call_isP List.mem_cons_self) (by rfl) B.isinstance (by decide +kernel) (pa_cons (pv 0) (pa_cons (pe_glob (v := .ref (E 15)) (by rfl) R.c15 rfl) pa_nil))) (pa_cons (pe_callB (call_isP List.mem_cons_self) (by rfl) B.isinstance (by decide +kernel) (pa_cons (pv 0) (pa_cons (pe_glob (v := .ref (E 16)) (by rfl) R.c16 rfl) pa_nil))) pa_nil))))))))))))), ?_⟩
    refine ⟨_, rfl, E d, _, _, _, rfl, hz, hf, R.ec d hd, fun u h => h, R.kit d 0 hd (by decide), _, rfl, E d, _, _, _, rfl, hz, hf, R.ec d hd, fun u h => h, R.kit d 1 hd (by decide), _, rfl, E d, _, _, _, rfl, hz, hf, R.ec d hd, fun u h => h, R.kit d 2 hd (by decide), by show 3 ≤ sizeLine; decide, fun p0 n0 => ?_⟩
    have s0 : Same H (upd H p0 (.lst [.bl (decide (0 = d)), .bl (decide (1 = d)), .bl (decide (2 = d))])) := same_new n0
    have h0 : (upd H p0 (.lst [.bl (decide (0 = d)), .bl (decide (1 = d)), .bl (decide (2 = d))])) p0 = some (.lst (((marksL d).take 3).map V.bl)) := upd_same
    generalize upd H p0 (.lst [.bl (decide (0 = d)), .bl (decide (1 = d)), .bl (decide (2 = d))]) = H0 at s0 h0 ⊢
    refine ⟨_, rfl, _, rfl, E d, _, _, _, rfl, hz, hf, R.ec d hd, fun u h => h, R.kit d 3 hd (by decide), _, rfl, E d, _, _, _, rfl, hz, hf, R.ec d hd, fun u h => h, R.kit d 4 hd (by decide), by show 2 ≤ sizeLine; decide, fun q1 m1 => ?_⟩
    refine ⟨p0, q1, _, _, rfl, rfl, same_new m1 _ _ h0, upd_same, by show 3 + 2 ≤ sizeLine; decide, fun p1 n1 => ?_⟩
    have s1 : Same H (upd (upd H0 q1 (.lst [.bl (decide (3 = d)), .bl (decide (4 = d))])) p1 (.lst (((marksL d).take 3).map V.bl ++ [.bl (decide (3 = d)), .bl (decide (4 = d))]))) := Lp.Same.add (Lp.Same.add s0 m1) n1
    have f1 : H p1 = none := s0.free ((same_new m1).free n1)
    have h1 : (upd (upd H0 q1 (.lst [.bl (decide (3 = d)), .bl (decide (4 = d))])) p1 (.lst (((marksL d).take 3).map V.bl ++ [.bl (decide (3 = d)), .bl (decide (4 = d))]))) p1 = some (.lst (((marksL d).take 5).map V.bl)) := upd_same
    generalize upd (upd H0 q1 (.lst [.bl (decide (3 = d)), .bl (decide (4 = d))])) p1 (.lst (((marksL d).take 3).map V.bl ++ [.bl (decide (3 = d)), .bl (decide (4 = d))])) = H1 at s1 h1 ⊢
    refine ⟨_, rfl, _, rfl, E d, _, _, _, rfl, hz, hf, R.ec d hd, fun u h => h, R.kit d 5 hd (by decide), _, rfl, E d, _, _, _, rfl, hz, hf, R.ec d hd, fun u h => h, R.kit d 6 hd (by decide), by show 2 ≤ sizeLine; decide, fun q2 m2 => ?_⟩
    refine ⟨p1, q2, _, _, rfl, rfl, same_new m2 _ _ h1, upd_same, by show 5 + 2 ≤ sizeLine; decide, fun p2 n2 => ?_⟩
    have s2 : Same H (upd (upd H1 q2 (.lst [.bl (decide (5 = d)), .bl (decide (6 = d))])) p2 (.lst (((marksL d).take 5).map V.bl ++ [.bl (decide (5 = d)), .bl (decide (6 = d))]))) := Lp.Same.add (Lp.Same.add s1 m2) n2
    have f2 : H p2 = none := s1.free ((same_new m2).free n2)
    have h2 : (upd (upd H1 q2 (.lst [.bl (decide (5 = d)), .bl (decide (6 = d))])) p2 (.lst (((marksL d).take 5).map V.bl ++ [.bl (decide (5 = d)), .bl (decide (6 = d))]))) p2 = some (.lst (((marksL d).take 7).map V.bl)) := upd_same
    generalize upd (upd H1 q2 (.lst [.bl (decide (5 = d)), .bl (decide (6 = d))])) p2 (.lst (((marksL d).take 5).map V.bl ++ [.bl (decide (5 = d)), .bl (decide (6 = d))])) = H2 at s2 h2 ⊢
    refine ⟨_, rfl, _, rfl, E d, _, _, _, rfl, hz, hf, R.ec d hd, fun u h => h, R.kit d 7 hd (by decide), _, rfl, E d, _, _, _, rfl, hz, hf, R.ec d hd, fun u h => h, R.kit d 8 hd (by decide), by show 2 ≤ sizeLine; decide, fun q3 m3 => ?_⟩
    refine ⟨p2, q3, _, _, rfl, rfl, same_new m3 _ _ h2, upd_same, by show 7 + 2 ≤ sizeLine; decide, fun p3 n3 => ?_⟩
    have s3 : Same H (upd (upd H2 q3 (.lst [.bl (decide (7 = d)), .bl (decide (8 = d))])) p3 (.lst (((marksL d).take 7).map V.bl ++ [.bl (decide (7 = d)), .bl (decide (8 = d))]))) := Lp.Same.add (Lp.Same.add s2 m3) n3
    have f3 : H p3 = none := s2.free ((same_new m3).free n3)
    have h3 : (upd (upd H2 q3 (.lst [.bl (decide (7 = d)), .bl (decide (8 = d))])) p3 (.lst (((marksL d).take 7).map V.bl ++ [.bl (decide (7 = d)), .bl (decide (8 = d))]))) p3 = some (.lst (((marksL d).take 9).map V.bl)) := upd_same
    generalize upd (upd H2 q3 (.lst [.bl (decide (7 = d)), .bl (decide (8 = d))])) p3 (.lst (((marksL d).take 7).map V.bl ++ [.bl (decide (7 = d)), .bl (decide (8 = d))])) = H3 at s3 h3 ⊢
    refine ⟨_, rfl, _, rfl, E d, _, _, _, rfl, hz, hf, R.ec d hd, fun u h => h, R.kit d 9 hd (by decide), _, rfl, E d, _, _, _, rfl, hz, hf, R.ec d hd, fun u h => h, R.kit d 10 hd (by decide), by show 2 ≤ sizeLine; decide, fun q4 m4 => ?_⟩
    refine ⟨p3, q4, _, _, rfl, rfl, same_new m4 _ _ h3, upd_same, by show 9 + 2 ≤ sizeLine; decide, fun p4 n4 => ?_⟩
    have s4 : Same H (upd (upd H3 q4 (.lst [.bl (decide (9 = d)), .bl (decide (10 = d))])) p4 (.lst (((marksL d).take 9).map V.bl ++ [.bl (decide (9 = d)), .bl (decide (10 = d))]))) := Lp.Same.add (Lp.Same.add s3 m4) n4
    have f4 : H p4 = none := s3.free ((same_new m4).free n4)
    have h4 : (upd (upd H3 q4 (.lst [.bl (decide (9 = d)), .bl (decide (10 = d))])) p4 (.lst (((marksL d).take 9).map V.bl ++ [.bl (decide (9 = d)), .bl (decide (10 = d))]))) p4 = some (.lst (((marksL d).take 11).map V.bl)) := upd_same
    generalize upd (upd H3 q4 (.lst [.bl (decide (9 = d)), .bl (decide (10 = d))])) p4 (.lst (((marksL d).take 9).map V.bl ++ [.bl (decide (9 = d)), .bl (decide (10 = d))])) = H4 at s4 h4 ⊢
    refine ⟨_, rfl, _, rfl, E d, _, _, _, rfl, hz, hf, R.ec d hd, fun u h => h, R.kit d 11 hd (by decide), _, rfl, E d, _, _, _, rfl, hz, hf, R.ec d hd, fun u h => h, R.kit d 12 hd (by decide), by show 2 ≤ sizeLine; decide, fun q5 m5 => ?_⟩
    refine ⟨p4, q5, _, _, rfl, rfl, same_new m5 _ _ h4, upd_same, by show 11 + 2 ≤ sizeLine; decide, fun p5 n5 => ?_⟩
    have s5 : Same H (upd (upd H4 q5 (.lst [.bl (decide (11 = d)), .bl (decide (12 = d))])) p5 (.lst (((marksL d).take 11).map V.bl ++ [.bl (decide (11 = d)), .bl (decide (12 = d))]))) := Lp.Same.add (Lp.Same.add s4 m5) n5
    have f5 : H p5 = none := s4.free ((same_new m5).free n5)
    have h5 : (upd (upd H4 q5 (.lst [.bl (decide (11 = d)), .bl (decide (12 = d))])) p5 (.lst (((marksL d).take 11).map V.bl ++ [.bl (decide (11 = d)), .bl (decide (12 = d))]))) p5 = some (.lst (((marksL d).take 13).map V.bl)) := upd_same
    generalize upd (upd H4 q5 (.lst [.bl (decide (11 = d)), .bl (decide (12 = d))])) p5 (.lst (((marksL d).take 11).map V.bl ++ [.bl (decide (11 = d)), .bl (decide (12 = d))])) = H5 at s5 h5 ⊢
    refine ⟨_, rfl, _, rfl, E d, _, _, _, rfl, hz, hf, R.ec d hd, fun u h => h, R.kit d 13 hd (by decide), _, rfl, E d, _, _, _, rfl, hz, hf, R.ec d hd, fun u h => h, R.kit d 14 hd (by decide), by show 2 ≤ sizeLine; decide, fun q6 m6 => ?_⟩
    refine ⟨p5, q6, _, _, rfl, rfl, same_new m6 _ _ h5, upd_same, by show 13 + 2 ≤ sizeLine; decide, fun p6 n6 => ?_⟩
    have s6 : Same H (upd (upd H5 q6 (.lst [.bl (decide (13 = d)), .bl (decide (14 = d))])) p6 (.lst (((marksL d).take 13).map V.bl ++ [.bl (decide (13 = d)), .bl (decide (14 = d))]))) := Lp.Same.add (Lp.Same.add s5 m6) n6
    have f6 : H p6 = none := s5.free ((same_new m6).free n6)
    have h6 : (upd (upd H5 q6 (.lst [.bl (decide (13 = d)), .bl (decide (14 = d))])) p6 (.lst (((marksL d).take 13).map V.bl ++ [.bl (decide (13 = d)), .bl (decide (14 = d))]))) p6 = some (.lst (((marksL d).take 15).map V.bl)) := upd_same
    generalize upd (upd H5 q6 (.lst [.bl (decide (13 = d)), .bl (decide (14 = d))])) p6 (.lst (((marksL d).take 13).map V.bl ++ [.bl (decide (13 = d)), .bl (decide (14 = d))])) = H6 at s6 h6 ⊢
    refine ⟨_, rfl, _, rfl, E d, _, _, _, rfl, hz, hf, R.ec d hd, fun u h => h, R.kit d 15 hd (by decide), _, rfl, E d, _, _, _, rfl, hz, hf, R.ec d hd, fun u h => h, R.kit d 16 hd (by decide), by show 2 ≤ sizeLine; decide, fun q7 m7 => ?_⟩
    refine ⟨p6, q7, _, _, rfl, rfl, same_new m7 _ _ h6, upd_same, by show 15 + 2 ≤ sizeLine; decide, fun p7 n7 => ?_⟩
    have s7 : Same H (upd (upd H6 q7 (.lst [.bl (decide (15 = d)), .bl (decide (16 = d))])) p7 (.lst (((marksL d).take 15).map V.bl ++ [.bl (decide (15 = d)), .bl (decide (16 = d))]))) := Lp.Same.add (Lp.Same.add s6 m7) n7
    have f7 : H p7 = none := s6.free ((same_new m7).free n7)
    have h7 : (upd (upd H6 q7 (.lst [.bl (decide (15 = d)), .bl (decide (16 = d))])) p7 (.lst (((marksL d).take 15).map V.bl ++ [.bl (decide (15 = d)), .bl (decide (16 = d))]))) p7 = some (.lst (((marksL d).take 17).map V.bl)) := upd_same
    exact q _ p7 s7 f7 h7
end
end L71
set_option Elab.async false
set_option linter.all false
set_option maxRecDepth 100000
namespace L71
open PySem PySem.Spec PyProof.Rows L2 Lp
section
variable {P : Program} {w : World} {K : PySem.W.Frag} {mg : Str → Option Value} {base : Heap} {E : Nat → Addr}
/-! ### the histories -/
def spIsInt : Sp := fun vs H Q _ => ∃ i : Int, vs = [.int i] ∧ Q (.bl true) H
theorem ok_is_integer {f : Addr} {fd : FuncData} (F : Fun K "is_integer" "is_integer" s_is_integer f fd) (B : NoB mg) : FnOk P w K mg base CX0 1 f fd ["value"] spIsInt := by
  refine F.ok sc_is_integer (fun vs H Q E h => ?_) (fun cdv A outer s H vs Q E hr h => ?_)
  · obtain ⟨i, rfl, _⟩ := h
    rfl
  · obtain ⟨i, rfl, q⟩ := h
    refine ⟨_, (pss_one (ps_ret (pe_and (pe_callB call_isi (by rfl) B.isinstance (by decide +kernel) (pa_cons (pv 0) (pa_cons (pe_bltn (v := .ty "int") (by rfl) B.int boot_int rfl) pa_nil))) (pe_one (pe_not (pe_callB call_isi (by rfl) B.isinstance (by decide +kernel) (pa_cons (pv 0) (pa_cons (pe_bltn (v := .ty "bool") (by rfl) B.bool boot_bool rfl) pa_nil)))))))), ?_⟩
    refine ⟨_, rfl, _, _, _, _, true, rfl, .ty _, .base (.int i), kit_ty (by decide +kernel), true, rfl, iteT ?_⟩
    exact ⟨_, rfl, _, _, _, _, false, rfl, .ty _, .base (.int i), kit_ty (by decide +kernel), false, rfl, q⟩
def spWithin : Sp := fun vs H Q _ => ∃ i lo hi : Int, vs = [.int i, .int lo, .int hi] ∧ lo ≤ i ∧ i ≤ hi ∧ Q (.bl true) H
theorem ok_is_integer_within {f : Addr} {fd : FuncData} (F : Fun K "is_integer_within" "is_integer_within" s_is_integer_within f fd) (T_is_integer : Cal P w K mg base 1 "is_integer" spIsInt) : FnOk P w K mg base CX0 2 f fd ["value", "least", "greatest"] spWithin := by
  refine F.ok sc_is_integer_within (fun vs H Q E h => ?_) (fun cdv A outer s H vs Q E hr h => ?_)
  · obtain ⟨i, lo, hi, rfl, _⟩ := h
    rfl
  · obtain ⟨i, lo, hi, rfl, h1, h2, q⟩ := h
    refine ⟨_, (pss_one (ps_ret (pe_and (pe_c T_is_integer hr (by decide) (by rfl) (pa_cons (pv 0) pa_nil)) (pe_one (pe_chain op_le op_le (pv 1) (pv 0) (pv 2)))))), ?_⟩
    refine ⟨_, rfl, i, rfl, true, rfl, iteT ?_⟩
    refine ⟨_, rfl, _, rfl, _, _, rfl, rfl, _, rfl, ?_⟩
    rw [decide_eq_true h1]
    refine iteT ⟨_, rfl, _, _, rfl, rfl, ?_⟩
    dsimp only
    rw [decide_eq_true h2]
    exact q
/-- a list of one int, or None -/
def spAreInts (K : PySem.W.Frag) : Sp := fun vs H Q _ => ∃ (v : V) (lo hi m : Int), vs = [v, .int lo, .int hi, .int m] ∧
  ((∃ (a : Addr) (n : Int), v = .ref a ∧ SqL K H a [.int n] ∧ 1 ≤ m ∧ lo ≤ n ∧ n ≤ hi ∧ ∀ H', Same H H' → Q (.bl true) H') ∨ (v = .non ∧ Q (.bl false) H))
theorem ok_are_integers {f : Addr} {fd : FuncData} (F : Fun K "are_integers" "are_integers" s_are_integers f fd) (B : NoB mg) (T_is_integer_within : Cal P w K mg base 2 "is_integer_within" spWithin) : FnOk P w K mg base CX0 3 f fd ["value", "least", "greatest", "most"] (spAreInts K) := by
  refine F.ok sc_are_integers (fun vs H Q E h => ?_) (fun cdv A outer s H vs Q E hr h => ?_)
  · obtain ⟨v, lo, hi, m, rfl, _⟩ := h
    rfl
  · obtain ⟨v, lo, hi, m, rfl, h⟩ := h
    refine ⟨_, (pss_cons (ps_if (PW.pt (pw_or (pt_cmpR op_neTyG (pe_callTy call_type1 (by rfl) B.type (by decide +kernel) (pa_cons (pv 0) pa_nil)) (pe_bltn (v := .ty "list") (by rfl) B.list boot_list rfl) (nomark _)) (pw_or1 (pt_cmpR op_gt (pe_callB call_len_seq (by rfl) B.len PySem.boot_len (pa_cons (pv 0) pa_nil)) (pv 3) (nomark _))))) (pss_one (ps_ret pe_bl)) pss_nil)
        (pss_one (ps_ret (pe_callB (cr_all rfl) (by rfl) B.all (by decide +kernel) (pa_cons (pe_lc (own := [("item", 4)]) (g := gName 4) (tt := tYes) rfl sc_are_integers.nd (pi_list (pv 0)) (blkOk_by (own := [("item", 4)]) (N := N_are_integers) (sc := defScope s_are_integers) (by decide +kernel)) (fun _ _ _ _ _ => (pg_name (i := 4) sc_are_integers.nd rfl (Or.inl rfl))) (fun _ _ _ _ _ => pts_nil) (fun _ _ _ _ _ => (pe_c T_is_integer_within hr (by decide) (by rfl) (pa_cons (pv 4) (pa_cons (pv 1) (pa_cons (pv 2) pa_nil)))))) pa_nil))))), ?_⟩
    rcases h with ⟨a, n, rfl, hS, hm, h1, h2, q⟩ | ⟨rfl, q⟩
    · refine ⟨_, rfl, _, _, rfl, .lst hS, .inl ⟨_, rfl, rfl, PySem.TypeEq.meta_list, _, rfl, iteF ?_⟩⟩
      refine ⟨_, rfl, a, _, rfl, .inl hS, _, rfl, _, _, rfl, rfl, _, rfl, ?_⟩
      rw [decide_eq_false (show ¬ m < ((([V.int n] : List V).length : Nat) : Int) by show ¬ m < 1; omega)]
      refine iteF ?_
      refine ⟨_, rfl, a, rfl, ⟨_, hS⟩, fun D hD => lc_list (xs := [V.int n]) (LcP H D fun i => (List.replicate i true).map V.bl) (.init hD rfl) (fun i H' _ p => p.2.1.seq hS) (fun i x H' hx p => ?_) (fun H' p => ?_)⟩
      · obtain ⟨k, rfl, hn⟩ := get_int (ns := [n]) hx
        have e : k = n := by
          have := mem_get hn
          rw [List.mem_singleton] at this
          exact this
        subst e
        have hi1 := lt_get hn
        refine ⟨rfl, ?_⟩
        refine ⟨_, rfl, _, rfl, _, rfl, k, lo, hi, rfl, h1, h2, ?_⟩
        refine p.put (Same.refl _) ?_ (by rw [List.length_map, List.length_replicate]; have : i < 1 := hi1; omega)
        rw [List.replicate_succ', List.map_append]
        rfl
      · exact ⟨D, _, rfl, .of p.2.2, q _ p.2.1⟩
    · exact ⟨_, rfl, _, _, rfl, .non, .inr ⟨_, _, rfl, rfl, PySem.TypeEq.meta_NoneType, PySem.TypeEq.meta_list, by decide +kernel, by decide +kernel, _, rfl, iteT q⟩⟩
def spAreEv (K : PySem.W.Frag) : Sp := fun vs H Q _ => ∃ v : V, vs = [v] ∧ ((∃ (a : Addr) (n : Int), v = .ref a ∧ SqL K H a [.int n] ∧ (n = 1 ∨ n = -1) ∧ ∀ H', Same H H' → Q (.bl true) H') ∨ (v = .non ∧ Q (.bl false) H))
theorem ok_are_events {f : Addr} {fd : FuncData} (F : Fun K "are_events" "are_events" s_are_events f fd) (B : NoB mg) {t1 t2 : Tok} (T_g_LAST_PATCH : mg "LAST_PATCH" = some (.int 100 t1)) (T_g_MOST_EVENTS : mg "MOST_EVENTS" = some (.int 200 t2))
    (T_are_integers : Cal P w K mg base 3 "are_integers" (spAreInts K)) : FnOk P w K mg base CX0 4 f fd ["value"] (spAreEv K) := by
  refine F.ok sc_are_events (fun vs H Q E h => ?_) (fun cdv A outer s H vs Q E hr h => ?_)
  · obtain ⟨v, rfl, _⟩ := h
    rfl
  · obtain ⟨v, rfl, h⟩ := h
    refine ⟨_, (pss_cons (ps_if (pt_not (pt_val (pe_c T_are_integers hr (by decide) (by rfl) (pa_cons (pv 0) (pa_cons (pe_un un_neg (pe_glob (v := .int 100) (by rfl) T_g_LAST_PATCH ⟨_, rfl⟩)) (pa_cons (pe_glob (v := .int 100) (by rfl) T_g_LAST_PATCH ⟨_, rfl⟩) (pa_cons (pe_glob (v := .int 200) (by rfl) T_g_MOST_EVENTS ⟨_, rfl⟩) pa_nil))))))) (pss_one (ps_ret pe_bl)) pss_nil)
        (pss_one (ps_ret (pe_and (pe_cmpR op_notIn_seq pe_int (pv 0) (by rfl)) (pe_one (pe_cmpR op_eq (RZ.pe_lenSetI (by rfl) B.len (by rfl) B.set (pv 0)) (pe_callB call_len_seq (by rfl) B.len PySem.boot_len (pa_cons (pv 0) pa_nil)) (nomark _))))))), ?_⟩
    rcases h with ⟨a, n, rfl, hS, hn, q⟩ | ⟨rfl, q⟩
    · refine ⟨_, rfl, _, rfl, _, -100, 100, 200, rfl, .inl ⟨a, n, rfl, hS, by decide, by omega, by omega, fun H1 s1 => ?_⟩⟩
      refine ⟨_, rfl, iteF ?_⟩
      have hS1 := s1.seq hS
      refine ⟨_, rfl, a, [V.int n], rfl, .inl hS1, rfl, flatI [n], true, notInT (ns := [n]) (fun z => ?_), iteT ?_⟩
      · rw [List.mem_singleton] at z
        omega
      · refine ⟨_, rfl, a, [n], rfl, hS1, List.nodup_cons.mpr ⟨List.not_mem_nil, List.nodup_nil⟩, (by show 1 ≤ 4000; decide), _, rfl, a, _, rfl, .inl hS1, rfl, ?_⟩
        exact q _ s1
    · exact ⟨_, rfl, _, rfl, _, -100, 100, 200, rfl, .inr ⟨rfl, _, rfl, iteT q⟩⟩
/-- what is asked: [1], or no history: [-1] or None -/
def Bad (K : PySem.W.Frag) (H : Hp) (v : V) : Prop := v = .non ∨ ∃ a, v = .ref a ∧ SqL K H a [.int (-1)]
def spIsHist (K : PySem.W.Frag) : Sp := fun vs H Q _ => ∃ v : V, vs = [v] ∧ ((∃ a, v = .ref a ∧ SqL K H a [.int 1] ∧ ∀ H', Same H H' → Q (.bl true) H') ∨ (Bad K H v ∧ ∀ H', Same H H' → Q (.bl false) H'))
theorem ok_is_history {f : Addr} {fd : FuncData} (F : Fun K "is_history" "is_history" s_is_history f fd) (B : NoB mg) (T_are_events : Cal P w K mg base 4 "are_events" (spAreEv K)) : FnOk P w K mg base CX0 5 f fd ["value"] (spIsHist K) := by
  refine F.ok sc_is_history (fun vs H Q E h => ?_) (fun cdv A outer s H vs Q E hr h => ?_)
  · obtain ⟨v, rfl, _⟩ := h
    rfl
  · obtain ⟨v, rfl, h⟩ := h
    have hu := hu_of hr
    refine ⟨_, (pss_cons (ps_if (pt_not (pt_val (pe_c T_are_events hr (by decide) (by rfl) (pa_cons (pv 0) pa_nil)))) (pss_one (ps_ret pe_bl)) pss_nil)
        (pss_cons (ps_set (i := 1) sc_is_history.nd rfl (Or.inl rfl) (pe_callTy0 cr_set0 (by rfl) B.set (by decide +kernel)))
        (pss_cons (ps_for PassesOwn.never rfl (pi_list (pv 0)) (pg_name (i := 2) sc_is_history.nd rfl (Or.inl rfl))
          (pss_one (ps_if (pt_cmpR op_gt (pv 2) pe_int (nomark _)) (pss_one (ps_expr (pe_sadd (pv 1) (pa_cons (pv 2) pa_nil)))) (pss_one (ps_if (pt_cmpR or_snotin (pe_un un_neg (pv 2)) (pv 1) (by rfl)) (pss_one (ps_ret pe_bl)) pss_nil)))))
        (pss_one (ps_ret pe_bl))))), ?_⟩
    rcases h with ⟨a, rfl, hS, q⟩ | ⟨rfl | ⟨a, rfl, hS⟩, q⟩
    · refine ⟨_, rfl, _, rfl, .inl ⟨a, 1, rfl, hS, .inl rfl, fun H1 s1 => ?_⟩⟩
      refine ⟨_, rfl, iteF ⟨rfl, fun p np => ?_⟩⟩
      have hS1 := s1.seq hS
      refine ⟨_, rfl, a, rfl, ⟨_, (same_new np).seq hS1⟩, for_list (xs := [V.int 1]) (fun i σ H' => (∃ y, σ = [some (.ref a), some (.ref p), y]) ∧ Same H1 H' ∧ (i = 0 → H' p = some (SetO w p (fun x => false) 0))) ⟨⟨_, rfl⟩, same_new np, fun _ => upd_same⟩ (fun i σ H' _ h => h.2.1.seq hS1) (fun i x σ H' hx h => ?_) (fun σ H' h => ?_)⟩
      · obtain ⟨n, rfl, hn⟩ := get_int (ns := [1]) hx
        have hi := lt_get hn
        have i0 : i = 0 := by
          have : i < 1 := hi
          omega
        have e : n = 1 := by
          have := mem_get hn
          rw [List.mem_singleton] at this
          exact this
        subst e
        obtain ⟨⟨y, rfl⟩, sm, hp⟩ := h
        have hp := hp i0
        refine ⟨_, rfl, _, _, rfl, rfl, true, dT (by decide), ?_⟩
        refine ⟨_, rfl, ⟨p, _, 0, rfl, hp⟩, _, rfl, p, 1, _, 0, rfl, rfl, hp, by decide, ⟨_, rfl⟩, fun b o e => ?_, fun z => absurd z (Nat.succ_ne_zero i)⟩
        rw [upd_ne (ne_of_none e np)]
        exact sm _ _ e
      · obtain ⟨⟨y, rfl⟩, sm, _⟩ := h
        exact q _ (s1.trans sm)
    · exact ⟨_, rfl, _, rfl, .inr ⟨rfl, _, rfl, iteT (q _ (Same.refl _))⟩⟩
    · refine ⟨_, rfl, _, rfl, .inl ⟨a, -1, rfl, hS, .inr rfl, fun H1 s1 => ?_⟩⟩
      refine ⟨_, rfl, iteF ⟨rfl, fun p np => ?_⟩⟩
      have hS1 := s1.seq hS
      refine ⟨_, rfl, a, rfl, ⟨_, (same_new np).seq hS1⟩, for_list (xs := [V.int (-1)]) (fun i σ H' => i = 0 ∧ (∃ y, σ = [some (.ref a), some (.ref p), y]) ∧ Same H1 H' ∧ H' p = some (SetO w p (fun x => false) 0)) ⟨rfl, ⟨_, rfl⟩, same_new np, upd_same⟩ (fun i σ H' _ h => h.2.2.1.seq hS1) (fun i x σ H' hx h => ?_) (fun σ H' h => ?_)⟩
      · obtain ⟨n, rfl, hn⟩ := get_int (ns := [-1]) hx
        have e : n = -1 := by
          have := mem_get hn
          rw [List.mem_singleton] at this
          exact this
        subst e
        obtain ⟨i0, ⟨y, rfl⟩, sm, hp⟩ := h
        refine ⟨_, rfl, _, _, rfl, rfl, false, dF (by decide), ?_⟩
        refine ⟨_, rfl, -1, rfl, _, rfl, 1, p, _, 0, rfl, rfl, hp, true, nT Bool.false_ne_true, ?_⟩
        exact q _ (s1.trans sm)
      · exact absurd h.1 (by decide)
def spCheckX (K : PySem.W.Frag) (E : Nat → Addr) : Sp := fun vs H Q X => ∃ v : V, vs = [v] ∧ ((∃ a, v = .ref a ∧ SqL K H a [.int 1] ∧ ∀ H', Same H H' → Q .non H') ∨ (Bad K H v ∧ ∀ H', Same H H' → X (.ref (E 3)) none H'))
theorem ok_check_history {f : Addr} {fd : FuncData} (F : Fun K "check_history" "check_history" s_check_history f fd) (R : Err K mg E) (T_is_history : Cal P w K mg base 5 "is_history" (spIsHist K)) : FnOk P w K mg base (L2.CX P w) 6 f fd ["history"] (spCheckX K E) := by
  refine F.okX sc_check_history (fun vs H Q E h => ?_) (fun cdv A outer s H vs Q E_ hr h => ?_)
  · obtain ⟨v, rfl, _⟩ := h
    rfl
  · obtain ⟨v, rfl, h⟩ := h
    refine ⟨_, (pss_one (ps_if (pt_not (pt_val (pe_c T_is_history hr (by decide) (by rfl) (pa_cons (pv 0) pa_nil)))) (pss_one (ps_raise rfl (takes_of rfl rfl rfl rfl) (pmk_own PySem.F.excBase_ValueError R.x3 R.c3 R.k3 (raises_own R.b3 R.t3) rfl))) pss_nil)), ?_⟩
    rcases h with ⟨a, rfl, hS, q⟩ | ⟨hb, q⟩
    · exact ⟨_, rfl, _, rfl, .inl ⟨a, rfl, hS, fun H1 s1 => ⟨_, rfl, iteF (q _ s1)⟩⟩⟩
    · exact ⟨_, rfl, _, rfl, .inr ⟨hb, fun H1 s1 => ⟨_, rfl, iteT (q _ s1)⟩⟩⟩
def spStarted (K : PySem.W.Frag) : Sp := fun vs H Q _ => ∃ a, vs = [.ref a, .int 2] ∧ SqL K H a [.int 1] ∧ Q (.bl false) H
theorem ok_is_started {f : Addr} {fd : FuncData} (F : Fun K "is_started" "is_started" s_is_started f fd) (T_is_integer : Cal P w K mg base 1 "is_integer" spIsInt) : FnOk P w K mg base CX0 2 f fd ["history", "value"] (spStarted K) := by
  refine F.ok sc_is_started (fun vs H Q E h => ?_) (fun cdv A outer s H vs Q E hr h => ?_)
  · obtain ⟨a, rfl, _⟩ := h
    rfl
  · obtain ⟨a, rfl, hS, q⟩ := h
    refine ⟨_, (pss_one (ps_ret (pe_and (pe_c T_is_integer hr (by decide) (by rfl) (pa_cons (pv 1) pa_nil)) (pe_and (pe_cmpR op_gt (pv 1) pe_int (nomark _)) (pe_one (pe_cmpR op_in_seq (pv 1) (pv 0) (by rfl))))))), ?_⟩
    refine ⟨_, rfl, 2, rfl, true, rfl, iteT ?_⟩
    refine ⟨_, rfl, _, _, rfl, rfl, true, dT (by decide), iteT ?_⟩
    exact ⟨_, rfl, _, rfl, a, [V.int 1], rfl, .inl hS, rfl, rfl, q⟩
def spSavedBy (K : PySem.W.Frag) (E : Nat → Addr) : Sp := fun vs H Q X => ∃ v u : V, vs = [v, u] ∧ ((∃ a, v = .ref a ∧ u = .int 2 ∧ SqL K H a [.int 1] ∧ ∀ H', Same H H' → X (.ref (E 6)) none H') ∨ (Bad K H v ∧ ∀ H', Same H H' → X (.ref (E 3)) none H'))
theorem ok_saved_by {f : Addr} {fd : FuncData} (F : Fun K "saved_by" "saved_by" s_saved_by f fd) (R : Err K mg E) (T_check_history : CalX P w K mg base 6 "check_history" (spCheckX K E)) (T_is_started : Cal P w K mg base 2 "is_started" (spStarted K)) : FnOk P w K mg base (L2.CX P w) 7 f fd ["history", "patch"] (spSavedBy K E) := by
  refine F.okX sc_saved_by (fun vs H Q E h => ?_) (fun cdv A outer s H vs Q E_ hr h => ?_)
  · obtain ⟨v, u, rfl, _⟩ := h
    rfl
  · obtain ⟨v, u, rfl, h⟩ := h
    refine ⟨_, (pss_cons (ps_expr (pe_cx T_check_history hr (by decide) (takes_of rfl rfl rfl rfl) (by rfl) (pa_cons (pv 0) pa_nil))) (pss_cons (ps_if (pt_not (pt_val (pe_c T_is_started hr (by decide) (by rfl) (pa_cons (pv 0) (pa_cons (pv 1) pa_nil))))) (pss_one (ps_raise rfl (takes_of rfl rfl rfl rfl) (pmk_own PySem.F.excBase_ValueError R.x6 R.c6 R.k6 (raises_own R.b6 R.t6) rfl))) pss_nil) (pss_cons ps_never (pss_one ps_never)))), ?_⟩
    rcases h with ⟨a, rfl, rfl, hS, q⟩ | ⟨hb, q⟩
    · refine ⟨_, rfl, _, rfl, .inl ⟨a, rfl, hS, fun H1 s1 => ?_⟩⟩
      exact ⟨_, rfl, _, rfl, a, rfl, s1.seq hS, _, rfl, iteT (q _ s1)⟩
    · exact ⟨_, rfl, _, rfl, .inr ⟨hb, fun H1 s1 => q _ s1⟩⟩
end
end L71
set_option Elab.async false
set_option linter.all false
set_option maxRecDepth 100000
namespace L71
open PySem PySem.Spec PyProof.Rows L2 Lp
section
variable {P : Program} {w : World} {K : PySem.W.Frag} {mg : Str → Option Value} {base : Heap}
/-! ### the bag of draws -/
def Bag (H : Hp) (a : Addr) (n : Nat) : Prop := ∃ x y : Int, H a = some (.lst [.int x, .int y]) ∧ 0 ≤ x ∧ 0 ≤ y ∧ y ≤ (n : Int)
theorem lt_pow {i : Int} {n : Nat} (h0 : 0 ≤ i) (h : i < 2 ^ n) : i.natAbs < 2 ^ n := by
  have e : ((i.natAbs : Nat) : Int) = i := Int.natAbs_of_nonneg h0
  have h' : ((i.natAbs : Nat) : Int) < ((2 ^ n : Nat) : Int) := by
    rw [e]
    simpa using h
  exact Int.ofNat_lt.mp h'
def spBag : Sp := fun vs H Q _ => ∃ (c : Int) (k : Nat), vs = [.int c, .int (k : Int)] ∧ k ≤ 100 ∧ ∀ H' p, Same H H' → H p = none → Bag H' p 5000 → Q (.ref p) H'
theorem ok_law_bag {f : Addr} {fd : FuncData} (F : Fun K "_law_bag" "_law_bag" s_law_bag f fd) : FnOk P w K mg base CX0 1 f fd ["cell", "k"] spBag := by
  refine F.ok sc_law_bag (fun vs H Q E h => ?_) (fun cdv A outer s H vs Q E hr h => ?_)
  · obtain ⟨c, k, rfl, _⟩ := h
    rfl
  · obtain ⟨c, k, rfl, hk, q⟩ := h
    refine ⟨_, (pss_cons (ps_if (pt_cmpR op_lt (pv 0) pe_int (nomark _)) (pss_one (ps_ret (pe_lst (pa_cons (pe_un un_neg (pv 0)) (pa_cons (pe_op op_add (pe_op op_mulW pe_int (pv 1)) pe_int) pa_nil))))) pss_nil)
        (pss_one (ps_ret (pe_lst (pa_cons (pv 0) (pa_cons (pe_op op_mulW pe_int (pv 1)) pa_nil)))))), ?_⟩
    have wm : CMulW 37 (k : Int) := wide_mul (a := 30) (b := 30) (by decide) (lt_pow (by omega) (by omega)) (by decide) (by decide) (by decide)
    by_cases h0 : c < 0
    · refine ⟨_, rfl, _, _, rfl, rfl, true, dT h0, ?_⟩
      refine ⟨_, rfl, _, rfl, _, rfl, _, _, rfl, rfl, wm, _, _, rfl, rfl, by show 2 ≤ sizeLine; decide, fun p np => q _ p (same_new np) np ⟨-c, 37 * (k : Int) + 18, upd_same, by omega, by omega, by omega⟩⟩
    · refine ⟨_, rfl, _, _, rfl, rfl, false, dF h0, ?_⟩
      exact ⟨_, rfl, _, rfl, _, _, rfl, rfl, wm, by show 2 ≤ sizeLine; decide, fun p np => q _ p (same_new np) np ⟨c, 37 * (k : Int), upd_same, by omega, by omega, by omega⟩⟩
def spDraw (K : PySem.W.Frag) : Sp := fun vs H Q _ => ∃ (a : Addr) (m : Int) (n : Nat), vs = [.ref a, .int m] ∧ Bag H a n ∧ n ≤ 100000 ∧ 1 ≤ m ∧ m ≤ 1000 ∧ ∀ r H', 0 ≤ r → r < m → Bag H' a (n + 1) → Bt a H H' → Q (.int r) H'
theorem ok_law_draw {f : Addr} {fd : FuncData} (F : Fun K "_law_draw" "_law_draw" s_law_draw f fd) : FnOk P w K mg base CX0 1 f fd ["bag", "many"] (spDraw K) := by
  refine F.ok sc_law_draw (fun vs H Q E h => ?_) (fun cdv A outer s H vs Q E hr h => ?_)
  · obtain ⟨a, m, n, rfl, _⟩ := h
    rfl
  · obtain ⟨a, m, n, rfl, ⟨x, y, ha, x0, y0, y1⟩, hn, m0, m1, q⟩ := h
    refine ⟨_, (pss_cons (ps_augS (pv 0) pe_int get_list pe_int ip_add set_list)
        (pss_cons (ps_if (pt_cmpR op_ge (pe_ix ix_list (pv 0) pe_int (fun _ _ => rfl)) (pe_op op_powW pe_int pe_int) (nomark _)) (pss_cons (ps_set (i := 2) sc_law_draw.nd rfl (Or.inl rfl) (pe_op op_mod (pe_ix ix_list (pv 0) pe_int (fun _ _ => rfl)) (pv 1)))
          (pss_cons (ps_asg (pe_op op_fdivW (pe_ix ix_list (pv 0) pe_int (fun _ _ => rfl)) (pv 1)) (pg_sub (pv 0) pe_int set_list))
          (pss_one (ps_ret (pv 2))))) pss_nil)
        (pss_cons (ps_set (i := 3) sc_law_draw.nd rfl (Or.inl rfl) (pe_op op_mod (pe_op op_add (pe_op op_add (pe_op op_mod (pe_ix ix_list (pv 0) pe_int (fun _ _ => rfl)) pe_int) (pe_op op_mulW pe_int (pe_ix ix_list (pv 0) pe_int (fun _ _ => rfl)))) pe_int) pe_int))
        (pss_cons (ps_set (i := 3) sc_law_draw.nd rfl (Or.inl rfl) (pe_op op_mod (pe_op op_mulW (pv 3) (pv 3)) pe_int))
        (pss_cons (ps_set (i := 3) sc_law_draw.nd rfl (Or.inl rfl) (pe_op op_mod (pe_op op_add (pv 3) (pe_op op_mulW pe_int (pe_ix ix_list (pv 0) pe_int (fun _ _ => rfl)))) pe_int))
        (pss_cons (ps_set (i := 3) sc_law_draw.nd rfl (Or.inl rfl) (pe_op op_mod (pe_op op_mulW (pv 3) (pv 3)) pe_int))
        (pss_one (ps_ret (pe_op op_mod (pe_op op_fdivW (pv 3) pe_int) (pv 1)))))))))), ?_⟩
    refine ⟨_, rfl, a, _, 1, _, rfl, rfl, .of ha, by decide, at1, _, _, rfl, rfl, a, _, 1, 1, rfl, rfl, ha, rfl, ?_⟩
    have hb1 : (upd H a (.lst (([.int x, .int y] : List V).set 1 (.int (y + 1))))) a = some (.lst [.int x, .int (y + 1)]) := upd_same
    have bt1 : Bt a H (upd H a (.lst (([.int x, .int y] : List V).set 1 (.int (y + 1))))) := .at_ _ _ _
    generalize upd H a (.lst (([.int x, .int y] : List V).set 1 (.int (y + 1)))) = H1 at hb1 bt1 ⊢
    have hS : SqL K H1 a [.int x, .int (y + 1)] := .of hb1
    have p1 : CPowW 10 18 := powW_ok (n := 4) (by decide) (by decide) (by decide)
    by_cases hx : x ≥ 10 ^ (18 : Int).toNat
    · refine ⟨_, rfl, a, _, 0, _, rfl, rfl, hS, at0, _, _, rfl, rfl, p1, _, _, rfl, rfl, true, dT hx, ?_⟩
      refine ⟨_, rfl, a, _, 0, _, rfl, rfl, hS, at0, _, rfl, _, _, rfl, rfl, (by show (0 : Int) < m; omega), ?_⟩
      refine ⟨_, rfl, a, _, 0, _, rfl, rfl, hS, at0, _, rfl, _, _, rfl, rfl, wide_div (b := 30) (by omega) (lt_pow (by omega) (by omega)) (by decide) (by decide), ?_⟩
      refine ⟨_, rfl, a, _, 0, 0, rfl, rfl, hb1, rfl, _, rfl, ?_⟩
      exact q _ _ (Int.emod_nonneg _ (by omega)) (Int.emod_lt_of_pos _ (by omega)) ⟨_, _, upd_same, Int.ediv_nonneg x0 (by omega), by omega, by omega⟩ (bt1.trans (.at_ _ _ _))
    · refine ⟨_, rfl, a, _, 0, _, rfl, rfl, hS, at0, _, _, rfl, rfl, p1, _, _, rfl, rfl, false, dF hx, ?_⟩
      have w1 : CMulW 104729 (y + 1) := wide_mul (a := 30) (b := 30) (by decide) (lt_pow (by omega) (by omega)) (by decide) (by decide) (by decide)
      have w2 : CMulW 40692 (y + 1) := wide_mul (a := 30) (b := 30) (by decide) (lt_pow (by omega) (by omega)) (by decide) (by decide) (by decide)
      refine ⟨_, rfl, a, _, 0, _, rfl, rfl, hS, at0, _, _, rfl, rfl, (by show (0 : Int) < 2147483629; decide), _, rfl, a, _, 1, _, rfl, rfl, hS, at1, _, _, rfl, rfl, w1, _, _, rfl, rfl, _, _, rfl, rfl, _, _, rfl, rfl, (by show (0 : Int) < 2147483587; decide), ?_⟩
      generalize (x % 2147483629 + 104729 * (y + 1) + 1) = big1
      have b0 : 0 ≤ big1 % 2147483587 := Int.emod_nonneg _ (by decide)
      have b1 : big1 % 2147483587 < 2147483587 := Int.emod_lt_of_pos _ (by decide)
      dsimp only
      generalize big1 % 2147483587 = o1 at b0 b1 ⊢
      have w3 : CMulW o1 o1 := wide_mul (a := 40) (b := 40) (lt_pow (by omega) (by omega)) (lt_pow (by omega) (by omega)) (by decide) (by decide) (by decide)
      refine ⟨_, rfl, _, rfl, _, _, rfl, rfl, w3, _, _, rfl, rfl, (by show (0 : Int) < 2147483587; decide), ?_⟩
      generalize o1 * o1 = big2
      have c0 : 0 ≤ big2 % 2147483587 := Int.emod_nonneg _ (by decide)
      have c1 : big2 % 2147483587 < 2147483587 := Int.emod_lt_of_pos _ (by decide)
      dsimp only
      generalize big2 % 2147483587 = o2 at c0 c1 ⊢
      refine ⟨_, rfl, _, rfl, a, _, 1, _, rfl, rfl, hS, at1, _, _, rfl, rfl, w2, _, _, rfl, rfl, _, _, rfl, rfl, (by show (0 : Int) < 2147483563; decide), ?_⟩
      generalize (o2 + 40692 * (y + 1)) = big3
      have d0 : 0 ≤ big3 % 2147483563 := Int.emod_nonneg _ (by decide)
      have d1 : big3 % 2147483563 < 2147483563 := Int.emod_lt_of_pos _ (by decide)
      dsimp only
      generalize big3 % 2147483563 = o3 at d0 d1 ⊢
      have w4 : CMulW o3 o3 := wide_mul (a := 40) (b := 40) (lt_pow (by omega) (by omega)) (lt_pow (by omega) (by omega)) (by decide) (by decide) (by decide)
      refine ⟨_, rfl, _, rfl, _, _, rfl, rfl, w4, _, _, rfl, rfl, (by show (0 : Int) < 2147483563; decide), ?_⟩
      generalize o3 * o3 = big4
      have e0 : 0 ≤ big4 % 2147483563 := Int.emod_nonneg _ (by decide)
      dsimp only
      generalize big4 % 2147483563 = o4 at e0 ⊢
      refine ⟨_, rfl, _, _, rfl, rfl, wide_div (b := 30) (by decide) (by decide) (by decide) (by decide), _, rfl, _, _, rfl, rfl, (by show (0 : Int) < m; omega), ?_⟩
      exact q _ _ (Int.emod_nonneg _ (by omega)) (Int.emod_lt_of_pos _ (by omega)) ⟨_, _, hb1, x0, by omega, by omega⟩ bt1
end
end L71
set_option Elab.async false
set_option linter.all false
set_option maxRecDepth 100000
namespace L71
open PySem PySem.Spec PyProof.Rows L2 Lp
/-- _law_marks(e) in the suite, whatever the exception's object -/
def tMk (E : Nat → Addr) (a : Addr) (cls : Value) (d : Option Addr) : TE := fun σ H Q => σ[3]? = some (some (.ref a)) ∧ ∃ i, i ≤ 17 ∧ cls = .ref (E i) ∧ d = none ∧ ∀ H' p, Same H H' → H p = none → H' p = some (.lst ((marksL i).map V.bl)) → Q (.ref p) H'
section
variable {P : Program} {w : World} {K : PySem.W.Frag} {mg : Str → Option Value} {base : Heap} {E : Nat → Addr}
def spCaught (K : PySem.W.Frag) : Sp := fun vs H Q _ => ∃ v u : V, vs = [v, u] ∧
  ((∃ a, v = .ref a ∧ u = .int 2 ∧ SqL K H a [.int 1] ∧ ∀ H' p, Same H H' → H p = none → H' p = some (.lst ((marksL 6).map V.bl)) → Q (.ref p) H') ∨
    (Bad K H v ∧ ∀ H' p, Same H H' → H p = none → H' p = some (.lst ((marksL 3).map V.bl)) → Q (.ref p) H'))
theorem bad_same {H H' : Hp} {v : V} (h : Bad K H v) (s : Same H H') : Bad K H' v := h.elim .inl fun ⟨a, e, q⟩ => .inr ⟨a, e, s.seq q⟩
theorem ok_law_caught {f : Addr} {fd : FuncData} (F : Fun K "_law_caught" "_law_caught" s_law_caught f fd) (R : Err K mg E) (T_saved_by : CalX P w K mg base 7 "saved_by" (spSavedBy K E)) (T_law_marks_e : CalE P w K mg base 1 "_law_marks" (spMarksE K E)) : FnG P w K mg base CX0 8 f fd ["events", "patch"] (spCaught K) := by
  refine okG F sc_law_caught (fun vs H Q E h => ?_) (fun cdv A outer s H vs Q E_ hG hr h => ?_)
  · obtain ⟨v, u, rfl, _⟩ := h
    rfl
  · obtain ⟨v, u, rfl, h⟩ := h
    refine ⟨_, (pss_cons (ps_set (i := 2) sc_law_caught.nd rfl (Or.inl rfl) (pe_lst pa_nil))
      (pss_cons (ps_try_as (i := 3) (c := .ref (E 17)) (Wout := fun _ _ _ _ => False) (tb := fun W => tDrop (tCx (spSavedBy K E) W (tCons (tVar 0) (tCons (tVar 1) tNil)))) (ts := fun a cls d => tAsg (tMk E a cls d) (gName 2)) rfl rfl sc_law_caught.nd rfl rfl ⟨by rfl, by decide, .inl R.c17⟩ (fun u s' x => by obtain ⟨_, _, _, _, _, _, _, _, _, _, _, _, _, _, _, _, z⟩ := x; exact z.elim)
        (fun W pn xe tk _ => pss_one (ps_expr (pe_cx T_saved_by hr (by decide) tk (by rfl) (pa_cons (pv 0) (pa_cons (pv 1) pa_nil)))))
        (fun a oe cls d pn hz hf => pss_one (ps_set (i := 2) sc_law_caught.nd rfl (Or.inl rfl) ⟨fun pins s σ H Q I q => (pe_ce (pr := (a, oe)) T_law_marks_e ⟨(show Room 1 _ from hr.mono (by decide)).dp, (show Room 1 _ from hr.mono (by decide)).un⟩ List.mem_cons_self (by rfl) (pa_cons (pv 3) pa_nil)).run pins s σ H Q I (by
          obtain ⟨hs, i, hi, rfl, rfl, q⟩ := q
          exact ⟨_, hs, i, rfl, hi, hz, hf, q⟩)⟩)))
      (pss_one (ps_ret (pv 2))))), ?_⟩
    refine ⟨Nat.zero_le _, fun p0 n0 => ?_⟩
    have s0 := same_new (o := .lst []) n0
    rcases h with ⟨a, rfl, rfl, hS, q⟩ | ⟨hb, q⟩
    · refine ⟨_, rfl, _, rfl, _, _, rfl, .inl ⟨a, rfl, rfl, s0.seq hS, fun H1 s1 => ?_⟩⟩
      refine ⟨true, R.m6, fun _ b nb => ?_, fun z => nomatch z⟩
      refine ⟨rfl, 6, by decide, rfl, rfl, fun H2 p s2 np hp => ?_⟩
      exact ⟨_, rfl, q _ p ((s0.trans s1).trans s2) ((s0.trans s1).free np) hp⟩
    · refine ⟨_, rfl, _, rfl, _, _, rfl, .inr ⟨bad_same hb s0, fun H1 s1 => ?_⟩⟩
      refine ⟨true, R.m3, fun _ b nb => ?_, fun z => nomatch z⟩
      refine ⟨rfl, 3, by decide, rfl, rfl, fun H2 p s2 np hp => ?_⟩
      exact ⟨_, rfl, q _ p ((s0.trans s1).trans s2) ((s0.trans s1).free np) hp⟩
end
end L71
set_option Elab.async false
set_option linter.all false
set_option maxRecDepth 100000
namespace L71
open PySem PySem.Spec PyProof.Rows L2 Lp
def Excs (E : Nat → Addr) (H : Hp) (L : List Addr) : Prop := ∀ (i : Nat) (a : Addr), L[i]? = some a → H a = some (ExO (.ref (E i)) a)
section
variable {E : Nat → Addr} {H H' : Hp} {L : List Addr} {a : Addr} {k : Nat}
theorem Excs.nil : Excs E H [] := fun i a h => by simp at h
theorem Excs.same (x : Excs E H L) (s : Same H H') : Excs E H' L := fun i a h => s _ _ (x i a h)
theorem Excs.new (x : Excs E H L) (n : H a = none) (e : L.length = k) : Excs E (upd H a (ExO (.ref (E k)) a)) (L ++ [a]) := fun i b h => by
  by_cases hi : i < L.length
  · rw [List.getElem?_append_left hi] at h
    exact same_new n _ _ (x i b h)
  · have h2 := lt_get h
    rw [List.length_append, List.length_singleton] at h2
    have e2 : i = L.length := by omega
    subst e2
    rw [List.getElem?_append_right (Nat.le_refl _), Nat.sub_self] at h
    cases h
    rw [e]
    exact upd_same
end
theorem marks_succ (d i : Nat) : ((List.range (i + 1)).map fun j => V.bl (decide (j = d))) = ((List.range i).map fun j => V.bl (decide (j = d))) ++ [V.bl (decide (i = d))] := by
  rw [List.range_succ, List.map_append]
  rfl
theorem marks_all (d : Nat) : ((List.range 17).map fun j => V.bl (decide (j = d))) = (marksL d).map V.bl := by
  unfold marksL
  rw [List.map_map]
  rfl
def plc (j : Nat) : Nat := if j = 1 then 6 else 3
section
variable {P : Program} {w : World} {K : PySem.W.Frag} {mg : Str → Option Value} {base : Heap} {E : Nat → Addr}
def spRight : Sp := fun vs H Q _ => ∃ z : Str, vs = [.str z] ∧ ∀ H', Same H H' → Q (.bl true) H'
set_option maxHeartbeats 4000000 in
theorem ok_law_right {f : Addr} {fd : FuncData} (F : Fun K "_law_right" "_law_right" s_law_right f fd) (B : NoB mg) (R : Err K mg E) (T_z_ValueError : mg "ValueError" = none) (T_law_marks : Cal P w K mg base 1 "_law_marks" (spMarks K E)) (T_law_caught : Gc P w K mg base 8 "_law_caught" (spCaught K)) : FnG P w K mg base CX0 9 f fd ["message"] spRight := by
  refine okG F sc_law_right (fun vs H Q E h => ?_) (fun cdv A outer s H vs Q E_ hG hr h => ?_)
  · obtain ⟨z, rfl, _⟩ := h
    rfl
  · obtain ⟨z, rfl, q⟩ := h
    have hu64 := hr.units
    refine ⟨_, (pss_cons (ps_set (i := 1) sc_law_right.nd rfl (Or.inl rfl) (pe_lst (pa_cons (pe_exc1 PySem.F.excBase_ValueError R.x0 R.c0 R.k0 (by rfl) (pv 0)) (pa_cons (pe_exc1 PySem.F.excBase_ValueError R.x1 R.c1 R.k1 (by rfl) (pv 0)) (pa_cons (pe_exc1 PySem.F.excBase_ValueError R.x2 R.c2 R.k2 (by rfl) (pv 0)) pa_nil)))))
        (pss_cons (ps_set (i := 1) sc_law_right.nd rfl (Or.inl rfl) (pe_op op_cat (pv 1) (pe_lst (pa_cons (pe_exc1 PySem.F.excBase_ValueError R.x3 R.c3 R.k3 (by rfl) (pv 0)) (pa_cons (pe_exc1 PySem.F.excBase_ValueError R.x4 R.c4 R.k4 (by rfl) (pv 0)) (pa_cons (pe_exc1 PySem.F.excBase_ValueError R.x5 R.c5 R.k5 (by rfl) (pv 0)) pa_nil))))))
        (pss_cons (ps_set (i := 1) sc_law_right.nd rfl (Or.inl rfl) (pe_op op_cat (pv 1) (pe_lst (pa_cons (pe_exc1 PySem.F.excBase_ValueError R.x6 R.c6 R.k6 (by rfl) (pv 0)) (pa_cons (pe_exc1 PySem.F.excBase_ValueError R.x7 R.c7 R.k7 (by rfl) (pv 0)) (pa_cons (pe_exc1 PySem.F.excBase_ValueError R.x8 R.c8 R.k8 (by rfl) (pv 0)) pa_nil))))))
        (pss_cons (ps_set (i := 1) sc_law_right.nd rfl (Or.inl rfl) (pe_op op_cat (pv 1) (pe_lst (pa_cons (pe_exc1 PySem.F.excBase_ValueError R.x9 R.c9 R.k9 (by rfl) (pv 0)) (pa_cons (pe_exc1 PySem.F.excBase_ValueError R.x10 R.c10 R.k10 (by rfl) (pv 0)) (pa_cons (pe_exc1 PySem.F.excBase_ValueError R.x11 R.c11 R.k11 (by rfl) (pv 0)) pa_nil))))))
        (pss_cons (ps_set (i := 1) sc_law_right.nd rfl (Or.inl rfl) (pe_op op_cat (pv 1) (pe_lst (pa_cons (pe_exc1 PySem.F.excBase_ValueError R.x12 R.c12 R.k12 (by rfl) (pv 0)) (pa_cons (pe_exc1 PySem.F.excBase_ValueError R.x13 R.c13 R.k13 (by rfl) (pv 0)) (pa_cons (pe_exc1 PySem.F.excBase_ValueError R.x14 R.c14 R.k14 (by rfl) (pv 0)) pa_nil))))))
        (pss_cons (ps_set (i := 1) sc_law_right.nd rfl (Or.inl rfl) (pe_op op_cat (pv 1) (pe_lst (pa_cons (pe_exc1 PySem.F.excBase_ValueError R.x15 R.c15 R.k15 (by rfl) (pv 0)) (pa_cons (pe_exc1 PySem.F.excBase_ValueError R.x16 R.c16 R.k16 (by rfl) (pv 0)) pa_nil)))))
        (pss_cons (ps_for PassesOwn.never rfl (pi_range1 rfl B.range (pa_cons pe_int pa_nil)) (pg_name (i := 2) sc_law_right.nd rfl (Or.inr rfl))
          (pss_cons (ps_if (pt_cmpR (op_neD hu64) (pe_c T_law_marks hr (by decide) (by rfl) (pa_cons (pe_ix ix_list (pv 1) (pv 2) (fun _ _ => rfl)) pa_nil)) (pe_lc (own := [("j", 4)]) (g := gName 4) (tt := tYes) rfl sc_law_right.nd (pi_range1 rfl B.range (pa_cons pe_int pa_nil)) (blkOk_by (own := [("j", 4)]) (N := N_law_right) (sc := defScope s_law_right) (by decide +kernel)) (fun _ _ _ _ _ => (pg_name (i := 4) sc_law_right.nd rfl (Or.inl rfl))) (fun _ _ _ _ _ => pts_nil) (fun _ _ _ _ _ => (pe_cmpR op_eq (pv 4) (pv 2) (nomark _)))) (nomark _)) (pss_one (ps_ret pe_bl)) pss_nil)
          (pss_one (ps_if (PW.pt (pw_or (pt_not (pt_val (pe_callB call_isX (by rfl) B.isinstance (by decide +kernel) (pa_cons (pe_ix ix_list (pv 1) (pv 2) (fun _ _ => rfl)) (pa_cons (pe_glob (v := .ref (E 17)) (by rfl) R.c17 rfl) pa_nil))))) (pw_or1 (pt_not (pt_val (pe_callB call_isX (by rfl) B.isinstance (by decide +kernel) (pa_cons (pe_ix ix_list (pv 1) (pv 2) (fun _ _ => rfl)) (pa_cons (pe_bltn (v := .ty "ValueError") (by rfl) T_z_ValueError boot_ValueError rfl) pa_nil)))))))) (pss_one (ps_ret pe_bl)) pss_nil))))
        (pss_cons (ps_if (pt_cmpR op_in_seq pe_bl (pe_c T_law_marks hr (by decide) (by rfl) (pa_cons (pe_exc1 PySem.F.excBase_ValueError R.x17 R.c17 R.k17 (by rfl) (pv 0)) pa_nil)) (by rfl)) (pss_one (ps_ret pe_bl)) pss_nil)
        (pss_cons (ps_setLc (i := 3) (own := [("place", 5)]) (g := gName 5) (tt := tYes) rfl sc_law_right.nd rfl rfl (sw_true rfl rfl rfl (by decide +kernel)) (pi_list (pe_lst (pa_cons pe_int (pa_cons pe_int (pa_cons pe_int pa_nil))))) (blkOk_by (own := [("place", 5)]) (N := N_law_right) (sc := defScope s_law_right) (by decide +kernel)) (fun _ _ _ _ _ => (pg_name (i := 5) sc_law_right.nd rfl (Or.inr rfl))) (fun _ _ _ _ _ => pts_nil) (fun _ _ _ _ _ => (pe_lc (own := [("j", 4)]) (g := gName 4) (tt := tYes) rfl sc_law_right.nd (pi_range1 rfl B.range (pa_cons pe_int pa_nil)) (blkOk_by (own := [("j", 4)]) (N := N_law_right) (sc := { kind := .function, names := [((".0" : Str), NameKind.local), (("place" : Str), NameKind.cell), (("range" : Str), NameKind.globalImplicit)], isGenerator := false, isCoroutine := false }) (by decide +kernel)) (fun _ _ _ _ _ => (pg_name (i := 4) sc_law_right.nd rfl (Or.inl rfl))) (fun _ _ _ _ _ => pts_nil) (fun _ _ _ _ _ => (pe_cmpR op_eq (pv 4) (pv 5) (nomark _))))))
        (pss_one (ps_ret (pe_cmpR (op_eqD hu64) (pe_lst (pa_cons (pe_g T_law_caught hG hr (by decide) (by rfl) (pa_cons (pe_lst (pa_cons (pe_un un_neg pe_int) pa_nil)) (pa_cons pe_int pa_nil))) (pa_cons (pe_g T_law_caught hG hr (by decide) (by rfl) (pa_cons (pe_lst (pa_cons pe_int pa_nil)) (pa_cons pe_int pa_nil))) (pa_cons (pe_g T_law_caught hG hr (by decide) (by rfl) (pa_cons pe_non (pa_cons pe_non pa_nil))) pa_nil)))) (pv 3) (nomark _))))))))))))), ?_⟩
    refine ⟨_, rfl, fun a0 n0 => ⟨_, rfl, fun a1 n1 => ⟨_, rfl, fun a2 n2 => ⟨by show 3 ≤ sizeLine; decide, fun q0 m0 => ?_⟩⟩⟩⟩
    have s0 : Same H (upd (upd (upd (upd H a0 (ExO (.ref (E 0)) a0)) a1 (ExO (.ref (E 1)) a1)) a2 (ExO (.ref (E 2)) a2)) q0 (.lst [.ref a0, .ref a1, .ref a2])) := Lp.Same.add (Lp.Same.add (Lp.Same.add (Lp.Same.add (Same.refl H) n0) n1) n2) m0
    have x0 : Excs E (upd (upd (upd (upd H a0 (ExO (.ref (E 0)) a0)) a1 (ExO (.ref (E 1)) a1)) a2 (ExO (.ref (E 2)) a2)) q0 (.lst [.ref a0, .ref a1, .ref a2])) [a0, a1, a2] := (Excs.new (k := 2) (Excs.new (k := 1) (Excs.new (k := 0) (Excs.nil : Excs E H []) n0 rfl) n1 rfl) n2 rfl).same (same_new m0)
    have h0 : (upd (upd (upd (upd H a0 (ExO (.ref (E 0)) a0)) a1 (ExO (.ref (E 1)) a1)) a2 (ExO (.ref (E 2)) a2)) q0 (.lst [.ref a0, .ref a1, .ref a2])) q0 = some (.lst ([a0, a1, a2].map V.ref)) := upd_same
    generalize (upd (upd (upd (upd H a0 (ExO (.ref (E 0)) a0)) a1 (ExO (.ref (E 1)) a1)) a2 (ExO (.ref (E 2)) a2)) q0 (.lst [.ref a0, .ref a1, .ref a2])) = G0 at s0 x0 h0 ⊢
    refine ⟨_, rfl, _, rfl, fun a3 n3 => ⟨_, rfl, fun a4 n4 => ⟨_, rfl, fun a5 n5 => ⟨by show 3 ≤ sizeLine; decide, fun q1 m1 => ?_⟩⟩⟩⟩
    refine ⟨q0, q1, _, _, rfl, rfl, (same_new m1 _ _ (same_new n5 _ _ (same_new n4 _ _ (same_new n3 _ _ h0)))), upd_same, by show 3 + 3 ≤ sizeLine; decide, fun p1 n_1 => ?_⟩
    have s1 : Same H (upd (upd (upd (upd (upd G0 a3 (ExO (.ref (E 3)) a3)) a4 (ExO (.ref (E 4)) a4)) a5 (ExO (.ref (E 5)) a5)) q1 (.lst [.ref a3, .ref a4, .ref a5])) p1 (.lst ([a0, a1, a2].map V.ref ++ [.ref a3, .ref a4, .ref a5]))) := Lp.Same.add (Lp.Same.add (Lp.Same.add (Lp.Same.add (Lp.Same.add s0 n3) n4) n5) m1) n_1
    have x1 : Excs E (upd (upd (upd (upd (upd G0 a3 (ExO (.ref (E 3)) a3)) a4 (ExO (.ref (E 4)) a4)) a5 (ExO (.ref (E 5)) a5)) q1 (.lst [.ref a3, .ref a4, .ref a5])) p1 (.lst ([a0, a1, a2].map V.ref ++ [.ref a3, .ref a4, .ref a5]))) [a0, a1, a2, a3, a4, a5] := ((Excs.new (k := 5) (Excs.new (k := 4) (Excs.new (k := 3) x0 n3 rfl) n4 rfl) n5 rfl).same (same_new m1)).same (same_new n_1)
    have h1 : (upd (upd (upd (upd (upd G0 a3 (ExO (.ref (E 3)) a3)) a4 (ExO (.ref (E 4)) a4)) a5 (ExO (.ref (E 5)) a5)) q1 (.lst [.ref a3, .ref a4, .ref a5])) p1 (.lst ([a0, a1, a2].map V.ref ++ [.ref a3, .ref a4, .ref a5]))) p1 = some (.lst ([a0, a1, a2, a3, a4, a5].map V.ref)) := upd_same
    generalize upd (upd (upd (upd (upd G0 a3 (ExO (.ref (E 3)) a3)) a4 (ExO (.ref (E 4)) a4)) a5 (ExO (.ref (E 5)) a5)) q1 (.lst [.ref a3, .ref a4, .ref a5])) p1 (.lst ([a0, a1, a2].map V.ref ++ [.ref a3, .ref a4, .ref a5])) = G1 at s1 x1 h1 ⊢
    refine ⟨_, rfl, _, rfl, fun a6 n6 => ⟨_, rfl, fun a7 n7 => ⟨_, rfl, fun a8 n8 => ⟨by show 3 ≤ sizeLine; decide, fun q2 m2 => ?_⟩⟩⟩⟩
    refine ⟨p1, q2, _, _, rfl, rfl, (same_new m2 _ _ (same_new n8 _ _ (same_new n7 _ _ (same_new n6 _ _ h1)))), upd_same, by show 6 + 3 ≤ sizeLine; decide, fun p2 n_2 => ?_⟩
    have s2 : Same H (upd (upd (upd (upd (upd G1 a6 (ExO (.ref (E 6)) a6)) a7 (ExO (.ref (E 7)) a7)) a8 (ExO (.ref (E 8)) a8)) q2 (.lst [.ref a6, .ref a7, .ref a8])) p2 (.lst ([a0, a1, a2, a3, a4, a5].map V.ref ++ [.ref a6, .ref a7, .ref a8]))) := Lp.Same.add (Lp.Same.add (Lp.Same.add (Lp.Same.add (Lp.Same.add s1 n6) n7) n8) m2) n_2
    have x2 : Excs E (upd (upd (upd (upd (upd G1 a6 (ExO (.ref (E 6)) a6)) a7 (ExO (.ref (E 7)) a7)) a8 (ExO (.ref (E 8)) a8)) q2 (.lst [.ref a6, .ref a7, .ref a8])) p2 (.lst ([a0, a1, a2, a3, a4, a5].map V.ref ++ [.ref a6, .ref a7, .ref a8]))) [a0, a1, a2, a3, a4, a5, a6, a7, a8] := ((Excs.new (k := 8) (Excs.new (k := 7) (Excs.new (k := 6) x1 n6 rfl) n7 rfl) n8 rfl).same (same_new m2)).same (same_new n_2)
    have h2 : (upd (upd (upd (upd (upd G1 a6 (ExO (.ref (E 6)) a6)) a7 (ExO (.ref (E 7)) a7)) a8 (ExO (.ref (E 8)) a8)) q2 (.lst [.ref a6, .ref a7, .ref a8])) p2 (.lst ([a0, a1, a2, a3, a4, a5].map V.ref ++ [.ref a6, .ref a7, .ref a8]))) p2 = some (.lst ([a0, a1, a2, a3, a4, a5, a6, a7, a8].map V.ref)) := upd_same
    generalize upd (upd (upd (upd (upd G1 a6 (ExO (.ref (E 6)) a6)) a7 (ExO (.ref (E 7)) a7)) a8 (ExO (.ref (E 8)) a8)) q2 (.lst [.ref a6, .ref a7, .ref a8])) p2 (.lst ([a0, a1, a2, a3, a4, a5].map V.ref ++ [.ref a6, .ref a7, .ref a8])) = G2 at s2 x2 h2 ⊢
    refine ⟨_, rfl, _, rfl, fun a9 n9 => ⟨_, rfl, fun a10 n10 => ⟨_, rfl, fun a11 n11 => ⟨by show 3 ≤ sizeLine; decide, fun q3 m3 => ?_⟩⟩⟩⟩
    refine ⟨p2, q3, _, _, rfl, rfl, (same_new m3 _ _ (same_new n11 _ _ (same_new n10 _ _ (same_new n9 _ _ h2)))), upd_same, by show 9 + 3 ≤ sizeLine; decide, fun p3 n_3 => ?_⟩
    have s3 : Same H (upd (upd (upd (upd (upd G2 a9 (ExO (.ref (E 9)) a9)) a10 (ExO (.ref (E 10)) a10)) a11 (ExO (.ref (E 11)) a11)) q3 (.lst [.ref a9, .ref a10, .ref a11])) p3 (.lst ([a0, a1, a2, a3, a4, a5, a6, a7, a8].map V.ref ++ [.ref a9, .ref a10, .ref a11]))) := Lp.Same.add (Lp.Same.add (Lp.Same.add (Lp.Same.add (Lp.Same.add s2 n9) n10) n11) m3) n_3
    have x3 : Excs E (upd (upd (upd (upd (upd G2 a9 (ExO (.ref (E 9)) a9)) a10 (ExO (.ref (E 10)) a10)) a11 (ExO (.ref (E 11)) a11)) q3 (.lst [.ref a9, .ref a10, .ref a11])) p3 (.lst ([a0, a1, a2, a3, a4, a5, a6, a7, a8].map V.ref ++ [.ref a9, .ref a10, .ref a11]))) [a0, a1, a2, a3, a4, a5, a6, a7, a8, a9, a10, a11] := ((Excs.new (k := 11) (Excs.new (k := 10) (Excs.new (k := 9) x2 n9 rfl) n10 rfl) n11 rfl).same (same_new m3)).same (same_new n_3)
    have h3 : (upd (upd (upd (upd (upd G2 a9 (ExO (.ref (E 9)) a9)) a10 (ExO (.ref (E 10)) a10)) a11 (ExO (.ref (E 11)) a11)) q3 (.lst [.ref a9, .ref a10, .ref a11])) p3 (.lst ([a0, a1, a2, a3, a4, a5, a6, a7, a8].map V.ref ++ [.ref a9, .ref a10, .ref a11]))) p3 = some (.lst ([a0, a1, a2, a3, a4, a5, a6, a7, a8, a9, a10, a11].map V.ref)) := upd_same
    generalize upd (upd (upd (upd (upd G2 a9 (ExO (.ref (E 9)) a9)) a10 (ExO (.ref (E 10)) a10)) a11 (ExO (.ref (E 11)) a11)) q3 (.lst [.ref a9, .ref a10, .ref a11])) p3 (.lst ([a0, a1, a2, a3, a4, a5, a6, a7, a8].map V.ref ++ [.ref a9, .ref a10, .ref a11])) = G3 at s3 x3 h3 ⊢
    refine ⟨_, rfl, _, rfl, fun a12 n12 => ⟨_, rfl, fun a13 n13 => ⟨_, rfl, fun a14 n14 => ⟨by show 3 ≤ sizeLine; decide, fun q4 m4 => ?_⟩⟩⟩⟩
    refine ⟨p3, q4, _, _, rfl, rfl, (same_new m4 _ _ (same_new n14 _ _ (same_new n13 _ _ (same_new n12 _ _ h3)))), upd_same, by show 12 + 3 ≤ sizeLine; decide, fun p4 n_4 => ?_⟩
    have s4 : Same H (upd (upd (upd (upd (upd G3 a12 (ExO (.ref (E 12)) a12)) a13 (ExO (.ref (E 13)) a13)) a14 (ExO (.ref (E 14)) a14)) q4 (.lst [.ref a12, .ref a13, .ref a14])) p4 (.lst ([a0, a1, a2, a3, a4, a5, a6, a7, a8, a9, a10, a11].map V.ref ++ [.ref a12, .ref a13, .ref a14]))) := Lp.Same.add (Lp.Same.add (Lp.Same.add (Lp.Same.add (Lp.Same.add s3 n12) n13) n14) m4) n_4
    have x4 : Excs E (upd (upd (upd (upd (upd G3 a12 (ExO (.ref (E 12)) a12)) a13 (ExO (.ref (E 13)) a13)) a14 (ExO (.ref (E 14)) a14)) q4 (.lst [.ref a12, .ref a13, .ref a14])) p4 (.lst ([a0, a1, a2, a3, a4, a5, a6, a7, a8, a9, a10, a11].map V.ref ++ [.ref a12, .ref a13, .ref a14]))) [a0, a1, a2, a3, a4, a5, a6, a7, a8, a9, a10, a11, a12, a13, a14] := ((Excs.new (k := 14) (Excs.new (k := 13) (Excs.new (k := 12) x3 n12 rfl) n13 rfl) n14 rfl).same (same_new m4)).same (same_new n_4)
    have h4 : (upd (upd (upd (upd (upd G3 a12 (ExO (.ref (E 12)) a12)) a13 (ExO (.ref (E 13)) a13)) a14 (ExO (.ref (E 14)) a14)) q4 (.lst [.ref a12, .ref a13, .ref a14])) p4 (.lst ([a0, a1, a2, a3, a4, a5, a6, a7, a8, a9, a10, a11].map V.ref ++ [.ref a12, .ref a13, .ref a14]))) p4 = some (.lst ([a0, a1, a2, a3, a4, a5, a6, a7, a8, a9, a10, a11, a12, a13, a14].map V.ref)) := upd_same
    generalize upd (upd (upd (upd (upd G3 a12 (ExO (.ref (E 12)) a12)) a13 (ExO (.ref (E 13)) a13)) a14 (ExO (.ref (E 14)) a14)) q4 (.lst [.ref a12, .ref a13, .ref a14])) p4 (.lst ([a0, a1, a2, a3, a4, a5, a6, a7, a8, a9, a10, a11].map V.ref ++ [.ref a12, .ref a13, .ref a14])) = G4 at s4 x4 h4 ⊢
    refine ⟨_, rfl, _, rfl, fun a15 n15 => ⟨_, rfl, fun a16 n16 => ⟨by show 2 ≤ sizeLine; decide, fun q5 m5 => ?_⟩⟩⟩
    refine ⟨p4, q5, _, _, rfl, rfl, (same_new m5 _ _ (same_new n16 _ _ (same_new n15 _ _ h4))), upd_same, by show 15 + 2 ≤ sizeLine; decide, fun p5 n_5 => ?_⟩
    have s5 : Same H (upd (upd (upd (upd G4 a15 (ExO (.ref (E 15)) a15)) a16 (ExO (.ref (E 16)) a16)) q5 (.lst [.ref a15, .ref a16])) p5 (.lst ([a0, a1, a2, a3, a4, a5, a6, a7, a8, a9, a10, a11, a12, a13, a14].map V.ref ++ [.ref a15, .ref a16]))) := Lp.Same.add (Lp.Same.add (Lp.Same.add (Lp.Same.add s4 n15) n16) m5) n_5
    have x5 : Excs E (upd (upd (upd (upd G4 a15 (ExO (.ref (E 15)) a15)) a16 (ExO (.ref (E 16)) a16)) q5 (.lst [.ref a15, .ref a16])) p5 (.lst ([a0, a1, a2, a3, a4, a5, a6, a7, a8, a9, a10, a11, a12, a13, a14].map V.ref ++ [.ref a15, .ref a16]))) [a0, a1, a2, a3, a4, a5, a6, a7, a8, a9, a10, a11, a12, a13, a14, a15, a16] := ((Excs.new (k := 16) (Excs.new (k := 15) x4 n15 rfl) n16 rfl).same (same_new m5)).same (same_new n_5)
    have h5 : (upd (upd (upd (upd G4 a15 (ExO (.ref (E 15)) a15)) a16 (ExO (.ref (E 16)) a16)) q5 (.lst [.ref a15, .ref a16])) p5 (.lst ([a0, a1, a2, a3, a4, a5, a6, a7, a8, a9, a10, a11, a12, a13, a14].map V.ref ++ [.ref a15, .ref a16]))) p5 = some (.lst ([a0, a1, a2, a3, a4, a5, a6, a7, a8, a9, a10, a11, a12, a13, a14, a15, a16].map V.ref)) := upd_same
    generalize upd (upd (upd (upd G4 a15 (ExO (.ref (E 15)) a15)) a16 (ExO (.ref (E 16)) a16)) q5 (.lst [.ref a15, .ref a16])) p5 (.lst ([a0, a1, a2, a3, a4, a5, a6, a7, a8, a9, a10, a11, a12, a13, a14].map V.ref ++ [.ref a15, .ref a16])) = G5 at s5 x5 h5 ⊢
    have hLl : [a0, a1, a2, a3, a4, a5, a6, a7, a8, a9, a10, a11, a12, a13, a14, a15, a16].length = 17 := rfl
    generalize [a0, a1, a2, a3, a4, a5, a6, a7, a8, a9, a10, a11, a12, a13, a14, a15, a16] = L at x5 h5 hLl
    refine ⟨17, rfl, by decide, by decide, ?_⟩
    refine for_range (lo := 0) (n := 17) (fun i σ H' => (∃ y2 y3 y4 y5, σ = [some (.str z), some (.ref p5), y2, y3, y4, y5]) ∧ Same G5 H') ⟨⟨_, _, _, _, rfl⟩, .refl _⟩ (fun i σ H' hi h => ?_) (fun σ H' h => ?_)
    · obtain ⟨⟨y2, y3, y4, y5, rfl⟩, sm⟩ := h
      have hi17 : i < 17 := hi
      obtain ⟨a, ha⟩ : ∃ a, L[i]? = some a := ⟨L[i], List.getElem?_eq_getElem (by omega)⟩
      have hat : (L.map V.ref)[i]? = some (.ref a) := by rw [List.getElem?_map, ha]; rfl
      have ez : (0 : Int) + (i : Int) = ((i : Nat) : Int) := Int.zero_add _
      have hx := sm _ _ (x5 i a ha)
      refine ⟨_, rfl, _, rfl, p5, _, _, _, rfl, rfl, .of (sm _ _ h5), (by rw [ez]; exact atI_nat hat), a, i, rfl, by omega, hx, fun H2 m s2 nm hm => ?_⟩
      refine ⟨17, rfl, by decide, by decide, fun D nD => ?_⟩
      refine lc_range (lo := 0) (n := 17) (LcP H2 D fun j => (List.range j).map fun j => V.bl (decide (j = i))) (.init nD rfl) (fun j H3 hj p => ?_) (fun H3 p => ?_)
      · refine ⟨rfl, ?_⟩
        refine ⟨_, rfl, _, rfl, rfl, p.put (Same.refl _) ?_ (by rw [List.length_map, List.length_range]; omega)⟩
        show ((List.range (j + 1)).map fun j => V.bl (decide (j = i))) = _ ++ [V.bl (decide (V.int (0 + (j : Int)) = V.int (0 + (i : Int))))]
        rw [marks_succ]
        have : decide (V.int (0 + (j : Int)) = V.int (0 + (i : Int))) = decide (j = i) := decide_eq_decide.mpr ⟨fun e => by have := V.int.inj e; omega, fun e => by rw [e]⟩
        rw [this]
      · obtain ⟨_, s3, hD⟩ := p
        dsimp only at hD
        rw [marks_all] at hD
        refine ⟨dB (marksL i), dB (marksL i), dp_bools (.of (s3 _ _ hm)), dp_bools (.of hD), shaped_bools _, shaped_bools _, false, by rw [eqv_bools]; rfl, ?_⟩
        have s43 := s2.trans s3
        have hp4 := s43 _ _ (sm _ _ h5)
        have hx4 := s43 _ _ hx
        refine ⟨_, rfl, _, rfl, p5, _, _, _, rfl, rfl, .of hp4, (by rw [ez]; exact atI_nat hat), a, E i, _, _, _, rfl, hx4, R.ec i (by omega), fun u h => h, R.kitL i hi17, true, rfl, ?_⟩
        refine ⟨_, rfl, _, rfl, p5, _, _, _, rfl, rfl, .of hp4, (by rw [ez]; exact atI_nat hat), a, E i, _, _, _, rfl, hx4, R.ec i (by omega), fun u h => h, R.kitV i hi17, true, rfl, ?_⟩
        exact ⟨⟨_, _, _, _, rfl⟩, sm.trans s43⟩
    · obtain ⟨⟨y2, y3, y4, y5, rfl⟩, sm⟩ := h
      refine ⟨_, rfl, fun a na => ⟨a, 17, rfl, by decide, upd_same, fun H2 m s2 nm hm => ⟨m, _, rfl, .inl (.of hm), rfl, by decide +kernel, false, by decide +kernel, ?_⟩⟩⟩
      -- due
      refine ⟨by show 3 ≤ sizeLine; decide, fun Z nZ => ⟨Z, rfl, ⟨_, .of upd_same⟩, fun D nD => ?_⟩⟩
      refine lc_list (xs := [V.int 3, .int 6, .int 3]) (fun i H' => Same (upd H2 Z (.lst [V.int 3, .int 6, .int 3])) H' ∧ H' Z = some (.lst [V.int 3, .int 6, .int 3]) ∧ ∃ l : List Addr, H' D = some (.lst (l.map V.ref)) ∧ l.length = i ∧ ∀ j b, l[j]? = some b → b ≠ D ∧ H' b = some (.lst ((marksL (plc j)).map V.bl)))
        ⟨same_new nD, same_new nD _ _ upd_same, [], upd_same, rfl, fun j b hb => by simp at hb⟩ (fun i H' _ p => .of p.2.1) (fun i x H3 hx p => ?_) (fun H3 p => ?_)
      · obtain ⟨sx, hZ, l, hD, hl, hl2⟩ := p
        have hi3 : i < 3 := lt_get hx
        have ex : x = .int ((plc i : Nat) : Int) := by
          have cc : i = 0 ∨ i = 1 ∨ i = 2 := by omega
          rcases cc with rfl | rfl | rfl <;> (cases hx; rfl)
        subst ex
        refine ⟨rfl, 17, rfl, by decide, by decide, fun D2 nD2 => ?_⟩
        refine lc_range (lo := 0) (n := 17) (LcP H3 D2 fun j => (List.range j).map fun j => V.bl (decide (j = plc i))) (.init nD2 rfl) (fun j H4 hj p => ?_) (fun H4 p => ?_)
        · refine ⟨rfl, ?_⟩
          refine ⟨_, rfl, _, rfl, rfl, p.put (Same.refl _) ?_ (by rw [List.length_map, List.length_range]; omega)⟩
          show ((List.range (j + 1)).map fun j => V.bl (decide (j = plc i))) = _ ++ [V.bl (decide (V.int (0 + (j : Int)) = V.int ((plc i : Nat) : Int)))]
          rw [marks_succ]
          have : decide (V.int (0 + (j : Int)) = V.int ((plc i : Nat) : Int)) = decide (j = plc i) := decide_eq_decide.mpr ⟨fun e => by have := V.int.inj e; omega, fun e => by rw [e, Int.zero_add]⟩
          rw [this]
        · obtain ⟨_, s4, hD2⟩ := p
          dsimp only at hD2
          rw [marks_all] at hD2
          have hD4 := s4 _ _ hD
          have nDD : D2 ≠ D := (ne_of_none hD nD2).symm
          have nZD : Z ≠ D := fun e => by
            rw [e, hD] at hZ
            cases l with
            | nil => cases hZ
            | cons _ _ => cases hZ
          refine ⟨_, hD4, by rw [List.length_map, hl]; exact zl (by omega), ?_⟩
          refine ⟨Lp.Same.mut (sx.trans s4) nD, by rw [upd_ne nZD]; exact s4 _ _ hZ, l ++ [D2], by rw [upd_same, List.map_append]; rfl, by rw [List.length_append, hl]; rfl, fun j b hb => ?_⟩
          by_cases hj : j < l.length
          · rw [List.getElem?_append_left hj] at hb
            obtain ⟨b1, b2⟩ := hl2 j b hb
            exact ⟨b1, by rw [upd_ne b1]; exact s4 _ _ b2⟩
          · have h2 := lt_get hb
            rw [List.length_append, List.length_singleton] at h2
            have e2 : j = l.length := by omega
            subst e2
            rw [List.getElem?_append_right (Nat.le_refl _), Nat.sub_self] at hb
            cases hb
            refine ⟨nDD, ?_⟩
            rw [upd_ne nDD, hl]
            exact hD2
      · obtain ⟨sx, hZ, l, hD, hl, hl2⟩ := p
        have hl3 : l.length = 3 := hl
        obtain ⟨b0, b1, b2, rfl⟩ : ∃ b0 b1 b2, l = [b0, b1, b2] := by
          match l, hl3 with
          | [x, y, z], _ => exact ⟨x, y, z, rfl⟩
        have f0 := (hl2 0 b0 rfl).2
        have f1 := (hl2 1 b1 rfl).2
        have f2 := (hl2 2 b2 rfl).2
        have S0 : Same H H3 := (((s5.trans sm).trans (same_new na)).trans s2).trans ((same_new nZ).trans sx)
        clear hl2 sm
        refine ⟨1, rfl, by show 1 ≤ sizeLine; decide, fun z1 nz1 => ?_⟩
        refine ⟨_, _, rfl, .inr ⟨.inr ⟨z1, rfl, .of upd_same⟩, fun H4 r1 s4 n4 h4 => ?_⟩⟩
        have t4 := (same_new nz1).trans s4
        refine ⟨by show 1 ≤ sizeLine; decide, fun z2 nz2 => ?_⟩
        refine ⟨_, _, rfl, .inl ⟨z2, rfl, rfl, .of upd_same, fun H5 r2 s5 n5 h5' => ?_⟩⟩
        have t5 := (same_new nz2).trans s5
        refine ⟨_, _, rfl, .inr ⟨.inl rfl, fun H6 r3 s6 n6 h6 => ?_⟩⟩
        refine ⟨by show 3 ≤ sizeLine; decide, fun r nr => ?_⟩
        have t6 := same_new (o := .lst [.ref r1, .ref r2, .ref r3]) nr
        have tt := ((t4.trans t5).trans s6).trans t6
        have e1 := t6 _ _ (s6 _ _ (t5 _ _ h4))
        have e2 := t6 _ _ (s6 _ _ h5')
        have e3 := t6 _ _ h6
        have DA : ∀ {H : Hp} {x y z : Addr}, H x = some (.lst ((marksL 3).map V.bl)) → H y = some (.lst ((marksL 6).map V.bl)) → H z = some (.lst ((marksL 3).map V.bl)) → DpAll K H [.ref x, .ref y, .ref z] [dB (marksL 3), dB (marksL 6), dB (marksL 3)] := fun a b c => .cons (dp_bools (.of a)) (.cons (dp_bools (.of b)) (.cons (dp_bools (.of c)) .nil))
        refine ⟨_, rfl, .list [dB (marksL 3), dB (marksL 6), dB (marksL 3)], .list [dB (marksL 3), dB (marksL 6), dB (marksL 3)], .lst (.of upd_same) (DA e1 e2 e3), .lst (xs := [.ref b0, .ref b1, .ref b2]) (.of (tt _ _ hD)) (DA (tt _ _ f0) (tt _ _ f1) (tt _ _ f2)), by decide +kernel, by decide +kernel, ?_⟩
        have ev : PyData.eqv (.list [dB (marksL 3), dB (marksL 6), dB (marksL 3)]) (.list [dB (marksL 3), dB (marksL 6), dB (marksL 3)]) = true := SeqAt.eqv_refl _ (by decide +kernel)
        rw [ev]
        exact q _ (S0.trans tt)
end
end L71
set_option Elab.async false
set_option linter.all false
set_option maxRecDepth 100000
namespace L71
open PySem PySem.Spec PyProof.Rows L2 Lp
section
variable {P : Program} {w : World} {K : PySem.W.Frag} {mg : Str → Option Value} {base : Heap} {E : Nat → Addr}
def cellsL (ns : List Int) (m : Nat) : List Int := ns.take m ++ if ns = [] then [0] else []
def spLaw (K : PySem.W.Frag) : Sp := fun vs H Q _ => ∃ (a : Addr) (ns : List Int), vs = [.ref a] ∧ SqL K H a (ns.map V.int) ∧ ns.length ≤ 63 ∧ ∀ H', Q (.bl true) H'
theorem ok_law {f : Addr} {fd : FuncData} (F : Fun K "law" "law" s_law f fd) (B : NoB mg) (T_law_bag : Cal P w K mg base 1 "_law_bag" spBag) (T_law_draw : Cal P w K mg base 1 "_law_draw" (spDraw K)) (T_law_right : Gc P w K mg base 9 "_law_right" spRight) : FnG P w K mg base CX0 10 f fd ["script"] (spLaw K) := by
  refine okG F sc_law (fun vs H Q E h => ?_) (fun cdv A outer s H vs Q E hG hr h => ?_)
  · obtain ⟨a, ns, rfl, _⟩ := h
    rfl
  · obtain ⟨a, ns, rfl, hS, hl, q⟩ := h
    have hu64 := hr.units
    refine ⟨_, (pss_cons (ps_set (i := 1) sc_law.nd rfl (Or.inl rfl) (pe_op op_cat (pe_slice sl_list (pv 0) po_none (po_some pe_int)) (pe_op op_rep (pe_lst (pa_cons pe_int pa_nil)) (pe_callTy call_int1 (by rfl) B.int (by decide +kernel) (pa_cons (pe_cmpR (op_eqD hu64) (pv 0) (pe_lst pa_nil) (nomark _)) pa_nil)))))
        (pss_cons (ps_for PassesOwn.never rfl (pi_range1 rfl B.range (pa_cons (pe_callB call_len_seq (by rfl) B.len PySem.boot_len (pa_cons (pv 1) pa_nil)) pa_nil)) (pg_name (i := 2) sc_law.nd rfl (Or.inl rfl))
          (pss_cons (ps_set (i := 3) sc_law.nd rfl (Or.inl rfl) (pe_c T_law_bag hr (by decide) (by rfl) (pa_cons (pe_ix ix_list (pv 1) (pv 2) (fun _ _ => rfl)) (pa_cons (pv 2) pa_nil))))
          (pss_one (ps_if (pt_not (pt_val (pe_g T_law_right hG hr (by decide) (by rfl) (pa_cons (pe_op op_repA (pe_ix ix_str pe_str (pe_c T_law_draw hr (by decide) (by rfl) (pa_cons (pv 3) (pa_cons pe_int pa_nil))) (fun _ _ => rfl)) (pe_c T_law_draw hr (by decide) (by rfl) (pa_cons (pv 3) (pa_cons pe_int pa_nil)))) pa_nil)))) (pss_one (ps_ret pe_bl)) pss_nil))))
        (pss_one (ps_ret pe_bl)))), ?_⟩
    refine ⟨_, rfl, 12, rfl, a, _, rfl, hS, fun p np => ?_⟩
    have ecut : cutV (ns.map V.int) none (some 12) = (ns.take 12).map V.int := by
      unfold cutV
      have e1 : HT.sIx (ns.map V.int).length (ns.map V.int).length (some 12) = min 12 (ns.map V.int).length := by
        show (if (12 : Int) < 0 then ((12 : Int) + (((ns.map V.int).length : Nat) : Int)).toNat else min (12 : Int).toNat (ns.map V.int).length) = _
        rw [if_neg (by decide)]
        rfl
      rw [HT.sIx_none, e1, List.drop_zero, Nat.sub_zero, List.length_map, ← List.map_take]
      by_cases c : 12 ≤ ns.length
      · rw [Nat.min_eq_left c]
      · rw [Nat.min_eq_right (by omega), List.take_of_length_le (Nat.le_refl _), List.take_of_length_le (by omega)]
    rw [ecut]
    have s1 := same_new (o := .lst ((ns.take 12).map V.int)) np
    refine ⟨by show 1 ≤ sizeLine; decide, fun z nz => ?_⟩
    have s2 := s1.trans (same_new (o := .lst [V.int 0]) nz)
    refine ⟨_, rfl, Nat.zero_le _, fun e ne => ?_⟩
    have s3 := s2.trans (same_new (o := .lst []) ne)
    refine ⟨dI ns, dI [], dp_ints (s3.seq hS), dp_ints (ns := []) (.of upd_same), shaped_ints _, shaped_ints _, .inr ⟨_, rfl, ?_⟩⟩
    have e1 : (if PyData.eqv (dI ns) (dI []) = true then (1 : Int) else 0) = if ns = [] then 1 else 0 := by
      rw [eqv_ints]
      by_cases c : ns = []
      · rw [if_pos c, decide_eq_true c, if_pos rfl]
      · rw [if_neg c, decide_eq_false c, if_neg Bool.false_ne_true]
    rw [e1]
    have hz3 : (upd (upd (upd H p (.lst ((ns.take 12).map V.int))) z (.lst [V.int 0])) e (.lst [])) z = some (.lst [V.int 0]) := same_new ne _ _ upd_same
    refine ⟨z, _, [V.int 0], rfl, rfl, hz3, by split <;> decide, by split <;> decide, by split <;> decide, fun r nr => ?_⟩
    have hp4 : (upd (upd (upd (upd H p (.lst ((ns.take 12).map V.int))) z (.lst [V.int 0])) e (.lst [])) r (.lst (List.replicate (if ns = [] then (1 : Int) else 0).toNat [V.int 0]).flatten)) p = some (.lst ((ns.take 12).map V.int)) :=
      same_new nr _ _ (same_new ne _ _ (same_new nz _ _ upd_same))
    refine ⟨p, r, _, _, rfl, rfl, hp4, upd_same, ?_, fun t nt => ?_⟩
    · rw [List.length_map, List.length_take]
      split <;> exact zs (by simp; omega)
    have ht : (upd (upd (upd (upd (upd H p (.lst ((ns.take 12).map V.int))) z (.lst [V.int 0])) e (.lst [])) r (.lst (List.replicate (if ns = [] then (1 : Int) else 0).toNat [V.int 0]).flatten)) t (.lst ((ns.take 12).map V.int ++ (List.replicate (if ns = [] then (1 : Int) else 0).toNat [V.int 0]).flatten))) t = some (.lst ((cellsL ns 12).map V.int)) := by
      rw [upd_same]
      unfold cellsL
      by_cases c : ns = []
      · rw [if_pos c, if_pos c, List.map_append]
        rfl
      · rw [if_neg c, if_neg c, List.append_nil]
        show some (HO.lst (_ ++ [])) = _
        rw [List.append_nil]
    generalize upd (upd (upd (upd (upd H p (.lst ((ns.take 12).map V.int))) z (.lst [V.int 0])) e (.lst [])) r (.lst (List.replicate (if ns = [] then (1 : Int) else 0).toNat [V.int 0]).flatten)) t (.lst ((ns.take 12).map V.int ++ (List.replicate (if ns = [] then (1 : Int) else 0).toNat [V.int 0]).flatten)) = H1 at ht ⊢
    have cl : (cellsL ns 12).length ≤ 64 := by
      unfold cellsL
      rw [List.length_append, List.length_take]
      split <;> simp <;> omega
    generalize cellsL ns 12 = cs at ht cl
    refine ⟨_, rfl, t, _, rfl, .inl (.of ht), ?_⟩
    rw [List.length_map]
    refine ⟨_, rfl, by omega, by omega, ?_⟩
    refine for_range (lo := 0) (n := cs.length) (fun i σ H' => (∃ y2 y3, σ = [some (.ref a), some (.ref t), y2, y3]) ∧ Same H1 H') ⟨⟨_, _, rfl⟩, .refl _⟩ (fun i σ H' hi h => ?_) (fun σ H' h => q _)
    obtain ⟨⟨y2, y3, rfl⟩, sm⟩ := h
    have ez : (0 : Int) + (i : Int) = ((i : Nat) : Int) := Int.zero_add _
    have hat : (cs.map V.int)[i]? = some (.int cs[i]) := by
      rw [List.getElem?_map, List.getElem?_eq_getElem hi]
      rfl
    refine ⟨_, rfl, _, rfl, t, _, _, _, rfl, rfl, .of (sm _ _ ht), (by rw [ez]; exact atI_nat hat), _, rfl, cs[i], i, (by rw [ez]; rfl), by omega, fun H2 b s2 nb hb => ?_⟩
    refine ⟨_, rfl, b, 4, 5000, rfl, hb, by decide, by decide, by decide, fun r1 H3 r10 r11 hb3 b3 => ?_⟩
    obtain ⟨c, hc⟩ : ∃ c, atI (("a| ~" : Str).cps.toList) r1 = some c := by
      have cc : r1 = 0 ∨ r1 = 1 ∨ r1 = 2 ∨ r1 = 3 := by omega
      rcases cc with rfl | rfl | rfl | rfl
      · exact ⟨97, by decide +kernel⟩
      · exact ⟨124, by decide +kernel⟩
      · exact ⟨32, by decide +kernel⟩
      · exact ⟨126, by decide +kernel⟩
    refine ⟨_, _, c, rfl, rfl, by decide +kernel, hc, ?_⟩
    refine ⟨_, rfl, b, 60, 5001, rfl, hb3, by decide, by decide, by decide, fun r2 H4 r20 r21 hb4 b4 => ?_⟩
    obtain ⟨m, rfl⟩ := nat_of r20
    refine ⟨_, m, rfl, rfl, rfl, by omega, fun y => ⟨y, rfl, fun H5 s5 => ⟨true, rfl, ⟨_, _, rfl⟩, fun d o e => s5 _ _ ((b3.trans b4) d o (ne_of_none e (sm.free nb)) (s2 _ _ (sm _ _ e)))⟩⟩⟩
end
end L71
set_option Elab.async false
set_option linter.all false
set_option maxRecDepth 100000
namespace L71
open PySem PySem.Spec PyProof.Rows L2 Lp
/-! ### what the classes of errors must say, asked at once -/
def Ex (L : List Addr) : Nat → Addr := fun i => L.getD i 0
def ecB (K : PySem.W.Frag) (D : Addr) : Bool := xfB K D && (decide (PySem.W.findIn K (.ref D) "__class__" = some (some (.builtin "object.__class__"))) && decide (PySem.W.mroIn K D (.type "object") = some true))
def tyB (K : PySem.W.Frag) (D : Addr) : Bool := (PySem.W.clsIn K D).isSome && (decide (PySem.W.typeIn K (.ref D) = some (.type "type")) && (decide (PySem.W.subIn K (.ref D) (.type "ValueError") = some true) && decide (PySem.W.subIn K (.ref D) (.type "BaseException") = some true)))
section
variable {K : PySem.W.Frag} {E : Nat → Addr}
theorem ec_of (h : ((List.range 18).all fun d => ecB K (E d)) = true) (hn : PySem.W.specialIn K (.builtin "object.__class__") "__get__" = some (some (.builtin "getset_descriptor.__get__"))) (ht : PySem.W.takesIn K (.builtin "object.__class__") = some true) (d : Nat) (hd : d ≤ 17) : ExcC K (E d) := by
  have z := List.all_eq_true.mp h d (List.mem_range.mpr (by omega))
  unfold ecB at z
  rw [Bool.and_eq_true, Bool.and_eq_true, decide_eq_true_eq, decide_eq_true_eq] at z
  obtain ⟨z1, z2, z3⟩ := z
  have X := xfB_ok z1
  unfold xfB at z1
  simp only [Bool.and_eq_true, decide_eq_true_eq] at z1
  exact ⟨z1.1, z1.2.1, z1.2.2.1, z1.2.2.2, z2, hn, ht, z3⟩
theorem ty_of (h : ((List.range 18).all fun d => tyB K (E d)) = true) (d : Nat) (hd : d ≤ 17) : (PySem.W.clsIn K (E d)).isSome = true ∧ PySem.W.typeIn K (.ref (E d)) = some (.type "type") ∧ PySem.W.subIn K (.ref (E d)) (.type "ValueError") = some true ∧ PySem.W.subIn K (.ref (E d)) (.type "BaseException") = some true := by
  have z := List.all_eq_true.mp h d (List.mem_range.mpr (by omega))
  unfold tyB at z
  simp only [Bool.and_eq_true, decide_eq_true_eq] at z
  exact z
theorem kit_ref {C D : Addr} {r : Bool} (h1 : (PySem.W.clsIn K C).isSome = true) (h2 : PySem.W.typeIn K (.ref C) = some (.type "type")) (s : PySem.W.subIn K (.ref D) (.ref C) = some r) (sc : PySem.W.subIn K (.ref C) (.ref C) = some true) : PySem.W.kitOne K (.ref D) (.ref C) = some r := by
  unfold PySem.W.kitOne
  by_cases e : (Value.ref D == Value.ref C) = true
  · rw [if_pos e]
    have e2 : D = C := Value.ref.inj (beq_iff_eq.mp e)
    rw [e2, sc] at s
    exact s
  · rw [if_neg e]
    unfold PySem.W.kitCls
    show (if ((PySem.W.clsIn K C).isSome && PySem.W.typeIn K (.ref C) == some (.type "type")) = true then PySem.W.subIn K (.ref D) (.ref C) else none) = some r
    rw [h1, h2, if_pos (by rfl)]
    exact s
theorem sub_of (h : ((List.range 18).all fun d => (List.range 17).all fun j => decide (PySem.W.subIn K (.ref (E d)) (.ref (E j)) = some (decide (j = d)))) = true) (d j : Nat) (hd : d ≤ 17) (hj : j < 17) : PySem.W.subIn K (.ref (E d)) (.ref (E j)) = some (decide (j = d)) := by
  have z := List.all_eq_true.mp h d (List.mem_range.mpr (by omega))
  have z2 := List.all_eq_true.mp z j (List.mem_range.mpr hj)
  exact of_decide_eq_true z2
theorem kit_of (h : ((List.range 18).all fun d => (List.range 17).all fun j => decide (PySem.W.subIn K (.ref (E d)) (.ref (E j)) = some (decide (j = d)))) = true) (ht : ((List.range 18).all fun d => tyB K (E d)) = true) (d j : Nat) (hd : d ≤ 17) (hj : j < 17) : PySem.W.kitOne K (.ref (E d)) (.ref (E j)) = some (decide (j = d)) := by
  obtain ⟨t1, t2, _⟩ := ty_of ht j (by omega)
  refine kit_ref t1 t2 (sub_of h d j hd hj) ?_
  have z := sub_of h j j (by omega) hj
  rw [decide_eq_true rfl] at z
  exact z
theorem subL_of (h : ((List.range 18).all fun d => decide (PySem.W.subIn K (.ref (E d)) (.ref (E 17)) = some true)) = true) (d : Nat) (hd : d ≤ 17) : PySem.W.subIn K (.ref (E d)) (.ref (E 17)) = some true := of_decide_eq_true (List.all_eq_true.mp h d (List.mem_range.mpr (by omega)))
theorem kitL_of (h : ((List.range 18).all fun d => decide (PySem.W.subIn K (.ref (E d)) (.ref (E 17)) = some true)) = true) (ht : ((List.range 18).all fun d => tyB K (E d)) = true) (d : Nat) (hd : d < 17) : PySem.W.kitOne K (.ref (E d)) (.ref (E 17)) = some true := by
  obtain ⟨t1, t2, _⟩ := ty_of ht 17 (Nat.le_refl _)
  exact kit_ref t1 t2 (subL_of h d (by omega)) (subL_of h 17 (Nat.le_refl _))
theorem kitV_of (ht : ((List.range 18).all fun d => tyB K (E d)) = true) (d : Nat) (hd : d < 17) : PySem.W.kitOne K (.ref (E d)) (.type "ValueError") = some true := by
  obtain ⟨_, _, t3, _⟩ := ty_of ht d (by omega)
  unfold PySem.W.kitOne
  rw [if_neg (fun z => by cases beq_iff_eq.mp z)]
  show (if PySem.W.kitMeta "ValueError" = true then PySem.W.subIn K (.ref (E d)) (.type "ValueError") else none) = some true
  rw [if_pos (by decide +kernel), t3]
theorem exm_of (h : ((List.range 18).all fun d => decide (PySem.W.subIn K (.ref (E d)) (.ref (E 17)) = some true)) = true) (ht : ((List.range 18).all fun d => tyB K (E d)) = true) (d : Nat) (hd : d ≤ 17) : PySem.W.exmOne K (.ref (E d)) (.ref (E 17)) = some true := by
  obtain ⟨t1, t2, _, t4⟩ := ty_of ht 17 (Nat.le_refl _)
  unfold PySem.W.exmOne PySem.W.kitCls
  rw [t4, if_pos (by rfl)]
  show (if ((PySem.W.clsIn K (E 17)).isSome && PySem.W.typeIn K (.ref (E 17)) == some (.type "type")) = true then PySem.W.subIn K (.ref (E d)) (.ref (E 17)) else none) = some true
  rw [t1, t2, if_pos (by rfl), subL_of h d hd]
end
end L71
set_option Elab.async false
set_option linter.all false
set_option maxRecDepth 100000
namespace L71
open PySem PySem.Spec PyProof.Rows L2 Lp
theorem all_mk {l : PySem.W.OpenLaw} {w : World} {K : PySem.W.Frag} {h : Heap} {mg : Str → Option Value} {fa : Addr} (X : K.In h) (G : h.Ns mainGlobals mg) (hfa : mg "law" = some (.ref fa))
    {f0 : Addr} {oc0 kV0 dc0 pm0 cd0 ct0 : Value} {od0 an0 : Option Addr} {sl0 : Array (Option Value)}
    (a0 : PySem.W.nsIn K mainGlobals "is_integer" = some (some (.ref f0))) (l0 : K.lookup f0 = some ⟨oc0, od0, .func (PySem.W.fnOf "is_integer" "is_integer" (defArgs s_is_integer) (defBody s_is_integer) (defScope s_is_integer) .none kV0 dc0 pm0 an0 cd0 ct0), sl0⟩) (c0 : PySem.W.codeIn K cd0 "is_integer" = true) (k0 : PySem.W.keepIn K (.ref f0) = true)
    {f1 : Addr} {oc1 kV1 dc1 pm1 cd1 ct1 : Value} {od1 an1 : Option Addr} {sl1 : Array (Option Value)}
    (a1 : PySem.W.nsIn K mainGlobals "is_integer_within" = some (some (.ref f1))) (l1 : K.lookup f1 = some ⟨oc1, od1, .func (PySem.W.fnOf "is_integer_within" "is_integer_within" (defArgs s_is_integer_within) (defBody s_is_integer_within) (defScope s_is_integer_within) .none kV1 dc1 pm1 an1 cd1 ct1), sl1⟩) (c1 : PySem.W.codeIn K cd1 "is_integer_within" = true) (k1 : PySem.W.keepIn K (.ref f1) = true)
    {f2 : Addr} {oc2 kV2 dc2 pm2 cd2 ct2 : Value} {od2 an2 : Option Addr} {sl2 : Array (Option Value)}
    (a2 : PySem.W.nsIn K mainGlobals "are_integers" = some (some (.ref f2))) (l2 : K.lookup f2 = some ⟨oc2, od2, .func (PySem.W.fnOf "are_integers" "are_integers" (defArgs s_are_integers) (defBody s_are_integers) (defScope s_are_integers) .none kV2 dc2 pm2 an2 cd2 ct2), sl2⟩) (c2 : PySem.W.codeIn K cd2 "are_integers" = true) (k2 : PySem.W.keepIn K (.ref f2) = true)
    {f3 : Addr} {oc3 kV3 dc3 pm3 cd3 ct3 : Value} {od3 an3 : Option Addr} {sl3 : Array (Option Value)}
    (a3 : PySem.W.nsIn K mainGlobals "are_events" = some (some (.ref f3))) (l3 : K.lookup f3 = some ⟨oc3, od3, .func (PySem.W.fnOf "are_events" "are_events" (defArgs s_are_events) (defBody s_are_events) (defScope s_are_events) .none kV3 dc3 pm3 an3 cd3 ct3), sl3⟩) (c3 : PySem.W.codeIn K cd3 "are_events" = true) (k3 : PySem.W.keepIn K (.ref f3) = true)
    {f4 : Addr} {oc4 kV4 dc4 pm4 cd4 ct4 : Value} {od4 an4 : Option Addr} {sl4 : Array (Option Value)}
    (a4 : PySem.W.nsIn K mainGlobals "is_history" = some (some (.ref f4))) (l4 : K.lookup f4 = some ⟨oc4, od4, .func (PySem.W.fnOf "is_history" "is_history" (defArgs s_is_history) (defBody s_is_history) (defScope s_is_history) .none kV4 dc4 pm4 an4 cd4 ct4), sl4⟩) (c4 : PySem.W.codeIn K cd4 "is_history" = true) (k4 : PySem.W.keepIn K (.ref f4) = true)
    {f5 : Addr} {oc5 kV5 dc5 pm5 cd5 ct5 : Value} {od5 an5 : Option Addr} {sl5 : Array (Option Value)}
    (a5 : PySem.W.nsIn K mainGlobals "check_history" = some (some (.ref f5))) (l5 : K.lookup f5 = some ⟨oc5, od5, .func (PySem.W.fnOf "check_history" "check_history" (defArgs s_check_history) (defBody s_check_history) (defScope s_check_history) .none kV5 dc5 pm5 an5 cd5 ct5), sl5⟩) (c5 : PySem.W.codeIn K cd5 "check_history" = true) (k5 : PySem.W.keepIn K (.ref f5) = true)
    {f6 : Addr} {oc6 kV6 dc6 pm6 cd6 ct6 : Value} {od6 an6 : Option Addr} {sl6 : Array (Option Value)}
    (a6 : PySem.W.nsIn K mainGlobals "is_started" = some (some (.ref f6))) (l6 : K.lookup f6 = some ⟨oc6, od6, .func (PySem.W.fnOf "is_started" "is_started" (defArgs s_is_started) (defBody s_is_started) (defScope s_is_started) .none kV6 dc6 pm6 an6 cd6 ct6), sl6⟩) (c6 : PySem.W.codeIn K cd6 "is_started" = true) (k6 : PySem.W.keepIn K (.ref f6) = true)
    {f7 : Addr} {oc7 kV7 dc7 pm7 cd7 ct7 : Value} {od7 an7 : Option Addr} {sl7 : Array (Option Value)}
    (a7 : PySem.W.nsIn K mainGlobals "saved_by" = some (some (.ref f7))) (l7 : K.lookup f7 = some ⟨oc7, od7, .func (PySem.W.fnOf "saved_by" "saved_by" (defArgs s_saved_by) (defBody s_saved_by) (defScope s_saved_by) .none kV7 dc7 pm7 an7 cd7 ct7), sl7⟩) (c7 : PySem.W.codeIn K cd7 "saved_by" = true) (k7 : PySem.W.keepIn K (.ref f7) = true)
    {f8 : Addr} {oc8 kV8 dc8 pm8 cd8 ct8 : Value} {od8 an8 : Option Addr} {sl8 : Array (Option Value)}
    (a8 : PySem.W.nsIn K mainGlobals "_law_bag" = some (some (.ref f8))) (l8 : K.lookup f8 = some ⟨oc8, od8, .func (PySem.W.fnOf "_law_bag" "_law_bag" (defArgs s_law_bag) (defBody s_law_bag) (defScope s_law_bag) .none kV8 dc8 pm8 an8 cd8 ct8), sl8⟩) (c8 : PySem.W.codeIn K cd8 "_law_bag" = true) (k8 : PySem.W.keepIn K (.ref f8) = true)
    {f9 : Addr} {oc9 kV9 dc9 pm9 cd9 ct9 : Value} {od9 an9 : Option Addr} {sl9 : Array (Option Value)}
    (a9 : PySem.W.nsIn K mainGlobals "_law_draw" = some (some (.ref f9))) (l9 : K.lookup f9 = some ⟨oc9, od9, .func (PySem.W.fnOf "_law_draw" "_law_draw" (defArgs s_law_draw) (defBody s_law_draw) (defScope s_law_draw) .none kV9 dc9 pm9 an9 cd9 ct9), sl9⟩) (c9 : PySem.W.codeIn K cd9 "_law_draw" = true) (k9 : PySem.W.keepIn K (.ref f9) = true)
    {f10 : Addr} {oc10 kV10 dc10 pm10 cd10 ct10 : Value} {od10 an10 : Option Addr} {sl10 : Array (Option Value)}
    (a10 : PySem.W.nsIn K mainGlobals "_law_marks" = some (some (.ref f10))) (l10 : K.lookup f10 = some ⟨oc10, od10, .func (PySem.W.fnOf "_law_marks" "_law_marks" (defArgs s_law_marks) (defBody s_law_marks) (defScope s_law_marks) .none kV10 dc10 pm10 an10 cd10 ct10), sl10⟩) (c10 : PySem.W.codeIn K cd10 "_law_marks" = true) (k10 : PySem.W.keepIn K (.ref f10) = true)
    {f11 : Addr} {oc11 kV11 dc11 pm11 cd11 ct11 : Value} {od11 an11 : Option Addr} {sl11 : Array (Option Value)}
    (a11 : PySem.W.nsIn K mainGlobals "_law_caught" = some (some (.ref f11))) (l11 : K.lookup f11 = some ⟨oc11, od11, .func (PySem.W.fnOf "_law_caught" "_law_caught" (defArgs s_law_caught) (defBody s_law_caught) (defScope s_law_caught) .none kV11 dc11 pm11 an11 cd11 ct11), sl11⟩) (c11 : PySem.W.codeIn K cd11 "_law_caught" = true) (k11 : PySem.W.keepIn K (.ref f11) = true)
    {f12 : Addr} {oc12 kV12 dc12 pm12 cd12 ct12 : Value} {od12 an12 : Option Addr} {sl12 : Array (Option Value)}
    (a12 : PySem.W.nsIn K mainGlobals "_law_right" = some (some (.ref f12))) (l12 : K.lookup f12 = some ⟨oc12, od12, .func (PySem.W.fnOf "_law_right" "_law_right" (defArgs s_law_right) (defBody s_law_right) (defScope s_law_right) .none kV12 dc12 pm12 an12 cd12 ct12), sl12⟩) (c12 : PySem.W.codeIn K cd12 "_law_right" = true) (k12 : PySem.W.keepIn K (.ref f12) = true)
    {f13 : Addr} {oc13 kV13 dc13 pm13 cd13 ct13 : Value} {od13 an13 : Option Addr} {sl13 : Array (Option Value)}
    (a13 : PySem.W.nsIn K mainGlobals "law" = some (some (.ref f13))) (l13 : K.lookup f13 = some ⟨oc13, od13, .func (PySem.W.fnOf "law" "law" (defArgs s_law) (defBody s_law) (defScope s_law) .none kV13 dc13 pm13 an13 cd13 ct13), sl13⟩) (c13 : PySem.W.codeIn K cd13 "law" = true) (k13 : PySem.W.keepIn K (.ref f13) = true)
    {t_LAST_PATCH : Tok} (g_LAST_PATCH : PySem.W.nsIn K mainGlobals "LAST_PATCH" = some (some (.int 100 t_LAST_PATCH)))
    {t_MOST_EVENTS : Tok} (g_MOST_EVENTS : PySem.W.nsIn K mainGlobals "MOST_EVENTS" = some (some (.int 200 t_MOST_EVENTS)))
    (z_len : PySem.W.nsIn K mainGlobals "len" = some none)
    (z_list : PySem.W.nsIn K mainGlobals "list" = some none)
    (z_int : PySem.W.nsIn K mainGlobals "int" = some none)
    (z_bool : PySem.W.nsIn K mainGlobals "bool" = some none)
    (z_str : PySem.W.nsIn K mainGlobals "str" = some none)
    (z_tuple : PySem.W.nsIn K mainGlobals "tuple" = some none)
    (z_max : PySem.W.nsIn K mainGlobals "max" = some none)
    (z_min : PySem.W.nsIn K mainGlobals "min" = some none)
    (z_range : PySem.W.nsIn K mainGlobals "range" = some none)
    (z_repr : PySem.W.nsIn K mainGlobals "repr" = some none)
    (z_isinstance : PySem.W.nsIn K mainGlobals "isinstance" = some none)
    (z_type : PySem.W.nsIn K mainGlobals "type" = some none)
    (z_all : PySem.W.nsIn K mainGlobals "all" = some none)
    (z_set : PySem.W.nsIn K mainGlobals "set" = some none)
    (z_zip : PySem.W.nsIn K mainGlobals "zip" = some none)
    (z_enumerate : PySem.W.nsIn K mainGlobals "enumerate" = some none)
    (z_sorted : PySem.W.nsIn K mainGlobals "sorted" = some none)
    (z_abs : PySem.W.nsIn K mainGlobals "abs" = some none)
    (z_ValueError : PySem.W.nsIn K mainGlobals "ValueError" = some none)
    {C0 : Addr} (gC0 : PySem.W.nsIn K mainGlobals "EmptyHistoryError" = some (some (.ref C0)))
    (xC0 : PySem.W.excIn K C0 [.type "ValueError", .type "Exception", .type "BaseException", .type "object"] "ValueError.__new__" = true)
    (kC0 : PySem.W.keepIn K (.ref C0) = true)
    {C1 : Addr} (gC1 : PySem.W.nsIn K mainGlobals "FullError" = some (some (.ref C1)))
    (xC1 : PySem.W.excIn K C1 [.type "ValueError", .type "Exception", .type "BaseException", .type "object"] "ValueError.__new__" = true)
    (kC1 : PySem.W.keepIn K (.ref C1) = true)
    {C2 : Addr} (gC2 : PySem.W.nsIn K mainGlobals "InvalidFormatError" = some (some (.ref C2)))
    (xC2 : PySem.W.excIn K C2 [.type "ValueError", .type "Exception", .type "BaseException", .type "object"] "ValueError.__new__" = true)
    (kC2 : PySem.W.keepIn K (.ref C2) = true)
    {C3 : Addr} (gC3 : PySem.W.nsIn K mainGlobals "InvalidHistoryError" = some (some (.ref C3)))
    (xC3 : PySem.W.excIn K C3 [.type "ValueError", .type "Exception", .type "BaseException", .type "object"] "ValueError.__new__" = true)
    (kC3 : PySem.W.keepIn K (.ref C3) = true)
    {C4 : Addr} (gC4 : PySem.W.nsIn K mainGlobals "InvalidNumberError" = some (some (.ref C4)))
    (xC4 : PySem.W.excIn K C4 [.type "ValueError", .type "Exception", .type "BaseException", .type "object"] "ValueError.__new__" = true)
    (kC4 : PySem.W.keepIn K (.ref C4) = true)
    {C5 : Addr} (gC5 : PySem.W.nsIn K mainGlobals "InvalidOrderError" = some (some (.ref C5)))
    (xC5 : PySem.W.excIn K C5 [.type "ValueError", .type "Exception", .type "BaseException", .type "object"] "ValueError.__new__" = true)
    (kC5 : PySem.W.keepIn K (.ref C5) = true)
    {C6 : Addr} (gC6 : PySem.W.nsIn K mainGlobals "InvalidPatchError" = some (some (.ref C6)))
    (xC6 : PySem.W.excIn K C6 [.type "ValueError", .type "Exception", .type "BaseException", .type "object"] "ValueError.__new__" = true)
    (kC6 : PySem.W.keepIn K (.ref C6) = true)
    {C7 : Addr} (gC7 : PySem.W.nsIn K mainGlobals "InvalidPieceError" = some (some (.ref C7)))
    (xC7 : PySem.W.excIn K C7 [.type "ValueError", .type "Exception", .type "BaseException", .type "object"] "ValueError.__new__" = true)
    (kC7 : PySem.W.keepIn K (.ref C7) = true)
    {C8 : Addr} (gC8 : PySem.W.nsIn K mainGlobals "InvalidPresentsError" = some (some (.ref C8)))
    (xC8 : PySem.W.excIn K C8 [.type "ValueError", .type "Exception", .type "BaseException", .type "object"] "ValueError.__new__" = true)
    (kC8 : PySem.W.keepIn K (.ref C8) = true)
    {C9 : Addr} (gC9 : PySem.W.nsIn K mainGlobals "InvalidShapeError" = some (some (.ref C9)))
    (xC9 : PySem.W.excIn K C9 [.type "ValueError", .type "Exception", .type "BaseException", .type "object"] "ValueError.__new__" = true)
    (kC9 : PySem.W.keepIn K (.ref C9) = true)
    {C10 : Addr} (gC10 : PySem.W.nsIn K mainGlobals "InvalidStateError" = some (some (.ref C10)))
    (xC10 : PySem.W.excIn K C10 [.type "ValueError", .type "Exception", .type "BaseException", .type "object"] "ValueError.__new__" = true)
    (kC10 : PySem.W.keepIn K (.ref C10) = true)
    {C11 : Addr} (gC11 : PySem.W.nsIn K mainGlobals "InvalidTouchesError" = some (some (.ref C11)))
    (xC11 : PySem.W.excIn K C11 [.type "ValueError", .type "Exception", .type "BaseException", .type "object"] "ValueError.__new__" = true)
    (kC11 : PySem.W.keepIn K (.ref C11) = true)
    {C12 : Addr} (gC12 : PySem.W.nsIn K mainGlobals "InvalidValueError" = some (some (.ref C12)))
    (xC12 : PySem.W.excIn K C12 [.type "ValueError", .type "Exception", .type "BaseException", .type "object"] "ValueError.__new__" = true)
    (kC12 : PySem.W.keepIn K (.ref C12) = true)
    {C13 : Addr} (gC13 : PySem.W.nsIn K mainGlobals "MismatchError" = some (some (.ref C13)))
    (xC13 : PySem.W.excIn K C13 [.type "ValueError", .type "Exception", .type "BaseException", .type "object"] "ValueError.__new__" = true)
    (kC13 : PySem.W.keepIn K (.ref C13) = true)
    {C14 : Addr} (gC14 : PySem.W.nsIn K mainGlobals "NotRunningError" = some (some (.ref C14)))
    (xC14 : PySem.W.excIn K C14 [.type "ValueError", .type "Exception", .type "BaseException", .type "object"] "ValueError.__new__" = true)
    (kC14 : PySem.W.keepIn K (.ref C14) = true)
    {C15 : Addr} (gC15 : PySem.W.nsIn K mainGlobals "OutOfOrderError" = some (some (.ref C15)))
    (xC15 : PySem.W.excIn K C15 [.type "ValueError", .type "Exception", .type "BaseException", .type "object"] "ValueError.__new__" = true)
    (kC15 : PySem.W.keepIn K (.ref C15) = true)
    {C16 : Addr} (gC16 : PySem.W.nsIn K mainGlobals "StartedError" = some (some (.ref C16)))
    (xC16 : PySem.W.excIn K C16 [.type "ValueError", .type "Exception", .type "BaseException", .type "object"] "ValueError.__new__" = true)
    (kC16 : PySem.W.keepIn K (.ref C16) = true)
    {C17 : Addr} (gC17 : PySem.W.nsIn K mainGlobals "LatepatchError" = some (some (.ref C17)))
    (xC17 : PySem.W.excIn K C17 [.type "ValueError", .type "Exception", .type "BaseException", .type "object"] "ValueError.__new__" = true)
    (kC17 : PySem.W.keepIn K (.ref C17) = true)
    (hEc : ((List.range 18).all fun d => ecB K ((Ex [C0, C1, C2, C3, C4, C5, C6, C7, C8, C9, C10, C11, C12, C13, C14, C15, C16, C17]) d)) = true)
    (hTy : ((List.range 18).all fun d => tyB K ((Ex [C0, C1, C2, C3, C4, C5, C6, C7, C8, C9, C10, C11, C12, C13, C14, C15, C16, C17]) d)) = true)
    (hSu : ((List.range 18).all fun d => (List.range 17).all fun j => decide (PySem.W.subIn K (.ref ((Ex [C0, C1, C2, C3, C4, C5, C6, C7, C8, C9, C10, C11, C12, C13, C14, C15, C16, C17]) d)) (.ref ((Ex [C0, C1, C2, C3, C4, C5, C6, C7, C8, C9, C10, C11, C12, C13, C14, C15, C16, C17]) j)) = some (decide (j = d)))) = true)
    (hLp : ((List.range 18).all fun d => decide (PySem.W.subIn K (.ref ((Ex [C0, C1, C2, C3, C4, C5, C6, C7, C8, C9, C10, C11, C12, C13, C14, C15, C16, C17]) d)) (.ref ((Ex [C0, C1, C2, C3, C4, C5, C6, C7, C8, C9, C10, C11, C12, C13, C14, C15, C16, C17]) 17)) = some true)) = true)
    (hN : PySem.W.specialIn K (.builtin "object.__class__") "__get__" = some (some (.builtin "getset_descriptor.__get__")))
    (hTk : PySem.W.takesIn K (.builtin "object.__class__") = some true) :
    ∃ fd : FuncData, (∀ (s : Shared) (v : Value), BindsTo s fd ⟨[v], []⟩ [("script", v)]) ∧ ∀ base : Heap, K.In base → base.Ns mainGlobals mg → FnG l.prog w K mg base CX0 10 fa fd ["script"] (spLaw K) := by
  have e := hfa.symm.trans (PySem.W.mg_of X G a13)
  cases e
  have B : NoB mg := ⟨PySem.W.mg_none_of X G z_len, PySem.W.mg_none_of X G z_list, PySem.W.mg_none_of X G z_int, PySem.W.mg_none_of X G z_bool, PySem.W.mg_none_of X G z_str, PySem.W.mg_none_of X G z_tuple, PySem.W.mg_none_of X G z_max, PySem.W.mg_none_of X G z_min, PySem.W.mg_none_of X G z_range, PySem.W.mg_none_of X G z_repr, PySem.W.mg_none_of X G z_isinstance, PySem.W.mg_none_of X G z_type, PySem.W.mg_none_of X G z_all, PySem.W.mg_none_of X G z_set, PySem.W.mg_none_of X G z_zip, PySem.W.mg_none_of X G z_enumerate, PySem.W.mg_none_of X G z_sorted, PySem.W.mg_none_of X G z_abs⟩
  have R : Err K mg (Ex [C0, C1, C2, C3, C4, C5, C6, C7, C8, C9, C10, C11, C12, C13, C14, C15, C16, C17]) := { c0 := PySem.W.mg_of X G gC0, x0 := xC0, k0 := kC0, c1 := PySem.W.mg_of X G gC1, x1 := xC1, k1 := kC1, c2 := PySem.W.mg_of X G gC2, x2 := xC2, k2 := kC2, c3 := PySem.W.mg_of X G gC3, x3 := xC3, k3 := kC3, c4 := PySem.W.mg_of X G gC4, x4 := xC4, k4 := kC4, c5 := PySem.W.mg_of X G gC5, x5 := xC5, k5 := kC5, c6 := PySem.W.mg_of X G gC6, x6 := xC6, k6 := kC6, c7 := PySem.W.mg_of X G gC7, x7 := xC7, k7 := kC7, c8 := PySem.W.mg_of X G gC8, x8 := xC8, k8 := kC8, c9 := PySem.W.mg_of X G gC9, x9 := xC9, k9 := kC9, c10 := PySem.W.mg_of X G gC10, x10 := xC10, k10 := kC10, c11 := PySem.W.mg_of X G gC11, x11 := xC11, k11 := kC11, c12 := PySem.W.mg_of X G gC12, x12 := xC12, k12 := kC12, c13 := PySem.W.mg_of X G gC13, x13 := xC13, k13 := kC13, c14 := PySem.W.mg_of X G gC14, x14 := xC14, k14 := kC14, c15 := PySem.W.mg_of X G gC15, x15 := xC15, k15 := kC15, c16 := PySem.W.mg_of X G gC16, x16 := xC16, k16 := kC16, c17 := PySem.W.mg_of X G gC17, x17 := xC17, k17 := kC17, ec := ec_of hEc hN hTk, kit := kit_of hSu hTy, kitL := kitL_of hLp hTy, kitV := kitV_of hTy, b3 := (ty_of hTy 3 (by decide)).2.2.2, t3 := (ty_of hTy 3 (by decide)).2.1, m3 := exm_of hLp hTy 3 (by decide), b6 := (ty_of hTy 6 (by decide)).2.2.2, t6 := (ty_of hTy 6 (by decide)).2.1, m6 := exm_of hLp hTy 6 (by decide) }
  have F0 := fun_mk (st := s_is_integer) l0 c0 k0
  have b0 := F0.binds (ps := ["value"]) fun _ _ _ _ _ _ us hl => match us, hl with | [_], _ => rfl
  have F1 := fun_mk (st := s_is_integer_within) l1 c1 k1
  have b1 := F1.binds (ps := ["value", "least", "greatest"]) fun _ _ _ _ _ _ us hl => match us, hl with | [_, _, _], _ => rfl
  have F2 := fun_mk (st := s_are_integers) l2 c2 k2
  have b2 := F2.binds (ps := ["value", "least", "greatest", "most"]) fun _ _ _ _ _ _ us hl => match us, hl with | [_, _, _, _], _ => rfl
  have F3 := fun_mk (st := s_are_events) l3 c3 k3
  have b3 := F3.binds (ps := ["value"]) fun _ _ _ _ _ _ us hl => match us, hl with | [_], _ => rfl
  have F4 := fun_mk (st := s_is_history) l4 c4 k4
  have b4 := F4.binds (ps := ["value"]) fun _ _ _ _ _ _ us hl => match us, hl with | [_], _ => rfl
  have F5 := fun_mk (st := s_check_history) l5 c5 k5
  have b5 := F5.binds (ps := ["history"]) fun _ _ _ _ _ _ us hl => match us, hl with | [_], _ => rfl
  have F6 := fun_mk (st := s_is_started) l6 c6 k6
  have b6 := F6.binds (ps := ["history", "value"]) fun _ _ _ _ _ _ us hl => match us, hl with | [_, _], _ => rfl
  have F7 := fun_mk (st := s_saved_by) l7 c7 k7
  have b7 := F7.binds (ps := ["history", "patch"]) fun _ _ _ _ _ _ us hl => match us, hl with | [_, _], _ => rfl
  have F8 := fun_mk (st := s_law_bag) l8 c8 k8
  have b8 := F8.binds (ps := ["cell", "k"]) fun _ _ _ _ _ _ us hl => match us, hl with | [_, _], _ => rfl
  have F9 := fun_mk (st := s_law_draw) l9 c9 k9
  have b9 := F9.binds (ps := ["bag", "many"]) fun _ _ _ _ _ _ us hl => match us, hl with | [_, _], _ => rfl
  have F10 := fun_mk (st := s_law_marks) l10 c10 k10
  have b10 := F10.binds (ps := ["e"]) fun _ _ _ _ _ _ us hl => match us, hl with | [_], _ => rfl
  have F11 := fun_mk (st := s_law_caught) l11 c11 k11
  have b11 := F11.binds (ps := ["events", "patch"]) fun _ _ _ _ _ _ us hl => match us, hl with | [_, _], _ => rfl
  have F12 := fun_mk (st := s_law_right) l12 c12 k12
  have b12 := F12.binds (ps := ["message"]) fun _ _ _ _ _ _ us hl => match us, hl with | [_], _ => rfl
  have F13 := fun_mk (st := s_law) l13 c13 k13
  refine ⟨PySem.W.fnOf "law" "law" (defArgs s_law) (defBody s_law) (defScope s_law) .none kV13 dc13 pm13 an13 cd13 ct13, fun s v => .of_eq rfl, fun base _ _ => ?_⟩
  have T_is_integer : Cal l.prog w K mg base 1 "is_integer" _ := ⟨f0, _, ["value"], ok_is_integer F0 B, PySem.W.mg_of X G a0, F0.kp, b0⟩
  have T_is_integer_within : Cal l.prog w K mg base 2 "is_integer_within" _ := ⟨f1, _, ["value", "least", "greatest"], ok_is_integer_within F1 T_is_integer, PySem.W.mg_of X G a1, F1.kp, b1⟩
  have T_are_integers : Cal l.prog w K mg base 3 "are_integers" _ := ⟨f2, _, ["value", "least", "greatest", "most"], ok_are_integers F2 B T_is_integer_within, PySem.W.mg_of X G a2, F2.kp, b2⟩
  have T_are_events : Cal l.prog w K mg base 4 "are_events" _ := ⟨f3, _, ["value"], ok_are_events F3 B (PySem.W.mg_of X G g_LAST_PATCH) (PySem.W.mg_of X G g_MOST_EVENTS) T_are_integers, PySem.W.mg_of X G a3, F3.kp, b3⟩
  have T_is_history : Cal l.prog w K mg base 5 "is_history" _ := ⟨f4, _, ["value"], ok_is_history F4 B T_are_events, PySem.W.mg_of X G a4, F4.kp, b4⟩
  have T_check_history : CalX l.prog w K mg base 6 "check_history" _ := ⟨f5, _, ["history"], ok_check_history F5 R T_is_history, PySem.W.mg_of X G a5, F5.kp, b5⟩
  have T_is_started : Cal l.prog w K mg base 2 "is_started" _ := ⟨f6, _, ["history", "value"], ok_is_started F6 T_is_integer, PySem.W.mg_of X G a6, F6.kp, b6⟩
  have T_saved_by : CalX l.prog w K mg base 7 "saved_by" _ := ⟨f7, _, ["history", "patch"], ok_saved_by F7 R T_check_history T_is_started, PySem.W.mg_of X G a7, F7.kp, b7⟩
  have T_law_bag : Cal l.prog w K mg base 1 "_law_bag" _ := ⟨f8, _, ["cell", "k"], ok_law_bag F8, PySem.W.mg_of X G a8, F8.kp, b8⟩
  have T_law_draw : Cal l.prog w K mg base 1 "_law_draw" _ := ⟨f9, _, ["bag", "many"], ok_law_draw F9, PySem.W.mg_of X G a9, F9.kp, b9⟩
  have T_law_marks : Cal l.prog w K mg base 1 "_law_marks" _ := ⟨f10, _, ["e"], ok_law_marks F10 B R, PySem.W.mg_of X G a10, F10.kp, b10⟩
  have T_law_marks_e : CalE l.prog w K mg base 1 "_law_marks" _ := ⟨f10, _, ["e"], ok_law_marks_e F10 B R, PySem.W.mg_of X G a10, F10.kp, b10⟩
  have T_law_caught : Gc l.prog w K mg base 8 "_law_caught" _ := ⟨f11, _, ["events", "patch"], ok_law_caught F11 R T_saved_by T_law_marks_e, PySem.W.mg_of X G a11, F11.kp, b11⟩
  have T_law_right : Gc l.prog w K mg base 9 "_law_right" _ := ⟨f12, _, ["message"], ok_law_right F12 B R (PySem.W.mg_none_of X G z_ValueError) T_law_marks T_law_caught, PySem.W.mg_of X G a12, F12.kp, b12⟩
  exact ok_law F13 B T_law_bag T_law_draw T_law_right
end L71
open PySem PySem.W PyProof.Rows
set_option maxHeartbeats 0 in
theorem PySem.Challenge.cw_latepatches_k71_errors_are_distinct_holds : PySem.Challenge.rw_latepatches_k71_errors_are_distinct.Holds := by
  w_on; o_law; k_head; (case hw => w_witness2)
  k_fill
  refine Lp.walk_ofG (l := PySem.Challenge.rw_latepatches_k71_errors_are_distinct) (n := 63) (k := 10) (x := "script") (CX := fun _ => L2.CX0) (sp := fun w => L71.spLaw _) rfl (by decide) rfl ⟨rfl, by decide, by decide⟩ (fun w h Y => PySem.W.kIn_of Y) ?F (fun _ _ a ns hl _ hS => ⟨a, ns, rfl, hS, hl, fun _ => rfl⟩) (fun _ _ _ _ _ h => h)
  case F =>
    intro w mg fa h KX G hmg
    refine' L71.all_mk KX G hmg ?a0 ?l0 ?c0 ?k0 ?a1 ?l1 ?c1 ?k1 ?a2 ?l2 ?c2 ?k2 ?a3 ?l3 ?c3 ?k3 ?a4 ?l4 ?c4 ?k4 ?a5 ?l5 ?c5 ?k5 ?a6 ?l6 ?c6 ?k6 ?a7 ?l7 ?c7 ?k7 ?a8 ?l8 ?c8 ?k8 ?a9 ?l9 ?c9 ?k9 ?a10 ?l10 ?c10 ?k10 ?a11 ?l11 ?c11 ?k11 ?a12 ?l12 ?c12 ?k12 ?a13 ?l13 ?c13 ?k13 ?g_LAST_PATCH ?g_MOST_EVENTS ?z_len ?z_list ?z_int ?z_bool ?z_str ?z_tuple ?z_max ?z_min ?z_range ?z_repr ?z_isinstance ?z_type ?z_all ?z_set ?z_zip ?z_enumerate ?z_sorted ?z_abs ?z_ValueError ?gC0 ?xC0 ?kC0 ?gC1 ?xC1 ?kC1 ?gC2 ?xC2 ?kC2 ?gC3 ?xC3 ?kC3 ?gC4 ?xC4 ?kC4 ?gC5 ?xC5 ?kC5 ?gC6 ?xC6 ?kC6 ?gC7 ?xC7 ?kC7 ?gC8 ?xC8 ?kC8 ?gC9 ?xC9 ?kC9 ?gC10 ?xC10 ?kC10 ?gC11 ?xC11 ?kC11 ?gC12 ?xC12 ?kC12 ?gC13 ?xC13 ?kC13 ?gC14 ?xC14 ?kC14 ?gC15 ?xC15 ?kC15 ?gC16 ?xC16 ?kC16 ?gC17 ?xC17 ?kC17 ?hEc ?hTy ?hSu ?hLp ?hN ?hTk
    (case a0 => k_is); (case l0 => k_is); (case c0 => k_is); (case k0 => k_is); (case a1 => k_is); (case l1 => k_is); (case c1 => k_is); (case k1 => k_is); (case a2 => k_is); (case l2 => k_is); (case c2 => k_is); (case k2 => k_is); (case a3 => k_is); (case l3 => k_is); (case c3 => k_is); (case k3 => k_is); (case a4 => k_is); (case l4 => k_is); (case c4 => k_is); (case k4 => k_is); (case a5 => k_is); (case l5 => k_is); (case c5 => k_is); (case k5 => k_is); (case a6 => k_is); (case l6 => k_is); (case c6 => k_is); (case k6 => k_is); (case a7 => k_is); (case l7 => k_is); (case c7 => k_is); (case k7 => k_is); (case a8 => k_is); (case l8 => k_is); (case c8 => k_is); (case k8 => k_is); (case a9 => k_is); (case l9 => k_is); (case c9 => k_is); (case k9 => k_is); (case a10 => k_is); (case l10 => k_is); (case c10 => k_is); (case k10 => k_is); (case a11 => k_is); (case l11 => k_is); (case c11 => k_is); (case k11 => k_is); (case a12 => k_is); (case l12 => k_is); (case c12 => k_is); (case k12 => k_is); (case a13 => k_is); (case l13 => k_is); (case c13 => k_is); (case k13 => k_is); (case g_LAST_PATCH => k_is); (case g_MOST_EVENTS => k_is); (case z_len => k_is); (case z_list => k_is); (case z_int => k_is); (case z_bool => k_is); (case z_str => k_is); (case z_tuple => k_is); (case z_max => k_is); (case z_min => k_is); (case z_range => k_is); (case z_repr => k_is); (case z_isinstance => k_is); (case z_type => k_is); (case z_all => k_is); (case z_set => k_is); (case z_zip => k_is); (case z_enumerate => k_is); (case z_sorted => k_is); (case z_abs => k_is); (case z_ValueError => k_is); (case gC0 => k_is); (case xC0 => k_exc); (case kC0 => k_is); (case gC1 => k_is); (case xC1 => k_exc); (case kC1 => k_is); (case gC2 => k_is); (case xC2 => k_exc); (case kC2 => k_is); (case gC3 => k_is); (case xC3 => k_exc); (case kC3 => k_is); (case gC4 => k_is); (case xC4 => k_exc); (case kC4 => k_is); (case gC5 => k_is); (case xC5 => k_exc); (case kC5 => k_is); (case gC6 => k_is); (case xC6 => k_exc); (case kC6 => k_is); (case gC7 => k_is); (case xC7 => k_exc); (case kC7 => k_is); (case gC8 => k_is); (case xC8 => k_exc); (case kC8 => k_is); (case gC9 => k_is); (case xC9 => k_exc); (case kC9 => k_is); (case gC10 => k_is); (case xC10 => k_exc); (case kC10 => k_is); (case gC11 => k_is); (case xC11 => k_exc); (case kC11 => k_is); (case gC12 => k_is); (case xC12 => k_exc); (case kC12 => k_is); (case gC13 => k_is); (case xC13 => k_exc); (case kC13 => k_is); (case gC14 => k_is); (case xC14 => k_exc); (case kC14 => k_is); (case gC15 => k_is); (case xC15 => k_exc); (case kC15 => k_is); (case gC16 => k_is); (case xC16 => k_exc); (case kC16 => k_is); (case gC17 => k_is); (case xC17 => k_exc); (case kC17 => k_is); (case hEc => kernel_rfl); (case hTy => kernel_rfl); (case hSu => kernel_rfl); (case hLp => kernel_rfl); (case hN => k_is); (case hTk => k_is)
