import PyProof.Rows.All
import Wide.All
import OpenK.AllK
import Wide.FinOn
import HandS.ForMost
import HandS.IsInst
import HandS.More
import HandS.Strs
import HandS.Wide
import HandS.SortInts
import HandS.Style
import HandS.Conv
import PyProof.TypeEq
import PyProof.ReprRoads
import HandS.ForExc
import HandS.Evl
import HandS.Zip
import HandS.SetFor
import HandS.Walk
import PyProof.Rows.CountFlat
import HandS.DictComp
import PyProof.Rows.SeqMore
import HandS.Text
import HandS.WideBits
import HandS.Gcd
import HandS.Defaults
import PyProof.Rows.RegReprOcc
import PyProof.StrOps2
import HandS.NamedTupSort
import KE.LtSeq
import KE.KMathG
import PyProof.Walk
import PyProof.WalkLemmas
import PyProof.Pure
import PyProof.TableTree
import PyProof.FactsTree
import HandS.Rev
import HandS.Small
import HandS.WideMore
import PySem.Challenge.RW_latepatches_k54_shapes_judged
set_option Elab.async false
set_option linter.all false
set_option maxRecDepth 100000
namespace Lp
open PySem PySem.Spec PyProof.Rows L2

/-! ### operators that the layer lacks -/
def CPowW (i j : Int) : Prop := 0 ≤ j ∧ (Builtin.Int.intBits i : Int) * j ≤ 2 ^ 27
section
variable {X : Cx}
theorem op_powW : OpR X (binaryOp .Pow) (rI CPowW fun i j => .int (i ^ j.toNat)) := opI fun _ _ _ _ _ _ _ hc q => pow_int hc.1 hc.2 q
end
theorem powW_ok {i : Int} {n : Nat} {j : Int} (h : i.natAbs < 2 ^ n) (hj : 0 ≤ j) (hn : (n : Int) * j ≤ 100000000) : CPowW i j := by
  refine ⟨hj, ?_⟩
  have b := PyProof.Rows.intBits_le h
  have e : (2 : Int) ^ 27 = 134217728 := by decide
  rw [e]
  have h1 : (Builtin.Int.intBits i : Int) ≤ (n : Int) := by omega
  have h2 := Int.mul_le_mul_of_nonneg_right h1 hj
  omega

/-! ### repr -/
def rRepr (K : PySem.W.Frag) : List V → Hp → VK → Prop := fun xs H Q => ∃ (a : Addr) (d : PyData), xs = [.ref a] ∧ Dp K H (.ref a) d ∧ d.showable = true ∧ d.hasDict = false ∧ d.depth ≤ 60 ∧ d.shown.length ≤ sizeLine ∧ Q (.str d.shown) H
theorem call_repr {X : Cx} (hg : X.A.guards = some []) (hu : X.A.units + 64 < cLine) : CallR X (.builtin "repr") (rRepr X.K) := by
  intro pins s σ H xs us Q I r h
  obtain ⟨a, d, rfl, hd, h1, h2, h3, h4, q⟩ := h
  obtain ⟨u, rfl, rx⟩ := vals1 r
  obtain ⟨as, hr⟩ := Dp.reads I d _ u hd rx
  cases (show u = Value.ref a from rx)
  exact PySem.repr_of_reads' hr h1 (PyData.noDict_hsm h2) hg (by omega) (fun _ _ e => e) (fun h' t tk hk => ⟨.str d.shown, H, I.kept hk, ⟨t, rfl⟩, q⟩) h4
end Lp
set_option Elab.async false
set_option linter.all false
set_option maxRecDepth 100000
namespace Lp
open PySem PySem.Spec PyProof.Rows L2

/-! ### defs that are called where no repr is under way (guards = some []) -/
structure FnG (P : Program) (w : World) (K : PySem.W.Frag) (mg : Str → Option Value) (base : Heap) (CX : CXT) (k : Nat) (f : Addr) (fd : FuncData) (ps : List Str) (sp : Sp) : Prop where
  len : ∀ vs H Q E, sp vs H Q E → vs.length = ps.length
  runG : ∀ (A : Around) (out : List Env) (s : Shared) (H : Hp) (ar : Args) (us : List Value) (vs : List V) (Q : VK) (E : XK), A.guards = some [] → Room k A → Env0 P w K mg base A out s H →
    BindsTo s fd ar (ps.zip us) → Vals vs us → sp vs H Q E → codeAny (model P w) A (.call (.ref f) ar) (CR CX out P w H s Q E) s
section
variable {P : Program} {w : World} {K : PySem.W.Frag} {mg : Str → Option Value} {base : Heap}
theorem FnG.of {CX : CXT} {k : Nat} {f : Addr} {fd : FuncData} {ps : List Str} {sp : Sp} (F : FnOk P w K mg base CX k f fd ps sp) : FnG P w K mg base CX k f fd ps sp :=
  ⟨F.len, fun A out s H ar us vs Q E _ hr => F.run A out s H ar us vs Q E hr⟩
theorem fnG_of {CX : CXT} {k : Nat} {f : Addr} {name qual : Str} {params : Arguments} {body : List Stmt} {scope : Scope} {dV kV doc pm cdv ct oc : Value} {an od : Option Addr}
    {osl : Array (Option Value)} {N ps : List Str} {sp : Sp} (lk : K.lookup f = some ⟨oc, od, .func (PySem.W.fnOf name qual params body scope dV kV doc pm an cdv ct), osl⟩) (hcd : PySem.W.codeIn K cdv qual = true) (S : FnScope N ps scope)
    (ln : ∀ vs H Q E, sp vs H Q E → vs.length = ps.length)
    (hb : ∀ (A : Around) (out : List Env) (s : Shared) (H : Hp) (vs : List V) (Q : VK) (E : XK), A.guards = some [] → Room k (A.deeper (envOfC qual scope s.heap.objs.size f cdv)) → sp vs H Q E →
      ∃ t, PSs (cxOf CX P w K mg base N qual scope f cdv A out s H E) body t ∧ t { nx := fun _ H' => Q .non H', rt := Q } (start N vs) H) :
    FnG P w K mg base CX (k + 1) f (PySem.W.fnOf name qual params body scope dV kV doc pm an cdv ct) ps sp := by
  refine ⟨ln, fun A out s H ar us vs Q E hG room en bd rv hs => ?_⟩
  have KX : K.In s.heap := en.mod.kin.keeps fun b o e => (en.bs b o e).1
  have nl : s.heap.NoLimit := en.mod.nolimit.keeps fun b o e => (en.bs b o e).1
  have kd : ∀ y ∈ ps.zip us, scope.names.lookup y.1 = some .local ∨ (scope.names.lookup y.1 = some .cell ∧ ((cellsFrom (s.heap.objs.size + 1) scope.names []).lookup y.1).isSome = true) := by
    rintro ⟨n, v⟩ hy
    have hm := (List.of_mem_zip hy).1
    exact (S.par n hm).elim (fun q => .inl q) fun q => .inr ⟨q, PySem.W.cellsFrom_some _ _ _ (.inl q)⟩
  refine codeAny_call_function room.depth (KX _ _ lk) rfl S.co S.gen rfl (PySem.W.codeRec_of KX hcd) (bd _ _ _ _ ?_)
  refine wpAny_newFunctionEnv_cells S.kind kd fun e1 he s1 x => ?_
  subst he
  refine ⟨nl.keeps x.toInCall.keep, codeAny_func ?_⟩
  obtain ⟨t, ht, hq⟩ := hb A out s H vs Q E hG (room.deeper _) hs
  have J0 : Inv (cxOf CX P w K mg base N qual scope f cdv A out s H E) [] (start N vs) H s1 := inv_start S room.hd en (ln _ _ _ _ hs) rv x
  refine wpAny_mono (ht.run [] s1 (start N vs) H _ J0 hq) (fun fl s' h3 => ?_) fun _ _ h3 => h3
  cases fl with
  | ret u => exact let ⟨v, _, H', J, r2, q⟩ := h3; ⟨v, H', J.os, J.bare, J.base, J.hok, r2, q⟩
  | next => exact let ⟨_, H', J, q⟩ := h3; ⟨.non, H', J.os, J.bare, J.base, J.hok, rfl, q⟩
  | brk => exact (let ⟨_, _, _, q⟩ := h3; q : False).elim
  | cont => exact (let ⟨_, _, _, q⟩ := h3; q : False).elim
theorem okG {x qual : Str} {st : Stmt} {f : Addr} {fd : FuncData} {N ps : List Str} {k : Nat} {sp : Sp} (F : Fun K x qual st f fd) (S : FnScope N ps (defScope st)) (ln : ∀ vs H Q E, sp vs H Q E → vs.length = ps.length)
    (hb : ∀ (cdv : Value) (A : Around) (out : List Env) (s : Shared) (H : Hp) (vs : List V) (Q : VK) (E : XK), A.guards = some [] → Room k (A.deeper (envOfC qual (defScope st) s.heap.objs.size f cdv)) → sp vs H Q E →
      ∃ t, PSs (cxOf CX0 P w K mg base N qual (defScope st) f cdv A out s H E).nox (defBody st) t ∧ t { nx := fun _ H' => Q .non H', rt := Q } (start N vs) H) : FnG P w K mg base CX0 (k + 1) f fd ps sp := by
  obtain ⟨oc, od, kV, doc, pm, an, cdv, ct, osl, rfl, lk, hcd⟩ := F.ex
  refine fnG_of lk hcd S ln fun A out s H vs Q E hG room h => ?_
  obtain ⟨t, ht, q⟩ := hb cdv A out s H vs Q E hG room h
  exact ⟨t, ht.nox, q⟩
end
section
variable {X : Cx} {CX : CXT} {k : Nat} {f : Addr} {fd : FuncData} {ps : List Str} {sp : Sp} {dvs : List V} {ds : List Value} {E : XK} {x : Str} {p pos : Pos} {e : Expr} {es : List Expr} {t : TA}
theorem pe_callG (F : FnG X.prog X.w X.K X.mg X.base CX k f fd ps sp) (hG : X.A.guards = some []) (hr : Room k X.A) (hg : Gl X x) (hm : X.mg x = some (.ref f)) (hk : PySem.W.keepIn X.K (.ref f) = true) (hb : Binds X.K fd ps ds) (hd : Vals dvs ds) (hx : Passes CX X E)
    (ha : PA X (e :: es) t) (hdb : (x == ("__debug__" : Str)) = false := by decide) (he : starEach (e :: es) X.env = (false, eval e X.env) :: starEach es X.env := by rfl) (hpl : (backTo pos (starEach es X.env)).any (·.1) = false := by rfl) :
    PE X (.Call (.Name x p) (e :: es) [] pos) (tCall sp dvs E t) := by
  refine ⟨fun pins s σ H Q I h => wpAny_Call_Name_kw (ld_glob I hg hm ?_ hdb)⟩
  refine PySem.W.callWith_K (h₀ := X.base) I.ok.mod.kin hk (thn (ha.run pos pins s σ H _ I h) fun us s1 ⟨vs, H1, I1, r, q⟩ => ⟨I1.kIn, ?_⟩) he hpl
  have rr : Vals (vs ++ dvs) (us ++ ds) := r.append hd
  have hl : (us ++ ds).length = ps.length := rr.length.symm.trans (F.len _ _ _ _ q)
  refine wpAny_call (codeAny_mono (F.runG X.A X.stack s1 H1 ⟨us, []⟩ (us ++ ds) (vs ++ dvs) Q E hG hr I1.env0 (hb s1 us I1.kIn hl) rr q) fun r s' hq => ?_)
  cases r with
  | error e => exact hx pins σ H1 s1 e s' I1 hq
  | ok fl =>
    cases fl with
    | ret u => exact I1.after hq
    | next => exact False.elim hq
    | brk => exact False.elim hq
    | cont => exact False.elim hq
end

/-! ### the end of a law's row, for such a law -/
theorem law_callG {P : Program} {w : World} {K : PySem.W.Frag} {mg mb : Str → Option Value} {CX : CXT} {k : Nat} {fa a : Addr} {fd : FuncData} {x : Str} {sp : Sp} {s₁ : Shared} {vs : List Value} {ns : List Int}
    (KX : K.In s₁.heap) (hns : s₁.heap.Ns mainGlobals mg) (hb : s₁.heap.Ns builtinsNs mb) (hbb : ∀ x : Str, x ≠ "__name__" → mb x = bootBuiltins x) (hlim : s₁.heap.NoLimit) (hg : s₁.gens = #[])
    (ha : s₁.heap.get? a = some { cls := .type "list", data := .seq vs.toArray }) (hi : IntsAre vs ns) (hl : ns.length ≤ sizeLine) (hr : Room k callerA)
    (F : ∀ base : Heap, K.In base → base.Ns mainGlobals mg → FnG P w K mg base CX k fa fd [x] sp) (hbind : ∀ (s : Shared) (u : Value), BindsTo s fd ⟨[u], []⟩ [(x, u)])
    (hsp : ∀ H : Hp, Only H → SqL K H a (ns.map V.int) → sp [.ref a] H (fun v _ => v = .bl true) fun _ _ _ => False)
    (hCX : ∀ H e s', CX [] H s₁ (fun _ _ _ => False) e s' → False) :
    codeAny (model P w) callerA (.call (.ref fa) ⟨[.ref a], []⟩) (fun r s' => r = .ok (.ret (.bool true)) ∧ OldK s₁.heap s'.heap ∧ s'.os = s₁.os ∧ AllBare s'.gens) s₁ := by
  have rv := vals_ints hi
  have szV := hi.length
  have main : ∀ H : Hp, Only H → SqL K H a (ns.map V.int) → HOk P w H s₁.heap → (∀ b, H b ≠ none → b = a) → (H a ≠ none → K.lookup a = none) →
      codeAny (model P w) callerA (.call (.ref fa) ⟨[.ref a], []⟩) (fun r s' => r = .ok (.ret (.bool true)) ∧ OldK s₁.heap s'.heap ∧ s'.os = s₁.os ∧ AllBare s'.gens) s₁ := by
    intro H hO hS ok hA hK
    have free : ∀ {b : Addr}, b ≠ a → H b = none := fun {b} hb => by
      cases q : H b with
      | none => rfl
      | some u => exact absurd (hA b (by rw [q]; simp)) hb
    have nsK : ∀ {b : Addr} {m : Str → Option Value}, s₁.heap.Ns b m → (hidT s₁.heap H).Ns b m := by
      rintro b m ⟨o, es, ep, e, d, r⟩
      refine ⟨o, es, ep, hidT_get e (free fun z => ?_), d, r⟩
      subst z
      rw [ha] at e
      cases e
      exact nomatch (show Data.seq vs.toArray _ = Data.dict es ep from d)
    have hKb : K.In (hidT s₁.heap H) := by
      intro b o e
      refine hidT_get (KX b o e) ?_
      cases q : H b with
      | none => rfl
      | some u =>
        have z := hA b (by rw [q]; simp)
        subst z
        rw [hK (by rw [q]; simp)] at e
        cases e
    have hM : Mod K mg (hidT s₁.heap H) := ⟨hKb, nsK hns, ⟨mb, nsK hb, hbb⟩, let ⟨mc, h1, h2⟩ := hlim; ⟨mc, nsK h1, h2⟩⟩
    have e0 : Env0 P w K mg (hidT s₁.heap H) callerA [] s₁ H := ⟨rfl, hM, fun b o e => of_hidT e, Nat.le_of_eq (hidT_size _ _), trivial, fun b hb => absurd (show b ∈ ([] : List Addr) from hb) (by simp), ok, .of_eq hg⟩
    refine codeAny_mono ((F _ hKb (nsK hns)).runG callerA [] s₁ H ⟨[.ref a], []⟩ [.ref a] [.ref a] _ _ rfl hr e0 (hbind s₁ (.ref a)) (.cons rfl .nil) (hsp H hO hS)) fun r s' h => ?_
    cases r with
    | error e => exact (hCX H e s' h).elim
    | ok fl =>
      cases fl with
      | next => exact False.elim h
      | brk => exact False.elim h
      | cont => exact False.elim h
      | ret u =>
        obtain ⟨v, H', os, bare, un, hok', r', q⟩ := h
        cases (show v = .bl true from q)
        cases (show u = Value.bool true from r')
        refine ⟨rfl, OldK.of_keep fun b o e => ?_, os, bare⟩
        rcases hO b with z | ⟨ob, xs, z⟩
        · exact un.keep b o e z (fun z => absurd (show b ∈ ([] : List Addr) from z) (by simp)) (by simp)
        · obtain ⟨e1, _⟩ := ok b _ z
          obtain ⟨e2, _⟩ := hok' b _ (un.frzs b ob _ z)
          rw [e] at e1; cases e1
          exact e2
  cases hk : K.lookup a with
  | some o =>
    have e := KX a o hk
    rw [ha] at e
    cases e
    exact main (fun _ => none) (fun _ => .inl rfl) (.inr ⟨_, vs.toArray, _, hk, rfl, rfl, rfl, by rw [List.size_toArray, szV]; exact hl, by simpa using rv⟩) (fun b u z => nomatch z) (fun b z => absurd rfl z) fun z => absurd rfl z
  | none =>
    refine main (fun b => if b = a then some (.frz { cls := .type "list", data := .seq vs.toArray } (.lst (ns.map V.int))) else none) (fun b => ?_) (.inl (.inr ⟨{ cls := .type "list", data := .seq vs.toArray }, if_pos rfl⟩)) (fun b u z => ?_) (fun b z => ?_) fun _ => hk
    · by_cases h : b = a
      · exact .inr ⟨_, _, if_pos h⟩
      · exact .inl (if_neg h)
    · by_cases h : b = a
      · cases (if_pos h).symm.trans z
        subst h
        exact ⟨ha, by rw [List.length_map]; exact hl, vs, _, rv, ha⟩
      · cases (if_neg h).symm.trans z
    · by_cases h : b = a
      · exact h
      · exact absurd (if_neg h) z
theorem walk_ofG {l : PySem.W.OpenLaw} {n k : Nat} {q : Program} {loose : List Str} {XP : (Str → Option Value) → Heap → Prop} {YP : World → Heap → Prop} {d : DefRec} {K : Params → PySem.W.Frag} {CX : World → CXT} {sp : World → Sp} {x : Str}
    (hn : l.most = some n) (hn2 : n ≤ sizeLine) (hdf : d.params.defaults = []) (hr : Room k callerA)
    (hY : ∀ (w : World) (h : Heap), YP w h → (K w.params).In h)
    (F : ∀ (w : World) (mg : Str → Option Value) (fa : Addr) (h : Heap), (K w.params).In h → h.Ns mainGlobals mg → mg d.name = some (.ref fa) →
      ∃ fd : FuncData, (∀ (s : Shared) (u : Value), BindsTo s fd ⟨[u], []⟩ [(x, u)]) ∧
        ∀ base : Heap, (K w.params).In base → base.Ns mainGlobals mg → FnG l.prog w (K w.params) mg base (CX w) k fa fd [x] (sp w))
    (hsp : ∀ (w : World) (H : Hp) (a : Addr) (ns : List Int), ns.length ≤ n → Only H → SqL (K w.params) H a (ns.map V.int) → sp w [.ref a] H (fun v _ => v = .bl true) fun _ _ _ => False)
    (hCX : ∀ (w : World) (H : Hp) (s : Shared) (e : Value) (s' : Shared), CX w [] H s (fun _ _ _ => False) e s' → False) :
    PySem.W.WalkO q loose XP YP l.row.toRowW d [] (fun f vs => PySem.call f vs) := by
  refine Att.attach_call hn hdf fun w _ s₁ mg _ fa _ _ _ _ a vs ns G Y _ _ _ hmg hobj hints hlen hg => ?_
  obtain ⟨fd, hb, hF⟩ := F w mg fa _ (hY w _ Y) G.T.g hmg
  exact law_callG (hY w _ Y) G.T.g G.T.b G.T.builtins G.T.nolimit hg hobj hints (Nat.le_trans hlen hn2) hr hF hb (fun H hO hS => hsp w H a ns hlen hO hS) fun H e s' => hCX w H s₁ e s'
end Lp
set_option Elab.async false
set_option linter.all false
set_option maxRecDepth 100000
namespace Lp
open PySem PySem.Spec PyProof.Rows L2

/-- the names of the built-ins that the text leaves alone -/
structure NoB (mg : Str → Option Value) : Prop where
  len : mg "len" = none
  list : mg "list" = none
  int : mg "int" = none
  bool : mg "bool" = none
  str : mg "str" = none
  tuple : mg "tuple" = none
  max : mg "max" = none
  min : mg "min" = none
  range : mg "range" = none
  repr : mg "repr" = none
  isinstance : mg "isinstance" = none
  type : mg "type" = none
  all : mg "all" = none
  set : mg "set" = none
  zip : mg "zip" = none
  enumerate : mg "enumerate" = none
  sorted : mg "sorted" = none
  abs : mg "abs" = none

/-- a def that may be called by its name -/
structure Gc (P : Program) (w : World) (K : PySem.W.Frag) (mg : Str → Option Value) (base : Heap) (k : Nat) (x : Str) (sp : Sp) : Prop where
  ex : ∃ (f : Addr) (fd : FuncData) (ps : List Str), FnG P w K mg base CX0 k f fd ps sp ∧ mg x = some (.ref f) ∧ PySem.W.keepIn K (.ref f) = true ∧ Binds K fd ps []
theorem FnG.mono {P : Program} {w : World} {K : PySem.W.Frag} {mg : Str → Option Value} {base : Heap} {CX : CXT} {j k : Nat} {f : Addr} {fd : FuncData} {ps : List Str} {sp : Sp} (F : FnG P w K mg base CX j f fd ps sp) (h : j ≤ k) : FnG P w K mg base CX k f fd ps sp :=
  ⟨F.len, fun A out s H ar us vs Q E hG hr => F.runG A out s H ar us vs Q E hG (hr.mono h)⟩
section
variable {X : Cx} {k j : Nat} {x : Str} {sp : Sp} {p pos : Pos} {e : Expr} {es : List Expr} {t : TA}
theorem pe_g (c : Gc X.prog X.w X.K X.mg X.base k x sp) (hG : X.A.guards = some []) (hr : Room j X.A) (hk : k ≤ j) (hg : Gl X x) (ha : PA X (e :: es) t)
    (hdb : (x == ("__debug__" : Str)) = false := by decide) (he : starEach (e :: es) X.env = (false, eval e X.env) :: starEach es X.env := by rfl) (hpl : (backTo pos (starEach es X.env)).any (·.1) = false := by rfl) :
    PE X (.Call (.Name x p) (e :: es) [] pos) (tCall sp [] E0 t) := by
  obtain ⟨f, fd, ps, F, hm, kp, b⟩ := c.ex
  exact pe_callG F hG (hr.mono hk) hg hm kp b .nil pass0 ha hdb he hpl
end

/-! ### == and != of types -/
def rEqTy : R2 := fun x y H Q => ∃ a b, x = .ty a ∧ y = .ty b ∧ (∀ s' : Shared, s'.TypeIs (.type a) "type") ∧ (∀ s' : Shared, s'.TypeIs (.type b) "type") ∧ Q (.bl (decide (a = b))) H
def rNeTy : R2 := fun x y H Q => ∃ a b, x = .ty a ∧ y = .ty b ∧ (∀ s' : Shared, s'.TypeIs (.type a) "type") ∧ (∀ s' : Shared, s'.TypeIs (.type b) "type") ∧ Q (.bl (!decide (a = b))) H
section
variable {X : Cx}
theorem op_eqTy : OpR X (compareOp .Eq) rEqTy := by
  intro pins s σ H x y v u Q I rx ry h
  obtain ⟨a, b, rfl, rfl, ha, hb, q⟩ := h
  cases (show v = Value.type a from rx)
  cases (show u = Value.type b from ry)
  by_cases e : a = b
  · subst e
    exact PySem.TypeEq.eq_type_same ha ⟨.bl true, H, I, rfl, by simpa using q⟩
  · exact PySem.TypeEq.eq_type_other ha hb (by rw [ty_beq]; exact decide_eq_false e) ⟨.bl false, H, I, rfl, by simpa [e] using q⟩
end

open PySem.TypeEq
theorem slot_type_ne : Slot "type" (cmpInfo .NotEq).2.1 "object.__ne__" :=
  .of (owner := "object") (n := "__ne__") (by rw [typeLookup_type, builtinLookup_eq_fast]; kernel_rfl) (by decide +kernel) (by decide +kernel) (by decide +kernel)
    (by first | exact .inl (by decide +kernel) | exact .inr (by decide +kernel)) (by rw [isSubtype_type]; kernel_rfl)
section
variable {prog : Program} {w : World} {A : Around} {E : Value → Shared → Prop} {s : Shared} {Q : Value → Shared → Prop}
theorem ne_type_same {X : String} (hX : ∀ s' : Shared, s'.TypeIs (.type X) "type") (h : Q (.bool false) s) : wpAny (model prog w) A (compareOp .NotEq (.type X) (.type X)) Q E s := by
  show wpAny _ A (richCompare .NotEq _ _) Q E s
  refine PySem.wpAny_richCompare_same (T := "type") (hX s) (hX s) slot_type_ne (wpAny_call_entry slot_type_ne (hX s) F.entry_object_ne ?_ (F.args_object_ne_2 _ _))
  unfold Builtin.«object.__ne__»
  refine wpAny_bind (m := slotArgs "__ne__" 1 _) (wpAny_of_eq (a := ((Value.type X : Value), [Value.type X])) (by first | rfl | (simp only [slotArgs]; rfl)) ?_)
  refine wpAny_bind (wpAny_cRoomFor_or (.inl rfl) ?_)
  refine wpAny_bind (m := callSpecialIfBound? (.type X) (Str.ofString "__eq__") [.type X]) (wpAny_callSpecialIfBound?_slot (hX s) slot_type_eq
    (call_gives slot_type_eq (hX s) F.entry_object_eq (F.args_object_eq_2 _ _) (object_eq_same rfl (by simp)) ?_))
  show wpAny (model prog w) A.in1 (truthy (.bool true) >>= fun b => ret (Value.bool !b)) _ E s
  exact wpAny_bind (wpAny_of_eq (a := true) (by first | rfl | simp [truthy]) (wpAny_pure ⟨_, rfl, (by intro e; cases e), h⟩))
end

/-- a != b of the same built-in type -/
def rNeTyS : R2 := fun x y H Q => ∃ a, x = .ty a ∧ y = .ty a ∧ (∀ s' : Shared, s'.TypeIs (.type a) "type") ∧ Q (.bl false) H
theorem op_neTy {X : Cx} : OpR X (compareOp .NotEq) rNeTyS := by
  intro pins s σ H x y v u Q I rx ry h
  obtain ⟨a, rfl, rfl, ha, q⟩ := h
  cases (show v = Value.type a from rx)
  cases (show u = Value.type a from ry)
  exact ne_type_same ha ⟨.bl false, H, I, rfl, q⟩
/-! ### heaps -/
theorem same_new {H : Hp} {p : Addr} {o : HO} (h : H p = none) : Same H (upd H p o) := fun b x e => by
  rw [upd_ne (ne_of_none e h)]
  exact e
/-- all but what stands at a is as it was -/
def But (a : Addr) (H H' : Hp) : Prop := ∀ b, b ≠ a → ∀ o, H b = some o → H' b = some o
end Lp
set_option Elab.async false
set_option linter.all false
set_option maxRecDepth 100000
namespace Lp
open PySem PySem.Spec PyProof.Rows L2

/-! ### comprehensions that only add -/
def LcP (H1 : Hp) (D : Addr) (acc : Nat → List V) (i : Nat) (H : Hp) : Prop := H1 D = none ∧ Same H1 H ∧ H D = some (.lst (acc i))
section
variable {H1 H H4 : Hp} {D : Addr} {acc : Nat → List V} {i : Nat} {y : V}
theorem LcP.init (h : H1 D = none) (e : acc 0 = []) : LcP H1 D acc 0 (upd H1 D (.lst [])) := ⟨h, same_new h, by rw [upd_same, e]⟩
theorem LcP.put (p : LcP H1 D acc i H) (s : Same H H4) (e : acc (i + 1) = acc i ++ [y]) (hz : (acc i).length < 100000) :
    ∃ l, H4 D = some (.lst l) ∧ l.length < sizeLine ∧ LcP H1 D acc (i + 1) (upd H4 D (.lst (l ++ [y]))) := by
  obtain ⟨p1, p2, p3⟩ := p
  refine ⟨acc i, s _ _ p3, Nat.lt_of_lt_of_le hz (by decide), p1, fun b o h => ?_, by rw [upd_same, e]⟩
  rw [upd_ne (ne_of_none h p1)]
  exact s _ _ (p2 _ _ h)
theorem LcP.skip (p : LcP H1 D acc i H) (s : Same H H4) (e : acc (i + 1) = acc i) : LcP H1 D acc (i + 1) H4 := ⟨p.1, p.2.1.trans s, by rw [e]; exact s _ _ p.2.2⟩
end
theorem get_int {ns : List Int} {i : Nat} {x : V} (h : (ns.map V.int)[i]? = some x) : ∃ n, x = .int n ∧ ns[i]? = some n := by
  rw [List.getElem?_map] at h
  cases e : ns[i]? with
  | none => rw [e] at h; cases h
  | some n => rw [e] at h; cases h; exact ⟨n, rfl, rfl⟩
theorem mem_get {α : Type} {l : List α} {i : Nat} {x : α} (h : l[i]? = some x) : x ∈ l := List.mem_of_getElem? h
theorem lt_get {α : Type} {l : List α} {i : Nat} {x : α} (h : l[i]? = some x) : i < l.length := (List.getElem?_eq_some_iff.mp h).1
theorem take_get {α : Type} {l : List α} {i : Nat} {x : α} (h : l[i]? = some x) : l.take (i + 1) = l.take i ++ [x] := by
  rw [List.take_add_one, h]
  rfl
theorem zs {n : Nat} (h : n ≤ 100000) : n ≤ sizeLine := Nat.le_trans h (by decide)
theorem zl {n : Nat} (h : n < 100000) : n < sizeLine := Nat.lt_of_lt_of_le h (by decide)
theorem at0 {x : V} {r : List V} : atI (x :: r) 0 = some x := atI_nat (j := 0) rfl
theorem at1 {x y : V} {r : List V} : atI (x :: y :: r) 1 = some y := atI_nat (j := 1) rfl
theorem at2 {x y z : V} {r : List V} : atI (x :: y :: z :: r) 2 = some z := atI_nat (j := 2) rfl
theorem at_last {xs : List V} {y : V} : atI (xs ++ [y]) (-1) = some y := atI_last _ _
theorem dT {p : Prop} [Decidable p] (h : p) : V.bl (decide p) = V.bl true := congrArg V.bl (decide_eq_true h)
theorem dF {p : Prop} [Decidable p] (h : ¬ p) : V.bl (decide p) = V.bl false := congrArg V.bl (decide_eq_false h)
theorem nT {p : Prop} [Decidable p] (h : ¬ p) : V.bl (!decide p) = V.bl true := by rw [decide_eq_false h]; rfl
theorem nF {p : Prop} [Decidable p] (h : p) : V.bl (!decide p) = V.bl false := by rw [decide_eq_true h]; rfl
theorem vne {i j : Int} (h : i ≠ j) : ¬ V.int i = V.int j := fun e => h (V.int.inj e)

/-! ### a word behind a test, a value -/
def tMid (t : TT) : TT := fun σ H Q => ∃ M : Bool → Hp → Prop, t σ H M ∧ ∀ b H', M b H' → Q b H'
theorem pt_mid {X : Cx} {e : Expr} {t : TT} (h : PT X e t) : PT X e (tMid t) := ⟨fun pins s σ H _ I ⟨M, hm, hq⟩ => thn (h.run pins s σ H M I hm) fun b _ ⟨H', I', m⟩ => ⟨H', I', hq b H' m⟩⟩
def tMidE (t : TE) : TE := fun σ H Q => ∃ M : VK, t σ H M ∧ ∀ v H', M v H' → Q v H'
theorem pe_mid {X : Cx} {e : Expr} {t : TE} (h : PE X e t) : PE X e (tMidE t) := ⟨fun pins s σ H _ I ⟨M, hm, hq⟩ => thn (h.run pins s σ H M I hm) fun _ _ ⟨v, H', I', r, m⟩ => ⟨v, H', I', r, hq v H' m⟩⟩
/-! ### all but what stands at a is as it was -/
def Bt (a : Addr) (H H' : Hp) : Prop := ∀ b o, b ≠ a → H b = some o → H' b = some o
section
variable {a b p : Addr} {H H1 H2 H' : Hp} {o : HO}
theorem Bt.refl (a : Addr) (H : Hp) : Bt a H H := fun _ _ _ e => e
theorem Bt.trans (x : Bt a H H1) (y : Bt a H1 H2) : Bt a H H2 := fun b o n e => y b o n (x b o n e)
theorem Bt.of (x : Same H H') : Bt a H H' := fun b o _ e => x b o e
theorem Bt.at_ (a : Addr) (H : Hp) (o : HO) : Bt a H (upd H a o) := fun b u n e => by rw [upd_ne n]; exact e
theorem Bt.new (h : H p = none) : Bt a H (upd H p o) := .of (same_new h)
theorem Bt.mut (x : Bt a H H') (h : H p = none) : Bt a H (upd H' p o) := fun b u n e => by rw [upd_ne (ne_of_none e h)]; exact x b u n e
theorem Bt.add (x : Bt a H H') (h : H' p = none) : Bt a H (upd H' p o) := x.trans (.new h)
theorem Same.mut (x : Same H H') (h : H p = none) : Same H (upd H' p o) := fun b u e => by rw [upd_ne (ne_of_none e h)]; exact x b u e
theorem Same.add (x : Same H H') (h : H' p = none) : Same H (upd H' p o) := x.trans (same_new h)
theorem Bt.seq {K : PySem.W.Frag} {xs : List V} (x : Bt a H H') (n : b ≠ a) (h : SqL K H b xs) : SqL K H' b xs := by
  rcases h with (h | ⟨o, h⟩) | h
  · exact .inl (.inl (x _ _ n h))
  · exact .inl (.inr ⟨o, x _ _ n h⟩)
  · exact .inr h
end

/-! ### rules that name the written part outright: for the inside of comprehensions -/
section
variable {X : Cx} {K : PySem.W.Frag} {o e : Expr} {es : List Expr} {to : TE} {t : TA} {name : Str} {apos cpos : Pos} {T id : String} {r : V → List V → Hp → VK → Prop}
theorem k_bm (hK : X.K = K) (pa : PlainAttrs T) (slot : Slot T name id) (hty : typeOf (.builtin id) = pure (.type "method_descriptor")) (hm : MtR X id r) (ho : PE X o to) (ha : PA X (e :: es) t)
    (hbase : attributeBase o name X.env (eval o X.env) = eval o X.env := by rfl)
    (hfew : ((backTo cpos (starEach (e :: es) X.env)).all (fun x => !x.1) && (backToKw cpos (keywordEach [] X.env)).all (fun x => x.1.isSome)
      && decide ((e :: es).length + ([] : List Keyword).length + (if ([] : List Keyword).isEmpty then 0 else 1) < 30)) = true := by rfl)
    (hline : (apos.endLine == cpos.line) = true := by rfl) (hs : starEach (e :: es) X.env = (false, eval e X.env) :: starEach es X.env := by rfl) (hplain : (backTo cpos (starEach es X.env)).any (·.1) = false := by rfl) :
    PE X (.Call (.Attribute o name apos) (e :: es) [] cpos) (tBM K T r to t) := by
  subst hK
  exact pe_bm pa slot hty hm ho ha hbase hfew hline hs hplain
def rLenK (K : PySem.W.Frag) : List V → Hp → VK → Prop := fun xs H Q => ∃ p ys, xs = [.ref p] ∧ (SqL K H p ys ∨ SqT K H p ys) ∧ Q (.int ys.length) H
theorem k_len (hK : X.K = K) : CallR X (.builtin "len") (rLenK K) := by
  subst hK
  exact call_len_seq
theorem k_ix (hK : X.K = K) : IxR X (rIxL K) := by
  subst hK
  exact ix_list
theorem k_ixT (hK : X.K = K) : IxR X (rIxT K) := by
  subst hK
  exact ix_tup
theorem k_in (hK : X.K = K) : OpR X (compareOp .In) (rIn K false) := by
  subst hK
  exact op_in_seq
theorem k_notin (hK : X.K = K) : OpR X (compareOp .NotIn) (rIn K true) := by
  subst hK
  exact op_notIn_seq
theorem k_isi (hK : X.K = K) : CallR X (.builtin "isinstance") (rIsi K) := by
  subst hK
  exact call_isi
end
end Lp
set_option Elab.async false
set_option linter.all false
set_option maxRecDepth 100000
namespace Lp
open PySem PySem.Spec PyProof.Rows L2
/-! ### lists of ints as data -/
abbrev dI (ns : List Int) : PyData := .list (ns.map PyData.int)
theorem lay_ints : ∀ ns : List Int, PyData.canLayAll0 (ns.map PyData.int) = true
  | [] => rfl
  | _ :: r => by
    show (PyData.canLay0 (.int _) && PyData.canLayAll0 (r.map PyData.int)) = true
    rw [lay_ints r]
    rfl
theorem depth_ints : ∀ ns : List Int, PyData.depthAll (ns.map PyData.int) = 0
  | [] => rfl
  | _ :: r => by
    show max (PyData.depth (.int _)) (PyData.depthAll (r.map PyData.int)) = 0
    rw [depth_ints r]
    rfl
theorem shaped_ints (ns : List Int) : SeqAt.shaped (dI ns) = true := by
  show (PyData.canLayAll0 (ns.map PyData.int) && decide (PyData.depthAll (ns.map PyData.int) + 1 ≤ 64)) = true
  rw [lay_ints, depth_ints]
  rfl
theorem noDict_ints : ∀ ns : List Int, PyData.hasDictAll (ns.map PyData.int) = false
  | [] => rfl
  | _ :: r => by
    show (PyData.hasDict (.int _) || PyData.hasDictAll (r.map PyData.int)) = false
    rw [noDict_ints r]
    rfl
theorem show_ints : ∀ ns : List Int, (∀ n ∈ ns, n.natAbs.log2 < 1920) → PyData.showableAll (ns.map PyData.int) = true
  | [], _ => rfl
  | n :: r, h => by
    show (decide (n.natAbs.log2 < 1920) && PyData.showableAll (r.map PyData.int)) = true
    rw [show_ints r (fun m hm => h m (List.mem_cons_of_mem _ hm)), decide_eq_true (h n List.mem_cons_self)]
    rfl
theorem dpAll_ints {K : PySem.W.Frag} {H : Hp} : ∀ ns : List Int, DpAll K H (ns.map V.int) (ns.map PyData.int)
  | [] => .nil
  | n :: r => .cons (.int n) (dpAll_ints r)
theorem dp_ints {K : PySem.W.Frag} {H : Hp} {a : Addr} {ns : List Int} (h : SqL K H a (ns.map V.int)) : Dp K H (.ref a) (dI ns) := .lst h (dpAll_ints ns)
theorem eqvAll_ints : ∀ xs ys : List Int, PyData.eqvAll (xs.map PyData.int) (ys.map PyData.int) = decide (xs = ys)
  | [], [] => rfl
  | [], _ :: _ => rfl
  | _ :: _, [] => rfl
  | x :: r, y :: s => by
    show (PyData.eqv (.int x) (.int y) && PyData.eqvAll (r.map PyData.int) (s.map PyData.int)) = decide (x :: r = y :: s)
    rw [eqvAll_ints r s]
    show ((x == y) && decide (r = s)) = decide (x :: r = y :: s)
    by_cases e : x = y <;> by_cases e' : r = s <;> simp [e, e']
theorem eqv_ints (xs ys : List Int) : PyData.eqv (dI xs) (dI ys) = decide (xs = ys) := by
  show PyData.eqvAll (xs.map PyData.int) (ys.map PyData.int) = _
  exact eqvAll_ints xs ys
/-- [] == [], by the reading of == -/
theorem textFrom_le : ∀ (ts : List Str) (k : Nat) (acc : Str) (m : Nat), (∀ t ∈ ts, t.length ≤ m) → (textFrom k acc ts).length ≤ acc.length + ts.length * (m + 2)
  | [], k, acc, m, _ => by
    show acc.length ≤ _
    simp
  | t :: r, k, acc, m, h => by
    have ih := fun k' acc' => textFrom_le r k' acc' m (fun x hx => h x (List.mem_cons_of_mem _ hx))
    have ht := h t List.mem_cons_self
    have z := ih (k + 1) (acc ++ (if k > 0 then ", " else "" : String) ++ t)
    have e : (acc ++ (if k > 0 then ", " else "" : String) ++ t).length ≤ acc.length + 2 + t.length := by
      rw [Str.length_append, Str.length_append]
      by_cases hk : k > 0
      · rw [if_pos hk]
        exact Nat.le_refl _
      · rw [if_neg hk]
        show acc.length + 0 + t.length ≤ _
        omega
    show (textFrom (k + 1) (acc ++ (if k > 0 then ", " else "" : String) ++ t) r).length ≤ acc.length + (r.length + 1) * (m + 2)
    rw [Nat.succ_mul]
    omega
theorem num_len : ∀ n : Int, -100 ≤ n → n ≤ 100 → (Str.ofString (toString n)).length ≤ 4 := by
  intro n h0 h1
  have key : ∀ i : Fin 201, (Str.ofString (toString ((i.val : Int) - 100))).length ≤ 4 := by decide +kernel
  have e := key ⟨(n + 100).toNat, by omega⟩
  have e2 : (((n + 100).toNat : Nat) : Int) - 100 = n := by omega
  rw [e2] at e
  exact e
theorem shownAll_mem : ∀ (ns : List Int) (t : Str), t ∈ PyData.shownAll (ns.map PyData.int) → ∃ n ∈ ns, t = Str.ofString (toString n)
  | [], t, h => by
    have h' : t ∈ ([] : List Str) := h
    cases h'
  | n :: r, t, h => by
    have h' : t ∈ Str.ofString (toString n) :: PyData.shownAll (r.map PyData.int) := h
    rcases List.mem_cons.mp h' with e | e
    · exact ⟨n, List.mem_cons_self, e⟩
    · obtain ⟨m, hm, e⟩ := shownAll_mem r t e
      exact ⟨m, List.mem_cons_of_mem _ hm, e⟩
theorem shownAll_len : ∀ ns : List Int, (PyData.shownAll (ns.map PyData.int)).length = ns.length
  | [] => rfl
  | n :: r => congrArg (· + 1) (shownAll_len r)
theorem shown_ints {ns : List Int} (hb : ∀ n ∈ ns, -100 ≤ n ∧ n ≤ 100) (hl : ns.length ≤ 1000) : (dI ns).shown.length ≤ sizeLine := by
  show (textFrom 0 "[" (PyData.shownAll (ns.map PyData.int)) ++ ("]" : Str)).length ≤ sizeLine
  rw [Str.length_append]
  have z := textFrom_le (PyData.shownAll (ns.map PyData.int)) 0 "[" 4 (fun t ht => by
    obtain ⟨n, hn, e⟩ := shownAll_mem ns t ht
    rw [e]
    exact num_len n (hb n hn).1 (hb n hn).2)
  rw [shownAll_len] at z
  have e1 : ("[" : Str).length = 1 := rfl
  have e2 : ("]" : Str).length = 1 := rfl
  rw [e1] at z
  rw [e2]
  exact zs (by omega)
theorem log2_small {n : Int} (h0 : -100 ≤ n) (h1 : n ≤ 100) : n.natAbs.log2 < 1920 := by
  have h : n.natAbs < 2 ^ 7 := by omega
  exact Nat.lt_trans (PySem.Flt.log2_lt_of (by decide : 0 < 7) h) (by decide)
theorem rrepr_ints {K : PySem.W.Frag} {H : Hp} {a : Addr} {ns : List Int} {Q : VK} (hS : SqL K H a (ns.map V.int)) (hb : ∀ n ∈ ns, -100 ≤ n ∧ n ≤ 100) (hl : ns.length ≤ 1000) (q : Q (.str (dI ns).shown) H) : rRepr K [.ref a] H Q :=
  ⟨a, dI ns, rfl, dp_ints hS, show_ints ns (fun n hn => log2_small (hb n hn).1 (hb n hn).2), noDict_ints ns, by
    show PyData.depthAll (ns.map PyData.int) + 1 ≤ 60
    rw [depth_ints]
    decide, shown_ints hb hl, q⟩

/-! ### places -/
theorem erase_map {α β : Type} (f : α → β) : ∀ (l : List α) (j : Nat), (l.map f).eraseIdx j = (l.eraseIdx j).map f
  | [], _ => by simp
  | x :: r, 0 => rfl
  | x :: r, j + 1 => congrArg (f x :: ·) (erase_map f r j)
theorem get_at {al : List Int} {j : Nat} (h : j < al.length) : (al.map V.int)[j]? = some (.int al[j]) := by
  rw [List.getElem?_map, List.getElem?_eq_getElem h]
  rfl
theorem ix_at {j n : Nat} (h : j < n) : seqIndex? (j : Int) n = some j := (ixN_seq (Evl.ixN_nat h)).1
theorem nat_of {r : Int} (h : 0 ≤ r) : ∃ j : Nat, r = (j : Int) := ⟨r.toNat, by omega⟩
theorem nm {k : Nat} (h : k ≤ 100000) : -(2 ^ 63) ≤ (k : Int) ∧ (k : Int) < 2 ^ 63 := by omega
theorem free_of {a p : Addr} {H H' : Hp} (b : Bt a H H') (n : p ≠ a) (h : H' p = none) : H p = none := by
  cases e : H p with
  | none => rfl
  | some o =>
    rw [b _ _ n e] at h
    cases h
theorem erase_perm : ∀ (l : List Int) (j : Nat) (h : j < l.length), (l[j] :: l.eraseIdx j).Perm l
  | x :: r, 0, _ => .refl _
  | x :: r, j + 1, h => by
    have h' : j < r.length := Nat.lt_of_succ_lt_succ h
    exact (List.Perm.swap x (r[j]'h') (r.eraseIdx j)).trans ((erase_perm r j h').cons x)
end Lp
set_option Elab.async false
set_option linter.all false
set_option maxRecDepth 100000
namespace Lp
open PySem PySem.Spec PyProof.Rows L2
theorem lc_enum {K : PySem.W.Frag} {a : Addr} {xs : List V} {g : TG} {tt : TT} {te : TE} {vs : List Nat} {σ : L2.St} {H1 : Hp} {D : Addr} {Qd : Hp → Prop} (Pv : Nat → Hp → Prop) (h0 : Pv 0 (upd H1 D (.lst []))) (hl : ∀ i H, i ≤ xs.length → Pv i H → SqL K H a xs)
    (hs : ∀ (i : Nat) (x : V) (T : Addr) (H : Hp), xs[i]? = some x → H T = none → Pv i H → g (.ref T) (wipe σ vs) (upd H T (.tup [.int (i : Nat), x])) fun σ2 H2 => wipe σ2 vs = wipe σ vs ∧ tt σ2 H2 fun b H3 =>
      if b = true then te σ2 H3 fun y H4 => ∃ acc, H4 D = some (.lst acc) ∧ acc.length < sizeLine ∧ Pv (i + 1) (upd H4 D (.lst (acc ++ [y]))) else Pv (i + 1) H3) (hd : ∀ H, Pv xs.length H → Qd H) :
    ∃ W : Nat → Nat → Hp → Prop, (∃ m, W 0 m (upd H1 D (.lst []))) ∧ ∀ i m H, W i m H →
      ((Ite K a).stop i H ∧ Qd H) ∨ ((Ite K a).go i H ∧ ∃ Nx : Hp → Prop, (∀ H', Nx H' → ∃ m', m' < m ∧ W (i + 1) m' H') ∧ ∀ x H', (Ite K a).yld i H x H' → g x (wipe σ vs) H' fun σ2 H2 => wipe σ2 vs = wipe σ vs ∧ tt σ2 H2 fun b H3 =>
        if b = true then te σ2 H3 fun y H4 => ∃ acc, H4 D = some (.lst acc) ∧ acc.length < sizeLine ∧ Nx (upd H4 D (.lst (acc ++ [y]))) else Nx H3) := by
  refine ⟨fun i m H => m = xs.length - i ∧ i ≤ xs.length ∧ Pv i H, ⟨xs.length, by simp, Nat.zero_le _, h0⟩, ?_⟩
  rintro i m H ⟨rfl, hi, pv⟩
  have sq := hl i H hi pv
  rcases Nat.lt_or_ge i xs.length with hlt | hge
  · refine .inr ⟨⟨xs, xs[i], sq, List.getElem?_eq_getElem hlt⟩, Pv (i + 1), fun H' p' => ⟨xs.length - (i + 1), by omega, rfl, hlt, p'⟩, fun x H' y => ?_⟩
    obtain ⟨T, z, rfl, nT, rfl, ez⟩ := y
    exact hs i z T H (ez xs sq) nT pv
  · have e : i = xs.length := by omega
    subst e
    exact .inl ⟨⟨xs, sq, Nat.le_refl _⟩, hd H pv⟩
theorem cut_take (xs : List V) (k : Nat) (h : k ≤ xs.length) : cutV xs none (some (k : Int)) = xs.take k := by
  unfold cutV
  rw [HT.sIx_none, HT.sIx_nat, List.drop_zero, Nat.sub_zero, Nat.min_eq_left h]
theorem decV (i j : Int) : decide (V.int i = V.int j) = decide (i = j) := decide_eq_decide.mpr ⟨fun z => V.int.inj z, fun z => congrArg V.int z⟩
theorem k_sl {X : Cx} {K : PySem.W.Frag} (hK : X.K = K) : SlR X (rSlL K) := by
  subst hK
  exact sl_list
theorem k_tup {X : Cx} {K : PySem.W.Frag} {es : List Expr} {k : Nat} {pos : Pos} {t : TGs} {n : Nat} (hK : X.K = K) (hc : X.calm = true) (h : PGs X es t)
    (hn : (assignEach es X.env).length = n := by rfl) (hst : (assignEach es X.env).findIdx? (·.1) = none := by rfl) : PG X (.Tuple es k pos) (gTup K n t) := by
  subst hK
  exact pg_tup hc h hn hst
theorem seqN {K : PySem.W.Frag} {xs : List V} {H H1 H' : Hp} {a b : Addr} (h : SqL K H b xs) (n : H a = none) (s : Same H H1) (x : Bt a H1 H') : SqL K H' b xs := by
  rcases h with (h | ⟨o, h⟩) | h
  · exact .inl (.inl (x _ _ (ne_of_none h n) (s _ _ h)))
  · exact .inl (.inr ⟨o, x _ _ (ne_of_none h n) (s _ _ h)⟩)
  · exact .inr h
theorem rI1 {ns : List Int} (hb : ∀ n ∈ ns, -100 ≤ n ∧ n ≤ 100) : (dI ns).showable = true := show_ints ns (fun n hn => log2_small (hb n hn).1 (hb n hn).2)
theorem rI2 (ns : List Int) : (dI ns).depth ≤ 60 := by
  show PyData.depthAll (ns.map PyData.int) + 1 ≤ 60
  rw [depth_ints]
  decide
end Lp
set_option Elab.async false
set_option linter.all false
set_option maxRecDepth 100000
namespace Lp
open PySem PySem.Spec PyProof.Rows L2
theorem lc_zipL {K : PySem.W.Frag} {a b : Addr} {xs ys : List V} {g : TG} {tt : TT} {te : TE} {vs : List Nat} {σ : L2.St} {H1 : Hp} {D : Addr} {Qd : Hp → Prop} (le : xs.length = ys.length) (Pv : Nat → Hp → Prop) (h0 : Pv 0 (upd H1 D (.lst []))) (hl : ∀ i H, i ≤ xs.length → Pv i H → SqL K H a xs ∧ SqL K H b ys)
    (hs : ∀ (i : Nat) (x y : V) (T : Addr) (H : Hp), xs[i]? = some x → ys[i]? = some y → H T = none → Pv i H → g (.ref T) (wipe σ vs) (upd H T (.tup [x, y])) fun σ2 H2 => wipe σ2 vs = wipe σ vs ∧ tt σ2 H2 fun b H3 =>
      if b = true then te σ2 H3 fun y H4 => ∃ acc, H4 D = some (.lst acc) ∧ acc.length < sizeLine ∧ Pv (i + 1) (upd H4 D (.lst (acc ++ [y]))) else Pv (i + 1) H3) (hd : ∀ H, Pv xs.length H → Qd H) :
    ∃ W : Nat → Nat → Hp → Prop, (∃ m, W 0 m (upd H1 D (.lst []))) ∧ ∀ i m H, W i m H →
      ((Itz K a b).stop i H ∧ Qd H) ∨ ((Itz K a b).go i H ∧ ∃ Nx : Hp → Prop, (∀ H', Nx H' → ∃ m', m' < m ∧ W (i + 1) m' H') ∧ ∀ x H', (Itz K a b).yld i H x H' → g x (wipe σ vs) H' fun σ2 H2 => wipe σ2 vs = wipe σ vs ∧ tt σ2 H2 fun b H3 =>
        if b = true then te σ2 H3 fun y H4 => ∃ acc, H4 D = some (.lst acc) ∧ acc.length < sizeLine ∧ Nx (upd H4 D (.lst (acc ++ [y]))) else Nx H3) := by
  refine ⟨fun i m H => m = xs.length - i ∧ i ≤ xs.length ∧ Pv i H, ⟨xs.length, by simp, Nat.zero_le _, h0⟩, ?_⟩
  rintro i m H ⟨rfl, hi, pv⟩
  obtain ⟨sa, sb⟩ := hl i H hi pv
  rcases Nat.lt_or_ge i xs.length with hlt | hge
  · refine .inr ⟨⟨xs, ys, xs[i], ys[i]'(by omega), sa, sb, List.getElem?_eq_getElem hlt, List.getElem?_eq_getElem (by omega)⟩, Pv (i + 1), fun H' p' => ⟨xs.length - (i + 1), by omega, rfl, hlt, p'⟩, fun x H' y => ?_⟩
    obtain ⟨T, z1, z2, rfl, nT, rfl, e1, e2⟩ := y
    exact hs i z1 z2 T H (e1 xs sa) (e2 ys sb) nT pv
  · have e : i = xs.length := by omega
    subst e
    exact .inl ⟨⟨xs, ys, sa, sb, .inl (Nat.le_refl _)⟩, hd H pv⟩
theorem lc_zipT {K : PySem.W.Frag} {a b : Addr} {xs ys : List V} {g : TG} {tt : TT} {te : TE} {vs : List Nat} {σ : L2.St} {H1 : Hp} {D : Addr} {Qd : Hp → Prop} (le : xs.length = ys.length) (Pv : Nat → Hp → Prop) (h0 : Pv 0 (upd H1 D (.lst []))) (hl : ∀ i H, i ≤ xs.length → Pv i H → SqT K H a xs ∧ SqT K H b ys)
    (hs : ∀ (i : Nat) (x y : V) (T : Addr) (H : Hp), xs[i]? = some x → ys[i]? = some y → H T = none → Pv i H → g (.ref T) (wipe σ vs) (upd H T (.tup [x, y])) fun σ2 H2 => wipe σ2 vs = wipe σ vs ∧ tt σ2 H2 fun b H3 =>
      if b = true then te σ2 H3 fun y H4 => ∃ acc, H4 D = some (.lst acc) ∧ acc.length < sizeLine ∧ Pv (i + 1) (upd H4 D (.lst (acc ++ [y]))) else Pv (i + 1) H3) (hd : ∀ H, Pv xs.length H → Qd H) :
    ∃ W : Nat → Nat → Hp → Prop, (∃ m, W 0 m (upd H1 D (.lst []))) ∧ ∀ i m H, W i m H →
      ((RZ.ItzT K a b).stop i H ∧ Qd H) ∨ ((RZ.ItzT K a b).go i H ∧ ∃ Nx : Hp → Prop, (∀ H', Nx H' → ∃ m', m' < m ∧ W (i + 1) m' H') ∧ ∀ x H', (RZ.ItzT K a b).yld i H x H' → g x (wipe σ vs) H' fun σ2 H2 => wipe σ2 vs = wipe σ vs ∧ tt σ2 H2 fun b H3 =>
        if b = true then te σ2 H3 fun y H4 => ∃ acc, H4 D = some (.lst acc) ∧ acc.length < sizeLine ∧ Nx (upd H4 D (.lst (acc ++ [y]))) else Nx H3) := by
  refine ⟨fun i m H => m = xs.length - i ∧ i ≤ xs.length ∧ Pv i H, ⟨xs.length, by simp, Nat.zero_le _, h0⟩, ?_⟩
  rintro i m H ⟨rfl, hi, pv⟩
  obtain ⟨sa, sb⟩ := hl i H hi pv
  rcases Nat.lt_or_ge i xs.length with hlt | hge
  · refine .inr ⟨⟨xs, ys, xs[i], ys[i]'(by omega), sa, sb, List.getElem?_eq_getElem hlt, List.getElem?_eq_getElem (by omega)⟩, Pv (i + 1), fun H' p' => ⟨xs.length - (i + 1), by omega, rfl, hlt, p'⟩, fun x H' y => ?_⟩
    obtain ⟨T, z1, z2, rfl, nT, rfl, e1, e2⟩ := y
    exact hs i z1 z2 T H (e1 xs sa) (e2 ys sb) nT pv
  · have e : i = xs.length := by omega
    subst e
    exact .inl ⟨⟨xs, ys, sa, sb, .inl (Nat.le_refl _)⟩, hd H pv⟩
theorem tyx_l {K : PySem.W.Frag} {H : Hp} {a : Addr} {xs : List V} (h : SqL K H a xs) : TyX K H (.ref a) (.type "list") := by
  rcases h with (h | ⟨o, h⟩) | ⟨o, its, n, h, c, _⟩
  · exact .base (.lst h)
  · exact .base (.frz h)
  · exact .kList h c
theorem tyx_t {K : PySem.W.Frag} {H : Hp} {a : Addr} {xs : List V} (h : SqT K H a xs) : TyX K H (.ref a) (.type "tuple") := by
  rcases h with (h | ⟨o, h⟩) | ⟨o, its, n, h, c, _⟩
  · exact .base (.tup h)
  · exact .fTuple h
  · exact .kTuple h c
theorem seqT {K : PySem.W.Frag} {H H' : Hp} {a : Addr} {xs : List V} (e : Same H H') (h : SqT K H a xs) : SqT K H' a xs := by
  rcases h with (h | ⟨o, h⟩) | h
  · exact .inl (.inl (e _ _ h))
  · exact .inl (.inr ⟨o, e _ _ h⟩)
  · exact .inr h
mutual
theorem dp_same {K : PySem.W.Frag} {H H' : Hp} (s : Same H H') : ∀ {v : V} {d : PyData}, Dp K H v d → Dp K H' v d
  | _, _, .non => .non
  | _, _, .bl b => .bl b
  | _, _, .int i => .int i
  | _, _, .str x => .str x
  | _, _, .lst h1 h2 => .lst (s.seq h1) (dpAll_same s h2)
  | _, _, .tup h1 h2 => .tup (seqT s h1) (dpAll_same s h2)
theorem dpAll_same {K : PySem.W.Frag} {H H' : Hp} (s : Same H H') : ∀ {vs : List V} {ds : List PyData}, DpAll K H vs ds → DpAll K H' vs ds
  | _, _, .nil => .nil
  | _, _, .cons h1 h2 => .cons (dp_same s h1) (dpAll_same s h2)
end
theorem dpAll_len {K : PySem.W.Frag} {H : Hp} : ∀ {vs : List V} {ds : List PyData}, DpAll K H vs ds → vs.length = ds.length
  | _, _, .nil => rfl
  | _, _, .cons _ h => congrArg (· + 1) (dpAll_len h)
theorem dpAll_get {K : PySem.W.Frag} {H : Hp} : ∀ {vs : List V} {ds : List PyData} {i : Nat} {v : V}, DpAll K H vs ds → vs[i]? = some v → ∃ d, ds[i]? = some d ∧ Dp K H v d
  | _, _, 0, _, .cons h _, e => by cases e; exact ⟨_, rfl, h⟩
  | _, _, i + 1, _, .cons _ h, e => dpAll_get (i := i) h e
theorem depth_get : ∀ {ds : List PyData} {i : Nat} {d : PyData}, ds[i]? = some d → d.depth ≤ PyData.depthAll ds
  | x :: r, 0, d, e => by cases e; exact Nat.le_max_left _ _
  | x :: r, i + 1, d, e => Nat.le_trans (depth_get (ds := r) (i := i) e) (Nat.le_max_right _ _)
theorem kitA {K : PySem.W.Frag} {t c1 c2 : Value} {b : Bool} (h1 : PySem.W.kitOne K t c1 = some false) (h2 : PySem.W.kitOne K t c2 = some b) : PySem.W.kitAny K t [c1, c2] = some b := by
  unfold PySem.W.kitAny
  rw [h1]
  show PySem.W.kitAny K t [c2] = _
  unfold PySem.W.kitAny
  rw [h2]
  cases b <;> rfl
theorem kitT {K : PySem.W.Frag} {t c1 : Value} {cs : List Value} (h1 : PySem.W.kitOne K t c1 = some true) : PySem.W.kitAny K t (c1 :: cs) = some true := by
  unfold PySem.W.kitAny
  rw [h1]
/-! ### list(range(a, b, c)) -/
def tList3 (ta : TA) : TE := fun σ H Q => ta σ H fun vs H1 => ∃ (i j c : Int) (n : Nat), vs = [.int i, .int j, .int c] ∧ RgC i j c n ∧ n ≤ 100000 ∧ ∀ q, H1 q = none → Q (.ref q) (upd H1 q (.lst ((List.range n).map fun k : Nat => V.int (i + (k : Int) * c))))
theorem vals_rg3 {a c : Int} {n : Nat} {acc : Array Value} (h : ItemsOf (fun i v => ∃ t, v = .int (a + i * c) t) acc n) : Vals ((List.range n).map fun k : Nat => V.int (a + (k : Int) * c)) acc.toList := by
  have e : acc.toList.length = n := by rw [Array.length_toList]; exact h.1
  rw [← e]
  refine vals_of_get acc.toList _ fun j u hj => ?_
  obtain ⟨t, rfl⟩ := h.2 j u (by rw [← hj, Array.getElem?_toList])
  exact ⟨t, rfl⟩
theorem pe_list3 {X : Cx} {a b c : Expr} {ta : TA} {p p2 pos pos2 : Pos} (hc : X.calm = true) (hg : Gl X "list") (hm : X.mg "list" = none) (hg2 : Gl X "range") (hm2 : X.mg "range" = none) (ha : PA X [a, b, c] ta)
    (hs : starEach [a, b, c] X.env = (false, eval a X.env) :: starEach [b, c] X.env := by rfl) (hpl : (backTo pos2 (starEach [b, c] X.env)).any (·.1) = false := by rfl)
    (na : starEach [.Call (.Name "range" p2) [a, b, c] [] pos2] X.env = (false, eval (.Call (.Name "range" p2) [a, b, c] [] pos2) X.env) :: starEach [] X.env := by rfl) :
    PE X (.Call (.Name "list" p) [.Call (.Name "range" p2) [a, b, c] [] pos2] [] pos) (tList3 ta) := by
  refine ⟨fun pins s σ H Q I h => ?_⟩
  refine Call_ (ld_blt I hg hm boot_list (PyProof.Rows.callWith_type1 (args_cons (?_) na) na))
  refine Call_ (ld_blt I hg2 hm2 boot_range (PyProof.Rows.callWith_type1 (thn (ha.run pos2 pins s σ H _ I h) fun us s1 ⟨vs, H1, I1, r1, q1⟩ => ?_) hs hpl))
  obtain ⟨i, j, k, n, e, ⟨c0, c1, c2, c3⟩, hn, q⟩ := q1
  subst e
  cases r1 with
  | cons r rr =>
    cases rr with
    | cons r' rr =>
      cases rr with
      | cons r'' rr =>
        cases rr
        obtain ⟨t, rfl⟩ := r
        obtain ⟨t', rfl⟩ := r'
        obtain ⟨t'', rfl⟩ := r''
        refine call_range_3 c0 ?_ (.inl (PyProof.noPylong_small c1))
        refine args_nil ?_
        have I2 : Inv X pins σ H1 { s1 with heap := s1.heap.push { cls := .type "range", data := .fields #[.int i t, .int j t', .int k t''] } } := I1.kept (t' := s1.toks) fun b o e => Heap.get?_push_of_some _ e
        refine call_list_range (n := n) (I2.ok.hd hc) (IsRange.new ..) c2 c3 (by omega) fun h' tk acc c' hk e' hi => ?_
        refine ⟨.ref _, upd H1 _ (.lst ((List.range n).map fun m : Nat => V.int (i + (m : Int) * k))), I2.laid hk (Nat.le_refl _) (show ObjOk X.prog X.w _ _ _ (.lst _) from ⟨?_, acc.toList, c', vals_rg3 hi, ?_⟩), rfl, q _ (I2.hok.fresh (Nat.le_refl _))⟩
        · rw [List.length_map, List.length_range]
          exact zs hn
        · rw [Array.toArray_toList]; exact e'
end Lp
set_option Elab.async false
set_option linter.all false
set_option maxRecDepth 100000
namespace Lp
open PySem PySem.Spec PyProof.Rows L2
/-! ### xs.count(text) -/
theorem strCount {k : Str} : ∀ {us : List Value} {ys : List Str}, StrsAre us ys → us.countP (isStrOf k) = ys.countP (fun y => y == k)
  | _, _, .nil => rfl
  | _, _, .cons n t h => by
    have ih := strCount (k := k) h
    rw [List.countP_cons, List.countP_cons, ih] <;> rfl
def rCntS (K : PySem.W.Frag) : V → List V → Hp → VK → Prop := fun x xs H Q => ∃ (p : Addr) (ys : List Str) (k : Str), x = .ref p ∧ xs = [.str k] ∧ SqL K H p (ys.map V.str) ∧ Q (.int (ys.countP (fun y => y == k) : Nat)) H
theorem mt_lcountS {X : Cx} : MtR X "list.count" (rCntS X.K) := by
  intro pins s σ H x xs v us Q I rx rxs h
  obtain ⟨p, ys, k, rfl, rfl, hs, q⟩ := h
  cases rx
  obtain ⟨u, rfl, ru⟩ := rxs.one
  obtain ⟨t, rfl⟩ := ru
  obtain ⟨its, rv, ⟨⟨cls, dd, data, sl⟩, n, ho, hc, hdn, hd⟩, hlen⟩ := I.list hs
  simp only at hc hd
  subst hc hd
  have hi := Vals.strs rv
  refine call_meets PySem.F.slot_list_count ⟨_, ho, rfl⟩ PySem.F.entry_list_count (PySem.F.args_list_count_2 _ _)
    (SeqAt.list_countAt p its.toArray n dd sl (.str k t) (isStrOf k)) ⟨ho, fun y hy => (eq_isStrOf k t hi y (by simpa using hy)).at _ _, ?_⟩
  have ec : its.toArray.toList.countP (isStrOf k) = ys.countP (fun y => y == k) := strCount hi
  refine ⟨.int (ys.countP (fun y => y == k) : Nat), H, I.tok _, ⟨s.toks, ?_⟩, q⟩
  show Value.int ((its.toArray.toList.countP (isStrOf k) : Nat) : Int) s.toks = Value.int ((ys.countP (fun y => y == k) : Nat) : Int) s.toks
  rw [ec]
end Lp
set_option Elab.async false
set_option linter.all false
set_option maxRecDepth 100000
namespace Lp
open PySem PySem.Spec PyProof.Rows L2
/-! ### dict comprehensions over enumerate -/
theorem dc_enum {K : PySem.W.Frag} {a : Addr} {xs : List V} {g : TG} {tt : TT} {tk tv : TE} {vs : List Nat} {σ : L2.St} {H1 : Hp} {D : Addr} {Qd : Hp → Prop} (Pv : Nat → Hp → Prop) (h0 : Pv 0 (upd H1 D (.dK []))) (hl : ∀ i H, i ≤ xs.length → Pv i H → SqL K H a xs)
    (hs : ∀ (i : Nat) (x : V) (T : Addr) (H : Hp), xs[i]? = some x → H T = none → Pv i H → g (.ref T) (wipe σ vs) (upd H T (.tup [.int (i : Nat), x])) fun σ2 H2 => wipe σ2 vs = wipe σ vs ∧ tt σ2 H2 fun b H3 =>
      if b = true then tk σ2 H3 fun y H4 => tv σ2 H4 fun z H5 => ∃ kvs k, y = kV k ∧ H5 D = some (.dK kvs) ∧ kvs.length < sizeLine ∧ Pv (i + 1) (upd H5 D (.dK (putK kvs k z))) else Pv (i + 1) H3) (hd : ∀ H, Pv xs.length H → Qd H) :
    ∃ W : Nat → Nat → Hp → Prop, (∃ m, W 0 m (upd H1 D (.dK []))) ∧ ∀ i m H, W i m H →
      ((Ite K a).stop i H ∧ Qd H) ∨ ((Ite K a).go i H ∧ ∃ Nx : Hp → Prop, (∀ H', Nx H' → ∃ m', m' < m ∧ W (i + 1) m' H') ∧ ∀ x H', (Ite K a).yld i H x H' → g x (wipe σ vs) H' fun σ2 H2 => wipe σ2 vs = wipe σ vs ∧ tt σ2 H2 fun b H3 =>
        if b = true then tk σ2 H3 fun y H4 => tv σ2 H4 fun z H5 => ∃ kvs k, y = kV k ∧ H5 D = some (.dK kvs) ∧ kvs.length < sizeLine ∧ Nx (upd H5 D (.dK (putK kvs k z))) else Nx H3) := by
  refine ⟨fun i m H => m = xs.length - i ∧ i ≤ xs.length ∧ Pv i H, ⟨xs.length, by simp, Nat.zero_le _, h0⟩, ?_⟩
  rintro i m H ⟨rfl, hi, pv⟩
  have sq := hl i H hi pv
  rcases Nat.lt_or_ge i xs.length with hlt | hge
  · refine .inr ⟨⟨xs, xs[i], sq, List.getElem?_eq_getElem hlt⟩, Pv (i + 1), fun H' p' => ⟨xs.length - (i + 1), by omega, rfl, hlt, p'⟩, fun x H' y => ?_⟩
    obtain ⟨T, z, rfl, nT, rfl, e1⟩ := y
    exact hs i z T H (e1 xs sq) nT pv
  · have e : i = xs.length := by omega
    subst e
    exact .inl ⟨⟨xs, sq, Nat.le_refl _⟩, hd H pv⟩
end Lp
set_option Elab.async false
set_option linter.all false
set_option maxRecDepth 100000
namespace Lp
open PySem PySem.Spec PyProof.Rows L2
/-! ### list + list, the script's own list too -/
def rCatS (K : PySem.W.Frag) : R2 := fun x y H Q => ∃ l b xs zs, x = .ref l ∧ y = .ref b ∧ SqL K H l xs ∧ SqL K H b zs ∧ xs.length + zs.length ≤ sizeLine ∧ ∀ p, H p = none → Q (.ref p) (upd H p (.lst (xs ++ zs)))
theorem op_catS {X : Cx} : OpR X (binaryOp .Add) (rCatS X.K) := by
  intro pins s σ H x y v u Q I rx ry h
  obtain ⟨l, b, xs, zs, rfl, rfl, hl, hb, hz, q⟩ := h
  cases rx
  cases ry
  obtain ⟨its, r, ⟨⟨cls, dd, data, sl⟩, n, ho, hc, hdn, hd⟩, h1⟩ := I.list hl
  obtain ⟨its2, r2, ⟨⟨cls2, dd2, data2, sl2⟩, n2, ho2, hc2, hdn2, hd2⟩, h2⟩ := I.list hb
  simp only at hc hd hc2 hd2
  subst hc hd hc2 hd2
  have e1 := r.length
  have e2 := r2.length
  refine concat_meets ⟨_, ho, rfl⟩ ⟨_, ho2, rfl⟩ noFill_list_add seq_list_add PySem.F.slot_list_add PySem.F.entry_list_add (PySem.F.args_list_add_2 _ _) (list_addW l b its.toArray its2.toArray n n2 dd dd2 sl sl2 (by rw [List.size_toArray, List.size_toArray]; omega)) ⟨ho, ho2, ?_⟩
  have ea : its.toArray ++ its2.toArray = (its ++ its2).toArray := by simp
  rw [ea]
  exact ⟨.ref _, _, I.lnew (t' := s.toks) (r.append r2) (by rw [List.length_append]; omega), rfl, q _ I.fresh⟩
end Lp
set_option Elab.async false
set_option linter.all false
set_option maxRecDepth 100000
namespace Lp
open PySem PySem.Spec PyProof.Rows L2

/-! ### calls by keywords, of defs that are called where no repr is under way -/
structure Gk (P : Program) (w : World) (K : PySem.W.Frag) (mg : Str → Option Value) (base : Heap) (k : Nat) (x : Str) (n : Nat) (ks : List Str) (gV : List V → List V → List V) (sp : Sp) : Prop where
  ex : ∃ (f : Addr) (fd : FuncData) (ps : List Str) (g : List Value → List Value → List Value), FnG P w K mg base CX0 k f fd ps sp ∧ mg x = some (.ref f) ∧ PySem.W.keepIn K (.ref f) = true ∧ KBn K fd ps n ks g gV
theorem kb_of {K : PySem.W.Frag} {x qual : Str} {st : Stmt} {f : Addr} {fd : FuncData} {ps : List Str} (F : Fun K x qual st f fd) (n : Nat) (ks : List Str) (g : {α : Type} → List α → List α → List α)
    (hrel : ∀ {vs : List V} {us : List Value} {zs : List V} {ws : List Value}, Vals vs us → Vals zs ws → Vals (g vs zs) (g us ws))
    (h : ∀ (kV doc pm : Value) (an : Option Addr) (cdv ct : Value) (us ws : List Value), us.length = n → ws.length = ks.length → bindArgs (PySem.W.fnOf x qual (defArgs st) (defBody st) (defScope st) .none kV doc pm an cdv ct) ⟨us, ks.zip ws⟩ = pure (ps.zip (g us ws))) :
    KBn K fd ps n ks g g := by
  obtain ⟨oc, od, kV, doc, pm, an, cdv, ct, osl, rfl, lk, hcd⟩ := F.ex
  exact ⟨fun s us ws _ l1 l2 => .of_eq (h kV doc pm an cdv ct us ws l1 l2), hrel⟩
theorem kb_gApp0 {vs : List V} {us : List Value} {zs : List V} {ws : List Value} (a : Vals vs us) (b : Vals zs ws) : Vals (vs ++ zs) (us ++ ws) := a.append b
def gApp {α : Type} (us ws : List α) : List α := us ++ ws
def gRev {α : Type} (us ws : List α) : List α := us ++ ws.reverse
theorem kb_gApp {vs : List V} {us : List Value} {zs : List V} {ws : List Value} (a : Vals vs us) (b : Vals zs ws) : Vals (gApp vs zs) (gApp us ws) := a.append b
theorem vals_rev2 : ∀ {zs : List V} {ws : List Value}, Vals zs ws → Vals zs.reverse ws.reverse
  | _, _, .nil => .nil
  | _, _, .cons h t => by
    rw [List.reverse_cons, List.reverse_cons]
    exact (vals_rev2 t).append (.cons h .nil)
theorem kb_gRev {vs : List V} {us : List Value} {zs : List V} {ws : List Value} (a : Vals vs us) (b : Vals zs ws) : Vals (gRev vs zs) (gRev us ws) := a.append (vals_rev2 b)
def tCallG (n m : Nat) (sp : Sp) (gV : List V → List V → List V) (t tk : TA) : TE := fun σ H Q => t σ H fun vs H1 => tk σ H1 fun zs H2 => vs.length = n ∧ zs.length = m ∧ sp (gV vs zs) H2 Q E0
section
variable {X : Cx} {CX : CXT} {k n : Nat} {f : Addr} {fd : FuncData} {ps ks : List Str} {sp : Sp} {E : XK} {x : Str} {p pos : Pos} {e : Expr} {es : List Expr} {kws : List Keyword} {t tk : TA} {g : List Value → List Value → List Value} {gV : List V → List V → List V}
theorem run_fnG {pins : List (Addr × Obj)} {σ : L2.St} {H : Hp} {s : Shared} {Q : VK} {us ws : List Value} {vs zs : List V} (F : FnG X.prog X.w X.K X.mg X.base CX k f fd ps sp) (hG : X.A.guards = some []) (hr : Room k X.A) (hb : KBn X.K fd ps n ks g gV) (hx : Passes CX X E)
    (I : Inv X pins σ H s) (r : Vals vs us) (rz : Vals zs ws) (l1 : vs.length = n) (l2 : zs.length = ks.length) (h : sp (gV vs zs) H Q E) : wpAny (model X.prog X.w) X.A (call (.ref f) us (ks.zip ws)) (EP X pins σ Q) X.xe s := by
  have r2 := hb.rel r rz
  refine wpAny_call (codeAny_mono (F.runG X.A X.stack s H ⟨us, ks.zip ws⟩ (g us ws) (gV vs zs) Q E hG hr I.env0 (hb.to s us ws I.kIn (r.length.symm.trans l1) (rz.length.symm.trans l2)) r2 h) fun r s' hq => ?_)
  cases r with
  | error e => exact hx pins σ H s e s' I hq
  | ok fl =>
    cases fl with
    | ret u => exact I.after hq
    | next => exact False.elim hq
    | brk => exact False.elim hq
    | cont => exact False.elim hq
/-- f(k = v, ..) -/
theorem pe_gK0 {j : Nat} (c : Gk X.prog X.w X.K X.mg X.base k x 0 ks gV sp) (hG : X.A.guards = some []) (hr : Room j X.A) (hk : k ≤ j) (hg : Gl X x) (hkw : PK X kws tk)
    (hall : (backToKw pos (keywordEach kws X.env)).all (·.1.isSome) = true := by rfl) (hks : (backToKw pos (keywordEach kws X.env)).filterMap (·.1) = ks := by rfl) (hdb : (x == ("__debug__" : Str)) = false := by decide)
    (hpl : ((backTo pos (starEach [] X.env)).any (·.1) || (backToKw pos (keywordEach kws X.env)).any (·.1.isNone)) = false := by rfl) :
    PE X (.Call (.Name x p) [] kws pos) (tCallG 0 ks.length sp gV tNil tk) := by
  obtain ⟨f, fd, ps, g, F, hm, kp, hb⟩ := c.ex
  refine ⟨fun pins s σ H Q I h => ?_⟩
  refine wpAny_Call_Name_kw (ld_glob I hg hm ?_ hdb)
  refine PySem.W.callWith_KW0 (h₀ := X.base) I.ok.mod.kin kp hall ?_ hpl
  refine thn (hkw.run pos pins s σ H _ I h) fun ws s2 ⟨zs, H2, I2, rz, l1, l2, q2⟩ => ⟨I2.kIn, ?_⟩
  rw [hks]
  exact run_fnG (us := []) (vs := []) F hG (hr.mono hk) hb pass0 I2 .nil rz rfl l2 q2
/-- f(e, .., k = v, ..) -/
theorem pe_gK {j : Nat} (c : Gk X.prog X.w X.K X.mg X.base k x n ks gV sp) (hG : X.A.guards = some []) (hr : Room j X.A) (hk : k ≤ j) (hg : Gl X x) (ha : PA X (e :: es) t) (hkw : PK X kws tk)
    (hall : (backToKw pos (keywordEach kws X.env)).all (·.1.isSome) = true := by rfl) (hks : (backToKw pos (keywordEach kws X.env)).filterMap (·.1) = ks := by rfl) (hdb : (x == ("__debug__" : Str)) = false := by decide)
    (he : starEach (e :: es) X.env = (false, eval e X.env) :: starEach es X.env := by rfl) (hpl : ((backTo pos (starEach (e :: es) X.env)).any (·.1) || (backToKw pos (keywordEach kws X.env)).any (·.1.isNone)) = false := by rfl) :
    PE X (.Call (.Name x p) (e :: es) kws pos) (tCallG n ks.length sp gV t tk) := by
  obtain ⟨f, fd, ps, g, F, hm, kp, hb⟩ := c.ex
  refine ⟨fun pins s σ H Q I h => ?_⟩
  refine wpAny_Call_Name_kw (ld_glob I hg hm ?_ hdb)
  refine PySem.W.callWith_KW (h₀ := X.base) I.ok.mod.kin kp hall (thn (ha.run pos pins s σ H _ I h) fun us s1 ⟨vs, H1, I1, r, q⟩ => ?_) hpl he
  refine thn (hkw.run pos pins s1 σ H1 _ I1 q) fun ws s2 ⟨zs, H2, I2, rz, l1, l2, q2⟩ => ⟨I2.kIn, ?_⟩
  rw [hks]
  exact run_fnG F hG (hr.mono hk) hb pass0 I2 r rz l1 l2 q2
end

/-! ### i *= j of great ints -/
def ipC (C : Int → Int → Prop) (f : Int → Int → Int) : TIp := fun x y H Q => ∃ i j, x = .int i ∧ y = .int j ∧ C i j ∧ Q (.int (f i j)) H
section
variable {X : Cx}
theorem ip_mulW : PIp X .Mult (ipC CMulW fun i j => i * j) := by
  intro pins s σ H x y v u Q I r1 r2 h
  obtain ⟨i, j, e1, e2, hc, q⟩ := h
  subst e1; subst e2
  obtain ⟨t, rfl⟩ := r1
  obtain ⟨t', rfl⟩ := r2
  exact imul_int ⟨.int _, H, I.tok _, ⟨_, rfl⟩, q⟩ hc.ok
/-! ### text * int -/
theorem foldl_repN (l : List Nat) : ∀ (n : Nat) (acc : List Nat), List.foldl (fun x1 x2 => x1 ++ x2) acc.toArray (List.replicate n l.toArray) = (acc ++ (List.replicate n l).flatten).toArray
  | 0, acc => by simp
  | n + 1, acc => by
    rw [List.replicate_succ, List.foldl_cons, List.append_toArray, foldl_repN l n (acc ++ l), List.replicate_succ, List.flatten_cons, List.append_assoc]
theorem op_repS : OpR X (binaryOp .Mult) (fun x y H Q => ∃ (z : Str) (n : Nat), x = .str z ∧ y = .int (n : Int) ∧ 2 ≤ n ∧ z.length ≠ 0 ∧ z.length * n ≤ 100000 ∧ Q (.str ⟨(List.replicate n z.cps.toList).flatten.toArray⟩) H) := by
  intro pins s σ H x y v u Q I r1 r2 h
  obtain ⟨z, n, e1, e2, h1, h3, h4, q⟩ := h
  subst e1; subst e2
  obtain ⟨t, rfl⟩ := r1
  obtain ⟨t', rfl⟩ := r2
  have hn : ¬ (n : Int) < 1 := by omega
  have hz1 : 1 ≤ z.length := Nat.pos_of_ne_zero h3
  have hn2 : n ≤ 100000 := Nat.le_trans (Nat.le_mul_of_pos_left n hz1) h4
  have hb : ((n : Int) == 1 || z.length == 0) = false := by
    have a : ((n : Int) == 1) = false := beq_eq_false_iff_ne.mpr (by omega)
    have b : (z.length == 0) = false := beq_eq_false_iff_ne.mpr h3
    rw [a, b]
    rfl
  have hsz : z.length * n ≤ sizeLine := zs h4
  have f0 : List.foldl (fun x1 x2 => x1 ++ x2) #[] (List.replicate n z.cps) = (List.replicate n z.cps.toList).flatten.toArray := by
    have := foldl_repN z.cps.toList n []
    rw [List.nil_append, Array.toArray_toList] at this
    exact this
  have hl : (⟨(List.replicate n z.cps.toList).flatten.toArray⟩ : Str).length = n * z.length := by
    show ((List.replicate n z.cps.toList).flatten.toArray).size = n * z.length
    rw [List.size_toArray, List.length_flatten, List.map_replicate, List.sum_replicate_nat, Array.length_toList]
    rfl
  refine PySem.P.mul_str ?_ (fun _ _ => ?_) (fun _ _ => ?_) ?_
  · have a : ¬ (n : Int) < -(2 ^ 63 : Int) := by omega
    have b : ¬ (n : Int) ≥ 2 ^ 63 := by omega
    rw [decide_eq_false a, decide_eq_false b]
    rfl
  · have h5 : (z.length : Int) * (n : Int) ≤ 100000 := by
      have := Int.ofNat_le.mpr h4
      rwa [Int.natCast_mul] at this
    have := (Int.le_ediv_iff_mul_le (show (0 : Int) < n by omega)).mpr (show (z.length : Int) * (n : Int) ≤ 2 ^ 63 - 1 by omega)
    omega
  · have e : (n : Int).toNat = n := rfl
    rw [e]
    unfold Builtin.Str.tooLong
    exact decide_eq_false (by omega)
  · rw [if_neg hn, hb, if_neg Bool.false_ne_true]
    have e : (n : Int).toNat = n := rfl
    rw [e, f0]
    exact ⟨by rw [hl]; rw [Nat.mul_comm]; exact hsz, .str _, H, I.tok _, ⟨_, rfl⟩, q⟩
end
/-! ### math.factorial, math.comb -/
def facN : Nat → Nat
  | 0 => 1
  | n + 1 => facN n * (n + 1)
theorem fac_eq : ∀ n : Nat, Builtin.Math.factorialNat n = facN n
  | 0 => rfl
  | n + 1 => by
    have e : Builtin.Math.factorialNat (n + 1) = Builtin.Math.factorialNat n * (n + 1) := by
      unfold Builtin.Math.factorialNat
      rw [List.range_succ, List.foldl_append]
      rfl
    rw [e, fac_eq n]
    rfl
theorem fac_lt : ∀ n : Nat, n ≤ 1000 → facN n < 2 ^ (10 * n + 1)
  | 0, _ => by decide
  | n + 1, h => by
    have z := fac_lt n (by omega)
    have e : 10 * (n + 1) + 1 = (10 * n + 1) + 10 := by omega
    show facN n * (n + 1) < _
    rw [e, Nat.pow_add]
    exact Nat.mul_lt_mul_of_lt_of_le z (by have : (2 : Nat) ^ 10 = 1024 := by decide
                                           omega) (by decide)
def rFac : List V → Hp → VK → Prop := fun vs H Q => ∃ n : Nat, vs = [.int (n : Int)] ∧ n ≤ 1000 ∧ Q (.int ((facN n : Nat) : Int)) H
theorem cr_fac {X : Cx} : CallR X (.builtin "math.factorial") rFac := by
  intro pins s σ H vs us Q I r h
  obtain ⟨n, rfl, hn, q⟩ := h
  obtain ⟨u, rfl, t, rfl⟩ := vals1 r
  have hl := fac_lt n hn
  have e : Builtin.Math.factorialNat (n : Int).toNat = facN n := fac_eq n
  refine PySem.W.mg_factorial (by show ¬ (n : Int) > 2 ^ 63 - 1; omega) (by omega) (by show ¬ (n : Int) > 20000; omega) ?_ ?_
  · rw [e]
    show (facN n).log2 < bitsLine
    have b := PySem.Flt.log2_lt_of (by omega : 0 < 10 * n + 1) hl
    have e2 : bitsLine = 134217728 := by decide
    rw [e2]
    omega
  · rw [e]
    exact ⟨.int _, H, I.tok _, ⟨_, rfl⟩, q⟩
/-! ### lists of great ints as text -/
theorem shown_big {ns : List Int} (hb : ∀ n ∈ ns, n.natAbs.log2 < 1920) (hl : ns.length ≤ 40) : (dI ns).shown.length ≤ sizeLine := by
  show (textFrom 0 "[" (PyData.shownAll (ns.map PyData.int)) ++ ("]" : Str)).length ≤ sizeLine
  rw [Str.length_append]
  have z := textFrom_le (PyData.shownAll (ns.map PyData.int)) 0 "[" 1921 (fun t ht => by
    obtain ⟨n, hn, e⟩ := shownAll_mem ns t ht
    rw [e]
    exact PyProof.Rows.int_text_len_1921 (hb n hn))
  rw [shownAll_len] at z
  have e1 : ("[" : Str).length = 1 := rfl
  have e2 : ("]" : Str).length = 1 := rfl
  rw [e1] at z
  rw [e2]
  exact zs (by omega)
theorem rrepr_big {K : PySem.W.Frag} {H : Hp} {a : Addr} {ns : List Int} {Q : VK} (hS : SqL K H a (ns.map V.int)) (hb : ∀ n ∈ ns, n.natAbs.log2 < 1920) (hl : ns.length ≤ 40) (q : Q (.str (dI ns).shown) H) : rRepr K [.ref a] H Q :=
  ⟨a, dI ns, rfl, dp_ints hS, show_ints ns hb, noDict_ints ns, rI2 ns, shown_big hb hl, q⟩
theorem log_nat {n k : Nat} (h : n < 2 ^ k) (h0 : 0 < k) (hk : k ≤ 1920) : ((n : Nat) : Int).natAbs.log2 < 1920 := Nat.lt_of_lt_of_le (PySem.Flt.log2_lt_of h0 (show ((n : Nat) : Int).natAbs < 2 ^ k from h)) hk
end Lp
set_option Elab.async false
set_option linter.all false
set_option maxRecDepth 100000
namespace Lp
open PySem PySem.Spec PyProof.Rows L2
theorem filtG {α : Type} {l : List α} {f : α → Bool} {i : Nat} {e : α} (he : l[i]? = some e) : (l.take (i + 1)).filter f = (l.take i).filter f ++ (if f e = true then [e] else []) := by
  rw [take_get he, List.filter_append]
  congr 1
  simp only [List.filter_cons, List.filter_nil]
theorem filtG_len {α : Type} {l : List α} {f : α → Bool} (i : Nat) : ((l.take i).filter f).length ≤ l.length := Nat.le_trans (List.length_filter_le _ _) (by rw [List.length_take]; exact Nat.min_le_right _ _)
theorem inVI (x : Int) : ∀ ns : List Int, inV (.int x) (ns.map V.int) = decide (x ∈ ns)
  | [] => rfl
  | n :: r => by
    show (eqV (.int n) (.int x) || inV (.int x) (r.map V.int)) = _
    rw [inVI x r]
    show ((n == x) || decide (x ∈ r)) = _
    by_cases e : n = x
    · subst e
      simp
    · have e' : ¬ x = n := fun z => e z.symm
      simp [e, e']
theorem flatI (ns : List Int) : (ns.map V.int).all flatV = true := by
  rw [List.all_eq_true]
  intro v hv
  obtain ⟨n, _, rfl⟩ := List.mem_map.mp hv
  rfl
theorem notInT {x : Int} {ns : List Int} (h : x ∉ ns) : V.bl (if true = true then !inV (.int x) (ns.map V.int) else inV (.int x) (ns.map V.int)) = V.bl true := by
  rw [if_pos rfl, inVI, decide_eq_false h]
  rfl
theorem notInF {x : Int} {ns : List Int} (h : x ∈ ns) : V.bl (if true = true then !inV (.int x) (ns.map V.int) else inV (.int x) (ns.map V.int)) = V.bl false := by
  rw [if_pos rfl, inVI, decide_eq_true h]
  rfl

/-! ### rows of ints in the heap -/
def RowsR (H : Hp) (rs : List V) (rows : List (List Int)) : Prop := rs.length = rows.length ∧ ∀ (i : Nat) (row : List Int), rows[i]? = some row → ∃ a, rs[i]? = some (.ref a) ∧ H a = some (.lst (row.map V.int))
theorem RowsR.same {H H' : Hp} {rs : List V} {rows : List (List Int)} (h : RowsR H rs rows) (s : Same H H') : RowsR H' rs rows := ⟨h.1, fun i row e => by
  obtain ⟨a, b, c⟩ := h.2 i row e
  exact ⟨a, b, s _ _ c⟩⟩
theorem RowsR.upd {H : Hp} {rs : List V} {rows : List (List Int)} {q : Addr} {o : HO} (h : RowsR H rs rows) (n : V.ref q ∉ rs) : RowsR (upd H q o) rs rows := ⟨h.1, fun i row e => by
  obtain ⟨a, b, c⟩ := h.2 i row e
  have ne : a ≠ q := fun z => n (by rw [← z]; exact List.mem_of_getElem? b)
  refine ⟨a, b, ?_⟩
  rw [upd_ne ne]
  exact c⟩
theorem RowsR.nil (H : Hp) : RowsR H [] [] := ⟨rfl, fun i row e => by simp at e⟩
theorem RowsR.app {H : Hp} {rs ss : List V} {rows sows : List (List Int)} (h : RowsR H rs rows) (g : RowsR H ss sows) : RowsR H (rs ++ ss) (rows ++ sows) := by
  refine ⟨by rw [List.length_append, List.length_append, h.1, g.1], fun i row e => ?_⟩
  by_cases hi : i < rows.length
  · rw [List.getElem?_append_left hi] at e
    rw [List.getElem?_append_left (by rw [h.1]; exact hi)]
    exact h.2 i row e
  · rw [List.getElem?_append_right (by omega)] at e
    rw [List.getElem?_append_right (by rw [h.1]; omega), h.1]
    exact g.2 _ row e
theorem RowsR.one {H : Hp} {a : Addr} {row : List Int} (h : H a = some (.lst (row.map V.int))) : RowsR H [.ref a] [row] := ⟨rfl, fun i r e => by
  cases i with
  | zero => cases e; exact ⟨a, rfl, h⟩
  | succ i => simp at e⟩
theorem RowsR.dp {K : PySem.W.Frag} {H : Hp} : ∀ {rs : List V} {rows : List (List Int)}, RowsR H rs rows → DpAll K H rs (rows.map dI)
  | [], [], _ => .nil
  | [], _ :: _, h => absurd h.1 (by simp)
  | _ :: _, [], h => absurd h.1 (by simp)
  | v :: rs, r :: rows, h => by
    obtain ⟨a, b, c⟩ := h.2 0 r rfl
    have e : v = .ref a := Option.some.inj b
    subst e
    exact .cons (dp_ints (.of c)) (RowsR.dp ⟨Nat.succ.inj h.1, fun i row e => h.2 (i + 1) row e⟩)
theorem flatMap_take_len {α β : Type} {f : α → List β} (l : List α) (j : Nat) : ((l.take j).flatMap f).length ≤ (l.flatMap f).length := by
  have e : l.flatMap f = (l.take j).flatMap f ++ (l.drop j).flatMap f := by rw [← List.flatMap_append, List.take_append_drop]
  rw [e, List.length_append]
  omega
theorem flatMap_take_succ {α β : Type} {f : α → List β} {l : List α} {j : Nat} {x : α} (h : l[j]? = some x) : (l.take (j + 1)).flatMap f = (l.take j).flatMap f ++ f x := by
  rw [take_get h, List.flatMap_append]
  simp
end Lp
set_option Elab.async false
set_option linter.all false
set_option maxRecDepth 100000
namespace Lp
open PySem PySem.Spec PyProof.Rows L2
theorem rgc_two (n : Nat) (h : n ≤ 1000) : RgC 1 (2 * (n : Int)) 2 n := by
  have hs : Builtin.Range.rangeSize 1 (2 * (n : Int)) 2 = (n : Int) := by
    unfold Builtin.Range.rangeSize
    rw [if_pos (by decide)]
    by_cases h0 : n = 0
    · subst h0
      rw [if_neg (by omega)]
      rfl
    · rw [if_pos (by omega)]
      omega
  refine ⟨by decide, by decide, ?_, hs⟩
  unfold Builtin.Range.small
  rw [hs]
  have f : ∀ z : Int, -1000000 ≤ z → z ≤ 1000000 → Builtin.Range.rangeFitsLong z = true := fun z a b => by
    unfold Builtin.Range.rangeFitsLong
    rw [decide_eq_true (show -2 ^ 63 ≤ z by omega), decide_eq_true (show z < 2 ^ 63 by omega)]
    rfl
  rw [f 1 (by decide) (by decide), f (2 * (n : Int)) (by omega) (by omega), f 2 (by decide) (by decide), f (n : Int) (by omega) (by omega), if_pos (by decide), f (2 * (n : Int) + (2 - 1)) (by omega) (by omega), Bool.or_true]
  rfl
/-! ### lists of objects in the heap -/
def ObjR {α : Type} (o : α → HO) (H : Hp) (rs : List V) (l : List α) : Prop := rs.length = l.length ∧ ∀ (i : Nat) (x : α), l[i]? = some x → ∃ a, rs[i]? = some (.ref a) ∧ H a = some (o x)
section
variable {α : Type} {o : α → HO} {H H' : Hp} {rs ss : List V} {l m : List α}
theorem ObjR.same (h : ObjR o H rs l) (s : Same H H') : ObjR o H' rs l := ⟨h.1, fun i x e => by
  obtain ⟨a, b, c⟩ := h.2 i x e
  exact ⟨a, b, s _ _ c⟩⟩
theorem ObjR.upd {q : Addr} {u : HO} (h : ObjR o H rs l) (n : V.ref q ∉ rs) : ObjR o (upd H q u) rs l := ⟨h.1, fun i x e => by
  obtain ⟨a, b, c⟩ := h.2 i x e
  have ne : a ≠ q := fun z => n (by rw [← z]; exact List.mem_of_getElem? b)
  refine ⟨a, b, ?_⟩
  rw [upd_ne ne]
  exact c⟩
theorem ObjR.nil : ObjR o H [] [] := ⟨rfl, fun i x e => by simp at e⟩
theorem ObjR.app (h : ObjR o H rs l) (g : ObjR o H ss m) : ObjR o H (rs ++ ss) (l ++ m) := by
  refine ⟨by rw [List.length_append, List.length_append, h.1, g.1], fun i x e => ?_⟩
  by_cases hi : i < l.length
  · rw [List.getElem?_append_left hi] at e
    rw [List.getElem?_append_left (by rw [h.1]; exact hi)]
    exact h.2 i x e
  · rw [List.getElem?_append_right (by omega)] at e
    rw [List.getElem?_append_right (by rw [h.1]; omega), h.1]
    exact g.2 _ x e
theorem ObjR.one {a : Addr} {x : α} (h : H a = some (o x)) : ObjR o H [.ref a] [x] := ⟨rfl, fun i r e => by
  cases i with
  | zero => cases e; exact ⟨a, rfl, h⟩
  | succ i => simp at e⟩
end
theorem rep_one (b : Bool) (v : V) : (List.replicate (if b = true then (1 : Int) else 0).toNat [v]).flatten = if b = true then [v] else [] := by cases b <;> rfl
theorem rep_sz (b : Bool) (v : V) : [v].length * (if b = true then (1 : Int) else 0).toNat ≤ sizeLine := by
  cases b
  · exact Nat.zero_le _
  · exact Lp.zs (show 1 * 1 ≤ 100000 by decide)
theorem ifs_len (b : Bool) (v : V) : (if b = true then [v] else []).length ≤ 1 := by
  cases b
  · exact Nat.zero_le _
  · exact Nat.le_refl _
theorem ints_get {ns : List Int} {i : Nat} {n : Int} (h : ns[i]? = some n) : (ns.map V.int)[i]? = some (.int n) := by rw [List.getElem?_map, h]; rfl
end Lp
set_option Elab.async false
set_option linter.all false
set_option maxRecDepth 100000
namespace Lp
open PySem PySem.Spec PyProof.Rows L2
/-! ### lists of ints, by < -/
theorem firstLt_map (e r : Nat → Bool) (fin : Bool) (f : Nat → Nat) : ∀ l : List Nat, SeqAt.firstLt e r fin (l.map f) = SeqAt.firstLt (fun j => e (f j)) (fun j => r (f j)) fin l
  | [] => rfl
  | j :: t => by
    show (if e (f j) = true then SeqAt.firstLt e r fin (t.map f) else r (f j)) = (if e (f j) = true then SeqAt.firstLt (fun j => e (f j)) (fun j => r (f j)) fin t else r (f j))
    rw [firstLt_map e r fin f t]
theorem first_lex : ∀ ns ms : List Int, SeqAt.firstLt (fun j => ns.getD j 0 == ms.getD j 0) (fun j => decide (ns.getD j 0 < ms.getD j 0)) (decide (ns.length < ms.length)) (List.range (min ns.length ms.length)) = HT.lexLt ns ms
  | [], [] => rfl
  | [], _ :: _ => rfl
  | _ :: _, [] => rfl
  | n :: ns, m :: ms => by
    have e : min (n :: ns).length (m :: ms).length = min ns.length ms.length + 1 := by
      simp only [List.length_cons]
      omega
    have e2 : decide ((n :: ns).length < (m :: ms).length) = decide (ns.length < ms.length) := decide_eq_decide.mpr (by simp only [List.length_cons]; omega)
    rw [e, e2, List.range_succ_eq_map]
    show (if (n == m) = true then SeqAt.firstLt _ _ _ ((List.range (min ns.length ms.length)).map Nat.succ) else decide (n < m)) = if n = m then HT.lexLt ns ms else decide (n < m)
    rw [firstLt_map]
    by_cases h : n = m
    · rw [if_pos (beq_iff_eq.mpr h), if_pos h]
      exact first_lex ns ms
    · rw [if_neg (fun z => h (beq_iff_eq.mp z)), if_neg h]
def IsLs (h : Heap) (v : Value) (ns : List Int) : Prop := ∃ (a : Addr) (items : List Value), v = .ref a ∧ h.IsList a items.toArray ∧ IntsAre items ns
theorem IsLs.keeps {h h' : Heap} {v : Value} {ns : List Int} (x : IsLs h v ns) (k : ∀ b o, v = .ref b → h.get? b = some o → h'.get? b = some o) : IsLs h' v ns := by
  obtain ⟨a, its, rfl, ⟨o, ho, hc, n, hd⟩, hi⟩ := x
  exact ⟨a, its, rfl, ⟨o, k a o rfl ho, hc, n, hd⟩, hi⟩
theorem ints_at : ∀ {us : List Value} {ns : List Int}, IntsAre us ns → ∀ j (h : j < us.length), ∃ t, us[j] = .int (ns.getD j 0) t
  | _, _, .cons n t r, 0, _ => ⟨t, rfl⟩
  | _, _, .cons n t r, j + 1, h => by
    obtain ⟨u, e⟩ := ints_at r j (Nat.lt_of_succ_lt_succ h)
    exact ⟨u, e⟩
section
variable {prog : Program} {w : World} {A : Around} {E : Value → Shared → Prop} {s : Shared}
theorem rcLt_int (A : Around) (s : Shared) (a : Int) (t : Tok) (b : Int) (u : Tok) : SeqAt.RcLt A s (.int a t) (.int b u) (decide (a < b)) := fun prog w E Q h => by
  have z : wpAny (model prog w) A (compareOp .Lt (.int a t) (.int b u)) Q E s := lt_int h
  exact z
theorem lt_ls {v u : Value} {ns ms : List Int} {Q : Bool → Shared → Prop} (hu : A.units < cLine) (hv : IsLs s.heap v ns) (hw : IsLs s.heap u ms) (h : Q (HT.lexLt ns ms) s) : wpAny (model prog w) A (keyLt' oneType' v u) Q E s := by
  obtain ⟨a, its, rfl, la, ia⟩ := hv
  obtain ⟨b, its2, rfl, lb, ib⟩ := hw
  have l1 := ia.length
  have l2 := ib.length
  rw [keyLt'_oneType, oneLt'_eq]
  simp only [if_true]
  refine wpAny_bind (wpAny_cRoomFor hu ?_)
  refine wpAny_bind (wpAny_callSpecialIfBound?_slot la.typeIs PySem.F.slot_list_lt (SeqAt.call_list_lt (e := fun j => ns.getD j 0 == ms.getD j 0) (r := fun j => decide (ns.getD j 0 < ms.getD j 0)) la lb (fun j h1 h2 => ?_) (fun j h1 h2 _ => ?_) ?_))
  · obtain ⟨t, e⟩ := ints_at ia j (by simpa using h1)
    obtain ⟨t', e'⟩ := ints_at ib j (by simpa using h2)
    rw [List.getElem_toArray, List.getElem_toArray, e, e']
    exact SeqAt.EqAt.int_int _ t _ t'
  · obtain ⟨t, e⟩ := ints_at ia j (by simpa using h1)
    obtain ⟨t', e'⟩ := ints_at ib j (by simpa using h2)
    rw [List.getElem_toArray, List.getElem_toArray, e, e']
    exact rcLt_int _ _ _ t _ t'
  · rw [List.size_toArray, List.size_toArray, l1, l2, first_lex]
    exact wpAny_truthy_bool h
theorem ls_cmp {vs : List Value} {k : Value → List Int} (hu : A.units < cLine) (hv : ∀ v ∈ vs, IsLs s.heap v (k v)) : SrtO.Cmp prog w A s oneType' (fun p => p.1 ∈ vs) (SrtO.lt2 fun v u => HT.lexLt (k v) (k u)) := by
  intro p q hp hq
  exact lt_ls (Q := fun r s' => s' = s ∧ r = HT.lexLt (k p.1) (k q.1)) (E := fun _ _ => False) hu (hv p.1 hp) (hv q.1 hq) ⟨rfl, rfl⟩
theorem ls_sortable {a : Addr} {vs : List Value} {k : Value → List Int} (h2 : 2 ≤ vs.length) (hu : A.units < cLine) (hv : ∀ v ∈ vs, IsLs s.heap v (k v)) (ha : ∀ v ∈ vs, v ≠ .ref a) :
    SrtO.SortableO prog w A s a vs fun v u => HT.lexLt (k v) (k u) := by
  intro h' keep
  have hv' : ∀ v ∈ vs, IsLs h' v (k v) := fun v hm => (hv v hm).keeps fun b o e g => keep b o (fun z => ha v hm (by rw [e, z])) g
  refine ⟨oneType', fun Q E hq => ?_, ls_cmp (s := { s with heap := h' }) hu hv'⟩
  refine PySem.W.kas_kind (s := { s with heap := h' }) (T := .type "list") h2 (fun v hm => ?_) (by rfl) (by simp) hq
  obtain ⟨a, its, rfl, ⟨o, ho, hc, n, hd⟩, hi⟩ := hv' v hm
  rw [← hc]
  exact (PySem.W.Looks.ld ho).andThen .now
end
/-- sorted(xs), xs a list of lists of ints of any length (k says which) -/
def rSortedLL (K : PySem.W.Frag) : List V → Hp → VK → Prop := fun vs H Q => ∃ (a : Addr) (xs : List V) (k : V → List Int), vs = [V.ref a] ∧ SqL K H a xs ∧ (∀ x ∈ xs, ∃ t, x = V.ref t ∧ SqL K H t ((k x).map V.int)) ∧
  ∀ ys p, ys.Perm xs → ys.Pairwise (fun x y => HT.lexLt (k y) (k x) = false) → H p = none → Q (.ref p) (upd H p (.lst ys))
theorem cr_sortedLL {X : Cx} (hu : X.A.units + 64 < cLine) : CallR X (.builtin "sorted") (rSortedLL X.K) := by
  intro pins s σ H vs us Q I r h
  obtain ⟨a, xs, k, rfl, hs, hx, q⟩ := h
  obtain ⟨its, rv, hl, hz⟩ := I.list hs
  obtain ⟨u, rfl, ru⟩ := vals1 r
  obtain rfl : u = Value.ref a := ru
  obtain ⟨e1, e2⟩ := refs_back rv fun x m => by
    obtain ⟨t, e, _⟩ := hx x m
    exact ⟨t, e⟩
  have hv : ∀ v ∈ its, IsLs s.heap v (k (backV v)) := fun v hv => by
    obtain ⟨t, rfl⟩ := e2 v hv
    have hm : V.ref t ∈ xs := by rw [e1]; exact List.mem_map.mpr ⟨_, hv, rfl⟩
    obtain ⟨t', e, ht⟩ := hx _ hm
    cases e
    obtain ⟨its2, r2, l2, _⟩ := I.list ht
    exact ⟨t, its2, rfl, l2.isList, r2.ints⟩
  refine SrtO.sorted_ord (NtL.swo_lexL fun u => k (backV u)) hl.isList (by rw [← rv.length]; exact hz) (fun h2 h₁ a' g keep => ls_sortable h2 (by show X.A.units + 1 + 1 < cLine; omega) (fun v hm => (hv v hm).keeps fun b o _ g => (keep b o g).2) fun v hm z => ?_) fun out h1 h2 => ?_
  · obtain ⟨b, its3, e, ⟨o, ho, _⟩, _⟩ := hv v hm
    rw [z] at e
    cases e
    exact (keep _ o ho).1 rfl
  · have h3 : ∀ u ∈ out, ∃ a, u = Value.ref a := fun u hu => e2 u (h2.perm.mem_iff.mp hu)
    obtain ⟨ep, he'⟩ := PyProof.Rows.sortedAll_at s.heap its out.toArray
    have hp : (out.map backV).Perm xs := by
      rw [e1]
      exact h2.perm.map backV
    have hlen : (out.map backV).length ≤ sizeLine := by
      rw [hp.length_eq]
      exact hz
    exact ⟨.ref _, upd H (s.heap.objs.size + 1) (.lst (out.map backV)), I.laid (t' := s.toks) (fun _ _ => PyProof.Rows.sortedAll_old) (Nat.le_succ _) ⟨hlen, out, ep, vals_back h3, he'⟩, rfl, q _ _ hp (List.pairwise_map.mpr (h1.imp fun {x y} z => z)) (I.hok.fresh (Nat.le_succ _))⟩
end Lp
set_option Elab.async false
set_option linter.all false
set_option maxRecDepth 100000
namespace Lp
open PySem PySem.Spec PyProof.Rows L2
theorem all_bounds (n : Nat) : PySem.sliceBounds none none none n = (0, (n : Int), 1) := by
  simp [PySem.sliceBounds]
section
variable {prog : Program} {w : World} {A : Around} {E : Value → Shared → Prop} {s : Shared}
/-- xs[:] = ys -/
theorem whole_set {p q z : Addr} {old new : Array Value} {n1 n2 : Nat} {R : Unit → Shared → Prop} (hp : s.heap.get? p = some { cls := .type "list", data := .seq old n1 }) (hq : s.heap.get? q = some { cls := .type "list", data := .seq new n2 })
    (npq : p ≠ q) (hz : s.heap.IsSliceOf z .none .none .none) (fit : old.size + new.size ≤ sizeLine) (h : R () { s with heap := s.heap.update p (Obj.mapSeq fun xs => xs.extract 0 0 ++ new ++ xs.extract old.size xs.size) }) :
    wpAny (model prog w) A (setItem (.ref p) (.ref z) (.ref q)) R E s := by
  have tp : s.heap.IsList p old := PySem.IsL.isList hp
  have tq : s.heap.IsList q new := PySem.IsL.isList hq
  obtain ⟨oz, goz, coz, doz⟩ := id hz
  have tz : s.TypeIs (.ref z) "slice" := ⟨oz, goz, coz⟩
  have noZero : ¬ ((rawPart none == rawInt 0) = true) := Bool.false_ne_true
  have two : Builtin.List.listSameRef (.ref p) (.ref q) = false := by unfold Builtin.List.listSameRef; exact beq_eq_false_iff_ne.mpr npq
  have upper : (max (0 : Int) (old.size : Int)).toNat = old.size := by omega
  have fit' : ((fun xs : Array Value => xs.extract 0 0 ++ new ++ xs.extract old.size xs.size) old).size ≤ sizeLine + 1 := by simp only [Array.size_append, Array.size_extract]; omega
  unfold setItem; try with_reducible refine wpAny_holding ?_
  first | refine wpAny_bind (wpAny_pure ?_) | skip
  refine wpAny_bind (wpAny_sequenceKey tp.typeIs (by decide) (wpAny_bind (wpAny_callSpecial?_slot (name := Str.ofString "__setitem__") tp.typeIs slot_list_setitem (wpAny_call_entry slot_list_setitem tp.typeIs entry_list_setitem ?_ (args_list_setitem _ _ _)))))
  show wpAny _ _ (Builtin.List.listSubscript? (.ref z) >>= _) _ _ s
  refine wpAny_bind ?_
  unfold Builtin.List.listSubscript?
  refine wpAny_bind (wpAny_specialOf tz slice_no_index ?_)
  simp only [Option.isNone_none, if_true]
  refine wpAny_pure (?_ : wpAny _ _ (typeOf (.ref z) >>= _) _ _ s)
  refine wpAny_bind (wpAny_typeOf tz ?_)
  first | rw [if_neg (by decide)] | refine PySem.W.KFB.if_not (by decide) ?_
  rw [listSliceParts_eq]
  refine wpAny_bind (wpAny_bind (wpAny_field goz doz (x := .none) rfl (wpAny_bind (wpAny_listPart .none (?_ : wpAny _ _ _ _ _ _)))))
  rw [if_neg noZero]
  refine wpAny_bind (wpAny_field goz doz (x := .none) rfl (wpAny_bind (wpAny_listPart .none (wpAny_bind (wpAny_field goz doz (x := .none) rfl (wpAny_bind (wpAny_listPart .none (wpAny_pure ?_))))))))
  first | simp only [two, Bool.false_eq_true, if_false] | refine PySem.W.KFB.if_not two ?_ | (dsimp only; rw [if_neg (by rw [two]; exact Bool.false_ne_true)])
  refine wpAny_bind (m := Builtin.List.listAllItems (.ref q) "must assign iterable to extended slice") ?_
  unfold Builtin.List.listAllItems; refine wpAny_bind (wpAny_typeOf tq.typeIs ?_)
  first | refine PySem.W.KFB.if_so (by decide) ?_ | rw [if_pos (by decide)] | simp only [beq_self_eq_true, Bool.true_or, if_true]
  unfold Builtin.List.listItems; refine wpAny_bind (wpAny_seqItems hq rfl (wpAny_pure (wpAny_bind (wpAny_bind (wpAny_seqItems hp rfl (wpAny_pure ?_))))))
  refine wpAny_bind (wpAny_of_eq ((sliceIndices_raw none none none old.size (by simp)).trans (congrArg (pure : Int × Int × Int → Sem (Int × Int × Int)) (all_bounds old.size))) ?_)
  show wpAny _ _ (if ((1 : Int) == 1) = true then _ else _) _ _ s
  rw [if_pos (by decide)]; refine wpAny_bind (wpAny_rule ?_)
  first | simp only [notLongL fit, Bool.false_eq_true, if_false] | refine PySem.W.KFB.if_not (notLongL fit) ?_
  first | refine wpAny_bind (wpAny_pure ?_) | skip
  show wpAny _ _ (updateSeq p (fun xs => xs.extract 0 ((0 : Int)).toNat ++ new ++ xs.extract (max (0 : Int) (old.size : Int)).toNat xs.size) >>= _) _ _ s
  rw [upper]; refine wpAny_bind (wpAny_updateSeq (hz := Nat.le_trans (Nat.le_add_right _ _) fit) (_hz' := fit') hp rfl (wpAny_bind (wpAny_letGo ?_)))
  first | exact wpAny_bind (wpAny_pure (wpAny_pure ⟨.none, rfl, wpAny_pure h⟩)) | exact wpAny_pure ⟨.none, rfl, wpAny_pure h⟩
end
/-- the slice object of [:] -/
def SlO (a : Addr) : HO := .ext fun h => h.IsSliceOf a .none .none .none
section
variable {X : Cx} {pos : Pos}
def tSlAll : TE := fun _ H Q => ∀ p, H p = none → Q (.ref p) (upd H p (SlO p))
theorem pe_slAll : PE X (.Slice none none none pos) tSlAll := by
  refine ⟨fun pins s σ H Q I h => ?_⟩
  refine wpAny_Slice ?_
  rw [evalPart_none]
  refine wpAny_pure (wpAny_pure (wpAny_pure ?_))
  refine ⟨.ref s.heap.objs.size, upd H s.heap.objs.size (SlO s.heap.objs.size), I.laid (t' := s.toks) (fun b ob q => Heap.get?_push_of_some _ q) (Nat.le_refl _) ⟨Heap.IsSliceOf.new .., ⟨_, Heap.get?_push_size s.heap rfl⟩, fun h1 h2 x k => ?_⟩, rfl, h _ (I.hok.fresh (Nat.le_refl _))⟩
  obtain ⟨o, e, c, d⟩ := x
  exact ⟨o, k o e, c, d⟩
def sAll : TSet := fun x y z H Q => ∃ (l b sl : Addr) (xs ys : List V), x = .ref l ∧ y = .ref sl ∧ z = .ref b ∧ H sl = some (SlO sl) ∧ H l = some (.lst xs) ∧ H b = some (.lst ys) ∧ l ≠ b ∧ xs.length + ys.length ≤ sizeLine ∧ Q (upd H l (.lst ys))
theorem set_all : PSet X sAll := by
  intro pins s σ H o i v ov iv u Q I r1 r2 r3 h
  obtain ⟨l, b, sl, xs, ys, rfl, rfl, rfl, hsl, hl, hb, ne, hz, q⟩ := h
  cases r1
  cases r2
  cases r3
  obtain ⟨z, its, n, r, el, e⟩ := I.lstM hl
  obtain ⟨z2, its2, n2, r', el2, e2⟩ := I.lstM hb
  have os : ObjOk X.prog X.w H s.heap sl (SlO sl) := I.hok sl _ hsl
  refine whole_set e e2 ne os.1 (by rw [List.size_toArray, List.size_toArray]; omega) ⟨_, I.lset (its' := its2) (t' := s.toks) hl e ?_ r' (by omega), q⟩
  apply Array.toList_inj.mp
  simp
/-- xs[..] = as a target, a slice without a step -/
theorem pg_slAll {o i : Expr} {to ti : TE} {t : TSet} (ho : PE X o to) (hi : PE X i ti) (hs : PSet X t)
    (ha : ∀ v, assign (.Subscript o i pos) X.env v = (holding [v] (eval o X.env) >>= fun ov => holding [v, ov] (eval i X.env) >>= fun iv => standAt pos >>= fun _ => holding [v, ov, iv] (setItem ov iv v) >>= fun _ => release [iv, v, ov] []) := by intro _; rfl) : PG X (.Subscript o i pos) (gSub to ti t) := by
  refine ⟨fun pins s σ H v u Q I r h => ?_⟩
  rw [ha u]
  refine wpAny_bind (wpAny_holding (thn (ho.run pins s σ H _ I h) fun ov sA ⟨x, HA, IA, rA, qA⟩ => wpAny_bind (wpAny_holding (thn (hi.run pins sA σ HA _ IA qA) fun iv sB ⟨y, HB, IB, rB, qB⟩ =>
    wpAny_bind (wpAny_standAt (wpAny_bind (wpAny_holding (thn (hs pins sB σ HB x y v ov iv u _ IB rA rB r qB) fun _ sC ⟨HC, IC, qC⟩ => wpAny_release ⟨σ, HC, IC, qC⟩))))))))
end
end Lp
set_option Elab.async false
set_option linter.all false
set_option maxRecDepth 100000
namespace Lp
open PySem PySem.Calls
theorem comb_entry : entryFor table "math.comb" = some Builtin.«math.comb» := entryFor_of_tree (by kernel_rfl)
theorem comb_kind : builtinKind "math.comb" = none := by kernel_rfl
theorem comb_plain : plainId "math.comb" = true := by decide +kernel
theorem comb_args (a b : Value) : argsOk "math.comb" ⟨[a, b], []⟩ := by unfold argsOk; kernel_rfl
theorem comb_run (a : Int) (t : Tok) (b : Int) (u : Tok) (h0 : ¬ a < 0) (h1 : ¬ b < 0) (h2 : ¬ b > a) (h3 : ¬ min b (a - b) > Builtin.Math.maxSsize) (h4 : ¬ min b (a - b) > Builtin.Math.manyFactors) (h5 : ¬ min b (a - b) > 9000)
    (hs : (Builtin.Math.fallingProduct a (min b (a - b)).toNat / Builtin.Math.fallingProduct (min b (a - b)) (min b (a - b)).toNat).natAbs.log2 < bitsLine) :
    Gives (Builtin.«math.comb» ⟨[.int a t, .int b u], []⟩) (.int (Builtin.Math.fallingProduct a (min b (a - b)).toNat / Builtin.Math.fallingProduct (min b (a - b)) (min b (a - b)).toNat)) :=
  .of_wp fun M A E s Q h => by obtain ⟨hp, g, d, tk, os⟩ := s; wp_walk; (try (refine wpAny_ite_false (decide_eq_false (Nat.not_le.mpr hs)) ?_; wp_walk)); exact ⟨_, rfl, h⟩
end Lp
namespace Lp
open PySem PySem.Spec PySem.Calls PyProof.Rows L2
/-! ### binomial coefficients -/
theorem facN_pos' : ∀ n, 0 < facN n
  | 0 => by decide
  | n + 1 => Nat.mul_pos (facN_pos' n) (Nat.succ_pos n)
def chN (n k : Nat) : Nat := facN n / (facN k * facN (n - k))
def chP : Nat → Nat → Nat
  | _, 0 => 1
  | 0, _ + 1 => 0
  | n + 1, k + 1 => chP n k + chP n (k + 1)
theorem chP_zero (n : Nat) : chP n 0 = 1 := by cases n <;> rfl
theorem chP_gt : ∀ n k, n < k → chP n k = 0
  | 0, k + 1, _ => rfl
  | n + 1, k + 1, h => by
    show chP n k + chP n (k + 1) = 0
    rw [chP_gt n k (by omega), chP_gt n (k + 1) (by omega)]
theorem chP_self : ∀ n, chP n n = 1
  | 0 => rfl
  | n + 1 => by
    show chP n n + chP n (n + 1) = 1
    rw [chP_self n, chP_gt n (n + 1) (by omega)]
theorem chP_fac : ∀ n k, k ≤ n → chP n k * (facN k * facN (n - k)) = facN n
  | n, 0, _ => by
    rw [chP_zero, Nat.sub_zero]
    show 1 * (1 * facN n) = facN n
    rw [Nat.one_mul, Nat.one_mul]
  | n + 1, k + 1, h => by
    show (chP n k + chP n (k + 1)) * (facN k * (k + 1) * facN (n + 1 - (k + 1))) = facN n * (n + 1)
    have e : n + 1 - (k + 1) = n - k := by omega
    rw [e]
    have a := chP_fac n k (by omega)
    rcases Nat.lt_or_ge k n with hk | hk
    · have b := chP_fac n (k + 1) (by omega)
      have b2 : facN (n - k) = facN (n - (k + 1)) * (n - k) := by
        have e2 : n - k = (n - (k + 1)) + 1 := by omega
        rw [e2]
        rfl
      have x1 : chP n k * (facN k * (k + 1) * facN (n - k)) = facN n * (k + 1) := by
        rw [← a]
        simp only [Nat.mul_assoc, Nat.mul_comm, Nat.mul_left_comm]
      have x2 : chP n (k + 1) * (facN k * (k + 1) * facN (n - k)) = facN n * (n - k) := by
        rw [← b, b2]
        show _ = chP n (k + 1) * (facN k * (k + 1) * facN (n - (k + 1))) * (n - k)
        simp only [Nat.mul_assoc, Nat.mul_comm, Nat.mul_left_comm]
      rw [Nat.add_mul, x1, x2, ← Nat.mul_add]
      congr 1
      omega
    · have ek : k = n := by omega
      subst ek
      have x : chP k k * (facN k * (k + 1) * facN (k - k)) = chP k k * (facN k * facN (k - k)) * (k + 1) := by
        simp only [Nat.mul_assoc, Nat.mul_comm, Nat.mul_left_comm]
      rw [chP_gt k (k + 1) (by omega), Nat.add_zero, x, a]
theorem ch_eq {n k : Nat} (h : k ≤ n) : chN n k = chP n k := by
  unfold chN
  rw [← chP_fac n k h]
  exact Nat.mul_div_cancel _ (Nat.mul_pos (facN_pos' k) (facN_pos' _))
theorem ch_sym {n k : Nat} (h : k ≤ n) : chN n (n - k) = chN n k := by
  unfold chN
  have e : n - (n - k) = k := by omega
  rw [e, Nat.mul_comm]
theorem ch_le (n k : Nat) : chN n k ≤ facN n := Nat.div_le_self _ _
theorem fall_fac (n : Nat) : ∀ k, k ≤ n → Builtin.Math.fallingProduct (n : Int) k * ((facN (n - k) : Nat) : Int) = ((facN n : Nat) : Int)
  | 0, _ => by
    show 1 * _ = _
    rw [Int.one_mul, Nat.sub_zero]
  | k + 1, h => by
    have e : Builtin.Math.fallingProduct (n : Int) (k + 1) = Builtin.Math.fallingProduct (n : Int) k * ((n : Int) - (k : Int)) := by
      unfold Builtin.Math.fallingProduct
      rw [List.range_succ, List.foldl_append]
      rfl
    have ih := fall_fac n k (by omega)
    have e2 : facN (n - k) = facN (n - (k + 1)) * (n - k) := by
      have e3 : n - k = (n - (k + 1)) + 1 := by omega
      rw [e3]
      rfl
    rw [← ih, e, e2, Int.natCast_mul, Int.mul_assoc]
    congr 1
    rw [Int.mul_comm]
    congr 1
    omega
theorem comb_val {n k : Nat} (h : k ≤ n) : Builtin.Math.fallingProduct (n : Int) k / Builtin.Math.fallingProduct (k : Int) k = ((chN n k : Nat) : Int) := by
  have a := fall_fac n k h
  have b := fall_fac k k (Nat.le_refl k)
  have c := chP_fac n k h
  rw [Nat.sub_self] at b
  have b' : Builtin.Math.fallingProduct (k : Int) k = ((facN k : Nat) : Int) := by
    rw [← b]
    exact (Int.mul_one _).symm
  have fp : ((facN (n - k) : Nat) : Int) ≠ 0 := by
    have := facN_pos' (n - k)
    omega
  have a' : Builtin.Math.fallingProduct (n : Int) k = ((chP n k * facN k : Nat) : Int) := by
    refine Int.eq_of_mul_eq_mul_right fp ?_
    rw [a, ← c, ← Int.natCast_mul, Nat.mul_assoc]
  rw [a', b', ← Int.natCast_ediv, Nat.mul_div_cancel _ (facN_pos' k), ch_eq h]
def rComb : List V → Hp → VK → Prop := fun vs H Q => ∃ n k : Nat, vs = [.int (n : Int), .int (k : Int)] ∧ k ≤ n ∧ n ≤ 1000 ∧ Q (.int ((chN n k : Nat) : Int)) H
theorem cr_comb {X : Cx} : CallR X (.builtin "math.comb") rComb := by
  intro pins s σ H vs us Q I r h
  obtain ⟨n, k, rfl, hk, hn, q⟩ := h
  obtain ⟨t, u, rfl⟩ := Vals.int2 r
  obtain ⟨m, em, hm, ech⟩ : ∃ m : Nat, min (k : Int) ((n : Int) - (k : Int)) = (m : Int) ∧ m ≤ n ∧ chN n m = chN n k := by
    rcases Nat.le_total k (n - k) with c | c
    · exact ⟨k, by omega, hk, rfl⟩
    · exact ⟨n - k, by omega, by omega, ch_sym hk⟩
  have v : Builtin.Math.fallingProduct (n : Int) (min (k : Int) ((n : Int) - (k : Int))).toNat / Builtin.Math.fallingProduct (min (k : Int) ((n : Int) - (k : Int))) (min (k : Int) ((n : Int) - (k : Int))).toNat = ((chN n k : Nat) : Int) := by
    rw [em, Int.toNat_natCast, comb_val hm, ech]
  have fl := fac_lt n hn
  refine call_function_meets comb_kind comb_plain comb_entry (comb_args _ _) (comb_run (n : Int) t (k : Int) u (by omega) (by omega) (by omega) (by rw [em]; show ¬ (m : Int) > 2 ^ 63 - 1; omega) (by rw [em]; show ¬ (m : Int) > 20000; omega) (by omega) ?_).meets ?_
  · rw [v]
    show (chN n k).log2 < bitsLine
    have b := PySem.Flt.log2_lt_of (by omega : 0 < 10 * n + 1) (Nat.lt_of_le_of_lt (ch_le n k) fl)
    have e2 : bitsLine = 134217728 := by decide
    rw [e2]
    omega
  · rw [v]
    exact ⟨.int _, H, I.tok _, ⟨_, rfl⟩, q⟩
end Lp
set_option Elab.async false
set_option linter.all false
set_option maxRecDepth 100000
namespace Lp
open PySem PySem.Spec PyProof.Rows L2
/-! ### a text read from its end -/
theorem fm_all {α : Type} : ∀ m : List α, List.filterMap (fun k => m[k]?) (List.range m.length) = m
  | [] => rfl
  | a :: m => by
    rw [List.length_cons, List.range_succ_eq_map, List.filterMap_cons]
    show a :: List.filterMap (fun k => (a :: m)[k]?) (List.map Nat.succ (List.range m.length)) = a :: m
    rw [List.filterMap_map]
    exact congrArg (a :: ·) (fm_all m)
theorem fm_congr {α β : Type} {f g : α → Option β} : ∀ {l : List α}, (∀ x ∈ l, f x = g x) → l.filterMap f = l.filterMap g
  | [], _ => rfl
  | a :: l, h => by
    rw [List.filterMap_cons, List.filterMap_cons, h a (List.mem_cons_self ..), fm_congr fun x hx => h x (List.mem_cons_of_mem _ hx)]
theorem fm_rev {α : Type} (l : List α) : List.filterMap (fun k => l[l.length - 1 - k]?) (List.range l.length) = l.reverse := by
  refine Eq.trans (fm_congr (g := fun k => l.reverse[k]?) fun k hk => ?_) ((congrArg (fun n => List.filterMap (fun k => l.reverse[k]?) (List.range n)) (List.length_reverse (as := l)).symm).trans (fm_all l.reverse))
  rw [List.getElem?_reverse (List.mem_range.mp hk)]
theorem rev_idx (n : Nat) : Builtin.Str.strSliceIndices none none (-1) n = (List.range n).map fun k => n - 1 - k := by
  show sliceRange ((n : Int) - 1) (-1) (-1) = _
  have e : sliceRange ((n : Int) - 1) (-1) (-1) = List.map (fun k : Nat => ((n : Int) - 1 + (-1) * (k : Int)).toNat) (List.range (if (n : Int) - 1 > -1 then ((n : Int) - 1 - (-1) - (-1) - 1) / 1 else (0 : Int)).toNat) := rfl
  rw [e]
  have c : (if (n : Int) - 1 > -1 then ((n : Int) - 1 - (-1) - (-1) - 1) / 1 else (0 : Int)).toNat = n := by
    split <;> omega
  rw [c]
  exact List.map_congr_left fun k hk => by omega
def revS (x : Str) : Str := ⟨x.cps.toList.reverse.toArray⟩
theorem rev_made (x : Str) (t q : Tok) : sliceMade x t none none (some (-1, q)) = .str (revS x) := by
  show (if ((-1 : Int) == 1 && _) = true then _ else _) = _
  rw [if_neg (by simp)]
  show Made.str ⟨(List.filterMap (fun i => x.cps[i]?) (Builtin.Str.strSliceIndices none none (-1) x.length)).toArray⟩ = _
  rw [rev_idx, List.filterMap_map]
  have := fm_rev x.cps.toList
  simp only [Array.getElem?_toList, Array.length_toList] at this
  exact congrArg (fun l => Made.str ⟨List.toArray l⟩) this
section
variable {X : Cx}
def tRevS (te : TE) : TE := fun σ H Q => te σ H fun x H1 => ∃ z, x = .str z ∧ z.cps.size ≤ sizeLine ∧ Q (.str (revS z)) H1
theorem pe_revS {e : Expr} {te : TE} {k : Nat} {p1 p2 p3 pos : Pos} (he : PE X e te) : PE X (e.Subscript (Expr.Slice none none (some (Expr.UnaryOp UnaryOp.USub (Expr.Constant (Const.int 1) k p1) p2)) p3) pos) (tRevS te) := by
  refine ⟨fun pins s σ H Q I h => ?_⟩
  refine Subscript_ (thn (he.run pins s σ H _ I h) fun o s1 ⟨v, H1, I1, r1, q1⟩ => ?_)
  obtain ⟨z, rfl, hz, q⟩ := q1
  obtain ⟨t, rfl⟩ := r1
  refine wpAny_Slice ?_
  rw [evalPart_none]
  refine wpAny_pure (wpAny_pure ?_)
  refine thn ((po_some (pe_un un_neg pe_int)).run pins s1 σ H1 (fun o H2 => o = some (-1) ∧ H2 = H1) I1 ⟨1, rfl, _, rfl, rfl, rfl⟩) fun u s2 ⟨o, H2, I2, ip, eo, eh⟩ => ?_
  subst eo
  subst eh
  cases ip with
  | int i tk =>
    refine tail_any (typeIs_str _ _ _) F.slot_str_getitem.lookup ?_ rfl
    refine wpAny_getItem_str_slice (l := none) (u := none) (st := some (-1, tk)) (Heap.IsSliceOf.new ..) rfl ?_
    rw [rev_made]
    have I3 : Inv X pins σ H2 { s2 with heap := s2.heap.push { cls := .type "slice", data := .fields #[.none, .none, .int (-1) tk] } } := I2.kept (t' := s2.toks) fun b o e => Heap.get?_push_of_some _ e
    have hl : (revS z).length ≤ sizeLine := by
      show (z.cps.toList.reverse.toArray).size ≤ sizeLine
      rw [List.size_toArray, List.length_reverse, Array.length_toList]
      exact hz
    exact ⟨hl, .str (revS z), H2, I3.tok _, ⟨_, rfl⟩, q⟩
/-! ### list and tuple of a text -/
def chL (z : Str) : List V := z.cps.toList.map fun c => V.str ⟨#[c]⟩
theorem vals_ch {z : Str} {acc : Array Value} (h : ItemsOf (SignAt z) acc z.cps.size) : Vals (chL z) acc.toList := by
  have e : chL z = (List.range acc.toList.length).map fun j => V.str ⟨#[z.cps.toList.getD j 0]⟩ := by
    unfold chL
    rw [Array.length_toList, h.1]
    apply List.ext_getElem?
    intro i
    rw [List.getElem?_map, List.getElem?_map]
    by_cases c : i < z.cps.size
    · rw [List.getElem?_range (by omega), List.getElem?_eq_getElem (by rw [Array.length_toList]; exact c)]
      simp [c]
    · rw [List.getElem?_eq_none (by rw [Array.length_toList]; omega), List.getElem?_eq_none (by rw [List.length_range]; omega)]
      rfl
  rw [e]
  refine vals_of_get acc.toList _ fun j u hj => ?_
  obtain ⟨c, t, hc, rfl⟩ := h.2 j u (by rw [← hj, Array.getElem?_toList])
  refine ⟨t, ?_⟩
  have : z.cps.toList.getD j 0 = c := by
    rw [List.getD_eq_getElem?_getD, Array.getElem?_toList, hc]
    rfl
  rw [this]
def rLStr : List V → Hp → VK → Prop := fun xs H Q => ∃ z, xs = [.str z] ∧ z.cps.size ≤ sizeLine ∧ ∀ p, H p = none → Q (.ref p) (upd H p (.lst (chL z)))
theorem cr_listStr (hc : X.calm = true) : CallR X (.type "list") rLStr := by
  intro pins s σ H xs us Q I r h
  obtain ⟨z, rfl, hz, q⟩ := h
  cases r with
  | cons r rr =>
    cases rr
    obtain ⟨t, rfl⟩ := r
    refine call_list_str (I.ok.hd hc) z t (fun h' tk acc' c' hk e hi => ?_) hz
    refine ⟨.ref _, upd H _ (.lst (chL z)), I.laid hk (Nat.le_refl _) (show ObjOk X.prog X.w _ _ _ (.lst _) from ⟨?_, acc'.toList, c', vals_ch hi, ?_⟩), rfl, q _ (I.hok.fresh (Nat.le_refl _))⟩
    · unfold chL
      rw [List.length_map, Array.length_toList]
      exact hz
    · rw [Array.toArray_toList]; exact e
def rTStr : List V → Hp → VK → Prop := fun xs H Q => ∃ z, xs = [.str z] ∧ z.cps.size ≤ sizeLine ∧ ∀ p, H p = none → Q (.ref p) (upd H p (.tup (chL z)))
theorem cr_tupStr (hc : X.calm = true) : CallR X (.type "tuple") rTStr := by
  intro pins s σ H xs us Q I r h
  obtain ⟨z, rfl, hz, q⟩ := h
  cases r with
  | cons r rr =>
    cases rr
    obtain ⟨t, rfl⟩ := r
    refine call_tuple_str (I.ok.hd hc) z t (fun h' tk acc hk hi => ?_) hz
    have I2 : Inv X pins σ H { s with heap := h', toks := tk } := I.kept (t' := tk) hk
    refine ⟨.ref _, upd H _ (.tup (chL z)), I2.laid (fun b o e => Heap.get?_push_of_some _ e) (Nat.le_refl _) (show ObjOk X.prog X.w _ _ _ (.tup _) from ?_), rfl, q _ (I2.hok.fresh (Nat.le_refl _))⟩
    simp only [ObjOk]
    refine ⟨by unfold chL; rw [List.length_map, Array.length_toList]; exact hz, acc.toList, vals_ch hi, ?_⟩
    rw [Array.toArray_toList]
    exact ⟨_, Heap.get?_push_size _ rfl, rfl, _, rfl⟩
end
end Lp
set_option Elab.async false
set_option linter.all false
set_option maxRecDepth 100000
namespace L54
open PySem PySem.Spec PyProof.Rows L2 Lp
def topS (i : Nat) : Stmt := PySem.Challenge.pw_latepatches_k54_shapes_judged.main.body.getD i (.Pass ⟨0, 0, 0, 0⟩)
abbrev s_is_integer : Stmt := topS 4
abbrev N_is_integer : List Str := ["value"]
theorem sc_is_integer : FnScope N_is_integer ["value"] (defScope s_is_integer) := ⟨rfl, rfl, rfl, by decide +kernel, rfl, by decide +kernel, by decide +kernel⟩
abbrev s_is_integer_within : Stmt := topS 5
abbrev N_is_integer_within : List Str := ["value", "least", "greatest"]
theorem sc_is_integer_within : FnScope N_is_integer_within ["value", "least", "greatest"] (defScope s_is_integer_within) := ⟨rfl, rfl, rfl, by decide +kernel, rfl, by decide +kernel, by decide +kernel⟩
abbrev s_are_integers : Stmt := topS 6
abbrev N_are_integers : List Str := ["value", "least", "greatest", "most", "item"]
theorem sc_are_integers : FnScope N_are_integers ["value", "least", "greatest", "most"] (defScope s_are_integers) := ⟨rfl, rfl, rfl, by decide +kernel, rfl, by decide +kernel, by decide +kernel⟩
abbrev s_are_events : Stmt := topS 10
abbrev N_are_events : List Str := ["value"]
theorem sc_are_events : FnScope N_are_events ["value"] (defScope s_are_events) := ⟨rfl, rfl, rfl, by decide +kernel, rfl, by decide +kernel, by decide +kernel⟩
abbrev s_is_history : Stmt := topS 11
abbrev N_is_history : List Str := ["value", "started", "event"]
theorem sc_is_history : FnScope N_is_history ["value"] (defScope s_is_history) := ⟨rfl, rfl, rfl, by decide +kernel, rfl, by decide +kernel, by decide +kernel⟩
abbrev s_check_history : Stmt := topS 12
abbrev N_check_history : List Str := ["history"]
theorem sc_check_history : FnScope N_check_history ["history"] (defScope s_check_history) := ⟨rfl, rfl, rfl, by decide +kernel, rfl, by decide +kernel, by decide +kernel⟩
abbrev s_is_shape : Stmt := topS 14
abbrev N_is_shape : List Str := ["value", "running", "sign"]
theorem sc_is_shape : FnScope N_is_shape ["value"] (defScope s_is_shape) := ⟨rfl, rfl, rfl, by decide +kernel, rfl, by decide +kernel, by decide +kernel⟩
abbrev s_shape_of : Stmt := topS 15
abbrev N_shape_of : List Str := ["history", "event"]
theorem sc_shape_of : FnScope N_shape_of ["history"] (defScope s_shape_of) := ⟨rfl, rfl, rfl, by decide +kernel, rfl, by decide +kernel, by decide +kernel⟩
abbrev s_law_pool : Stmt := topS 17
abbrev N_law_pool : List Str := ["script", "k", "cell"]
theorem sc_law_pool : FnScope N_law_pool ["script", "k"] (defScope s_law_pool) := ⟨rfl, rfl, rfl, by decide +kernel, rfl, by decide +kernel, by decide +kernel⟩
abbrev s_law_draw : Stmt := topS 18
abbrev N_law_draw : List Str := ["pool", "many", "digit", "mixed"]
theorem sc_law_draw : FnScope N_law_draw ["pool", "many"] (defScope s_law_draw) := ⟨rfl, rfl, rfl, by decide +kernel, rfl, by decide +kernel, by decide +kernel⟩
abbrev s_law_signs : Stmt := topS 19
abbrev N_law_signs : List Str := ["pool", "script", "many", "style", "wide", "found", "running", "starts", "turn", "hit", "up"]
theorem sc_law_signs : FnScope N_law_signs ["pool", "script"] (defScope s_law_signs) := ⟨rfl, rfl, rfl, by decide +kernel, rfl, by decide +kernel, by decide +kernel⟩
abbrev s_law_row : Stmt := topS 20
abbrev N_law_row : List Str := ["pool", "signs", "found", "running", "starts", "sign"]
theorem sc_law_row : FnScope N_law_row ["pool", "signs"] (defScope s_law_row) := ⟨rfl, rfl, rfl, by decide +kernel, rfl, by decide +kernel, by decide +kernel⟩
abbrev s_law_due : Stmt := topS 21
abbrev N_law_due : List Str := ["thing", "low", "sign", "at"]
theorem sc_law_due : FnScope N_law_due ["thing"] (defScope s_law_due) := ⟨rfl, rfl, rfl, by decide +kernel, rfl, by decide +kernel, by decide +kernel⟩
abbrev s_law_numbered : Stmt := topS 22
abbrev N_law_numbered : List Str := ["pool", "row", "left", "to", "one"]
theorem sc_law_numbered : FnScope N_law_numbered ["pool", "row"] (defScope s_law_numbered) := ⟨rfl, rfl, rfl, by decide +kernel, rfl, by decide +kernel, by decide +kernel⟩
abbrev s_law_shape_of_right : Stmt := topS 23
abbrev N_law_shape_of_right : List Str := ["row", "signs", "before", "told"]
theorem sc_law_shape_of_right : FnScope N_law_shape_of_right ["row", "signs"] (defScope s_law_shape_of_right) := ⟨rfl, rfl, rfl, by decide +kernel, rfl, by decide +kernel, by decide +kernel⟩
abbrev s_law : Stmt := topS 24
abbrev N_law : List Str := ["script", "k", "pool", "signs", "odd", "some", "turn", "at", "one", "thing", "due", "row"]
theorem sc_law : FnScope N_law ["script"] (defScope s_law) := ⟨rfl, rfl, rfl, by decide +kernel, rfl, by decide +kernel, by decide +kernel⟩
end L54
set_option Elab.async false
set_option linter.all false
set_option maxRecDepth 100000
namespace L54
open PySem PySem.Spec PyProof.Rows L2 Lp
section
variable {P : Program} {w : World} {K : PySem.W.Frag} {mg : Str → Option Value} {base : Heap}
/-- a def of the text at its name -/
structure At (K : PySem.W.Frag) (mg : Str → Option Value) (x : Str) (st : Stmt) (f : Addr) (fd : FuncData) : Prop where
  fn : Fun K x x st f fd
  mgf : mg x = some (.ref f)
theorem At.gc {k : Nat} {x : Str} {st : Stmt} {f : Addr} {fd : FuncData} {ps : List Str} {sp : Sp} (a : At K mg x st f fd) (b : Binds K fd ps []) (F : FnG P w K mg base CX0 k f fd ps sp) : Gc P w K mg base k x sp := ⟨f, fd, ps, F, a.mgf, a.fn.kp, b⟩

/-! ### is_integer and its kin -/
def spIsInt : Sp := fun vs H Q _ => ∃ i : Int, vs = [.int i] ∧ Q (.bl true) H
theorem ok_is_integer {f : Addr} {fd : FuncData} (F : Fun K "is_integer" "is_integer" s_is_integer f fd) (B : NoB mg) : FnG P w K mg base CX0 1 f fd ["value"] spIsInt := by
  refine okG F sc_is_integer (fun vs H Q E h => ?_) (fun cdv A outer s H vs Q E hG hr h => ?_)
  · obtain ⟨i, rfl, _⟩ := h
    rfl
  · obtain ⟨i, rfl, q⟩ := h
    refine ⟨_, (pss_one (ps_ret (pe_and (pe_callB call_isi (by rfl) B.isinstance (by decide +kernel) (pa_cons (pv 0) (pa_cons (pe_bltn (v := .ty "int") (by rfl) B.int boot_int rfl) pa_nil))) (pe_one (pe_not (pe_callB call_isi (by rfl) B.isinstance (by decide +kernel) (pa_cons (pv 0) (pa_cons (pe_bltn (v := .ty "bool") (by rfl) B.bool boot_bool rfl) pa_nil)))))))), ?_⟩
    refine ⟨_, rfl, _, _, _, _, true, rfl, .ty _, .base (.int i), kit_ty (by decide +kernel), true, rfl, iteT ?_⟩
    exact ⟨_, rfl, _, _, _, _, false, rfl, .ty _, .base (.int i), kit_ty (by decide +kernel), false, rfl, q⟩
def spWithin : Sp := fun vs H Q _ => ∃ i lo hi : Int, vs = [.int i, .int lo, .int hi] ∧ lo ≤ i ∧ i ≤ hi ∧ Q (.bl true) H
theorem ok_is_integer_within {f : Addr} {fd : FuncData} (F : Fun K "is_integer_within" "is_integer_within" s_is_integer_within f fd) (T_is_integer : Gc P w K mg base 1 "is_integer" spIsInt) : FnG P w K mg base CX0 2 f fd ["value", "least", "greatest"] spWithin := by
  refine okG F sc_is_integer_within (fun vs H Q E h => ?_) (fun cdv A outer s H vs Q E hG hr h => ?_)
  · obtain ⟨i, lo, hi, rfl, _⟩ := h
    rfl
  · obtain ⟨i, lo, hi, rfl, h1, h2, q⟩ := h
    refine ⟨_, (pss_one (ps_ret (pe_and (pe_g T_is_integer hG hr (by decide) (by rfl) (pa_cons (pv 0) pa_nil)) (pe_one (pe_chain op_le op_le (pv 1) (pv 0) (pv 2)))))), ?_⟩
    refine ⟨_, rfl, i, rfl, true, rfl, iteT ?_⟩
    refine ⟨_, rfl, _, rfl, _, _, rfl, rfl, _, rfl, ?_⟩
    rw [decide_eq_true h1]
    refine iteT ⟨_, rfl, _, _, rfl, rfl, ?_⟩
    dsimp only
    rw [decide_eq_true h2]
    exact q
/-! ### are_integers -/
def spAreInts (K : PySem.W.Frag) : Sp := fun vs H Q _ => ∃ (a : Addr) (ns : List Int) (lo hi m : Int), vs = [.ref a, .int lo, .int hi, .int m] ∧ SqL K H a (ns.map V.int) ∧ ((ns.length : Nat) : Int) ≤ m ∧ ns.length ≤ 1000 ∧ (∀ n ∈ ns, lo ≤ n ∧ n ≤ hi) ∧ ∀ H', Same H H' → Q (.bl true) H'
theorem ok_are_integers {f : Addr} {fd : FuncData} (F : Fun K "are_integers" "are_integers" s_are_integers f fd) (B : NoB mg) (T_is_integer_within : Gc P w K mg base 2 "is_integer_within" spWithin) : FnG P w K mg base CX0 3 f fd ["value", "least", "greatest", "most"] (spAreInts K) := by
  refine okG F sc_are_integers (fun vs H Q E h => ?_) (fun cdv A outer s H vs Q E hG hr h => ?_)
  · obtain ⟨a, ns, lo, hi, m, rfl, _⟩ := h
    rfl
  · obtain ⟨a, ns, lo, hi, m, rfl, hS, hm, hl, hb, q⟩ := h
    refine ⟨_, (pss_cons (ps_if (PW.pt (pw_or (pt_cmpR op_neTy (pe_callTy call_type1 (by rfl) B.type (by decide +kernel) (pa_cons (pv 0) pa_nil)) (pe_bltn (v := .ty "list") (by rfl) B.list boot_list rfl) (nomark _)) (pw_or1 (pt_cmpR op_gt (pe_callB call_len_seq (by rfl) B.len PySem.boot_len (pa_cons (pv 0) pa_nil)) (pv 3) (nomark _))))) (pss_one (ps_ret pe_bl)) pss_nil)
        (pss_one (ps_ret (pe_callB (cr_all rfl) (by rfl) B.all (by decide +kernel) (pa_cons (pe_lc (own := [("item", 4)]) (g := gName 4) (tt := tYes) rfl sc_are_integers.nd (pi_list (pv 0)) (blkOk_by (own := [("item", 4)]) (N := N_are_integers) (sc := defScope s_are_integers) (by decide +kernel)) (fun _ _ _ _ _ => (pg_name (i := 4) sc_are_integers.nd rfl (Or.inl rfl))) (fun _ _ _ _ _ => pts_nil) (fun _ _ _ _ _ => (pe_g T_is_integer_within hG hr (by decide) (by rfl) (pa_cons (pv 4) (pa_cons (pv 1) (pa_cons (pv 2) pa_nil)))))) pa_nil))))), ?_⟩
    refine ⟨_, rfl, _, _, rfl, .lst hS, _, rfl, rfl, PySem.TypeEq.meta_list, _, rfl, iteF ?_⟩
    refine ⟨_, rfl, a, _, rfl, .inl hS, _, rfl, _, _, rfl, rfl, _, rfl, ?_⟩
    rw [List.length_map, decide_eq_false (show ¬ m < ((ns.length : Nat) : Int) by omega)]
    refine iteF ?_
    refine ⟨_, rfl, a, rfl, ⟨_, hS⟩, fun D hD => lc_list (xs := ns.map V.int) (LcP H D fun i => (List.replicate i true).map V.bl) (.init hD rfl) (fun i H' _ p => p.2.1.seq hS) (fun i x H' hx p => ?_) (fun H' p => ?_)⟩
    · obtain ⟨n, rfl, hn⟩ := get_int hx
      obtain ⟨h1, h2⟩ := hb n (mem_get hn)
      refine ⟨rfl, ?_⟩
      refine ⟨_, rfl, _, rfl, _, rfl, n, lo, hi, rfl, h1, h2, ?_⟩
      refine p.put (Same.refl _) ?_ (by rw [List.length_map, List.length_replicate]; have := lt_get hn; omega)
      rw [List.replicate_succ', List.map_append]
      rfl
    · refine ⟨D, _, rfl, .of p.2.2, ?_⟩
      have e : (List.replicate (ns.map V.int).length true).all id = true := by
        rw [List.all_eq_true]
        intro b hb
        exact (List.eq_of_mem_replicate hb)
      rw [e]
      exact q _ p.2.1

/-! ### histories -/
structure Hist (ns : List Int) : Prop where
  rng : ∀ e ∈ ns, e ≠ 0 ∧ -100 ≤ e ∧ e ≤ 100
  nd : ns.Nodup
  ord : ∀ (i : Nat) (e : Int), ns[i]? = some e → e < 0 → -e ∈ ns.take i
  len : ns.length ≤ 200
theorem not_mem_take {ns : List Int} (nd : ns.Nodup) {i : Nat} {e : Int} (h : ns[i]? = some e) : e ∉ ns.take i := by
  intro hm
  obtain ⟨j, hj, e1⟩ := List.mem_iff_getElem.mp hm
  rw [List.length_take] at hj
  have hjn : j < ns.length := by omega
  have e2 : ns[j]? = some e := by
    rw [List.getElem?_eq_getElem hjn, ← e1, List.getElem_take]
  have := nd_ix nd e2 h
  omega
theorem mem_take_succ {ns : List Int} {i : Nat} {e x : Int} (h : ns[i]? = some e) : (x ∈ ns.take (i + 1)) ↔ (x ∈ ns.take i ∨ x = e) := by
  rw [take_get h, List.mem_append, List.mem_singleton]
/-! ### are_events -/
def spAreEv (K : PySem.W.Frag) : Sp := fun vs H Q _ => ∃ (a : Addr) (ns : List Int), vs = [.ref a] ∧ SqL K H a (ns.map V.int) ∧ (∀ e ∈ ns, e ≠ 0 ∧ -100 ≤ e ∧ e ≤ 100) ∧ ns.Nodup ∧ ns.length ≤ 200 ∧ ∀ H', Same H H' → Q (.bl true) H'
theorem ok_are_events {f : Addr} {fd : FuncData} (F : Fun K "are_events" "are_events" s_are_events f fd) (B : NoB mg) {t1 t2 : Tok} (T_g_LAST_PATCH : mg "LAST_PATCH" = some (.int 100 t1)) (T_g_MOST_EVENTS : mg "MOST_EVENTS" = some (.int 200 t2))
    (T_are_integers : Gc P w K mg base 3 "are_integers" (spAreInts K)) : FnG P w K mg base CX0 4 f fd ["value"] (spAreEv K) := by
  refine okG F sc_are_events (fun vs H Q E h => ?_) (fun cdv A outer s H vs Q E hG hr h => ?_)
  · obtain ⟨a, ns, rfl, _⟩ := h
    rfl
  · obtain ⟨a, ns, rfl, hS, hb, nd, hl, q⟩ := h
    refine ⟨_, (pss_cons (ps_if (pt_not (pt_val (pe_g T_are_integers hG hr (by decide) (by rfl) (pa_cons (pv 0) (pa_cons (pe_un un_neg (pe_glob (v := .int 100) (by rfl) T_g_LAST_PATCH ⟨_, rfl⟩)) (pa_cons (pe_glob (v := .int 100) (by rfl) T_g_LAST_PATCH ⟨_, rfl⟩) (pa_cons (pe_glob (v := .int 200) (by rfl) T_g_MOST_EVENTS ⟨_, rfl⟩) pa_nil))))))) (pss_one (ps_ret pe_bl)) pss_nil)
        (pss_one (ps_ret (pe_and (pe_cmpR op_notIn_seq pe_int (pv 0) (by rfl)) (pe_one (pe_cmpR op_eq (RZ.pe_lenSetI (by rfl) B.len (by rfl) B.set (pv 0)) (pe_callB call_len_seq (by rfl) B.len PySem.boot_len (pa_cons (pv 0) pa_nil)) (nomark _))))))), ?_⟩
    refine ⟨_, rfl, _, rfl, a, ns, -100, 100, 200, rfl, hS, by omega, by omega, fun n hn => (hb n hn).2, fun H1 s1 => ?_⟩
    refine ⟨_, rfl, iteF ?_⟩
    have hS1 := s1.seq hS
    refine ⟨_, rfl, a, ns.map V.int, rfl, .inl hS1, rfl, flatI ns, true, notInT fun z => (hb 0 z).1 rfl, iteT ?_⟩
    refine ⟨_, rfl, a, ns, rfl, hS1, nd, by omega, _, rfl, a, _, rfl, .inl hS1, rfl, ?_⟩
    rw [List.length_map, dT rfl]
    exact q _ s1

def spIsHist (K : PySem.W.Frag) : Sp := fun vs H Q _ => ∃ (a : Addr) (ns : List Int), vs = [.ref a] ∧ SqL K H a (ns.map V.int) ∧ Hist ns ∧ ∀ H', Same H H' → Q (.bl true) H'
theorem ok_is_history {f : Addr} {fd : FuncData} (F : Fun K "is_history" "is_history" s_is_history f fd) (B : NoB mg) (T_are_events : Gc P w K mg base 4 "are_events" (spAreEv K)) : FnG P w K mg base CX0 5 f fd ["value"] (spIsHist K) := by
  refine okG F sc_is_history (fun vs H Q E h => ?_) (fun cdv A outer s H vs Q E hG hr h => ?_)
  · obtain ⟨a, ns, rfl, _⟩ := h
    rfl
  · obtain ⟨a, ns, rfl, hS, hh, q⟩ := h
    have hu := hu_of hr
    refine ⟨_, (pss_cons (ps_if (pt_not (pt_val (pe_g T_are_events hG hr (by decide) (by rfl) (pa_cons (pv 0) pa_nil)))) (pss_one (ps_ret pe_bl)) pss_nil)
        (pss_cons (ps_set (i := 1) sc_is_history.nd rfl (Or.inl rfl) (pe_callTy0 cr_set0 (by rfl) B.set (by decide +kernel)))
        (pss_cons (ps_for PassesOwn.never rfl (pi_list (pv 0)) (pg_name (i := 2) sc_is_history.nd rfl (Or.inl rfl))
          (pss_one (ps_if (pt_cmpR op_gt (pv 2) pe_int (nomark _)) (pss_one (ps_expr (pe_sadd (pv 1) (pa_cons (pv 2) pa_nil)))) (pss_one (ps_if (pt_cmpR or_snotin (pe_un un_neg (pv 2)) (pv 1) (by rfl)) (pss_one (ps_ret pe_bl)) pss_nil)))))
        (pss_one (ps_ret pe_bl))))), ?_⟩
    refine ⟨_, rfl, a, ns, rfl, hS, hh.rng, hh.nd, hh.len, fun H1 s1 => ?_⟩
    refine ⟨_, rfl, iteF ?_⟩
    refine ⟨rfl, fun p np => ?_⟩
    have hS1 := s1.seq hS
    refine ⟨_, rfl, a, rfl, ⟨_, (same_new np).seq hS1⟩, for_list (xs := ns.map V.int) (fun i σ H' => (∃ y, σ = [some (.ref a), some (.ref p), y]) ∧ Same H1 H' ∧ ∃ n, n ≤ i ∧ H' p = some (SetO w p (fun x => decide (0 < x ∧ x ∈ ns.take i)) n)) ⟨⟨_, rfl⟩, same_new np, 0, Nat.le_refl _, ?_⟩ (fun i σ H' _ h => h.2.1.seq hS1) (fun i x σ H' hx h => ?_) (fun σ H' h => ?_)⟩
    · rw [upd_same]
      show some (SetO w p (fun x => false) 0) = some (SetO w p (fun x => decide (0 < x ∧ x ∈ ns.take 0)) 0)
      simp
    · obtain ⟨n, rfl, hn⟩ := get_int hx
      obtain ⟨⟨y, rfl⟩, sm, m, hm, hp⟩ := h
      have hi : i < 200 := Nat.lt_of_lt_of_le (lt_get hn) hh.len
      by_cases h0 : 0 < n
      · refine ⟨_, rfl, _, _, rfl, rfl, true, dT h0, ?_⟩
        refine ⟨_, rfl, ⟨p, _, m, rfl, hp⟩, _, rfl, p, n, _, m, rfl, rfl, hp, by show m + 1 < 4096; omega, ⟨_, rfl⟩, fun b o e => ?_, m + 1, by omega, ?_⟩
        rotate_left 1
        · have hnt : ¬ (0 < n ∧ n ∈ ns.take i) := fun z => not_mem_take hh.nd hn z.2
          rw [upd_same, decide_eq_false hnt, if_neg Bool.false_ne_true]
          refine congrArg some (congrArg (fun S => SetO w p S _) (funext fun x => ?_))
          rw [← Bool.decide_or]
          refine decide_eq_decide.mpr ?_
          have := mem_take_succ (x := x) hn
          rw [this]
          constructor
          · rintro (⟨a, b⟩ | rfl)
            · exact ⟨a, .inl b⟩
            · exact ⟨h0, .inr rfl⟩
          · rintro ⟨a, b | b⟩
            · exact .inl ⟨a, b⟩
            · exact .inr b
        · rw [upd_ne (ne_of_none e np)]
          exact sm _ _ e
      · refine ⟨_, rfl, _, _, rfl, rfl, false, dF h0, ?_⟩
        have e0 := (hh.rng n (mem_get hn)).1
        have hpre := hh.ord i n hn (by omega)
        refine ⟨_, rfl, n, rfl, _, rfl, -n, p, _, m, rfl, rfl, hp, false, nF ⟨by omega, hpre⟩, ⟨_, rfl⟩, sm, m, by omega, ?_⟩
        rw [hp]
        refine congrArg some (congrArg (fun S => SetO w p S m) (funext fun x => decide_eq_decide.mpr ?_))
        rw [mem_take_succ hn]
        constructor
        · exact fun ⟨a, b⟩ => ⟨a, .inl b⟩
        · rintro ⟨a, b | b⟩
          · exact ⟨a, b⟩
          · omega
    · obtain ⟨⟨y, rfl⟩, sm, _⟩ := h
      exact q _ (s1.trans sm)

/-! ### check_history -/
def spCheck (K : PySem.W.Frag) : Sp := fun vs H Q _ => ∃ (a : Addr) (ns : List Int), vs = [.ref a] ∧ SqL K H a (ns.map V.int) ∧ Hist ns ∧ ∀ H', Same H H' → Q .non H'
theorem ok_check_history {f : Addr} {fd : FuncData} (F : Fun K "check_history" "check_history" s_check_history f fd) (T_is_history : Gc P w K mg base 5 "is_history" (spIsHist K)) : FnG P w K mg base CX0 6 f fd ["history"] (spCheck K) := by
  refine okG F sc_check_history (fun vs H Q E h => ?_) (fun cdv A outer s H vs Q E hG hr h => ?_)
  · obtain ⟨a, ns, rfl, _⟩ := h
    rfl
  · obtain ⟨a, ns, rfl, hS, hh, q⟩ := h
    refine ⟨_, (pss_one (ps_if (pt_not (pt_val (pe_g T_is_history hG hr (by decide) (by rfl) (pa_cons (pv 0) pa_nil)))) (pss_one ps_never) pss_nil)), ?_⟩
    exact ⟨_, rfl, a, ns, rfl, hS, hh, fun H1 s1 => ⟨_, rfl, iteF (q _ s1)⟩⟩

end
/-! ### the drawn history -/
def upL (n : Nat) : List Int := (List.range n).map fun i : Nat => 1 + (i : Int)
theorem nodup_map {α β : Type} {f : α → β} (hf : ∀ x y, f x = f y → x = y) : ∀ {l : List α}, l.Nodup → (l.map f).Nodup
  | [], _ => List.nodup_nil
  | x :: r, h => by
    obtain ⟨h1, h2⟩ := List.nodup_cons.mp h
    refine List.nodup_cons.mpr ⟨fun hm => ?_, nodup_map hf h2⟩
    obtain ⟨y, hy, e⟩ := List.mem_map.mp hm
    exact h1 (hf _ _ e ▸ hy)
theorem upL_nd (n : Nat) : (upL n).Nodup := nodup_map (fun x y e => by omega) List.nodup_range
theorem upL_mem {n : Nat} {k : Int} (h : k ∈ upL n) : 1 ≤ k ∧ k ≤ (n : Int) := by
  obtain ⟨i, hi, rfl⟩ := List.mem_map.mp h
  have := List.mem_range.mp hi
  omega
theorem upL_len (n : Nat) : (upL n).length = n := by
  unfold upL
  rw [List.length_map, List.length_range]
theorem rgV_up (b : Int) : rgV 1 b = (upL (b - 1).toNat).map V.int := by
  unfold rgV upL
  rw [List.map_map]
  rfl
structure Good (fr av fd : List Int) : Prop where
  rng : ∀ e ∈ fd, e ≠ 0 ∧ -100 ≤ e ∧ e ≤ 100
  nd : fd.Nodup
  ord : ∀ (i : Nat) (e : Int), fd[i]? = some e → e < 0 → -e ∈ fd.take i
  avn : av.Nodup
  avm : ∀ k ∈ av, 0 < k ∧ k ∈ fd ∧ -k ∉ fd
  frn : fr.Nodup
  frm : ∀ k ∈ fr, 1 ≤ k ∧ k ≤ 100 ∧ k ∉ fd
theorem ord_snoc {fd : List Int} {x : Int} (h : ∀ (i : Nat) (e : Int), fd[i]? = some e → e < 0 → -e ∈ fd.take i) (hx : x < 0 → -x ∈ fd) (i : Nat) (e : Int) (he : (fd ++ [x])[i]? = some e) (h0 : e < 0) : -e ∈ (fd ++ [x]).take i := by
  by_cases hi : i < fd.length
  · rw [List.getElem?_append_left hi] at he
    rw [List.take_append_of_le_length (Nat.le_of_lt hi)]
    exact h i e he h0
  · have hi2 := lt_get he
    rw [List.length_append, List.length_singleton] at hi2
    have e1 : i = fd.length := by omega
    subst e1
    rw [List.getElem?_append_right (Nat.le_refl _), Nat.sub_self] at he
    have e2 : x = e := Option.some.inj he
    subst e2
    rw [List.take_append_of_le_length (Nat.le_refl _), List.take_length]
    exact hx h0
theorem ord_mem {fd : List Int} (h : ∀ (i : Nat) (e : Int), fd[i]? = some e → e < 0 → -e ∈ fd.take i) {e : Int} (he : e ∈ fd) (h0 : e < 0) : -e ∈ fd := by
  obtain ⟨i, hi, rfl⟩ := List.mem_iff_getElem.mp he
  exact List.mem_of_mem_take (h i _ (List.getElem?_eq_getElem hi) h0)
theorem nodup_snoc {l : List Int} {x : Int} (h : l.Nodup) (hx : x ∉ l) : (l ++ [x]).Nodup :=
  List.nodup_append.mpr ⟨h, List.nodup_cons.mpr ⟨List.not_mem_nil, List.nodup_nil⟩, fun a ha b hb e => hx (by
    rw [List.mem_singleton] at hb
    rw [← hb, ← e]
    exact ha)⟩
theorem Good.push {k : Int} {fr av fd : List Int} (g : Good (k :: fr) av fd) : Good fr (av ++ [k]) (fd ++ [k]) := by
  obtain ⟨k1, k2, k3⟩ := g.frm k List.mem_cons_self
  obtain ⟨n1, n2⟩ := List.nodup_cons.mp g.frn
  have kn : -k ∉ fd := fun h => k3 (by
    have z := ord_mem g.ord h (by omega)
    rwa [Int.neg_neg] at z)
  have kav : k ∉ av := fun h => k3 (g.avm k h).2.1
  refine ⟨fun e he => ?_, nodup_snoc g.nd k3, ord_snoc g.ord (fun z => by omega), nodup_snoc g.avn kav, fun j hj => ?_, n2, fun j hj => ?_⟩
  · rcases List.mem_append.mp he with h | h
    · exact g.rng e h
    · rw [List.mem_singleton] at h
      omega
  · rw [List.mem_append, List.mem_append, List.mem_singleton, List.mem_singleton]
    rcases List.mem_append.mp hj with h | h
    · obtain ⟨a, b, c⟩ := g.avm j h
      exact ⟨a, .inl b, fun z => z.elim c fun z => by omega⟩
    · rw [List.mem_singleton] at h
      subst h
      exact ⟨by omega, .inr rfl, fun z => z.elim kn fun z => by omega⟩
  · obtain ⟨a, b, c⟩ := g.frm j (List.mem_cons_of_mem _ hj)
    refine ⟨a, b, fun z => ?_⟩
    rcases List.mem_append.mp z with h | h
    · exact c h
    · rw [List.mem_singleton] at h
      exact n1 (h ▸ hj)
theorem Good.stop {fr av fd : List Int} (g : Good fr av fd) {j : Nat} (hj : j < av.length) : Good fr (av.eraseIdx j) (fd ++ [-av[j]]) := by
  obtain ⟨a0, a1, a2⟩ := g.avm av[j] (List.getElem_mem hj)
  have pm := erase_perm av j hj
  have ndp : (av[j] :: av.eraseIdx j).Nodup := pm.nodup_iff.mpr g.avn
  obtain ⟨m1, m2⟩ := List.nodup_cons.mp ndp
  refine ⟨fun e he => ?_, nodup_snoc g.nd a2, ord_snoc g.ord (fun _ => by rw [Int.neg_neg]; exact a1), m2, fun k hk => ?_, g.frn, fun k hk => ?_⟩
  · rcases List.mem_append.mp he with h | h
    · exact g.rng e h
    · rw [List.mem_singleton] at h
      have := g.rng _ a1
      omega
  · have hk2 : k ∈ av := pm.mem_iff.mp (List.mem_cons_of_mem _ hk)
    obtain ⟨a, b, c⟩ := g.avm k hk2
    refine ⟨a, List.mem_append_left _ b, fun z => ?_⟩
    rcases List.mem_append.mp z with h | h
    · exact c h
    · rw [List.mem_singleton] at h
      have e : k = av[j] := by omega
      exact m1 (e ▸ hk)
  · obtain ⟨a, b, c⟩ := g.frm k hk
    refine ⟨a, b, fun z => ?_⟩
    rcases List.mem_append.mp z with h | h
    · exact c h
    · rw [List.mem_singleton] at h
      omega
theorem eqvT {xs ys : List Int} (h : xs = ys) : V.bl (PyData.eqv (dI xs) (dI ys)) = V.bl true := by rw [eqv_ints, decide_eq_true h]
theorem eqvF {xs ys : List Int} (h : ¬ xs = ys) : V.bl (PyData.eqv (dI xs) (dI ys)) = V.bl false := by rw [eqv_ints, decide_eq_false h]
theorem neqT {xs ys : List Int} (h : ¬ xs = ys) : V.bl (!PyData.eqv (dI xs) (dI ys)) = V.bl true := by rw [eqv_ints, decide_eq_false h]; rfl
theorem neqF {xs ys : List Int} (h : xs = ys) : V.bl (!PyData.eqv (dI xs) (dI ys)) = V.bl false := by rw [eqv_ints, decide_eq_true h]; rfl
theorem nodup_len {l : List Int} : ∀ {m : List Int}, l.Nodup → (∀ x ∈ l, x ∈ m) → l.length ≤ m.length := by
  induction l with
  | nil => intro m _ _; exact Nat.zero_le _
  | cons x r ih =>
    intro m h s
    obtain ⟨h1, h2⟩ := List.nodup_cons.mp h
    have hx := s x List.mem_cons_self
    have z := ih (m := m.erase x) h2 fun y hy => (List.mem_erase_of_ne (fun e : y = x => h1 (e ▸ hy))).mpr (s y (List.mem_cons_of_mem _ hy))
    rw [List.length_erase_of_mem hx] at z
    have := List.length_pos_of_mem hx
    show r.length + 1 ≤ m.length
    omega
/-! ### signs -/
def stp (p : Nat × Nat) (b : Bool) : Nat × Nat := if b then (p.1, p.2 + 1) else (p.1 * p.2, p.2 - 1)
def wr (bs : List Bool) : Nat × Nat := bs.foldl stp (1, 0)
def waysN (bs : List Bool) : Nat := (wr bs).1
def runN (bs : List Bool) : Nat := (wr bs).2
def upsN (bs : List Bool) : Nat := bs.count true
def dnsN (bs : List Bool) : Nat := bs.count false
theorem wr_snoc (bs : List Bool) (b : Bool) : wr (bs ++ [b]) = stp (wr bs) b := by
  unfold wr
  rw [List.foldl_append]
  rfl
theorem ways_up (bs : List Bool) : waysN (bs ++ [true]) = waysN bs := by unfold waysN; rw [wr_snoc]; rfl
theorem ways_dn (bs : List Bool) : waysN (bs ++ [false]) = waysN bs * runN bs := by unfold waysN runN; rw [wr_snoc]; rfl
theorem run_up (bs : List Bool) : runN (bs ++ [true]) = runN bs + 1 := by unfold runN; rw [wr_snoc]; rfl
theorem run_dn (bs : List Bool) : runN (bs ++ [false]) = runN bs - 1 := by unfold runN; rw [wr_snoc]; rfl
theorem ups_up (bs : List Bool) : upsN (bs ++ [true]) = upsN bs + 1 := by unfold upsN; rw [List.count_append]; rfl
theorem ups_dn (bs : List Bool) : upsN (bs ++ [false]) = upsN bs := by unfold upsN; rw [List.count_append]; rfl
theorem dns_up (bs : List Bool) : dnsN (bs ++ [true]) = dnsN bs := by unfold dnsN; rw [List.count_append]; rfl
theorem dns_dn (bs : List Bool) : dnsN (bs ++ [false]) = dnsN bs + 1 := by unfold dnsN; rw [List.count_append]; rfl
/-- nowhere more stops than starts ahead -/
def SgOk (bs : List Bool) : Prop := ∀ i, bs[i]? = some false → 0 < runN (bs.take i)
theorem sgOk_nil : SgOk [] := fun i h => by simp at h
theorem SgOk.pre {bs : List Bool} {b : Bool} (h : SgOk (bs ++ [b])) : SgOk bs := fun i hi => by
  have hl := (List.getElem?_eq_some_iff.mp hi).1
  have z := h i (by rw [List.getElem?_append_left hl]; exact hi)
  rwa [List.take_append_of_le_length (Nat.le_of_lt hl)] at z
theorem SgOk.last {bs : List Bool} (h : SgOk (bs ++ [false])) : 0 < runN bs := by
  have z := h bs.length (by rw [List.getElem?_append_right (Nat.le_refl _), Nat.sub_self]; rfl)
  rwa [List.take_append_of_le_length (Nat.le_refl _), List.take_length] at z
theorem SgOk.snoc {bs : List Bool} {b : Bool} (h : SgOk bs) (hb : b = false → 0 < runN bs) : SgOk (bs ++ [b]) := fun i hi => by
  by_cases hl : i < bs.length
  · rw [List.getElem?_append_left hl] at hi
    rw [List.take_append_of_le_length (Nat.le_of_lt hl)]
    exact h i hi
  · have h2 := (List.getElem?_eq_some_iff.mp hi).1
    rw [List.length_append, List.length_singleton] at h2
    have e : i = bs.length := by omega
    subst e
    rw [List.getElem?_append_right (Nat.le_refl _), Nat.sub_self] at hi
    rw [List.take_append_of_le_length (Nat.le_refl _), List.take_length]
    exact hb (Option.some.inj hi)
theorem SgOk.take {bs : List Bool} (h : SgOk bs) (n : Nat) : SgOk (bs.take n) := fun i hi => by
  have hl := (List.getElem?_eq_some_iff.mp hi).1
  rw [List.length_take] at hl
  rw [List.getElem?_take_of_lt (by omega)] at hi
  rw [List.take_take, Nat.min_eq_left (by omega)]
  exact h i hi
/-- induction from the end -/
theorem snoc_ind {α : Type} {P : List α → Prop} (h0 : P []) (h1 : ∀ l a, P l → P (l ++ [a])) : ∀ l, P l := by
  have key : ∀ n (l : List α), l.length = n → P l := by
    intro n
    induction n with
    | zero => intro l h; rw [List.length_eq_zero_iff.mp h]; exact h0
    | succ n ih =>
      intro l h
      have hne : l ≠ [] := fun e => by rw [e] at h; exact absurd h (by simp)
      rw [← List.dropLast_concat_getLast hne]
      exact h1 _ _ (ih _ (by rw [List.length_dropLast, h]; rfl))
  exact fun l => key _ l rfl
theorem run_eq {bs : List Bool} : SgOk bs → runN bs + dnsN bs = upsN bs := by
  refine snoc_ind (P := fun bs => SgOk bs → runN bs + dnsN bs = upsN bs) (fun _ => rfl) (fun l a ih h => ?_) bs
  have := ih h.pre
  cases a with
  | true => rw [run_up, dns_up, ups_up]; omega
  | false =>
    have := h.last
    rw [run_dn, dns_dn, ups_dn]; omega
theorem ups_dns (bs : List Bool) : upsN bs + dnsN bs = bs.length := by
  refine snoc_ind (P := fun bs => upsN bs + dnsN bs = bs.length) rfl (fun l a ih => ?_) bs
  cases a with
  | true => rw [ups_up, dns_up, List.length_append, List.length_singleton]; omega
  | false => rw [ups_dn, dns_dn, List.length_append, List.length_singleton]; omega
theorem ways_pos {bs : List Bool} : SgOk bs → 0 < waysN bs := by
  refine snoc_ind (P := fun bs => SgOk bs → 0 < waysN bs) (fun _ => by decide) (fun l a ih h => ?_) bs
  cases a with
  | true => rw [ways_up]; exact ih h.pre
  | false => rw [ways_dn]; exact Nat.mul_pos (ih h.pre) h.last
theorem ways_snoc_le {bs : List Bool} {b : Bool} (h : SgOk (bs ++ [b])) : waysN bs ≤ waysN (bs ++ [b]) := by
  cases b with
  | true => rw [ways_up]; exact Nat.le_refl _
  | false => rw [ways_dn]; exact Nat.le_mul_of_pos_right _ h.last
theorem take_snoc {α : Type} {l : List α} {i : Nat} {x : α} (h : l[i]? = some x) : l.take (i + 1) = l.take i ++ [x] := by
  rw [List.take_add_one, h]
  rfl
theorem ways_take_le {bs : List Bool} (h : SgOk bs) : ∀ k i, i + k = bs.length → waysN (bs.take i) ≤ waysN bs
  | 0, i, e => by rw [List.take_of_length_le (by omega)]; exact Nat.le_refl _
  | k + 1, i, e => by
    have hi : i < bs.length := by omega
    have e1 := take_snoc (List.getElem?_eq_getElem hi)
    have := h.take (i + 1)
    rw [e1] at this
    have z := ways_snoc_le this
    rw [← e1] at z
    exact Nat.le_trans z (ways_take_le h k (i + 1) (by omega))
theorem ways_lt {bs : List Bool} (hu : upsN bs ≤ 100) : SgOk bs → waysN bs < 2 ^ (7 * bs.length + 1) := by
  refine snoc_ind (P := fun bs => upsN bs ≤ 100 → SgOk bs → waysN bs < 2 ^ (7 * bs.length + 1)) (fun _ _ => by decide) (fun l a ih hu h => ?_) bs hu
  rw [List.length_append, List.length_singleton]
  cases a with
  | true =>
    rw [ups_up] at hu
    rw [ways_up]
    exact Nat.lt_of_lt_of_le (ih (by omega) h.pre) (Nat.pow_le_pow_right (by decide) (by omega))
  | false =>
    rw [ups_dn] at hu
    have r := run_eq h.pre
    rw [ways_dn]
    have z := ih hu h.pre
    have e : 7 * (l.length + 1) + 1 = (7 * l.length + 1) + 7 := by omega
    rw [e, Nat.pow_add]
    exact Nat.mul_lt_mul_of_lt_of_le z (by have : (2 : Nat) ^ 7 = 128 := by decide
                                           omega) (by decide)
/-! ### all histories of a shape -/
def negL (st : Nat) : List Int := (List.range st).map fun k : Nat => (0 : Int) - ((st : Int) + (k : Int) * (-1))
def ableL (st : Nat) (b : Bool) (row : List Int) : List Int := if b then [(st : Int)] else (negL st).filter fun x => decide (x ∉ row)
def evStep (p : List (List Int) × Nat) (b : Bool) : List (List Int) × Nat :=
  (p.1.flatMap (fun row => (ableL (p.2 + b.toNat) b row).map fun x => row ++ [x]), p.2 + b.toNat)
def ev (bs : List Bool) : List (List Int) × Nat := bs.foldl evStep ([[]], 0)
def everyL (bs : List Bool) : List (List Int) := (ev bs).1
theorem ev_snoc (bs : List Bool) (b : Bool) : ev (bs ++ [b]) = evStep (ev bs) b := by
  unfold ev
  rw [List.foldl_append]
  rfl
theorem ev_two (bs : List Bool) : (ev bs).2 = upsN bs := by
  refine snoc_ind (P := fun bs => (ev bs).2 = upsN bs) rfl (fun l a ih => ?_) bs
  rw [ev_snoc]
  cases a with
  | true => rw [ups_up, ← ih]; rfl
  | false => rw [ups_dn, ← ih]; rfl
theorem every_snoc (bs : List Bool) (b : Bool) : everyL (bs ++ [b]) = (everyL bs).flatMap fun row => (ableL (upsN bs + b.toNat) b row).map fun x => row ++ [x] := by
  unfold everyL
  rw [ev_snoc]
  unfold evStep
  rw [ev_two]
theorem negL_mem {st : Nat} {x : Int} : x ∈ negL st ↔ -(st : Int) ≤ x ∧ x < 0 := by
  unfold negL
  rw [List.mem_map]
  constructor
  · rintro ⟨k, hk, rfl⟩
    have := List.mem_range.mp hk
    omega
  · rintro ⟨h1, h2⟩
    exact ⟨(x + st).toNat, List.mem_range.mpr (by omega), by omega⟩
theorem nodup_map' {α β : Type} {f : α → β} (hf : ∀ x y, f x = f y → x = y) : ∀ {l : List α}, l.Nodup → (l.map f).Nodup
  | [], _ => List.nodup_nil
  | x :: r, h => by
    obtain ⟨h1, h2⟩ := List.nodup_cons.mp h
    refine List.nodup_cons.mpr ⟨fun hm => ?_, nodup_map' hf h2⟩
    obtain ⟨y, hy, e⟩ := List.mem_map.mp hm
    exact h1 (hf _ _ e ▸ hy)
theorem negL_nd (st : Nat) : (negL st).Nodup := nodup_map' (fun x y e => by omega) List.nodup_range
theorem negL_len (st : Nat) : (negL st).length = st := by unfold negL; rw [List.length_map, List.length_range]
def isNeg (x : Int) : Bool := decide (x < 0)
/-- a row: its stops -/
structure RowOk (st k : Nat) (row : List Int) : Prop where
  nd : (row.filter isNeg).Nodup
  rng : ∀ x ∈ row, -(st : Int) ≤ x ∧ x ≤ st ∧ x ≠ 0
  len : (row.filter isNeg).length = k
theorem filter_split {α : Type} (p : α → Bool) : ∀ l : List α, (l.filter p).length + (l.filter fun x => !p x).length = l.length
  | [] => rfl
  | x :: r => by
    have := filter_split p r
    rw [List.filter_cons, List.filter_cons, List.length_cons]
    cases p x
    · show (r.filter p).length + ((r.filter fun x => !p x).length + 1) = _
      omega
    · show (r.filter p).length + 1 + (r.filter fun x => !p x).length = _
      omega
theorem able_len {st k : Nat} {row : List Int} (h : RowOk st k row) : (ableL st false row).length + k = st := by
  have e : (ableL st false row) = (negL st).filter fun x => decide (x ∉ row) := rfl
  have s := filter_split (fun x => decide (x ∈ row)) (negL st)
  have e2 : ((negL st).filter fun x => !decide (x ∈ row)) = (negL st).filter fun x => decide (x ∉ row) := by
    congr 1
    funext x
    rw [decide_not]
  rw [e2, negL_len] at s
  have n1 : ((negL st).filter fun x => decide (x ∈ row)).Nodup := (negL_nd st).sublist List.filter_sublist
  have l1 : ((negL st).filter fun x => decide (x ∈ row)).length ≤ (row.filter isNeg).length := nodup_len n1 fun x hx => by
    rw [List.mem_filter] at hx
    obtain ⟨a, b⟩ := hx
    exact List.mem_filter.mpr ⟨of_decide_eq_true b, decide_eq_true (negL_mem.mp a).2⟩
  have l2 : (row.filter isNeg).length ≤ ((negL st).filter fun x => decide (x ∈ row)).length := nodup_len h.nd fun x hx => by
    rw [List.mem_filter] at hx
    obtain ⟨a, b⟩ := hx
    exact List.mem_filter.mpr ⟨negL_mem.mpr ⟨(h.rng x a).1, of_decide_eq_true b⟩, decide_eq_true a⟩
  rw [e]
  have := h.len
  omega
theorem flatMap_len {α β : Type} {f : α → List β} {c : Nat} : ∀ {l : List α}, (∀ x ∈ l, (f x).length = c) → (l.flatMap f).length = l.length * c
  | [], _ => by simp
  | x :: r, h => by
    rw [List.flatMap_cons, List.length_append, h x List.mem_cons_self, flatMap_len fun y hy => h y (List.mem_cons_of_mem _ hy), List.length_cons, Nat.succ_mul]
    omega
theorem every_ok {bs : List Bool} : SgOk bs → (∀ row ∈ everyL bs, RowOk (upsN bs) (dnsN bs) row ∧ row.length = bs.length) ∧ (everyL bs).length = waysN bs := by
  refine snoc_ind (P := fun bs => SgOk bs → (∀ row ∈ everyL bs, RowOk (upsN bs) (dnsN bs) row ∧ row.length = bs.length) ∧ (everyL bs).length = waysN bs) (fun _ => ⟨fun row hr => ?_, rfl⟩) (fun l a ih h => ?_) bs
  · have e : row = [] := List.mem_singleton.mp hr
    subst e
    exact ⟨⟨List.nodup_nil, fun x hx => absurd hx List.not_mem_nil, rfl⟩, rfl⟩
  · obtain ⟨i1, i2⟩ := ih h.pre
    rw [every_snoc]
    cases a with
    | true =>
      rw [ups_up, dns_up, ways_up]
      refine ⟨fun row hr => ?_, ?_⟩
      · obtain ⟨r0, h0, h1⟩ := List.mem_flatMap.mp hr
        obtain ⟨x, hx, rfl⟩ := List.mem_map.mp h1
        have ex : x = ((upsN l + 1 : Nat) : Int) := List.mem_singleton.mp hx
        obtain ⟨⟨a1, a2, a3⟩, a4⟩ := i1 r0 h0
        have ef : (r0 ++ [x]).filter isNeg = r0.filter isNeg := by
          rw [List.filter_append]
          have : isNeg x = false := decide_eq_false (by omega)
          rw [List.filter_cons, this]
          simp
        refine ⟨⟨by rw [ef]; exact a1, fun y hy => ?_, by rw [ef]; exact a3⟩, by rw [List.length_append, List.length_append, a4]; rfl⟩
        rcases List.mem_append.mp hy with z | z
        · have := a2 y z
          omega
        · rw [List.mem_singleton] at z
          omega
      · rw [flatMap_len (c := 1) fun row _ => by rw [List.length_map]; rfl, i2, Nat.mul_one]
    | false =>
      rw [ups_dn, dns_dn, ways_dn]
      refine ⟨fun row hr => ?_, ?_⟩
      · obtain ⟨r0, h0, h1⟩ := List.mem_flatMap.mp hr
        obtain ⟨x, hx, rfl⟩ := List.mem_map.mp h1
        have hx' : x ∈ (negL (upsN l)).filter fun x => decide (x ∉ r0) := hx
        obtain ⟨b1, b2⟩ := List.mem_filter.mp hx'
        have b3 := negL_mem.mp b1
        have b4 := of_decide_eq_true b2
        obtain ⟨⟨a1, a2, a3⟩, a4⟩ := i1 r0 h0
        have ef : (r0 ++ [x]).filter isNeg = r0.filter isNeg ++ [x] := by
          rw [List.filter_append]
          have : isNeg x = true := decide_eq_true b3.2
          rw [List.filter_cons, this]
          simp
        refine ⟨⟨?_, fun y hy => ?_, by rw [ef, List.length_append, a3]; rfl⟩, by rw [List.length_append, List.length_append, a4]; rfl⟩
        · rw [ef]
          refine List.nodup_append.mpr ⟨a1, List.nodup_cons.mpr ⟨List.not_mem_nil, List.nodup_nil⟩, fun p hp q hq e => ?_⟩
          rw [List.mem_singleton] at hq
          subst hq
          subst e
          exact b4 (List.mem_filter.mp hp).1
        · rcases List.mem_append.mp hy with z | z
          · exact a2 y z
          · rw [List.mem_singleton] at z
            omega
      · have r := run_eq h.pre
        rw [flatMap_len (c := runN l) fun row hr => by
          have := able_len (i1 row hr).1
          rw [List.length_map]
          show (ableL (upsN l) false row).length = _
          omega, i2]
/-! ### signs as text -/
def sgC (b : Bool) : Nat := if b then 43 else 45
def sgS (bs : List Bool) : Str := ⟨(bs.map sgC).toArray⟩
theorem plus_eq : ("+" : Str) = ⟨#[43]⟩ := by decide +kernel
theorem minus_eq : ("-" : Str) = ⟨#[45]⟩ := by decide +kernel
theorem sgS_len (bs : List Bool) : (sgS bs).length = bs.length := by
  show ((bs.map sgC).toArray).size = _
  rw [List.size_toArray, List.length_map]
theorem sgS_up (bs : List Bool) : sgS bs ++ ("+" : Str) = sgS (bs ++ [true]) := by
  rw [plus_eq]
  show (⟨(bs.map sgC).toArray ++ [43].toArray⟩ : Str) = ⟨((bs ++ [true]).map sgC).toArray⟩
  rw [List.map_append, List.append_toArray]
  rfl
theorem sgS_dn (bs : List Bool) : sgS bs ++ ("-" : Str) = sgS (bs ++ [false]) := by
  rw [minus_eq]
  show (⟨(bs.map sgC).toArray ++ [45].toArray⟩ : Str) = ⟨((bs ++ [false]).map sgC).toArray⟩
  rw [List.map_append, List.append_toArray]
  rfl
theorem sgS_nil : ("" : Str) = sgS [] := by decide +kernel
theorem sgS_cat (as bs : List Bool) : sgS as ++ sgS bs = sgS (as ++ bs) := by
  show (⟨(as.map sgC).toArray ++ (bs.map sgC).toArray⟩ : Str) = ⟨((as ++ bs).map sgC).toArray⟩
  rw [List.map_append, List.append_toArray]
theorem sg_get {bs : List Bool} {i c : Nat} (h : (sgS bs).cps[i]? = some c) : ∃ b, bs[i]? = some b ∧ c = sgC b := by
  have h' : (bs.map sgC)[i]? = some c := by
    rw [← h]
    exact List.getElem?_toArray.symm
  rw [List.getElem?_map] at h'
  cases e : bs[i]? with
  | none => rw [e] at h'; cases h'
  | some b => rw [e] at h'; cases h'; exact ⟨b, rfl, rfl⟩
theorem sg_size (bs : List Bool) : (sgS bs).cps.size = bs.length := sgS_len bs
theorem eqP (b : Bool) : decide (V.str ⟨#[sgC b]⟩ = V.str ("+" : Str)) = b := by
  rw [plus_eq]
  cases b
  · exact decide_eq_false fun e => by have := V.str.inj e; revert this; decide
  · exact decide_eq_true rfl
theorem eqM (b : Bool) : decide (V.str ⟨#[sgC b]⟩ = V.str ("-" : Str)) = !b := by
  rw [minus_eq]
  cases b
  · exact decide_eq_true rfl
  · exact decide_eq_false fun e => by have := V.str.inj e; revert this; decide
theorem blP (b : Bool) : V.bl (decide (V.str ⟨#[sgC b]⟩ = V.str ("+" : Str))) = V.bl b := congrArg V.bl (eqP b)
theorem blM (b : Bool) : V.bl (decide (V.str ⟨#[sgC b]⟩ = V.str ("-" : Str))) = V.bl (!b) := congrArg V.bl (eqM b)
theorem cnt_sg (b : Bool) : ∀ bs : List Bool, PyProof.Rows.cnt (sgC b) (bs.map sgC) = ((bs.count b : Nat) : Int)
  | [] => rfl
  | x :: r => by
    rw [List.map_cons, PyProof.Rows.cnt_cons, cnt_sg b r, List.count_cons]
    cases x <;> cases b <;> (simp [sgC]; try omega)
theorem count_P (bs : List Bool) : Txt.count (sgS bs) ("+" : Str) = ((upsN bs : Nat) : Int) := by
  rw [plus_eq, PyProof.Rows.count_cnt]
  exact cnt_sg true bs
theorem count_M (bs : List Bool) : Txt.count (sgS bs) ("-" : Str) = ((dnsN bs : Nat) : Int) := by
  rw [minus_eq, PyProof.Rows.count_cnt]
  exact cnt_sg false bs
theorem cut_sg (bs : List Bool) (k : Nat) (h : k ≤ bs.length) : cutS (sgS bs) none (some (k : Int)) = sgS (bs.take k) := by
  unfold cutS
  rw [HT.sIx_none, HT.sIx_nat, sgS_len, List.drop_zero, Nat.sub_zero, Nat.min_eq_left h]
  show (⟨(((bs.map sgC).toArray.toList).take k).toArray⟩ : Str) = ⟨((bs.take k).map sgC).toArray⟩
  rw [List.map_take]
section
variable {P : Program} {w : World} {K : PySem.W.Frag} {mg : Str → Option Value} {base : Heap}
/-! ### draws -/
/-- the list of three ints that draws are made of: at most n draws were made in the second way -/
def Src (H : Hp) (a : Addr) (n : Nat) : Prop := ∃ x y z : Int, H a = some (.lst [.int x, .int y, .int z]) ∧ 0 ≤ y ∧ y < 2 ^ 300 ∧ 0 ≤ z ∧ z ≤ (n : Int)
theorem Src.mono {H : Hp} {a : Addr} {n m : Nat} (h : Src H a n) (l : n ≤ m) : Src H a m := by
  obtain ⟨x, y, z, h1, h2, h3, h4, h5⟩ := h
  exact ⟨x, y, z, h1, h2, h3, h4, by omega⟩
theorem Src.bt {H H' : Hp} {a b : Addr} {n : Nat} (h : Src H a n) (x : Bt b H H') (e : a ≠ b) : Src H' a n := by
  obtain ⟨p, y, z, h1, h2⟩ := h
  exact ⟨p, y, z, x _ _ e h1, h2⟩
theorem Src.same {H H' : Hp} {a : Addr} {n : Nat} (h : Src H a n) (x : Same H H') : Src H' a n := by
  obtain ⟨p, y, z, h1, h2⟩ := h
  exact ⟨p, y, z, x _ _ h1, h2⟩
theorem Src.new {H : Hp} {a p : Addr} {n : Nat} {o : HO} (h : Src H a n) (e : H p = none) : Src (upd H p o) a n := h.same (same_new e)
theorem Src.ne {H : Hp} {a p : Addr} {n : Nat} (h : Src H a n) (e : H p = none) : p ≠ a := fun z => by
  obtain ⟨_, _, _, h1, _⟩ := h
  rw [← z, e] at h1
  cases h1
theorem Src.upd {H : Hp} {a p : Addr} {n : Nat} {o : HO} (h : Src H a n) (e : p ≠ a) : Src (upd H p o) a n := by
  obtain ⟨x, y, z, h1, h2⟩ := h
  exact ⟨x, y, z, by rw [upd_ne e.symm]; exact h1, h2⟩
def spDraw : Sp := fun vs H Q _ => ∃ (a : Addr) (m : Int) (n : Nat), vs = [.ref a, .int m] ∧ Src H a n ∧ n ≤ 1000000 ∧ 1 ≤ m ∧ m ≤ 1000000 ∧ ∀ r H', 0 ≤ r → r < m → Src H' a (n + 1) → Bt a H H' → Q (.int r) H'
theorem lt_pow {i : Int} {n : Nat} (h0 : 0 ≤ i) (h : i < 2 ^ n) : i.natAbs < 2 ^ n := by
  have e : ((i.natAbs : Nat) : Int) = i := Int.natAbs_of_nonneg h0
  have h' : ((i.natAbs : Nat) : Int) < ((2 ^ n : Nat) : Int) := by
    rw [e]
    simpa using h
  exact Int.ofNat_lt.mp h'
theorem zz_le {z : Int} (h0 : 0 ≤ z) (h : z ≤ 1000001) : z * z ≤ 1000002000001 := by
  have := Int.mul_le_mul h h h0 (by decide)
  omega
theorem ok_law_draw {f : Addr} {fd : FuncData} (F : Fun K "_law_draw" "_law_draw" s_law_draw f fd) : FnG P w K mg base CX0 1 f fd ["pool", "many"] spDraw := by
  refine okG F sc_law_draw (fun vs H Q E h => ?_) (fun cdv A outer s H vs Q E hG hr h => ?_)
  · obtain ⟨a, m, n, rfl, _⟩ := h
    rfl
  · obtain ⟨a, m, n, rfl, ⟨x, y, z, ha, y0, y1, z0, z1⟩, hn, m0, m1, q⟩ := h
    refine ⟨_, (pss_cons (ps_if (pt_cmpR op_gt (pe_ix ix_list (pv 0) pe_int (fun _ _ => rfl)) pe_int (nomark _)) (pss_cons (ps_set (i := 2) sc_law_draw.nd rfl (Or.inl rfl) (pe_op op_mod (pe_ix ix_list (pv 0) pe_int (fun _ _ => rfl)) (pv 1)))
          (pss_cons (ps_asg (pe_op op_fdivW (pe_ix ix_list (pv 0) pe_int (fun _ _ => rfl)) (pv 1)) (pg_sub (pv 0) pe_int set_list))
          (pss_one (ps_ret (pv 2))))) pss_nil)
        (pss_cons (ps_asg (pe_op op_add (pe_ix ix_list (pv 0) pe_int (fun _ _ => rfl)) pe_int) (pg_sub (pv 0) pe_int set_list))
        (pss_cons (ps_set (i := 3) sc_law_draw.nd rfl (Or.inl rfl) (pe_op op_mod (pe_op op_powW (pe_op op_add (pe_ix ix_list (pv 0) pe_int (fun _ _ => rfl)) (pe_op op_mulW pe_int (pe_ix ix_list (pv 0) pe_int (fun _ _ => rfl)))) pe_int) (pe_op op_add (pe_op op_powW pe_int pe_int) pe_int)))
        (pss_cons (ps_set (i := 3) sc_law_draw.nd rfl (Or.inl rfl) (pe_op op_mod (pe_op op_powW (pe_op op_add (pv 3) (pe_op op_mulW pe_int (pe_ix ix_list (pv 0) pe_int (fun _ _ => rfl)))) pe_int) (pe_op op_add (pe_op op_powW pe_int pe_int) pe_int)))
        (pss_one (ps_ret (pe_op op_mod (pe_op op_fdivW (pv 3) pe_int) (pv 1)))))))), ?_⟩
    have hS : SqL K H a [.int x, .int y, .int z] := .of ha
    by_cases hx : 0 < x
    · refine ⟨_, rfl, a, _, 0, _, rfl, rfl, hS, at0, _, _, rfl, rfl, true, dT hx, ?_⟩
      refine ⟨_, rfl, a, _, 0, _, rfl, rfl, hS, at0, _, rfl, _, _, rfl, rfl, (by show (0 : Int) < m; omega), ?_⟩
      refine ⟨_, rfl, a, _, 0, _, rfl, rfl, hS, at0, _, rfl, _, _, rfl, rfl, wide_div (b := 30) (by omega) (lt_pow (by omega) (by omega)) (by decide) (by decide), ?_⟩
      refine ⟨_, rfl, a, _, 0, 0, rfl, rfl, ha, rfl, _, rfl, ?_⟩
      exact q _ _ (Int.emod_nonneg _ (by omega)) (Int.emod_lt_of_pos _ (by omega)) ⟨_, _, _, upd_same, y0, y1, z0, by omega⟩ (.at_ _ _ _)
    · refine ⟨_, rfl, a, _, 0, _, rfl, rfl, hS, at0, _, _, rfl, rfl, false, dF hx, ?_⟩
      refine ⟨_, rfl, a, _, 2, _, rfl, rfl, hS, at2, _, _, rfl, rfl, _, rfl, a, _, 2, 2, rfl, rfl, ha, rfl, ?_⟩
      have hS2 : SqL K (upd H a (.lst [.int x, .int y, .int (z + 1)])) a [.int x, .int y, .int (z + 1)] := .of upd_same
      have c1 : CPowW (y + 69061 * (z + 1)) 3 := powW_ok (n := 400) (lt_pow (by omega) (by omega)) (by decide) (by decide)
      have p1 : CPowW 10 41 := powW_ok (n := 4) (by decide) (by decide) (by decide)
      have p2 : CPowW 10 38 := powW_ok (n := 4) (by decide) (by decide) (by decide)
      have k1 : (10 : Int) ^ (41 : Int).toNat + 37 = 100000000000000000000000000000000000000037 := by decide +kernel
      have k2 : (10 : Int) ^ (38 : Int).toNat + 133 = 100000000000000000000000000000000000133 := by decide +kernel
      have n1 : (0 : Int) < 10 ^ (41 : Int).toNat + 37 := by rw [k1]; decide
      have n2 : (0 : Int) < 10 ^ (38 : Int).toNat + 133 := by rw [k2]; decide
      refine ⟨_, rfl, a, _, 1, _, rfl, rfl, hS2, at1, _, rfl, a, _, 2, _, rfl, rfl, hS2, at2, _, _, rfl, rfl, wide_mul (a := 30) (b := 30) (by decide) (lt_pow (by omega) (by omega)) (by decide) (by decide) (by decide), _, _, rfl, rfl, _, _, rfl, rfl, c1, _, _, rfl, rfl, p1, _, _, rfl, rfl, _, _, rfl, rfl, n1, ?_⟩
      generalize (y + 69061 * (z + 1)) ^ (3 : Int).toNat = big
      have b0 : 0 ≤ big % (10 ^ (41 : Int).toNat + 37) := Int.emod_nonneg _ (Int.ne_of_gt n1)
      have b1 : big % (10 ^ (41 : Int).toNat + 37) < 100000000000000000000000000000000000000037 := by
        have := Int.emod_lt_of_pos big n1
        rw [k1] at this
        rw [k1]
        exact this
      have c2 : ∀ mx : Int, 0 ≤ mx → mx < 100000000000000000000000000000000000000037 → CPowW (mx + 88469 * (z + 1)) 3 := fun mx b0 b1 => powW_ok (n := 400) (lt_pow (by omega) (by omega)) (by decide) (by decide)
      refine ⟨_, rfl, _, rfl, a, _, 2, _, rfl, rfl, hS2, at2, _, _, rfl, rfl, wide_mul (a := 30) (b := 30) (by decide) (lt_pow (by omega) (by omega)) (by decide) (by decide) (by decide), _, _, rfl, rfl, _, _, rfl, rfl, c2 _ b0 b1, _, _, rfl, rfl, p2, _, _, rfl, rfl, _, _, rfl, rfl, n2, ?_⟩
      refine ⟨_, rfl, _, _, rfl, rfl, wide_div (b := 30) (by decide) (by decide) (by decide) (by decide), _, rfl, _, _, rfl, rfl, (by show (0 : Int) < m; omega), ?_⟩
      exact q _ _ (Int.emod_nonneg _ (by omega)) (Int.emod_lt_of_pos _ (by omega)) ⟨_, _, _, upd_same, y0, y1, by omega, by omega⟩ (.at_ _ _ _)
/-! ### the pool of draws -/
def spPool (K : PySem.W.Frag) : Sp := fun vs H Q _ => ∃ (a : Addr) (ns : List Int) (k : Nat), vs = [.ref a, .int (k : Int)] ∧ SqL K H a (ns.map V.int) ∧ k ≤ 1000 ∧ ∀ H' p, Same H H' → H p = none → Src H' p 0 → Q (.ref p) H'
theorem ok_law_pool {f : Addr} {fd : FuncData} (F : Fun K "_law_pool" "_law_pool" s_law_pool f fd) (B : NoB mg) : FnG P w K mg base CX0 1 f fd ["script", "k"] (spPool K) := by
  refine okG F sc_law_pool (fun vs H Q E h => ?_) (fun cdv A outer s H vs Q E hG hr h => ?_)
  · obtain ⟨a, ns, k, rfl, _⟩ := h
    rfl
  · obtain ⟨a, ns, k, rfl, hS, hk, q⟩ := h
    refine ⟨_, (pss_cons (ps_set (i := 2) sc_law_pool.nd rfl (Or.inl rfl) pe_int)
        (Evl.pss_cut (ps_if (pt_cmpR op_lt (pv 1) (pe_callB call_len_seq (by rfl) B.len PySem.boot_len (pa_cons (pv 0) pa_nil)) (nomark _)) (pss_one (ps_set (i := 2) sc_law_pool.nd rfl (Or.inl rfl) (pe_ix ix_list (pv 0) (pv 1) (fun _ _ => rfl)))) pss_nil)
        (pss_one (ps_ret (pe_lst (pa_cons (pe_callB (call_max2 rfl) (by rfl) B.max (by decide +kernel) (pa_cons pe_int (pa_cons (pe_op op_sub (pv 2) (pe_op op_powW pe_int pe_int)) pa_nil))) (pa_cons (pe_op op_add (pe_op op_mulW (pe_op op_mod (pv 2) (pe_op op_add (pe_op op_powW pe_int pe_int) pe_int)) pe_int) (pv 1)) (pa_cons pe_int pa_nil)))))))), ?_⟩
    refine ⟨fun σ' H' => (∃ c : Int, σ' = [some (.ref a), some (.int (k : Int)), some (.int c)]) ∧ H' = H, ?_, fun σ' H' hm => ?_⟩
    · by_cases hlt : k < ns.length
      · refine ⟨_, rfl, _, rfl, a, _, rfl, .inl hS, _, _, rfl, rfl, true, dT (by rw [List.length_map]; omega), ?_⟩
        exact ⟨_, rfl, _, rfl, a, _, _, _, rfl, rfl, hS, atI_nat (get_at hlt), ⟨_, rfl⟩, rfl⟩
      · refine ⟨_, rfl, _, rfl, a, _, rfl, .inl hS, _, _, rfl, rfl, false, dF (by rw [List.length_map]; omega), ⟨_, rfl⟩, rfl⟩
    · obtain ⟨⟨c, rfl⟩, rfl⟩ := hm
      have p1 : CPowW 10 18 := powW_ok (n := 4) (by decide) (by decide) (by decide)
      have p2 : CPowW 10 40 := powW_ok (n := 4) (by decide) (by decide) (by decide)
      have e : (10 : Int) ^ (40 : Int).toNat + 121 = 10000000000000000000000000000000000000121 := by decide +kernel
      have m0 : (0 : Int) < 10 ^ (40 : Int).toNat + 121 := by rw [e]; decide
      have r0 := Int.emod_nonneg c (Int.ne_of_gt m0)
      have r1 := Int.emod_lt_of_pos c m0
      have r2 : c % (10 ^ (40 : Int).toNat + 121) < 10000000000000000000000000000000000000121 := by
        rw [e] at r1
        rw [e]
        exact r1
      refine ⟨_, rfl, _, _, rfl, rfl, p1, _, _, rfl, rfl, _, _, rfl, _, rfl, _, _, rfl, rfl, p2, _, _, rfl, rfl, _, _, rfl, rfl, m0, _, _, rfl, rfl, wide_mul (a := 200) (b := 30) (lt_pow r0 (by omega)) (by decide) (by decide) (by decide) (by decide),
        _, rfl, _, _, rfl, rfl, by show 3 ≤ sizeLine; decide, fun p np => q _ p (same_new np) np ?_⟩
      exact ⟨_, _, _, upd_same, by omega, by omega, Int.le_refl _, Int.le_refl _⟩
end
theorem sg_len {bs : List Bool} (ok : SgOk bs) (u : upsN bs ≤ 100) : bs.length ≤ 200 := by
  have a := run_eq ok
  have b := ups_dns bs
  omega
theorem wide_ways {bs : List Bool} (ok : SgOk bs) (u : upsN bs ≤ 100) : CMulW ((waysN bs : Nat) : Int) ((runN bs : Nat) : Int) := by
  have l := sg_len ok u
  have a := run_eq ok
  refine wide_mul (a := 1401) (b := 30) (lt_pow (by omega) ?_) (lt_pow (by omega) (by omega)) (by decide) (by decide) (by decide)
  have z := Nat.lt_of_lt_of_le (ways_lt u ok) (Nat.pow_le_pow_right (by decide) (show 7 * bs.length + 1 ≤ 1401 by omega))
  have := Int.ofNat_lt.mpr z
  rwa [Int.natCast_pow] at this
theorem ups_take {bs : List Bool} (u : upsN bs ≤ 100) (i : Nat) : upsN (bs.take i) ≤ 100 := Nat.le_trans (List.Sublist.count_le _ (List.take_sublist i bs)) u
section
variable {P : Program} {w : World} {K : PySem.W.Frag} {mg : Str → Option Value} {base : Heap}
/-! ### _law_signs -/
def spSigns (K : PySem.W.Frag) : Sp := fun vs H Q _ => ∃ (src sc : Addr) (ns : List Int) (n : Nat) (H0 : Hp), vs = [.ref src, .ref sc] ∧ Src H src n ∧ n ≤ 800000 ∧ SqL K H0 sc (ns.map V.int) ∧ H0 src = none ∧ Bt src H0 H ∧
  ∀ (H' : Hp) (bs : List Bool), SgOk bs → upsN bs ≤ 100 → 0 < bs.length → bs.length ≤ 200 → Bt src H H' → Src H' src (n + 500) → Q (.str (sgS bs)) H'
set_option maxHeartbeats 1000000 in
theorem ok_law_signs {f : Addr} {fd : FuncData} (F : Fun K "_law_signs" "_law_signs" s_law_signs f fd) (B : NoB mg) (T_law_draw : Gc P w K mg base 1 "_law_draw" spDraw) : FnG P w K mg base CX0 2 f fd ["pool", "script"] (spSigns K) := by
  refine okG F sc_law_signs (fun vs H Q E h => ?_) (fun cdv A outer s H vs Q E hG hr h => ?_)
  · obtain ⟨src, sc, ns, n, H0, rfl, _⟩ := h
    rfl
  · obtain ⟨src, sc, ns, n, H0, rfl, hs, hn, hS, h0, b0, q⟩ := h
    have hu64 := hr.units
    refine ⟨_, (pss_cons (ps_par (i := 2) (j := 3) (by rfl) sc_law_signs.nd rfl rfl (by decide) rfl rfl (pa_cons (pe_ix ix_list (pe_lst (pa_cons (pe_op op_add pe_int (pe_g T_law_draw hG hr (by decide) (by rfl) (pa_cons (pv 0) (pa_cons pe_int pa_nil)))) (pa_cons (pe_op op_add pe_int (pe_g T_law_draw hG hr (by decide) (by rfl) (pa_cons (pv 0) (pa_cons pe_int pa_nil)))) (pa_cons pe_int pa_nil)))) (pe_g T_law_draw hG hr (by decide) (by rfl) (pa_cons (pv 0) (pa_cons pe_int pa_nil))) (fun _ _ => rfl)) (pa_cons (pe_g T_law_draw hG hr (by decide) (by rfl) (pa_cons (pv 0) (pa_cons pe_int pa_nil))) pa_nil)) (by rfl))
        (pss_cons (ps_set (i := 4) sc_law_signs.nd rfl (Or.inl rfl) (pe_op op_add pe_int (pe_g T_law_draw hG hr (by decide) (by rfl) (pa_cons (pv 0) (pa_cons pe_int pa_nil)))))
        (pss_cons (ps_asg (pe_mid (pe_ifExp (pt_cmpR (op_eqD hu64) (pv 1) (pe_lst pa_nil) (nomark _)) (pe_tup (pa_cons pe_int (pa_cons pe_int (pa_cons pe_int pa_nil)))) (pe_tup (pa_cons (pv 2) (pa_cons (pv 3) (pa_cons (pv 4) pa_nil)))))) (pg_tup rfl (pgs_cons (pg_name (i := 2) sc_law_signs.nd rfl (Or.inl rfl)) (pgs_cons (pg_name (i := 3) sc_law_signs.nd rfl (Or.inl rfl)) (pgs_cons (pg_name (i := 4) sc_law_signs.nd rfl (Or.inl rfl)) pgs_nil)))))
        (pss_cons (ps_asg (pe_tup (pa_cons pe_str (pa_cons pe_int (pa_cons pe_int pa_nil)))) (pg_tup rfl (pgs_cons (pg_name (i := 5) sc_law_signs.nd rfl (Or.inl rfl)) (pgs_cons (pg_name (i := 6) sc_law_signs.nd rfl (Or.inl rfl)) (pgs_cons (pg_name (i := 7) sc_law_signs.nd rfl (Or.inl rfl)) pgs_nil)))))
        (pss_cons (ps_for PassesOwn.never rfl (pi_range1 rfl B.range (pa_cons (pv 2) pa_nil)) (pg_name (i := 8) sc_law_signs.nd rfl (Or.inl rfl))
          (pss_cons (ps_set (i := 9) sc_law_signs.nd rfl (Or.inl rfl) (pe_g T_law_draw hG hr (by decide) (by rfl) (pa_cons (pv 0) (pa_cons pe_int pa_nil))))
          (pss_cons (ps_set (i := 10) sc_law_signs.nd rfl (Or.inl rfl) (pe_ix ix_list (pe_lst (pa_cons (pe_cmpR op_gt (pv 9) pe_int (nomark _)) (pa_cons (pe_cmpR op_eq (pv 6) pe_int (nomark _)) (pa_cons (pe_cmpR op_lt (pv 7) (pv 4) (nomark _)) (pa_cons (pe_cmpR op_lt (pv 6) (pe_op op_add (pe_op op_mod (pv 4) pe_int) (pv 9)) (nomark _)) pa_nil))))) (pv 3) (fun _ _ => rfl)))
          (pss_one (ps_if (pt_mid (PW.pt (pw_or (pt_cmpR op_eq (pv 6) pe_int (nomark _)) (pw_or1 (PW.pt (pw_and (pt_cmpR op_lt (pv 7) pe_int (nomark _)) (pw_and1 (pt_val (pv 10))))))))) (pss_cons (ps_if (pt_cmpR op_eq (pv 7) pe_int (nomark _)) (pss_one (ps_ret (pv 5))) pss_nil)
            (pss_one (ps_par3 (i := 5) (j := 6) (l := 7) (by rfl) sc_law_signs.nd rfl rfl rfl (by decide) (by decide) (by decide) rfl rfl rfl (pa_cons (pe_op op_add_str (pv 5) pe_str) (pa_cons (pe_op op_add (pv 6) pe_int) (pa_cons (pe_op op_add (pv 7) pe_int) pa_nil))) (by rfl)))) (pss_one (ps_par (i := 5) (j := 6) (by rfl) sc_law_signs.nd rfl rfl (by decide) rfl rfl (pa_cons (pe_op op_add_str (pv 5) pe_str) (pa_cons (pe_op op_sub (pv 6) pe_int) pa_nil)) (by rfl))))))))
        (pss_one (ps_ret (pv 5)))))))), ?_⟩
    refine ⟨_, rfl, src, 8, n, rfl, hs, by omega, by decide, by decide, fun r1 H1 r10 r11 hs1 b1 => ⟨_, _, rfl, rfl, ?_⟩⟩
    refine ⟨_, rfl, src, 60, n + 1, rfl, hs1, by omega, by decide, by decide, fun r2 H2 r20 r21 hs2 b2 => ⟨_, _, rfl, rfl, ?_⟩⟩
    refine ⟨by show 3 ≤ sizeLine; decide, fun L nL => ?_⟩
    refine ⟨_, rfl, src, 3, n + 2, rfl, hs2.new nL, by omega, by decide, by decide, fun r3 H3 r30 r31 hs3 b3 => ?_⟩
    have nLs := hs2.ne nL
    have hL3 : H3 L = some (.lst [.int (1 + r1), .int (1 + r2), .int 200]) := b3 _ _ nLs upd_same
    obtain ⟨many, em, k1, k2⟩ : ∃ m : Int, atI [V.int (1 + r1), .int (1 + r2), .int 200] r3 = some (.int m) ∧ 1 ≤ m ∧ m ≤ 200 := by
      have c : r3 = 0 ∨ r3 = 1 ∨ r3 = 2 := by omega
      rcases c with rfl | rfl | rfl
      · exact ⟨_, at0, by omega, by omega⟩
      · exact ⟨_, at1, by omega, by omega⟩
      · exact ⟨_, at2, by omega, by omega⟩
    have b03 : Bt src H H3 := ((b1.trans b2).add nL).trans b3
    refine ⟨L, _, r3, _, rfl, rfl, .of hL3, em, ?_⟩
    refine ⟨_, rfl, src, 4, n + 3, rfl, hs3, by omega, by decide, by decide, fun st H4 st0 st1 hs4 b4 => ⟨_, _, rfl, ?_⟩⟩
    refine ⟨_, rfl, src, 100, n + 4, rfl, hs4, by omega, by decide, by decide, fun wd H5 wd0 wd1 hs5 b5 => ⟨_, _, rfl, rfl, ?_⟩⟩
    have b05 := (b03.trans b4).trans b5
    refine ⟨fun v H6 => ∃ (T : Addr) (m s d : Int), v = .ref T ∧ H6 T = some (.tup [.int m, .int s, .int d]) ∧ 1 ≤ m ∧ m ≤ 200 ∧ 0 ≤ s ∧ s < 4 ∧ 1 ≤ d ∧ d ≤ 100 ∧ Src H6 src (n + 5) ∧ Bt src H H6, ?_, fun v H6 hm => ?_⟩
    · refine ⟨_, rfl, Nat.zero_le _, fun e ne => ?_⟩
      have hsc : SqL K H5 sc (ns.map V.int) := seqN hS h0 (Same.refl _) (b0.trans b05)
      have hsc2 := (same_new (o := .lst []) ne).seq hsc
      by_cases hb : ns = []
      · refine ⟨dI ns, dI [], dp_ints hsc2, dp_ints (ns := []) (.of upd_same), shaped_ints _, shaped_ints _, true, eqvT hb, ?_⟩
        exact ⟨by show 3 ≤ sizeLine; decide, fun T nT => ⟨T, _, _, _, rfl, upd_same, by decide, by decide, by decide, by decide, by decide, by decide, (hs5.new ne).new nT, (b05.add ne).add nT⟩⟩
      · refine ⟨dI ns, dI [], dp_ints hsc2, dp_ints (ns := []) (.of upd_same), shaped_ints _, shaped_ints _, false, eqvF hb, ?_⟩
        exact ⟨_, rfl, _, rfl, _, rfl, by show 3 ≤ sizeLine; decide, fun T nT => ⟨T, _, _, _, rfl, upd_same, k1, k2, st0, st1, by omega, by omega, (hs5.new ne).new nT, (b05.add ne).add nT⟩⟩
    · obtain ⟨T, m, sy, d, rfl, hT, m0, m1, s0, s1, d0, d1, hs6, b6⟩ := hm
      refine ⟨T, _, rfl, .of hT, rfl, _, _, rfl, _, _, rfl, _, _, rfl, rfl, ?_⟩
      refine ⟨by show 3 ≤ sizeLine; decide, fun T2 nT2 => ⟨T2, _, rfl, .of upd_same, rfl, _, _, rfl, _, _, rfl, _, _, rfl, rfl, ?_⟩⟩
      refine ⟨_, rfl, m, rfl, by omega, by omega, for_range (lo := 0) (n := m.toNat) (fun i σ H' => ∃ (y1 y2 y3 : Option V) (z : Str) (rn up : Int) (bs : List Bool), σ = [some (.ref src), some (.ref sc), some (.int m), some (.int sy), some (.int d), some (.str z), some (.int rn), some (.int up), y1, y2, y3] ∧
        z = sgS bs ∧ rn = ((runN bs : Nat) : Int) ∧ up = ((upsN bs : Nat) : Int) ∧ SgOk bs ∧ upsN bs ≤ 100 ∧ bs.length = i ∧ Src H' src (n + 5 + i) ∧ Bt src H H')
        ⟨_, _, _, _, _, _, [], rfl, sgS_nil, rfl, rfl, sgOk_nil, by decide, rfl, hs6.new nT2, b6.add nT2⟩ (fun i σ H' hi h => ?_) (fun σ H' h => ?_)⟩
      · obtain ⟨y1, y2, y3, z, rn, up, bs, rfl, rfl, rfl, rfl, ok, u1, le, hsi, bi⟩ := h
        refine ⟨_, rfl, src, 4, n + 5 + i, rfl, hsi, by omega, by decide, by decide, fun hit G1 h0' h1' hg1 c1 => ?_⟩
        refine ⟨_, rfl, _, _, rfl, rfl, _, rfl, rfl, _, rfl, _, rfl, _, _, rfl, rfl, _, rfl, _, rfl, _, _, rfl, rfl, (by decide : (0 : Int) < 5), _, rfl, _, _, rfl, rfl, _, _, rfl, rfl, by show 4 ≤ sizeLine; decide, fun L2 nL2 => ?_⟩
        obtain ⟨bb, ebb⟩ : ∃ bb : Bool, atI [V.bl (decide (1 < hit)), V.bl (decide (V.int ((runN bs : Nat) : Int) = V.int 0)), V.bl (decide (((upsN bs : Nat) : Int) < d)), V.bl (decide (((runN bs : Nat) : Int) < d % 5 + hit))] sy = some (.bl bb) := by
          have c : sy = 0 ∨ sy = 1 ∨ sy = 2 ∨ sy = 3 := by omega
          rcases c with rfl | rfl | rfl | rfl
          · exact ⟨_, at0⟩
          · exact ⟨_, at1⟩
          · exact ⟨_, at2⟩
          · exact ⟨_, atI_nat (j := 3) rfl⟩
        refine ⟨_, rfl, L2, _, sy, .bl bb, rfl, rfl, .of upd_same, ebb, ?_⟩
        have hg2 := hg1.new (o := .lst [V.bl (decide (1 < hit)), V.bl (decide (V.int ((runN bs : Nat) : Int) = V.int 0)), V.bl (decide (((upsN bs : Nat) : Int) < d)), V.bl (decide (((runN bs : Nat) : Int) < d % 5 + hit))]) nL2
        have c2 := (bi.trans c1).add (o := .lst [V.bl (decide (1 < hit)), V.bl (decide (V.int ((runN bs : Nat) : Int) = V.int 0)), V.bl (decide (((upsN bs : Nat) : Int) < d)), V.bl (decide (((runN bs : Nat) : Int) < d % 5 + hit))]) nL2
        generalize upd G1 L2 (.lst [V.bl (decide (1 < hit)), V.bl (decide (V.int ((runN bs : Nat) : Int) = V.int 0)), V.bl (decide (((upsN bs : Nat) : Int) < d)), V.bl (decide (((runN bs : Nat) : Int) < d % 5 + hit))]) = G2 at hg2 c2 ⊢
        refine ⟨fun b H3 => H3 = G2 ∧ (b = false → 0 < runN bs), ?_, fun b H3 hM => ?_⟩
        · by_cases hr0 : runN bs = 0
          · exact ⟨_, rfl, rfl, true, dT (by rw [hr0]; rfl), rfl, fun z => nomatch z⟩
          · refine ⟨_, rfl, rfl, false, dF (vne (by omega)), ?_⟩
            by_cases hu1 : ((upsN bs : Nat) : Int) < 100
            · exact ⟨_, rfl, _, _, rfl, rfl, true, dT hu1, _, rfl, bb, rfl, rfl, fun _ => Nat.pos_of_ne_zero hr0⟩
            · exact ⟨_, rfl, _, _, rfl, rfl, false, dF hu1, rfl, fun _ => Nat.pos_of_ne_zero hr0⟩
        · obtain ⟨rfl, hb1⟩ := hM
          cases b with
          | true =>
            by_cases hu1 : upsN bs = 100
            · refine ⟨_, rfl, rfl, true, dT (by rw [hu1]; rfl), ?_⟩
              have pos : 0 < bs.length := by
                have := ups_dns bs
                omega
              exact ⟨_, rfl, q _ bs ok u1 pos (by omega) c2 (hg2.mono (by omega))⟩
            · refine ⟨_, rfl, rfl, false, dF (vne (by omega)), ?_⟩
              have hz : (sgS bs).length + ("+" : Str).length ≤ sizeLine := by
                rw [sgS_len]
                exact zs (by show bs.length + 1 ≤ _; omega)
              refine ⟨_, rfl, _, _, rfl, rfl, hz, _, rfl, _, _, rfl, rfl, _, rfl, _, _, rfl, rfl, _, _, _, rfl, ?_⟩
              refine ⟨_, _, _, _, _, _, bs ++ [true], rfl, sgS_up bs, ?_, ?_, ok.snoc (fun z => nomatch z), by rw [ups_up]; omega, by rw [List.length_append, le]; rfl, hg2.mono (by omega), c2⟩
              · rw [run_up]; omega
              · rw [ups_up]; omega
          | false =>
            have hrp := hb1 rfl
            have hz : (sgS bs).length + ("-" : Str).length ≤ sizeLine := by
              rw [sgS_len]
              exact zs (by show bs.length + 1 ≤ _; omega)
            refine ⟨_, rfl, _, _, rfl, rfl, hz, _, rfl, _, _, rfl, rfl, _, _, rfl, ?_⟩
            refine ⟨_, _, _, _, _, _, bs ++ [false], rfl, sgS_dn bs, ?_, ?_, ok.snoc (fun _ => hrp), by rw [ups_dn]; exact u1, by rw [List.length_append, le]; rfl, hg2.mono (by omega), c2⟩
            · rw [run_dn]; omega
            · rw [ups_dn]
      · obtain ⟨y1, y2, y3, z, rn, up, bs, rfl, rfl, rfl, rfl, ok, u1, le, hsi, bi⟩ := h
        exact ⟨_, rfl, q _ bs ok u1 (by omega) (by omega) bi (hsi.mono (by omega))⟩
end
end L54
set_option Elab.async false
set_option linter.all false
set_option maxRecDepth 100000
namespace L54
open PySem PySem.Spec PyProof.Rows L2 Lp
/-! ### any text as a shape -/
def stepC (o : Option Nat) (c : Nat) : Option Nat := o.bind fun r => if c = 43 then some (r + 1) else if c = 45 ∧ 0 < r then some (r - 1) else none
def scanL (cs : List Nat) : Option Nat := cs.foldl stepC (some 0)
theorem scan_snoc (cs : List Nat) (c : Nat) : scanL (cs ++ [c]) = stepC (scanL cs) c := by
  unfold scanL
  rw [List.foldl_append]
  rfl
theorem scan_dead : ∀ k : List Nat, k.foldl stepC none = none
  | [] => rfl
  | _ :: k => scan_dead k
theorem scan_pre {cs : List Nat} (k : List Nat) (h : scanL cs = none) : scanL (cs ++ k) = none := by
  unfold scanL at *
  rw [List.foldl_append, h]
  exact scan_dead k
def shapeB (cs : List Nat) : Bool := (scanL cs).isSome && decide (cs.count 43 ≤ 100)
theorem step_up (r : Nat) : stepC (some r) 43 = some (r + 1) := rfl
theorem step_dn {r : Nat} (h : 0 < r) : stepC (some r) 45 = some (r - 1) := by
  show (if (45 : Nat) = 43 then some (r + 1) else if (45 : Nat) = 45 ∧ 0 < r then some (r - 1) else none) = _
  rw [if_neg (by decide), if_pos ⟨rfl, h⟩]
theorem step_no {r c : Nat} (h1 : c ≠ 43) (h2 : ¬ (c = 45 ∧ 0 < r)) : stepC (some r) c = none := by
  show (if c = 43 then some (r + 1) else if c = 45 ∧ 0 < r then some (r - 1) else none) = none
  rw [if_neg h1, if_neg h2]
theorem cnt_one (a b : Nat) (l : List Nat) : (l ++ [b]).count a = l.count a + if b = a then 1 else 0 := by
  rw [List.count_append, List.count_cons, List.count_nil, Nat.zero_add]
  simp
structure Sg (cs : List Nat) (r : Nat) : Prop where
  sg : ∀ c ∈ cs, c = 43 ∨ c = 45
  run : r + cs.count 45 = cs.count 43
  len : cs.count 43 + cs.count 45 = cs.length
  pre : ∀ k, k < cs.length → 2 * (cs.take (k + 1)).count 45 ≤ k + 1
theorem Sg.snoc {cs : List Nat} {r r' c : Nat} (h : Sg cs r) (hc : (c = 43 ∧ r' = r + 1) ∨ (c = 45 ∧ r' + 1 = r)) : Sg (cs ++ [c]) r' := by
  obtain ⟨a1, a2, a3, a4⟩ := h
  refine ⟨fun d hd => ?_, ?_, ?_, fun k hk => ?_⟩
  · rcases List.mem_append.mp hd with e | e
    · exact a1 d e
    · rw [List.mem_singleton] at e
      rcases hc with ⟨e2, _⟩ | ⟨e2, _⟩
      · exact .inl (e.trans e2)
      · exact .inr (e.trans e2)
  · rw [cnt_one, cnt_one]
    rcases hc with ⟨rfl, e⟩ | ⟨rfl, e⟩
    · rw [if_neg (by decide), if_pos rfl]; omega
    · rw [if_pos rfl, if_neg (by decide)]; omega
  · rw [cnt_one, cnt_one, List.length_append, List.length_singleton]
    rcases hc with ⟨rfl, e⟩ | ⟨rfl, e⟩
    · rw [if_pos rfl, if_neg (by decide)]; omega
    · rw [if_neg (by decide), if_pos rfl]; omega
  · rw [List.length_append, List.length_singleton] at hk
    by_cases hl : k < cs.length
    · rw [List.take_append_of_le_length (by omega)]
      exact a4 k hl
    · have e : k = cs.length := by omega
      subst e
      rw [List.take_of_length_le (by rw [List.length_append]; exact Nat.le_refl _), cnt_one]
      rcases hc with ⟨rfl, e⟩ | ⟨rfl, e⟩
      · rw [if_neg (by decide)]; omega
      · rw [if_pos rfl]; omega
theorem scan_some : ∀ cs : List Nat, ∀ r, scanL cs = some r → Sg cs r := by
  refine snoc_ind (fun r h => ?_) (fun l a ih r h => ?_)
  · have e : r = 0 := (Option.some.inj h).symm
    subst e
    exact ⟨fun _ h => (nomatch h), rfl, rfl, fun k h => absurd h (Nat.not_lt_zero _)⟩
  · rw [scan_snoc] at h
    cases e : scanL l with
    | none => rw [e] at h; cases h
    | some r0 =>
      have s := ih r0 e
      rw [e] at h
      by_cases c1 : a = 43
      · subst c1
        rw [step_up] at h
        exact s.snoc (.inl ⟨rfl, (Option.some.inj h).symm⟩)
      · by_cases c2 : a = 45 ∧ 0 < r0
        · obtain ⟨rfl, p⟩ := c2
          rw [step_dn p] at h
          have := Option.some.inj h
          exact s.snoc (.inr ⟨rfl, by omega⟩)
        · rw [step_no c1 c2] at h
          cases h
theorem scan_of : ∀ cs : List Nat, (∀ c ∈ cs, c = 43 ∨ c = 45) → (∀ k, k < cs.length → 2 * (cs.take (k + 1)).count 45 ≤ k + 1) → ∃ r, scanL cs = some r := by
  refine snoc_ind (fun _ _ => ⟨0, rfl⟩) (fun l a ih h1 h2 => ?_)
  obtain ⟨r, hr⟩ := ih (fun c hc => h1 c (List.mem_append_left _ hc)) (fun k hk => by
    have z := h2 k (by rw [List.length_append]; omega)
    rwa [List.take_append_of_le_length (by omega)] at z)
  have s := scan_some l r hr
  rw [scan_snoc, hr]
  rcases h1 a (List.mem_append_right _ List.mem_cons_self) with rfl | rfl
  · exact ⟨_, step_up r⟩
  · have z := h2 l.length (by rw [List.length_append]; exact Nat.lt_succ_self _)
    rw [List.take_of_length_le (by rw [List.length_append]; exact Nat.le_refl _), cnt_one, if_pos rfl] at z
    have a2 := s.run
    have a3 := s.len
    exact ⟨_, step_dn (by omega)⟩
theorem cnt_nat (c : Nat) : ∀ l : List Nat, PyProof.Rows.cnt c l = ((l.count c : Nat) : Int)
  | [] => rfl
  | x :: r => by
    rw [PyProof.Rows.cnt_cons, cnt_nat c r, List.count_cons]
    by_cases h : x = c
    · subst h
      simp
      omega
    · rw [if_neg h]
      have : (x == c) = false := beq_eq_false_iff_ne.mpr h
      rw [this]
      simp
theorem tcount_P (z : Str) : Txt.count z ("+" : Str) = ((z.cps.toList.count 43 : Nat) : Int) := by
  rw [plus_eq, PyProof.Rows.count_cnt]
  exact cnt_nat _ _
theorem tcount_M (z : Str) : Txt.count z ("-" : Str) = ((z.cps.toList.count 45 : Nat) : Int) := by
  rw [minus_eq, PyProof.Rows.count_cnt]
  exact cnt_nat _ _
theorem chr_eq (c d : Nat) : decide (V.str ⟨#[c]⟩ = V.str ⟨#[d]⟩) = decide (c = d) := by
  by_cases h : c = d
  · subst h
    rw [decide_eq_true rfl, decide_eq_true rfl]
  · rw [decide_eq_false h]
    exact decide_eq_false fun e => h (by
      have e1 := V.str.inj e
      have e2 := Str.mk.inj e1
      have e3 := congrArg Array.toList e2
      exact (List.cons.inj e3).1)
theorem blC43 (c : Nat) : V.bl (decide (V.str ⟨#[c]⟩ = V.str ("+" : Str))) = V.bl (decide (c = 43)) := by rw [plus_eq, chr_eq]
theorem blC45 (c : Nat) : V.bl (decide (V.str ⟨#[c]⟩ = V.str ("-" : Str))) = V.bl (decide (c = 45)) := by rw [minus_eq, chr_eq]
/-! ### things that are no text -/
inductive NoStr (H : Hp) : V → Prop
  | non : NoStr H .non
  | int (i : Int) : NoStr H (.int i)
  | bl (b : Bool) : NoStr H (.bl b)
  | lst {a : Addr} {xs : List V} : H a = some (.lst xs) → NoStr H (.ref a)
  | tup {a : Addr} {xs : List V} : H a = some (.tup xs) → NoStr H (.ref a)
  | dK {a : Addr} {kvs : List (Key × V)} : H a = some (.dK kvs) → NoStr H (.ref a)
theorem NoStr.ty {K : PySem.W.Frag} {H : Hp} {v : V} (h : NoStr H v) : ∃ t, TyX K H v t ∧ PySem.W.kitOne K t (.type "str") = some false := by
  cases h with
  | non => exact ⟨_, .base .non, kit_ty (by decide +kernel)⟩
  | int i => exact ⟨_, .base (.int i), kit_ty (by decide +kernel)⟩
  | bl b => exact ⟨_, .base (.bl b), kit_ty (by decide +kernel)⟩
  | lst h => exact ⟨_, .base (.lst h), kit_ty (by decide +kernel)⟩
  | tup h => exact ⟨_, .base (.tup h), kit_ty (by decide +kernel)⟩
  | dK h => exact ⟨_, .base (.dK h), kit_ty (by decide +kernel)⟩
theorem NoStr.same {H H' : Hp} {v : V} (h : NoStr H v) (s : Same H H') : NoStr H' v := by
  cases h with
  | non => exact .non
  | int i => exact .int i
  | bl b => exact .bl b
  | lst h => exact .lst (s _ _ h)
  | tup h => exact .tup (s _ _ h)
  | dK h => exact .dK (s _ _ h)
def OkV (H : Hp) (v : V) : Prop := (∃ z : Str, v = .str z ∧ z.cps.size ≤ 100000) ∨ NoStr H v
theorem OkV.same {H H' : Hp} {v : V} (h : OkV H v) (s : Same H H') : OkV H' v := h.imp id fun x => x.same s
def shapeV : V → Bool
  | .str z => shapeB z.cps.toList
  | _ => false
theorem NoStr.shape {H : Hp} {v : V} (h : NoStr H v) : shapeV v = false := by
  cases h <;> rfl
section
variable {P : Program} {w : World} {K : PySem.W.Frag} {mg : Str → Option Value} {base : Heap}
/-! ### is_shape -/
def spIsShape : Sp := fun vs H Q _ => ∃ v : V, vs = [v] ∧ OkV H v ∧ Q (.bl (shapeV v)) H
theorem ok_is_shape {f : Addr} {fd : FuncData} (F : Fun K "is_shape" "is_shape" s_is_shape f fd) (B : NoB mg) {t1 : Tok} (T_g_LAST_PATCH : mg "LAST_PATCH" = some (.int 100 t1)) : FnG P w K mg base CX0 1 f fd ["value"] spIsShape := by
  refine okG F sc_is_shape (fun vs H Q E h => ?_) (fun cdv A outer s H vs Q E hG hr h => ?_)
  · obtain ⟨v, rfl, _⟩ := h
    rfl
  · obtain ⟨v, rfl, ok, q⟩ := h
    refine ⟨_, (pss_cons (ps_if (pt_not (pt_val (pe_callB call_isi (by rfl) B.isinstance (by decide +kernel) (pa_cons (pv 0) (pa_cons (pe_bltn (v := .ty "str") (by rfl) B.str boot_str rfl) pa_nil))))) (pss_one (ps_ret pe_bl)) pss_nil)
        (pss_cons (ps_set (i := 1) sc_is_shape.nd rfl (Or.inl rfl) pe_int)
        (pss_cons (ps_for PassesOwn.never rfl (pi_str (pv 0)) (pg_name (i := 2) sc_is_shape.nd rfl (Or.inl rfl))
          (pss_one (ps_if (pt_cmpR op_eq (pv 2) pe_str (nomark _)) (pss_one (ps_aug (i := 1) sc_is_shape.nd rfl (Or.inl rfl) pe_int ip_add)) (pss_one (ps_if (pt_mid (PW.pt (pw_and (pt_cmpR op_eq (pv 2) pe_str (nomark _)) (pw_and1 (pt_cmpR op_gt (pv 1) pe_int (nomark _)))))) (pss_one (ps_aug (i := 1) sc_is_shape.nd rfl (Or.inl rfl) pe_int ip_sub)) (pss_one (ps_ret pe_bl)))))))
        (pss_one (ps_ret (pe_cmpR op_le (pe_bm PySem.F.plainAttrs_str PySem.F.slot_str_count PySem.F.type_str_count mt_count (pv 0) (pa_cons pe_str pa_nil)) (pe_glob (v := .int 100) (by rfl) T_g_LAST_PATCH ⟨_, rfl⟩) (nomark _))))))), ?_⟩
    rcases ok with ⟨z, rfl, hz⟩ | ns
    · refine ⟨_, rfl, _, _, _, _, true, rfl, .ty _, .base (.str _), kit_ty (by decide +kernel), true, rfl, iteF ?_⟩
      refine ⟨_, rfl, _, rfl, for_it (walk_str (z := z)) (fun i σ H' => ∃ (y : Option V) (rn : Int) (r : Nat), σ = [some (.str z), some (.int rn), y] ∧ rn = (r : Int) ∧ scanL (z.cps.toList.take i) = some r ∧ H' = H) ⟨_, _, 0, rfl, rfl, rfl, rfl⟩ (fun i σ H' _ h => trivial) (fun i x σ H' H2 hi h hy => ?_) (fun σ H' h => ?_)⟩
      · obtain ⟨e1, c, hc, rfl⟩ := hy
        subst e1
        obtain ⟨y, rn, r, rfl, rfl, hs, rfl⟩ := h
        have hc' : z.cps.toList[i]? = some c := by rw [Array.getElem?_toList]; exact hc
        have es := take_snoc hc'
        have e2 := scan_snoc (z.cps.toList.take i) c
        rw [← es, hs] at e2
        have dead : scanL (z.cps.toList.take (i + 1)) = none → shapeV (.str z) = false := fun e => by
          have := scan_pre (z.cps.toList.drop (i + 1)) e
          rw [List.take_append_drop] at this
          show ((scanL z.cps.toList).isSome && _) = false
          rw [this]
          rfl
        by_cases c1 : c = 43
        · refine ⟨_, rfl, rfl, true, (blC43 c).trans (congrArg V.bl (decide_eq_true c1)), ?_⟩
          subst c1
          rw [step_up] at e2
          exact ⟨_, rfl, _, _, rfl, rfl, _, _, _, rfl, rfl, e2, rfl⟩
        · refine ⟨_, rfl, rfl, false, (blC43 c).trans (congrArg V.bl (decide_eq_false c1)), ?_⟩
          by_cases c2 : c = 45
          · subst c2
            by_cases c3 : 0 < r
            · refine ⟨fun b H3 => b = true ∧ H3 = H2, ⟨_, rfl, rfl, true, blC45 45, _, rfl, _, _, rfl, rfl, true, dT (by omega), rfl, rfl⟩, fun b H3 hm => ?_⟩
              obtain ⟨rfl, rfl⟩ := hm
              rw [step_dn c3] at e2
              exact ⟨_, rfl, _, _, rfl, rfl, _, _, r - 1, rfl, by dsimp only; omega, e2, rfl⟩
            · refine ⟨fun b H3 => b = false ∧ H3 = H2, ⟨_, rfl, rfl, true, blC45 45, _, rfl, _, _, rfl, rfl, false, dF (by omega), rfl, rfl⟩, fun b H3 hm => ?_⟩
              obtain ⟨rfl, rfl⟩ := hm
              rw [step_no c1 (fun x => c3 x.2)] at e2
              rw [dead e2] at q
              exact q
          · refine ⟨fun b H3 => b = false ∧ H3 = H2, ⟨_, rfl, rfl, false, (blC45 c).trans (congrArg V.bl (decide_eq_false c2)), rfl, rfl⟩, fun b H3 hm => ?_⟩
            obtain ⟨rfl, rfl⟩ := hm
            rw [step_no c1 (fun x => c2 x.1)] at e2
            rw [dead e2] at q
            exact q
      · obtain ⟨y, rn, r, rfl, rfl, hs, rfl⟩ := h
        rw [List.take_of_length_le (by rw [Array.length_toList]; exact Nat.le_refl _)] at hs
        refine ⟨_, rfl, rfl, _, _, rfl, rfl, _, _, rfl, rfl, ?_⟩
        rw [tcount_P]
        dsimp only
        have e : shapeV (.str z) = decide (((z.cps.toList.count 43 : Nat) : Int) ≤ 100) := by
          show ((scanL z.cps.toList).isSome && decide (z.cps.toList.count 43 ≤ 100)) = _
          rw [hs]
          by_cases h : z.cps.toList.count 43 ≤ 100
          · rw [decide_eq_true h, decide_eq_true (show ((z.cps.toList.count 43 : Nat) : Int) ≤ 100 by omega)]
            rfl
          · rw [decide_eq_false h, decide_eq_false (show ¬ ((z.cps.toList.count 43 : Nat) : Int) ≤ 100 by omega)]
            rfl
        rw [e] at q
        exact q
    · obtain ⟨t, ht, hk⟩ := ns.ty (K := K)
      refine ⟨_, rfl, _, _, _, _, false, rfl, .ty _, ht, hk, false, rfl, ?_⟩
      rw [ns.shape] at q
      exact q
end
end L54
set_option Elab.async false
set_option linter.all false
set_option maxRecDepth 100000
namespace L54
open PySem PySem.Spec PyProof.Rows L2 Lp
theorem upL_succ (n : Nat) : upL (n + 1) = upL n ++ [1 + ((n : Nat) : Int)] := by
  unfold upL
  rw [List.range_succ, List.map_append]
  rfl
theorem upL_drop {n m : Nat} (h : n < m) : (upL m).drop n = (1 + ((n : Nat) : Int)) :: (upL m).drop (n + 1) := by
  have hl : n < (upL m).length := by rw [upL_len]; exact h
  have e : (upL m)[n]? = some (1 + ((n : Nat) : Int)) := by
    unfold upL
    rw [List.getElem?_map, List.getElem?_range h]
    rfl
  have e2 : (upL m)[n] = 1 + ((n : Nat) : Int) := Option.some.inj ((List.getElem?_eq_getElem hl).symm.trans e)
  rw [List.drop_eq_getElem_cons hl, e2]
theorem good_nil : Good (upL 100) [] [] :=
  ⟨fun e he => absurd he List.not_mem_nil, List.nodup_nil, fun i e he => by simp at he, List.nodup_nil, fun k hk => absurd hk List.not_mem_nil, upL_nd 100, fun k hk => ⟨(upL_mem hk).1, (upL_mem hk).2, List.not_mem_nil⟩⟩
def posL (ns : List Int) : List Bool := ns.map fun e => decide (0 < e)
theorem posL_snoc (ns : List Int) (e : Int) : posL (ns ++ [e]) = posL ns ++ [decide (0 < e)] := by
  unfold posL
  rw [List.map_append]
  rfl
def oneC (b : Bool) : Str := ⟨#[sgC b]⟩
theorem empty_cps : ("" : Str).cps = #[] := by decide +kernel
theorem glue_fold : ∀ (bs : List Bool) (acc : Array Nat), (bs.map oneC).foldl (fun acc p => acc ++ ("" : Str).cps ++ p.cps) acc = acc ++ (bs.map sgC).toArray
  | [], acc => by simp
  | b :: bs, acc => by
    rw [List.map_cons, List.foldl_cons, glue_fold bs, empty_cps]
    apply Array.toList_inj.mp
    simp [oneC]
theorem join_sg : ∀ bs : List Bool, Txt.join ("" : Str) (bs.map oneC) = sgS bs
  | [] => by decide +kernel
  | b :: bs => by
    show (⟨(bs.map oneC).foldl (fun acc p => acc ++ ("" : Str).cps ++ p.cps) (oneC b).cps⟩ : Str) = ⟨((b :: bs).map sgC).toArray⟩
    rw [glue_fold]
    exact congrArg Str.mk (Array.toList_inj.mp (by simp [oneC]))
theorem sum_one : ∀ bs : List Bool, ((bs.map oneC).map fun x => x.length).sum = bs.length
  | [] => rfl
  | b :: bs => by
    rw [List.map_cons, List.map_cons, List.sum_cons, sum_one bs, List.length_cons]
    show 1 + bs.length = bs.length + 1
    omega
theorem map_inj {f : Int → Int} : ∀ {l : List Int}, (l.map f).Nodup → ∀ a ∈ l, ∀ b ∈ l, f a = f b → a = b
  | [], _, a, ha, _, _, _ => absurd ha List.not_mem_nil
  | x :: l, nd, a, ha, b, hb, e => by
    rw [List.map_cons] at nd
    obtain ⟨n1, n2⟩ := List.nodup_cons.mp nd
    rcases List.mem_cons.mp ha with ea | ha2
    · rcases List.mem_cons.mp hb with eb | hb2
      · rw [ea, eb]
      · exact absurd (List.mem_map.mpr ⟨b, hb2, e.symm.trans (congrArg f ea)⟩) n1
    · rcases List.mem_cons.mp hb with eb | hb2
      · exact absurd (List.mem_map.mpr ⟨a, ha2, e.trans (congrArg f eb)⟩) n1
      · exact map_inj n2 a ha2 b hb2 e
theorem map_on {f : Int → Int} {l : List Int} (hf : ∀ a ∈ l, ∀ b ∈ l, f a = f b → a = b) (nd : l.Nodup) : (l.map f).Nodup :=
  List.pairwise_map.mpr (List.Pairwise.imp_of_mem (fun ha hb ne e => ne (hf _ ha _ hb e)) nd)
/-- a history with other numbers -/
def gE (sv : Int → Int) (e : Int) : Int := if 0 < e then sv e else 0 - sv (0 - e)
def upsF (ns : List Int) : List Int := ns.filter fun e => decide (0 < e)
theorem mem_upsF {ns : List Int} {e : Int} (h : e ∈ ns) (h0 : 0 < e) : e ∈ upsF ns := List.mem_filter.mpr ⟨h, decide_eq_true h0⟩
theorem neg_mem {ns : List Int} (hh : Hist ns) {e : Int} (h : e ∈ ns) (h0 : ¬ 0 < e) : 0 - e ∈ ns ∧ 0 < 0 - e := by
  have := (hh.rng e h).1
  have z := ord_mem hh.ord h (by omega)
  rw [Int.zero_sub]
  exact ⟨z, by omega⟩
theorem hist_map {ns : List Int} {sv : Int → Int} (hh : Hist ns) (nd : ((upsF ns).map sv).Nodup) (rg : ∀ e ∈ ns, 0 < e → 1 ≤ sv e ∧ sv e ≤ 100) : Hist (ns.map (gE sv)) ∧ posL (ns.map (gE sv)) = posL ns := by
  have up : ∀ e ∈ ns, 0 < e → gE sv e = sv e := fun e _ h => if_pos h
  have dn : ∀ e ∈ ns, ¬ 0 < e → gE sv e = 0 - sv (0 - e) := fun e _ h => if_neg h
  have inj : ∀ a ∈ ns, ∀ b ∈ ns, gE sv a = gE sv b → a = b := fun a ha b hb e => by
    by_cases pa : 0 < a
    · have ra := rg a ha pa
      by_cases pb : 0 < b
      · rw [up a ha pa, up b hb pb] at e
        exact map_inj nd a (mem_upsF ha pa) b (mem_upsF hb pb) e
      · obtain ⟨m, p⟩ := neg_mem hh hb pb
        have rb := rg _ m p
        rw [up a ha pa, dn b hb pb] at e
        omega
    · obtain ⟨ma, qa⟩ := neg_mem hh ha pa
      have ra := rg _ ma qa
      by_cases pb : 0 < b
      · have rb := rg b hb pb
        rw [dn a ha pa, up b hb pb] at e
        omega
      · obtain ⟨m, p⟩ := neg_mem hh hb pb
        rw [dn a ha pa, dn b hb pb] at e
        have := map_inj nd _ (mem_upsF ma qa) _ (mem_upsF m p) (by omega)
        omega
  refine ⟨⟨fun x hx => ?_, map_on inj hh.nd, fun i x hx h0 => ?_, by rw [List.length_map]; exact hh.len⟩, ?_⟩
  · obtain ⟨e, he, rfl⟩ := List.mem_map.mp hx
    by_cases p : 0 < e
    · have r := rg e he p
      rw [up e he p]
      omega
    · obtain ⟨m, q⟩ := neg_mem hh he p
      have r := rg _ m q
      rw [dn e he p]
      omega
  · rw [List.getElem?_map] at hx
    cases e : ns[i]? with
    | none => rw [e] at hx; cases hx
    | some n =>
      rw [e] at hx
      have ex : gE sv n = x := Option.some.inj hx
      have hn := mem_get e
      by_cases p : 0 < n
      · have r := rg n hn p
        rw [up n hn p] at ex
        omega
      · have nz := (hh.rng n hn).1
        have o := hh.ord i n e (by omega)
        rw [dn n hn p] at ex
        rw [← List.map_take]
        refine List.mem_map.mpr ⟨-n, o, ?_⟩
        unfold gE
        rw [if_pos (by omega)]
        rw [Int.zero_sub] at ex
        rw [← ex]
        rw [Int.zero_sub, Int.neg_neg]
  · unfold posL
    rw [List.map_map]
    refine List.map_congr_left fun e he => ?_
    show decide (0 < gE sv e) = decide (0 < e)
    by_cases p : 0 < e
    · have r := rg e he p
      rw [up e he p, decide_eq_true p, decide_eq_true (by omega)]
    · obtain ⟨m, q⟩ := neg_mem hh he p
      have r := rg _ m q
      rw [dn e he p, decide_eq_false p, decide_eq_false (by omega)]
theorem upsF_snoc {ns : List Int} {i : Nat} {e : Int} (h : ns[i]? = some e) : upsF (ns.take (i + 1)) = upsF (ns.take i) ++ if 0 < e then [e] else [] := by
  unfold upsF
  rw [take_get h, List.filter_append]
  congr 1
  by_cases p : 0 < e
  · rw [if_pos p]
    exact List.filter_cons_of_pos (decide_eq_true p)
  · rw [if_neg p]
    exact List.filter_cons_of_neg (by simpa using p)
theorem upsF_len {ns : List Int} (hh : Hist ns) (i : Nat) : (upsF (ns.take i)).length ≤ 100 := by
  have z := nodup_len (l := upsF (ns.take i)) (m := upL 100) ((hh.nd.sublist (List.take_sublist i ns)).sublist List.filter_sublist) (fun x hx => by
    obtain ⟨h1, h2⟩ := List.mem_filter.mp hx
    have r := hh.rng x (List.mem_of_mem_take h1)
    have p : 0 < x := of_decide_eq_true h2
    unfold upL
    exact List.mem_map.mpr ⟨(x - 1).toNat, List.mem_range.mpr (by omega), by omega⟩)
  rwa [upL_len] at z
end L54
set_option Elab.async false
set_option linter.all false
set_option maxRecDepth 100000
namespace L54
open PySem PySem.Spec PyProof.Rows L2 Lp
/-! ### the dict of new numbers -/
def putF1 (f : Int → Int) (e v : Int) : Int → Int := fun k => if k = e then v else f k
/-- the dict of what each patch saved: its pairs bear the function sv on the patches of l -/
def Saves (kvs : List (Key × V)) (l : List Int) (sv : Int → Int) : Prop := ∀ k ∈ l, 0 < k → valV kvs (Sum.inl k) = some (.int (sv k))
theorem putK_len (kvs : List (Key × V)) (k : Key) (v : V) : (putK kvs k v).length ≤ kvs.length + 1 := by
  unfold putK
  split <;> simp
theorem Saves.put {kvs : List (Key × V)} {ns : List Int} {i : Nat} {e c : Int} {sv : Int → Int} (h : Saves kvs (ns.take i) sv) (he : ns[i]? = some e) : Saves (putK kvs (Sum.inl e) (.int c)) (ns.take (i + 1)) (putF1 sv e c) := by
  intro k hk h0
  rw [valV_put]
  unfold putF1
  by_cases z : k = e
  · rw [if_pos (by rw [z]), if_pos z]
  · rw [if_neg (fun q => z (Sum.inl.inj q)), if_neg z]
    exact h k (((mem_take_succ he).mp hk).resolve_right z) h0
theorem Saves.keep {kvs : List (Key × V)} {ns : List Int} {i : Nat} {e : Int} {sv : Int → Int} (h : Saves kvs (ns.take i) sv) (he : ns[i]? = some e) (hn : e < 0) : Saves kvs (ns.take (i + 1)) sv := by
  intro k hk h0
  refine h k (((mem_take_succ he).mp hk).resolve_right fun z => ?_) h0
  omega
theorem sv_get {kvs : List (Key × V)} {l : List Int} {sv : Int → Int} {H : Hp} {d : Addr} {k : Int} (h : Saves kvs l sv) (hd : H d = some (.dK kvs)) (hk : k ∈ l) (h0 : 0 < k) : DGet H d (.int k) (some (.int (sv k))) := by
  have z := DGet.k (k := Sum.inl k) hd
  rw [h k hk h0] at z
  exact z

section
variable {P : Program} {w : World} {K : PySem.W.Frag} {mg : Str → Option Value} {base : Heap}
/-! ### shape_of -/
def spShapeOf (K : PySem.W.Frag) : Sp := fun vs H Q _ => ∃ (a : Addr) (ns : List Int), vs = [.ref a] ∧ SqL K H a (ns.map V.int) ∧ Hist ns ∧ ∀ H', Same H H' → Q (.str (sgS (posL ns))) H'
theorem ok_shape_of {f : Addr} {fd : FuncData} (F : Fun K "shape_of" "shape_of" s_shape_of f fd) (T_check_history : Gc P w K mg base 6 "check_history" (spCheck K)) : FnG P w K mg base CX0 7 f fd ["history"] (spShapeOf K) := by
  refine okG F sc_shape_of (fun vs H Q E h => ?_) (fun cdv A outer s H vs Q E hG hr h => ?_)
  · obtain ⟨a, ns, rfl, _⟩ := h
    rfl
  · obtain ⟨a, ns, rfl, hS, hh, q⟩ := h
    refine ⟨_, (pss_cons (ps_expr (pe_g T_check_history hG hr (by decide) (by rfl) (pa_cons (pv 0) pa_nil)))
        (pss_one (ps_ret (pe_join pe_str (pe_lc (own := [("event", 1)]) (g := gName 1) (tt := tYes) rfl sc_shape_of.nd (pi_list (pv 0)) (blkOk_by (own := [("event", 1)]) (N := N_shape_of) (sc := defScope s_shape_of) (by decide +kernel)) (fun _ _ _ _ _ => (pg_name (i := 1) sc_shape_of.nd rfl (Or.inl rfl))) (fun _ _ _ _ _ => pts_nil) (fun _ _ _ _ _ => (pe_ifExp (pt_cmpR op_gt (pv 1) pe_int (nomark _)) pe_str pe_str))))))), ?_⟩
    refine ⟨_, rfl, a, ns, rfl, hS, hh, fun H1 s1 => ?_⟩
    have hS1 := s1.seq hS
    refine ⟨⟨_, rfl⟩, _, rfl, a, rfl, ⟨_, hS1⟩, fun D hD => lc_list (xs := ns.map V.int) (LcP H1 D fun i => ((posL (ns.take i)).map oneC).map V.str) (.init hD rfl) (fun i H' _ pp => pp.2.1.seq hS1) (fun i x H' hx pp => ?_) (fun H2 pp => ?_)⟩
    · obtain ⟨e, rfl, he⟩ := get_int hx
      have hl := lt_get he
      have hl2 := hh.len
      refine ⟨rfl, ?_⟩
      by_cases c : 0 < e
      · refine ⟨_, rfl, _, _, rfl, rfl, true, dT c, pp.put (Same.refl _) ?_ ?_⟩
        · rw [take_get he, posL_snoc, List.map_append, List.map_append, decide_eq_true c]
          show _ = _ ++ [V.str ("+" : Str)]
          rw [plus_eq]
          rfl
        · unfold posL
          rw [List.length_map, List.length_map, List.length_map, List.length_take]
          omega
      · refine ⟨_, rfl, _, _, rfl, rfl, false, dF c, pp.put (Same.refl _) ?_ ?_⟩
        · rw [take_get he, posL_snoc, List.map_append, List.map_append, decide_eq_false c]
          show _ = _ ++ [V.str ("-" : Str)]
          rw [minus_eq]
          rfl
        · unfold posL
          rw [List.length_map, List.length_map, List.length_map, List.length_take]
          omega
    · have h2 : H2 D = some (.lst (((posL ns).map oneC).map V.str)) := by
        have z : H2 D = some (.lst (((posL (ns.take (ns.map V.int).length)).map oneC).map V.str)) := pp.2.2
        rw [List.length_map, List.take_length] at z
        exact z
      refine ⟨_, D, _, rfl, rfl, .inl (.of h2), ?_, ?_⟩
      · rw [sum_one, List.length_map]
        have e0 : ("" : Str).length = 0 := rfl
        rw [e0]
        unfold posL
        rw [List.length_map]
        have := hh.len
        omega
      · rw [join_sg]
        exact q _ (s1.trans pp.2.1)
/-! ### _law_row -/
def spRow : Sp := fun vs H Q _ => ∃ (src : Addr) (bs : List Bool) (n : Nat), vs = [.ref src, .str (sgS bs)] ∧ Src H src n ∧ n ≤ 900000 ∧ SgOk bs ∧ upsN bs ≤ 100 ∧
  ∀ (H' : Hp) (p : Addr) (row : List Int), Hist row → posL row = bs → Bt src H H' → Src H' src (n + 200) → H p = none → H' p = some (.lst (row.map V.int)) → Q (.ref p) H'
set_option maxHeartbeats 1000000 in
theorem ok_law_row {f : Addr} {fd : FuncData} (F : Fun K "_law_row" "_law_row" s_law_row f fd) (B : NoB mg) (T_law_draw : Gc P w K mg base 1 "_law_draw" spDraw) : FnG P w K mg base CX0 2 f fd ["pool", "signs"] spRow := by
  refine okG F sc_law_row (fun vs H Q E h => ?_) (fun cdv A outer s H vs Q E hG hr h => ?_)
  · obtain ⟨src, bs, n, rfl, _⟩ := h
    rfl
  · obtain ⟨src, bs, n, rfl, hs, hn, ok, u1, q⟩ := h
    have slen := sg_len ok u1
    refine ⟨_, (pss_cons (ps_par3 (i := 2) (j := 3) (l := 4) (by rfl) sc_law_row.nd rfl rfl rfl (by decide) (by decide) (by decide) rfl rfl rfl (pa_cons (pe_lst pa_nil) (pa_cons (pe_lst pa_nil) (pa_cons pe_int pa_nil))) (by rfl))
        (pss_cons (ps_for PassesOwn.never rfl (pi_str (pv 1)) (pg_name (i := 5) sc_law_row.nd rfl (Or.inl rfl))
          (pss_one (ps_if (pt_cmpR op_eq (pv 5) pe_str (nomark _)) (pss_cons (ps_set (i := 4) sc_law_row.nd rfl (Or.inl rfl) (pe_op op_add (pv 4) pe_int))
            (pss_cons (ps_expr (pe_bm PySem.F.plainAttrs_list PySem.F.slot_list_append PySem.F.type_list_append mt_append (pv 3) (pa_cons (pv 4) pa_nil)))
            (pss_one (ps_expr (pe_bm PySem.F.plainAttrs_list PySem.F.slot_list_append PySem.F.type_list_append mt_append (pv 2) (pa_cons (pv 4) pa_nil)))))) (pss_one (ps_expr (pe_bm PySem.F.plainAttrs_list PySem.F.slot_list_append PySem.F.type_list_append mt_append (pv 2) (pa_cons (pe_op op_sub pe_int (pe_bm PySem.F.plainAttrs_list PySem.F.slot_list_pop PySem.F.type_list_pop mt_popAt (pv 3) (pa_cons (pe_g T_law_draw hG hr (by decide) (by rfl) (pa_cons (pv 0) (pa_cons (pe_callB call_len_seq (by rfl) B.len PySem.boot_len (pa_cons (pv 3) pa_nil)) pa_nil))) pa_nil))) pa_nil)))))))
        (pss_one (ps_ret (pv 2))))), ?_⟩
    refine ⟨Nat.zero_le _, fun fp nfp => ⟨Nat.zero_le _, fun rp nrp => ⟨_, _, _, rfl, ?_⟩⟩⟩
    have nfr : fp ≠ rp := ne_of_none upd_same nrp
    have rp0 : H rp = none := (same_new (o := .lst []) nfp).free nrp
    have nfs := hs.ne nfp
    have nrs := hs.ne rp0
    refine ⟨_, rfl, _, rfl, for_it (walk_str (z := sgS bs)) (fun i σ H' => ∃ (y : Option V) (st : Int) (av row : List Int), σ = [some (.ref src), some (.str (sgS bs)), some (.ref fp), some (.ref rp), some (.int st), y] ∧ st = ((upsN (bs.take i) : Nat) : Int) ∧ Good ((upL 100).drop (upsN (bs.take i))) av row ∧ posL row = bs.take i ∧ av.length = runN (bs.take i) ∧
      H' fp = some (.lst (row.map V.int)) ∧ H' rp = some (.lst (av.map V.int)) ∧ Src H' src (n + i) ∧ Bt src H H') ⟨_, _, [], [], rfl, rfl, good_nil, rfl, rfl, ?_, upd_same, (hs.new nfp).new nrp, ((Bt.refl src H).add nfp).add nrp⟩ (fun i σ H' _ h => trivial) (fun i x σ H' H2 hi2 h hy => ?_) (fun σ H' h => ?_)⟩
    · rw [upd_ne nfr, upd_same]
      rfl
    · obtain ⟨e1, cc, hc, rfl⟩ := hy
      subst e1
      obtain ⟨b, hb, rfl⟩ := sg_get hc
      obtain ⟨y, st, av, row, rfl, rfl, g, pl, rl, hf, hr2, hsi, bi⟩ := h
      have hlt := lt_get hb
      have r1 := run_eq (ok.take i)
      have ui := ups_take u1 i
      have es := take_snoc hb
      have rowl : row.length ≤ 200 := by
        have := congrArg List.length pl
        unfold posL at this
        rw [List.length_map, List.length_take] at this
        omega
      cases b with
      | true =>
        have u2 := ups_take u1 (i + 1)
        rw [es, ups_up] at u2
        have gd := g
        rw [upL_drop (show upsN (bs.take i) < 100 by omega)] at gd
        have g2 := gd.push
        have ek : ((upsN (bs.take i) : Nat) : Int) + 1 = 1 + ((upsN (bs.take i) : Nat) : Int) := by omega
        refine ⟨_, rfl, rfl, true, blP true, ?_⟩
        refine ⟨_, rfl, _, _, rfl, rfl, ?_⟩
        refine ⟨_, rfl, .inl ⟨rfl, _, .of hr2⟩, _, rfl, rp, _, _, rfl, rfl, hr2, by rw [List.length_map]; exact zl (by omega), ?_⟩
        have hf2 : (upd H2 rp (.lst (av.map V.int ++ [.int (((upsN (bs.take i) : Nat) : Int) + 1)]))) fp = some (.lst (row.map V.int)) := by rw [upd_ne nfr]; exact hf
        refine ⟨_, rfl, .inl ⟨rfl, _, .of hf2⟩, _, rfl, fp, _, _, rfl, rfl, hf2, by rw [List.length_map]; exact zl (by omega), _, _, av ++ [1 + ((upsN (bs.take i) : Nat) : Int)], row ++ [1 + ((upsN (bs.take i) : Nat) : Int)], rfl, ?_, ?_, ?_, ?_, ?_, ?_, ?_, ?_⟩
        · rw [es, ups_up]; omega
        · rw [es, ups_up]
          exact g2
        · rw [es, posL_snoc, pl, decide_eq_true (by omega)]
        · rw [es, run_up, List.length_append, rl]
          rfl
        · rw [upd_same, List.map_append, ← ek]
          rfl
        · rw [upd_ne nfr.symm, upd_same, List.map_append, ← ek]
          rfl
        · exact ((hsi.upd nrs).upd nfs).mono (by omega)
        · exact (bi.mut rp0).mut nfp
      | false =>
        have pos := ok i hb
        refine ⟨_, rfl, rfl, false, blP false, ?_⟩
        refine ⟨_, rfl, .inl ⟨rfl, _, .of hf⟩, ?_⟩
        refine ⟨_, rfl, .inl ⟨rfl, _, .of hr2⟩, _, rfl, _, rfl, rp, _, rfl, .inl (.of hr2), src, _, n + i, rfl, hsi, by omega, by rw [List.length_map]; omega, by rw [List.length_map]; omega, fun r H9 r0 r1' hs9 b9 => ?_⟩
        obtain ⟨j, rfl⟩ := nat_of r0
        rw [List.length_map] at r1'
        have hj : j < av.length := by omega
        have hr9 := b9 _ _ nrs hr2
        have hf9 := b9 _ _ nfs hf
        have hf10 : (upd H9 rp (.lst ((av.map V.int).eraseIdx j))) fp = some (.lst (row.map V.int)) := by rw [upd_ne nfr]; exact hf9
        have g2 := g.stop hj
        have aj := (g.avm _ (List.getElem_mem hj)).1
        refine ⟨rp, _, _, j, _, rfl, rfl, hr9, (nm (by omega)).1, (nm (by omega)).2, by rw [List.length_map]; exact ix_at hj, get_at hj, _, _, rfl, rfl, fp, _, _, rfl, rfl, hf10, by rw [List.length_map]; exact zl (by omega), _, _, av.eraseIdx j, row ++ [-av[j]], rfl, ?_, ?_, ?_, ?_, ?_, ?_, ?_, ?_⟩
        · rw [es, ups_dn]
        · rw [es, ups_dn]
          exact g2
        · rw [es, posL_snoc, pl, decide_eq_false (by omega)]
        · rw [es, run_dn, List.length_eraseIdx, if_pos hj, rl]
        · rw [upd_same, List.map_append, ← Int.zero_sub]
          rfl
        · rw [upd_ne nfr.symm, upd_same, erase_map]
        · exact ((hs9.upd nrs).upd nfs).mono (by omega)
        · exact ((bi.trans b9).mut rp0).mut nfp
    · obtain ⟨y, st, av, row, rfl, rfl, g, pl, rl, hf, hr2, hsi, bi⟩ := h
      rw [sg_size, List.take_length] at pl
      have rowl : row.length = bs.length := by
        have := congrArg List.length pl
        unfold posL at this
        rwa [List.length_map] at this
      rw [sg_size] at hsi
      exact ⟨_, rfl, q _ fp row ⟨g.rng, g.nd, g.ord, by omega⟩ pl bi (hsi.mono (by omega)) nfp hf⟩
end
end L54
set_option Elab.async false
set_option linter.all false
set_option maxRecDepth 100000
namespace L54
open PySem PySem.Spec PyProof.Rows L2 Lp
theorem putF_other {l : List Int} {sv : Int → Int} {e v : Int} (h : e ∉ l) : l.map (putF1 sv e v) = l.map sv :=
  List.map_congr_left fun x hx => by
    unfold putF1
    rw [if_neg (show ¬ x = e from fun q => h (q ▸ hx))]
theorem putF_same (sv : Int → Int) (e v : Int) : putF1 sv e v e = v := by
  unfold putF1
  rw [if_pos rfl]
theorem shown_le {ns : List Int} (hb : ∀ n ∈ ns, -100 ≤ n ∧ n ≤ 100) (hl : ns.length ≤ 200) : (dI ns).shown.length ≤ 1300 := by
  show (textFrom 0 "[" (PyData.shownAll (ns.map PyData.int)) ++ ("]" : Str)).length ≤ 1300
  rw [Str.length_append]
  have z := textFrom_le (PyData.shownAll (ns.map PyData.int)) 0 "[" 4 (fun t ht => by
    obtain ⟨n, hn, e⟩ := shownAll_mem ns t ht
    rw [e]
    exact num_len n (hb n hn).1 (hb n hn).2)
  rw [shownAll_len] at z
  have e1 : ("[" : Str).length = 1 := rfl
  have e2 : ("]" : Str).length = 1 := rfl
  rw [e1] at z
  rw [e2]
  omega
section
variable {P : Program} {w : World} {K : PySem.W.Frag} {mg : Str → Option Value} {base : Heap}
/-! ### _law_numbered -/
def spNumd (K : PySem.W.Frag) : Sp := fun vs H Q _ => ∃ (src a : Addr) (ns : List Int) (n : Nat), vs = [.ref src, .ref a] ∧ Src H src n ∧ n ≤ 900000 ∧ Hist ns ∧ (∀ H', Bt src H H' → SqL K H' a (ns.map V.int)) ∧
  ∀ (H' : Hp) (p : Addr) (row : List Int), Hist row → posL row = posL ns → Bt src H H' → Src H' src (n + 200) → H p = none → H' p = some (.lst (row.map V.int)) → Q (.ref p) H'
set_option maxHeartbeats 1000000 in
theorem ok_law_numbered {f : Addr} {fd : FuncData} (F : Fun K "_law_numbered" "_law_numbered" s_law_numbered f fd) (B : NoB mg) (T_law_draw : Gc P w K mg base 1 "_law_draw" spDraw) : FnG P w K mg base CX0 2 f fd ["pool", "row"] (spNumd K) := by
  refine okG F sc_law_numbered (fun vs H Q E h => ?_) (fun cdv A outer s H vs Q E hG hr h => ?_)
  · obtain ⟨src, a, ns, n, rfl, _⟩ := h
    rfl
  · obtain ⟨src, a, ns, n, rfl, hs, hn, hh, hS, q⟩ := h
    have hu := hu_of hr
    refine ⟨_, (pss_cons (ps_asg (pe_tup (pa_cons (pe_listRg rfl (by rfl) B.list (prg_2 (by rfl) B.range pe_int pe_int)) (pa_cons pe_dnewK pa_nil))) (pg_tup rfl (pgs_cons (pg_name (i := 2) sc_law_numbered.nd rfl (Or.inl rfl)) (pgs_cons (pg_name (i := 3) sc_law_numbered.nd rfl (Or.inr rfl)) pgs_nil))))
        (pss_cons (ps_for PassesOwn.never rfl (pi_list (pv 1)) (pg_name (i := 4) sc_law_numbered.nd rfl (Or.inl rfl))
          (pss_one (ps_if (pt_cmpR op_gt (pv 4) pe_int (nomark _)) (pss_one (ps_dput hu (pv 3) (pv 4) (pe_bm PySem.F.plainAttrs_list PySem.F.slot_list_pop PySem.F.type_list_pop mt_popAt (pv 2) (pa_cons (pe_g T_law_draw hG hr (by decide) (by rfl) (pa_cons (pv 0) (pa_cons (pe_callB call_len_seq (by rfl) B.len PySem.boot_len (pa_cons (pv 2) pa_nil)) pa_nil))) pa_nil)) rfl)) pss_nil)))
        (pss_one (ps_ret (pe_lc (own := [("one", 4)]) (g := gName 4) (tt := tYes) rfl sc_law_numbered.nd (pi_list (pv 1)) (blkOk_by (own := [("one", 4)]) (N := N_law_numbered) (sc := defScope s_law_numbered) (by decide +kernel)) (fun _ _ _ _ _ => (pg_name (i := 4) sc_law_numbered.nd rfl (Or.inl rfl))) (fun _ _ _ _ _ => pts_nil) (fun _ _ _ _ _ => (pe_ifExp (pt_cmpR op_gt (pv 4) pe_int (nomark _)) (pe_dget hu (pv 3) (pv 4) (fun _ _ => rfl)) (pe_op op_sub pe_int (pe_dget hu (pv 3) (pe_op op_sub pe_int (pv 4)) (fun _ _ => rfl)))))))))), ?_⟩
    refine ⟨_, _, rfl, rfl, RgOk.of_le (by decide) (by decide) (by decide) (by decide), fun lf nlf => fun d nd => ⟨by show 2 ≤ sizeLine; decide, fun T nT => ⟨T, _, rfl, .of upd_same, rfl, _, _, rfl, _, _, rfl, rfl, ?_⟩⟩⟩
    have nlfs := hs.ne nlf
    have nlfd : lf ≠ d := ne_of_none upd_same nd
    have nd0 : H d = none := (same_new (o := .lst (rgV 1 101)) nlf).free nd
    have nds := hs.ne nd0
    have hs6 := ((hs.new (o := .lst (rgV 1 101)) nlf).new (o := .dK []) nd).new (o := .tup [.ref lf, .ref d]) nT
    have b6 : Bt src H (upd (upd (upd H lf (.lst (rgV 1 101))) d (.dK [])) T (.tup [.ref lf, .ref d])) := (((Bt.refl src H).add nlf).add nd).add nT
    have hlf6 : (upd (upd (upd H lf (.lst (rgV 1 101))) d (.dK [])) T (.tup [.ref lf, .ref d])) lf = some (.lst ((upL 100).map V.int)) := by
      have h1 : (upd (upd H lf (.lst (rgV 1 101))) d (.dK [])) lf = some (.lst ((upL 100).map V.int)) := by
        rw [upd_ne nlfd, upd_same, rgV_up]
        rfl
      rw [upd_ne (ne_of_none h1 nT)]
      exact h1
    have hd6 : (upd (upd (upd H lf (.lst (rgV 1 101))) d (.dK [])) T (.tup [.ref lf, .ref d])) d = some (.dK []) := by
      rw [upd_ne (ne_of_none upd_same nT), upd_same]
    generalize upd (upd (upd H lf (.lst (rgV 1 101))) d (.dK [])) T (.tup [.ref lf, .ref d]) = H6 at hs6 b6 hlf6 hd6 ⊢
    refine ⟨_, rfl, a, rfl, ⟨_, hS _ b6⟩, for_list (xs := ns.map V.int) (fun i σ H' => ∃ (y : Option V) (l : List Int) (sv : Int → Int) (kvs : List (Key × V)), σ = [some (.ref src), some (.ref a), some (.ref lf), some (.ref d), y] ∧ H' lf = some (.lst (l.map V.int)) ∧ H' d = some (.dK kvs) ∧ kvs.length ≤ i ∧ Saves kvs (ns.take i) sv ∧
      ((upsF (ns.take i)).map sv ++ l).Perm (upL 100) ∧ Src H' src (n + i) ∧ Bt src H H') ⟨_, upL 100, fun _ => 0, [], rfl, hlf6, hd6, Nat.le_refl _, fun k hk => absurd hk (by simp), by exact .refl _, hs6, b6⟩ (fun i σ H' _ h => ?_) (fun i x σ H' hx h => ?_) (fun σ H' h => ?_)⟩
    · obtain ⟨_, _, _, _, _, _, _, _, _, _, _, b⟩ := h
      exact hS _ b
    · obtain ⟨e, rfl, he⟩ := get_int hx
      obtain ⟨y, l, sv, kvs, rfl, hl, hd, kl, hv, pm, hsi, bi⟩ := h
      have hi : i < 200 := Nat.lt_of_lt_of_le (lt_get he) hh.len
      have en := not_mem_take hh.nd he
      by_cases hpos : 0 < e
      · have us := upsF_snoc he
        rw [if_pos hpos] at us
        have ul := upsF_len hh (i + 1)
        rw [us, List.length_append, List.length_singleton] at ul
        have lsum : (upsF (ns.take i)).length + l.length = 100 := by
          have := pm.length_eq
          rwa [List.length_append, List.length_map, upL_len] at this
        refine ⟨_, rfl, _, _, rfl, rfl, true, dT hpos, ?_⟩
        refine ⟨_, rfl, .inl ⟨rfl, _, .of hl⟩, _, rfl, _, rfl, lf, _, rfl, .inl (.of hl), src, _, n + i, rfl, hsi, by omega, by rw [List.length_map]; omega, by rw [List.length_map]; omega, fun r H9 r0 r1 hs9 b9 => ?_⟩
        obtain ⟨j, rfl⟩ := nat_of r0
        rw [List.length_map] at r1
        have hj : j < l.length := by omega
        have hl9 := b9 _ _ nlfs hl
        have hd9 := b9 _ _ nds hd
        have hd10 : (upd H9 lf (.lst ((l.map V.int).eraseIdx j))) d = some (.dK kvs) := by rw [upd_ne nlfd.symm]; exact hd9
        refine ⟨lf, _, _, j, _, rfl, rfl, hl9, (nm (by omega)).1, (nm (by omega)).2, by rw [List.length_map]; exact ix_at hj, get_at hj, ?_⟩
        refine ⟨_, rfl, _, rfl, d, _, rfl, DPut.k (k := Sum.inl e) hd10 (zl (by omega)), _, l.eraseIdx j, putF1 sv e l[j], putK kvs (Sum.inl e) (.int l[j]), rfl, ?_, upd_same, Nat.le_trans (putK_len _ _ _) (Nat.succ_le_succ kl), hv.put he, ?_, ?_, ?_⟩
        · rw [upd_ne nlfd, upd_same, erase_map]
        · rw [us, List.map_append, putF_other (l := upsF (ns.take i)) (fun x => en (List.mem_filter.mp x).1)]
          show ((upsF (ns.take i)).map sv ++ [putF1 sv e l[j] e] ++ l.eraseIdx j).Perm (upL 100)
          rw [putF_same, List.append_assoc]
          exact ((erase_perm l j hj).append_left _).trans pm
        · exact ((hs9.upd nlfs).upd nds).mono (by omega)
        · exact ((bi.trans b9).mut nlf).mut nd0
      · have hneg : e < 0 := by
          have := (hh.rng e (mem_get he)).1
          omega
        have us := upsF_snoc he
        rw [if_neg hpos, List.append_nil] at us
        refine ⟨_, rfl, _, _, rfl, rfl, false, dF hpos, _, l, sv, kvs, rfl, hl, hd, Nat.le_succ_of_le kl, hv.keep he hneg, ?_, hsi.mono (by omega), bi⟩
        rw [us]
        exact pm
    · obtain ⟨y, l, sv, kvs, rfl, hl, hd, kl, hv, pm, hsi, bi⟩ := h
      rw [List.length_map] at hv pm hsi kl
      rw [List.take_length] at hv pm
      have ndU : ((upsF ns).map sv ++ l).Nodup := pm.nodup_iff.mpr (upL_nd 100)
      have acn := (List.nodup_append.mp ndU).1
      have rg : ∀ e ∈ ns, 0 < e → 1 ≤ sv e ∧ sv e ≤ 100 := fun e he hp => upL_mem (pm.mem_iff.mp (List.mem_append_left _ (List.mem_map.mpr ⟨e, mem_upsF he hp, rfl⟩)))
      obtain ⟨hm1, hm2⟩ := hist_map hh acn rg
      have hl2 := hh.len
      refine ⟨_, rfl, a, rfl, ⟨_, hS _ bi⟩, fun D hD => lc_list (xs := ns.map V.int) (LcP H' D fun i => ((ns.take i).map (gE sv)).map V.int) (.init hD rfl) (fun i H2 _ pp => pp.2.1.seq (hS _ bi)) (fun i x H2 hx pp => ?_) (fun H2 pp => ?_)⟩
      · obtain ⟨e, rfl, he⟩ := get_int hx
        have hlt := lt_get he
        have me := mem_get he
        have hd2 := pp.2.1 _ _ hd
        refine ⟨rfl, ?_⟩
        by_cases c : 0 < e
        · refine ⟨_, rfl, _, _, rfl, rfl, true, dT c, _, rfl, _, rfl, d, _, rfl, sv_get hv hd2 me c, pp.put (Same.refl _) ?_ ?_⟩
          · rw [take_get he, List.map_append, List.map_append]
            show _ ++ [V.int (gE sv e)] = _
            unfold gE
            rw [if_pos c]
          · rw [List.length_map, List.length_map, List.length_take]
            omega
        · obtain ⟨m, p⟩ := neg_mem hh me c
          refine ⟨_, rfl, _, _, rfl, rfl, false, dF c, _, rfl, _, rfl, _, _, rfl, rfl, d, _, rfl, sv_get hv hd2 m p, _, _, rfl, rfl, pp.put (Same.refl _) ?_ ?_⟩
          · rw [take_get he, List.map_append, List.map_append]
            show _ ++ [V.int (gE sv e)] = _
            unfold gE
            rw [if_neg c]
          · rw [List.length_map, List.length_map, List.length_take]
            omega
      · have h2 : H2 D = some (.lst ((ns.map (gE sv)).map V.int)) := by
          have z : H2 D = some (.lst (((ns.take (ns.map V.int).length).map (gE sv)).map V.int)) := pp.2.2
          rw [List.length_map, List.take_length] at z
          exact z
        have s2 := pp.2.1
        exact q _ D _ hm1 hm2 (bi.trans (.of s2)) ((hsi.same s2).mono (by omega)) (free_of bi (hsi.ne hD) hD) h2
/-! ### _law_shape_of_right -/
def spRight (K : PySem.W.Frag) : Sp := fun vs H Q _ => ∃ (a : Addr) (ns : List Int), vs = [.ref a, .str (sgS (posL ns))] ∧ SqL K H a (ns.map V.int) ∧ Hist ns ∧ ∀ H', Same H H' → Q (.bl true) H'
theorem strOk_sg (bs : List Bool) : PyData.strOk (sgS bs) = true := by
  unfold PyData.strOk sgS
  simp only [List.all_toArray, List.all_map, List.all_eq_true]
  intro b _
  cases b <;> decide
theorem shaped2 (bs : List Bool) : SeqAt.shaped (.list [.str (sgS bs), .str (sgS bs)]) = true := by
  simp [SeqAt.shaped, PyData.canLayAll0, PyData.canLay0, PyData.depth, PyData.depthAll, strOk_sg]
theorem eqv2 (z : Str) : V.bl (PyData.eqv (.list [.str z, .str z]) (.list [.str z, .str z])) = V.bl true := by
  have e : PyData.eqv (.list [.str z, .str z]) (.list [.str z, .str z]) = true := by
    simp [PyData.eqv, PyData.eqvAll]
  rw [e]
theorem ok_law_shape_of_right {f : Addr} {fd : FuncData} (F : Fun K "_law_shape_of_right" "_law_shape_of_right" s_law_shape_of_right f fd) (B : NoB mg) (T_shape_of : Gc P w K mg base 7 "shape_of" (spShapeOf K)) (T_K_shape_of : Gk P w K mg base 7 "shape_of" 0 ["history"] gApp (spShapeOf K)) : FnG P w K mg base CX0 8 f fd ["row", "signs"] (spRight K) := by
  refine okG F sc_law_shape_of_right (fun vs H Q E h => ?_) (fun cdv A outer s H vs Q E hG hr h => ?_)
  · obtain ⟨a, ns, rfl, _⟩ := h
    rfl
  · obtain ⟨a, ns, rfl, hS, hh, q⟩ := h
    have hu64 := hr.units
    have rg : ∀ n ∈ ns, -100 ≤ n ∧ n ≤ 100 := fun n hn => (hh.rng n hn).2
    have l1 : ns.length ≤ 1000 := by have := hh.len; omega
    refine ⟨_, (pss_cons (ps_set (i := 2) sc_law_shape_of_right.nd rfl (Or.inl rfl) (pe_callB (call_repr hG hu64) (by rfl) B.repr (by decide +kernel) (pa_cons (pv 0) pa_nil)))
        (pss_cons (ps_set (i := 3) sc_law_shape_of_right.nd rfl (Or.inl rfl) (pe_lst (pa_cons (pe_g T_shape_of hG hr (by decide) (by rfl) (pa_cons (pv 0) pa_nil)) (pa_cons (pe_gK0 T_K_shape_of hG hr (by decide) (by rfl) (pk_cons (pv 0) pk_nil)) pa_nil))))
        (pss_one (ps_ret (pe_and (pe_cmpR (op_eqD hu64) (pv 3) (pe_lst (pa_cons (pv 1) (pa_cons (pv 1) pa_nil))) (nomark _)) (pe_one (pe_cmpR op_eq (pe_callB (call_repr hG hu64) (by rfl) B.repr (by decide +kernel) (pa_cons (pv 0) pa_nil)) (pv 2) (nomark _)))))))), ?_⟩
    have sh : (dI ns).shown.length ≤ sizeLine := Nat.le_trans (shown_le rg hh.len) (Lp.zs (by omega))
    have lg : ∀ n ∈ ns, n.natAbs.log2 < 1920 := fun n hn => log2_small (rg n hn).1 (rg n hn).2
    refine ⟨_, rfl, a, dI ns, rfl, dp_ints hS, show_ints ns lg, noDict_ints ns, rI2 ns, sh, ?_⟩
    refine ⟨_, rfl, a, ns, rfl, hS, hh, fun H1 s1 => ?_⟩
    refine ⟨_, rfl, rfl, rfl, a, ns, rfl, s1.seq hS, hh, fun H2 s2 => ⟨by show 2 ≤ sizeLine; decide, fun L nL => ?_⟩⟩
    refine ⟨_, rfl, _, rfl, _, rfl, by show 2 ≤ sizeLine; decide, fun L2 nL2 => ?_⟩
    have sm : Same H (upd (upd H2 L (.lst [.str (sgS (posL ns)), .str (sgS (posL ns))])) L2 (.lst [.str (sgS (posL ns)), .str (sgS (posL ns))])) := ((s1.trans s2).trans (same_new nL)).trans (same_new nL2)
    refine ⟨.list [.str _, .str _], .list [.str _, .str _], .lst (.of (by rw [upd_ne (ne_of_none upd_same nL2), upd_same])) (.cons (.str _) (.cons (.str _) .nil)), .lst (.of upd_same) (.cons (.str _) (.cons (.str _) .nil)), shaped2 _, shaped2 _, true, eqv2 _, ?_⟩
    refine ⟨_, rfl, a, dI ns, rfl, dp_ints (sm.seq hS), show_ints ns lg, noDict_ints ns, rI2 ns, sh, ?_⟩
    have e := q _ sm
    refine ⟨_, rfl, rfl, ?_⟩
    show Q (V.bl (decide (V.str (dI ns).shown = V.str (dI ns).shown))) _
    rw [decide_eq_true rfl]
    exact e
end
end L54
set_option Elab.async false
set_option linter.all false
set_option maxRecDepth 100000
namespace L54
open PySem PySem.Spec PyProof.Rows L2 Lp
def badL (cs : List Nat) : List Nat := cs.filter fun c => decide (¬ (c = 43 ∨ c = 45))
def lowL (cs : List Nat) (i : Nat) : List Int := ((List.range i).filter fun k => decide (2 * (cs.take (k + 1)).count 45 > k + 1)).map fun k : Nat => (0 : Int) + (k : Int)
theorem badL_snoc {cs : List Nat} {i c : Nat} (h : cs[i]? = some c) : badL (cs.take (i + 1)) = badL (cs.take i) ++ if c = 43 ∨ c = 45 then [] else [c] := by
  unfold badL
  rw [take_snoc h, List.filter_append]
  congr 1
  by_cases p : c = 43 ∨ c = 45
  · rw [if_pos p]
    exact List.filter_cons_of_neg (by show ¬ decide (¬ (c = 43 ∨ c = 45)) = true; rw [decide_eq_false (fun x => x p)]; exact Bool.false_ne_true)
  · rw [if_neg p]
    exact List.filter_cons_of_pos (decide_eq_true p)
theorem badL_nil {cs : List Nat} (h : badL cs = []) : ∀ c ∈ cs, c = 43 ∨ c = 45 := fun c hc => by
  by_cases p : c = 43 ∨ c = 45
  · exact p
  · have m : c ∈ badL cs := List.mem_filter.mpr ⟨hc, decide_eq_true p⟩
    rw [h] at m
    cases m
theorem badL_some {cs : List Nat} (h : badL cs ≠ []) : scanL cs = none := by
  cases e : scanL cs with
  | none => rfl
  | some r =>
    have s := (scan_some cs r e).sg
    exact absurd (List.filter_eq_nil_iff.mpr fun c hc => by show ¬ decide (¬ (c = 43 ∨ c = 45)) = true; rw [decide_eq_false (fun x => x (s c hc))]; exact Bool.false_ne_true) h
theorem lowL_snoc (cs : List Nat) (i : Nat) : lowL cs (i + 1) = lowL cs i ++ if 2 * (cs.take (i + 1)).count 45 > i + 1 then [(0 : Int) + (i : Int)] else [] := by
  unfold lowL
  rw [List.range_succ, List.filter_append, List.map_append]
  congr 1
  by_cases p : 2 * (cs.take (i + 1)).count 45 > i + 1
  · rw [if_pos p]
    exact congrArg (List.map fun k : Nat => (0 : Int) + (k : Int)) (List.filter_cons_of_pos (p := fun k => decide (2 * (cs.take (k + 1)).count 45 > k + 1)) (decide_eq_true p))
  · rw [if_neg p]
    exact congrArg (List.map fun k : Nat => (0 : Int) + (k : Int)) (List.filter_cons_of_neg (p := fun k => decide (2 * (cs.take (k + 1)).count 45 > k + 1)) (by simpa using p))
theorem lowL_nil {cs : List Nat} {n : Nat} (h : lowL cs n = []) : ∀ k, k < n → 2 * (cs.take (k + 1)).count 45 ≤ k + 1 := fun k hk => by
  by_cases p : 2 * (cs.take (k + 1)).count 45 > k + 1
  · have m : (0 : Int) + (k : Int) ∈ lowL cs n := List.mem_map.mpr ⟨k, List.mem_filter.mpr ⟨List.mem_range.mpr hk, decide_eq_true p⟩, rfl⟩
    rw [h] at m
    cases m
  · omega
theorem lowL_some {cs : List Nat} (h : lowL cs cs.length ≠ []) : scanL cs = none := by
  cases e : scanL cs with
  | none => rfl
  | some r =>
    have s := (scan_some cs r e).pre
    refine absurd ?_ h
    unfold lowL
    rw [List.filter_eq_nil_iff.mpr fun k hk => by simpa using s k (List.mem_range.mp hk)]
    rfl
theorem lowL_len (cs : List Nat) (i : Nat) : (lowL cs i).length ≤ i := by
  unfold lowL
  rw [List.length_map]
  have := List.length_filter_le (fun k => decide (2 * (cs.take (k + 1)).count 45 > k + 1)) (List.range i)
  rwa [List.length_range] at this
theorem badL_len (cs : List Nat) : (badL cs).length ≤ cs.length := List.length_filter_le _ _
def OkS (z : Str) : Prop := z.cps.size ≤ 100000 ∧ ∀ c ∈ z.cps.toList, c < 1114112
def chV (c : Nat) : V := .str ⟨#[c]⟩
def chD (c : Nat) : PyData := .str ⟨#[c]⟩
theorem dp_ch {K : PySem.W.Frag} {H : Hp} : ∀ cs : List Nat, DpAll K H (cs.map chV) (cs.map chD)
  | [] => .nil
  | c :: cs => .cons (.str _) (dp_ch cs)
theorem lay_ch : ∀ cs : List Nat, (∀ c ∈ cs, c < 1114112) → PyData.canLayAll0 (cs.map chD) = true ∧ PyData.depthAll (cs.map chD) = 0
  | [], _ => ⟨rfl, rfl⟩
  | c :: cs, h => by
    obtain ⟨a, b⟩ := lay_ch cs fun x hx => h x (List.mem_cons_of_mem _ hx)
    have hc := h c List.mem_cons_self
    constructor
    · show (PyData.canLay0 (chD c) && PyData.canLayAll0 (cs.map chD)) = true
      rw [a]
      simp [chD, PyData.canLay0, PyData.strOk, hc]
    · show max (PyData.depth (chD c)) (PyData.depthAll (cs.map chD)) = 0
      rw [b]
      rfl
theorem shaped_ch {cs : List Nat} (h : ∀ c ∈ cs, c < 1114112) : SeqAt.shaped (.list (cs.map chD)) = true := by
  obtain ⟨a, b⟩ := lay_ch cs h
  show (PyData.canLayAll0 (cs.map chD) && decide (PyData.depthAll (cs.map chD) + 1 ≤ 64)) = true
  rw [a, b]
  rfl
theorem ne_ch (cs : List Nat) : V.bl (!PyData.eqv (.list (cs.map chD)) (.list [])) = V.bl (decide (cs ≠ [])) := by
  cases cs with
  | nil => rfl
  | cons c cs => rfl
theorem notin_ch (c : Nat) : (!inV (V.str ⟨#[c]⟩) [V.str ("+" : Str), V.str ("-" : Str)]) = decide (¬ (c = 43 ∨ c = 45)) := by
  rw [plus_eq, minus_eq]
  show (!(eqV (V.str ⟨#[43]⟩) (V.str ⟨#[c]⟩) || (eqV (V.str ⟨#[45]⟩) (V.str ⟨#[c]⟩) || false))) = _
  have b : ∀ a d : Nat, ((⟨#[a]⟩ : Str) == ⟨#[d]⟩) = decide (d = a) := fun a d => by
    rw [Bool.eq_iff_iff, beq_iff_eq, decide_eq_true_iff]
    constructor
    · intro e
      have e2 := Str.mk.inj e
      have e3 := congrArg Array.toList e2
      exact (List.cons.inj e3).1.symm
    · intro e
      rw [e]
  simp only [eqV, b]
  by_cases h1 : c = 43
  · have hp : decide (¬ (c = 43 ∨ c = 45)) = false := decide_eq_false (fun x => x (.inl h1))
    rw [hp, decide_eq_true h1]
    rfl
  · by_cases h2 : c = 45
    · have hp : decide (¬ (c = 43 ∨ c = 45)) = false := decide_eq_false (fun x => x (.inr h2))
      rw [hp, decide_eq_false h1, decide_eq_true h2]
      rfl
    · have hp : decide (¬ (c = 43 ∨ c = 45)) = true := decide_eq_true (fun x => x.elim h1 h2)
      rw [hp, decide_eq_false h1, decide_eq_false h2]
      rfl
theorem cut_take {z : Str} {k : Nat} (h : k < z.cps.size) : cutS z none (some (0 + (k : Int) + 1)) = ⟨(z.cps.toList.take (k + 1)).toArray⟩ := by
  have e : (0 + (k : Int) + 1) = ((k + 1 : Nat) : Int) := by omega
  unfold cutS
  rw [e, HT.sIx_none, HT.sIx_nat, List.drop_zero, Nat.sub_zero, Nat.min_eq_left (show k + 1 ≤ z.length from h)]
section
variable {P : Program} {w : World} {K : PySem.W.Frag} {mg : Str → Option Value} {base : Heap}
/-! ### _law_due -/
def OkT (H : Hp) (v : V) : Prop := (∃ z : Str, v = .str z ∧ OkS z) ∨ NoStr H v
def spDue : Sp := fun vs H Q _ => ∃ v : V, vs = [v] ∧ OkT H v ∧ ∀ H', Same H H' → Q (.bl (shapeV v)) H'
set_option maxHeartbeats 1000000 in
theorem ok_law_due {f : Addr} {fd : FuncData} (F : Fun K "_law_due" "_law_due" s_law_due f fd) (B : NoB mg) : FnG P w K mg base CX0 1 f fd ["thing"] spDue := by
  refine okG F sc_law_due (fun vs H Q E h => ?_) (fun cdv A outer s H vs Q E hG hr h => ?_)
  · obtain ⟨v, rfl, _⟩ := h
    rfl
  · obtain ⟨v, rfl, ok, q⟩ := h
    have hu64 := hr.units
    refine ⟨_, (Evl.pss_cut (ps_if (PW.pt (pw_or (pt_not (pt_val (pe_callB call_isi (by rfl) B.isinstance (by decide +kernel) (pa_cons (pv 0) (pa_cons (pe_bltn (v := .ty "str") (by rfl) B.str boot_str rfl) pa_nil))))) (pw_or1 (pt_cmpR (op_neD hu64) (pe_lc (own := [("sign", 2)]) (g := gName 2) (tt := _) rfl sc_law_due.nd (pi_str (pv 0)) (blkOk_by (own := [("sign", 2)]) (N := N_law_due) (sc := defScope s_law_due) (by decide +kernel)) (fun _ _ _ _ _ => (pg_name (i := 2) sc_law_due.nd rfl (Or.inl rfl))) (fun _ _ _ _ _ => (pts_one (pt_cmpR (k_notin (K := K) rfl) (pv 2) (pe_tup (pa_cons pe_str (pa_cons pe_str pa_nil))) (by rfl)))) (fun _ _ _ _ _ => (pv 2))) (pe_lst pa_nil) (nomark _))))) (pss_one (ps_ret pe_bl)) pss_nil)
        (pss_cons (ps_setLc (i := 1) (own := [("at", 3)]) (g := gName 3) (tt := _) rfl sc_law_due.nd rfl rfl (sw_true rfl rfl rfl (by decide +kernel)) (pi_range1 rfl B.range (pa_cons (pe_callB call_len_str (by rfl) B.len PySem.boot_len (pa_cons (pv 0) pa_nil)) pa_nil)) (blkOk_by (own := [("at", 3)]) (N := N_law_due) (sc := defScope s_law_due) (by decide +kernel)) (fun _ _ _ _ _ => (pg_name (i := 3) sc_law_due.nd rfl (Or.inl rfl))) (fun _ _ _ _ _ => (pts_one (pt_cmpR op_gt (pe_op op_mulW pe_int (k_bm (K := K) rfl PySem.F.plainAttrs_str PySem.F.slot_str_count PySem.F.type_str_count mt_count (pe_slice sl_str (pv 0) po_none (po_some (pe_op op_add (pv 3) pe_int))) (pa_cons pe_str pa_nil))) (pe_op op_add (pv 3) pe_int) (nomark _)))) (fun _ _ _ _ _ => (pv 3)))
        (pss_one (ps_ret (pe_and (pe_cmpR (op_eqD hu64) (pv 1) (pe_lst pa_nil) (nomark _)) (pe_and (pe_cmpR op_lt (pe_callB call_len_str (by rfl) B.len PySem.boot_len (pa_cons (pv 0) pa_nil)) pe_int (nomark _)) (pe_one (pe_cmpR op_lt (pe_bm PySem.F.plainAttrs_str PySem.F.slot_str_count PySem.F.type_str_count mt_count (pv 0) (pa_cons pe_str pa_nil)) pe_int (nomark _))))))))), ?_⟩
    rcases ok with ⟨z, rfl, hz, hcs⟩ | ns
    · have dead : scanL z.cps.toList = none → shapeV (.str z) = false := fun e => by
        show ((scanL z.cps.toList).isSome && _) = false
        rw [e]
        rfl
      have zl1 : z.cps.toList.length = z.cps.size := Array.length_toList
      refine ⟨fun σ' H' => σ' = [some (.str z), none, none, none] ∧ badL z.cps.toList = [] ∧ Same H H', ?_, fun σ' H' hm => ?_⟩
      · refine ⟨_, rfl, _, _, _, _, true, rfl, .ty _, .base (.str _), kit_ty (by decide +kernel), true, rfl, iteF ?_⟩
        refine ⟨_, rfl, _, rfl, fun D hD => lc_it (walk_str (z := z)) (LcP H D fun i => (badL (z.cps.toList.take i)).map chV) (.init hD rfl) (fun _ _ _ _ => trivial) (fun i x H' H2 hi pp hy => ?_) (fun H2 pp => ?_)⟩
        · obtain ⟨e1, c, hc, rfl⟩ := hy
          subst e1
          have hc' : z.cps.toList[i]? = some c := by rw [Array.getElem?_toList]; exact hc
          have es := badL_snoc hc'
          have bl := badL_len (z.cps.toList.take i)
          rw [List.length_take, zl1] at bl
          refine ⟨rfl, ?_⟩
          refine ⟨_, rfl, by show 2 ≤ sizeLine; decide, fun T nT => ?_⟩
          by_cases p : c = 43 ∨ c = 45
          · rw [if_pos p, List.append_nil] at es
            exact ⟨T, _, rfl, .inr (.of upd_same), rfl, rfl, false, congrArg V.bl ((notin_ch c).trans (decide_eq_false (fun x => x p))), pp.skip (same_new nT) (by rw [es])⟩
          · rw [if_neg p] at es
            refine ⟨T, _, rfl, .inr (.of upd_same), rfl, rfl, true, congrArg V.bl ((notin_ch c).trans (decide_eq_true p)), _, rfl, pp.put (same_new nT) (by rw [es, List.map_append]; rfl) (by rw [List.length_map]; omega)⟩
        · have h2 : H2 D = some (.lst ((badL z.cps.toList).map chV)) := by
            have e : H2 D = some (.lst ((badL (z.cps.toList.take z.cps.size)).map chV)) := pp.2.2
            rw [List.take_of_length_le (by rw [zl1]; exact Nat.le_refl _)] at e
            exact e
          have s2 := pp.2.1
          refine ⟨Nat.zero_le _, fun e ne => ?_⟩
          have h3 := same_new (o := .lst []) ne _ _ h2
          refine ⟨.list ((badL z.cps.toList).map chD), .list [], .lst (.of h3) (dp_ch _), .lst (.of upd_same) .nil, shaped_ch (fun c hc => hcs c (List.mem_filter.mp hc).1), rfl, decide (badL z.cps.toList ≠ []), ne_ch _, ?_⟩
          by_cases p : badL z.cps.toList = []
          · rw [decide_eq_false (fun x => x p)]
            exact ⟨rfl, p, s2.trans (same_new ne)⟩
          · rw [decide_eq_true p]
            have qq := q _ (s2.trans (same_new (o := .lst []) ne))
            rw [dead (badL_some p)] at qq
            exact qq
      · obtain ⟨rfl, hbad, sm⟩ := hm
        have sgs := badL_nil hbad
        have zi : (((z.length : Nat) : Int)).toNat = z.cps.size := rfl
        have zs' : z.length ≤ sizeLine := Lp.zs hz
        have zz : ((z.length : Nat) : Int) ≤ 100000 := Int.ofNat_le.mpr hz
        refine ⟨_, rfl, z, rfl, zs', ((z.length : Nat) : Int), rfl, by omega, by omega, fun D hD => ?_⟩
        rw [zi]
        refine lc_it (walk_range (lo := 0) (n := z.cps.size)) (LcP H' D fun k => (lowL z.cps.toList k).map V.int) (.init hD rfl) (fun _ _ _ _ => trivial) (fun k x H2 H3 hk pp hy => ?_) (fun H2 pp => ?_)
        · obtain ⟨rfl, rfl⟩ := hy
          have ll := lowL_len z.cps.toList k
          have es := lowL_snoc z.cps.toList k
          have cl := List.count_le_length (a := 45) (l := z.cps.toList.take (k + 1))
          rw [List.length_take, zl1] at cl
          refine ⟨rfl, ?_⟩
          have ec : Txt.count (cutS z none (some (0 + (k : Int) + 1))) ("-" : Str) = (((z.cps.toList.take (k + 1)).count 45 : Nat) : Int) := by
            rw [cut_take hk, tcount_M]
          refine ⟨_, rfl, _, rfl, _, _, rfl, rfl, _, rfl, z, rfl, zs', rfl, _, _, rfl, rfl, _, _, rfl, rfl, wide_mul (a := 30) (b := 30) (by decide) (by rw [ec]; exact lt_pow (by omega) (by omega)) (by decide) (by decide) (by decide), ?_⟩
          rw [ec]
          refine ⟨_, rfl, _, _, rfl, rfl, _, _, rfl, rfl, ?_⟩
          by_cases p : 2 * (z.cps.toList.take (k + 1)).count 45 > k + 1
          · rw [if_pos p] at es
            refine ⟨true, congrArg V.bl (decide_eq_true (by omega)), _, rfl, pp.put (Same.refl _) (by rw [es, List.map_append]; rfl) (by rw [List.length_map]; omega)⟩
          · rw [if_neg p, List.append_nil] at es
            exact ⟨false, congrArg V.bl (decide_eq_false (by omega)), pp.skip (Same.refl _) (by rw [es])⟩
        · have h2 : H2 D = some (.lst ((lowL z.cps.toList z.cps.size).map V.int)) := pp.2.2
          have s2 := sm.trans pp.2.1
          refine ⟨_, rfl, Nat.zero_le _, fun e ne => ?_⟩
          have h3 := same_new (o := .lst []) ne _ _ h2
          have qq := q _ (s2.trans (same_new (o := .lst []) ne))
          by_cases p : lowL z.cps.toList z.cps.size = []
          · refine ⟨dI (lowL z.cps.toList z.cps.size), dI [], dp_ints (.of h3), dp_ints (ns := []) (.of upd_same), shaped_ints _, shaped_ints _, true, eqvT p, ?_⟩
            obtain ⟨r, hr⟩ := scan_of z.cps.toList sgs (by rw [zl1]; exact lowL_nil p)
            have sg := scan_some _ _ hr
            have e1 := sg.run
            have e2 := sg.len
            have es : shapeV (.str z) = decide (z.cps.toList.count 43 ≤ 100) := by
              show ((scanL z.cps.toList).isSome && decide (z.cps.toList.count 43 ≤ 100)) = _
              rw [hr]
              rfl
            rw [es] at qq
            have ln : ((z.length : Nat) : Int) = ((z.cps.toList.count 43 + z.cps.toList.count 45 : Nat) : Int) := by
              rw [e2, zl1]
              rfl
            refine ⟨_, rfl, z, rfl, zs', _, _, rfl, rfl, ?_⟩
            rw [ln]
            by_cases c1 : z.cps.toList.count 43 ≤ 100
            · rw [decide_eq_true c1] at qq
              refine ⟨true, congrArg V.bl (decide_eq_true (by omega)), ?_⟩
              refine ⟨_, rfl, rfl, _, _, rfl, rfl, _, _, rfl, rfl, ?_⟩
              rw [tcount_P]
              dsimp only
              rw [decide_eq_true (show ((z.cps.toList.count 43 : Nat) : Int) < 101 by omega)]
              exact qq
            · rw [decide_eq_false c1] at qq
              by_cases c2 : z.cps.toList.count 43 + z.cps.toList.count 45 < 201
              · refine ⟨true, congrArg V.bl (decide_eq_true (by omega)), ?_⟩
                refine ⟨_, rfl, rfl, _, _, rfl, rfl, _, _, rfl, rfl, ?_⟩
                rw [tcount_P]
                dsimp only
                rw [decide_eq_false (show ¬ ((z.cps.toList.count 43 : Nat) : Int) < 101 by omega)]
                exact qq
              · exact ⟨false, congrArg V.bl (decide_eq_false (by omega)), qq⟩
          · refine ⟨dI (lowL z.cps.toList z.cps.size), dI [], dp_ints (.of h3), dp_ints (ns := []) (.of upd_same), shaped_ints _, shaped_ints _, false, eqvF p, ?_⟩
            rw [← zl1] at p
            rw [dead (lowL_some p)] at qq
            exact qq
    · obtain ⟨t, ht, hk⟩ := ns.ty (K := K)
      refine ⟨fun _ _ => False, ?_, fun _ _ x => x.elim⟩
      refine ⟨_, rfl, _, _, _, _, false, rfl, .ty _, ht, hk, false, rfl, ?_⟩
      have qq := q _ (Same.refl _)
      rw [ns.shape] at qq
      exact qq
end
end L54
set_option Elab.async false
set_option linter.all false
set_option maxRecDepth 100000
namespace L54
open PySem PySem.Spec PyProof.Rows L2 Lp
def OkN (n : Nat) (z : Str) : Prop := z.cps.size ≤ n ∧ ∀ c ∈ z.cps.toList, c < 1114112
theorem OkN.mono {n m : Nat} {z : Str} (h : OkN n z) (l : n ≤ m) : OkN m z := ⟨Nat.le_trans h.1 l, h.2⟩
theorem okN_sg {bs : List Bool} (h : bs.length ≤ 200) : OkN 200 (sgS bs) := ⟨by rw [sg_size]; exact h, fun c hc => by
  have hc' : c ∈ bs.map sgC := hc
  obtain ⟨b, _, rfl⟩ := List.mem_map.mp hc'
  cases b <;> decide⟩
theorem OkN.cat {a b : Nat} {i j : Str} (h : OkN a i) (k : OkN b j) : OkN (a + b) (i ++ j) := ⟨by
  show (i.cps ++ j.cps).size ≤ _
  rw [Array.size_append]
  exact Nat.add_le_add h.1 k.1, fun c hc => by
  have hc' : c ∈ (i.cps ++ j.cps).toList := hc
  rw [Array.toList_append] at hc'
  exact (List.mem_append.mp hc').elim (h.2 c) (k.2 c)⟩
theorem OkN.cut {n : Nat} {z : Str} (h : OkN n z) (lo hi : Option Int) : OkN n (cutS z lo hi) := ⟨by
  unfold cutS
  show ((List.take _ (List.drop _ z.cps.toList)).toArray).size ≤ n
  rw [List.size_toArray, List.length_take, List.length_drop, Array.length_toList]
  have := h.1
  omega, fun c hc => by
  unfold cutS at hc
  exact h.2 c (List.mem_of_mem_drop (List.mem_of_mem_take hc))⟩
theorem OkN.rev {n : Nat} {z : Str} (h : OkN n z) : OkN n (revS z) := ⟨by
  show (z.cps.toList.reverse.toArray).size ≤ n
  rw [List.size_toArray, List.length_reverse, Array.length_toList]
  exact h.1, fun c hc => by
  have hc' : c ∈ z.cps.toList.reverse := hc
  exact h.2 c (List.mem_reverse.mp hc')⟩
theorem OkN.rep {n : Nat} {z : Str} (h : OkN n z) (m : Nat) : OkN (n * m) ⟨(List.replicate m z.cps.toList).flatten.toArray⟩ := ⟨by
  show ((List.replicate m z.cps.toList).flatten.toArray).size ≤ n * m
  have e : ((List.replicate m z.cps.toList).flatten).length = m * z.cps.size := by simp
  rw [List.size_toArray, e, Nat.mul_comm]
  exact Nat.mul_le_mul_right m h.1, fun c hc => by
  have hc' : c ∈ (List.replicate m z.cps.toList).flatten := hc
  obtain ⟨l, hl, hcl⟩ := List.mem_flatten.mp hc'
  rw [(List.mem_replicate.mp hl).2] at hcl
  exact h.2 c hcl⟩
theorem OkN.sz {n : Nat} {z : Str} (h : OkN n z) (l : n ≤ 100000) : z.length ≤ sizeLine := Lp.zs (Nat.le_trans h.1 l)
theorem OkN.sum {a b : Nat} {i j : Str} (h : OkN a i) (k : OkN b j) (l : a + b ≤ 100000) : i.length + j.length ≤ sizeLine := Lp.zs (Nat.le_trans (Nat.add_le_add h.1 k.1) l)
theorem OkN.ok {n : Nat} {z : Str} (h : OkN n z) (l : n ≤ 100000) : OkS z := ⟨Nat.le_trans h.1 l, h.2⟩
theorem lit1 : OkN 2 ("+" : Str) := ⟨by decide +kernel, by decide +kernel⟩
theorem lit2 : OkN 2 ("-" : Str) := ⟨by decide +kernel, by decide +kernel⟩
theorem lit3 : OkN 2 ("" : Str) := ⟨by decide +kernel, by decide +kernel⟩
theorem lit4 : OkN 2 (" " : Str) := ⟨by decide +kernel, by decide +kernel⟩
theorem lit5 : OkN 2 ("++" : Str) := ⟨by decide +kernel, by decide +kernel⟩
theorem lit6 : OkN 2 ("--" : Str) := ⟨by decide +kernel, by decide +kernel⟩
theorem lit7 : OkN 2 ("+-" : Str) := ⟨by decide +kernel, by decide +kernel⟩
theorem lit8 : OkN 2 ("0" : Str) := ⟨by decide +kernel, by decide +kernel⟩
theorem lit9 : OkN 2 ("\n" : Str) := ⟨by decide +kernel, by decide +kernel⟩
theorem lit10 : OkN 2 ("=" : Str) := ⟨by decide +kernel, by decide +kernel⟩
theorem lit11 : OkN 2 ("x" : Str) := ⟨by decide +kernel, by decide +kernel⟩
def SOk (n : Nat) (xs : List V) : Prop := ∀ x ∈ xs, ∃ z, x = V.str z ∧ OkN n z
theorem SOk.nil {n : Nat} : SOk n [] := fun _ h => (nomatch h)
theorem SOk.cons {n m : Nat} {z : Str} {xs : List V} (h : OkN m z) (l : m ≤ n) (t : SOk n xs) : SOk n (V.str z :: xs) := fun x hx => by
  rcases List.mem_cons.mp hx with e | e
  · exact ⟨z, e, h.mono l⟩
  · exact t x e
theorem SOk.app {n : Nat} {xs ys : List V} (h : SOk n xs) (k : SOk n ys) : SOk n (xs ++ ys) := fun x hx => (List.mem_append.mp hx).elim (h x) (k x)
theorem OkT.okV {H : Hp} {v : V} (h : OkT H v) : OkV H v := h.imp (fun ⟨z, e, k⟩ => ⟨z, e, k.1⟩) id
theorem OkT.same {H H' : Hp} {v : V} (h : OkT H v) (s : Same H H') : OkT H' v := h.imp id fun x => x.same s
theorem hist_take {ns : List Int} (h : Hist ns) (n : Nat) : Hist (ns.take n) := by
  refine ⟨fun e he => h.rng e (List.mem_of_mem_take he), h.nd.sublist (List.take_sublist n ns), fun i e he h0 => ?_, by rw [List.length_take]; have := h.len; omega⟩
  have hi := lt_get he
  rw [List.length_take] at hi
  rw [List.getElem?_take, if_pos (by omega)] at he
  rw [List.take_take, Nat.min_eq_left (by omega)]
  exact h.ord i e he h0
theorem dpB2 {K : PySem.W.Frag} {H : Hp} {L : Addr} {b c : Bool} (h : H L = some (.lst [V.bl b, .bl c])) : Dp K H (.ref L) (.list [.bool b, .bool c]) := .lst (.of h) (.cons (.bl _) (.cons (.bl _) .nil))
theorem show_b (b : Bool) : (PyData.list [.bool b, .bool b]).showable = true ∧ (PyData.list [.bool b, .bool b]).hasDict = false ∧ (PyData.list [.bool b, .bool b]).depth ≤ 60 ∧ (PyData.list [.bool b, .bool b]).shown.length ≤ sizeLine := by
  cases b <;> exact ⟨by decide +kernel, by decide +kernel, by decide +kernel, Lp.zs (by decide +kernel)⟩
theorem cut_last (bs : List Bool) (h : 0 < bs.length) : cutS (sgS bs) none (some (-1)) = sgS (bs.take (bs.length - 1)) := by
  unfold cutS
  have e : HT.sIx (sgS bs).length (sgS bs).length (some (-1)) = bs.length - 1 := by
    show (if (-1 : Int) < 0 then ((-1 : Int) + ((sgS bs).length : Int)).toNat else min (-1 : Int).toNat (sgS bs).length) = _
    rw [if_pos (by decide), sgS_len]
    omega
  rw [HT.sIx_none, e, List.drop_zero, Nat.sub_zero]
  show (⟨(((bs.map sgC).toArray.toList).take (bs.length - 1)).toArray⟩ : Str) = ⟨((bs.take (bs.length - 1)).map sgC).toArray⟩
  rw [List.map_take]
section
variable {P : Program} {w : World} {K : PySem.W.Frag} {mg : Str → Option Value} {base : Heap}
/-! ### law -/
def spLaw (K : PySem.W.Frag) : Sp := fun vs H Q _ => ∃ (a : Addr) (ns : List Int), vs = [.ref a] ∧ SqL K H a (ns.map V.int) ∧ ns.length ≤ 63 ∧ ∀ H', Q (.bl true) H'
set_option maxHeartbeats 4000000 in
theorem ok_law {f : Addr} {fd : FuncData} (F : Fun K "law" "law" s_law f fd) (B : NoB mg) (T_law_pool : Gc P w K mg base 1 "_law_pool" (spPool K)) (T_law_draw : Gc P w K mg base 1 "_law_draw" spDraw) (T_law_signs : Gc P w K mg base 2 "_law_signs" (spSigns K)) (T_law_due : Gc P w K mg base 1 "_law_due" spDue)
    (T_is_shape : Gc P w K mg base 1 "is_shape" spIsShape) (T_K_is_shape : Gk P w K mg base 1 "is_shape" 0 ["value"] gApp spIsShape) (T_law_row : Gc P w K mg base 2 "_law_row" spRow) (T_law_numbered : Gc P w K mg base 2 "_law_numbered" (spNumd K)) (T_law_shape_of_right : Gc P w K mg base 8 "_law_shape_of_right" (spRight K)) : FnG P w K mg base CX0 9 f fd ["script"] (spLaw K) := by
  refine okG F sc_law (fun vs H Q E h => ?_) (fun cdv A outer s H vs Q E hG hr h => ?_)
  · obtain ⟨a, ns, rfl, _⟩ := h
    rfl
  · obtain ⟨sc, ns, rfl, hS, hl, q⟩ := h
    have hu64 := hr.units
    refine ⟨_, (pss_cons (ps_for PassesOwn.never rfl (pi_range1 rfl B.range (pa_cons (pe_callB (call_max2 rfl) (by rfl) B.max (by decide +kernel) (pa_cons pe_int (pa_cons (pe_callB (call_min2 rfl) (by rfl) B.min (by decide +kernel) (pa_cons pe_int (pa_cons (pe_callB call_len_seq (by rfl) B.len PySem.boot_len (pa_cons (pv 0) pa_nil)) pa_nil))) pa_nil))) pa_nil)) (pg_name (i := 1) sc_law.nd rfl (Or.inl rfl))
          (pss_cons (ps_set (i := 2) sc_law.nd rfl (Or.inl rfl) (pe_g T_law_pool hG hr (by decide) (by rfl) (pa_cons (pv 0) (pa_cons (pv 1) pa_nil))))
          (pss_cons (ps_set (i := 3) sc_law.nd rfl (Or.inl rfl) (pe_g T_law_signs hG hr (by decide) (by rfl) (pa_cons (pv 2) (pa_cons (pv 0) pa_nil))))
          (pss_cons (ps_set (i := 4) sc_law.nd rfl (Or.inl rfl) (pe_lst (pa_cons pe_str (pa_cons pe_str (pa_cons pe_str (pa_cons pe_str (pa_cons pe_str (pa_cons pe_str (pa_cons pe_str (pa_cons pe_str (pa_cons pe_str (pa_cons pe_str (pa_cons (pe_op op_repS pe_str pe_int) (pa_cons pe_str pa_nil))))))))))))))
          (pss_cons (ps_set (i := 5) sc_law.nd rfl (Or.inl rfl) (pe_lst (pa_cons (pv 3) (pa_cons (pe_revS (pv 3)) (pa_cons (pe_op op_add_str (pe_op op_repS pe_str pe_int) (pe_op op_repS pe_str pe_int)) (pa_cons (pe_op op_repS pe_str pe_int) (pa_cons (pe_op op_add_str (pe_op op_repS pe_str pe_int) pe_str) (pa_cons pe_str (pa_cons (pe_op op_repS (pv 3) pe_int) pa_nil)))))))))
          (pss_cons (ps_for PassesOwn.never rfl (pi_range1 rfl B.range (pa_cons pe_int pa_nil)) (pg_name (i := 6) sc_law.nd rfl (Or.inl rfl))
            (pss_cons (ps_par (i := 7) (j := 8) (by rfl) sc_law.nd rfl rfl (by decide) rfl rfl (pa_cons (pe_g T_law_draw hG hr (by decide) (by rfl) (pa_cons (pv 2) (pa_cons (pe_op op_add (pe_callB call_len_str (by rfl) B.len PySem.boot_len (pa_cons (pv 3) pa_nil)) pe_int) pa_nil))) (pa_cons (pe_ix ix_list (pv 4) (pe_g T_law_draw hG hr (by decide) (by rfl) (pa_cons (pv 2) (pa_cons pe_int pa_nil))) (fun _ _ => rfl)) pa_nil)) (by rfl))
            (pss_cons (ps_set (i := 5) sc_law.nd rfl (Or.inl rfl) (pe_op op_cat (pv 5) (pe_lst (pa_cons (pe_op op_add_str (pe_op op_add_str (pe_slice sl_str (pv 3) po_none (po_some (pv 7))) (pv 8)) (pe_slice sl_str (pv 3) (po_some (pv 7)) po_none)) (pa_cons (pe_op op_add_str (pe_op op_add_str (pe_slice sl_str (pv 3) po_none (po_some (pv 7))) (pv 8)) (pe_slice sl_str (pv 3) (po_some (pe_op op_add (pv 7) pe_int)) po_none)) pa_nil)))))
            (pss_one (ps_expr (pe_bm PySem.F.plainAttrs_list PySem.F.slot_list_append PySem.F.type_list_append mt_append (pv 5) (pa_cons (pe_op op_add_str (pe_slice sl_str (pv 3) po_none (po_some (pv 7))) (pe_slice sl_str (pv 3) (po_some (pe_op op_add (pv 7) pe_int)) po_none)) pa_nil)))))))
          (pss_cons (ps_set (i := 5) sc_law.nd rfl (Or.inl rfl) (pe_op op_cat (pv 5) (pe_lst (pa_cons pe_non (pa_cons pe_int (pa_cons pe_bl (pa_cons (pe_lst pa_nil) (pa_cons (pe_callTy (cr_listStr rfl) (by rfl) B.list (by decide +kernel) (pa_cons (pv 3) pa_nil)) (pa_cons (pe_callTy (cr_tupStr rfl) (by rfl) B.tuple (by decide +kernel) (pa_cons (pv 3) pa_nil)) (pa_cons pe_dnewK (pa_cons pe_int (pa_cons (pe_lst (pa_cons pe_str (pa_cons pe_str pa_nil))) (pa_cons (pe_tup (pa_cons pe_str pa_nil)) pa_nil)))))))))))))
          (pss_cons (ps_for PassesOwn.never rfl (pi_list (pv 5)) (pg_name (i := 9) sc_law.nd rfl (Or.inl rfl))
            (pss_cons (ps_set (i := 10) sc_law.nd rfl (Or.inl rfl) (pe_g T_law_due hG hr (by decide) (by rfl) (pa_cons (pv 9) pa_nil)))
            (pss_one (ps_if (pt_cmpR op_ne (pe_callB (call_repr hG hu64) (by rfl) B.repr (by decide +kernel) (pa_cons (pe_lst (pa_cons (pe_g T_is_shape hG hr (by decide) (by rfl) (pa_cons (pv 9) pa_nil)) (pa_cons (pe_gK0 T_K_is_shape hG hr (by decide) (by rfl) (pk_cons (pv 9) pk_nil)) pa_nil))) pa_nil)) (pe_callB (call_repr hG hu64) (by rfl) B.repr (by decide +kernel) (pa_cons (pe_lst (pa_cons (pv 10) (pa_cons (pv 10) pa_nil))) pa_nil)) (nomark _)) (pss_one (ps_ret pe_bl)) pss_nil))))
          (pss_cons (ps_set (i := 11) sc_law.nd rfl (Or.inl rfl) (pe_g T_law_numbered hG hr (by decide) (by rfl) (pa_cons (pv 2) (pa_cons (pe_g T_law_row hG hr (by decide) (by rfl) (pa_cons (pv 2) (pa_cons (pv 3) pa_nil))) pa_nil))))
          (pss_cons (ps_if (pt_not (pt_val (pe_g T_law_shape_of_right hG hr (by decide) (by rfl) (pa_cons (pv 11) (pa_cons (pv 3) pa_nil))))) (pss_one (ps_ret pe_bl)) pss_nil)
          (pss_cons (ps_expr (pe_bm0 PySem.F.plainAttrs_list PySem.F.slot_list_pop PySem.F.type_list_pop mt_pop (pv 11)))
          (pss_one (ps_if (pt_not (pt_val (pe_g T_law_shape_of_right hG hr (by decide) (by rfl) (pa_cons (pv 11) (pa_cons (pe_slice sl_str (pv 3) po_none (po_some (pe_un un_neg pe_int))) pa_nil))))) (pss_one (ps_ret pe_bl)) pss_nil)))))))))))))
        (pss_one (ps_ret pe_bl))), ?_⟩
    refine ⟨_, rfl, sc, _, rfl, .inl hS, _, _, rfl, _, _, rfl, ?_⟩
    generalize ec : (if (if (((ns.map V.int).length : Nat) : Int) < 6 then (((ns.map V.int).length : Nat) : Int) else (6 : Int)) > 1 then (if (((ns.map V.int).length : Nat) : Int) < 6 then (((ns.map V.int).length : Nat) : Int) else (6 : Int)) else 1) = c
    have c0 : 1 ≤ c ∧ c ≤ 6 := by
      rw [← ec]
      split <;> split <;> omega
    refine ⟨c, rfl, by omega, by omega, for_range (lo := 0) (n := c.toNat) (fun i σ H' => (∃ y1 y2 y3 y4 y5 y6 y7 y8 y9 ya yb, σ = [some (.ref sc), y1, y2, y3, y4, y5, y6, y7, y8, y9, ya, yb]) ∧ Same H H') ⟨⟨_, _, _, _, _, _, _, _, _, _, _, rfl⟩, Same.refl _⟩ (fun i σ H' hi h => ?_) (fun σ H' h => ?_)⟩
    · obtain ⟨⟨y1, y2, y3, y4, y5, y6, y7, y8, y9, ya, yb, rfl⟩, sm⟩ := h
      refine ⟨_, rfl, _, rfl, sc, ns, i, congrArg (fun z => [V.ref sc, V.int z]) (Int.zero_add _), sm.seq hS, by omega, fun H2 src s2 nsrc hs2 => ?_⟩
      refine ⟨_, rfl, _, rfl, src, sc, ns, 0, H', rfl, hs2, by decide, sm.seq hS, nsrc, .of s2, fun H3 bs ok u1 pos l200 b3 hs3 => ?_⟩
      have og := okN_sg l200
      have gl : (sgS bs).length ≤ 200 := og.1
      have gz : (sgS bs).length ≤ sizeLine := og.sz (by decide)
      have gne : (sgS bs).length ≠ 0 := by rw [sgS_len]; omega
      -- odd
      refine ⟨_, 100, rfl, rfl, by decide, by decide, by decide, by show 12 ≤ sizeLine; decide, fun od nod => ?_⟩
      have nods := hs3.ne nod
      -- some
      refine ⟨_, rfl, _, rfl, _, rfl, Nat.le_trans og.1 (by decide), _, 100, rfl, rfl, by decide, by decide, by decide, _, 100, rfl, rfl, by decide, by decide, by decide, _, _, rfl, rfl, (lit1.rep 100).sum (lit2.rep 100) (by decide), _, 101, rfl, rfl, by decide, by decide, by decide, _, 100, rfl, rfl, by decide, by decide, by decide, _, _, rfl, rfl, (lit7.rep 100).sum lit1 (by decide), _, rfl, _, 20, rfl, rfl, by decide, gne, by omega, by show 7 ≤ sizeLine; decide, fun so nso => ?_⟩
      have nsos := (hs3.new (o := .lst [V.str ("+" : Str), .str ("-" : Str), .str ("" : Str), .str (" " : Str), .str ("++" : Str), .str ("--" : Str), .str ("+-" : Str), .str ("0" : Str), .str ("\n" : Str), .str ("=" : Str), .str ⟨(List.replicate 100 ("+-" : Str).cps.toList).flatten.toArray⟩, .str ("x" : Str)]) nod).ne nso
      have hso0 : H2 so = none := free_of (b3.add (o := .lst [V.str ("+" : Str), .str ("-" : Str), .str ("" : Str), .str (" " : Str), .str ("++" : Str), .str ("--" : Str), .str ("+-" : Str), .str ("0" : Str), .str ("\n" : Str), .str ("=" : Str), .str ⟨(List.replicate 100 ("+-" : Str).cps.toList).flatten.toArray⟩, .str ("x" : Str)]) nod) nsos nso
      refine ⟨8, rfl, by decide, by decide, for_range (lo := 0) (n := 8) (fun j σ H' => ∃ (y6 y7 y8 : Option V) (so : Addr) (xs odd : List V), σ = [some (.ref sc), some (.int (0 + (i : Int))), some (.ref src), some (.str (sgS bs)), some (.ref od), some (.ref so), y6, y7, y8, y9, ya, yb] ∧
        H' so = some (.lst xs) ∧ SOk 4000 xs ∧ xs.length = 7 + 3 * j ∧ so ≠ src ∧ H2 so = none ∧ H' od = some (.lst odd) ∧ odd.length = 12 ∧ SOk 200 odd ∧ Src H' src (500 + 2 * j) ∧ Bt src H2 H') ⟨_, _, _, so, _, _, rfl, upd_same, ?_, rfl, nsos, hso0, same_new nso _ _ upd_same, rfl, ?_, ((hs3.new nod).new nso).mono (by omega), (b3.add nod).add nso⟩ (fun j σ H4 hj h => ?_) (fun σ H4 h => ?_)⟩
      · exact .cons og (by decide) (.cons og.rev (by decide) (.cons ((lit1.rep 100).cat (lit2.rep 100)) (by decide) (.cons (lit1.rep 101) (by decide) (.cons ((lit7.rep 100).cat lit1) (by decide) (.cons lit3 (by decide) (.cons (og.rep 20) (by decide) .nil))))))
      · exact .cons lit1 (by decide) (.cons lit2 (by decide) (.cons lit3 (by decide) (.cons lit4 (by decide) (.cons lit5 (by decide) (.cons lit6 (by decide) (.cons lit7 (by decide) (.cons lit8 (by decide) (.cons lit9 (by decide) (.cons lit10 (by decide) (.cons (lit7.rep 100) (by decide) (.cons lit11 (by decide) .nil)))))))))))
      · obtain ⟨y6, y7, y8, so, xs, odd, rfl, hso, sok, sl, nsos, hso0, hod, ol, oo, hs4, b4⟩ := h
        refine ⟨_, rfl, _, rfl, sgS bs, rfl, gz, _, _, rfl, rfl, src, _, 500 + 2 * j, rfl, hs4, by omega, by omega, by omega, fun at1 H5 a0 a1 hs5 b5 => ?_⟩
        refine ⟨_, rfl, _, rfl, src, 12, 500 + 2 * j + 1, rfl, hs5, by omega, by decide, by decide, fun r H6 r0 r1 hs6 b6 => ?_⟩
        obtain ⟨k, rfl⟩ := nat_of r0
        have hk : k < odd.length := by omega
        obtain ⟨z, ez, okz⟩ := oo _ (List.getElem_mem hk)
        have ek : odd[k]? = some (.str z) := by rw [List.getElem?_eq_getElem hk, ez]
        have hod6 := b6 _ _ nods (b5 _ _ nods hod)
        have hso6 := b6 _ _ nsos (b5 _ _ nsos hso)
        have b46 := (b4.trans b5).trans b6
        refine ⟨od, odd, (k : Int), .str z, rfl, rfl, .of hod6, atI_nat ek, _, _, rfl, ?_⟩
        have c1 : ∀ lo hi, OkN 200 (cutS (sgS bs) lo hi) := fun lo hi => og.cut lo hi
        refine ⟨_, rfl, _, rfl, _, rfl, _, rfl, sgS bs, rfl, gz, _, rfl, _, _, rfl, rfl, (c1 _ _).sum okz (by decide), _, rfl, _, rfl, _, rfl, sgS bs, rfl, gz, _, _, rfl, rfl, ((c1 _ _).cat okz).sum (c1 _ _) (by decide), ?_⟩
        refine ⟨_, rfl, _, rfl, _, rfl, sgS bs, rfl, gz, _, rfl, _, _, rfl, rfl, (c1 _ _).sum okz (by decide), _, rfl, _, rfl, _, _, rfl, rfl, _, rfl, sgS bs, rfl, gz, _, _, rfl, rfl, ((c1 _ _).cat okz).sum (c1 _ _) (by decide), by show 2 ≤ sizeLine; decide, fun L nL => ?_⟩
        have nLs := hs6.ne nL
        refine ⟨so, L, xs, _, rfl, rfl, same_new nL _ _ hso6, upd_same, ?_, fun s3 ns3 => ?_⟩
        · have e : ([V.str (cutS (sgS bs) none (some at1) ++ z ++ cutS (sgS bs) (some at1) none), V.str (cutS (sgS bs) none (some at1) ++ z ++ cutS (sgS bs) (some (at1 + 1)) none)] : List V).length = 2 := rfl
          exact Lp.zs (by simp only [List.length_cons, List.length_nil]; omega)
        have ns3s := (hs6.new (o := .lst [V.str (cutS (sgS bs) none (some at1) ++ z ++ cutS (sgS bs) (some at1) none), V.str (cutS (sgS bs) none (some at1) ++ z ++ cutS (sgS bs) (some (at1 + 1)) none)]) nL).ne ns3
        have ns30 : H2 s3 = none := free_of (b46.add nL) ns3s ns3
        refine ⟨_, rfl, .inl ⟨rfl, _, .of upd_same⟩, _, rfl, _, rfl, _, rfl, sgS bs, rfl, gz, _, rfl, _, rfl, _, _, rfl, rfl, _, rfl, sgS bs, rfl, gz, _, _, rfl, rfl, (c1 _ _).sum (c1 _ _) (by decide), s3, _, _, rfl, rfl, upd_same, ?_, _, _, _, s3, _, odd, rfl, upd_same, ?_, ?_, ns3s, ns30, ?_, ol, oo, ?_, ?_⟩
        · simp only [List.length_append, List.length_cons, List.length_nil]
          exact zl (by omega)
        · exact (sok.app (.cons (((c1 _ _).cat okz).cat (c1 _ _)) (by decide) (.cons (((c1 _ _).cat okz).cat (c1 _ _)) (by decide) .nil))).app (.cons ((c1 _ _).cat (c1 _ _)) (by decide) .nil)
        · simp only [List.length_append, List.length_cons, List.length_nil]
          omega
        · exact Lp.Same.mut ((same_new nL).trans (same_new ns3)) (o := .lst _) ((same_new nL).free ns3) _ _ hod6
        · exact (((hs6.new nL).new ns3).upd ns3s).mono (by omega)
        · exact ((b46.add nL).add ns3).mut ns30
      · obtain ⟨y6, y7, y8, so, xs, odd, rfl, hso, sok, sl, nsos, hso0, hod, ol, oo, hs4, b4⟩ := h
        refine ⟨_, rfl, Nat.zero_le _, fun e1 n1 => ⟨_, rfl, sgS bs, rfl, Nat.le_trans og.1 (by decide), fun e2 n2 => ⟨_, rfl, sgS bs, rfl, Nat.le_trans og.1 (by decide), fun e3 n3 e4 n4 => ⟨by show 2 ≤ sizeLine; decide, fun e5 n5 => ⟨by show 1 ≤ sizeLine; decide, fun e6 n6 => ⟨by show 10 ≤ sizeLine; decide, fun L nL => ?_⟩⟩⟩⟩⟩⟩
        have t1 := same_new (o := HO.lst []) n1
        have t2 := same_new (o := HO.lst (chL (sgS bs))) n2
        have t3 := same_new (o := HO.tup (chL (sgS bs))) n3
        have t4 := same_new (o := HO.dK []) n4
        have t5 := same_new (o := HO.lst [V.str ("+" : Str), .str ("-" : Str)]) n5
        have t6 := same_new (o := HO.tup [V.str ("+" : Str)]) n6
        have t7 := same_new (o := HO.lst [V.non, .int 0, .bl true, .ref e1, .ref e2, .ref e3, .ref e4, .int 43, .ref e5, .ref e6]) nL
        have hso7 := t7 _ _ (t6 _ _ (t5 _ _ (t4 _ _ (t3 _ _ (t2 _ _ (t1 _ _ hso))))))
        refine ⟨so, L, xs, [V.non, .int 0, .bl true, .ref e1, .ref e2, .ref e3, .ref e4, .int 43, .ref e5, .ref e6], rfl, rfl, hso7, upd_same, Lp.zs (by simp only [List.length_cons, List.length_nil]; omega), fun s3 ns3 => ?_⟩
        have t8 := same_new (o := HO.lst (xs ++ [V.non, .int 0, .bl true, .ref e1, .ref e2, .ref e3, .ref e4, .int 43, .ref e5, .ref e6])) ns3
        have r7 := t7.trans t8
        have r6 := t6.trans r7
        have r5 := t5.trans r6
        have r4 := t4.trans r5
        have r3 := t3.trans r4
        have r2 := t2.trans r3
        have r1 := t1.trans r2
        have f1 := r2 _ _ upd_same
        have f2 := r3 _ _ upd_same
        have f3 := r4 _ _ upd_same
        have f4 := r5 _ _ upd_same
        have f5 := r6 _ _ upd_same
        have f6 := r7 _ _ upd_same
        have hs3 := upd_same (H := upd (upd (upd (upd (upd (upd (upd H4 e1 (.lst [])) e2 (.lst (chL (sgS bs)))) e3 (.tup (chL (sgS bs)))) e4 (.dK [])) e5 (.lst [V.str ("+" : Str), .str ("-" : Str)])) e6 (.tup [V.str ("+" : Str)])) L (.lst [V.non, .int 0, .bl true, .ref e1, .ref e2, .ref e3, .ref e4, .int 43, .ref e5, .ref e6])) (a := s3) (o := .lst (xs ++ [V.non, .int 0, .bl true, .ref e1, .ref e2, .ref e3, .ref e4, .int 43, .ref e5, .ref e6]))
        generalize upd (upd (upd (upd (upd (upd (upd (upd H4 e1 (.lst [])) e2 (.lst (chL (sgS bs)))) e3 (.tup (chL (sgS bs)))) e4 (.dK [])) e5 (.lst [V.str ("+" : Str), .str ("-" : Str)])) e6 (.tup [V.str ("+" : Str)])) L (.lst [V.non, .int 0, .bl true, .ref e1, .ref e2, .ref e3, .ref e4, .int 43, .ref e5, .ref e6])) s3 (.lst (xs ++ [V.non, .int 0, .bl true, .ref e1, .ref e2, .ref e3, .ref e4, .int 43, .ref e5, .ref e6])) = Hf at r1 f1 f2 f3 f4 f5 f6 hs3 ⊢
        have all : ∀ x ∈ xs ++ [V.non, .int 0, .bl true, .ref e1, .ref e2, .ref e3, .ref e4, .int 43, .ref e5, .ref e6], OkT Hf x := by
          intro x hx
          rcases List.mem_append.mp hx with hx | hx
          · obtain ⟨z, e, k⟩ := sok x hx
            exact .inl ⟨z, e, k.ok (by decide)⟩
          · simp only [List.mem_cons, List.not_mem_nil, or_false] at hx
            rcases hx with rfl | rfl | rfl | rfl | rfl | rfl | rfl | rfl | rfl | rfl
            · exact .inr .non
            · exact .inr (.int 0)
            · exact .inr (.bl true)
            · exact .inr (.lst f1)
            · exact .inr (.lst f2)
            · exact .inr (.tup f3)
            · exact .inr (.dK f4)
            · exact .inr (.int 43)
            · exact .inr (.lst f5)
            · exact .inr (.tup f6)
        have hsf := hs4.same r1
        have bf : Bt src H2 Hf := b4.trans (.of r1)
        refine ⟨_, rfl, s3, rfl, ⟨_, .of hs3⟩, for_list (xs := xs ++ [V.non, .int 0, .bl true, .ref e1, .ref e2, .ref e3, .ref e4, .int 43, .ref e5, .ref e6]) (fun j σ H7 => (∃ y9 ya, σ = [some (.ref sc), some (.int (0 + (i : Int))), some (.ref src), some (.str (sgS bs)), some (.ref od), some (.ref s3), y6, y7, y8, y9, ya, yb]) ∧ Same Hf H7) ⟨⟨_, _, rfl⟩, Same.refl _⟩ (fun j σ H7 _ h => .of (h.2 _ _ hs3)) (fun j x σ H7 hx h => ?_) (fun σ H7 h => ?_)⟩
        · obtain ⟨⟨y9, ya, rfl⟩, s7⟩ := h
          have okx := (all x (mem_get hx)).same s7
          refine ⟨_, rfl, x, rfl, okx, fun H8 s8 => ?_⟩
          refine ⟨_, rfl, x, rfl, (okx.same s8).okV, _, rfl, rfl, rfl, x, rfl, (okx.same s8).okV, by show 2 ≤ sizeLine; decide, fun L2 nL2 => ?_⟩
          obtain ⟨w1, w2, w3, w4⟩ := show_b (shapeV x)
          refine ⟨L2, _, rfl, dpB2 upd_same, w1, w2, w3, w4, ?_⟩
          refine ⟨_, rfl, _, rfl, by show 2 ≤ sizeLine; decide, fun L3 nL3 => ?_⟩
          refine ⟨L3, _, rfl, dpB2 upd_same, w1, w2, w3, w4, ?_⟩
          exact ⟨rfl, false, nF rfl, ⟨_, _, rfl⟩, (s7.trans s8).trans ((same_new nL2).trans (same_new nL3))⟩
        · obtain ⟨⟨y9, ya, rfl⟩, s7⟩ := h
          have hs7 := hsf.same s7
          have b7 : Bt src H2 H7 := bf.trans (.of s7)
          refine ⟨_, rfl, _, rfl, _, rfl, src, bs, 600, rfl, hs7.mono (by omega), by decide, ok, u1, fun H8 p row hh pl b8 hs8 np hp => ?_⟩
          have nps := hs7.ne np
          refine ⟨src, p, row, 800, rfl, hs8.mono (by omega), by decide, hh, fun Hx bx => .of (bx _ _ nps hp), fun H9 p2 row2 hh2 pl2 b9 hs9 np2 hp2 => ?_⟩
          have ps : posL row2 = bs := pl2.trans pl
          have n2s := hs8.ne np2
          have p20 : H2 p2 = none := free_of (b7.trans b8) n2s np2
          have rl : row2.length = bs.length := by
            have := congrArg List.length ps
            unfold posL at this
            rwa [List.length_map] at this
          refine ⟨_, rfl, _, rfl, p2, row2, congrArg (fun z => [V.ref p2, V.str (sgS z)]) ps.symm, .of hp2, hh2, fun Ha sa => ⟨true, rfl, iteF ?_⟩⟩
          have hpa := sa _ _ hp2
          have hdl : (row2.map V.int).dropLast = (row2.take (row2.length - 1)).map V.int := by rw [List.dropLast_eq_take, List.length_map, List.map_take]
          have ecl : cutS (sgS bs) none (some (-1)) = sgS (posL (row2.take (row2.length - 1))) := by
            rw [cut_last bs pos, rl]
            congr 1
            unfold posL at ps ⊢
            rw [List.map_take, ps]
          refine ⟨_, rfl, .inl ⟨rfl, _, .of hpa⟩, p2, _, V.int (row2[row2.length - 1]'(by omega)), rfl, rfl, hpa, by rw [List.length_map]; exact get_at (by omega), ?_⟩
          rw [hdl]
          refine ⟨_, rfl, _, rfl, 1, rfl, _, rfl, _, rfl, gz, p2, row2.take (row2.length - 1), congrArg (fun z => [V.ref p2, V.str z]) ecl, .of upd_same, hist_take hh2 _, fun Hb sb => ⟨true, rfl, iteF ⟨⟨_, _, _, _, _, _, _, _, _, _, _, rfl⟩, ?_⟩⟩⟩
          have bt : Bt src H2 Hb := (((((b7.trans b8).trans b9).trans (.of sa)).mut p20).trans (.of sb))
          exact sm.trans fun b o e => bt b o (ne_of_none e nsrc) (s2 b o e)
    · exact q _
end
end L54
set_option Elab.async false
set_option linter.all false
set_option maxRecDepth 100000
namespace L54
open PySem PySem.Spec PyProof.Rows L2 Lp
theorem all_mk {l : PySem.W.OpenLaw} {w : World} {K : PySem.W.Frag} {h : Heap} {mg : Str → Option Value} {fa : Addr} (X : K.In h) (G : h.Ns mainGlobals mg) (hfa : mg "law" = some (.ref fa))
    {f0 : Addr} {oc0 kV0 dc0 pm0 cd0 ct0 : Value} {od0 an0 : Option Addr} {sl0 : Array (Option Value)}
    (a0 : PySem.W.nsIn K mainGlobals "is_integer" = some (some (.ref f0))) (l0 : K.lookup f0 = some ⟨oc0, od0, .func (PySem.W.fnOf "is_integer" "is_integer" (defArgs s_is_integer) (defBody s_is_integer) (defScope s_is_integer) .none kV0 dc0 pm0 an0 cd0 ct0), sl0⟩) (c0 : PySem.W.codeIn K cd0 "is_integer" = true) (k0 : PySem.W.keepIn K (.ref f0) = true)
    {f1 : Addr} {oc1 kV1 dc1 pm1 cd1 ct1 : Value} {od1 an1 : Option Addr} {sl1 : Array (Option Value)}
    (a1 : PySem.W.nsIn K mainGlobals "is_integer_within" = some (some (.ref f1))) (l1 : K.lookup f1 = some ⟨oc1, od1, .func (PySem.W.fnOf "is_integer_within" "is_integer_within" (defArgs s_is_integer_within) (defBody s_is_integer_within) (defScope s_is_integer_within) .none kV1 dc1 pm1 an1 cd1 ct1), sl1⟩) (c1 : PySem.W.codeIn K cd1 "is_integer_within" = true) (k1 : PySem.W.keepIn K (.ref f1) = true)
    {f2 : Addr} {oc2 kV2 dc2 pm2 cd2 ct2 : Value} {od2 an2 : Option Addr} {sl2 : Array (Option Value)}
    (a2 : PySem.W.nsIn K mainGlobals "are_integers" = some (some (.ref f2))) (l2 : K.lookup f2 = some ⟨oc2, od2, .func (PySem.W.fnOf "are_integers" "are_integers" (defArgs s_are_integers) (defBody s_are_integers) (defScope s_are_integers) .none kV2 dc2 pm2 an2 cd2 ct2), sl2⟩) (c2 : PySem.W.codeIn K cd2 "are_integers" = true) (k2 : PySem.W.keepIn K (.ref f2) = true)
    {f3 : Addr} {oc3 kV3 dc3 pm3 cd3 ct3 : Value} {od3 an3 : Option Addr} {sl3 : Array (Option Value)}
    (a3 : PySem.W.nsIn K mainGlobals "are_events" = some (some (.ref f3))) (l3 : K.lookup f3 = some ⟨oc3, od3, .func (PySem.W.fnOf "are_events" "are_events" (defArgs s_are_events) (defBody s_are_events) (defScope s_are_events) .none kV3 dc3 pm3 an3 cd3 ct3), sl3⟩) (c3 : PySem.W.codeIn K cd3 "are_events" = true) (k3 : PySem.W.keepIn K (.ref f3) = true)
    {f4 : Addr} {oc4 kV4 dc4 pm4 cd4 ct4 : Value} {od4 an4 : Option Addr} {sl4 : Array (Option Value)}
    (a4 : PySem.W.nsIn K mainGlobals "is_history" = some (some (.ref f4))) (l4 : K.lookup f4 = some ⟨oc4, od4, .func (PySem.W.fnOf "is_history" "is_history" (defArgs s_is_history) (defBody s_is_history) (defScope s_is_history) .none kV4 dc4 pm4 an4 cd4 ct4), sl4⟩) (c4 : PySem.W.codeIn K cd4 "is_history" = true) (k4 : PySem.W.keepIn K (.ref f4) = true)
    {f5 : Addr} {oc5 kV5 dc5 pm5 cd5 ct5 : Value} {od5 an5 : Option Addr} {sl5 : Array (Option Value)}
    (a5 : PySem.W.nsIn K mainGlobals "check_history" = some (some (.ref f5))) (l5 : K.lookup f5 = some ⟨oc5, od5, .func (PySem.W.fnOf "check_history" "check_history" (defArgs s_check_history) (defBody s_check_history) (defScope s_check_history) .none kV5 dc5 pm5 an5 cd5 ct5), sl5⟩) (c5 : PySem.W.codeIn K cd5 "check_history" = true) (k5 : PySem.W.keepIn K (.ref f5) = true)
    {f6 : Addr} {oc6 kV6 dc6 pm6 cd6 ct6 : Value} {od6 an6 : Option Addr} {sl6 : Array (Option Value)}
    (a6 : PySem.W.nsIn K mainGlobals "is_shape" = some (some (.ref f6))) (l6 : K.lookup f6 = some ⟨oc6, od6, .func (PySem.W.fnOf "is_shape" "is_shape" (defArgs s_is_shape) (defBody s_is_shape) (defScope s_is_shape) .none kV6 dc6 pm6 an6 cd6 ct6), sl6⟩) (c6 : PySem.W.codeIn K cd6 "is_shape" = true) (k6 : PySem.W.keepIn K (.ref f6) = true)
    {f7 : Addr} {oc7 kV7 dc7 pm7 cd7 ct7 : Value} {od7 an7 : Option Addr} {sl7 : Array (Option Value)}
    (a7 : PySem.W.nsIn K mainGlobals "shape_of" = some (some (.ref f7))) (l7 : K.lookup f7 = some ⟨oc7, od7, .func (PySem.W.fnOf "shape_of" "shape_of" (defArgs s_shape_of) (defBody s_shape_of) (defScope s_shape_of) .none kV7 dc7 pm7 an7 cd7 ct7), sl7⟩) (c7 : PySem.W.codeIn K cd7 "shape_of" = true) (k7 : PySem.W.keepIn K (.ref f7) = true)
    {f8 : Addr} {oc8 kV8 dc8 pm8 cd8 ct8 : Value} {od8 an8 : Option Addr} {sl8 : Array (Option Value)}
    (a8 : PySem.W.nsIn K mainGlobals "_law_pool" = some (some (.ref f8))) (l8 : K.lookup f8 = some ⟨oc8, od8, .func (PySem.W.fnOf "_law_pool" "_law_pool" (defArgs s_law_pool) (defBody s_law_pool) (defScope s_law_pool) .none kV8 dc8 pm8 an8 cd8 ct8), sl8⟩) (c8 : PySem.W.codeIn K cd8 "_law_pool" = true) (k8 : PySem.W.keepIn K (.ref f8) = true)
    {f9 : Addr} {oc9 kV9 dc9 pm9 cd9 ct9 : Value} {od9 an9 : Option Addr} {sl9 : Array (Option Value)}
    (a9 : PySem.W.nsIn K mainGlobals "_law_draw" = some (some (.ref f9))) (l9 : K.lookup f9 = some ⟨oc9, od9, .func (PySem.W.fnOf "_law_draw" "_law_draw" (defArgs s_law_draw) (defBody s_law_draw) (defScope s_law_draw) .none kV9 dc9 pm9 an9 cd9 ct9), sl9⟩) (c9 : PySem.W.codeIn K cd9 "_law_draw" = true) (k9 : PySem.W.keepIn K (.ref f9) = true)
    {f10 : Addr} {oc10 kV10 dc10 pm10 cd10 ct10 : Value} {od10 an10 : Option Addr} {sl10 : Array (Option Value)}
    (a10 : PySem.W.nsIn K mainGlobals "_law_signs" = some (some (.ref f10))) (l10 : K.lookup f10 = some ⟨oc10, od10, .func (PySem.W.fnOf "_law_signs" "_law_signs" (defArgs s_law_signs) (defBody s_law_signs) (defScope s_law_signs) .none kV10 dc10 pm10 an10 cd10 ct10), sl10⟩) (c10 : PySem.W.codeIn K cd10 "_law_signs" = true) (k10 : PySem.W.keepIn K (.ref f10) = true)
    {f11 : Addr} {oc11 kV11 dc11 pm11 cd11 ct11 : Value} {od11 an11 : Option Addr} {sl11 : Array (Option Value)}
    (a11 : PySem.W.nsIn K mainGlobals "_law_row" = some (some (.ref f11))) (l11 : K.lookup f11 = some ⟨oc11, od11, .func (PySem.W.fnOf "_law_row" "_law_row" (defArgs s_law_row) (defBody s_law_row) (defScope s_law_row) .none kV11 dc11 pm11 an11 cd11 ct11), sl11⟩) (c11 : PySem.W.codeIn K cd11 "_law_row" = true) (k11 : PySem.W.keepIn K (.ref f11) = true)
    {f12 : Addr} {oc12 kV12 dc12 pm12 cd12 ct12 : Value} {od12 an12 : Option Addr} {sl12 : Array (Option Value)}
    (a12 : PySem.W.nsIn K mainGlobals "_law_due" = some (some (.ref f12))) (l12 : K.lookup f12 = some ⟨oc12, od12, .func (PySem.W.fnOf "_law_due" "_law_due" (defArgs s_law_due) (defBody s_law_due) (defScope s_law_due) .none kV12 dc12 pm12 an12 cd12 ct12), sl12⟩) (c12 : PySem.W.codeIn K cd12 "_law_due" = true) (k12 : PySem.W.keepIn K (.ref f12) = true)
    {f13 : Addr} {oc13 kV13 dc13 pm13 cd13 ct13 : Value} {od13 an13 : Option Addr} {sl13 : Array (Option Value)}
    (a13 : PySem.W.nsIn K mainGlobals "_law_numbered" = some (some (.ref f13))) (l13 : K.lookup f13 = some ⟨oc13, od13, .func (PySem.W.fnOf "_law_numbered" "_law_numbered" (defArgs s_law_numbered) (defBody s_law_numbered) (defScope s_law_numbered) .none kV13 dc13 pm13 an13 cd13 ct13), sl13⟩) (c13 : PySem.W.codeIn K cd13 "_law_numbered" = true) (k13 : PySem.W.keepIn K (.ref f13) = true)
    {f14 : Addr} {oc14 kV14 dc14 pm14 cd14 ct14 : Value} {od14 an14 : Option Addr} {sl14 : Array (Option Value)}
    (a14 : PySem.W.nsIn K mainGlobals "_law_shape_of_right" = some (some (.ref f14))) (l14 : K.lookup f14 = some ⟨oc14, od14, .func (PySem.W.fnOf "_law_shape_of_right" "_law_shape_of_right" (defArgs s_law_shape_of_right) (defBody s_law_shape_of_right) (defScope s_law_shape_of_right) .none kV14 dc14 pm14 an14 cd14 ct14), sl14⟩) (c14 : PySem.W.codeIn K cd14 "_law_shape_of_right" = true) (k14 : PySem.W.keepIn K (.ref f14) = true)
    {f15 : Addr} {oc15 kV15 dc15 pm15 cd15 ct15 : Value} {od15 an15 : Option Addr} {sl15 : Array (Option Value)}
    (a15 : PySem.W.nsIn K mainGlobals "law" = some (some (.ref f15))) (l15 : K.lookup f15 = some ⟨oc15, od15, .func (PySem.W.fnOf "law" "law" (defArgs s_law) (defBody s_law) (defScope s_law) .none kV15 dc15 pm15 an15 cd15 ct15), sl15⟩) (c15 : PySem.W.codeIn K cd15 "law" = true) (k15 : PySem.W.keepIn K (.ref f15) = true)
    {t_LAST_PATCH : Tok} (g_LAST_PATCH : PySem.W.nsIn K mainGlobals "LAST_PATCH" = some (some (.int 100 t_LAST_PATCH)))
    {t_MOST_EVENTS : Tok} (g_MOST_EVENTS : PySem.W.nsIn K mainGlobals "MOST_EVENTS" = some (some (.int 200 t_MOST_EVENTS)))
    (z_len : PySem.W.nsIn K mainGlobals "len" = some none)
    (z_list : PySem.W.nsIn K mainGlobals "list" = some none)
    (z_int : PySem.W.nsIn K mainGlobals "int" = some none)
    (z_bool : PySem.W.nsIn K mainGlobals "bool" = some none)
    (z_str : PySem.W.nsIn K mainGlobals "str" = some none)
    (z_tuple : PySem.W.nsIn K mainGlobals "tuple" = some none)
    (z_max : PySem.W.nsIn K mainGlobals "max" = some none)
    (z_min : PySem.W.nsIn K mainGlobals "min" = some none)
    (z_range : PySem.W.nsIn K mainGlobals "range" = some none)
    (z_repr : PySem.W.nsIn K mainGlobals "repr" = some none)
    (z_isinstance : PySem.W.nsIn K mainGlobals "isinstance" = some none)
    (z_type : PySem.W.nsIn K mainGlobals "type" = some none)
    (z_all : PySem.W.nsIn K mainGlobals "all" = some none)
    (z_set : PySem.W.nsIn K mainGlobals "set" = some none)
    (z_zip : PySem.W.nsIn K mainGlobals "zip" = some none)
    (z_enumerate : PySem.W.nsIn K mainGlobals "enumerate" = some none)
    (z_sorted : PySem.W.nsIn K mainGlobals "sorted" = some none)
    (z_abs : PySem.W.nsIn K mainGlobals "abs" = some none) :
    ∃ fd : FuncData, (∀ (s : Shared) (v : Value), BindsTo s fd ⟨[v], []⟩ [("script", v)]) ∧ ∀ base : Heap, K.In base → base.Ns mainGlobals mg → FnG l.prog w K mg base CX0 9 fa fd ["script"] (spLaw K) := by
  have e := hfa.symm.trans (PySem.W.mg_of X G a15)
  cases e
  have B : NoB mg := ⟨PySem.W.mg_none_of X G z_len, PySem.W.mg_none_of X G z_list, PySem.W.mg_none_of X G z_int, PySem.W.mg_none_of X G z_bool, PySem.W.mg_none_of X G z_str, PySem.W.mg_none_of X G z_tuple, PySem.W.mg_none_of X G z_max, PySem.W.mg_none_of X G z_min, PySem.W.mg_none_of X G z_range, PySem.W.mg_none_of X G z_repr, PySem.W.mg_none_of X G z_isinstance, PySem.W.mg_none_of X G z_type, PySem.W.mg_none_of X G z_all, PySem.W.mg_none_of X G z_set, PySem.W.mg_none_of X G z_zip, PySem.W.mg_none_of X G z_enumerate, PySem.W.mg_none_of X G z_sorted, PySem.W.mg_none_of X G z_abs⟩
  have F0 := fun_mk (st := s_is_integer) l0 c0 k0
  have b0 := F0.binds (ps := ["value"]) fun _ _ _ _ _ _ us hl => match us, hl with | [_], _ => rfl
  have F1 := fun_mk (st := s_is_integer_within) l1 c1 k1
  have b1 := F1.binds (ps := ["value", "least", "greatest"]) fun _ _ _ _ _ _ us hl => match us, hl with | [_, _, _], _ => rfl
  have F2 := fun_mk (st := s_are_integers) l2 c2 k2
  have b2 := F2.binds (ps := ["value", "least", "greatest", "most"]) fun _ _ _ _ _ _ us hl => match us, hl with | [_, _, _, _], _ => rfl
  have F3 := fun_mk (st := s_are_events) l3 c3 k3
  have b3 := F3.binds (ps := ["value"]) fun _ _ _ _ _ _ us hl => match us, hl with | [_], _ => rfl
  have F4 := fun_mk (st := s_is_history) l4 c4 k4
  have b4 := F4.binds (ps := ["value"]) fun _ _ _ _ _ _ us hl => match us, hl with | [_], _ => rfl
  have F5 := fun_mk (st := s_check_history) l5 c5 k5
  have b5 := F5.binds (ps := ["history"]) fun _ _ _ _ _ _ us hl => match us, hl with | [_], _ => rfl
  have F6 := fun_mk (st := s_is_shape) l6 c6 k6
  have b6 := F6.binds (ps := ["value"]) fun _ _ _ _ _ _ us hl => match us, hl with | [_], _ => rfl
  have F7 := fun_mk (st := s_shape_of) l7 c7 k7
  have b7 := F7.binds (ps := ["history"]) fun _ _ _ _ _ _ us hl => match us, hl with | [_], _ => rfl
  have F8 := fun_mk (st := s_law_pool) l8 c8 k8
  have b8 := F8.binds (ps := ["script", "k"]) fun _ _ _ _ _ _ us hl => match us, hl with | [_, _], _ => rfl
  have F9 := fun_mk (st := s_law_draw) l9 c9 k9
  have b9 := F9.binds (ps := ["pool", "many"]) fun _ _ _ _ _ _ us hl => match us, hl with | [_, _], _ => rfl
  have F10 := fun_mk (st := s_law_signs) l10 c10 k10
  have b10 := F10.binds (ps := ["pool", "script"]) fun _ _ _ _ _ _ us hl => match us, hl with | [_, _], _ => rfl
  have F11 := fun_mk (st := s_law_row) l11 c11 k11
  have b11 := F11.binds (ps := ["pool", "signs"]) fun _ _ _ _ _ _ us hl => match us, hl with | [_, _], _ => rfl
  have F12 := fun_mk (st := s_law_due) l12 c12 k12
  have b12 := F12.binds (ps := ["thing"]) fun _ _ _ _ _ _ us hl => match us, hl with | [_], _ => rfl
  have F13 := fun_mk (st := s_law_numbered) l13 c13 k13
  have b13 := F13.binds (ps := ["pool", "row"]) fun _ _ _ _ _ _ us hl => match us, hl with | [_, _], _ => rfl
  have F14 := fun_mk (st := s_law_shape_of_right) l14 c14 k14
  have b14 := F14.binds (ps := ["row", "signs"]) fun _ _ _ _ _ _ us hl => match us, hl with | [_, _], _ => rfl
  have F15 := fun_mk (st := s_law) l15 c15 k15
  refine ⟨PySem.W.fnOf "law" "law" (defArgs s_law) (defBody s_law) (defScope s_law) .none kV15 dc15 pm15 an15 cd15 ct15, fun s v => .of_eq rfl, fun base _ _ => ?_⟩
  have T_is_integer : Gc l.prog w K mg base 1 "is_integer" _ := ⟨f0, _, ["value"], ok_is_integer F0 B, PySem.W.mg_of X G a0, F0.kp, b0⟩
  have T_is_integer_within : Gc l.prog w K mg base 2 "is_integer_within" _ := ⟨f1, _, ["value", "least", "greatest"], ok_is_integer_within F1 T_is_integer, PySem.W.mg_of X G a1, F1.kp, b1⟩
  have T_are_integers : Gc l.prog w K mg base 3 "are_integers" _ := ⟨f2, _, ["value", "least", "greatest", "most"], ok_are_integers F2 B T_is_integer_within, PySem.W.mg_of X G a2, F2.kp, b2⟩
  have T_are_events : Gc l.prog w K mg base 4 "are_events" _ := ⟨f3, _, ["value"], ok_are_events F3 B (PySem.W.mg_of X G g_LAST_PATCH) (PySem.W.mg_of X G g_MOST_EVENTS) T_are_integers, PySem.W.mg_of X G a3, F3.kp, b3⟩
  have T_is_history : Gc l.prog w K mg base 5 "is_history" _ := ⟨f4, _, ["value"], ok_is_history F4 B T_are_events, PySem.W.mg_of X G a4, F4.kp, b4⟩
  have T_check_history : Gc l.prog w K mg base 6 "check_history" _ := ⟨f5, _, ["history"], ok_check_history F5 T_is_history, PySem.W.mg_of X G a5, F5.kp, b5⟩
  have T_is_shape : Gc l.prog w K mg base 1 "is_shape" _ := ⟨f6, _, ["value"], ok_is_shape F6 B (PySem.W.mg_of X G g_LAST_PATCH), PySem.W.mg_of X G a6, F6.kp, b6⟩
  have T_K_is_shape : Gk l.prog w K mg base 1 "is_shape" 0 ["value"] gApp _ := ⟨f6, _, ["value"], _, ok_is_shape F6 B (PySem.W.mg_of X G g_LAST_PATCH), PySem.W.mg_of X G a6, F6.kp, kb_of F6 0 ["value"] gApp kb_gApp fun _ _ _ _ _ _ us ws l1 l2 => match us, ws, l1, l2 with | [], [_], _, _ => rfl⟩
  have T_shape_of : Gc l.prog w K mg base 7 "shape_of" _ := ⟨f7, _, ["history"], ok_shape_of F7 T_check_history, PySem.W.mg_of X G a7, F7.kp, b7⟩
  have T_K_shape_of : Gk l.prog w K mg base 7 "shape_of" 0 ["history"] gApp _ := ⟨f7, _, ["history"], _, ok_shape_of F7 T_check_history, PySem.W.mg_of X G a7, F7.kp, kb_of F7 0 ["history"] gApp kb_gApp fun _ _ _ _ _ _ us ws l1 l2 => match us, ws, l1, l2 with | [], [_], _, _ => rfl⟩
  have T_law_pool : Gc l.prog w K mg base 1 "_law_pool" _ := ⟨f8, _, ["script", "k"], ok_law_pool F8 B, PySem.W.mg_of X G a8, F8.kp, b8⟩
  have T_law_draw : Gc l.prog w K mg base 1 "_law_draw" _ := ⟨f9, _, ["pool", "many"], ok_law_draw F9, PySem.W.mg_of X G a9, F9.kp, b9⟩
  have T_law_signs : Gc l.prog w K mg base 2 "_law_signs" _ := ⟨f10, _, ["pool", "script"], ok_law_signs F10 B T_law_draw, PySem.W.mg_of X G a10, F10.kp, b10⟩
  have T_law_row : Gc l.prog w K mg base 2 "_law_row" _ := ⟨f11, _, ["pool", "signs"], ok_law_row F11 B T_law_draw, PySem.W.mg_of X G a11, F11.kp, b11⟩
  have T_law_due : Gc l.prog w K mg base 1 "_law_due" _ := ⟨f12, _, ["thing"], ok_law_due F12 B, PySem.W.mg_of X G a12, F12.kp, b12⟩
  have T_law_numbered : Gc l.prog w K mg base 2 "_law_numbered" _ := ⟨f13, _, ["pool", "row"], ok_law_numbered F13 B T_law_draw, PySem.W.mg_of X G a13, F13.kp, b13⟩
  have T_law_shape_of_right : Gc l.prog w K mg base 8 "_law_shape_of_right" _ := ⟨f14, _, ["row", "signs"], ok_law_shape_of_right F14 B T_shape_of T_K_shape_of, PySem.W.mg_of X G a14, F14.kp, b14⟩
  exact ok_law F15 B T_law_pool T_law_draw T_law_signs T_law_due T_is_shape T_K_is_shape T_law_row T_law_numbered T_law_shape_of_right
end L54
open PySem PySem.W PyProof.Rows
set_option maxHeartbeats 0 in
theorem PySem.Challenge.cw_latepatches_k54_shapes_judged_holds : PySem.Challenge.rw_latepatches_k54_shapes_judged.Holds := by
  w_on; o_law; k_head; (case hw => w_witness2)
  k_fill
  refine Lp.walk_ofG (l := PySem.Challenge.rw_latepatches_k54_shapes_judged) (n := 63) (k := 9) (x := "script") (CX := fun _ => L2.CX0) (sp := fun w => L54.spLaw _) rfl (by decide) rfl ⟨rfl, by decide, by decide⟩ (fun w h Y => PySem.W.kIn_of Y) ?F (fun _ _ a ns hl _ hS => ⟨a, ns, rfl, hS, hl, fun _ => rfl⟩) (fun _ _ _ _ _ h => h)
  case F =>
    intro w mg fa h KX G hmg
    refine' L54.all_mk KX G hmg ?a0 ?l0 ?c0 ?k0 ?a1 ?l1 ?c1 ?k1 ?a2 ?l2 ?c2 ?k2 ?a3 ?l3 ?c3 ?k3 ?a4 ?l4 ?c4 ?k4 ?a5 ?l5 ?c5 ?k5 ?a6 ?l6 ?c6 ?k6 ?a7 ?l7 ?c7 ?k7 ?a8 ?l8 ?c8 ?k8 ?a9 ?l9 ?c9 ?k9 ?a10 ?l10 ?c10 ?k10 ?a11 ?l11 ?c11 ?k11 ?a12 ?l12 ?c12 ?k12 ?a13 ?l13 ?c13 ?k13 ?a14 ?l14 ?c14 ?k14 ?a15 ?l15 ?c15 ?k15 ?g_LAST_PATCH ?g_MOST_EVENTS ?z_len ?z_list ?z_int ?z_bool ?z_str ?z_tuple ?z_max ?z_min ?z_range ?z_repr ?z_isinstance ?z_type ?z_all ?z_set ?z_zip ?z_enumerate ?z_sorted ?z_abs
    (case a0 => k_is); (case l0 => k_is); (case c0 => k_is); (case k0 => k_is); (case a1 => k_is); (case l1 => k_is); (case c1 => k_is); (case k1 => k_is); (case a2 => k_is); (case l2 => k_is); (case c2 => k_is); (case k2 => k_is); (case a3 => k_is); (case l3 => k_is); (case c3 => k_is); (case k3 => k_is); (case a4 => k_is); (case l4 => k_is); (case c4 => k_is); (case k4 => k_is); (case a5 => k_is); (case l5 => k_is); (case c5 => k_is); (case k5 => k_is); (case a6 => k_is); (case l6 => k_is); (case c6 => k_is); (case k6 => k_is); (case a7 => k_is); (case l7 => k_is); (case c7 => k_is); (case k7 => k_is); (case a8 => k_is); (case l8 => k_is); (case c8 => k_is); (case k8 => k_is); (case a9 => k_is); (case l9 => k_is); (case c9 => k_is); (case k9 => k_is); (case a10 => k_is); (case l10 => k_is); (case c10 => k_is); (case k10 => k_is); (case a11 => k_is); (case l11 => k_is); (case c11 => k_is); (case k11 => k_is); (case a12 => k_is); (case l12 => k_is); (case c12 => k_is); (case k12 => k_is); (case a13 => k_is); (case l13 => k_is); (case c13 => k_is); (case k13 => k_is); (case a14 => k_is); (case l14 => k_is); (case c14 => k_is); (case k14 => k_is); (case a15 => k_is); (case l15 => k_is); (case c15 => k_is); (case k15 => k_is); (case g_LAST_PATCH => k_is); (case g_MOST_EVENTS => k_is); (case z_len => k_is); (case z_list => k_is); (case z_int => k_is); (case z_bool => k_is); (case z_str => k_is); (case z_tuple => k_is); (case z_max => k_is); (case z_min => k_is); (case z_range => k_is); (case z_repr => k_is); (case z_isinstance => k_is); (case z_type => k_is); (case z_all => k_is); (case z_set => k_is); (case z_zip => k_is); (case z_enumerate => k_is); (case z_sorted => k_is); (case z_abs => k_is)
