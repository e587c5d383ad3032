import PyProof.Rows.All
import Wide.All
import OpenK.AllK
import Wide.FinOn
import HandS.ForMost
import HandS.IsInst
import HandS.More
import HandS.Strs
import HandS.Wide
import HandS.SortInts
import HandS.Style
import HandS.Conv
import PyProof.TypeEq
import PyProof.ReprRoads
import HandS.ForExc
import HandS.Evl
import HandS.Zip
import HandS.SetFor
import HandS.Walk
import PyProof.Rows.CountFlat
import HandS.DictComp
import PyProof.Rows.SeqMore
import HandS.Text
import HandS.WideBits
import HandS.Gcd
import HandS.Defaults
import PyProof.Rows.RegReprOcc
import PyProof.StrOps2
import HandS.NamedTupSort
import KE.LtSeq
import KE.KMathG
import PyProof.Walk
import PyProof.WalkLemmas
import PyProof.Pure
import PyProof.TableTree
import PyProof.FactsTree
import PySem.Challenge.RW_latepatches_k63_originals_counted
set_option Elab.async false
set_option linter.all false
set_option maxRecDepth 100000
namespace Lp
open PySem PySem.Spec PyProof.Rows L2

/-! ### operators that the layer lacks -/
def CPowW (i j : Int) : Prop := 0 ≤ j ∧ (Builtin.Int.intBits i : Int) * j ≤ 2 ^ 27
section
variable {X : Cx}
theorem op_powW : OpR X (binaryOp .Pow) (rI CPowW fun i j => .int (i ^ j.toNat)) := opI fun _ _ _ _ _ _ _ hc q => pow_int hc.1 hc.2 q
end
theorem powW_ok {i : Int} {n : Nat} {j : Int} (h : i.natAbs < 2 ^ n) (hj : 0 ≤ j) (hn : (n : Int) * j ≤ 100000000) : CPowW i j := by
  refine ⟨hj, ?_⟩
  have b := PyProof.Rows.intBits_le h
  have e : (2 : Int) ^ 27 = 134217728 := by decide
  rw [e]
  have h1 : (Builtin.Int.intBits i : Int) ≤ (n : Int) := by omega
  have h2 := Int.mul_le_mul_of_nonneg_right h1 hj
  omega

/-! ### repr -/
def rRepr (K : PySem.W.Frag) : List V → Hp → VK → Prop := fun xs H Q => ∃ (a : Addr) (d : PyData), xs = [.ref a] ∧ Dp K H (.ref a) d ∧ d.showable = true ∧ d.hasDict = false ∧ d.depth ≤ 60 ∧ d.shown.length ≤ sizeLine ∧ Q (.str d.shown) H
theorem call_repr {X : Cx} (hg : X.A.guards = some []) (hu : X.A.units + 64 < cLine) : CallR X (.builtin "repr") (rRepr X.K) := by
  intro pins s σ H xs us Q I r h
  obtain ⟨a, d, rfl, hd, h1, h2, h3, h4, q⟩ := h
  obtain ⟨u, rfl, rx⟩ := vals1 r
  obtain ⟨as, hr⟩ := Dp.reads I d _ u hd rx
  cases (show u = Value.ref a from rx)
  exact PySem.repr_of_reads' hr h1 (PyData.noDict_hsm h2) hg (by omega) (fun _ _ e => e) (fun h' t tk hk => ⟨.str d.shown, H, I.kept hk, ⟨t, rfl⟩, q⟩) h4
end Lp
set_option Elab.async false
set_option linter.all false
set_option maxRecDepth 100000
namespace Lp
open PySem PySem.Spec PyProof.Rows L2

/-! ### defs that are called where no repr is under way (guards = some []) -/
structure FnG (P : Program) (w : World) (K : PySem.W.Frag) (mg : Str → Option Value) (base : Heap) (CX : CXT) (k : Nat) (f : Addr) (fd : FuncData) (ps : List Str) (sp : Sp) : Prop where
  len : ∀ vs H Q E, sp vs H Q E → vs.length = ps.length
  runG : ∀ (A : Around) (out : List Env) (s : Shared) (H : Hp) (ar : Args) (us : List Value) (vs : List V) (Q : VK) (E : XK), A.guards = some [] → Room k A → Env0 P w K mg base A out s H →
    BindsTo s fd ar (ps.zip us) → Vals vs us → sp vs H Q E → codeAny (model P w) A (.call (.ref f) ar) (CR CX out P w H s Q E) s
section
variable {P : Program} {w : World} {K : PySem.W.Frag} {mg : Str → Option Value} {base : Heap}
theorem FnG.of {CX : CXT} {k : Nat} {f : Addr} {fd : FuncData} {ps : List Str} {sp : Sp} (F : FnOk P w K mg base CX k f fd ps sp) : FnG P w K mg base CX k f fd ps sp :=
  ⟨F.len, fun A out s H ar us vs Q E _ hr => F.run A out s H ar us vs Q E hr⟩
theorem fnG_of {CX : CXT} {k : Nat} {f : Addr} {name qual : Str} {params : Arguments} {body : List Stmt} {scope : Scope} {dV kV doc pm cdv ct oc : Value} {an od : Option Addr}
    {osl : Array (Option Value)} {N ps : List Str} {sp : Sp} (lk : K.lookup f = some ⟨oc, od, .func (PySem.W.fnOf name qual params body scope dV kV doc pm an cdv ct), osl⟩) (hcd : PySem.W.codeIn K cdv qual = true) (S : FnScope N ps scope)
    (ln : ∀ vs H Q E, sp vs H Q E → vs.length = ps.length)
    (hb : ∀ (A : Around) (out : List Env) (s : Shared) (H : Hp) (vs : List V) (Q : VK) (E : XK), A.guards = some [] → Room k (A.deeper (envOfC qual scope s.heap.objs.size f cdv)) → sp vs H Q E →
      ∃ t, PSs (cxOf CX P w K mg base N qual scope f cdv A out s H E) body t ∧ t { nx := fun _ H' => Q .non H', rt := Q } (start N vs) H) :
    FnG P w K mg base CX (k + 1) f (PySem.W.fnOf name qual params body scope dV kV doc pm an cdv ct) ps sp := by
  refine ⟨ln, fun A out s H ar us vs Q E hG room en bd rv hs => ?_⟩
  have KX : K.In s.heap := en.mod.kin.keeps fun b o e => (en.bs b o e).1
  have nl : s.heap.NoLimit := en.mod.nolimit.keeps fun b o e => (en.bs b o e).1
  have kd : ∀ y ∈ ps.zip us, scope.names.lookup y.1 = some .local ∨ (scope.names.lookup y.1 = some .cell ∧ ((cellsFrom (s.heap.objs.size + 1) scope.names []).lookup y.1).isSome = true) := by
    rintro ⟨n, v⟩ hy
    have hm := (List.of_mem_zip hy).1
    exact (S.par n hm).elim (fun q => .inl q) fun q => .inr ⟨q, PySem.W.cellsFrom_some _ _ _ (.inl q)⟩
  refine codeAny_call_function room.depth (KX _ _ lk) rfl S.co S.gen rfl (PySem.W.codeRec_of KX hcd) (bd _ _ _ _ ?_)
  refine wpAny_newFunctionEnv_cells S.kind kd fun e1 he s1 x => ?_
  subst he
  refine ⟨nl.keeps x.toInCall.keep, codeAny_func ?_⟩
  obtain ⟨t, ht, hq⟩ := hb A out s H vs Q E hG (room.deeper _) hs
  have J0 : Inv (cxOf CX P w K mg base N qual scope f cdv A out s H E) [] (start N vs) H s1 := inv_start S room.hd en (ln _ _ _ _ hs) rv x
  refine wpAny_mono (ht.run [] s1 (start N vs) H _ J0 hq) (fun fl s' h3 => ?_) fun _ _ h3 => h3
  cases fl with
  | ret u => exact let ⟨v, _, H', J, r2, q⟩ := h3; ⟨v, H', J.os, J.bare, J.base, J.hok, r2, q⟩
  | next => exact let ⟨_, H', J, q⟩ := h3; ⟨.non, H', J.os, J.bare, J.base, J.hok, rfl, q⟩
  | brk => exact (let ⟨_, _, _, q⟩ := h3; q : False).elim
  | cont => exact (let ⟨_, _, _, q⟩ := h3; q : False).elim
theorem okG {x qual : Str} {st : Stmt} {f : Addr} {fd : FuncData} {N ps : List Str} {k : Nat} {sp : Sp} (F : Fun K x qual st f fd) (S : FnScope N ps (defScope st)) (ln : ∀ vs H Q E, sp vs H Q E → vs.length = ps.length)
    (hb : ∀ (cdv : Value) (A : Around) (out : List Env) (s : Shared) (H : Hp) (vs : List V) (Q : VK) (E : XK), A.guards = some [] → Room k (A.deeper (envOfC qual (defScope st) s.heap.objs.size f cdv)) → sp vs H Q E →
      ∃ t, PSs (cxOf CX0 P w K mg base N qual (defScope st) f cdv A out s H E).nox (defBody st) t ∧ t { nx := fun _ H' => Q .non H', rt := Q } (start N vs) H) : FnG P w K mg base CX0 (k + 1) f fd ps sp := by
  obtain ⟨oc, od, kV, doc, pm, an, cdv, ct, osl, rfl, lk, hcd⟩ := F.ex
  refine fnG_of lk hcd S ln fun A out s H vs Q E hG room h => ?_
  obtain ⟨t, ht, q⟩ := hb cdv A out s H vs Q E hG room h
  exact ⟨t, ht.nox, q⟩
end
section
variable {X : Cx} {CX : CXT} {k : Nat} {f : Addr} {fd : FuncData} {ps : List Str} {sp : Sp} {dvs : List V} {ds : List Value} {E : XK} {x : Str} {p pos : Pos} {e : Expr} {es : List Expr} {t : TA}
theorem pe_callG (F : FnG X.prog X.w X.K X.mg X.base CX k f fd ps sp) (hG : X.A.guards = some []) (hr : Room k X.A) (hg : Gl X x) (hm : X.mg x = some (.ref f)) (hk : PySem.W.keepIn X.K (.ref f) = true) (hb : Binds X.K fd ps ds) (hd : Vals dvs ds) (hx : Passes CX X E)
    (ha : PA X (e :: es) t) (hdb : (x == ("__debug__" : Str)) = false := by decide) (he : starEach (e :: es) X.env = (false, eval e X.env) :: starEach es X.env := by rfl) (hpl : (backTo pos (starEach es X.env)).any (·.1) = false := by rfl) :
    PE X (.Call (.Name x p) (e :: es) [] pos) (tCall sp dvs E t) := by
  refine ⟨fun pins s σ H Q I h => wpAny_Call_Name_kw (ld_glob I hg hm ?_ hdb)⟩
  refine PySem.W.callWith_K (h₀ := X.base) I.ok.mod.kin hk (thn (ha.run pos pins s σ H _ I h) fun us s1 ⟨vs, H1, I1, r, q⟩ => ⟨I1.kIn, ?_⟩) he hpl
  have rr : Vals (vs ++ dvs) (us ++ ds) := r.append hd
  have hl : (us ++ ds).length = ps.length := rr.length.symm.trans (F.len _ _ _ _ q)
  refine wpAny_call (codeAny_mono (F.runG X.A X.stack s1 H1 ⟨us, []⟩ (us ++ ds) (vs ++ dvs) Q E hG hr I1.env0 (hb s1 us I1.kIn hl) rr q) fun r s' hq => ?_)
  cases r with
  | error e => exact hx pins σ H1 s1 e s' I1 hq
  | ok fl =>
    cases fl with
    | ret u => exact I1.after hq
    | next => exact False.elim hq
    | brk => exact False.elim hq
    | cont => exact False.elim hq
end

/-! ### the end of a law's row, for such a law -/
theorem law_callG {P : Program} {w : World} {K : PySem.W.Frag} {mg mb : Str → Option Value} {CX : CXT} {k : Nat} {fa a : Addr} {fd : FuncData} {x : Str} {sp : Sp} {s₁ : Shared} {vs : List Value} {ns : List Int}
    (KX : K.In s₁.heap) (hns : s₁.heap.Ns mainGlobals mg) (hb : s₁.heap.Ns builtinsNs mb) (hbb : ∀ x : Str, x ≠ "__name__" → mb x = bootBuiltins x) (hlim : s₁.heap.NoLimit) (hg : s₁.gens = #[])
    (ha : s₁.heap.get? a = some { cls := .type "list", data := .seq vs.toArray }) (hi : IntsAre vs ns) (hl : ns.length ≤ sizeLine) (hr : Room k callerA)
    (F : ∀ base : Heap, K.In base → base.Ns mainGlobals mg → FnG P w K mg base CX k fa fd [x] sp) (hbind : ∀ (s : Shared) (u : Value), BindsTo s fd ⟨[u], []⟩ [(x, u)])
    (hsp : ∀ H : Hp, Only H → SqL K H a (ns.map V.int) → sp [.ref a] H (fun v _ => v = .bl true) fun _ _ _ => False)
    (hCX : ∀ H e s', CX [] H s₁ (fun _ _ _ => False) e s' → False) :
    codeAny (model P w) callerA (.call (.ref fa) ⟨[.ref a], []⟩) (fun r s' => r = .ok (.ret (.bool true)) ∧ OldK s₁.heap s'.heap ∧ s'.os = s₁.os ∧ AllBare s'.gens) s₁ := by
  have rv := vals_ints hi
  have szV := hi.length
  have main : ∀ H : Hp, Only H → SqL K H a (ns.map V.int) → HOk P w H s₁.heap → (∀ b, H b ≠ none → b = a) → (H a ≠ none → K.lookup a = none) →
      codeAny (model P w) callerA (.call (.ref fa) ⟨[.ref a], []⟩) (fun r s' => r = .ok (.ret (.bool true)) ∧ OldK s₁.heap s'.heap ∧ s'.os = s₁.os ∧ AllBare s'.gens) s₁ := by
    intro H hO hS ok hA hK
    have free : ∀ {b : Addr}, b ≠ a → H b = none := fun {b} hb => by
      cases q : H b with
      | none => rfl
      | some u => exact absurd (hA b (by rw [q]; simp)) hb
    have nsK : ∀ {b : Addr} {m : Str → Option Value}, s₁.heap.Ns b m → (hidT s₁.heap H).Ns b m := by
      rintro b m ⟨o, es, ep, e, d, r⟩
      refine ⟨o, es, ep, hidT_get e (free fun z => ?_), d, r⟩
      subst z
      rw [ha] at e
      cases e
      exact nomatch (show Data.seq vs.toArray _ = Data.dict es ep from d)
    have hKb : K.In (hidT s₁.heap H) := by
      intro b o e
      refine hidT_get (KX b o e) ?_
      cases q : H b with
      | none => rfl
      | some u =>
        have z := hA b (by rw [q]; simp)
        subst z
        rw [hK (by rw [q]; simp)] at e
        cases e
    have hM : Mod K mg (hidT s₁.heap H) := ⟨hKb, nsK hns, ⟨mb, nsK hb, hbb⟩, let ⟨mc, h1, h2⟩ := hlim; ⟨mc, nsK h1, h2⟩⟩
    have e0 : Env0 P w K mg (hidT s₁.heap H) callerA [] s₁ H := ⟨rfl, hM, fun b o e => of_hidT e, Nat.le_of_eq (hidT_size _ _), trivial, fun b hb => absurd (show b ∈ ([] : List Addr) from hb) (by simp), ok, .of_eq hg⟩
    refine codeAny_mono ((F _ hKb (nsK hns)).runG callerA [] s₁ H ⟨[.ref a], []⟩ [.ref a] [.ref a] _ _ rfl hr e0 (hbind s₁ (.ref a)) (.cons rfl .nil) (hsp H hO hS)) fun r s' h => ?_
    cases r with
    | error e => exact (hCX H e s' h).elim
    | ok fl =>
      cases fl with
      | next => exact False.elim h
      | brk => exact False.elim h
      | cont => exact False.elim h
      | ret u =>
        obtain ⟨v, H', os, bare, un, hok', r', q⟩ := h
        cases (show v = .bl true from q)
        cases (show u = Value.bool true from r')
        refine ⟨rfl, OldK.of_keep fun b o e => ?_, os, bare⟩
        rcases hO b with z | ⟨ob, xs, z⟩
        · exact un.keep b o e z (fun z => absurd (show b ∈ ([] : List Addr) from z) (by simp)) (by simp)
        · obtain ⟨e1, _⟩ := ok b _ z
          obtain ⟨e2, _⟩ := hok' b _ (un.frzs b ob _ z)
          rw [e] at e1; cases e1
          exact e2
  cases hk : K.lookup a with
  | some o =>
    have e := KX a o hk
    rw [ha] at e
    cases e
    exact main (fun _ => none) (fun _ => .inl rfl) (.inr ⟨_, vs.toArray, _, hk, rfl, rfl, rfl, by rw [List.size_toArray, szV]; exact hl, by simpa using rv⟩) (fun b u z => nomatch z) (fun b z => absurd rfl z) fun z => absurd rfl z
  | none =>
    refine main (fun b => if b = a then some (.frz { cls := .type "list", data := .seq vs.toArray } (.lst (ns.map V.int))) else none) (fun b => ?_) (.inl (.inr ⟨{ cls := .type "list", data := .seq vs.toArray }, if_pos rfl⟩)) (fun b u z => ?_) (fun b z => ?_) fun _ => hk
    · by_cases h : b = a
      · exact .inr ⟨_, _, if_pos h⟩
      · exact .inl (if_neg h)
    · by_cases h : b = a
      · cases (if_pos h).symm.trans z
        subst h
        exact ⟨ha, by rw [List.length_map]; exact hl, vs, _, rv, ha⟩
      · cases (if_neg h).symm.trans z
    · by_cases h : b = a
      · exact h
      · exact absurd (if_neg h) z
theorem walk_ofG {l : PySem.W.OpenLaw} {n k : Nat} {q : Program} {loose : List Str} {XP : (Str → Option Value) → Heap → Prop} {YP : World → Heap → Prop} {d : DefRec} {K : Params → PySem.W.Frag} {CX : World → CXT} {sp : World → Sp} {x : Str}
    (hn : l.most = some n) (hn2 : n ≤ sizeLine) (hdf : d.params.defaults = []) (hr : Room k callerA)
    (hY : ∀ (w : World) (h : Heap), YP w h → (K w.params).In h)
    (F : ∀ (w : World) (mg : Str → Option Value) (fa : Addr) (h : Heap), (K w.params).In h → h.Ns mainGlobals mg → mg d.name = some (.ref fa) →
      ∃ fd : FuncData, (∀ (s : Shared) (u : Value), BindsTo s fd ⟨[u], []⟩ [(x, u)]) ∧
        ∀ base : Heap, (K w.params).In base → base.Ns mainGlobals mg → FnG l.prog w (K w.params) mg base (CX w) k fa fd [x] (sp w))
    (hsp : ∀ (w : World) (H : Hp) (a : Addr) (ns : List Int), ns.length ≤ n → Only H → SqL (K w.params) H a (ns.map V.int) → sp w [.ref a] H (fun v _ => v = .bl true) fun _ _ _ => False)
    (hCX : ∀ (w : World) (H : Hp) (s : Shared) (e : Value) (s' : Shared), CX w [] H s (fun _ _ _ => False) e s' → False) :
    PySem.W.WalkO q loose XP YP l.row.toRowW d [] (fun f vs => PySem.call f vs) := by
  refine Att.attach_call hn hdf fun w _ s₁ mg _ fa _ _ _ _ a vs ns G Y _ _ _ hmg hobj hints hlen hg => ?_
  obtain ⟨fd, hb, hF⟩ := F w mg fa _ (hY w _ Y) G.T.g hmg
  exact law_callG (hY w _ Y) G.T.g G.T.b G.T.builtins G.T.nolimit hg hobj hints (Nat.le_trans hlen hn2) hr hF hb (fun H hO hS => hsp w H a ns hlen hO hS) fun H e s' => hCX w H s₁ e s'
end Lp
set_option Elab.async false
set_option linter.all false
set_option maxRecDepth 100000
namespace Lp
open PySem PySem.Spec PyProof.Rows L2

/-- the names of the built-ins that the text leaves alone -/
structure NoB (mg : Str → Option Value) : Prop where
  len : mg "len" = none
  list : mg "list" = none
  int : mg "int" = none
  bool : mg "bool" = none
  str : mg "str" = none
  tuple : mg "tuple" = none
  max : mg "max" = none
  min : mg "min" = none
  range : mg "range" = none
  repr : mg "repr" = none
  isinstance : mg "isinstance" = none
  type : mg "type" = none
  all : mg "all" = none
  set : mg "set" = none
  zip : mg "zip" = none
  enumerate : mg "enumerate" = none
  sorted : mg "sorted" = none
  abs : mg "abs" = none

/-- a def that may be called by its name -/
structure Gc (P : Program) (w : World) (K : PySem.W.Frag) (mg : Str → Option Value) (base : Heap) (k : Nat) (x : Str) (sp : Sp) : Prop where
  ex : ∃ (f : Addr) (fd : FuncData) (ps : List Str), FnG P w K mg base CX0 k f fd ps sp ∧ mg x = some (.ref f) ∧ PySem.W.keepIn K (.ref f) = true ∧ Binds K fd ps []
theorem FnG.mono {P : Program} {w : World} {K : PySem.W.Frag} {mg : Str → Option Value} {base : Heap} {CX : CXT} {j k : Nat} {f : Addr} {fd : FuncData} {ps : List Str} {sp : Sp} (F : FnG P w K mg base CX j f fd ps sp) (h : j ≤ k) : FnG P w K mg base CX k f fd ps sp :=
  ⟨F.len, fun A out s H ar us vs Q E hG hr => F.runG A out s H ar us vs Q E hG (hr.mono h)⟩
section
variable {X : Cx} {k j : Nat} {x : Str} {sp : Sp} {p pos : Pos} {e : Expr} {es : List Expr} {t : TA}
theorem pe_g (c : Gc X.prog X.w X.K X.mg X.base k x sp) (hG : X.A.guards = some []) (hr : Room j X.A) (hk : k ≤ j) (hg : Gl X x) (ha : PA X (e :: es) t)
    (hdb : (x == ("__debug__" : Str)) = false := by decide) (he : starEach (e :: es) X.env = (false, eval e X.env) :: starEach es X.env := by rfl) (hpl : (backTo pos (starEach es X.env)).any (·.1) = false := by rfl) :
    PE X (.Call (.Name x p) (e :: es) [] pos) (tCall sp [] E0 t) := by
  obtain ⟨f, fd, ps, F, hm, kp, b⟩ := c.ex
  exact pe_callG F hG (hr.mono hk) hg hm kp b .nil pass0 ha hdb he hpl
end

/-! ### == and != of types -/
def rEqTy : R2 := fun x y H Q => ∃ a b, x = .ty a ∧ y = .ty b ∧ (∀ s' : Shared, s'.TypeIs (.type a) "type") ∧ (∀ s' : Shared, s'.TypeIs (.type b) "type") ∧ Q (.bl (decide (a = b))) H
def rNeTy : R2 := fun x y H Q => ∃ a b, x = .ty a ∧ y = .ty b ∧ (∀ s' : Shared, s'.TypeIs (.type a) "type") ∧ (∀ s' : Shared, s'.TypeIs (.type b) "type") ∧ Q (.bl (!decide (a = b))) H
section
variable {X : Cx}
theorem op_eqTy : OpR X (compareOp .Eq) rEqTy := by
  intro pins s σ H x y v u Q I rx ry h
  obtain ⟨a, b, rfl, rfl, ha, hb, q⟩ := h
  cases (show v = Value.type a from rx)
  cases (show u = Value.type b from ry)
  by_cases e : a = b
  · subst e
    exact PySem.TypeEq.eq_type_same ha ⟨.bl true, H, I, rfl, by simpa using q⟩
  · exact PySem.TypeEq.eq_type_other ha hb (by rw [ty_beq]; exact decide_eq_false e) ⟨.bl false, H, I, rfl, by simpa [e] using q⟩
end

open PySem.TypeEq
theorem slot_type_ne : Slot "type" (cmpInfo .NotEq).2.1 "object.__ne__" :=
  .of (owner := "object") (n := "__ne__") (by rw [typeLookup_type, builtinLookup_eq_fast]; kernel_rfl) (by decide +kernel) (by decide +kernel) (by decide +kernel)
    (by first | exact .inl (by decide +kernel) | exact .inr (by decide +kernel)) (by rw [isSubtype_type]; kernel_rfl)
section
variable {prog : Program} {w : World} {A : Around} {E : Value → Shared → Prop} {s : Shared} {Q : Value → Shared → Prop}
theorem ne_type_same {X : String} (hX : ∀ s' : Shared, s'.TypeIs (.type X) "type") (h : Q (.bool false) s) : wpAny (model prog w) A (compareOp .NotEq (.type X) (.type X)) Q E s := by
  show wpAny _ A (richCompare .NotEq _ _) Q E s
  refine PySem.wpAny_richCompare_same (T := "type") (hX s) (hX s) slot_type_ne (wpAny_call_entry slot_type_ne (hX s) F.entry_object_ne ?_ (F.args_object_ne_2 _ _))
  unfold Builtin.«object.__ne__»
  refine wpAny_bind (m := slotArgs "__ne__" 1 _) (wpAny_of_eq (a := ((Value.type X : Value), [Value.type X])) (by first | rfl | (simp only [slotArgs]; rfl)) ?_)
  refine wpAny_bind (wpAny_cRoomFor_or (.inl rfl) ?_)
  refine wpAny_bind (m := callSpecialIfBound? (.type X) (Str.ofString "__eq__") [.type X]) (wpAny_callSpecialIfBound?_slot (hX s) slot_type_eq
    (call_gives slot_type_eq (hX s) F.entry_object_eq (F.args_object_eq_2 _ _) (object_eq_same rfl (by simp)) ?_))
  show wpAny (model prog w) A.in1 (truthy (.bool true) >>= fun b => ret (Value.bool !b)) _ E s
  exact wpAny_bind (wpAny_of_eq (a := true) (by first | rfl | simp [truthy]) (wpAny_pure ⟨_, rfl, (by intro e; cases e), h⟩))
end

/-- a != b of the same built-in type -/
def rNeTyS : R2 := fun x y H Q => ∃ a, x = .ty a ∧ y = .ty a ∧ (∀ s' : Shared, s'.TypeIs (.type a) "type") ∧ Q (.bl false) H
theorem op_neTy {X : Cx} : OpR X (compareOp .NotEq) rNeTyS := by
  intro pins s σ H x y v u Q I rx ry h
  obtain ⟨a, rfl, rfl, ha, q⟩ := h
  cases (show v = Value.type a from rx)
  cases (show u = Value.type a from ry)
  exact ne_type_same ha ⟨.bl false, H, I, rfl, q⟩
/-! ### heaps -/
theorem same_new {H : Hp} {p : Addr} {o : HO} (h : H p = none) : Same H (upd H p o) := fun b x e => by
  rw [upd_ne (ne_of_none e h)]
  exact e
/-- all but what stands at a is as it was -/
def But (a : Addr) (H H' : Hp) : Prop := ∀ b, b ≠ a → ∀ o, H b = some o → H' b = some o
end Lp
set_option Elab.async false
set_option linter.all false
set_option maxRecDepth 100000
namespace Lp
open PySem PySem.Spec PyProof.Rows L2

/-! ### comprehensions that only add -/
def LcP (H1 : Hp) (D : Addr) (acc : Nat → List V) (i : Nat) (H : Hp) : Prop := H1 D = none ∧ Same H1 H ∧ H D = some (.lst (acc i))
section
variable {H1 H H4 : Hp} {D : Addr} {acc : Nat → List V} {i : Nat} {y : V}
theorem LcP.init (h : H1 D = none) (e : acc 0 = []) : LcP H1 D acc 0 (upd H1 D (.lst [])) := ⟨h, same_new h, by rw [upd_same, e]⟩
theorem LcP.put (p : LcP H1 D acc i H) (s : Same H H4) (e : acc (i + 1) = acc i ++ [y]) (hz : (acc i).length < 100000) :
    ∃ l, H4 D = some (.lst l) ∧ l.length < sizeLine ∧ LcP H1 D acc (i + 1) (upd H4 D (.lst (l ++ [y]))) := by
  obtain ⟨p1, p2, p3⟩ := p
  refine ⟨acc i, s _ _ p3, Nat.lt_of_lt_of_le hz (by decide), p1, fun b o h => ?_, by rw [upd_same, e]⟩
  rw [upd_ne (ne_of_none h p1)]
  exact s _ _ (p2 _ _ h)
theorem LcP.skip (p : LcP H1 D acc i H) (s : Same H H4) (e : acc (i + 1) = acc i) : LcP H1 D acc (i + 1) H4 := ⟨p.1, p.2.1.trans s, by rw [e]; exact s _ _ p.2.2⟩
end
theorem get_int {ns : List Int} {i : Nat} {x : V} (h : (ns.map V.int)[i]? = some x) : ∃ n, x = .int n ∧ ns[i]? = some n := by
  rw [List.getElem?_map] at h
  cases e : ns[i]? with
  | none => rw [e] at h; cases h
  | some n => rw [e] at h; cases h; exact ⟨n, rfl, rfl⟩
theorem mem_get {α : Type} {l : List α} {i : Nat} {x : α} (h : l[i]? = some x) : x ∈ l := List.mem_of_getElem? h
theorem lt_get {α : Type} {l : List α} {i : Nat} {x : α} (h : l[i]? = some x) : i < l.length := (List.getElem?_eq_some_iff.mp h).1
theorem take_get {α : Type} {l : List α} {i : Nat} {x : α} (h : l[i]? = some x) : l.take (i + 1) = l.take i ++ [x] := by
  rw [List.take_add_one, h]
  rfl
theorem zs {n : Nat} (h : n ≤ 100000) : n ≤ sizeLine := Nat.le_trans h (by decide)
theorem zl {n : Nat} (h : n < 100000) : n < sizeLine := Nat.lt_of_lt_of_le h (by decide)
theorem at0 {x : V} {r : List V} : atI (x :: r) 0 = some x := atI_nat (j := 0) rfl
theorem at1 {x y : V} {r : List V} : atI (x :: y :: r) 1 = some y := atI_nat (j := 1) rfl
theorem at2 {x y z : V} {r : List V} : atI (x :: y :: z :: r) 2 = some z := atI_nat (j := 2) rfl
theorem at_last {xs : List V} {y : V} : atI (xs ++ [y]) (-1) = some y := atI_last _ _
theorem dT {p : Prop} [Decidable p] (h : p) : V.bl (decide p) = V.bl true := congrArg V.bl (decide_eq_true h)
theorem dF {p : Prop} [Decidable p] (h : ¬ p) : V.bl (decide p) = V.bl false := congrArg V.bl (decide_eq_false h)
theorem nT {p : Prop} [Decidable p] (h : ¬ p) : V.bl (!decide p) = V.bl true := by rw [decide_eq_false h]; rfl
theorem nF {p : Prop} [Decidable p] (h : p) : V.bl (!decide p) = V.bl false := by rw [decide_eq_true h]; rfl
theorem vne {i j : Int} (h : i ≠ j) : ¬ V.int i = V.int j := fun e => h (V.int.inj e)

/-! ### a word behind a test, a value -/
def tMid (t : TT) : TT := fun σ H Q => ∃ M : Bool → Hp → Prop, t σ H M ∧ ∀ b H', M b H' → Q b H'
theorem pt_mid {X : Cx} {e : Expr} {t : TT} (h : PT X e t) : PT X e (tMid t) := ⟨fun pins s σ H _ I ⟨M, hm, hq⟩ => thn (h.run pins s σ H M I hm) fun b _ ⟨H', I', m⟩ => ⟨H', I', hq b H' m⟩⟩
def tMidE (t : TE) : TE := fun σ H Q => ∃ M : VK, t σ H M ∧ ∀ v H', M v H' → Q v H'
theorem pe_mid {X : Cx} {e : Expr} {t : TE} (h : PE X e t) : PE X e (tMidE t) := ⟨fun pins s σ H _ I ⟨M, hm, hq⟩ => thn (h.run pins s σ H M I hm) fun _ _ ⟨v, H', I', r, m⟩ => ⟨v, H', I', r, hq v H' m⟩⟩
/-! ### all but what stands at a is as it was -/
def Bt (a : Addr) (H H' : Hp) : Prop := ∀ b o, b ≠ a → H b = some o → H' b = some o
section
variable {a b p : Addr} {H H1 H2 H' : Hp} {o : HO}
theorem Bt.refl (a : Addr) (H : Hp) : Bt a H H := fun _ _ _ e => e
theorem Bt.trans (x : Bt a H H1) (y : Bt a H1 H2) : Bt a H H2 := fun b o n e => y b o n (x b o n e)
theorem Bt.of (x : Same H H') : Bt a H H' := fun b o _ e => x b o e
theorem Bt.at_ (a : Addr) (H : Hp) (o : HO) : Bt a H (upd H a o) := fun b u n e => by rw [upd_ne n]; exact e
theorem Bt.new (h : H p = none) : Bt a H (upd H p o) := .of (same_new h)
theorem Bt.mut (x : Bt a H H') (h : H p = none) : Bt a H (upd H' p o) := fun b u n e => by rw [upd_ne (ne_of_none e h)]; exact x b u n e
theorem Bt.add (x : Bt a H H') (h : H' p = none) : Bt a H (upd H' p o) := x.trans (.new h)
theorem Same.mut (x : Same H H') (h : H p = none) : Same H (upd H' p o) := fun b u e => by rw [upd_ne (ne_of_none e h)]; exact x b u e
theorem Same.add (x : Same H H') (h : H' p = none) : Same H (upd H' p o) := x.trans (same_new h)
theorem Bt.seq {K : PySem.W.Frag} {xs : List V} (x : Bt a H H') (n : b ≠ a) (h : SqL K H b xs) : SqL K H' b xs := by
  rcases h with (h | ⟨o, h⟩) | h
  · exact .inl (.inl (x _ _ n h))
  · exact .inl (.inr ⟨o, x _ _ n h⟩)
  · exact .inr h
end

/-! ### rules that name the written part outright: for the inside of comprehensions -/
section
variable {X : Cx} {K : PySem.W.Frag} {o e : Expr} {es : List Expr} {to : TE} {t : TA} {name : Str} {apos cpos : Pos} {T id : String} {r : V → List V → Hp → VK → Prop}
theorem k_bm (hK : X.K = K) (pa : PlainAttrs T) (slot : Slot T name id) (hty : typeOf (.builtin id) = pure (.type "method_descriptor")) (hm : MtR X id r) (ho : PE X o to) (ha : PA X (e :: es) t)
    (hbase : attributeBase o name X.env (eval o X.env) = eval o X.env := by rfl)
    (hfew : ((backTo cpos (starEach (e :: es) X.env)).all (fun x => !x.1) && (backToKw cpos (keywordEach [] X.env)).all (fun x => x.1.isSome)
      && decide ((e :: es).length + ([] : List Keyword).length + (if ([] : List Keyword).isEmpty then 0 else 1) < 30)) = true := by rfl)
    (hline : (apos.endLine == cpos.line) = true := by rfl) (hs : starEach (e :: es) X.env = (false, eval e X.env) :: starEach es X.env := by rfl) (hplain : (backTo cpos (starEach es X.env)).any (·.1) = false := by rfl) :
    PE X (.Call (.Attribute o name apos) (e :: es) [] cpos) (tBM K T r to t) := by
  subst hK
  exact pe_bm pa slot hty hm ho ha hbase hfew hline hs hplain
def rLenK (K : PySem.W.Frag) : List V → Hp → VK → Prop := fun xs H Q => ∃ p ys, xs = [.ref p] ∧ (SqL K H p ys ∨ SqT K H p ys) ∧ Q (.int ys.length) H
theorem k_len (hK : X.K = K) : CallR X (.builtin "len") (rLenK K) := by
  subst hK
  exact call_len_seq
theorem k_ix (hK : X.K = K) : IxR X (rIxL K) := by
  subst hK
  exact ix_list
theorem k_ixT (hK : X.K = K) : IxR X (rIxT K) := by
  subst hK
  exact ix_tup
theorem k_in (hK : X.K = K) : OpR X (compareOp .In) (rIn K false) := by
  subst hK
  exact op_in_seq
theorem k_notin (hK : X.K = K) : OpR X (compareOp .NotIn) (rIn K true) := by
  subst hK
  exact op_notIn_seq
theorem k_isi (hK : X.K = K) : CallR X (.builtin "isinstance") (rIsi K) := by
  subst hK
  exact call_isi
end
end Lp
set_option Elab.async false
set_option linter.all false
set_option maxRecDepth 100000
namespace Lp
open PySem PySem.Spec PyProof.Rows L2
/-! ### lists of ints as data -/
abbrev dI (ns : List Int) : PyData := .list (ns.map PyData.int)
theorem lay_ints : ∀ ns : List Int, PyData.canLayAll0 (ns.map PyData.int) = true
  | [] => rfl
  | _ :: r => by
    show (PyData.canLay0 (.int _) && PyData.canLayAll0 (r.map PyData.int)) = true
    rw [lay_ints r]
    rfl
theorem depth_ints : ∀ ns : List Int, PyData.depthAll (ns.map PyData.int) = 0
  | [] => rfl
  | _ :: r => by
    show max (PyData.depth (.int _)) (PyData.depthAll (r.map PyData.int)) = 0
    rw [depth_ints r]
    rfl
theorem shaped_ints (ns : List Int) : SeqAt.shaped (dI ns) = true := by
  show (PyData.canLayAll0 (ns.map PyData.int) && decide (PyData.depthAll (ns.map PyData.int) + 1 ≤ 64)) = true
  rw [lay_ints, depth_ints]
  rfl
theorem noDict_ints : ∀ ns : List Int, PyData.hasDictAll (ns.map PyData.int) = false
  | [] => rfl
  | _ :: r => by
    show (PyData.hasDict (.int _) || PyData.hasDictAll (r.map PyData.int)) = false
    rw [noDict_ints r]
    rfl
theorem show_ints : ∀ ns : List Int, (∀ n ∈ ns, n.natAbs.log2 < 1920) → PyData.showableAll (ns.map PyData.int) = true
  | [], _ => rfl
  | n :: r, h => by
    show (decide (n.natAbs.log2 < 1920) && PyData.showableAll (r.map PyData.int)) = true
    rw [show_ints r (fun m hm => h m (List.mem_cons_of_mem _ hm)), decide_eq_true (h n List.mem_cons_self)]
    rfl
theorem dpAll_ints {K : PySem.W.Frag} {H : Hp} : ∀ ns : List Int, DpAll K H (ns.map V.int) (ns.map PyData.int)
  | [] => .nil
  | n :: r => .cons (.int n) (dpAll_ints r)
theorem dp_ints {K : PySem.W.Frag} {H : Hp} {a : Addr} {ns : List Int} (h : SqL K H a (ns.map V.int)) : Dp K H (.ref a) (dI ns) := .lst h (dpAll_ints ns)
theorem eqvAll_ints : ∀ xs ys : List Int, PyData.eqvAll (xs.map PyData.int) (ys.map PyData.int) = decide (xs = ys)
  | [], [] => rfl
  | [], _ :: _ => rfl
  | _ :: _, [] => rfl
  | x :: r, y :: s => by
    show (PyData.eqv (.int x) (.int y) && PyData.eqvAll (r.map PyData.int) (s.map PyData.int)) = decide (x :: r = y :: s)
    rw [eqvAll_ints r s]
    show ((x == y) && decide (r = s)) = decide (x :: r = y :: s)
    by_cases e : x = y <;> by_cases e' : r = s <;> simp [e, e']
theorem eqv_ints (xs ys : List Int) : PyData.eqv (dI xs) (dI ys) = decide (xs = ys) := by
  show PyData.eqvAll (xs.map PyData.int) (ys.map PyData.int) = _
  exact eqvAll_ints xs ys
/-- [] == [], by the reading of == -/
theorem textFrom_le : ∀ (ts : List Str) (k : Nat) (acc : Str) (m : Nat), (∀ t ∈ ts, t.length ≤ m) → (textFrom k acc ts).length ≤ acc.length + ts.length * (m + 2)
  | [], k, acc, m, _ => by
    show acc.length ≤ _
    simp
  | t :: r, k, acc, m, h => by
    have ih := fun k' acc' => textFrom_le r k' acc' m (fun x hx => h x (List.mem_cons_of_mem _ hx))
    have ht := h t List.mem_cons_self
    have z := ih (k + 1) (acc ++ (if k > 0 then ", " else "" : String) ++ t)
    have e : (acc ++ (if k > 0 then ", " else "" : String) ++ t).length ≤ acc.length + 2 + t.length := by
      rw [Str.length_append, Str.length_append]
      by_cases hk : k > 0
      · rw [if_pos hk]
        exact Nat.le_refl _
      · rw [if_neg hk]
        show acc.length + 0 + t.length ≤ _
        omega
    show (textFrom (k + 1) (acc ++ (if k > 0 then ", " else "" : String) ++ t) r).length ≤ acc.length + (r.length + 1) * (m + 2)
    rw [Nat.succ_mul]
    omega
theorem num_len : ∀ n : Int, -100 ≤ n → n ≤ 100 → (Str.ofString (toString n)).length ≤ 4 := by
  intro n h0 h1
  have key : ∀ i : Fin 201, (Str.ofString (toString ((i.val : Int) - 100))).length ≤ 4 := by decide +kernel
  have e := key ⟨(n + 100).toNat, by omega⟩
  have e2 : (((n + 100).toNat : Nat) : Int) - 100 = n := by omega
  rw [e2] at e
  exact e
theorem shownAll_mem : ∀ (ns : List Int) (t : Str), t ∈ PyData.shownAll (ns.map PyData.int) → ∃ n ∈ ns, t = Str.ofString (toString n)
  | [], t, h => by
    have h' : t ∈ ([] : List Str) := h
    cases h'
  | n :: r, t, h => by
    have h' : t ∈ Str.ofString (toString n) :: PyData.shownAll (r.map PyData.int) := h
    rcases List.mem_cons.mp h' with e | e
    · exact ⟨n, List.mem_cons_self, e⟩
    · obtain ⟨m, hm, e⟩ := shownAll_mem r t e
      exact ⟨m, List.mem_cons_of_mem _ hm, e⟩
theorem shownAll_len : ∀ ns : List Int, (PyData.shownAll (ns.map PyData.int)).length = ns.length
  | [] => rfl
  | n :: r => congrArg (· + 1) (shownAll_len r)
theorem shown_ints {ns : List Int} (hb : ∀ n ∈ ns, -100 ≤ n ∧ n ≤ 100) (hl : ns.length ≤ 1000) : (dI ns).shown.length ≤ sizeLine := by
  show (textFrom 0 "[" (PyData.shownAll (ns.map PyData.int)) ++ ("]" : Str)).length ≤ sizeLine
  rw [Str.length_append]
  have z := textFrom_le (PyData.shownAll (ns.map PyData.int)) 0 "[" 4 (fun t ht => by
    obtain ⟨n, hn, e⟩ := shownAll_mem ns t ht
    rw [e]
    exact num_len n (hb n hn).1 (hb n hn).2)
  rw [shownAll_len] at z
  have e1 : ("[" : Str).length = 1 := rfl
  have e2 : ("]" : Str).length = 1 := rfl
  rw [e1] at z
  rw [e2]
  exact zs (by omega)
theorem log2_small {n : Int} (h0 : -100 ≤ n) (h1 : n ≤ 100) : n.natAbs.log2 < 1920 := by
  have h : n.natAbs < 2 ^ 7 := by omega
  exact Nat.lt_trans (PySem.Flt.log2_lt_of (by decide : 0 < 7) h) (by decide)
theorem rrepr_ints {K : PySem.W.Frag} {H : Hp} {a : Addr} {ns : List Int} {Q : VK} (hS : SqL K H a (ns.map V.int)) (hb : ∀ n ∈ ns, -100 ≤ n ∧ n ≤ 100) (hl : ns.length ≤ 1000) (q : Q (.str (dI ns).shown) H) : rRepr K [.ref a] H Q :=
  ⟨a, dI ns, rfl, dp_ints hS, show_ints ns (fun n hn => log2_small (hb n hn).1 (hb n hn).2), noDict_ints ns, by
    show PyData.depthAll (ns.map PyData.int) + 1 ≤ 60
    rw [depth_ints]
    decide, shown_ints hb hl, q⟩

/-! ### places -/
theorem erase_map {α β : Type} (f : α → β) : ∀ (l : List α) (j : Nat), (l.map f).eraseIdx j = (l.eraseIdx j).map f
  | [], _ => by simp
  | x :: r, 0 => rfl
  | x :: r, j + 1 => congrArg (f x :: ·) (erase_map f r j)
theorem get_at {al : List Int} {j : Nat} (h : j < al.length) : (al.map V.int)[j]? = some (.int al[j]) := by
  rw [List.getElem?_map, List.getElem?_eq_getElem h]
  rfl
theorem ix_at {j n : Nat} (h : j < n) : seqIndex? (j : Int) n = some j := (ixN_seq (Evl.ixN_nat h)).1
theorem nat_of {r : Int} (h : 0 ≤ r) : ∃ j : Nat, r = (j : Int) := ⟨r.toNat, by omega⟩
theorem nm {k : Nat} (h : k ≤ 100000) : -(2 ^ 63) ≤ (k : Int) ∧ (k : Int) < 2 ^ 63 := by omega
theorem free_of {a p : Addr} {H H' : Hp} (b : Bt a H H') (n : p ≠ a) (h : H' p = none) : H p = none := by
  cases e : H p with
  | none => rfl
  | some o =>
    rw [b _ _ n e] at h
    cases h
theorem erase_perm : ∀ (l : List Int) (j : Nat) (h : j < l.length), (l[j] :: l.eraseIdx j).Perm l
  | x :: r, 0, _ => .refl _
  | x :: r, j + 1, h => by
    have h' : j < r.length := Nat.lt_of_succ_lt_succ h
    exact (List.Perm.swap x (r[j]'h') (r.eraseIdx j)).trans ((erase_perm r j h').cons x)
end Lp
set_option Elab.async false
set_option linter.all false
set_option maxRecDepth 100000
namespace Lp
open PySem PySem.Spec PyProof.Rows L2
theorem lc_enum {K : PySem.W.Frag} {a : Addr} {xs : List V} {g : TG} {tt : TT} {te : TE} {vs : List Nat} {σ : L2.St} {H1 : Hp} {D : Addr} {Qd : Hp → Prop} (Pv : Nat → Hp → Prop) (h0 : Pv 0 (upd H1 D (.lst []))) (hl : ∀ i H, i ≤ xs.length → Pv i H → SqL K H a xs)
    (hs : ∀ (i : Nat) (x : V) (T : Addr) (H : Hp), xs[i]? = some x → H T = none → Pv i H → g (.ref T) (wipe σ vs) (upd H T (.tup [.int (i : Nat), x])) fun σ2 H2 => wipe σ2 vs = wipe σ vs ∧ tt σ2 H2 fun b H3 =>
      if b = true then te σ2 H3 fun y H4 => ∃ acc, H4 D = some (.lst acc) ∧ acc.length < sizeLine ∧ Pv (i + 1) (upd H4 D (.lst (acc ++ [y]))) else Pv (i + 1) H3) (hd : ∀ H, Pv xs.length H → Qd H) :
    ∃ W : Nat → Nat → Hp → Prop, (∃ m, W 0 m (upd H1 D (.lst []))) ∧ ∀ i m H, W i m H →
      ((Ite K a).stop i H ∧ Qd H) ∨ ((Ite K a).go i H ∧ ∃ Nx : Hp → Prop, (∀ H', Nx H' → ∃ m', m' < m ∧ W (i + 1) m' H') ∧ ∀ x H', (Ite K a).yld i H x H' → g x (wipe σ vs) H' fun σ2 H2 => wipe σ2 vs = wipe σ vs ∧ tt σ2 H2 fun b H3 =>
        if b = true then te σ2 H3 fun y H4 => ∃ acc, H4 D = some (.lst acc) ∧ acc.length < sizeLine ∧ Nx (upd H4 D (.lst (acc ++ [y]))) else Nx H3) := by
  refine ⟨fun i m H => m = xs.length - i ∧ i ≤ xs.length ∧ Pv i H, ⟨xs.length, by simp, Nat.zero_le _, h0⟩, ?_⟩
  rintro i m H ⟨rfl, hi, pv⟩
  have sq := hl i H hi pv
  rcases Nat.lt_or_ge i xs.length with hlt | hge
  · refine .inr ⟨⟨xs, xs[i], sq, List.getElem?_eq_getElem hlt⟩, Pv (i + 1), fun H' p' => ⟨xs.length - (i + 1), by omega, rfl, hlt, p'⟩, fun x H' y => ?_⟩
    obtain ⟨T, z, rfl, nT, rfl, ez⟩ := y
    exact hs i z T H (ez xs sq) nT pv
  · have e : i = xs.length := by omega
    subst e
    exact .inl ⟨⟨xs, sq, Nat.le_refl _⟩, hd H pv⟩
theorem cut_take (xs : List V) (k : Nat) (h : k ≤ xs.length) : cutV xs none (some (k : Int)) = xs.take k := by
  unfold cutV
  rw [HT.sIx_none, HT.sIx_nat, List.drop_zero, Nat.sub_zero, Nat.min_eq_left h]
theorem decV (i j : Int) : decide (V.int i = V.int j) = decide (i = j) := decide_eq_decide.mpr ⟨fun z => V.int.inj z, fun z => congrArg V.int z⟩
theorem k_sl {X : Cx} {K : PySem.W.Frag} (hK : X.K = K) : SlR X (rSlL K) := by
  subst hK
  exact sl_list
theorem k_tup {X : Cx} {K : PySem.W.Frag} {es : List Expr} {k : Nat} {pos : Pos} {t : TGs} {n : Nat} (hK : X.K = K) (hc : X.calm = true) (h : PGs X es t)
    (hn : (assignEach es X.env).length = n := by rfl) (hst : (assignEach es X.env).findIdx? (·.1) = none := by rfl) : PG X (.Tuple es k pos) (gTup K n t) := by
  subst hK
  exact pg_tup hc h hn hst
theorem seqN {K : PySem.W.Frag} {xs : List V} {H H1 H' : Hp} {a b : Addr} (h : SqL K H b xs) (n : H a = none) (s : Same H H1) (x : Bt a H1 H') : SqL K H' b xs := by
  rcases h with (h | ⟨o, h⟩) | h
  · exact .inl (.inl (x _ _ (ne_of_none h n) (s _ _ h)))
  · exact .inl (.inr ⟨o, x _ _ (ne_of_none h n) (s _ _ h)⟩)
  · exact .inr h
theorem rI1 {ns : List Int} (hb : ∀ n ∈ ns, -100 ≤ n ∧ n ≤ 100) : (dI ns).showable = true := show_ints ns (fun n hn => log2_small (hb n hn).1 (hb n hn).2)
theorem rI2 (ns : List Int) : (dI ns).depth ≤ 60 := by
  show PyData.depthAll (ns.map PyData.int) + 1 ≤ 60
  rw [depth_ints]
  decide
end Lp
set_option Elab.async false
set_option linter.all false
set_option maxRecDepth 100000
namespace Lp
open PySem PySem.Spec PyProof.Rows L2
theorem lc_zipL {K : PySem.W.Frag} {a b : Addr} {xs ys : List V} {g : TG} {tt : TT} {te : TE} {vs : List Nat} {σ : L2.St} {H1 : Hp} {D : Addr} {Qd : Hp → Prop} (le : xs.length = ys.length) (Pv : Nat → Hp → Prop) (h0 : Pv 0 (upd H1 D (.lst []))) (hl : ∀ i H, i ≤ xs.length → Pv i H → SqL K H a xs ∧ SqL K H b ys)
    (hs : ∀ (i : Nat) (x y : V) (T : Addr) (H : Hp), xs[i]? = some x → ys[i]? = some y → H T = none → Pv i H → g (.ref T) (wipe σ vs) (upd H T (.tup [x, y])) fun σ2 H2 => wipe σ2 vs = wipe σ vs ∧ tt σ2 H2 fun b H3 =>
      if b = true then te σ2 H3 fun y H4 => ∃ acc, H4 D = some (.lst acc) ∧ acc.length < sizeLine ∧ Pv (i + 1) (upd H4 D (.lst (acc ++ [y]))) else Pv (i + 1) H3) (hd : ∀ H, Pv xs.length H → Qd H) :
    ∃ W : Nat → Nat → Hp → Prop, (∃ m, W 0 m (upd H1 D (.lst []))) ∧ ∀ i m H, W i m H →
      ((Itz K a b).stop i H ∧ Qd H) ∨ ((Itz K a b).go i H ∧ ∃ Nx : Hp → Prop, (∀ H', Nx H' → ∃ m', m' < m ∧ W (i + 1) m' H') ∧ ∀ x H', (Itz K a b).yld i H x H' → g x (wipe σ vs) H' fun σ2 H2 => wipe σ2 vs = wipe σ vs ∧ tt σ2 H2 fun b H3 =>
        if b = true then te σ2 H3 fun y H4 => ∃ acc, H4 D = some (.lst acc) ∧ acc.length < sizeLine ∧ Nx (upd H4 D (.lst (acc ++ [y]))) else Nx H3) := by
  refine ⟨fun i m H => m = xs.length - i ∧ i ≤ xs.length ∧ Pv i H, ⟨xs.length, by simp, Nat.zero_le _, h0⟩, ?_⟩
  rintro i m H ⟨rfl, hi, pv⟩
  obtain ⟨sa, sb⟩ := hl i H hi pv
  rcases Nat.lt_or_ge i xs.length with hlt | hge
  · refine .inr ⟨⟨xs, ys, xs[i], ys[i]'(by omega), sa, sb, List.getElem?_eq_getElem hlt, List.getElem?_eq_getElem (by omega)⟩, Pv (i + 1), fun H' p' => ⟨xs.length - (i + 1), by omega, rfl, hlt, p'⟩, fun x H' y => ?_⟩
    obtain ⟨T, z1, z2, rfl, nT, rfl, e1, e2⟩ := y
    exact hs i z1 z2 T H (e1 xs sa) (e2 ys sb) nT pv
  · have e : i = xs.length := by omega
    subst e
    exact .inl ⟨⟨xs, ys, sa, sb, .inl (Nat.le_refl _)⟩, hd H pv⟩
theorem lc_zipT {K : PySem.W.Frag} {a b : Addr} {xs ys : List V} {g : TG} {tt : TT} {te : TE} {vs : List Nat} {σ : L2.St} {H1 : Hp} {D : Addr} {Qd : Hp → Prop} (le : xs.length = ys.length) (Pv : Nat → Hp → Prop) (h0 : Pv 0 (upd H1 D (.lst []))) (hl : ∀ i H, i ≤ xs.length → Pv i H → SqT K H a xs ∧ SqT K H b ys)
    (hs : ∀ (i : Nat) (x y : V) (T : Addr) (H : Hp), xs[i]? = some x → ys[i]? = some y → H T = none → Pv i H → g (.ref T) (wipe σ vs) (upd H T (.tup [x, y])) fun σ2 H2 => wipe σ2 vs = wipe σ vs ∧ tt σ2 H2 fun b H3 =>
      if b = true then te σ2 H3 fun y H4 => ∃ acc, H4 D = some (.lst acc) ∧ acc.length < sizeLine ∧ Pv (i + 1) (upd H4 D (.lst (acc ++ [y]))) else Pv (i + 1) H3) (hd : ∀ H, Pv xs.length H → Qd H) :
    ∃ W : Nat → Nat → Hp → Prop, (∃ m, W 0 m (upd H1 D (.lst []))) ∧ ∀ i m H, W i m H →
      ((RZ.ItzT K a b).stop i H ∧ Qd H) ∨ ((RZ.ItzT K a b).go i H ∧ ∃ Nx : Hp → Prop, (∀ H', Nx H' → ∃ m', m' < m ∧ W (i + 1) m' H') ∧ ∀ x H', (RZ.ItzT K a b).yld i H x H' → g x (wipe σ vs) H' fun σ2 H2 => wipe σ2 vs = wipe σ vs ∧ tt σ2 H2 fun b H3 =>
        if b = true then te σ2 H3 fun y H4 => ∃ acc, H4 D = some (.lst acc) ∧ acc.length < sizeLine ∧ Nx (upd H4 D (.lst (acc ++ [y]))) else Nx H3) := by
  refine ⟨fun i m H => m = xs.length - i ∧ i ≤ xs.length ∧ Pv i H, ⟨xs.length, by simp, Nat.zero_le _, h0⟩, ?_⟩
  rintro i m H ⟨rfl, hi, pv⟩
  obtain ⟨sa, sb⟩ := hl i H hi pv
  rcases Nat.lt_or_ge i xs.length with hlt | hge
  · refine .inr ⟨⟨xs, ys, xs[i], ys[i]'(by omega), sa, sb, List.getElem?_eq_getElem hlt, List.getElem?_eq_getElem (by omega)⟩, Pv (i + 1), fun H' p' => ⟨xs.length - (i + 1), by omega, rfl, hlt, p'⟩, fun x H' y => ?_⟩
    obtain ⟨T, z1, z2, rfl, nT, rfl, e1, e2⟩ := y
    exact hs i z1 z2 T H (e1 xs sa) (e2 ys sb) nT pv
  · have e : i = xs.length := by omega
    subst e
    exact .inl ⟨⟨xs, ys, sa, sb, .inl (Nat.le_refl _)⟩, hd H pv⟩
theorem tyx_l {K : PySem.W.Frag} {H : Hp} {a : Addr} {xs : List V} (h : SqL K H a xs) : TyX K H (.ref a) (.type "list") := by
  rcases h with (h | ⟨o, h⟩) | ⟨o, its, n, h, c, _⟩
  · exact .base (.lst h)
  · exact .base (.frz h)
  · exact .kList h c
theorem tyx_t {K : PySem.W.Frag} {H : Hp} {a : Addr} {xs : List V} (h : SqT K H a xs) : TyX K H (.ref a) (.type "tuple") := by
  rcases h with (h | ⟨o, h⟩) | ⟨o, its, n, h, c, _⟩
  · exact .base (.tup h)
  · exact .fTuple h
  · exact .kTuple h c
theorem seqT {K : PySem.W.Frag} {H H' : Hp} {a : Addr} {xs : List V} (e : Same H H') (h : SqT K H a xs) : SqT K H' a xs := by
  rcases h with (h | ⟨o, h⟩) | h
  · exact .inl (.inl (e _ _ h))
  · exact .inl (.inr ⟨o, e _ _ h⟩)
  · exact .inr h
mutual
theorem dp_same {K : PySem.W.Frag} {H H' : Hp} (s : Same H H') : ∀ {v : V} {d : PyData}, Dp K H v d → Dp K H' v d
  | _, _, .non => .non
  | _, _, .bl b => .bl b
  | _, _, .int i => .int i
  | _, _, .str x => .str x
  | _, _, .lst h1 h2 => .lst (s.seq h1) (dpAll_same s h2)
  | _, _, .tup h1 h2 => .tup (seqT s h1) (dpAll_same s h2)
theorem dpAll_same {K : PySem.W.Frag} {H H' : Hp} (s : Same H H') : ∀ {vs : List V} {ds : List PyData}, DpAll K H vs ds → DpAll K H' vs ds
  | _, _, .nil => .nil
  | _, _, .cons h1 h2 => .cons (dp_same s h1) (dpAll_same s h2)
end
theorem dpAll_len {K : PySem.W.Frag} {H : Hp} : ∀ {vs : List V} {ds : List PyData}, DpAll K H vs ds → vs.length = ds.length
  | _, _, .nil => rfl
  | _, _, .cons _ h => congrArg (· + 1) (dpAll_len h)
theorem dpAll_get {K : PySem.W.Frag} {H : Hp} : ∀ {vs : List V} {ds : List PyData} {i : Nat} {v : V}, DpAll K H vs ds → vs[i]? = some v → ∃ d, ds[i]? = some d ∧ Dp K H v d
  | _, _, 0, _, .cons h _, e => by cases e; exact ⟨_, rfl, h⟩
  | _, _, i + 1, _, .cons _ h, e => dpAll_get (i := i) h e
theorem depth_get : ∀ {ds : List PyData} {i : Nat} {d : PyData}, ds[i]? = some d → d.depth ≤ PyData.depthAll ds
  | x :: r, 0, d, e => by cases e; exact Nat.le_max_left _ _
  | x :: r, i + 1, d, e => Nat.le_trans (depth_get (ds := r) (i := i) e) (Nat.le_max_right _ _)
theorem kitA {K : PySem.W.Frag} {t c1 c2 : Value} {b : Bool} (h1 : PySem.W.kitOne K t c1 = some false) (h2 : PySem.W.kitOne K t c2 = some b) : PySem.W.kitAny K t [c1, c2] = some b := by
  unfold PySem.W.kitAny
  rw [h1]
  show PySem.W.kitAny K t [c2] = _
  unfold PySem.W.kitAny
  rw [h2]
  cases b <;> rfl
theorem kitT {K : PySem.W.Frag} {t c1 : Value} {cs : List Value} (h1 : PySem.W.kitOne K t c1 = some true) : PySem.W.kitAny K t (c1 :: cs) = some true := by
  unfold PySem.W.kitAny
  rw [h1]
/-! ### list(range(a, b, c)) -/
def tList3 (ta : TA) : TE := fun σ H Q => ta σ H fun vs H1 => ∃ (i j c : Int) (n : Nat), vs = [.int i, .int j, .int c] ∧ RgC i j c n ∧ n ≤ 100000 ∧ ∀ q, H1 q = none → Q (.ref q) (upd H1 q (.lst ((List.range n).map fun k : Nat => V.int (i + (k : Int) * c))))
theorem vals_rg3 {a c : Int} {n : Nat} {acc : Array Value} (h : ItemsOf (fun i v => ∃ t, v = .int (a + i * c) t) acc n) : Vals ((List.range n).map fun k : Nat => V.int (a + (k : Int) * c)) acc.toList := by
  have e : acc.toList.length = n := by rw [Array.length_toList]; exact h.1
  rw [← e]
  refine vals_of_get acc.toList _ fun j u hj => ?_
  obtain ⟨t, rfl⟩ := h.2 j u (by rw [← hj, Array.getElem?_toList])
  exact ⟨t, rfl⟩
theorem pe_list3 {X : Cx} {a b c : Expr} {ta : TA} {p p2 pos pos2 : Pos} (hc : X.calm = true) (hg : Gl X "list") (hm : X.mg "list" = none) (hg2 : Gl X "range") (hm2 : X.mg "range" = none) (ha : PA X [a, b, c] ta)
    (hs : starEach [a, b, c] X.env = (false, eval a X.env) :: starEach [b, c] X.env := by rfl) (hpl : (backTo pos2 (starEach [b, c] X.env)).any (·.1) = false := by rfl)
    (na : starEach [.Call (.Name "range" p2) [a, b, c] [] pos2] X.env = (false, eval (.Call (.Name "range" p2) [a, b, c] [] pos2) X.env) :: starEach [] X.env := by rfl) :
    PE X (.Call (.Name "list" p) [.Call (.Name "range" p2) [a, b, c] [] pos2] [] pos) (tList3 ta) := by
  refine ⟨fun pins s σ H Q I h => ?_⟩
  refine Call_ (ld_blt I hg hm boot_list (PyProof.Rows.callWith_type1 (args_cons (?_) na) na))
  refine Call_ (ld_blt I hg2 hm2 boot_range (PyProof.Rows.callWith_type1 (thn (ha.run pos2 pins s σ H _ I h) fun us s1 ⟨vs, H1, I1, r1, q1⟩ => ?_) hs hpl))
  obtain ⟨i, j, k, n, e, ⟨c0, c1, c2, c3⟩, hn, q⟩ := q1
  subst e
  cases r1 with
  | cons r rr =>
    cases rr with
    | cons r' rr =>
      cases rr with
      | cons r'' rr =>
        cases rr
        obtain ⟨t, rfl⟩ := r
        obtain ⟨t', rfl⟩ := r'
        obtain ⟨t'', rfl⟩ := r''
        refine call_range_3 c0 ?_ (.inl (PyProof.noPylong_small c1))
        refine args_nil ?_
        have I2 : Inv X pins σ H1 { s1 with heap := s1.heap.push { cls := .type "range", data := .fields #[.int i t, .int j t', .int k t''] } } := I1.kept (t' := s1.toks) fun b o e => Heap.get?_push_of_some _ e
        refine call_list_range (n := n) (I2.ok.hd hc) (IsRange.new ..) c2 c3 (by omega) fun h' tk acc c' hk e' hi => ?_
        refine ⟨.ref _, upd H1 _ (.lst ((List.range n).map fun m : Nat => V.int (i + (m : Int) * k))), I2.laid hk (Nat.le_refl _) (show ObjOk X.prog X.w _ _ _ (.lst _) from ⟨?_, acc.toList, c', vals_rg3 hi, ?_⟩), rfl, q _ (I2.hok.fresh (Nat.le_refl _))⟩
        · rw [List.length_map, List.length_range]
          exact zs hn
        · rw [Array.toArray_toList]; exact e'
end Lp
set_option Elab.async false
set_option linter.all false
set_option maxRecDepth 100000
namespace Lp
open PySem PySem.Spec PyProof.Rows L2
/-! ### xs.count(text) -/
theorem strCount {k : Str} : ∀ {us : List Value} {ys : List Str}, StrsAre us ys → us.countP (isStrOf k) = ys.countP (fun y => y == k)
  | _, _, .nil => rfl
  | _, _, .cons n t h => by
    have ih := strCount (k := k) h
    rw [List.countP_cons, List.countP_cons, ih] <;> rfl
def rCntS (K : PySem.W.Frag) : V → List V → Hp → VK → Prop := fun x xs H Q => ∃ (p : Addr) (ys : List Str) (k : Str), x = .ref p ∧ xs = [.str k] ∧ SqL K H p (ys.map V.str) ∧ Q (.int (ys.countP (fun y => y == k) : Nat)) H
theorem mt_lcountS {X : Cx} : MtR X "list.count" (rCntS X.K) := by
  intro pins s σ H x xs v us Q I rx rxs h
  obtain ⟨p, ys, k, rfl, rfl, hs, q⟩ := h
  cases rx
  obtain ⟨u, rfl, ru⟩ := rxs.one
  obtain ⟨t, rfl⟩ := ru
  obtain ⟨its, rv, ⟨⟨cls, dd, data, sl⟩, n, ho, hc, hdn, hd⟩, hlen⟩ := I.list hs
  simp only at hc hd
  subst hc hd
  have hi := Vals.strs rv
  refine call_meets PySem.F.slot_list_count ⟨_, ho, rfl⟩ PySem.F.entry_list_count (PySem.F.args_list_count_2 _ _)
    (SeqAt.list_countAt p its.toArray n dd sl (.str k t) (isStrOf k)) ⟨ho, fun y hy => (eq_isStrOf k t hi y (by simpa using hy)).at _ _, ?_⟩
  have ec : its.toArray.toList.countP (isStrOf k) = ys.countP (fun y => y == k) := strCount hi
  refine ⟨.int (ys.countP (fun y => y == k) : Nat), H, I.tok _, ⟨s.toks, ?_⟩, q⟩
  show Value.int ((its.toArray.toList.countP (isStrOf k) : Nat) : Int) s.toks = Value.int ((ys.countP (fun y => y == k) : Nat) : Int) s.toks
  rw [ec]
end Lp
set_option Elab.async false
set_option linter.all false
set_option maxRecDepth 100000
namespace Lp
open PySem PySem.Spec PyProof.Rows L2
/-! ### dict comprehensions over enumerate -/
theorem dc_enum {K : PySem.W.Frag} {a : Addr} {xs : List V} {g : TG} {tt : TT} {tk tv : TE} {vs : List Nat} {σ : L2.St} {H1 : Hp} {D : Addr} {Qd : Hp → Prop} (Pv : Nat → Hp → Prop) (h0 : Pv 0 (upd H1 D (.dK []))) (hl : ∀ i H, i ≤ xs.length → Pv i H → SqL K H a xs)
    (hs : ∀ (i : Nat) (x : V) (T : Addr) (H : Hp), xs[i]? = some x → H T = none → Pv i H → g (.ref T) (wipe σ vs) (upd H T (.tup [.int (i : Nat), x])) fun σ2 H2 => wipe σ2 vs = wipe σ vs ∧ tt σ2 H2 fun b H3 =>
      if b = true then tk σ2 H3 fun y H4 => tv σ2 H4 fun z H5 => ∃ kvs k, y = kV k ∧ H5 D = some (.dK kvs) ∧ kvs.length < sizeLine ∧ Pv (i + 1) (upd H5 D (.dK (putK kvs k z))) else Pv (i + 1) H3) (hd : ∀ H, Pv xs.length H → Qd H) :
    ∃ W : Nat → Nat → Hp → Prop, (∃ m, W 0 m (upd H1 D (.dK []))) ∧ ∀ i m H, W i m H →
      ((Ite K a).stop i H ∧ Qd H) ∨ ((Ite K a).go i H ∧ ∃ Nx : Hp → Prop, (∀ H', Nx H' → ∃ m', m' < m ∧ W (i + 1) m' H') ∧ ∀ x H', (Ite K a).yld i H x H' → g x (wipe σ vs) H' fun σ2 H2 => wipe σ2 vs = wipe σ vs ∧ tt σ2 H2 fun b H3 =>
        if b = true then tk σ2 H3 fun y H4 => tv σ2 H4 fun z H5 => ∃ kvs k, y = kV k ∧ H5 D = some (.dK kvs) ∧ kvs.length < sizeLine ∧ Nx (upd H5 D (.dK (putK kvs k z))) else Nx H3) := by
  refine ⟨fun i m H => m = xs.length - i ∧ i ≤ xs.length ∧ Pv i H, ⟨xs.length, by simp, Nat.zero_le _, h0⟩, ?_⟩
  rintro i m H ⟨rfl, hi, pv⟩
  have sq := hl i H hi pv
  rcases Nat.lt_or_ge i xs.length with hlt | hge
  · refine .inr ⟨⟨xs, xs[i], sq, List.getElem?_eq_getElem hlt⟩, Pv (i + 1), fun H' p' => ⟨xs.length - (i + 1), by omega, rfl, hlt, p'⟩, fun x H' y => ?_⟩
    obtain ⟨T, z, rfl, nT, rfl, e1⟩ := y
    exact hs i z T H (e1 xs sq) nT pv
  · have e : i = xs.length := by omega
    subst e
    exact .inl ⟨⟨xs, sq, Nat.le_refl _⟩, hd H pv⟩
end Lp
set_option Elab.async false
set_option linter.all false
set_option maxRecDepth 100000
namespace Lp
open PySem PySem.Spec PyProof.Rows L2
/-! ### list + list, the script's own list too -/
def rCatS (K : PySem.W.Frag) : R2 := fun x y H Q => ∃ l b xs zs, x = .ref l ∧ y = .ref b ∧ SqL K H l xs ∧ SqL K H b zs ∧ xs.length + zs.length ≤ sizeLine ∧ ∀ p, H p = none → Q (.ref p) (upd H p (.lst (xs ++ zs)))
theorem op_catS {X : Cx} : OpR X (binaryOp .Add) (rCatS X.K) := by
  intro pins s σ H x y v u Q I rx ry h
  obtain ⟨l, b, xs, zs, rfl, rfl, hl, hb, hz, q⟩ := h
  cases rx
  cases ry
  obtain ⟨its, r, ⟨⟨cls, dd, data, sl⟩, n, ho, hc, hdn, hd⟩, h1⟩ := I.list hl
  obtain ⟨its2, r2, ⟨⟨cls2, dd2, data2, sl2⟩, n2, ho2, hc2, hdn2, hd2⟩, h2⟩ := I.list hb
  simp only at hc hd hc2 hd2
  subst hc hd hc2 hd2
  have e1 := r.length
  have e2 := r2.length
  refine concat_meets ⟨_, ho, rfl⟩ ⟨_, ho2, rfl⟩ noFill_list_add seq_list_add PySem.F.slot_list_add PySem.F.entry_list_add (PySem.F.args_list_add_2 _ _) (list_addW l b its.toArray its2.toArray n n2 dd dd2 sl sl2 (by rw [List.size_toArray, List.size_toArray]; omega)) ⟨ho, ho2, ?_⟩
  have ea : its.toArray ++ its2.toArray = (its ++ its2).toArray := by simp
  rw [ea]
  exact ⟨.ref _, _, I.lnew (t' := s.toks) (r.append r2) (by rw [List.length_append]; omega), rfl, q _ I.fresh⟩
end Lp
set_option Elab.async false
set_option linter.all false
set_option maxRecDepth 100000
namespace Lp
open PySem PySem.Spec PyProof.Rows L2

/-! ### calls by keywords, of defs that are called where no repr is under way -/
structure Gk (P : Program) (w : World) (K : PySem.W.Frag) (mg : Str → Option Value) (base : Heap) (k : Nat) (x : Str) (n : Nat) (ks : List Str) (gV : List V → List V → List V) (sp : Sp) : Prop where
  ex : ∃ (f : Addr) (fd : FuncData) (ps : List Str) (g : List Value → List Value → List Value), FnG P w K mg base CX0 k f fd ps sp ∧ mg x = some (.ref f) ∧ PySem.W.keepIn K (.ref f) = true ∧ KBn K fd ps n ks g gV
theorem kb_of {K : PySem.W.Frag} {x qual : Str} {st : Stmt} {f : Addr} {fd : FuncData} {ps : List Str} (F : Fun K x qual st f fd) (n : Nat) (ks : List Str) (g : {α : Type} → List α → List α → List α)
    (hrel : ∀ {vs : List V} {us : List Value} {zs : List V} {ws : List Value}, Vals vs us → Vals zs ws → Vals (g vs zs) (g us ws))
    (h : ∀ (kV doc pm : Value) (an : Option Addr) (cdv ct : Value) (us ws : List Value), us.length = n → ws.length = ks.length → bindArgs (PySem.W.fnOf x qual (defArgs st) (defBody st) (defScope st) .none kV doc pm an cdv ct) ⟨us, ks.zip ws⟩ = pure (ps.zip (g us ws))) :
    KBn K fd ps n ks g g := by
  obtain ⟨oc, od, kV, doc, pm, an, cdv, ct, osl, rfl, lk, hcd⟩ := F.ex
  exact ⟨fun s us ws _ l1 l2 => .of_eq (h kV doc pm an cdv ct us ws l1 l2), hrel⟩
theorem kb_gApp0 {vs : List V} {us : List Value} {zs : List V} {ws : List Value} (a : Vals vs us) (b : Vals zs ws) : Vals (vs ++ zs) (us ++ ws) := a.append b
def gApp {α : Type} (us ws : List α) : List α := us ++ ws
def gRev {α : Type} (us ws : List α) : List α := us ++ ws.reverse
theorem kb_gApp {vs : List V} {us : List Value} {zs : List V} {ws : List Value} (a : Vals vs us) (b : Vals zs ws) : Vals (gApp vs zs) (gApp us ws) := a.append b
theorem vals_rev2 : ∀ {zs : List V} {ws : List Value}, Vals zs ws → Vals zs.reverse ws.reverse
  | _, _, .nil => .nil
  | _, _, .cons h t => by
    rw [List.reverse_cons, List.reverse_cons]
    exact (vals_rev2 t).append (.cons h .nil)
theorem kb_gRev {vs : List V} {us : List Value} {zs : List V} {ws : List Value} (a : Vals vs us) (b : Vals zs ws) : Vals (gRev vs zs) (gRev us ws) := a.append (vals_rev2 b)
def tCallG (n m : Nat) (sp : Sp) (gV : List V → List V → List V) (t tk : TA) : TE := fun σ H Q => t σ H fun vs H1 => tk σ H1 fun zs H2 => vs.length = n ∧ zs.length = m ∧ sp (gV vs zs) H2 Q E0
section
variable {X : Cx} {CX : CXT} {k n : Nat} {f : Addr} {fd : FuncData} {ps ks : List Str} {sp : Sp} {E : XK} {x : Str} {p pos : Pos} {e : Expr} {es : List Expr} {kws : List Keyword} {t tk : TA} {g : List Value → List Value → List Value} {gV : List V → List V → List V}
theorem run_fnG {pins : List (Addr × Obj)} {σ : L2.St} {H : Hp} {s : Shared} {Q : VK} {us ws : List Value} {vs zs : List V} (F : FnG X.prog X.w X.K X.mg X.base CX k f fd ps sp) (hG : X.A.guards = some []) (hr : Room k X.A) (hb : KBn X.K fd ps n ks g gV) (hx : Passes CX X E)
    (I : Inv X pins σ H s) (r : Vals vs us) (rz : Vals zs ws) (l1 : vs.length = n) (l2 : zs.length = ks.length) (h : sp (gV vs zs) H Q E) : wpAny (model X.prog X.w) X.A (call (.ref f) us (ks.zip ws)) (EP X pins σ Q) X.xe s := by
  have r2 := hb.rel r rz
  refine wpAny_call (codeAny_mono (F.runG X.A X.stack s H ⟨us, ks.zip ws⟩ (g us ws) (gV vs zs) Q E hG hr I.env0 (hb.to s us ws I.kIn (r.length.symm.trans l1) (rz.length.symm.trans l2)) r2 h) fun r s' hq => ?_)
  cases r with
  | error e => exact hx pins σ H s e s' I hq
  | ok fl =>
    cases fl with
    | ret u => exact I.after hq
    | next => exact False.elim hq
    | brk => exact False.elim hq
    | cont => exact False.elim hq
/-- f(k = v, ..) -/
theorem pe_gK0 {j : Nat} (c : Gk X.prog X.w X.K X.mg X.base k x 0 ks gV sp) (hG : X.A.guards = some []) (hr : Room j X.A) (hk : k ≤ j) (hg : Gl X x) (hkw : PK X kws tk)
    (hall : (backToKw pos (keywordEach kws X.env)).all (·.1.isSome) = true := by rfl) (hks : (backToKw pos (keywordEach kws X.env)).filterMap (·.1) = ks := by rfl) (hdb : (x == ("__debug__" : Str)) = false := by decide)
    (hpl : ((backTo pos (starEach [] X.env)).any (·.1) || (backToKw pos (keywordEach kws X.env)).any (·.1.isNone)) = false := by rfl) :
    PE X (.Call (.Name x p) [] kws pos) (tCallG 0 ks.length sp gV tNil tk) := by
  obtain ⟨f, fd, ps, g, F, hm, kp, hb⟩ := c.ex
  refine ⟨fun pins s σ H Q I h => ?_⟩
  refine wpAny_Call_Name_kw (ld_glob I hg hm ?_ hdb)
  refine PySem.W.callWith_KW0 (h₀ := X.base) I.ok.mod.kin kp hall ?_ hpl
  refine thn (hkw.run pos pins s σ H _ I h) fun ws s2 ⟨zs, H2, I2, rz, l1, l2, q2⟩ => ⟨I2.kIn, ?_⟩
  rw [hks]
  exact run_fnG (us := []) (vs := []) F hG (hr.mono hk) hb pass0 I2 .nil rz rfl l2 q2
/-- f(e, .., k = v, ..) -/
theorem pe_gK {j : Nat} (c : Gk X.prog X.w X.K X.mg X.base k x n ks gV sp) (hG : X.A.guards = some []) (hr : Room j X.A) (hk : k ≤ j) (hg : Gl X x) (ha : PA X (e :: es) t) (hkw : PK X kws tk)
    (hall : (backToKw pos (keywordEach kws X.env)).all (·.1.isSome) = true := by rfl) (hks : (backToKw pos (keywordEach kws X.env)).filterMap (·.1) = ks := by rfl) (hdb : (x == ("__debug__" : Str)) = false := by decide)
    (he : starEach (e :: es) X.env = (false, eval e X.env) :: starEach es X.env := by rfl) (hpl : ((backTo pos (starEach (e :: es) X.env)).any (·.1) || (backToKw pos (keywordEach kws X.env)).any (·.1.isNone)) = false := by rfl) :
    PE X (.Call (.Name x p) (e :: es) kws pos) (tCallG n ks.length sp gV t tk) := by
  obtain ⟨f, fd, ps, g, F, hm, kp, hb⟩ := c.ex
  refine ⟨fun pins s σ H Q I h => ?_⟩
  refine wpAny_Call_Name_kw (ld_glob I hg hm ?_ hdb)
  refine PySem.W.callWith_KW (h₀ := X.base) I.ok.mod.kin kp hall (thn (ha.run pos pins s σ H _ I h) fun us s1 ⟨vs, H1, I1, r, q⟩ => ?_) hpl he
  refine thn (hkw.run pos pins s1 σ H1 _ I1 q) fun ws s2 ⟨zs, H2, I2, rz, l1, l2, q2⟩ => ⟨I2.kIn, ?_⟩
  rw [hks]
  exact run_fnG F hG (hr.mono hk) hb pass0 I2 r rz l1 l2 q2
end

/-! ### i *= j of great ints -/
def ipC (C : Int → Int → Prop) (f : Int → Int → Int) : TIp := fun x y H Q => ∃ i j, x = .int i ∧ y = .int j ∧ C i j ∧ Q (.int (f i j)) H
section
variable {X : Cx}
theorem ip_mulW : PIp X .Mult (ipC CMulW fun i j => i * j) := by
  intro pins s σ H x y v u Q I r1 r2 h
  obtain ⟨i, j, e1, e2, hc, q⟩ := h
  subst e1; subst e2
  obtain ⟨t, rfl⟩ := r1
  obtain ⟨t', rfl⟩ := r2
  exact imul_int ⟨.int _, H, I.tok _, ⟨_, rfl⟩, q⟩ hc.ok
/-! ### text * int -/
theorem foldl_repN (l : List Nat) : ∀ (n : Nat) (acc : List Nat), List.foldl (fun x1 x2 => x1 ++ x2) acc.toArray (List.replicate n l.toArray) = (acc ++ (List.replicate n l).flatten).toArray
  | 0, acc => by simp
  | n + 1, acc => by
    rw [List.replicate_succ, List.foldl_cons, List.append_toArray, foldl_repN l n (acc ++ l), List.replicate_succ, List.flatten_cons, List.append_assoc]
theorem op_repS : OpR X (binaryOp .Mult) (fun x y H Q => ∃ (z : Str) (n : Nat), x = .str z ∧ y = .int (n : Int) ∧ 2 ≤ n ∧ z.length ≠ 0 ∧ z.length * n ≤ 100000 ∧ Q (.str ⟨(List.replicate n z.cps.toList).flatten.toArray⟩) H) := by
  intro pins s σ H x y v u Q I r1 r2 h
  obtain ⟨z, n, e1, e2, h1, h3, h4, q⟩ := h
  subst e1; subst e2
  obtain ⟨t, rfl⟩ := r1
  obtain ⟨t', rfl⟩ := r2
  have hn : ¬ (n : Int) < 1 := by omega
  have hz1 : 1 ≤ z.length := Nat.pos_of_ne_zero h3
  have hn2 : n ≤ 100000 := Nat.le_trans (Nat.le_mul_of_pos_left n hz1) h4
  have hb : ((n : Int) == 1 || z.length == 0) = false := by
    have a : ((n : Int) == 1) = false := beq_eq_false_iff_ne.mpr (by omega)
    have b : (z.length == 0) = false := beq_eq_false_iff_ne.mpr h3
    rw [a, b]
    rfl
  have hsz : z.length * n ≤ sizeLine := zs h4
  have f0 : List.foldl (fun x1 x2 => x1 ++ x2) #[] (List.replicate n z.cps) = (List.replicate n z.cps.toList).flatten.toArray := by
    have := foldl_repN z.cps.toList n []
    rw [List.nil_append, Array.toArray_toList] at this
    exact this
  have hl : (⟨(List.replicate n z.cps.toList).flatten.toArray⟩ : Str).length = n * z.length := by
    show ((List.replicate n z.cps.toList).flatten.toArray).size = n * z.length
    rw [List.size_toArray, List.length_flatten, List.map_replicate, List.sum_replicate_nat, Array.length_toList]
    rfl
  refine PySem.P.mul_str ?_ (fun _ _ => ?_) (fun _ _ => ?_) ?_
  · have a : ¬ (n : Int) < -(2 ^ 63 : Int) := by omega
    have b : ¬ (n : Int) ≥ 2 ^ 63 := by omega
    rw [decide_eq_false a, decide_eq_false b]
    rfl
  · have h5 : (z.length : Int) * (n : Int) ≤ 100000 := by
      have := Int.ofNat_le.mpr h4
      rwa [Int.natCast_mul] at this
    have := (Int.le_ediv_iff_mul_le (show (0 : Int) < n by omega)).mpr (show (z.length : Int) * (n : Int) ≤ 2 ^ 63 - 1 by omega)
    omega
  · have e : (n : Int).toNat = n := rfl
    rw [e]
    unfold Builtin.Str.tooLong
    exact decide_eq_false (by omega)
  · rw [if_neg hn, hb, if_neg Bool.false_ne_true]
    have e : (n : Int).toNat = n := rfl
    rw [e, f0]
    exact ⟨by rw [hl]; rw [Nat.mul_comm]; exact hsz, .str _, H, I.tok _, ⟨_, rfl⟩, q⟩
end
/-! ### math.factorial, math.comb -/
def facN : Nat → Nat
  | 0 => 1
  | n + 1 => facN n * (n + 1)
theorem fac_eq : ∀ n : Nat, Builtin.Math.factorialNat n = facN n
  | 0 => rfl
  | n + 1 => by
    have e : Builtin.Math.factorialNat (n + 1) = Builtin.Math.factorialNat n * (n + 1) := by
      unfold Builtin.Math.factorialNat
      rw [List.range_succ, List.foldl_append]
      rfl
    rw [e, fac_eq n]
    rfl
theorem fac_lt : ∀ n : Nat, n ≤ 1000 → facN n < 2 ^ (10 * n + 1)
  | 0, _ => by decide
  | n + 1, h => by
    have z := fac_lt n (by omega)
    have e : 10 * (n + 1) + 1 = (10 * n + 1) + 10 := by omega
    show facN n * (n + 1) < _
    rw [e, Nat.pow_add]
    exact Nat.mul_lt_mul_of_lt_of_le z (by have : (2 : Nat) ^ 10 = 1024 := by decide
                                           omega) (by decide)
def rFac : List V → Hp → VK → Prop := fun vs H Q => ∃ n : Nat, vs = [.int (n : Int)] ∧ n ≤ 1000 ∧ Q (.int ((facN n : Nat) : Int)) H
theorem cr_fac {X : Cx} : CallR X (.builtin "math.factorial") rFac := by
  intro pins s σ H vs us Q I r h
  obtain ⟨n, rfl, hn, q⟩ := h
  obtain ⟨u, rfl, t, rfl⟩ := vals1 r
  have hl := fac_lt n hn
  have e : Builtin.Math.factorialNat (n : Int).toNat = facN n := fac_eq n
  refine PySem.W.mg_factorial (by show ¬ (n : Int) > 2 ^ 63 - 1; omega) (by omega) (by show ¬ (n : Int) > 20000; omega) ?_ ?_
  · rw [e]
    show (facN n).log2 < bitsLine
    have b := PySem.Flt.log2_lt_of (by omega : 0 < 10 * n + 1) hl
    have e2 : bitsLine = 134217728 := by decide
    rw [e2]
    omega
  · rw [e]
    exact ⟨.int _, H, I.tok _, ⟨_, rfl⟩, q⟩
/-! ### lists of great ints as text -/
theorem shown_big {ns : List Int} (hb : ∀ n ∈ ns, n.natAbs.log2 < 1920) (hl : ns.length ≤ 40) : (dI ns).shown.length ≤ sizeLine := by
  show (textFrom 0 "[" (PyData.shownAll (ns.map PyData.int)) ++ ("]" : Str)).length ≤ sizeLine
  rw [Str.length_append]
  have z := textFrom_le (PyData.shownAll (ns.map PyData.int)) 0 "[" 1921 (fun t ht => by
    obtain ⟨n, hn, e⟩ := shownAll_mem ns t ht
    rw [e]
    exact PyProof.Rows.int_text_len_1921 (hb n hn))
  rw [shownAll_len] at z
  have e1 : ("[" : Str).length = 1 := rfl
  have e2 : ("]" : Str).length = 1 := rfl
  rw [e1] at z
  rw [e2]
  exact zs (by omega)
theorem rrepr_big {K : PySem.W.Frag} {H : Hp} {a : Addr} {ns : List Int} {Q : VK} (hS : SqL K H a (ns.map V.int)) (hb : ∀ n ∈ ns, n.natAbs.log2 < 1920) (hl : ns.length ≤ 40) (q : Q (.str (dI ns).shown) H) : rRepr K [.ref a] H Q :=
  ⟨a, dI ns, rfl, dp_ints hS, show_ints ns hb, noDict_ints ns, rI2 ns, shown_big hb hl, q⟩
theorem log_nat {n k : Nat} (h : n < 2 ^ k) (h0 : 0 < k) (hk : k ≤ 1920) : ((n : Nat) : Int).natAbs.log2 < 1920 := Nat.lt_of_lt_of_le (PySem.Flt.log2_lt_of h0 (show ((n : Nat) : Int).natAbs < 2 ^ k from h)) hk
end Lp
set_option Elab.async false
set_option linter.all false
set_option maxRecDepth 100000
namespace Lp
open PySem PySem.Spec PyProof.Rows L2
theorem filtG {α : Type} {l : List α} {f : α → Bool} {i : Nat} {e : α} (he : l[i]? = some e) : (l.take (i + 1)).filter f = (l.take i).filter f ++ (if f e = true then [e] else []) := by
  rw [take_get he, List.filter_append]
  congr 1
  simp only [List.filter_cons, List.filter_nil]
theorem filtG_len {α : Type} {l : List α} {f : α → Bool} (i : Nat) : ((l.take i).filter f).length ≤ l.length := Nat.le_trans (List.length_filter_le _ _) (by rw [List.length_take]; exact Nat.min_le_right _ _)
theorem inVI (x : Int) : ∀ ns : List Int, inV (.int x) (ns.map V.int) = decide (x ∈ ns)
  | [] => rfl
  | n :: r => by
    show (eqV (.int n) (.int x) || inV (.int x) (r.map V.int)) = _
    rw [inVI x r]
    show ((n == x) || decide (x ∈ r)) = _
    by_cases e : n = x
    · subst e
      simp
    · have e' : ¬ x = n := fun z => e z.symm
      simp [e, e']
theorem flatI (ns : List Int) : (ns.map V.int).all flatV = true := by
  rw [List.all_eq_true]
  intro v hv
  obtain ⟨n, _, rfl⟩ := List.mem_map.mp hv
  rfl
theorem notInT {x : Int} {ns : List Int} (h : x ∉ ns) : V.bl (if true = true then !inV (.int x) (ns.map V.int) else inV (.int x) (ns.map V.int)) = V.bl true := by
  rw [if_pos rfl, inVI, decide_eq_false h]
  rfl
theorem notInF {x : Int} {ns : List Int} (h : x ∈ ns) : V.bl (if true = true then !inV (.int x) (ns.map V.int) else inV (.int x) (ns.map V.int)) = V.bl false := by
  rw [if_pos rfl, inVI, decide_eq_true h]
  rfl

/-! ### rows of ints in the heap -/
def RowsR (H : Hp) (rs : List V) (rows : List (List Int)) : Prop := rs.length = rows.length ∧ ∀ (i : Nat) (row : List Int), rows[i]? = some row → ∃ a, rs[i]? = some (.ref a) ∧ H a = some (.lst (row.map V.int))
theorem RowsR.same {H H' : Hp} {rs : List V} {rows : List (List Int)} (h : RowsR H rs rows) (s : Same H H') : RowsR H' rs rows := ⟨h.1, fun i row e => by
  obtain ⟨a, b, c⟩ := h.2 i row e
  exact ⟨a, b, s _ _ c⟩⟩
theorem RowsR.upd {H : Hp} {rs : List V} {rows : List (List Int)} {q : Addr} {o : HO} (h : RowsR H rs rows) (n : V.ref q ∉ rs) : RowsR (upd H q o) rs rows := ⟨h.1, fun i row e => by
  obtain ⟨a, b, c⟩ := h.2 i row e
  have ne : a ≠ q := fun z => n (by rw [← z]; exact List.mem_of_getElem? b)
  refine ⟨a, b, ?_⟩
  rw [upd_ne ne]
  exact c⟩
theorem RowsR.nil (H : Hp) : RowsR H [] [] := ⟨rfl, fun i row e => by simp at e⟩
theorem RowsR.app {H : Hp} {rs ss : List V} {rows sows : List (List Int)} (h : RowsR H rs rows) (g : RowsR H ss sows) : RowsR H (rs ++ ss) (rows ++ sows) := by
  refine ⟨by rw [List.length_append, List.length_append, h.1, g.1], fun i row e => ?_⟩
  by_cases hi : i < rows.length
  · rw [List.getElem?_append_left hi] at e
    rw [List.getElem?_append_left (by rw [h.1]; exact hi)]
    exact h.2 i row e
  · rw [List.getElem?_append_right (by omega)] at e
    rw [List.getElem?_append_right (by rw [h.1]; omega), h.1]
    exact g.2 _ row e
theorem RowsR.one {H : Hp} {a : Addr} {row : List Int} (h : H a = some (.lst (row.map V.int))) : RowsR H [.ref a] [row] := ⟨rfl, fun i r e => by
  cases i with
  | zero => cases e; exact ⟨a, rfl, h⟩
  | succ i => simp at e⟩
theorem RowsR.dp {K : PySem.W.Frag} {H : Hp} : ∀ {rs : List V} {rows : List (List Int)}, RowsR H rs rows → DpAll K H rs (rows.map dI)
  | [], [], _ => .nil
  | [], _ :: _, h => absurd h.1 (by simp)
  | _ :: _, [], h => absurd h.1 (by simp)
  | v :: rs, r :: rows, h => by
    obtain ⟨a, b, c⟩ := h.2 0 r rfl
    have e : v = .ref a := Option.some.inj b
    subst e
    exact .cons (dp_ints (.of c)) (RowsR.dp ⟨Nat.succ.inj h.1, fun i row e => h.2 (i + 1) row e⟩)
theorem flatMap_take_len {α β : Type} {f : α → List β} (l : List α) (j : Nat) : ((l.take j).flatMap f).length ≤ (l.flatMap f).length := by
  have e : l.flatMap f = (l.take j).flatMap f ++ (l.drop j).flatMap f := by rw [← List.flatMap_append, List.take_append_drop]
  rw [e, List.length_append]
  omega
theorem flatMap_take_succ {α β : Type} {f : α → List β} {l : List α} {j : Nat} {x : α} (h : l[j]? = some x) : (l.take (j + 1)).flatMap f = (l.take j).flatMap f ++ f x := by
  rw [take_get h, List.flatMap_append]
  simp
end Lp
set_option Elab.async false
set_option linter.all false
set_option maxRecDepth 100000
namespace Lp
open PySem PySem.Spec PyProof.Rows L2
theorem rgc_two (n : Nat) (h : n ≤ 1000) : RgC 1 (2 * (n : Int)) 2 n := by
  have hs : Builtin.Range.rangeSize 1 (2 * (n : Int)) 2 = (n : Int) := by
    unfold Builtin.Range.rangeSize
    rw [if_pos (by decide)]
    by_cases h0 : n = 0
    · subst h0
      rw [if_neg (by omega)]
      rfl
    · rw [if_pos (by omega)]
      omega
  refine ⟨by decide, by decide, ?_, hs⟩
  unfold Builtin.Range.small
  rw [hs]
  have f : ∀ z : Int, -1000000 ≤ z → z ≤ 1000000 → Builtin.Range.rangeFitsLong z = true := fun z a b => by
    unfold Builtin.Range.rangeFitsLong
    rw [decide_eq_true (show -2 ^ 63 ≤ z by omega), decide_eq_true (show z < 2 ^ 63 by omega)]
    rfl
  rw [f 1 (by decide) (by decide), f (2 * (n : Int)) (by omega) (by omega), f 2 (by decide) (by decide), f (n : Int) (by omega) (by omega), if_pos (by decide), f (2 * (n : Int) + (2 - 1)) (by omega) (by omega), Bool.or_true]
  rfl
/-! ### lists of objects in the heap -/
def ObjR {α : Type} (o : α → HO) (H : Hp) (rs : List V) (l : List α) : Prop := rs.length = l.length ∧ ∀ (i : Nat) (x : α), l[i]? = some x → ∃ a, rs[i]? = some (.ref a) ∧ H a = some (o x)
section
variable {α : Type} {o : α → HO} {H H' : Hp} {rs ss : List V} {l m : List α}
theorem ObjR.same (h : ObjR o H rs l) (s : Same H H') : ObjR o H' rs l := ⟨h.1, fun i x e => by
  obtain ⟨a, b, c⟩ := h.2 i x e
  exact ⟨a, b, s _ _ c⟩⟩
theorem ObjR.upd {q : Addr} {u : HO} (h : ObjR o H rs l) (n : V.ref q ∉ rs) : ObjR o (upd H q u) rs l := ⟨h.1, fun i x e => by
  obtain ⟨a, b, c⟩ := h.2 i x e
  have ne : a ≠ q := fun z => n (by rw [← z]; exact List.mem_of_getElem? b)
  refine ⟨a, b, ?_⟩
  rw [upd_ne ne]
  exact c⟩
theorem ObjR.nil : ObjR o H [] [] := ⟨rfl, fun i x e => by simp at e⟩
theorem ObjR.app (h : ObjR o H rs l) (g : ObjR o H ss m) : ObjR o H (rs ++ ss) (l ++ m) := by
  refine ⟨by rw [List.length_append, List.length_append, h.1, g.1], fun i x e => ?_⟩
  by_cases hi : i < l.length
  · rw [List.getElem?_append_left hi] at e
    rw [List.getElem?_append_left (by rw [h.1]; exact hi)]
    exact h.2 i x e
  · rw [List.getElem?_append_right (by omega)] at e
    rw [List.getElem?_append_right (by rw [h.1]; omega), h.1]
    exact g.2 _ x e
theorem ObjR.one {a : Addr} {x : α} (h : H a = some (o x)) : ObjR o H [.ref a] [x] := ⟨rfl, fun i r e => by
  cases i with
  | zero => cases e; exact ⟨a, rfl, h⟩
  | succ i => simp at e⟩
end
theorem rep_one (b : Bool) (v : V) : (List.replicate (if b = true then (1 : Int) else 0).toNat [v]).flatten = if b = true then [v] else [] := by cases b <;> rfl
theorem rep_sz (b : Bool) (v : V) : [v].length * (if b = true then (1 : Int) else 0).toNat ≤ sizeLine := by
  cases b
  · exact Nat.zero_le _
  · exact Lp.zs (show 1 * 1 ≤ 100000 by decide)
theorem ifs_len (b : Bool) (v : V) : (if b = true then [v] else []).length ≤ 1 := by
  cases b
  · exact Nat.zero_le _
  · exact Nat.le_refl _
theorem ints_get {ns : List Int} {i : Nat} {n : Int} (h : ns[i]? = some n) : (ns.map V.int)[i]? = some (.int n) := by rw [List.getElem?_map, h]; rfl
end Lp
set_option Elab.async false
set_option linter.all false
set_option maxRecDepth 100000
namespace Lp
open PySem PySem.Spec PyProof.Rows L2
/-! ### lists of ints, by < -/
theorem firstLt_map (e r : Nat → Bool) (fin : Bool) (f : Nat → Nat) : ∀ l : List Nat, SeqAt.firstLt e r fin (l.map f) = SeqAt.firstLt (fun j => e (f j)) (fun j => r (f j)) fin l
  | [] => rfl
  | j :: t => by
    show (if e (f j) = true then SeqAt.firstLt e r fin (t.map f) else r (f j)) = (if e (f j) = true then SeqAt.firstLt (fun j => e (f j)) (fun j => r (f j)) fin t else r (f j))
    rw [firstLt_map e r fin f t]
theorem first_lex : ∀ ns ms : List Int, SeqAt.firstLt (fun j => ns.getD j 0 == ms.getD j 0) (fun j => decide (ns.getD j 0 < ms.getD j 0)) (decide (ns.length < ms.length)) (List.range (min ns.length ms.length)) = HT.lexLt ns ms
  | [], [] => rfl
  | [], _ :: _ => rfl
  | _ :: _, [] => rfl
  | n :: ns, m :: ms => by
    have e : min (n :: ns).length (m :: ms).length = min ns.length ms.length + 1 := by
      simp only [List.length_cons]
      omega
    have e2 : decide ((n :: ns).length < (m :: ms).length) = decide (ns.length < ms.length) := decide_eq_decide.mpr (by simp only [List.length_cons]; omega)
    rw [e, e2, List.range_succ_eq_map]
    show (if (n == m) = true then SeqAt.firstLt _ _ _ ((List.range (min ns.length ms.length)).map Nat.succ) else decide (n < m)) = if n = m then HT.lexLt ns ms else decide (n < m)
    rw [firstLt_map]
    by_cases h : n = m
    · rw [if_pos (beq_iff_eq.mpr h), if_pos h]
      exact first_lex ns ms
    · rw [if_neg (fun z => h (beq_iff_eq.mp z)), if_neg h]
def IsLs (h : Heap) (v : Value) (ns : List Int) : Prop := ∃ (a : Addr) (items : List Value), v = .ref a ∧ h.IsList a items.toArray ∧ IntsAre items ns
theorem IsLs.keeps {h h' : Heap} {v : Value} {ns : List Int} (x : IsLs h v ns) (k : ∀ b o, v = .ref b → h.get? b = some o → h'.get? b = some o) : IsLs h' v ns := by
  obtain ⟨a, its, rfl, ⟨o, ho, hc, n, hd⟩, hi⟩ := x
  exact ⟨a, its, rfl, ⟨o, k a o rfl ho, hc, n, hd⟩, hi⟩
theorem ints_at : ∀ {us : List Value} {ns : List Int}, IntsAre us ns → ∀ j (h : j < us.length), ∃ t, us[j] = .int (ns.getD j 0) t
  | _, _, .cons n t r, 0, _ => ⟨t, rfl⟩
  | _, _, .cons n t r, j + 1, h => by
    obtain ⟨u, e⟩ := ints_at r j (Nat.lt_of_succ_lt_succ h)
    exact ⟨u, e⟩
section
variable {prog : Program} {w : World} {A : Around} {E : Value → Shared → Prop} {s : Shared}
theorem rcLt_int (A : Around) (s : Shared) (a : Int) (t : Tok) (b : Int) (u : Tok) : SeqAt.RcLt A s (.int a t) (.int b u) (decide (a < b)) := fun prog w E Q h => by
  have z : wpAny (model prog w) A (compareOp .Lt (.int a t) (.int b u)) Q E s := lt_int h
  exact z
theorem lt_ls {v u : Value} {ns ms : List Int} {Q : Bool → Shared → Prop} (hu : A.units < cLine) (hv : IsLs s.heap v ns) (hw : IsLs s.heap u ms) (h : Q (HT.lexLt ns ms) s) : wpAny (model prog w) A (keyLt' oneType' v u) Q E s := by
  obtain ⟨a, its, rfl, la, ia⟩ := hv
  obtain ⟨b, its2, rfl, lb, ib⟩ := hw
  have l1 := ia.length
  have l2 := ib.length
  rw [keyLt'_oneType, oneLt'_eq]
  simp only [if_true]
  refine wpAny_bind (wpAny_cRoomFor hu ?_)
  refine wpAny_bind (wpAny_callSpecialIfBound?_slot la.typeIs PySem.F.slot_list_lt (SeqAt.call_list_lt (e := fun j => ns.getD j 0 == ms.getD j 0) (r := fun j => decide (ns.getD j 0 < ms.getD j 0)) la lb (fun j h1 h2 => ?_) (fun j h1 h2 _ => ?_) ?_))
  · obtain ⟨t, e⟩ := ints_at ia j (by simpa using h1)
    obtain ⟨t', e'⟩ := ints_at ib j (by simpa using h2)
    rw [List.getElem_toArray, List.getElem_toArray, e, e']
    exact SeqAt.EqAt.int_int _ t _ t'
  · obtain ⟨t, e⟩ := ints_at ia j (by simpa using h1)
    obtain ⟨t', e'⟩ := ints_at ib j (by simpa using h2)
    rw [List.getElem_toArray, List.getElem_toArray, e, e']
    exact rcLt_int _ _ _ t _ t'
  · rw [List.size_toArray, List.size_toArray, l1, l2, first_lex]
    exact wpAny_truthy_bool h
theorem ls_cmp {vs : List Value} {k : Value → List Int} (hu : A.units < cLine) (hv : ∀ v ∈ vs, IsLs s.heap v (k v)) : SrtO.Cmp prog w A s oneType' (fun p => p.1 ∈ vs) (SrtO.lt2 fun v u => HT.lexLt (k v) (k u)) := by
  intro p q hp hq
  exact lt_ls (Q := fun r s' => s' = s ∧ r = HT.lexLt (k p.1) (k q.1)) (E := fun _ _ => False) hu (hv p.1 hp) (hv q.1 hq) ⟨rfl, rfl⟩
theorem ls_sortable {a : Addr} {vs : List Value} {k : Value → List Int} (h2 : 2 ≤ vs.length) (hu : A.units < cLine) (hv : ∀ v ∈ vs, IsLs s.heap v (k v)) (ha : ∀ v ∈ vs, v ≠ .ref a) :
    SrtO.SortableO prog w A s a vs fun v u => HT.lexLt (k v) (k u) := by
  intro h' keep
  have hv' : ∀ v ∈ vs, IsLs h' v (k v) := fun v hm => (hv v hm).keeps fun b o e g => keep b o (fun z => ha v hm (by rw [e, z])) g
  refine ⟨oneType', fun Q E hq => ?_, ls_cmp (s := { s with heap := h' }) hu hv'⟩
  refine PySem.W.kas_kind (s := { s with heap := h' }) (T := .type "list") h2 (fun v hm => ?_) (by rfl) (by simp) hq
  obtain ⟨a, its, rfl, ⟨o, ho, hc, n, hd⟩, hi⟩ := hv' v hm
  rw [← hc]
  exact (PySem.W.Looks.ld ho).andThen .now
end
/-- sorted(xs), xs a list of lists of ints of any length (k says which) -/
def rSortedLL (K : PySem.W.Frag) : List V → Hp → VK → Prop := fun vs H Q => ∃ (a : Addr) (xs : List V) (k : V → List Int), vs = [V.ref a] ∧ SqL K H a xs ∧ (∀ x ∈ xs, ∃ t, x = V.ref t ∧ SqL K H t ((k x).map V.int)) ∧
  ∀ ys p, ys.Perm xs → ys.Pairwise (fun x y => HT.lexLt (k y) (k x) = false) → H p = none → Q (.ref p) (upd H p (.lst ys))
theorem cr_sortedLL {X : Cx} (hu : X.A.units + 64 < cLine) : CallR X (.builtin "sorted") (rSortedLL X.K) := by
  intro pins s σ H vs us Q I r h
  obtain ⟨a, xs, k, rfl, hs, hx, q⟩ := h
  obtain ⟨its, rv, hl, hz⟩ := I.list hs
  obtain ⟨u, rfl, ru⟩ := vals1 r
  obtain rfl : u = Value.ref a := ru
  obtain ⟨e1, e2⟩ := refs_back rv fun x m => by
    obtain ⟨t, e, _⟩ := hx x m
    exact ⟨t, e⟩
  have hv : ∀ v ∈ its, IsLs s.heap v (k (backV v)) := fun v hv => by
    obtain ⟨t, rfl⟩ := e2 v hv
    have hm : V.ref t ∈ xs := by rw [e1]; exact List.mem_map.mpr ⟨_, hv, rfl⟩
    obtain ⟨t', e, ht⟩ := hx _ hm
    cases e
    obtain ⟨its2, r2, l2, _⟩ := I.list ht
    exact ⟨t, its2, rfl, l2.isList, r2.ints⟩
  refine SrtO.sorted_ord (NtL.swo_lexL fun u => k (backV u)) hl.isList (by rw [← rv.length]; exact hz) (fun h2 h₁ a' g keep => ls_sortable h2 (by show X.A.units + 1 + 1 < cLine; omega) (fun v hm => (hv v hm).keeps fun b o _ g => (keep b o g).2) fun v hm z => ?_) fun out h1 h2 => ?_
  · obtain ⟨b, its3, e, ⟨o, ho, _⟩, _⟩ := hv v hm
    rw [z] at e
    cases e
    exact (keep _ o ho).1 rfl
  · have h3 : ∀ u ∈ out, ∃ a, u = Value.ref a := fun u hu => e2 u (h2.perm.mem_iff.mp hu)
    obtain ⟨ep, he'⟩ := PyProof.Rows.sortedAll_at s.heap its out.toArray
    have hp : (out.map backV).Perm xs := by
      rw [e1]
      exact h2.perm.map backV
    have hlen : (out.map backV).length ≤ sizeLine := by
      rw [hp.length_eq]
      exact hz
    exact ⟨.ref _, upd H (s.heap.objs.size + 1) (.lst (out.map backV)), I.laid (t' := s.toks) (fun _ _ => PyProof.Rows.sortedAll_old) (Nat.le_succ _) ⟨hlen, out, ep, vals_back h3, he'⟩, rfl, q _ _ hp (List.pairwise_map.mpr (h1.imp fun {x y} z => z)) (I.hok.fresh (Nat.le_succ _))⟩
end Lp
set_option Elab.async false
set_option linter.all false
set_option maxRecDepth 100000
namespace Lp
open PySem PySem.Spec PyProof.Rows L2
theorem all_bounds (n : Nat) : PySem.sliceBounds none none none n = (0, (n : Int), 1) := by
  simp [PySem.sliceBounds]
section
variable {prog : Program} {w : World} {A : Around} {E : Value → Shared → Prop} {s : Shared}
/-- xs[:] = ys -/
theorem whole_set {p q z : Addr} {old new : Array Value} {n1 n2 : Nat} {R : Unit → Shared → Prop} (hp : s.heap.get? p = some { cls := .type "list", data := .seq old n1 }) (hq : s.heap.get? q = some { cls := .type "list", data := .seq new n2 })
    (npq : p ≠ q) (hz : s.heap.IsSliceOf z .none .none .none) (fit : old.size + new.size ≤ sizeLine) (h : R () { s with heap := s.heap.update p (Obj.mapSeq fun xs => xs.extract 0 0 ++ new ++ xs.extract old.size xs.size) }) :
    wpAny (model prog w) A (setItem (.ref p) (.ref z) (.ref q)) R E s := by
  have tp : s.heap.IsList p old := PySem.IsL.isList hp
  have tq : s.heap.IsList q new := PySem.IsL.isList hq
  obtain ⟨oz, goz, coz, doz⟩ := id hz
  have tz : s.TypeIs (.ref z) "slice" := ⟨oz, goz, coz⟩
  have noZero : ¬ ((rawPart none == rawInt 0) = true) := Bool.false_ne_true
  have two : Builtin.List.listSameRef (.ref p) (.ref q) = false := by unfold Builtin.List.listSameRef; exact beq_eq_false_iff_ne.mpr npq
  have upper : (max (0 : Int) (old.size : Int)).toNat = old.size := by omega
  have fit' : ((fun xs : Array Value => xs.extract 0 0 ++ new ++ xs.extract old.size xs.size) old).size ≤ sizeLine + 1 := by simp only [Array.size_append, Array.size_extract]; omega
  unfold setItem; try with_reducible refine wpAny_holding ?_
  first | refine wpAny_bind (wpAny_pure ?_) | skip
  refine wpAny_bind (wpAny_sequenceKey tp.typeIs (by decide) (wpAny_bind (wpAny_callSpecial?_slot (name := Str.ofString "__setitem__") tp.typeIs slot_list_setitem (wpAny_call_entry slot_list_setitem tp.typeIs entry_list_setitem ?_ (args_list_setitem _ _ _)))))
  show wpAny _ _ (Builtin.List.listSubscript? (.ref z) >>= _) _ _ s
  refine wpAny_bind ?_
  unfold Builtin.List.listSubscript?
  refine wpAny_bind (wpAny_specialOf tz slice_no_index ?_)
  simp only [Option.isNone_none, if_true]
  refine wpAny_pure (?_ : wpAny _ _ (typeOf (.ref z) >>= _) _ _ s)
  refine wpAny_bind (wpAny_typeOf tz ?_)
  first | rw [if_neg (by decide)] | refine PySem.W.KFB.if_not (by decide) ?_
  rw [listSliceParts_eq]
  refine wpAny_bind (wpAny_bind (wpAny_field goz doz (x := .none) rfl (wpAny_bind (wpAny_listPart .none (?_ : wpAny _ _ _ _ _ _)))))
  rw [if_neg noZero]
  refine wpAny_bind (wpAny_field goz doz (x := .none) rfl (wpAny_bind (wpAny_listPart .none (wpAny_bind (wpAny_field goz doz (x := .none) rfl (wpAny_bind (wpAny_listPart .none (wpAny_pure ?_))))))))
  first | simp only [two, Bool.false_eq_true, if_false] | refine PySem.W.KFB.if_not two ?_ | (dsimp only; rw [if_neg (by rw [two]; exact Bool.false_ne_true)])
  refine wpAny_bind (m := Builtin.List.listAllItems (.ref q) "must assign iterable to extended slice") ?_
  unfold Builtin.List.listAllItems; refine wpAny_bind (wpAny_typeOf tq.typeIs ?_)
  first | refine PySem.W.KFB.if_so (by decide) ?_ | rw [if_pos (by decide)] | simp only [beq_self_eq_true, Bool.true_or, if_true]
  unfold Builtin.List.listItems; refine wpAny_bind (wpAny_seqItems hq rfl (wpAny_pure (wpAny_bind (wpAny_bind (wpAny_seqItems hp rfl (wpAny_pure ?_))))))
  refine wpAny_bind (wpAny_of_eq ((sliceIndices_raw none none none old.size (by simp)).trans (congrArg (pure : Int × Int × Int → Sem (Int × Int × Int)) (all_bounds old.size))) ?_)
  show wpAny _ _ (if ((1 : Int) == 1) = true then _ else _) _ _ s
  rw [if_pos (by decide)]; refine wpAny_bind (wpAny_rule ?_)
  first | simp only [notLongL fit, Bool.false_eq_true, if_false] | refine PySem.W.KFB.if_not (notLongL fit) ?_
  first | refine wpAny_bind (wpAny_pure ?_) | skip
  show wpAny _ _ (updateSeq p (fun xs => xs.extract 0 ((0 : Int)).toNat ++ new ++ xs.extract (max (0 : Int) (old.size : Int)).toNat xs.size) >>= _) _ _ s
  rw [upper]; refine wpAny_bind (wpAny_updateSeq (hz := Nat.le_trans (Nat.le_add_right _ _) fit) (_hz' := fit') hp rfl (wpAny_bind (wpAny_letGo ?_)))
  first | exact wpAny_bind (wpAny_pure (wpAny_pure ⟨.none, rfl, wpAny_pure h⟩)) | exact wpAny_pure ⟨.none, rfl, wpAny_pure h⟩
end
/-- the slice object of [:] -/
def SlO (a : Addr) : HO := .ext fun h => h.IsSliceOf a .none .none .none
section
variable {X : Cx} {pos : Pos}
def tSlAll : TE := fun _ H Q => ∀ p, H p = none → Q (.ref p) (upd H p (SlO p))
theorem pe_slAll : PE X (.Slice none none none pos) tSlAll := by
  refine ⟨fun pins s σ H Q I h => ?_⟩
  refine wpAny_Slice ?_
  rw [evalPart_none]
  refine wpAny_pure (wpAny_pure (wpAny_pure ?_))
  refine ⟨.ref s.heap.objs.size, upd H s.heap.objs.size (SlO s.heap.objs.size), I.laid (t' := s.toks) (fun b ob q => Heap.get?_push_of_some _ q) (Nat.le_refl _) ⟨Heap.IsSliceOf.new .., ⟨_, Heap.get?_push_size s.heap rfl⟩, fun h1 h2 x k => ?_⟩, rfl, h _ (I.hok.fresh (Nat.le_refl _))⟩
  obtain ⟨o, e, c, d⟩ := x
  exact ⟨o, k o e, c, d⟩
def sAll : TSet := fun x y z H Q => ∃ (l b sl : Addr) (xs ys : List V), x = .ref l ∧ y = .ref sl ∧ z = .ref b ∧ H sl = some (SlO sl) ∧ H l = some (.lst xs) ∧ H b = some (.lst ys) ∧ l ≠ b ∧ xs.length + ys.length ≤ sizeLine ∧ Q (upd H l (.lst ys))
theorem set_all : PSet X sAll := by
  intro pins s σ H o i v ov iv u Q I r1 r2 r3 h
  obtain ⟨l, b, sl, xs, ys, rfl, rfl, rfl, hsl, hl, hb, ne, hz, q⟩ := h
  cases r1
  cases r2
  cases r3
  obtain ⟨z, its, n, r, el, e⟩ := I.lstM hl
  obtain ⟨z2, its2, n2, r', el2, e2⟩ := I.lstM hb
  have os : ObjOk X.prog X.w H s.heap sl (SlO sl) := I.hok sl _ hsl
  refine whole_set e e2 ne os.1 (by rw [List.size_toArray, List.size_toArray]; omega) ⟨_, I.lset (its' := its2) (t' := s.toks) hl e ?_ r' (by omega), q⟩
  apply Array.toList_inj.mp
  simp
/-- xs[..] = as a target, a slice without a step -/
theorem pg_slAll {o i : Expr} {to ti : TE} {t : TSet} (ho : PE X o to) (hi : PE X i ti) (hs : PSet X t)
    (ha : ∀ v, assign (.Subscript o i pos) X.env v = (holding [v] (eval o X.env) >>= fun ov => holding [v, ov] (eval i X.env) >>= fun iv => standAt pos >>= fun _ => holding [v, ov, iv] (setItem ov iv v) >>= fun _ => release [iv, v, ov] []) := by intro _; rfl) : PG X (.Subscript o i pos) (gSub to ti t) := by
  refine ⟨fun pins s σ H v u Q I r h => ?_⟩
  rw [ha u]
  refine wpAny_bind (wpAny_holding (thn (ho.run pins s σ H _ I h) fun ov sA ⟨x, HA, IA, rA, qA⟩ => wpAny_bind (wpAny_holding (thn (hi.run pins sA σ HA _ IA qA) fun iv sB ⟨y, HB, IB, rB, qB⟩ =>
    wpAny_bind (wpAny_standAt (wpAny_bind (wpAny_holding (thn (hs pins sB σ HB x y v ov iv u _ IB rA rB r qB) fun _ sC ⟨HC, IC, qC⟩ => wpAny_release ⟨σ, HC, IC, qC⟩))))))))
end
end Lp
set_option Elab.async false
set_option linter.all false
set_option maxRecDepth 100000
namespace Lp
open PySem PySem.Calls
theorem comb_entry : entryFor table "math.comb" = some Builtin.«math.comb» := entryFor_of_tree (by kernel_rfl)
theorem comb_kind : builtinKind "math.comb" = none := by kernel_rfl
theorem comb_plain : plainId "math.comb" = true := by decide +kernel
theorem comb_args (a b : Value) : argsOk "math.comb" ⟨[a, b], []⟩ := by unfold argsOk; kernel_rfl
theorem comb_run (a : Int) (t : Tok) (b : Int) (u : Tok) (h0 : ¬ a < 0) (h1 : ¬ b < 0) (h2 : ¬ b > a) (h3 : ¬ min b (a - b) > Builtin.Math.maxSsize) (h4 : ¬ min b (a - b) > Builtin.Math.manyFactors) (h5 : ¬ min b (a - b) > 9000)
    (hs : (Builtin.Math.fallingProduct a (min b (a - b)).toNat / Builtin.Math.fallingProduct (min b (a - b)) (min b (a - b)).toNat).natAbs.log2 < bitsLine) :
    Gives (Builtin.«math.comb» ⟨[.int a t, .int b u], []⟩) (.int (Builtin.Math.fallingProduct a (min b (a - b)).toNat / Builtin.Math.fallingProduct (min b (a - b)) (min b (a - b)).toNat)) :=
  .of_wp fun M A E s Q h => by obtain ⟨hp, g, d, tk, os⟩ := s; wp_walk; (try (refine wpAny_ite_false (decide_eq_false (Nat.not_le.mpr hs)) ?_; wp_walk)); exact ⟨_, rfl, h⟩
end Lp
namespace Lp
open PySem PySem.Spec PySem.Calls PyProof.Rows L2
/-! ### binomial coefficients -/
theorem facN_pos' : ∀ n, 0 < facN n
  | 0 => by decide
  | n + 1 => Nat.mul_pos (facN_pos' n) (Nat.succ_pos n)
def chN (n k : Nat) : Nat := facN n / (facN k * facN (n - k))
def chP : Nat → Nat → Nat
  | _, 0 => 1
  | 0, _ + 1 => 0
  | n + 1, k + 1 => chP n k + chP n (k + 1)
theorem chP_zero (n : Nat) : chP n 0 = 1 := by cases n <;> rfl
theorem chP_gt : ∀ n k, n < k → chP n k = 0
  | 0, k + 1, _ => rfl
  | n + 1, k + 1, h => by
    show chP n k + chP n (k + 1) = 0
    rw [chP_gt n k (by omega), chP_gt n (k + 1) (by omega)]
theorem chP_self : ∀ n, chP n n = 1
  | 0 => rfl
  | n + 1 => by
    show chP n n + chP n (n + 1) = 1
    rw [chP_self n, chP_gt n (n + 1) (by omega)]
theorem chP_fac : ∀ n k, k ≤ n → chP n k * (facN k * facN (n - k)) = facN n
  | n, 0, _ => by
    rw [chP_zero, Nat.sub_zero]
    show 1 * (1 * facN n) = facN n
    rw [Nat.one_mul, Nat.one_mul]
  | n + 1, k + 1, h => by
    show (chP n k + chP n (k + 1)) * (facN k * (k + 1) * facN (n + 1 - (k + 1))) = facN n * (n + 1)
    have e : n + 1 - (k + 1) = n - k := by omega
    rw [e]
    have a := chP_fac n k (by omega)
    rcases Nat.lt_or_ge k n with hk | hk
    · have b := chP_fac n (k + 1) (by omega)
      have b2 : facN (n - k) = facN (n - (k + 1)) * (n - k) := by
        have e2 : n - k = (n - (k + 1)) + 1 := by omega
        rw [e2]
        rfl
      have x1 : chP n k * (facN k * (k + 1) * facN (n - k)) = facN n * (k + 1) := by
        rw [← a]
        simp only [Nat.mul_assoc, Nat.mul_comm, Nat.mul_left_comm]
      have x2 : chP n (k + 1) * (facN k * (k + 1) * facN (n - k)) = facN n * (n - k) := by
        rw [← b, b2]
        show _ = chP n (k + 1) * (facN k * (k + 1) * facN (n - (k + 1))) * (n - k)
        simp only [Nat.mul_assoc, Nat.mul_comm, Nat.mul_left_comm]
      rw [Nat.add_mul, x1, x2, ← Nat.mul_add]
      congr 1
      omega
    · have ek : k = n := by omega
      subst ek
      have x : chP k k * (facN k * (k + 1) * facN (k - k)) = chP k k * (facN k * facN (k - k)) * (k + 1) := by
        simp only [Nat.mul_assoc, Nat.mul_comm, Nat.mul_left_comm]
      rw [chP_gt k (k + 1) (by omega), Nat.add_zero, x, a]
theorem ch_eq {n k : Nat} (h : k ≤ n) : chN n k = chP n k := by
  unfold chN
  rw [← chP_fac n k h]
  exact Nat.mul_div_cancel _ (Nat.mul_pos (facN_pos' k) (facN_pos' _))
theorem ch_sym {n k : Nat} (h : k ≤ n) : chN n (n - k) = chN n k := by
  unfold chN
  have e : n - (n - k) = k := by omega
  rw [e, Nat.mul_comm]
theorem ch_le (n k : Nat) : chN n k ≤ facN n := Nat.div_le_self _ _
theorem fall_fac (n : Nat) : ∀ k, k ≤ n → Builtin.Math.fallingProduct (n : Int) k * ((facN (n - k) : Nat) : Int) = ((facN n : Nat) : Int)
  | 0, _ => by
    show 1 * _ = _
    rw [Int.one_mul, Nat.sub_zero]
  | k + 1, h => by
    have e : Builtin.Math.fallingProduct (n : Int) (k + 1) = Builtin.Math.fallingProduct (n : Int) k * ((n : Int) - (k : Int)) := by
      unfold Builtin.Math.fallingProduct
      rw [List.range_succ, List.foldl_append]
      rfl
    have ih := fall_fac n k (by omega)
    have e2 : facN (n - k) = facN (n - (k + 1)) * (n - k) := by
      have e3 : n - k = (n - (k + 1)) + 1 := by omega
      rw [e3]
      rfl
    rw [← ih, e, e2, Int.natCast_mul, Int.mul_assoc]
    congr 1
    rw [Int.mul_comm]
    congr 1
    omega
theorem comb_val {n k : Nat} (h : k ≤ n) : Builtin.Math.fallingProduct (n : Int) k / Builtin.Math.fallingProduct (k : Int) k = ((chN n k : Nat) : Int) := by
  have a := fall_fac n k h
  have b := fall_fac k k (Nat.le_refl k)
  have c := chP_fac n k h
  rw [Nat.sub_self] at b
  have b' : Builtin.Math.fallingProduct (k : Int) k = ((facN k : Nat) : Int) := by
    rw [← b]
    exact (Int.mul_one _).symm
  have fp : ((facN (n - k) : Nat) : Int) ≠ 0 := by
    have := facN_pos' (n - k)
    omega
  have a' : Builtin.Math.fallingProduct (n : Int) k = ((chP n k * facN k : Nat) : Int) := by
    refine Int.eq_of_mul_eq_mul_right fp ?_
    rw [a, ← c, ← Int.natCast_mul, Nat.mul_assoc]
  rw [a', b', ← Int.natCast_ediv, Nat.mul_div_cancel _ (facN_pos' k), ch_eq h]
def rComb : List V → Hp → VK → Prop := fun vs H Q => ∃ n k : Nat, vs = [.int (n : Int), .int (k : Int)] ∧ k ≤ n ∧ n ≤ 1000 ∧ Q (.int ((chN n k : Nat) : Int)) H
theorem cr_comb {X : Cx} : CallR X (.builtin "math.comb") rComb := by
  intro pins s σ H vs us Q I r h
  obtain ⟨n, k, rfl, hk, hn, q⟩ := h
  obtain ⟨t, u, rfl⟩ := Vals.int2 r
  obtain ⟨m, em, hm, ech⟩ : ∃ m : Nat, min (k : Int) ((n : Int) - (k : Int)) = (m : Int) ∧ m ≤ n ∧ chN n m = chN n k := by
    rcases Nat.le_total k (n - k) with c | c
    · exact ⟨k, by omega, hk, rfl⟩
    · exact ⟨n - k, by omega, by omega, ch_sym hk⟩
  have v : Builtin.Math.fallingProduct (n : Int) (min (k : Int) ((n : Int) - (k : Int))).toNat / Builtin.Math.fallingProduct (min (k : Int) ((n : Int) - (k : Int))) (min (k : Int) ((n : Int) - (k : Int))).toNat = ((chN n k : Nat) : Int) := by
    rw [em, Int.toNat_natCast, comb_val hm, ech]
  have fl := fac_lt n hn
  refine call_function_meets comb_kind comb_plain comb_entry (comb_args _ _) (comb_run (n : Int) t (k : Int) u (by omega) (by omega) (by omega) (by rw [em]; show ¬ (m : Int) > 2 ^ 63 - 1; omega) (by rw [em]; show ¬ (m : Int) > 20000; omega) (by omega) ?_).meets ?_
  · rw [v]
    show (chN n k).log2 < bitsLine
    have b := PySem.Flt.log2_lt_of (by omega : 0 < 10 * n + 1) (Nat.lt_of_le_of_lt (ch_le n k) fl)
    have e2 : bitsLine = 134217728 := by decide
    rw [e2]
    omega
  · rw [v]
    exact ⟨.int _, H, I.tok _, ⟨_, rfl⟩, q⟩
end Lp
set_option Elab.async false
set_option linter.all false
set_option maxRecDepth 100000
namespace L63
open PySem PySem.Spec PyProof.Rows L2 Lp
def topS (i : Nat) : Stmt := PySem.Challenge.pw_latepatches_k63_originals_counted.main.body.getD i (.Pass ⟨0, 0, 0, 0⟩)
abbrev s_is_integer : Stmt := topS 5
abbrev N_is_integer : List Str := ["value"]
theorem sc_is_integer : FnScope N_is_integer ["value"] (defScope s_is_integer) := ⟨rfl, rfl, rfl, by decide +kernel, rfl, by decide +kernel, by decide +kernel⟩
abbrev s_is_integer_within : Stmt := topS 6
abbrev N_is_integer_within : List Str := ["value", "least", "greatest"]
theorem sc_is_integer_within : FnScope N_is_integer_within ["value", "least", "greatest"] (defScope s_is_integer_within) := ⟨rfl, rfl, rfl, by decide +kernel, rfl, by decide +kernel, by decide +kernel⟩
abbrev s_check_number : Stmt := topS 7
abbrev N_check_number : List Str := ["value", "least", "greatest"]
theorem sc_check_number : FnScope N_check_number ["value", "least", "greatest"] (defScope s_check_number) := ⟨rfl, rfl, rfl, by decide +kernel, rfl, by decide +kernel, by decide +kernel⟩
abbrev s_count_original : Stmt := topS 10
abbrev N_count_original : List Str := ["patches", "arcs"]
theorem sc_count_original : FnScope N_count_original ["patches"] (defScope s_count_original) := ⟨rfl, rfl, rfl, by decide +kernel, rfl, by decide +kernel, by decide +kernel⟩
abbrev s_count_with_jump : Stmt := topS 11
abbrev N_count_with_jump : List Str := ["patches", "arcs"]
theorem sc_count_with_jump : FnScope N_count_with_jump ["patches", "arcs"] (defScope s_count_with_jump) := ⟨rfl, rfl, rfl, by decide +kernel, rfl, by decide +kernel, by decide +kernel⟩
abbrev s_check_patches : Stmt := topS 12
abbrev N_check_patches : List Str := ["patches"]
theorem sc_check_patches : FnScope N_check_patches ["patches"] (defScope s_check_patches) := ⟨rfl, rfl, rfl, by decide +kernel, rfl, by decide +kernel, by decide +kernel⟩
abbrev s_count_ways : Stmt := topS 13
abbrev N_count_ways : List Str := ["running", "unstarted"]
theorem sc_count_ways : FnScope N_count_ways ["running", "unstarted"] (defScope s_count_ways) := ⟨rfl, rfl, rfl, by decide +kernel, rfl, by decide +kernel, by decide +kernel⟩
abbrev s_law_pool : Stmt := topS 15
abbrev N_law_pool : List Str := ["script", "k", "cell"]
theorem sc_law_pool : FnScope N_law_pool ["script", "k"] (defScope s_law_pool) := ⟨rfl, rfl, rfl, by decide +kernel, rfl, by decide +kernel, by decide +kernel⟩
abbrev s_law_draw : Stmt := topS 16
abbrev N_law_draw : List Str := ["pool", "many", "digit", "mixed"]
theorem sc_law_draw : FnScope N_law_draw ["pool", "many"] (defScope s_law_draw) := ⟨rfl, rfl, rfl, by decide +kernel, rfl, by decide +kernel, by decide +kernel⟩
abbrev s_law_every : Stmt := topS 17
abbrev N_law_every : List Str := ["signs", "rows", "starts", "sign", "longer", "row", "able", "one"]
theorem sc_law_every : FnScope N_law_every ["signs"] (defScope s_law_every) := ⟨rfl, rfl, rfl, by decide +kernel, rfl, by decide +kernel, by decide +kernel⟩
abbrev s_law_shapes : Stmt := topS 18
abbrev N_law_shapes : List Str := ["n", "found", "turn", "longer", "signs", "starts", "running"]
theorem sc_law_shapes : FnScope N_law_shapes ["n"] (defScope s_law_shapes) := ⟨rfl, rfl, rfl, by decide +kernel, rfl, by decide +kernel, by decide +kernel⟩
abbrev s_law_all : Stmt := topS 19
abbrev N_law_all : List Str := ["n", "found", "signs"]
theorem sc_law_all : FnScope N_law_all ["n"] (defScope s_law_all) := ⟨rfl, rfl, rfl, by decide +kernel, rfl, by decide +kernel, by decide +kernel⟩
abbrev s_law_present : Stmt := topS 20
abbrev N_law_present : List Str := ["row", "present", "kept", "one"]
theorem sc_law_present : FnScope N_law_present ["row"] (defScope s_law_present) := ⟨rfl, rfl, rfl, by decide +kernel, rfl, by decide +kernel, by decide +kernel⟩
abbrev s_law_numbers : Stmt := topS 21
abbrev N_law_numbers : List Str := ["most", "found", "n"]
theorem sc_law_numbers : FnScope N_law_numbers ["most"] (defScope s_law_numbers) := ⟨rfl, rfl, rfl, by decide +kernel, rfl, by decide +kernel, by decide +kernel⟩
abbrev s_law_with_jump : Stmt := topS 22
abbrev N_law_with_jump : List Str := ["n", "t", "row", "turn", "due", "number", "at"]
theorem sc_law_with_jump : FnScope N_law_with_jump ["n", "t"] (defScope s_law_with_jump) := ⟨rfl, rfl, rfl, by decide +kernel, rfl, by decide +kernel, by decide +kernel⟩
abbrev s_law_jump : Stmt := topS 23
abbrev N_law_jump : List Str := ["row", "m", "many"]
theorem sc_law_jump : FnScope N_law_jump ["row"] (defScope s_law_jump) := ⟨rfl, rfl, rfl, by decide +kernel, rfl, by decide +kernel, by decide +kernel⟩
abbrev s_law_few_right : Stmt := topS 24
abbrev N_law_few_right : List Str := ["n", "rows", "left", "told", "row", "one", "t"]
theorem sc_law_few_right : FnScope N_law_few_right ["n"] (defScope s_law_few_right) := ⟨rfl, rfl, rfl, by decide +kernel, rfl, by decide +kernel, by decide +kernel⟩
abbrev s_law : Stmt := topS 25
abbrev N_law : List Str := ["script", "k", "pool", "numbers", "n", "one", "t", "due"]
theorem sc_law : FnScope N_law ["script"] (defScope s_law) := ⟨rfl, rfl, rfl, by decide +kernel, rfl, by decide +kernel, by decide +kernel⟩
end L63
set_option Elab.async false
set_option linter.all false
set_option maxRecDepth 100000
namespace L63
open PySem PySem.Spec PyProof.Rows L2 Lp
theorem eqvT {xs ys : List Int} (h : xs = ys) : V.bl (PyData.eqv (dI xs) (dI ys)) = V.bl true := by rw [eqv_ints, decide_eq_true h]
theorem eqvF {xs ys : List Int} (h : ¬ xs = ys) : V.bl (PyData.eqv (dI xs) (dI ys)) = V.bl false := by rw [eqv_ints, decide_eq_false h]
theorem neqT {xs ys : List Int} (h : ¬ xs = ys) : V.bl (!PyData.eqv (dI xs) (dI ys)) = V.bl true := by rw [eqv_ints, decide_eq_false h]; rfl
theorem neqF {xs ys : List Int} (h : xs = ys) : V.bl (!PyData.eqv (dI xs) (dI ys)) = V.bl false := by rw [eqv_ints, decide_eq_true h]; rfl
theorem nodup_len {l : List Int} : ∀ {m : List Int}, l.Nodup → (∀ x ∈ l, x ∈ m) → l.length ≤ m.length := by
  induction l with
  | nil => intro m _ _; exact Nat.zero_le _
  | cons x r ih =>
    intro m h s
    obtain ⟨h1, h2⟩ := List.nodup_cons.mp h
    have hx := s x List.mem_cons_self
    have z := ih (m := m.erase x) h2 fun y hy => (List.mem_erase_of_ne (fun e : y = x => h1 (e ▸ hy))).mpr (s y (List.mem_cons_of_mem _ hy))
    rw [List.length_erase_of_mem hx] at z
    have := List.length_pos_of_mem hx
    show r.length + 1 ≤ m.length
    omega
/-! ### signs -/
def stp (p : Nat × Nat) (b : Bool) : Nat × Nat := if b then (p.1, p.2 + 1) else (p.1 * p.2, p.2 - 1)
def wr (bs : List Bool) : Nat × Nat := bs.foldl stp (1, 0)
def waysN (bs : List Bool) : Nat := (wr bs).1
def runN (bs : List Bool) : Nat := (wr bs).2
def upsN (bs : List Bool) : Nat := bs.count true
def dnsN (bs : List Bool) : Nat := bs.count false
theorem wr_snoc (bs : List Bool) (b : Bool) : wr (bs ++ [b]) = stp (wr bs) b := by
  unfold wr
  rw [List.foldl_append]
  rfl
theorem ways_up (bs : List Bool) : waysN (bs ++ [true]) = waysN bs := by unfold waysN; rw [wr_snoc]; rfl
theorem ways_dn (bs : List Bool) : waysN (bs ++ [false]) = waysN bs * runN bs := by unfold waysN runN; rw [wr_snoc]; rfl
theorem run_up (bs : List Bool) : runN (bs ++ [true]) = runN bs + 1 := by unfold runN; rw [wr_snoc]; rfl
theorem run_dn (bs : List Bool) : runN (bs ++ [false]) = runN bs - 1 := by unfold runN; rw [wr_snoc]; rfl
theorem ups_up (bs : List Bool) : upsN (bs ++ [true]) = upsN bs + 1 := by unfold upsN; rw [List.count_append]; rfl
theorem ups_dn (bs : List Bool) : upsN (bs ++ [false]) = upsN bs := by unfold upsN; rw [List.count_append]; rfl
theorem dns_up (bs : List Bool) : dnsN (bs ++ [true]) = dnsN bs := by unfold dnsN; rw [List.count_append]; rfl
theorem dns_dn (bs : List Bool) : dnsN (bs ++ [false]) = dnsN bs + 1 := by unfold dnsN; rw [List.count_append]; rfl
/-- nowhere more stops than starts ahead -/
def SgOk (bs : List Bool) : Prop := ∀ i, bs[i]? = some false → 0 < runN (bs.take i)
theorem sgOk_nil : SgOk [] := fun i h => by simp at h
theorem SgOk.pre {bs : List Bool} {b : Bool} (h : SgOk (bs ++ [b])) : SgOk bs := fun i hi => by
  have hl := (List.getElem?_eq_some_iff.mp hi).1
  have z := h i (by rw [List.getElem?_append_left hl]; exact hi)
  rwa [List.take_append_of_le_length (Nat.le_of_lt hl)] at z
theorem SgOk.last {bs : List Bool} (h : SgOk (bs ++ [false])) : 0 < runN bs := by
  have z := h bs.length (by rw [List.getElem?_append_right (Nat.le_refl _), Nat.sub_self]; rfl)
  rwa [List.take_append_of_le_length (Nat.le_refl _), List.take_length] at z
theorem SgOk.snoc {bs : List Bool} {b : Bool} (h : SgOk bs) (hb : b = false → 0 < runN bs) : SgOk (bs ++ [b]) := fun i hi => by
  by_cases hl : i < bs.length
  · rw [List.getElem?_append_left hl] at hi
    rw [List.take_append_of_le_length (Nat.le_of_lt hl)]
    exact h i hi
  · have h2 := (List.getElem?_eq_some_iff.mp hi).1
    rw [List.length_append, List.length_singleton] at h2
    have e : i = bs.length := by omega
    subst e
    rw [List.getElem?_append_right (Nat.le_refl _), Nat.sub_self] at hi
    rw [List.take_append_of_le_length (Nat.le_refl _), List.take_length]
    exact hb (Option.some.inj hi)
theorem SgOk.take {bs : List Bool} (h : SgOk bs) (n : Nat) : SgOk (bs.take n) := fun i hi => by
  have hl := (List.getElem?_eq_some_iff.mp hi).1
  rw [List.length_take] at hl
  rw [List.getElem?_take_of_lt (by omega)] at hi
  rw [List.take_take, Nat.min_eq_left (by omega)]
  exact h i hi
/-- induction from the end -/
theorem snoc_ind {α : Type} {P : List α → Prop} (h0 : P []) (h1 : ∀ l a, P l → P (l ++ [a])) : ∀ l, P l := by
  have key : ∀ n (l : List α), l.length = n → P l := by
    intro n
    induction n with
    | zero => intro l h; rw [List.length_eq_zero_iff.mp h]; exact h0
    | succ n ih =>
      intro l h
      have hne : l ≠ [] := fun e => by rw [e] at h; exact absurd h (by simp)
      rw [← List.dropLast_concat_getLast hne]
      exact h1 _ _ (ih _ (by rw [List.length_dropLast, h]; rfl))
  exact fun l => key _ l rfl
theorem run_eq {bs : List Bool} : SgOk bs → runN bs + dnsN bs = upsN bs := by
  refine snoc_ind (P := fun bs => SgOk bs → runN bs + dnsN bs = upsN bs) (fun _ => rfl) (fun l a ih h => ?_) bs
  have := ih h.pre
  cases a with
  | true => rw [run_up, dns_up, ups_up]; omega
  | false =>
    have := h.last
    rw [run_dn, dns_dn, ups_dn]; omega
theorem ups_dns (bs : List Bool) : upsN bs + dnsN bs = bs.length := by
  refine snoc_ind (P := fun bs => upsN bs + dnsN bs = bs.length) rfl (fun l a ih => ?_) bs
  cases a with
  | true => rw [ups_up, dns_up, List.length_append, List.length_singleton]; omega
  | false => rw [ups_dn, dns_dn, List.length_append, List.length_singleton]; omega
theorem ways_pos {bs : List Bool} : SgOk bs → 0 < waysN bs := by
  refine snoc_ind (P := fun bs => SgOk bs → 0 < waysN bs) (fun _ => by decide) (fun l a ih h => ?_) bs
  cases a with
  | true => rw [ways_up]; exact ih h.pre
  | false => rw [ways_dn]; exact Nat.mul_pos (ih h.pre) h.last
theorem ways_snoc_le {bs : List Bool} {b : Bool} (h : SgOk (bs ++ [b])) : waysN bs ≤ waysN (bs ++ [b]) := by
  cases b with
  | true => rw [ways_up]; exact Nat.le_refl _
  | false => rw [ways_dn]; exact Nat.le_mul_of_pos_right _ h.last
theorem take_snoc {α : Type} {l : List α} {i : Nat} {x : α} (h : l[i]? = some x) : l.take (i + 1) = l.take i ++ [x] := by
  rw [List.take_add_one, h]
  rfl
theorem ways_take_le {bs : List Bool} (h : SgOk bs) : ∀ k i, i + k = bs.length → waysN (bs.take i) ≤ waysN bs
  | 0, i, e => by rw [List.take_of_length_le (by omega)]; exact Nat.le_refl _
  | k + 1, i, e => by
    have hi : i < bs.length := by omega
    have e1 := take_snoc (List.getElem?_eq_getElem hi)
    have := h.take (i + 1)
    rw [e1] at this
    have z := ways_snoc_le this
    rw [← e1] at z
    exact Nat.le_trans z (ways_take_le h k (i + 1) (by omega))
theorem ways_lt {bs : List Bool} (hu : upsN bs ≤ 100) : SgOk bs → waysN bs < 2 ^ (7 * bs.length + 1) := by
  refine snoc_ind (P := fun bs => upsN bs ≤ 100 → SgOk bs → waysN bs < 2 ^ (7 * bs.length + 1)) (fun _ _ => by decide) (fun l a ih hu h => ?_) bs hu
  rw [List.length_append, List.length_singleton]
  cases a with
  | true =>
    rw [ups_up] at hu
    rw [ways_up]
    exact Nat.lt_of_lt_of_le (ih (by omega) h.pre) (Nat.pow_le_pow_right (by decide) (by omega))
  | false =>
    rw [ups_dn] at hu
    have r := run_eq h.pre
    rw [ways_dn]
    have z := ih hu h.pre
    have e : 7 * (l.length + 1) + 1 = (7 * l.length + 1) + 7 := by omega
    rw [e, Nat.pow_add]
    exact Nat.mul_lt_mul_of_lt_of_le z (by have : (2 : Nat) ^ 7 = 128 := by decide
                                           omega) (by decide)
/-! ### all histories of a shape -/
def negL (st : Nat) : List Int := (List.range st).map fun k : Nat => (0 : Int) - ((st : Int) + (k : Int) * (-1))
def ableL (st : Nat) (b : Bool) (row : List Int) : List Int := if b then [(st : Int)] else (negL st).filter fun x => decide (x ∉ row)
def evStep (p : List (List Int) × Nat) (b : Bool) : List (List Int) × Nat :=
  (p.1.flatMap (fun row => (ableL (p.2 + b.toNat) b row).map fun x => row ++ [x]), p.2 + b.toNat)
def ev (bs : List Bool) : List (List Int) × Nat := bs.foldl evStep ([[]], 0)
def everyL (bs : List Bool) : List (List Int) := (ev bs).1
theorem ev_snoc (bs : List Bool) (b : Bool) : ev (bs ++ [b]) = evStep (ev bs) b := by
  unfold ev
  rw [List.foldl_append]
  rfl
theorem ev_two (bs : List Bool) : (ev bs).2 = upsN bs := by
  refine snoc_ind (P := fun bs => (ev bs).2 = upsN bs) rfl (fun l a ih => ?_) bs
  rw [ev_snoc]
  cases a with
  | true => rw [ups_up, ← ih]; rfl
  | false => rw [ups_dn, ← ih]; rfl
theorem every_snoc (bs : List Bool) (b : Bool) : everyL (bs ++ [b]) = (everyL bs).flatMap fun row => (ableL (upsN bs + b.toNat) b row).map fun x => row ++ [x] := by
  unfold everyL
  rw [ev_snoc]
  unfold evStep
  rw [ev_two]
theorem negL_mem {st : Nat} {x : Int} : x ∈ negL st ↔ -(st : Int) ≤ x ∧ x < 0 := by
  unfold negL
  rw [List.mem_map]
  constructor
  · rintro ⟨k, hk, rfl⟩
    have := List.mem_range.mp hk
    omega
  · rintro ⟨h1, h2⟩
    exact ⟨(x + st).toNat, List.mem_range.mpr (by omega), by omega⟩
theorem nodup_map' {α β : Type} {f : α → β} (hf : ∀ x y, f x = f y → x = y) : ∀ {l : List α}, l.Nodup → (l.map f).Nodup
  | [], _ => List.nodup_nil
  | x :: r, h => by
    obtain ⟨h1, h2⟩ := List.nodup_cons.mp h
    refine List.nodup_cons.mpr ⟨fun hm => ?_, nodup_map' hf h2⟩
    obtain ⟨y, hy, e⟩ := List.mem_map.mp hm
    exact h1 (hf _ _ e ▸ hy)
theorem negL_nd (st : Nat) : (negL st).Nodup := nodup_map' (fun x y e => by omega) List.nodup_range
theorem negL_len (st : Nat) : (negL st).length = st := by unfold negL; rw [List.length_map, List.length_range]
def isNeg (x : Int) : Bool := decide (x < 0)
/-- a row: its stops -/
structure RowOk (st k : Nat) (row : List Int) : Prop where
  nd : (row.filter isNeg).Nodup
  rng : ∀ x ∈ row, -(st : Int) ≤ x ∧ x ≤ st ∧ x ≠ 0
  len : (row.filter isNeg).length = k
theorem filter_split {α : Type} (p : α → Bool) : ∀ l : List α, (l.filter p).length + (l.filter fun x => !p x).length = l.length
  | [] => rfl
  | x :: r => by
    have := filter_split p r
    rw [List.filter_cons, List.filter_cons, List.length_cons]
    cases p x
    · show (r.filter p).length + ((r.filter fun x => !p x).length + 1) = _
      omega
    · show (r.filter p).length + 1 + (r.filter fun x => !p x).length = _
      omega
theorem able_len {st k : Nat} {row : List Int} (h : RowOk st k row) : (ableL st false row).length + k = st := by
  have e : (ableL st false row) = (negL st).filter fun x => decide (x ∉ row) := rfl
  have s := filter_split (fun x => decide (x ∈ row)) (negL st)
  have e2 : ((negL st).filter fun x => !decide (x ∈ row)) = (negL st).filter fun x => decide (x ∉ row) := by
    congr 1
    funext x
    rw [decide_not]
  rw [e2, negL_len] at s
  have n1 : ((negL st).filter fun x => decide (x ∈ row)).Nodup := (negL_nd st).sublist List.filter_sublist
  have l1 : ((negL st).filter fun x => decide (x ∈ row)).length ≤ (row.filter isNeg).length := nodup_len n1 fun x hx => by
    rw [List.mem_filter] at hx
    obtain ⟨a, b⟩ := hx
    exact List.mem_filter.mpr ⟨of_decide_eq_true b, decide_eq_true (negL_mem.mp a).2⟩
  have l2 : (row.filter isNeg).length ≤ ((negL st).filter fun x => decide (x ∈ row)).length := nodup_len h.nd fun x hx => by
    rw [List.mem_filter] at hx
    obtain ⟨a, b⟩ := hx
    exact List.mem_filter.mpr ⟨negL_mem.mpr ⟨(h.rng x a).1, of_decide_eq_true b⟩, decide_eq_true a⟩
  rw [e]
  have := h.len
  omega
theorem flatMap_len {α β : Type} {f : α → List β} {c : Nat} : ∀ {l : List α}, (∀ x ∈ l, (f x).length = c) → (l.flatMap f).length = l.length * c
  | [], _ => by simp
  | x :: r, h => by
    rw [List.flatMap_cons, List.length_append, h x List.mem_cons_self, flatMap_len fun y hy => h y (List.mem_cons_of_mem _ hy), List.length_cons, Nat.succ_mul]
    omega
theorem every_ok {bs : List Bool} : SgOk bs → (∀ row ∈ everyL bs, RowOk (upsN bs) (dnsN bs) row ∧ row.length = bs.length) ∧ (everyL bs).length = waysN bs := by
  refine snoc_ind (P := fun bs => SgOk bs → (∀ row ∈ everyL bs, RowOk (upsN bs) (dnsN bs) row ∧ row.length = bs.length) ∧ (everyL bs).length = waysN bs) (fun _ => ⟨fun row hr => ?_, rfl⟩) (fun l a ih h => ?_) bs
  · have e : row = [] := List.mem_singleton.mp hr
    subst e
    exact ⟨⟨List.nodup_nil, fun x hx => absurd hx List.not_mem_nil, rfl⟩, rfl⟩
  · obtain ⟨i1, i2⟩ := ih h.pre
    rw [every_snoc]
    cases a with
    | true =>
      rw [ups_up, dns_up, ways_up]
      refine ⟨fun row hr => ?_, ?_⟩
      · obtain ⟨r0, h0, h1⟩ := List.mem_flatMap.mp hr
        obtain ⟨x, hx, rfl⟩ := List.mem_map.mp h1
        have ex : x = ((upsN l + 1 : Nat) : Int) := List.mem_singleton.mp hx
        obtain ⟨⟨a1, a2, a3⟩, a4⟩ := i1 r0 h0
        have ef : (r0 ++ [x]).filter isNeg = r0.filter isNeg := by
          rw [List.filter_append]
          have : isNeg x = false := decide_eq_false (by omega)
          rw [List.filter_cons, this]
          simp
        refine ⟨⟨by rw [ef]; exact a1, fun y hy => ?_, by rw [ef]; exact a3⟩, by rw [List.length_append, List.length_append, a4]; rfl⟩
        rcases List.mem_append.mp hy with z | z
        · have := a2 y z
          omega
        · rw [List.mem_singleton] at z
          omega
      · rw [flatMap_len (c := 1) fun row _ => by rw [List.length_map]; rfl, i2, Nat.mul_one]
    | false =>
      rw [ups_dn, dns_dn, ways_dn]
      refine ⟨fun row hr => ?_, ?_⟩
      · obtain ⟨r0, h0, h1⟩ := List.mem_flatMap.mp hr
        obtain ⟨x, hx, rfl⟩ := List.mem_map.mp h1
        have hx' : x ∈ (negL (upsN l)).filter fun x => decide (x ∉ r0) := hx
        obtain ⟨b1, b2⟩ := List.mem_filter.mp hx'
        have b3 := negL_mem.mp b1
        have b4 := of_decide_eq_true b2
        obtain ⟨⟨a1, a2, a3⟩, a4⟩ := i1 r0 h0
        have ef : (r0 ++ [x]).filter isNeg = r0.filter isNeg ++ [x] := by
          rw [List.filter_append]
          have : isNeg x = true := decide_eq_true b3.2
          rw [List.filter_cons, this]
          simp
        refine ⟨⟨?_, fun y hy => ?_, by rw [ef, List.length_append, a3]; rfl⟩, by rw [List.length_append, List.length_append, a4]; rfl⟩
        · rw [ef]
          refine List.nodup_append.mpr ⟨a1, List.nodup_cons.mpr ⟨List.not_mem_nil, List.nodup_nil⟩, fun p hp q hq e => ?_⟩
          rw [List.mem_singleton] at hq
          subst hq
          subst e
          exact b4 (List.mem_filter.mp hp).1
        · rcases List.mem_append.mp hy with z | z
          · exact a2 y z
          · rw [List.mem_singleton] at z
            omega
      · have r := run_eq h.pre
        rw [flatMap_len (c := runN l) fun row hr => by
          have := able_len (i1 row hr).1
          rw [List.length_map]
          show (ableL (upsN l) false row).length = _
          omega, i2]
/-! ### counts of complete histories -/
def oddN : Nat → Nat
  | 0 => 1
  | n + 1 => oddN n * (1 + n * 2)
theorem facN_pos : ∀ n, 0 < facN n
  | 0 => by decide
  | n + 1 => Nat.mul_pos (facN_pos n) (Nat.succ_pos n)
theorem fac_odd : ∀ n, facN (2 * n) = oddN n * (facN n * 2 ^ n)
  | 0 => rfl
  | n + 1 => by
    have e : 2 * (n + 1) = 2 * n + 1 + 1 := by omega
    rw [e]
    show facN (2 * n) * (2 * n + 1) * (2 * n + 1 + 1) = oddN n * (1 + n * 2) * (facN n * (n + 1) * 2 ^ (n + 1))
    rw [fac_odd n, Nat.pow_succ]
    have e2 : 2 * n + 1 + 1 = (n + 1) * 2 := by omega
    have e3 : 2 * n + 1 = 1 + n * 2 := by omega
    rw [e2, e3]
    simp only [Nat.mul_assoc, Nat.mul_comm, Nat.mul_left_comm]
def cwN (r u : Nat) : Nat := facN (r + 2 * u) / (facN u * 2 ^ u)
theorem cw_zero (u : Nat) : cwN 0 u = oddN u := by
  unfold cwN
  rw [Nat.zero_add, fac_odd]
  exact Nat.mul_div_cancel _ (Nat.mul_pos (facN_pos u) (Nat.two_pow_pos u))
theorem odd_pos : ∀ n, 0 < oddN n
  | 0 => by decide
  | n + 1 => Nat.mul_pos (odd_pos n) (by omega)
theorem odd_lt : ∀ n, n ≤ 120 → oddN n < 2 ^ (8 * n + 1)
  | 0, _ => by decide
  | n + 1, h => by
    have z := odd_lt n (by omega)
    have e : 8 * (n + 1) + 1 = (8 * n + 1) + 8 := by omega
    show oddN n * (1 + n * 2) < _
    rw [e, Nat.pow_add]
    exact Nat.mul_lt_mul_of_lt_of_le z (by have : (2 : Nat) ^ 8 = 256 := by decide
                                           omega) (by decide)
/-! ### signs as text -/
def sgC (b : Bool) : Nat := if b then 43 else 45
def sgS (bs : List Bool) : Str := ⟨(bs.map sgC).toArray⟩
theorem plus_eq : ("+" : Str) = ⟨#[43]⟩ := by decide +kernel
theorem minus_eq : ("-" : Str) = ⟨#[45]⟩ := by decide +kernel
theorem sgS_len (bs : List Bool) : (sgS bs).length = bs.length := by
  show ((bs.map sgC).toArray).size = _
  rw [List.size_toArray, List.length_map]
theorem sgS_up (bs : List Bool) : sgS bs ++ ("+" : Str) = sgS (bs ++ [true]) := by
  rw [plus_eq]
  show (⟨(bs.map sgC).toArray ++ [43].toArray⟩ : Str) = ⟨((bs ++ [true]).map sgC).toArray⟩
  rw [List.map_append, List.append_toArray]
  rfl
theorem sgS_dn (bs : List Bool) : sgS bs ++ ("-" : Str) = sgS (bs ++ [false]) := by
  rw [minus_eq]
  show (⟨(bs.map sgC).toArray ++ [45].toArray⟩ : Str) = ⟨((bs ++ [false]).map sgC).toArray⟩
  rw [List.map_append, List.append_toArray]
  rfl
theorem sgS_nil : ("" : Str) = sgS [] := by decide +kernel
theorem sgS_cat (as bs : List Bool) : sgS as ++ sgS bs = sgS (as ++ bs) := by
  show (⟨(as.map sgC).toArray ++ (bs.map sgC).toArray⟩ : Str) = ⟨((as ++ bs).map sgC).toArray⟩
  rw [List.map_append, List.append_toArray]
theorem sg_get {bs : List Bool} {i c : Nat} (h : (sgS bs).cps[i]? = some c) : ∃ b, bs[i]? = some b ∧ c = sgC b := by
  have h' : (bs.map sgC)[i]? = some c := by
    rw [← h]
    exact List.getElem?_toArray.symm
  rw [List.getElem?_map] at h'
  cases e : bs[i]? with
  | none => rw [e] at h'; cases h'
  | some b => rw [e] at h'; cases h'; exact ⟨b, rfl, rfl⟩
theorem sg_size (bs : List Bool) : (sgS bs).cps.size = bs.length := sgS_len bs
theorem eqP (b : Bool) : decide (V.str ⟨#[sgC b]⟩ = V.str ("+" : Str)) = b := by
  rw [plus_eq]
  cases b
  · exact decide_eq_false fun e => by have := V.str.inj e; revert this; decide
  · exact decide_eq_true rfl
theorem eqM (b : Bool) : decide (V.str ⟨#[sgC b]⟩ = V.str ("-" : Str)) = !b := by
  rw [minus_eq]
  cases b
  · exact decide_eq_true rfl
  · exact decide_eq_false fun e => by have := V.str.inj e; revert this; decide
theorem blP (b : Bool) : V.bl (decide (V.str ⟨#[sgC b]⟩ = V.str ("+" : Str))) = V.bl b := congrArg V.bl (eqP b)
theorem blM (b : Bool) : V.bl (decide (V.str ⟨#[sgC b]⟩ = V.str ("-" : Str))) = V.bl (!b) := congrArg V.bl (eqM b)
theorem cnt_sg (b : Bool) : ∀ bs : List Bool, PyProof.Rows.cnt (sgC b) (bs.map sgC) = ((bs.count b : Nat) : Int)
  | [] => rfl
  | x :: r => by
    rw [List.map_cons, PyProof.Rows.cnt_cons, cnt_sg b r, List.count_cons]
    cases x <;> cases b <;> (simp [sgC]; try omega)
theorem count_P (bs : List Bool) : Txt.count (sgS bs) ("+" : Str) = ((upsN bs : Nat) : Int) := by
  rw [plus_eq, PyProof.Rows.count_cnt]
  exact cnt_sg true bs
theorem count_M (bs : List Bool) : Txt.count (sgS bs) ("-" : Str) = ((dnsN bs : Nat) : Int) := by
  rw [minus_eq, PyProof.Rows.count_cnt]
  exact cnt_sg false bs
theorem cut_sg (bs : List Bool) (k : Nat) (h : k ≤ bs.length) : cutS (sgS bs) none (some (k : Int)) = sgS (bs.take k) := by
  unfold cutS
  rw [HT.sIx_none, HT.sIx_nat, sgS_len, List.drop_zero, Nat.sub_zero, Nat.min_eq_left h]
  show (⟨(((bs.map sgC).toArray.toList).take k).toArray⟩ : Str) = ⟨((bs.take k).map sgC).toArray⟩
  rw [List.map_take]
section
variable {P : Program} {w : World} {K : PySem.W.Frag} {mg : Str → Option Value} {base : Heap}
/-! ### draws -/
/-- the list of three ints that draws are made of: at most n draws were made in the second way -/
def Src (H : Hp) (a : Addr) (n : Nat) : Prop := ∃ x y z : Int, H a = some (.lst [.int x, .int y, .int z]) ∧ 0 ≤ y ∧ y < 2 ^ 300 ∧ 0 ≤ z ∧ z ≤ (n : Int)
theorem Src.mono {H : Hp} {a : Addr} {n m : Nat} (h : Src H a n) (l : n ≤ m) : Src H a m := by
  obtain ⟨x, y, z, h1, h2, h3, h4, h5⟩ := h
  exact ⟨x, y, z, h1, h2, h3, h4, by omega⟩
theorem Src.bt {H H' : Hp} {a b : Addr} {n : Nat} (h : Src H a n) (x : Bt b H H') (e : a ≠ b) : Src H' a n := by
  obtain ⟨p, y, z, h1, h2⟩ := h
  exact ⟨p, y, z, x _ _ e h1, h2⟩
theorem Src.same {H H' : Hp} {a : Addr} {n : Nat} (h : Src H a n) (x : Same H H') : Src H' a n := by
  obtain ⟨p, y, z, h1, h2⟩ := h
  exact ⟨p, y, z, x _ _ h1, h2⟩
theorem Src.new {H : Hp} {a p : Addr} {n : Nat} {o : HO} (h : Src H a n) (e : H p = none) : Src (upd H p o) a n := h.same (same_new e)
theorem Src.ne {H : Hp} {a p : Addr} {n : Nat} (h : Src H a n) (e : H p = none) : p ≠ a := fun z => by
  obtain ⟨_, _, _, h1, _⟩ := h
  rw [← z, e] at h1
  cases h1
theorem Src.upd {H : Hp} {a p : Addr} {n : Nat} {o : HO} (h : Src H a n) (e : p ≠ a) : Src (upd H p o) a n := by
  obtain ⟨x, y, z, h1, h2⟩ := h
  exact ⟨x, y, z, by rw [upd_ne e.symm]; exact h1, h2⟩
def spDraw : Sp := fun vs H Q _ => ∃ (a : Addr) (m : Int) (n : Nat), vs = [.ref a, .int m] ∧ Src H a n ∧ n ≤ 1000000 ∧ 1 ≤ m ∧ m ≤ 1000000 ∧ ∀ r H', 0 ≤ r → r < m → Src H' a (n + 1) → Bt a H H' → Q (.int r) H'
theorem lt_pow {i : Int} {n : Nat} (h0 : 0 ≤ i) (h : i < 2 ^ n) : i.natAbs < 2 ^ n := by
  have e : ((i.natAbs : Nat) : Int) = i := Int.natAbs_of_nonneg h0
  have h' : ((i.natAbs : Nat) : Int) < ((2 ^ n : Nat) : Int) := by
    rw [e]
    simpa using h
  exact Int.ofNat_lt.mp h'
theorem zz_le {z : Int} (h0 : 0 ≤ z) (h : z ≤ 1000001) : z * z ≤ 1000002000001 := by
  have := Int.mul_le_mul h h h0 (by decide)
  omega
theorem ok_law_draw {f : Addr} {fd : FuncData} (F : Fun K "_law_draw" "_law_draw" s_law_draw f fd) : FnG P w K mg base CX0 1 f fd ["pool", "many"] spDraw := by
  refine okG F sc_law_draw (fun vs H Q E h => ?_) (fun cdv A outer s H vs Q E hG hr h => ?_)
  · obtain ⟨a, m, n, rfl, _⟩ := h
    rfl
  · obtain ⟨a, m, n, rfl, ⟨x, y, z, ha, y0, y1, z0, z1⟩, hn, m0, m1, q⟩ := h
    refine ⟨_, (pss_cons (ps_if (pt_cmpR op_gt (pe_ix ix_list (pv 0) pe_int (fun _ _ => rfl)) pe_int (nomark _)) (pss_cons (ps_set (i := 2) sc_law_draw.nd rfl (Or.inl rfl) (pe_op op_mod (pe_ix ix_list (pv 0) pe_int (fun _ _ => rfl)) (pv 1)))
          (pss_cons (ps_asg (pe_op op_fdivW (pe_ix ix_list (pv 0) pe_int (fun _ _ => rfl)) (pv 1)) (pg_sub (pv 0) pe_int set_list))
          (pss_one (ps_ret (pv 2))))) pss_nil)
        (pss_cons (ps_asg (pe_op op_add (pe_ix ix_list (pv 0) pe_int (fun _ _ => rfl)) pe_int) (pg_sub (pv 0) pe_int set_list))
        (pss_cons (ps_set (i := 3) sc_law_draw.nd rfl (Or.inl rfl) (pe_op op_mod (pe_op op_powW (pe_op op_add (pe_ix ix_list (pv 0) pe_int (fun _ _ => rfl)) (pe_op op_mulW pe_int (pe_ix ix_list (pv 0) pe_int (fun _ _ => rfl)))) pe_int) (pe_op op_add (pe_op op_powW pe_int pe_int) pe_int)))
        (pss_cons (ps_set (i := 3) sc_law_draw.nd rfl (Or.inl rfl) (pe_op op_mod (pe_op op_powW (pe_op op_add (pv 3) (pe_op op_mulW pe_int (pe_ix ix_list (pv 0) pe_int (fun _ _ => rfl)))) pe_int) (pe_op op_add (pe_op op_powW pe_int pe_int) pe_int)))
        (pss_one (ps_ret (pe_op op_mod (pe_op op_fdivW (pv 3) pe_int) (pv 1)))))))), ?_⟩
    have hS : SqL K H a [.int x, .int y, .int z] := .of ha
    by_cases hx : 0 < x
    · refine ⟨_, rfl, a, _, 0, _, rfl, rfl, hS, at0, _, _, rfl, rfl, true, dT hx, ?_⟩
      refine ⟨_, rfl, a, _, 0, _, rfl, rfl, hS, at0, _, rfl, _, _, rfl, rfl, (by show (0 : Int) < m; omega), ?_⟩
      refine ⟨_, rfl, a, _, 0, _, rfl, rfl, hS, at0, _, rfl, _, _, rfl, rfl, wide_div (b := 30) (by omega) (lt_pow (by omega) (by omega)) (by decide) (by decide), ?_⟩
      refine ⟨_, rfl, a, _, 0, 0, rfl, rfl, ha, rfl, _, rfl, ?_⟩
      exact q _ _ (Int.emod_nonneg _ (by omega)) (Int.emod_lt_of_pos _ (by omega)) ⟨_, _, _, upd_same, y0, y1, z0, by omega⟩ (.at_ _ _ _)
    · refine ⟨_, rfl, a, _, 0, _, rfl, rfl, hS, at0, _, _, rfl, rfl, false, dF hx, ?_⟩
      refine ⟨_, rfl, a, _, 2, _, rfl, rfl, hS, at2, _, _, rfl, rfl, _, rfl, a, _, 2, 2, rfl, rfl, ha, rfl, ?_⟩
      have hS2 : SqL K (upd H a (.lst [.int x, .int y, .int (z + 1)])) a [.int x, .int y, .int (z + 1)] := .of upd_same
      have c1 : CPowW (y + 69061 * (z + 1)) 3 := powW_ok (n := 400) (lt_pow (by omega) (by omega)) (by decide) (by decide)
      have p1 : CPowW 10 41 := powW_ok (n := 4) (by decide) (by decide) (by decide)
      have p2 : CPowW 10 38 := powW_ok (n := 4) (by decide) (by decide) (by decide)
      have k1 : (10 : Int) ^ (41 : Int).toNat + 37 = 100000000000000000000000000000000000000037 := by decide +kernel
      have k2 : (10 : Int) ^ (38 : Int).toNat + 133 = 100000000000000000000000000000000000133 := by decide +kernel
      have n1 : (0 : Int) < 10 ^ (41 : Int).toNat + 37 := by rw [k1]; decide
      have n2 : (0 : Int) < 10 ^ (38 : Int).toNat + 133 := by rw [k2]; decide
      refine ⟨_, rfl, a, _, 1, _, rfl, rfl, hS2, at1, _, rfl, a, _, 2, _, rfl, rfl, hS2, at2, _, _, rfl, rfl, wide_mul (a := 30) (b := 30) (by decide) (lt_pow (by omega) (by omega)) (by decide) (by decide) (by decide), _, _, rfl, rfl, _, _, rfl, rfl, c1, _, _, rfl, rfl, p1, _, _, rfl, rfl, _, _, rfl, rfl, n1, ?_⟩
      generalize (y + 69061 * (z + 1)) ^ (3 : Int).toNat = big
      have b0 : 0 ≤ big % (10 ^ (41 : Int).toNat + 37) := Int.emod_nonneg _ (Int.ne_of_gt n1)
      have b1 : big % (10 ^ (41 : Int).toNat + 37) < 100000000000000000000000000000000000000037 := by
        have := Int.emod_lt_of_pos big n1
        rw [k1] at this
        rw [k1]
        exact this
      have c2 : ∀ mx : Int, 0 ≤ mx → mx < 100000000000000000000000000000000000000037 → CPowW (mx + 88469 * (z + 1)) 3 := fun mx b0 b1 => powW_ok (n := 400) (lt_pow (by omega) (by omega)) (by decide) (by decide)
      refine ⟨_, rfl, _, rfl, a, _, 2, _, rfl, rfl, hS2, at2, _, _, rfl, rfl, wide_mul (a := 30) (b := 30) (by decide) (lt_pow (by omega) (by omega)) (by decide) (by decide) (by decide), _, _, rfl, rfl, _, _, rfl, rfl, c2 _ b0 b1, _, _, rfl, rfl, p2, _, _, rfl, rfl, _, _, rfl, rfl, n2, ?_⟩
      refine ⟨_, rfl, _, _, rfl, rfl, wide_div (b := 30) (by decide) (by decide) (by decide) (by decide), _, rfl, _, _, rfl, rfl, (by show (0 : Int) < m; omega), ?_⟩
      exact q _ _ (Int.emod_nonneg _ (by omega)) (Int.emod_lt_of_pos _ (by omega)) ⟨_, _, _, upd_same, y0, y1, by omega, by omega⟩ (.at_ _ _ _)
/-! ### the pool of draws -/
def spPool (K : PySem.W.Frag) : Sp := fun vs H Q _ => ∃ (a : Addr) (ns : List Int) (k : Nat), vs = [.ref a, .int (k : Int)] ∧ SqL K H a (ns.map V.int) ∧ k ≤ 1000 ∧ ∀ H' p, Same H H' → H p = none → Src H' p 0 → Q (.ref p) H'
theorem ok_law_pool {f : Addr} {fd : FuncData} (F : Fun K "_law_pool" "_law_pool" s_law_pool f fd) (B : NoB mg) : FnG P w K mg base CX0 1 f fd ["script", "k"] (spPool K) := by
  refine okG F sc_law_pool (fun vs H Q E h => ?_) (fun cdv A outer s H vs Q E hG hr h => ?_)
  · obtain ⟨a, ns, k, rfl, _⟩ := h
    rfl
  · obtain ⟨a, ns, k, rfl, hS, hk, q⟩ := h
    refine ⟨_, (pss_cons (ps_set (i := 2) sc_law_pool.nd rfl (Or.inl rfl) pe_int)
        (Evl.pss_cut (ps_if (pt_cmpR op_lt (pv 1) (pe_callB call_len_seq (by rfl) B.len PySem.boot_len (pa_cons (pv 0) pa_nil)) (nomark _)) (pss_one (ps_set (i := 2) sc_law_pool.nd rfl (Or.inl rfl) (pe_ix ix_list (pv 0) (pv 1) (fun _ _ => rfl)))) pss_nil)
        (pss_one (ps_ret (pe_lst (pa_cons (pe_callB (call_max2 rfl) (by rfl) B.max (by decide +kernel) (pa_cons pe_int (pa_cons (pe_op op_sub (pv 2) (pe_op op_powW pe_int pe_int)) pa_nil))) (pa_cons (pe_op op_add (pe_op op_mulW (pe_op op_mod (pv 2) (pe_op op_add (pe_op op_powW pe_int pe_int) pe_int)) pe_int) (pv 1)) (pa_cons pe_int pa_nil)))))))), ?_⟩
    refine ⟨fun σ' H' => (∃ c : Int, σ' = [some (.ref a), some (.int (k : Int)), some (.int c)]) ∧ H' = H, ?_, fun σ' H' hm => ?_⟩
    · by_cases hlt : k < ns.length
      · refine ⟨_, rfl, _, rfl, a, _, rfl, .inl hS, _, _, rfl, rfl, true, dT (by rw [List.length_map]; omega), ?_⟩
        exact ⟨_, rfl, _, rfl, a, _, _, _, rfl, rfl, hS, atI_nat (get_at hlt), ⟨_, rfl⟩, rfl⟩
      · refine ⟨_, rfl, _, rfl, a, _, rfl, .inl hS, _, _, rfl, rfl, false, dF (by rw [List.length_map]; omega), ⟨_, rfl⟩, rfl⟩
    · obtain ⟨⟨c, rfl⟩, rfl⟩ := hm
      have p1 : CPowW 10 18 := powW_ok (n := 4) (by decide) (by decide) (by decide)
      have p2 : CPowW 10 40 := powW_ok (n := 4) (by decide) (by decide) (by decide)
      have e : (10 : Int) ^ (40 : Int).toNat + 121 = 10000000000000000000000000000000000000121 := by decide +kernel
      have m0 : (0 : Int) < 10 ^ (40 : Int).toNat + 121 := by rw [e]; decide
      have r0 := Int.emod_nonneg c (Int.ne_of_gt m0)
      have r1 := Int.emod_lt_of_pos c m0
      have r2 : c % (10 ^ (40 : Int).toNat + 121) < 10000000000000000000000000000000000000121 := by
        rw [e] at r1
        rw [e]
        exact r1
      refine ⟨_, rfl, _, _, rfl, rfl, p1, _, _, rfl, rfl, _, _, rfl, _, rfl, _, _, rfl, rfl, p2, _, _, rfl, rfl, _, _, rfl, rfl, m0, _, _, rfl, rfl, wide_mul (a := 200) (b := 30) (lt_pow r0 (by omega)) (by decide) (by decide) (by decide) (by decide),
        _, rfl, _, _, rfl, rfl, by show 3 ≤ sizeLine; decide, fun p np => q _ p (same_new np) np ?_⟩
      exact ⟨_, _, _, upd_same, by omega, by omega, Int.le_refl _, Int.le_refl _⟩
end
section
variable {P : Program} {w : World} {K : PySem.W.Frag} {mg : Str → Option Value} {base : Heap}
/-! ### is_integer and its kin -/
def spIsInt : Sp := fun vs H Q _ => ∃ i : Int, vs = [.int i] ∧ Q (.bl true) H
theorem ok_is_integer {f : Addr} {fd : FuncData} (F : Fun K "is_integer" "is_integer" s_is_integer f fd) (B : NoB mg) : FnG P w K mg base CX0 1 f fd ["value"] spIsInt := by
  refine okG F sc_is_integer (fun vs H Q E h => ?_) (fun cdv A outer s H vs Q E hG hr h => ?_)
  · obtain ⟨i, rfl, _⟩ := h
    rfl
  · obtain ⟨i, rfl, q⟩ := h
    refine ⟨_, (pss_one (ps_ret (pe_and (pe_callB call_isi (by rfl) B.isinstance (by decide +kernel) (pa_cons (pv 0) (pa_cons (pe_bltn (v := .ty "int") (by rfl) B.int boot_int rfl) pa_nil))) (pe_one (pe_not (pe_callB call_isi (by rfl) B.isinstance (by decide +kernel) (pa_cons (pv 0) (pa_cons (pe_bltn (v := .ty "bool") (by rfl) B.bool boot_bool rfl) pa_nil)))))))), ?_⟩
    refine ⟨_, rfl, _, _, _, _, true, rfl, .ty _, .base (.int i), kit_ty (by decide +kernel), true, rfl, iteT ?_⟩
    exact ⟨_, rfl, _, _, _, _, false, rfl, .ty _, .base (.int i), kit_ty (by decide +kernel), false, rfl, q⟩
def spWithin : Sp := fun vs H Q _ => ∃ i lo hi : Int, vs = [.int i, .int lo, .int hi] ∧ lo ≤ i ∧ i ≤ hi ∧ Q (.bl true) H
theorem ok_is_integer_within {f : Addr} {fd : FuncData} (F : Fun K "is_integer_within" "is_integer_within" s_is_integer_within f fd) (T_is_integer : Gc P w K mg base 1 "is_integer" spIsInt) : FnG P w K mg base CX0 2 f fd ["value", "least", "greatest"] spWithin := by
  refine okG F sc_is_integer_within (fun vs H Q E h => ?_) (fun cdv A outer s H vs Q E hG hr h => ?_)
  · obtain ⟨i, lo, hi, rfl, _⟩ := h
    rfl
  · obtain ⟨i, lo, hi, rfl, h1, h2, q⟩ := h
    refine ⟨_, (pss_one (ps_ret (pe_and (pe_g T_is_integer hG hr (by decide) (by rfl) (pa_cons (pv 0) pa_nil)) (pe_one (pe_chain op_le op_le (pv 1) (pv 0) (pv 2)))))), ?_⟩
    refine ⟨_, rfl, i, rfl, true, rfl, iteT ?_⟩
    refine ⟨_, rfl, _, rfl, _, _, rfl, rfl, _, rfl, ?_⟩
    rw [decide_eq_true h1]
    refine iteT ⟨_, rfl, _, _, rfl, rfl, ?_⟩
    dsimp only
    rw [decide_eq_true h2]
    exact q
end
section
variable {P : Program} {w : World} {K : PySem.W.Frag} {mg : Str → Option Value} {base : Heap}
/-! ### check_number, _check_patches, _count_ways, count_histories -/
def spCheckN : Sp := fun vs H Q _ => ∃ i lo hi : Int, vs = [.int i, .int lo, .int hi] ∧ lo ≤ i ∧ i ≤ hi ∧ Q .non H
theorem ok_check_number {f : Addr} {fd : FuncData} (F : Fun K "check_number" "check_number" s_check_number f fd) (T_is_integer_within : Gc P w K mg base 2 "is_integer_within" spWithin) : FnG P w K mg base CX0 3 f fd ["value", "least", "greatest"] spCheckN := by
  refine okG F sc_check_number (fun vs H Q E h => ?_) (fun cdv A outer s H vs Q E hG hr h => ?_)
  · obtain ⟨i, lo, hi, rfl, _⟩ := h
    rfl
  · obtain ⟨i, lo, hi, rfl, h1, h2, q⟩ := h
    refine ⟨_, (pss_one (ps_if (pt_not (pt_val (pe_g T_is_integer_within hG hr (by decide) (by rfl) (pa_cons (pv 0) (pa_cons (pv 1) (pa_cons (pv 2) pa_nil)))))) (pss_one ps_never) pss_nil)), ?_⟩
    exact ⟨_, rfl, _, rfl, _, rfl, i, lo, hi, rfl, h1, h2, _, rfl, iteF q⟩
def spCheckP : Sp := fun vs H Q _ => ∃ n : Nat, vs = [.int (n : Int)] ∧ n ≤ 100 ∧ Q .non H
theorem ok_check_patches {f : Addr} {fd : FuncData} (F : Fun K "_check_patches" "_check_patches" s_check_patches f fd) {t1 : Tok} (T_g_LAST_PATCH : mg "LAST_PATCH" = some (.int 100 t1)) (T_check_number : Gc P w K mg base 3 "check_number" spCheckN) : FnG P w K mg base CX0 4 f fd ["patches"] spCheckP := by
  refine okG F sc_check_patches (fun vs H Q E h => ?_) (fun cdv A outer s H vs Q E hG hr h => ?_)
  · obtain ⟨n, rfl, _⟩ := h
    rfl
  · obtain ⟨n, rfl, h1, q⟩ := h
    refine ⟨_, (pss_one (ps_expr (pe_g T_check_number hG hr (by decide) (by rfl) (pa_cons (pv 0) (pa_cons pe_int (pa_cons (pe_glob (v := .int 100) (by rfl) T_g_LAST_PATCH ⟨_, rfl⟩) pa_nil)))))), ?_⟩
    exact ⟨_, rfl, (n : Int), 0, 100, rfl, by omega, by omega, q⟩
def spCW : Sp := fun vs H Q _ => ∃ r u : Nat, vs = [.int (r : Int), .int (u : Int)] ∧ r + 2 * u ≤ 400 ∧ Q (.int ((cwN r u : Nat) : Int)) H
theorem natAbs_lt {n k : Nat} (h : n < 2 ^ k) : ((n : Nat) : Int).natAbs < 2 ^ k := h
theorem ok_count_ways {f : Addr} {fd : FuncData} (F : Fun K "_count_ways" "_count_ways" s_count_ways f fd) (T_m_factorial : mg "factorial" = some (.builtin "math.factorial")) : FnG P w K mg base CX0 1 f fd ["running", "unstarted"] spCW := by
  refine okG F sc_count_ways (fun vs H Q E h => ?_) (fun cdv A outer s H vs Q E hG hr h => ?_)
  · obtain ⟨r, u, rfl, _⟩ := h
    rfl
  · obtain ⟨r, u, rfl, hb, q⟩ := h
    refine ⟨_, (pss_one (ps_ret (pe_op op_fdivW (pe_callBfun cr_fac (by rfl) T_m_factorial (pa_cons (pe_op op_add (pv 0) (pe_op op_mulW pe_int (pv 1))) pa_nil)) (pe_op op_shlW (pe_callBfun cr_fac (by rfl) T_m_factorial (pa_cons (pv 1) pa_nil)) (pv 1))))), ?_⟩
    have fu := fac_lt u (by omega)
    have fp := facN_pos u
    have e0 : ((facN u : Nat) : Int) * 2 ^ ((u : Nat) : Int).toNat = ((facN u * 2 ^ u : Nat) : Int) := by
      rw [Int.natCast_mul, Int.natCast_pow]
      rfl
    have den : facN u * 2 ^ u < 2 ^ (11 * u + 1) := by
      have e : 11 * u + 1 = (10 * u + 1) + u := by omega
      rw [e, Nat.pow_add]
      exact Nat.mul_lt_mul_of_pos_right fu (Nat.two_pow_pos u)
    have denp : 0 < facN u * 2 ^ u := Nat.mul_pos fp (Nat.two_pow_pos u)
    refine ⟨_, rfl, _, rfl, _, _, rfl, rfl, wide_mul (a := 3) (b := 20) (by decide) (natAbs_lt (by omega)) (by decide) (by decide) (by decide), _, _, rfl, rfl, r + 2 * u, congrArg (fun z => [V.int z]) (by omega), by omega, ?_⟩
    refine ⟨_, rfl, u, rfl, by omega, _, rfl, _, _, rfl, rfl, shl_ok (n := 10 * u + 1) (natAbs_lt fu) (by omega), ?_⟩
    refine ⟨_, _, rfl, rfl, ?_, ?_⟩
    · rw [e0]
      exact wide_div (b := 11 * u + 1) (by omega) (natAbs_lt den) (by omega) (by omega)
    · dsimp only
      rw [e0, ← Int.natCast_ediv]
      exact q
end
end L63
set_option Elab.async false
set_option linter.all false
set_option maxRecDepth 100000
namespace L63
open PySem PySem.Spec PyProof.Rows L2 Lp
theorem sg_len {bs : List Bool} (ok : SgOk bs) (u : upsN bs ≤ 100) : bs.length ≤ 200 := by
  have a := run_eq ok
  have b := ups_dns bs
  omega
theorem wide_ways {bs : List Bool} (ok : SgOk bs) (u : upsN bs ≤ 100) : CMulW ((waysN bs : Nat) : Int) ((runN bs : Nat) : Int) := by
  have l := sg_len ok u
  have a := run_eq ok
  refine wide_mul (a := 1401) (b := 30) (lt_pow (by omega) ?_) (lt_pow (by omega) (by omega)) (by decide) (by decide) (by decide)
  have z := Nat.lt_of_lt_of_le (ways_lt u ok) (Nat.pow_le_pow_right (by decide) (show 7 * bs.length + 1 ≤ 1401 by omega))
  have := Int.ofNat_lt.mpr z
  rwa [Int.natCast_pow] at this
theorem ups_take {bs : List Bool} (u : upsN bs ≤ 100) (i : Nat) : upsN (bs.take i) ≤ 100 := Nat.le_trans (List.Sublist.count_le _ (List.take_sublist i bs)) u
section
variable {P : Program} {w : World} {K : PySem.W.Frag} {mg : Str → Option Value} {base : Heap}
/-! ### _law_every -/
def spEvery : Sp := fun vs H Q _ => ∃ bs : List Bool, vs = [.str (sgS bs)] ∧ SgOk bs ∧ upsN bs ≤ 100 ∧ waysN bs ≤ 1000 ∧ ∀ (H' : Hp) (p : Addr) (rs : List V), Same H H' → H p = none → H' p = some (.lst rs) → RowsR H' rs (everyL bs) → Q (.ref p) H'
theorem int_bool (b : Bool) : (if b = true then (1 : Int) else 0) = ((b.toNat : Nat) : Int) := by cases b <;> rfl
theorem negL_get {st k : Nat} (h : k < st) : (negL st)[k]? = some ((0 : Int) - ((st : Int) + (k : Int) * (-1))) := by
  unfold negL
  rw [List.getElem?_map, List.getElem?_range h]
  rfl
set_option maxHeartbeats 1000000 in
theorem ok_law_every {f : Addr} {fd : FuncData} (F : Fun K "_law_every" "_law_every" s_law_every f fd) (B : NoB mg) : FnG P w K mg base CX0 1 f fd ["signs"] (spEvery) := by
  refine okG F sc_law_every (fun vs H Q E h => ?_) (fun cdv A outer s H vs Q E hG hr h => ?_)
  · obtain ⟨bs, rfl, _⟩ := h
    rfl
  · obtain ⟨bs, rfl, ok, u1, w1, q⟩ := h
    have slen := sg_len ok u1
    refine ⟨_, (pss_cons (ps_par (i := 1) (j := 2) (by rfl) sc_law_every.nd rfl rfl (by decide) rfl rfl (pa_cons (pe_lst (pa_cons (pe_lst pa_nil) pa_nil)) (pa_cons pe_int pa_nil)) (by rfl))
        (pss_cons (ps_for PassesOwn.never rfl (pi_str (pv 0)) (pg_name (i := 3) sc_law_every.nd rfl (Or.inl rfl))
          (pss_cons (ps_set (i := 2) sc_law_every.nd rfl (Or.inl rfl) (pe_op op_add (pv 2) (pe_callTy call_int1 (by rfl) B.int (by decide +kernel) (pa_cons (pe_cmpR op_eq (pv 3) pe_str (nomark _)) pa_nil))))
          (pss_cons (ps_set (i := 4) sc_law_every.nd rfl (Or.inl rfl) (pe_lst pa_nil))
          (pss_cons (ps_for PassesOwn.never rfl (pi_list (pv 1)) (pg_name (i := 5) sc_law_every.nd rfl (Or.inr rfl))
            (pss_cons (ps_set (i := 6) sc_law_every.nd rfl (Or.inl rfl) (pe_lst (pa_cons (pv 2) pa_nil)))
            (Evl.pss_cut (ps_if (pt_cmpR op_eq (pv 3) pe_str (nomark _)) (pss_one (ps_setLc (i := 6) (own := [("one", 7)]) (g := gName 7) (tt := _) rfl sc_law_every.nd rfl rfl (sw_true rfl rfl rfl (by decide +kernel)) (pi_range3 rfl B.range (pa_cons (pv 2) (pa_cons pe_int (pa_cons (pe_un un_neg pe_int) pa_nil)))) (blkOk_by (own := [("one", 7)]) (N := N_law_every) (sc := defScope s_law_every) (by decide +kernel)) (fun _ _ _ _ _ => (pg_name (i := 7) sc_law_every.nd rfl (Or.inl rfl))) (fun _ _ _ _ _ => (pts_one (pt_cmpR (k_notin (K := K) rfl) (pe_op op_sub pe_int (pv 7)) (pv 5) (by rfl)))) (fun _ _ _ _ _ => (pe_op op_sub pe_int (pv 7))))) pss_nil)
            (pss_one (ps_expr (pe_bm PySem.F.plainAttrs_list PySem.F.slot_list_extend PySem.F.type_list_extend mt_extend (pv 4) (pa_cons (pe_lc (own := [("one", 7)]) (g := gName 7) (tt := tYes) rfl sc_law_every.nd (pi_list (pv 6)) (blkOk_by (own := [("one", 7)]) (N := N_law_every) (sc := defScope s_law_every) (by decide +kernel)) (fun _ _ _ _ _ => (pg_name (i := 7) sc_law_every.nd rfl (Or.inl rfl))) (fun _ _ _ _ _ => pts_nil) (fun _ _ _ _ _ => (pe_op op_cat (pv 5) (pe_lst (pa_cons (pv 7) pa_nil))))) pa_nil)))))))
          (pss_one (ps_set (i := 1) sc_law_every.nd rfl (Or.inl rfl) (pv 4)))))))
        (pss_one (ps_ret (pv 1))))), ?_⟩
    refine ⟨Nat.zero_le _, fun p0 n0 => ⟨by show 1 ≤ sizeLine; decide, fun p1 n1 => ⟨_, _, rfl, ?_⟩⟩⟩
    have s01 := (same_new (o := .lst []) n0).trans (same_new (o := .lst [V.ref p0]) n1)
    have hp1 : H p1 = none := (same_new (o := .lst []) n0).free n1
    refine ⟨_, rfl, _, rfl, for_it (walk_str (z := sgS bs)) (fun i σ H' => ∃ (y3 y4 y5 y6 y7 : Option V) (p : Addr) (st : Int) (rs : List V), σ = [some (.str (sgS bs)), some (.ref p), some (.int st), y3, y4, y5, y6, y7] ∧ st = ((upsN (bs.take i) : Nat) : Int) ∧ Same H H' ∧ H p = none ∧ H' p = some (.lst rs) ∧ RowsR H' rs (everyL (bs.take i)))
      ⟨_, _, _, _, _, _, _, _, rfl, rfl, s01, hp1, upd_same, RowsR.one (row := []) ?_⟩ (fun i σ H' _ h => trivial) (fun i x σ H' H2 hi h hy => ?_) (fun σ H' h => ?_)⟩
    · exact (same_new n1) _ _ upd_same
    · obtain ⟨e1, c, hc, rfl⟩ := hy
      subst e1
      obtain ⟨b, hb, rfl⟩ := sg_get hc
      obtain ⟨y3, y4, y5, y6, y7, p, st, rs, rfl, rfl, sm, hp, hrs, rr⟩ := h
      have es := take_snoc hb
      have oki := ok.take i
      have oki1 := ok.take (i + 1)
      obtain ⟨ev1, ev2⟩ := every_ok oki
      have hi' := lt_get hb
      have wle := ways_take_le ok (bs.length - (i + 1)) (i + 1) (by omega)
      have ui := ups_take u1 i
      have tot := (every_ok oki1).2
      rw [es, every_snoc] at tot
      rw [es] at wle
      have goalE : everyL (bs.take (i + 1)) = (everyL (bs.take i)).flatMap fun row => (ableL (upsN (bs.take i) + b.toNat) b row).map fun x => row ++ [x] := by rw [es, every_snoc]
      have ab : ∀ row, (ableL (upsN (bs.take i) + b.toNat) b row).length ≤ 101 := fun row => by
        cases b with
        | true => show 1 ≤ 101; decide
        | false =>
          refine Nat.le_trans (List.length_filter_le _ _) ?_
          rw [negL_len]
          show upsN (bs.take i) + 0 ≤ 101
          omega
      have upE : ((upsN (bs.take (i + 1)) : Nat) : Int) = ((upsN (bs.take i) + b.toNat : Nat) : Int) := by
        rw [es]
        cases b with
        | true => rw [ups_up]; rfl
        | false => rw [ups_dn]; rfl
      refine ⟨_, rfl, _, rfl, rfl, .inr ⟨b, congrArg (fun v => [v]) (blP b), _, _, rfl, rfl, ?_⟩⟩
      dsimp only
      rw [int_bool, ← Int.natCast_add]
      have stb : upsN (bs.take i) + b.toNat ≤ 101 := by cases b <;> (simp only [Bool.toNat_true, Bool.toNat_false]; omega)
      generalize upsN (bs.take i) + b.toNat = st at tot goalE ab upE stb ⊢
      refine ⟨Nat.zero_le _, fun q1 nq1 => ?_⟩
      have nqp : q1 ≠ p := fun z => by rw [z, hrs] at nq1; cases nq1
      have hpp := same_new (o := .lst []) nq1 _ _ hrs
      have rr1 := rr.same (same_new (o := .lst []) nq1)
      refine ⟨_, rfl, p, rfl, ⟨_, .of hpp⟩, for_list (xs := rs) (fun j σ H' => ∃ (y5 y6 y7 : Option V) (ls : List V), σ = [some (.str (sgS bs)), some (.ref p), some (.int ((st : Nat) : Int)), some (.str ⟨#[sgC b]⟩), some (.ref q1), y5, y6, y7] ∧
        Same H2 H' ∧ H' q1 = some (.lst ls) ∧ V.ref q1 ∉ ls ∧ RowsR H' ls (((everyL (bs.take i)).take j).flatMap fun row => (ableL st b row).map fun x => row ++ [x])) ⟨_, _, _, [], rfl, same_new nq1, upd_same, List.not_mem_nil, RowsR.nil _⟩ (fun j σ H' _ h => ?_) (fun j x σ H' hx h => ?_) (fun σ H' h => ?_)⟩
      · obtain ⟨_, _, _, _, _, sm2, _⟩ := h
        exact .of (sm2 _ _ hrs)
      · obtain ⟨y5, y6, y7, ls, rfl, sm2, hq, nq, rl⟩ := h
        have hj := lt_get hx
        rw [rr.1] at hj
        have eg := List.getElem?_eq_getElem hj
        obtain ⟨pr, er, hpr⟩ := rr.2 j _ eg
        have ex : x = .ref pr := Option.some.inj (hx.symm.trans er)
        subst ex
        generalize (everyL (bs.take i))[j] = row at hpr eg
        obtain ⟨hrow, rlen⟩ := ev1 row (mem_get eg)
        have hpr' := sm2 _ _ hpr
        have lsz : ls.length ≤ 1000 := by
          rw [rl.1]
          have := flatMap_take_len (f := fun row => (ableL st b row).map fun x => row ++ [x]) (everyL (bs.take i)) j
          omega
        have lsz2 : ls.length + (ableL st b row).length ≤ 2000 := by
          have := ab row
          omega
        refine ⟨_, rfl, by show 1 ≤ sizeLine; decide, fun a1 na1 => ?_⟩
        refine ⟨fun σ' H'' => ∃ (a2 : Addr) (y7 : Option V), σ' = [some (.str (sgS bs)), some (.ref p), some (.int ((st : Nat) : Int)), some (.str ⟨#[sgC b]⟩), some (.ref q1), some (.ref pr), some (.ref a2), y7] ∧ Same H' H'' ∧ H'' a2 = some (.lst ((ableL st b row).map V.int)), ?_, fun σ' H'' hm => ?_⟩
        · cases b with
          | true => exact ⟨_, rfl, rfl, false, blM true, a1, _, rfl, same_new na1, upd_same⟩
          | false =>
            have s1 := same_new (o := .lst [V.int ((st : Nat) : Int)]) na1
            have hrg : RgC ((st : Nat) : Int) 0 (-1) st := by
              have z := RgC.neg (i := ((st : Nat) : Int)) (j := 0) (by omega) (by omega) (by decide) (by decide)
              have e : (((st : Nat) : Int) - 0).toNat = st := by omega
              rwa [e] at z
            refine ⟨_, rfl, rfl, true, blM false, ?_⟩
            refine ⟨_, rfl, 1, rfl, _, _, _, st, rfl, hrg, fun D hD => lc_it (walk_rangeC) (LcP (upd H' a1 (.lst [V.int ((st : Nat) : Int)])) D fun k => (((negL st).take k).filter fun x => decide (x ∉ row)).map V.int) (.init hD rfl) (fun i H' _ p => trivial) (fun k x H3 H4 hk p hy => ?_) (fun H3 p => ?_)⟩
            · obtain ⟨rfl, rfl⟩ := hy
              have gk := negL_get hk
              have fs := filtG (f := fun x => decide (x ∉ row)) gk
              have fl := filtG_len (l := negL st) (f := fun x => decide (x ∉ row)) k
              rw [negL_len] at fl
              refine ⟨rfl, ?_⟩
              refine ⟨_, rfl, _, _, rfl, rfl, _, rfl, pr, row.map V.int, rfl, .inl (.of (p.2.1 _ _ (s1 _ _ hpr'))), rfl, flatI row, ?_⟩
              by_cases hin : (0 : Int) - (((st : Nat) : Int) + (k : Int) * (-1)) ∈ row
              · refine ⟨false, notInF hin, p.skip (Same.refl _) ?_⟩
                show (((negL st).take (k + 1)).filter _).map V.int = _
                rw [fs, if_neg (by simpa using hin), List.append_nil]
              · refine ⟨true, notInT hin, _, rfl, _, _, rfl, rfl, p.put (Same.refl _) ?_ (by rw [List.length_map]; omega)⟩
                show (((negL st).take (k + 1)).filter _).map V.int = _
                rw [fs, if_pos (by simpa using hin), List.map_append]
                rfl
            · refine ⟨D, _, rfl, s1.trans p.2.1, ?_⟩
              have e := p.2.2
              have en : (negL st).take st = negL st := List.take_of_length_le (by rw [negL_len]; exact Nat.le_refl _)
              rw [e]
              show some (HO.lst ((((negL st).take st).filter _).map V.int)) = _
              rw [en]
              rfl
        · obtain ⟨a2, y7, rfl, sm3, ha2⟩ := hm
          have hq3 := sm3 _ _ hq
          have hpr3 := sm3 _ _ hpr'
          refine ⟨_, rfl, .inl ⟨rfl, _, .of hq3⟩, _, rfl, a2, rfl, ⟨_, .of ha2⟩, fun D hD => lc_list (xs := (ableL st b row).map V.int) (fun k H3 => ∃ zs, Same H'' H3 ∧ H3 D = some (.lst zs) ∧ (∀ a, V.ref a ∈ zs → H'' a = none ∧ a ≠ D) ∧ RowsR H3 zs (((ableL st b row).take k).map fun x => row ++ [x])) ⟨[], same_new hD, upd_same, fun a h => absurd h List.not_mem_nil, RowsR.nil _⟩ (fun k H3 _ h => ?_) (fun k x H3 hx h => ?_) (fun H3 h => ?_)⟩
          · obtain ⟨zs, s5, _⟩ := h
            exact .of (s5 _ _ ha2)
          · obtain ⟨v, rfl, hv⟩ := get_int hx
            obtain ⟨zs, s5, hz, hf, rz⟩ := h
            have zl' : zs.length ≤ 101 := by
              rw [rz.1, List.length_map, List.length_take]
              have := ab row
              omega
            refine ⟨rfl, _, rfl, _, rfl, by show 1 ≤ sizeLine; decide, fun t nt => ⟨pr, t, row.map V.int, [.int v], rfl, rfl, same_new nt _ _ (s5 _ _ hpr3), upd_same, by rw [List.length_map, rlen]; exact Lp.zs (by show (bs.take i).length + 1 ≤ _; rw [List.length_take]; omega), fun p5 np5 => ⟨zs, ?_, zl (by omega), ?_⟩⟩⟩
            · exact same_new np5 _ _ (same_new nt _ _ hz)
            · have s6 := (same_new (o := .lst [V.int v]) nt).trans (same_new (o := .lst (row.map V.int ++ [.int v])) np5)
              have nD : p5 ≠ D := fun z => by
                rw [z] at np5
                rw [same_new nt _ _ hz] at np5
                cases np5
              have n5 : H'' p5 = none := (s5.trans (same_new (o := .lst [V.int v]) nt)).free np5
              refine ⟨zs ++ [.ref p5], Lp.Same.mut (s5.trans s6) hD, upd_same, fun a ha => ?_, ?_⟩
              · rcases List.mem_append.mp ha with z | z
                · exact hf a z
                · cases List.mem_singleton.mp z
                  exact ⟨n5, nD⟩
              · have e : ((ableL st b row).take (k + 1)).map (fun x => row ++ [x]) = ((ableL st b row).take k).map (fun x => row ++ [x]) ++ [row ++ [v]] := by
                  rw [take_get hv, List.map_append]
                  rfl
                rw [e]
                refine RowsR.upd ((rz.same s6).app (RowsR.one ?_)) (fun hm => ?_)
                · rw [List.map_append]
                  exact upd_same
                · rcases List.mem_append.mp hm with z | z
                  · exact (hf D z).2 rfl
                  · exact nD (V.ref.inj (List.mem_singleton.mp z)).symm
          · obtain ⟨zs, s5, hz, hf, rz⟩ := h
            rw [List.length_map, List.take_length] at rz
            have hq5 := s5 _ _ hq3
            have nqz : V.ref q1 ∉ zs := fun z => by
              have := (hf q1 z).1
              rw [hq3] at this
              cases this
            have zl' : zs.length = (ableL st b row).length := by rw [rz.1, List.length_map]
            refine ⟨q1, D, ls, zs, rfl, rfl, hq5, hz, Lp.zs (by omega), _, _, _, ls ++ zs, rfl, Lp.Same.mut ((sm2.trans sm3).trans s5) nq1, upd_same, fun z => ?_, ?_⟩
            · rcases List.mem_append.mp z with z | z
              · exact nq z
              · exact nqz z
            · rw [flatMap_take_succ eg]
              refine RowsR.upd ((rl.same (sm3.trans s5)).app rz) fun z => ?_
              rcases List.mem_append.mp z with z | z
              · exact nq z
              · exact nqz z
      · obtain ⟨y5, y6, y7, ls, rfl, sm2, hq, nq, rl⟩ := h
        rw [rr.1, List.take_length] at rl
        refine ⟨_, rfl, _, _, _, _, _, q1, _, ls, rfl, upE.symm, sm.trans sm2, sm.free nq1, hq, ?_⟩
        rw [goalE]
        exact rl
    · obtain ⟨y3, y4, y5, y6, y7, p, st, rs, rfl, rfl, sm, hp, hrs, rr⟩ := h
      rw [sg_size, List.take_length] at *
      exact ⟨_, rfl, q _ p rs sm hp hrs rr⟩
end
/-! ### the shapes of complete histories -/
abbrev Sh := List Bool × Nat × Nat
def shStep (n : Nat) (t : Sh) : List Sh := (if t.2.1 < n then [(t.1 ++ [true], t.2.1 + 1, t.2.2 + 1)] else []) ++ (if 0 < t.2.2 then [(t.1 ++ [false], t.2.1, t.2.2 - 1)] else [])
def shL (n : Nat) : Nat → List Sh
  | 0 => [([], 0, 0)]
  | k + 1 => (shL n k).flatMap (shStep n)
def shapesL (n : Nat) : List (List Bool) := (shL n (2 * n)).map (·.1)
def okB (bs : List Bool) : Bool := (List.range bs.length).all fun i => decide (bs[i]? ≠ some false) || decide (0 < runN (bs.take i))
theorem okB_ok {bs : List Bool} (h : okB bs = true) : SgOk bs := fun i hi => by
  have hl := (List.getElem?_eq_some_iff.mp hi).1
  have z := List.all_eq_true.mp h i (List.mem_range.mpr hl)
  rw [Bool.or_eq_true, decide_eq_true_eq, decide_eq_true_eq] at z
  exact z.elim (fun y => absurd hi y) id
theorem shapes_sz : ∀ n : Fin 6, ∀ k : Fin 11, (shL n.val k.val).length ≤ 260 ∧ (shL n.val k.val).all (fun t => decide (t.1.length = k.val) && decide (t.2.1 ≤ 5) && decide (t.2.2 ≤ 5)) = true := by decide +kernel
theorem shapes_ok : ∀ n : Fin 6, (shapesL n.val).all (fun bs => okB bs && decide (upsN bs = n.val) && decide (dnsN bs = n.val) && decide (waysN bs ≤ 1000)) = true ∧ ((shapesL n.val).map waysN).sum = oddN n.val := by decide +kernel
def oSh (t : Sh) : HO := .tup [.str (sgS t.1), .int ((t.2.1 : Nat) : Int), .int ((t.2.2 : Nat) : Int)]
section
variable {P : Program} {w : World} {K : PySem.W.Frag} {mg : Str → Option Value} {base : Heap}
def spShapes : Sp := fun vs H Q _ => ∃ n : Nat, vs = [.int (n : Int)] ∧ n ≤ 5 ∧ ∀ (H' : Hp) (p : Addr), Same H H' → H p = none → H' p = some (.lst ((shapesL n).map fun bs => .str (sgS bs))) → Q (.ref p) H'
set_option maxHeartbeats 1000000 in
theorem ok_law_shapes {f : Addr} {fd : FuncData} (F : Fun K "_law_shapes" "_law_shapes" s_law_shapes f fd) (B : NoB mg) : FnG P w K mg base CX0 1 f fd ["n"] spShapes := by
  refine okG F sc_law_shapes (fun vs H Q E h => ?_) (fun cdv A outer s H vs Q E hG hr h => ?_)
  · obtain ⟨n, rfl, _⟩ := h
    rfl
  · obtain ⟨n, rfl, hn, q⟩ := h
    refine ⟨_, (pss_cons (ps_set (i := 1) sc_law_shapes.nd rfl (Or.inl rfl) (pe_lst (pa_cons (pe_tup (pa_cons pe_str (pa_cons pe_int (pa_cons pe_int pa_nil)))) pa_nil)))
        (pss_cons (ps_for PassesOwn.never rfl (pi_range1 rfl B.range (pa_cons (pe_op op_mulW pe_int (pv 0)) pa_nil)) (pg_name (i := 2) sc_law_shapes.nd rfl (Or.inl rfl))
          (pss_cons (ps_set (i := 3) sc_law_shapes.nd rfl (Or.inl rfl) (pe_lst pa_nil))
          (pss_cons (ps_for PassesOwn.never rfl (pi_list (pv 1)) (pg_tup rfl (pgs_cons (pg_name (i := 4) sc_law_shapes.nd rfl (Or.inl rfl)) (pgs_cons (pg_name (i := 5) sc_law_shapes.nd rfl (Or.inl rfl)) (pgs_cons (pg_name (i := 6) sc_law_shapes.nd rfl (Or.inl rfl)) pgs_nil))))
            (pss_cons (ps_expr (pe_bm PySem.F.plainAttrs_list PySem.F.slot_list_extend PySem.F.type_list_extend mt_extend (pv 3) (pa_cons (pe_op op_rep (pe_lst (pa_cons (pe_tup (pa_cons (pe_op op_add_str (pv 4) pe_str) (pa_cons (pe_op op_add (pv 5) pe_int) (pa_cons (pe_op op_add (pv 6) pe_int) pa_nil)))) pa_nil)) (pe_callTy call_int1 (by rfl) B.int (by decide +kernel) (pa_cons (pe_cmpR op_lt (pv 5) (pv 0) (nomark _)) pa_nil))) pa_nil)))
            (pss_one (ps_expr (pe_bm PySem.F.plainAttrs_list PySem.F.slot_list_extend PySem.F.type_list_extend mt_extend (pv 3) (pa_cons (pe_op op_rep (pe_lst (pa_cons (pe_tup (pa_cons (pe_op op_add_str (pv 4) pe_str) (pa_cons (pv 5) (pa_cons (pe_op op_sub (pv 6) pe_int) pa_nil)))) pa_nil)) (pe_callTy call_int1 (by rfl) B.int (by decide +kernel) (pa_cons (pe_cmpR op_gt (pv 6) pe_int (nomark _)) pa_nil))) pa_nil))))))
          (pss_one (ps_set (i := 1) sc_law_shapes.nd rfl (Or.inl rfl) (pv 3))))))
        (pss_one (ps_ret (pe_lc (own := [("signs", 4), ("starts", 5), ("running", 6)]) (g := _) (tt := tYes) rfl sc_law_shapes.nd (pi_list (pv 1)) (blkOk_by (own := [("signs", 4), ("starts", 5), ("running", 6)]) (N := N_law_shapes) (sc := defScope s_law_shapes) (by decide +kernel)) (fun _ _ _ _ _ => (k_tup (K := K) (n := 3) rfl rfl (pgs_cons (pg_name (i := 4) sc_law_shapes.nd rfl (Or.inl rfl)) (pgs_cons (pg_name (i := 5) sc_law_shapes.nd rfl (Or.inl rfl)) (pgs_cons (pg_name (i := 6) sc_law_shapes.nd rfl (Or.inl rfl)) pgs_nil))))) (fun _ _ _ _ _ => pts_nil) (fun _ _ _ _ _ => (pv 4))))))), ?_⟩
    refine ⟨by show 3 ≤ sizeLine; decide, fun t0 nt0 => ⟨by show 1 ≤ sizeLine; decide, fun p0 np0 => ?_⟩⟩
    have s0 := (same_new (o := .tup [.str "", .int 0, .int 0]) nt0).trans (same_new (o := .lst [V.ref t0]) np0)
    have hp0 : H p0 = none := (same_new nt0).free np0
    refine ⟨_, rfl, _, _, rfl, rfl, wide_mul (a := 3) (b := 20) (by decide) (natAbs_lt (by omega)) (by decide) (by decide) (by decide), 2 * (n : Int), rfl, by omega, by omega, ?_⟩
    refine for_range (lo := 0) (n := (2 * (n : Int)).toNat) (fun i σ H' => ∃ (y2 y3 y4 y5 y6 : Option V) (p : Addr) (rs : List V), σ = [some (.int (n : Int)), some (.ref p), y2, y3, y4, y5, y6] ∧ Same H H' ∧ H p = none ∧ H' p = some (.lst rs) ∧ ObjR oSh H' rs (shL n i)) ⟨_, _, _, _, _, _, _, rfl, s0, hp0, upd_same, ObjR.one (x := (([], 0, 0) : Sh)) ?_⟩ (fun i σ H2 hi h => ?_) (fun σ H' h => ?_)
    · show (upd (upd H t0 _) p0 _) t0 = some (.tup [.str (sgS []), .int 0, .int 0])
      rw [← sgS_nil]
      exact same_new np0 _ _ upd_same
    · obtain ⟨y2, y3, y4, y5, y6, p, rs, rfl, sm, hp, hrs, rr⟩ := h
      have hi10 : i < 10 := by omega
      obtain ⟨sz0, sz1⟩ := shapes_sz ⟨n, by omega⟩ ⟨i, by omega⟩
      have sz2 := (shapes_sz ⟨n, by omega⟩ ⟨i + 1, by omega⟩).1
      dsimp only at sz0 sz1 sz2
      have szT : ∀ j, (((shL n i).take j).flatMap (shStep n)).length ≤ 260 := fun j => Nat.le_trans (flatMap_take_len _ j) sz2
      refine ⟨Nat.zero_le _, fun q1 nq1 => ?_⟩
      have hpp := same_new (o := .lst []) nq1 _ _ hrs
      refine ⟨_, rfl, p, rfl, ⟨_, .of hpp⟩, for_list (xs := rs) (fun j σ H' => ∃ (y2 y4 y5 y6 : Option V) (ls : List V), σ = [some (.int (n : Int)), some (.ref p), y2, some (.ref q1), y4, y5, y6] ∧
        Same H2 H' ∧ H' q1 = some (.lst ls) ∧ V.ref q1 ∉ ls ∧ ObjR oSh H' ls (((shL n i).take j).flatMap (shStep n))) ⟨_, _, _, _, [], rfl, same_new nq1, upd_same, List.not_mem_nil, ObjR.nil⟩ (fun j σ H' _ h => ?_) (fun j x σ H' hx h => ?_) (fun σ H' h => ?_)⟩
      · obtain ⟨_, _, _, _, _, _, sm2, _⟩ := h
        exact .of (sm2 _ _ hrs)
      · obtain ⟨y2, y4, y5, y6, ls, rfl, sm2, hq, nq, rl⟩ := h
        have hj := lt_get hx
        rw [rr.1] at hj
        have eg := List.getElem?_eq_getElem hj
        obtain ⟨pr, er, hpr⟩ := rr.2 j _ eg
        have ex : x = .ref pr := Option.some.inj (hx.symm.trans er)
        subst ex
        have ht := List.all_eq_true.mp sz1 _ (mem_get eg)
        rw [Bool.and_eq_true, Bool.and_eq_true, decide_eq_true_eq, decide_eq_true_eq, decide_eq_true_eq] at ht
        have fs := flatMap_take_succ (f := shStep n) eg
        generalize (shL n i)[j] = t at hpr eg ht fs
        obtain ⟨bs, st, r⟩ := t
        obtain ⟨⟨h1, h2⟩, h3⟩ := ht
        dsimp only at h1 h2 h3
        have hpr' : H' pr = some (.tup [.str (sgS bs), .int ((st : Nat) : Int), .int ((r : Nat) : Int)]) := sm2 _ _ hpr
        have lsz : ls.length ≤ 260 := by rw [rl.1]; exact szT j
        refine ⟨pr, _, rfl, .of hpr', rfl, _, _, rfl, _, _, rfl, _, _, rfl, rfl, ?_⟩
        refine ⟨_, rfl, .inl ⟨rfl, _, .of hq⟩, ?_⟩
        refine ⟨_, rfl, _, _, rfl, rfl, Lp.zs (by rw [sgS_len]; show bs.length + 1 ≤ _; omega), _, rfl, _, _, rfl, rfl, _, rfl, _, _, rfl, rfl, by show 3 ≤ sizeLine; decide, fun T nT => ⟨by show 1 ≤ sizeLine; decide, fun L nL => ?_⟩⟩
        have hq1 := same_new (o := .lst [V.ref T]) nL _ _ (same_new (o := .tup [V.str (sgS bs ++ "+"), .int ((st : Nat) + 1), .int ((r : Nat) + 1)]) nT _ _ hq)
        have nTq : T ≠ q1 := fun z => by rw [z, hq] at nT; cases nT
        refine ⟨_, rfl, _, rfl, _, _, rfl, rfl, .inr ⟨_, rfl, ?_⟩⟩
        refine ⟨L, _, [.ref T], rfl, rfl, upd_same, by split <;> decide, by split <;> decide, rep_sz _ _, fun L2 nL2 => ?_⟩
        rw [rep_one]
        have lt1 : ∀ b : Bool, (if b = true then [V.ref T] else []).length ≤ 1 := fun b => ifs_len b _
        refine ⟨q1, L2, ls, _, rfl, rfl, same_new nL2 _ _ hq1, upd_same, Lp.zs (by have := lt1 (decide ((st : Int) < (n : Int))); omega), ?_⟩
        have sA := ((same_new (o := .tup [V.str (sgS bs ++ "+"), .int ((st : Nat) + 1), .int ((r : Nat) + 1)]) nT).trans (same_new (o := .lst [V.ref T]) nL)).trans (same_new (o := .lst (if decide ((st : Int) < (n : Int)) = true then [V.ref T] else [])) nL2)
        have oT := same_new (o := .lst (if decide ((st : Int) < (n : Int)) = true then [V.ref T] else [])) nL2 _ _ (same_new (o := .lst [V.ref T]) nL _ _ (upd_same (H := H') (a := T) (o := .tup [V.str (sgS bs ++ "+"), .int ((st : Nat) + 1), .int ((r : Nat) + 1)])))
        obtain ⟨l1, el1, hl1, rl1, nq1'⟩ : ∃ l1 : List V, ls ++ (if decide ((st : Int) < (n : Int)) = true then [V.ref T] else []) = l1 ∧ l1.length ≤ 261 ∧
            ObjR oSh (upd (upd (upd (upd H' T (.tup [V.str (sgS bs ++ "+"), .int ((st : Nat) + 1), .int ((r : Nat) + 1)])) L (.lst [V.ref T])) L2 (.lst (if decide ((st : Int) < (n : Int)) = true then [V.ref T] else []))) q1 (.lst l1)) l1 (((shL n i).take j).flatMap (shStep n) ++ (if st < n then [(bs ++ [true], st + 1, r + 1)] else [])) ∧ V.ref q1 ∉ l1 := by
          refine ⟨_, rfl, by rw [List.length_append]; have := lt1 (decide ((st : Int) < (n : Int))); omega, ?_, ?_⟩
          · refine ObjR.upd ((rl.same sA).app ?_) ?_
            · by_cases c : st < n
              · rw [if_pos c, if_pos (decide_eq_true (by omega))]
                refine ObjR.one (x := ((bs ++ [true], st + 1, r + 1) : Sh)) ?_
                rw [if_pos (decide_eq_true (show (st : Int) < (n : Int) by omega)), sgS_up] at oT
                rw [sgS_up]
                exact oT
              · rw [if_neg c, if_neg (by simpa using c)]
                exact ObjR.nil
            · intro z
              rcases List.mem_append.mp z with z | z
              · exact nq z
              · split at z
                · exact nTq (V.ref.inj (List.mem_singleton.mp z)).symm
                · exact absurd z List.not_mem_nil
          · intro z
            rcases List.mem_append.mp z with z | z
            · exact nq z
            · split at z
              · exact nTq (V.ref.inj (List.mem_singleton.mp z)).symm
              · exact absurd z List.not_mem_nil
        rw [el1]
        have smB : Same H2 (upd (upd (upd (upd H' T (.tup [V.str (sgS bs ++ "+"), .int ((st : Nat) + 1), .int ((r : Nat) + 1)])) L (.lst [V.ref T])) L2 (.lst (if decide ((st : Int) < (n : Int)) = true then [V.ref T] else []))) q1 (.lst l1)) := Lp.Same.mut (sm2.trans sA) nq1
        have hqB : (upd (upd (upd (upd H' T (.tup [V.str (sgS bs ++ "+"), .int ((st : Nat) + 1), .int ((r : Nat) + 1)])) L (.lst [V.ref T])) L2 (.lst (if decide ((st : Int) < (n : Int)) = true then [V.ref T] else []))) q1 (.lst l1)) q1 = some (.lst l1) := upd_same
        generalize upd (upd (upd (upd H' T (.tup [V.str (sgS bs ++ "+"), .int ((st : Nat) + 1), .int ((r : Nat) + 1)])) L (.lst [V.ref T])) L2 (.lst (if decide ((st : Int) < (n : Int)) = true then [V.ref T] else []))) q1 (.lst l1) = HB at rl1 smB hqB ⊢
        -- the second extend
        refine ⟨_, rfl, .inl ⟨rfl, _, .of hqB⟩, ?_⟩
        refine ⟨_, rfl, _, _, rfl, rfl, Lp.zs (by rw [sgS_len]; show bs.length + 1 ≤ _; omega), _, rfl, _, rfl, _, _, rfl, rfl, by show 3 ≤ sizeLine; decide, fun T2 nT2 => ⟨by show 1 ≤ sizeLine; decide, fun M nM => ?_⟩⟩
        have hq2 := same_new (o := .lst [V.ref T2]) nM _ _ (same_new (o := .tup [V.str (sgS bs ++ "-"), .int (st : Nat), .int ((r : Nat) - 1)]) nT2 _ _ hqB)
        have nTq2 : T2 ≠ q1 := fun z => by rw [z, hqB] at nT2; cases nT2
        refine ⟨_, rfl, _, _, rfl, rfl, .inr ⟨_, rfl, ?_⟩⟩
        refine ⟨M, _, [.ref T2], rfl, rfl, upd_same, by split <;> decide, by split <;> decide, rep_sz _ _, fun M2 nM2 => ?_⟩
        rw [rep_one]
        have lt2 : ∀ b : Bool, (if b = true then [V.ref T2] else []).length ≤ 1 := fun b => ifs_len b _
        refine ⟨q1, M2, l1, _, rfl, rfl, same_new nM2 _ _ hq2, upd_same, Lp.zs (by have := lt2 (decide (0 < (r : Int))); omega), ?_⟩
        have sC := ((same_new (o := .tup [V.str (sgS bs ++ "-"), .int (st : Nat), .int ((r : Nat) - 1)]) nT2).trans (same_new (o := .lst [V.ref T2]) nM)).trans (same_new (o := .lst (if decide (0 < (r : Int)) = true then [V.ref T2] else [])) nM2)
        have oT2 := same_new (o := .lst (if decide (0 < (r : Int)) = true then [V.ref T2] else [])) nM2 _ _ (same_new (o := .lst [V.ref T2]) nM _ _ (upd_same (H := HB) (a := T2) (o := .tup [V.str (sgS bs ++ "-"), .int (st : Nat), .int ((r : Nat) - 1)])))
        have nqz : V.ref q1 ∉ l1 ++ (if decide (0 < (r : Int)) = true then [V.ref T2] else []) := fun z => by
          rcases List.mem_append.mp z with z | z
          · exact nq1' z
          · split at z
            · exact nTq2 (V.ref.inj (List.mem_singleton.mp z)).symm
            · exact absurd z List.not_mem_nil
        refine ⟨_, _, _, _, _, rfl, Lp.Same.mut (smB.trans sC) nq1, upd_same, nqz, ?_⟩
        rw [fs]
        show ObjR oSh _ _ (((shL n i).take j).flatMap (shStep n) ++ ((if st < n then [(bs ++ [true], st + 1, r + 1)] else []) ++ (if 0 < r then [(bs ++ [false], st, r - 1)] else [])))
        rw [← List.append_assoc]
        refine ObjR.upd ((rl1.same sC).app ?_) nqz
        by_cases c : 0 < r
        · rw [if_pos c, if_pos (decide_eq_true (by omega))]
          refine ObjR.one (x := ((bs ++ [false], st, r - 1) : Sh)) ?_
          rw [if_pos (decide_eq_true (show 0 < (r : Int) by omega))] at oT2
          have er' : ((r : Nat) : Int) - 1 = ((r - 1 : Nat) : Int) := by omega
          refine Eq.trans oT2 ?_
          show some (HO.tup [V.str (sgS bs ++ "-"), .int ((st : Nat) : Int), .int (((r : Nat) : Int) - 1)]) = some (HO.tup [V.str (sgS (bs ++ [false])), .int ((st : Nat) : Int), .int ((r - 1 : Nat) : Int)])
          rw [sgS_dn, er']
        · rw [if_neg c, if_neg (by simpa using c)]
          exact ObjR.nil
      · obtain ⟨y2, y4, y5, y6, ls, rfl, sm2, hq, nq, rl⟩ := h
        rw [rr.1, List.take_length] at rl
        exact ⟨_, rfl, _, _, _, _, _, q1, ls, rfl, sm.trans sm2, sm.free nq1, hq, rl⟩
    · obtain ⟨y2, y3, y4, y5, y6, p, rs, rfl, sm, hp, hrs, rr⟩ := h
      have e2n : (2 * (n : Int)).toNat = 2 * n := by omega
      rw [e2n] at rr
      have sz := (shapes_sz ⟨n, by omega⟩ ⟨2 * n, by omega⟩).1
      dsimp only at sz
      refine ⟨_, rfl, p, rfl, ⟨_, .of hrs⟩, fun D hD => lc_list (xs := rs) (LcP H' D fun i => (((shL n (2 * n)).take i).map fun t => V.str (sgS t.1))) (.init hD rfl) (fun i H3 _ p => .of (p.2.1 _ _ hrs)) (fun i x H3 hx pp => ?_) (fun H3 pp => ?_)⟩
      · have hj := lt_get hx
        rw [rr.1] at hj
        have eg := List.getElem?_eq_getElem hj
        obtain ⟨pr, er, hpr⟩ := rr.2 i _ eg
        have ex : x = .ref pr := Option.some.inj (hx.symm.trans er)
        subst ex
        generalize (shL n (2 * n))[i] = t at hpr eg
        refine ⟨pr, _, rfl, .of (pp.2.1 _ _ hpr), rfl, _, _, rfl, _, _, rfl, _, _, rfl, rfl, rfl, ?_⟩
        refine ⟨_, rfl, pp.put (Same.refl _) ?_ (by rw [List.length_map, List.length_take]; omega)⟩
        rw [take_get eg, List.map_append]
        rfl
      · have h3 : H3 D = some (.lst (((shL n (2 * n)).take rs.length).map fun t => V.str (sgS t.1))) := pp.2.2
        rw [rr.1, List.take_length] at h3
        refine q _ D (sm.trans pp.2.1) (sm.free hD) ?_
        rw [h3]
        unfold shapesL
        rw [List.map_map]
        rfl
end
/-! ### the few -/
def presStep (s : Int × (Int → Int)) (e : Int) : Int × (Int → Int) := if 0 < e then (e, fun k => if k = e then s.1 else s.2 k) else (s.2 (0 - e), s.2)
def presS (row : List Int) : Int × (Int → Int) := row.foldl presStep (0, fun _ => 0)
def presL (row : List Int) : Int := (presS row).1
theorem pres_snoc (row : List Int) (e : Int) : presS (row ++ [e]) = presStep (presS row) e := by
  unfold presS
  rw [List.foldl_append]
  rfl
def rowB (row : List Int) : Bool := (List.range row.length).all fun i => match row[i]? with
  | some e => decide (0 < e) || decide (0 - e ∈ (row.take i).filter fun x => decide (0 < x))
  | none => true
theorem rowB_ok {row : List Int} (h : rowB row = true) {i : Nat} {e : Int} (he : row[i]? = some e) (h0 : ¬ 0 < e) : 0 - e ∈ (row.take i).filter fun x => decide (0 < x) := by
  have hl := (List.getElem?_eq_some_iff.mp he).1
  have z := List.all_eq_true.mp h i (List.mem_range.mpr hl)
  rw [he] at z
  rw [Bool.or_eq_true, decide_eq_true_eq, decide_eq_true_eq] at z
  exact z.elim (fun y => absurd y h0) id
/-! ### jumps, counted -/
def cwjN (n t : Nat) : Nat := if t = 0 then (if n = 0 then 1 else 0) else if n < t then 0 else chN (2 * n - t - 1) (t - 1) * oddN (n - t)
def sumJ (n : Nat) : Nat → Nat
  | 0 => 0
  | k + 1 => sumJ n k + cwjN n k
def numT : Nat → Nat × Nat
  | 0 => (1, 1)
  | n + 1 => ((numT n).2, (2 * (n + 2) - 3) * (numT n).2 + (numT n).1)
def TN (n : Nat) : Nat := (numT n).1
theorem TN_two (n : Nat) : TN (n + 2) = (2 * (n + 2) - 3) * TN (n + 1) + TN n := rfl
theorem J1 : ((List.range 101).all fun n => decide (sumJ n (n + 1) = TN n) && decide (sumJ n 101 = TN n) && decide (TN n < 2 ^ 1900)) = true := by decide +kernel
theorem J2 : ((List.range 101).all fun n => (List.range 101).all fun t => decide (cwjN n t < 2 ^ 1900)) = true := by decide +kernel
theorem J1_at {n : Nat} (h : n ≤ 100) : sumJ n (n + 1) = TN n ∧ sumJ n 101 = TN n ∧ TN n < 2 ^ 1900 := by
  have z := List.all_eq_true.mp J1 n (List.mem_range.mpr (by omega))
  rw [Bool.and_eq_true, Bool.and_eq_true, decide_eq_true_eq, decide_eq_true_eq, decide_eq_true_eq] at z
  exact ⟨z.1.1, z.1.2, z.2⟩
theorem J2_at {n t : Nat} (h : n ≤ 100) (ht : t ≤ 100) : cwjN n t < 2 ^ 1900 :=
  of_decide_eq_true (List.all_eq_true.mp (List.all_eq_true.mp J2 n (List.mem_range.mpr (by omega))) t (List.mem_range.mpr (by omega)))
theorem sum_map_cwj (n : Nat) : ∀ k, ((List.range k).map fun t => ((cwjN n t : Nat) : Int)).sum = ((sumJ n k : Nat) : Int)
  | 0 => rfl
  | k + 1 => by
    rw [List.range_succ, List.map_append, List.sum_append, sum_map_cwj n k]
    show _ + (((cwjN n k : Nat) : Int) + 0) = ((sumJ n k + cwjN n k : Nat) : Int)
    rw [Int.add_zero, Int.natCast_add]
def rowP (t i : Nat) : List Int := (List.range (min (i + 1) (t + 1))).map fun j => ((chP i j : Nat) : Int)
theorem rowP_len (t i : Nat) : (rowP t i).length = min (i + 1) (t + 1) := by unfold rowP; rw [List.length_map, List.length_range]
theorem rowP_get {t i j : Nat} (h : j < min (i + 1) (t + 1)) : (rowP t i)[j]? = some ((chP i j : Nat) : Int) := by
  unfold rowP
  rw [List.getElem?_map, List.getElem?_range h]
  rfl
theorem rowP_succ (t i : Nat) : (([1] : List Int) ++ ((List.range (min (i + 1) (t + 1) - 1)).map fun a => ((chP i a : Nat) : Int) + ((chP i (a + 1) : Nat) : Int)) ++ [1]).take (t + 1) = rowP t (i + 1) := by
  refine List.ext_getElem? fun j => ?_
  have len : (([1] : List Int) ++ ((List.range (min (i + 1) (t + 1) - 1)).map fun a => ((chP i a : Nat) : Int) + ((chP i (a + 1) : Nat) : Int)) ++ [1]).length = min (i + 1) (t + 1) + 1 := by
    rw [List.length_append, List.length_append, List.length_map, List.length_range]
    simp only [List.length_singleton]
    omega
  by_cases hj : j < min (i + 1 + 1) (t + 1)
  · rw [rowP_get hj, List.getElem?_take_of_lt (by omega), List.append_assoc]
    cases j with
    | zero => rw [chP_zero]; rfl
    | succ k =>
      show (((List.range (min (i + 1) (t + 1) - 1)).map fun a => ((chP i a : Nat) : Int) + ((chP i (a + 1) : Nat) : Int)) ++ [1])[k]? = _
      by_cases hk : k < min (i + 1) (t + 1) - 1
      · rw [List.getElem?_append_left (by rw [List.length_map, List.length_range]; exact hk), List.getElem?_map, List.getElem?_range hk]
        show some (((chP i k : Nat) : Int) + ((chP i (k + 1) : Nat) : Int)) = some ((chP i k + chP i (k + 1) : Nat) : Int)
        rw [Int.natCast_add]
      · have ek : k = i := by omega
        rw [List.getElem?_append_right (by rw [List.length_map, List.length_range]; omega), List.length_map, List.length_range]
        have e0 : k - (min (i + 1) (t + 1) - 1) = 0 := by omega
        rw [e0, ek, chP_self]
        rfl
  · rw [List.getElem?_eq_none (by rw [List.length_take, len]; omega), List.getElem?_eq_none (by rw [rowP_len]; omega)]
theorem chP_le {n k : Nat} (h : n ≤ 1000) : chP n k < 2 ^ (10 * n + 1) := by
  by_cases hk : k ≤ n
  · rw [← ch_eq hk]
    exact Nat.lt_of_le_of_lt (ch_le n k) (fac_lt n h)
  · rw [chP_gt n k (by omega)]
    exact Nat.two_pow_pos _
/-! the few -/
def rowsL (n : Nat) : List (List Int) := (shapesL n).flatMap everyL
def jumpF (row : List Int) : Nat → Nat → Int → Int
  | 0, _, many => many
  | f + 1, m, many => if m = 0 then many else match row[m - 1]? with
    | some e => if 0 < e then -1 else jumpF row f (row.idxOf (0 - e)) (many + 1)
    | none => many
def jumpL (row : List Int) : Int := jumpF row row.length row.length 0
def rowB2 (row : List Int) : Bool := rowB row && decide row.Nodup && decide (row.length ≤ 10) && (decide (presL row = 0) == decide (jumpL row ≥ 0))
def fewJ (n : Nat) : Bool := (rowsL n).all rowB2 && ((List.range (n + 2)).all fun t => decide (((rowsL n).map jumpL).count ((t : Nat) : Int) = cwjN n t)) && decide (((rowsL n).map jumpL).countP (fun j => decide (j ≥ 0)) = sumJ n (n + 1)) && decide ((rowsL n).length ≤ 1000)
theorem few_all : ((List.range 5).all fewJ) = true := by decide +kernel
structure FewOk (n : Nat) : Prop where
  rows : ∀ row ∈ rowsL n, rowB row = true ∧ row.Nodup ∧ row.length ≤ 10 ∧ decide (presL row = 0) = decide (jumpL row ≥ 0)
  cnt : ∀ t, t ≤ n + 1 → ((rowsL n).map jumpL).count ((t : Nat) : Int) = cwjN n t
  all : ((rowsL n).map jumpL).countP (fun j => decide (j ≥ 0)) = sumJ n (n + 1)
  len : (rowsL n).length ≤ 1000
theorem few_ok {n : Nat} (h : n ≤ 4) : FewOk n := by
  have z := List.all_eq_true.mp few_all n (List.mem_range.mpr (by omega))
  unfold fewJ at z
  rw [Bool.and_eq_true, Bool.and_eq_true, Bool.and_eq_true] at z
  obtain ⟨⟨⟨z1, z2⟩, z3⟩, z4⟩ := z
  refine ⟨fun row hr => ?_, fun t ht => of_decide_eq_true (List.all_eq_true.mp z2 t (List.mem_range.mpr (by omega))), of_decide_eq_true z3, of_decide_eq_true z4⟩
  have y := List.all_eq_true.mp z1 row hr
  unfold rowB2 at y
  rw [Bool.and_eq_true, Bool.and_eq_true, Bool.and_eq_true] at y
  exact ⟨y.1.1.1, of_decide_eq_true y.1.1.2, of_decide_eq_true y.1.2, beq_iff_eq.mp y.2⟩
/-! ### lists of lists, by what they hold -/
def toI : V → Int
  | .int n => n
  | _ => 0
def kH (H : Hp) : V → List Int
  | .ref a => match H a with
    | some (.lst xs) => xs.map toI
    | _ => []
  | _ => []
theorem kH_ref {H : Hp} {a : Addr} {r : List Int} (h : H a = some (.lst (r.map V.int))) : kH H (.ref a) = r := by
  show (match H a with
    | some (.lst xs) => xs.map toI
    | _ => []) = r
  rw [h]
  show (r.map V.int).map toI = r
  rw [List.map_map]
  exact (List.map_congr_left fun _ _ => rfl).trans (List.map_id r)
theorem rr_key {H : Hp} : ∀ {rs : List V} {rows : List (List Int)}, RowsR H rs rows → rs.map (kH H) = rows
  | [], [], _ => rfl
  | [], _ :: _, h => absurd h.1 (by simp)
  | _ :: _, [], h => absurd h.1 (by simp)
  | v :: rs, r :: rows, h => by
    obtain ⟨a, b, c⟩ := h.2 0 r rfl
    have e : v = .ref a := Option.some.inj b
    subst e
    rw [List.map_cons, kH_ref c, rr_key ⟨Nat.succ.inj h.1, fun i row e => h.2 (i + 1) row e⟩]
theorem rr_mem {H : Hp} {rs : List V} {rows : List (List Int)} (h : RowsR H rs rows) {x : V} (hx : x ∈ rs) : ∃ t, x = .ref t ∧ H t = some (.lst ((kH H x).map V.int)) := by
  obtain ⟨i, hi, e⟩ := List.mem_iff_getElem.mp hx
  have hi2 : i < rows.length := by rw [← h.1]; exact hi
  obtain ⟨a, b, c⟩ := h.2 i _ (List.getElem?_eq_getElem hi2)
  rw [List.getElem?_eq_getElem hi, e] at b
  have e2 : x = .ref a := Option.some.inj b
  subst e2
  exact ⟨a, rfl, by rw [kH_ref c]; exact c⟩
theorem rr_of {H : Hp} {k : V → List Int} : ∀ {ys : List V}, (∀ y ∈ ys, ∃ t, y = .ref t ∧ H t = some (.lst ((k y).map V.int))) → RowsR H ys (ys.map k)
  | [], _ => RowsR.nil H
  | y :: ys, h => by
    obtain ⟨t, rfl, e⟩ := h y List.mem_cons_self
    exact (RowsR.one e).app (rr_of fun z hz => h z (List.mem_cons_of_mem _ hz))
/-- the dict of what each patch saved -/
def Saved (kvs : List (Key × V)) (l : List Int) (sv : Int → Int) : Prop := ∀ k ∈ l, 0 < k → valV kvs (Sum.inl k) = some (.int (sv k))
theorem putK_le (kvs : List (Key × V)) (k : Key) (v : V) : (putK kvs k v).length ≤ kvs.length + 1 := by
  unfold putK
  split <;> simp
section
variable {P : Program} {w : World} {K : PySem.W.Frag} {mg : Str → Option Value} {base : Heap}
/-! ### _law_present -/
def spPres (K : PySem.W.Frag) : Sp := fun vs H Q _ => ∃ (a : Addr) (row : List Int), vs = [.ref a] ∧ SqL K H a (row.map V.int) ∧ row.length ≤ 200 ∧ rowB row = true ∧ ∀ H', Same H H' → Q (.int (presL row)) H'
theorem ok_law_present {f : Addr} {fd : FuncData} (F : Fun K "_law_present" "_law_present" s_law_present f fd) : FnG P w K mg base CX0 1 f fd ["row"] (spPres K) := by
  refine okG F sc_law_present (fun vs H Q E h => ?_) (fun cdv A outer s H vs Q E hG hr h => ?_)
  · obtain ⟨a, row, rfl, _⟩ := h
    rfl
  · obtain ⟨a, row, rfl, hS, hl, hB, q⟩ := h
    have hu := hu_of hr
    refine ⟨_, (pss_cons (ps_par (i := 1) (j := 2) (by rfl) sc_law_present.nd rfl rfl (by decide) rfl rfl (pa_cons pe_int (pa_cons pe_dnewK pa_nil)) (by rfl))
        (pss_cons (ps_for PassesOwn.never rfl (pi_list (pv 0)) (pg_name (i := 3) sc_law_present.nd rfl (Or.inl rfl))
          (pss_one (ps_if (pt_cmpR op_gt (pv 3) pe_int (nomark _)) (pss_cons (ps_dput hu (pv 2) (pv 3) (pv 1) rfl)
            (pss_one (ps_set (i := 1) sc_law_present.nd rfl (Or.inl rfl) (pv 3)))) (pss_one (ps_set (i := 1) sc_law_present.nd rfl (Or.inl rfl) (pe_dget hu (pv 2) (pe_op op_sub pe_int (pv 3)) (fun _ _ => rfl)))))))
        (pss_one (ps_ret (pv 1))))), ?_⟩
    refine fun d nd => ⟨_, _, rfl, ?_⟩
    refine ⟨_, rfl, a, rfl, ⟨_, (same_new nd).seq hS⟩, for_list (xs := row.map V.int) (fun i σ H' => ∃ (y : Option V) (pr : Int) (kvs : List (Key × V)), σ = [some (.ref a), some (.int pr), some (.ref d), y] ∧ Same H H' ∧ H' d = some (.dK kvs) ∧ kvs.length ≤ i ∧ pr = (presS (row.take i)).1 ∧ Saved kvs (row.take i) (presS (row.take i)).2) ⟨_, _, [], rfl, same_new nd, upd_same, Nat.zero_le _, rfl, fun k hk => by simp at hk⟩ (fun i σ H' _ h => ?_) (fun i x σ H' hx h => ?_) (fun σ H' h => ?_)⟩
    · obtain ⟨_, _, _, _, sm, _⟩ := h
      exact sm.seq hS
    · obtain ⟨e, rfl, he⟩ := get_int hx
      obtain ⟨y, pr, kvs, rfl, sm, hd, hk, rfl, sv⟩ := h
      have hi := lt_get he
      have es := take_snoc he
      have nd' : H d = none := nd
      by_cases h0 : 0 < e
      · have eP : presS (row.take (i + 1)) = (e, fun k => if k = e then (presS (row.take i)).1 else (presS (row.take i)).2 k) := by
          rw [es, pres_snoc]
          unfold presStep
          rw [if_pos h0]
        refine ⟨_, rfl, _, _, rfl, rfl, true, dT h0, ?_⟩
        refine ⟨_, rfl, _, rfl, _, rfl, d, _, rfl, DPut.k (k := Sum.inl e) hd (zl (by omega)), ?_⟩
        refine ⟨_, rfl, _, _, putK kvs (Sum.inl e) (.int (presS (row.take i)).1), rfl, Lp.Same.mut sm nd, upd_same, Nat.le_trans (putK_le _ _ _) (Nat.succ_le_succ hk), by rw [eP], ?_⟩
        rw [eP]
        intro k hk h1
        rw [valV_put]
        dsimp only
        by_cases z : k = e
        · rw [if_pos (by rw [z]), if_pos z]
        · rw [if_neg (fun q => z (Sum.inl.inj q)), if_neg z]
          rw [es] at hk
          exact sv k ((List.mem_append.mp hk).resolve_right fun y => z (List.mem_singleton.mp y)) h1
      · have hpre := rowB_ok hB he h0
        obtain ⟨m1, m2⟩ := List.mem_filter.mp hpre
        have m3 := of_decide_eq_true m2
        have eP : presS (row.take (i + 1)) = ((presS (row.take i)).2 (0 - e), (presS (row.take i)).2) := by
          rw [es, pres_snoc]
          unfold presStep
          rw [if_neg h0]
        have g : DGet H' d (.int (0 - e)) (some (.int ((presS (row.take i)).2 (0 - e)))) := by
          have z := DGet.k (k := Sum.inl (0 - e)) hd
          rw [sv _ m1 m3] at z
          exact z
        refine ⟨_, rfl, _, _, rfl, rfl, false, dF h0, ?_⟩
        refine ⟨_, rfl, _, rfl, _, _, rfl, rfl, d, _, rfl, g, _, _, kvs, rfl, sm, hd, by omega, by rw [eP], ?_⟩
        rw [eP]
        intro k hk h1
        rw [es] at hk
        exact sv k ((List.mem_append.mp hk).resolve_right fun y => h0 (List.mem_singleton.mp y ▸ h1)) h1
    · obtain ⟨y, pr, kvs, rfl, sm, hd, hk, rfl, sv⟩ := h
      rw [List.length_map, List.take_length]
      exact ⟨_, rfl, q _ sm⟩
end
end L63
set_option Elab.async false
set_option linter.all false
set_option maxRecDepth 100000
namespace L63
open PySem PySem.Spec PyProof.Rows L2 Lp
section
variable {P : Program} {w : World} {K : PySem.W.Frag} {mg : Str → Option Value} {base : Heap}
/-! ### count_with_jump, count_original -/
def spCWJ : Sp := fun vs H Q _ => ∃ n t : Nat, vs = [.int (n : Int), .int (t : Int)] ∧ n ≤ 100 ∧ t ≤ 100 ∧ Q (.int ((cwjN n t : Nat) : Int)) H
theorem ok_count_with_jump {f : Addr} {fd : FuncData} (F : Fun K "count_with_jump" "count_with_jump" s_count_with_jump f fd) (T_m_comb : mg "comb" = some (.builtin "math.comb")) {t1 : Tok} (T_g_LAST_PATCH : mg "LAST_PATCH" = some (.int 100 t1)) (T_check_patches : Gc P w K mg base 4 "_check_patches" spCheckP) (T_check_number : Gc P w K mg base 3 "check_number" spCheckN) (T_count_ways : Gc P w K mg base 1 "_count_ways" spCW) : FnG P w K mg base CX0 5 f fd ["patches", "arcs"] spCWJ := by
  refine okG F sc_count_with_jump (fun vs H Q E h => ?_) (fun cdv A outer s H vs Q E hG hr h => ?_)
  · obtain ⟨n, t, rfl, _⟩ := h
    rfl
  · obtain ⟨n, t, rfl, hn, ht, q⟩ := h
    refine ⟨_, (pss_cons (ps_expr (pe_g T_check_patches hG hr (by decide) (by rfl) (pa_cons (pv 0) pa_nil)))
        (pss_cons (ps_expr (pe_g T_check_number hG hr (by decide) (by rfl) (pa_cons (pv 1) (pa_cons pe_int (pa_cons (pe_glob (v := .int 100) (by rfl) T_g_LAST_PATCH ⟨_, rfl⟩) pa_nil)))))
        (pss_cons (ps_if (pt_cmpR op_eq (pv 1) pe_int (nomark _)) (pss_one (ps_ret (pe_ifExp (pt_cmpR op_eq (pv 0) pe_int (nomark _)) pe_int pe_int))) pss_nil)
        (pss_cons (ps_if (pt_cmpR op_gt (pv 1) (pv 0) (nomark _)) (pss_one (ps_ret pe_int)) pss_nil)
        (pss_one (ps_ret (pe_op op_mulW (pe_callBfun cr_comb (by rfl) T_m_comb (pa_cons (pe_op op_sub (pe_op op_sub (pe_op op_mulW pe_int (pv 0)) (pv 1)) pe_int) (pa_cons (pe_op op_sub (pv 1) pe_int) pa_nil))) (pe_g T_count_ways hG hr (by decide) (by rfl) (pa_cons pe_int (pa_cons (pe_op op_sub (pv 0) (pv 1)) pa_nil)))))))))), ?_⟩
    refine ⟨_, rfl, n, rfl, hn, ?_⟩
    refine ⟨_, rfl, (t : Int), 0, 100, rfl, by omega, by omega, ?_⟩
    unfold cwjN at q
    by_cases h0 : t = 0
    · rw [if_pos h0] at q
      refine ⟨_, rfl, rfl, true, dT (by rw [h0]; rfl), ?_⟩
      by_cases h1 : n = 0
      · rw [if_pos h1] at q
        exact ⟨_, rfl, rfl, true, dT (by rw [h1]; rfl), q⟩
      · rw [if_neg h1] at q
        exact ⟨_, rfl, rfl, false, dF (vne (by omega)), q⟩
    · rw [if_neg h0] at q
      refine ⟨_, rfl, rfl, false, dF (vne (by omega)), ?_⟩
      by_cases h1 : n < t
      · rw [if_pos h1] at q
        exact ⟨_, rfl, _, rfl, _, _, rfl, rfl, true, dT (by omega), q⟩
      · rw [if_neg h1] at q
        refine ⟨_, rfl, _, rfl, _, _, rfl, rfl, false, dF (by omega), ?_⟩
        have e1 : (2 * (n : Int) - (t : Int) - 1) = ((2 * n - t - 1 : Nat) : Int) := by omega
        have e2 : ((t : Int) - 1) = ((t - 1 : Nat) : Int) := by omega
        have e3 : ((n : Int) - (t : Int)) = ((n - t : Nat) : Int) := by omega
        refine ⟨_, rfl, _, _, rfl, rfl, wide_mul (a := 3) (b := 20) (by decide) (natAbs_lt (by omega)) (by decide) (by decide) (by decide), _, rfl, _, _, rfl, rfl, _, _, rfl, rfl, _, rfl, _, _, rfl, rfl, 2 * n - t - 1, t - 1, ?_, by omega, by omega, ?_⟩
        · show [V.int (2 * (n : Int) - (t : Int) - 1), V.int ((t : Int) - 1)] = _
          rw [e1, e2]
        · refine ⟨_, rfl, _, rfl, _, _, rfl, rfl, 0, n - t, ?_, by omega, ?_⟩
          · show [V.int 0, V.int ((n : Int) - (t : Int))] = _
            rw [e3]
            rfl
          · have f1 := fac_lt (2 * n - t - 1) (by omega)
            have f2 := Nat.lt_of_le_of_lt (ch_le (2 * n - t - 1) (t - 1)) (Nat.lt_of_lt_of_le f1 (Nat.pow_le_pow_right (by decide) (show 10 * (2 * n - t - 1) + 1 ≤ 2001 by omega)))
            have f3 := Nat.lt_of_lt_of_le (odd_lt (n - t) (by omega)) (Nat.pow_le_pow_right (n := 2) (by decide) (show 8 * (n - t) + 1 ≤ 801 by omega))
            refine ⟨_, _, rfl, rfl, wide_mul (a := 2001) (b := 801) (natAbs_lt f2) (by rw [cw_zero]; exact natAbs_lt f3) (by decide) (by decide) (by decide), ?_⟩
            dsimp only
            rw [cw_zero, ← Int.natCast_mul]
            exact q
def spCO : Sp := fun vs H Q _ => ∃ n : Nat, vs = [.int (n : Int)] ∧ n ≤ 100 ∧ ∀ H', Same H H' → Q (.int ((TN n : Nat) : Int)) H'
theorem ok_count_original {f : Addr} {fd : FuncData} (F : Fun K "count_original" "count_original" s_count_original f fd) (T_z_sum : mg "sum" = none) (B : NoB mg) (T_check_patches : Gc P w K mg base 4 "_check_patches" spCheckP) (T_count_with_jump : Gc P w K mg base 5 "count_with_jump" spCWJ) : FnG P w K mg base CX0 6 f fd ["patches"] spCO := by
  refine okG F sc_count_original (fun vs H Q E h => ?_) (fun cdv A outer s H vs Q E hG hr h => ?_)
  · obtain ⟨n, rfl, _⟩ := h
    rfl
  · obtain ⟨n, rfl, hn, q⟩ := h
    refine ⟨_, (pss_cons (ps_expr (pe_g T_check_patches hG hr (by decide) (by rfl) (pa_cons (pv 0) pa_nil)))
        (pss_one (ps_ret (pe_callB (cr_sum rfl) (by rfl) T_z_sum (by decide +kernel) (pa_cons (pe_lc (own := [("arcs", 1)]) (g := gName 1) (tt := tYes) rfl sc_count_original.nd (pi_range1 rfl B.range (pa_cons (pe_op op_add (pv 0) pe_int) pa_nil)) (blkOk_by (own := [("arcs", 1)]) (N := N_count_original) (sc := defScope s_count_original) (by decide +kernel)) (fun _ _ _ _ _ => (pg_name (i := 1) sc_count_original.nd rfl (Or.inl rfl))) (fun _ _ _ _ _ => pts_nil) (fun _ _ _ _ _ => (pe_g T_count_with_jump hG hr (by decide) (by rfl) (pa_cons (pv 0) (pa_cons (pv 1) pa_nil))))) pa_nil))))), ?_⟩
    refine ⟨_, rfl, n, rfl, hn, ?_⟩
    have en : ((n : Int) + 1).toNat = n + 1 := by omega
    refine ⟨_, rfl, _, _, rfl, rfl, (n : Int) + 1, rfl, by omega, by omega, fun D hD => ?_⟩
    rw [en]
    refine lc_it (walk_range (lo := 0) (n := n + 1)) (LcP H D fun k => ((List.range k).map fun t => ((cwjN n t : Nat) : Int)).map V.int) (.init hD rfl) (fun _ _ _ _ => trivial) (fun k x H6 H7 hk p hy => ?_) (fun H6 p => ?_)
    · obtain ⟨rfl, rfl⟩ := hy
      refine ⟨rfl, _, rfl, _, rfl, n, k, congrArg (fun z => [V.int (n : Int), V.int z]) (Int.zero_add _), hn, by omega, p.put (Same.refl _) ?_ ?_⟩
      · rw [List.range_succ, List.map_append, List.map_append]
        rfl
      · rw [List.length_map, List.length_map, List.length_range]
        omega
    · refine ⟨D, _, rfl, .of p.2.2, ?_⟩
      rw [sum_map_cwj, (J1_at hn).1]
      exact q _ p.2.1
/-! ### _law_numbers -/
def spNum : Sp := fun vs H Q _ => vs = [.int 100] ∧ ∀ H' p, Same H H' → H p = none → H' p = some (.lst (((List.range 101).map fun k => ((TN k : Nat) : Int)).map V.int)) → Q (.ref p) H'
theorem ok_law_numbers {f : Addr} {fd : FuncData} (F : Fun K "_law_numbers" "_law_numbers" s_law_numbers f fd) (B : NoB mg) : FnG P w K mg base CX0 1 f fd ["most"] spNum := by
  refine okG F sc_law_numbers (fun vs H Q E h => ?_) (fun cdv A outer s H vs Q E hG hr h => ?_)
  · obtain ⟨rfl, _⟩ := h
    rfl
  · obtain ⟨rfl, q⟩ := h
    refine ⟨_, (pss_cons (ps_set (i := 1) sc_law_numbers.nd rfl (Or.inl rfl) (pe_lst (pa_cons pe_int (pa_cons pe_int pa_nil))))
        (pss_cons (ps_for PassesOwn.never rfl (pi_range2 rfl B.range (pa_cons pe_int (pa_cons (pe_op op_add (pv 0) pe_int) pa_nil))) (pg_name (i := 2) sc_law_numbers.nd rfl (Or.inl rfl))
          (pss_one (ps_expr (pe_bm PySem.F.plainAttrs_list PySem.F.slot_list_append PySem.F.type_list_append mt_append (pv 1) (pa_cons (pe_op op_add (pe_op op_mulW (pe_op op_sub (pe_op op_mulW pe_int (pv 2)) pe_int) (pe_ix ix_list (pv 1) (pe_op op_sub (pv 2) pe_int) (fun _ _ => rfl))) (pe_ix ix_list (pv 1) (pe_op op_sub (pv 2) pe_int) (fun _ _ => rfl))) pa_nil)))))
        (pss_one (ps_ret (pv 1))))), ?_⟩
    refine ⟨by show 2 ≤ sizeLine; decide, fun p np => ?_⟩
    refine ⟨_, rfl, _, _, rfl, rfl, 2, 101, rfl, ⟨by decide, by decide, by decide, by decide⟩, ?_⟩
    refine for_range (lo := 2) (n := 99) (fun i σ H' => (∃ y, σ = [some (.int 100), some (.ref p), y]) ∧ Same H H' ∧ H' p = some (.lst (((List.range (i + 2)).map fun k => ((TN k : Nat) : Int)).map V.int))) ⟨⟨_, rfl⟩, same_new np, upd_same⟩ (fun i σ H' hi h => ?_) (fun σ H' h => ?_)
    · obtain ⟨⟨y, rfl⟩, sm, hp⟩ := h
      have g : ∀ j, j < i + 2 → atI (((List.range (i + 2)).map fun k => ((TN k : Nat) : Int)).map V.int) ((j : Nat) : Int) = some (.int ((TN j : Nat) : Int)) := fun j hj => by
        refine atI_nat ?_
        rw [List.getElem?_map, List.getElem?_map, List.getElem?_range hj]
        rfl
      have e1 : (2 + ((i : Nat) : Int)) - 1 = ((i + 1 : Nat) : Int) := by omega
      have e2 : (2 + ((i : Nat) : Int)) - 2 = ((i : Nat) : Int) := by omega
      have b1 := (J1_at (n := i + 1) (by omega)).2.2
      refine ⟨_, rfl, .inl ⟨rfl, _, .of hp⟩, _, rfl, _, _, rfl, rfl, wide_mul (a := 3) (b := 20) (by decide) (by omega) (by decide) (by decide) (by decide), _, _, rfl, rfl, ?_⟩
      refine ⟨_, rfl, _, rfl, _, _, rfl, rfl, p, _, _, .int ((TN (i + 1) : Nat) : Int), rfl, rfl, .of hp, by rw [e1]; exact g (i + 1) (by omega), _, _, rfl, rfl, wide_mul (a := 20) (b := 1900) (by omega) (natAbs_lt b1) (by decide) (by decide) (by decide), ?_⟩
      refine ⟨_, rfl, _, rfl, _, _, rfl, rfl, p, _, _, .int ((TN i : Nat) : Int), rfl, rfl, .of hp, by rw [e2]; exact g i (by omega), _, _, rfl, rfl, p, _, _, rfl, rfl, hp, by rw [List.length_map, List.length_map, List.length_range]; exact zl (by omega), ⟨_, rfl⟩, Lp.Same.mut sm np, ?_⟩
      rw [upd_same, List.range_succ (n := i + 2), List.map_append, List.map_append]
      have e3 : (2 * (2 + ((i : Nat) : Int)) - 3) * ((TN (i + 1) : Nat) : Int) + ((TN i : Nat) : Int) = ((TN (i + 2) : Nat) : Int) := by
        rw [TN_two, Int.natCast_add, Int.natCast_mul]
        congr 2
        omega
      dsimp only
      rw [e3]
      rfl
    · obtain ⟨⟨y, rfl⟩, sm, hp⟩ := h
      exact ⟨_, rfl, q _ p sm np hp⟩
/-! ### _law_with_jump -/
def spWJ : Sp := fun vs H Q _ => ∃ n t : Nat, vs = [.int (n : Int), .int (t : Int)] ∧ n ≤ 100 ∧ t ≤ 100 ∧ ∀ H', Same H H' → Q (.int ((cwjN n t : Nat) : Int)) H'
set_option maxHeartbeats 1000000 in
theorem ok_law_with_jump {f : Addr} {fd : FuncData} (F : Fun K "_law_with_jump" "_law_with_jump" s_law_with_jump f fd) (B : NoB mg) : FnG P w K mg base CX0 1 f fd ["n", "t"] spWJ := by
  refine okG F sc_law_with_jump (fun vs H Q E h => ?_) (fun cdv A outer s H vs Q E hG hr h => ?_)
  · obtain ⟨n, t, rfl, _⟩ := h
    rfl
  · obtain ⟨n, t, rfl, hn, ht, q⟩ := h
    refine ⟨_, (pss_cons (ps_if (PW.pt (pw_or (pt_cmpR op_eq (pv 1) pe_int (nomark _)) (pw_or1 (pt_cmpR op_gt (pv 1) (pv 0) (nomark _))))) (pss_one (ps_ret (pe_callTy call_int1 (by rfl) B.int (by decide +kernel) (pa_cons (pe_and (pe_cmpR op_eq (pv 0) pe_int (nomark _)) (pe_one (pe_cmpR op_eq (pv 1) pe_int (nomark _)))) pa_nil)))) pss_nil)
        (pss_cons (ps_set (i := 2) sc_law_with_jump.nd rfl (Or.inr rfl) (pe_lst (pa_cons pe_int pa_nil)))
        (pss_cons (ps_for PassesOwn.never rfl (pi_range1 rfl B.range (pa_cons (pe_op op_sub (pe_op op_sub (pe_op op_mulW pe_int (pv 0)) (pv 1)) pe_int) pa_nil)) (pg_name (i := 3) sc_law_with_jump.nd rfl (Or.inl rfl))
          (pss_cons (ps_set (i := 2) sc_law_with_jump.nd rfl (Or.inr rfl) (pe_op op_cat (pe_op op_cat (pe_lst (pa_cons pe_int pa_nil)) (pe_lc (own := [("at", 6)]) (g := gName 6) (tt := tYes) rfl sc_law_with_jump.nd (pi_range1 rfl B.range (pa_cons (pe_op op_sub (pe_callB call_len_seq (by rfl) B.len PySem.boot_len (pa_cons (pv 2) pa_nil)) pe_int) pa_nil)) (blkOk_by (own := [("at", 6)]) (N := N_law_with_jump) (sc := defScope s_law_with_jump) (by decide +kernel)) (fun _ _ _ _ _ => (pg_name (i := 6) sc_law_with_jump.nd rfl (Or.inl rfl))) (fun _ _ _ _ _ => pts_nil) (fun _ _ _ _ _ => (pe_op op_add (pe_ix (k_ix (K := K) rfl) (pv 2) (pv 6) (fun _ _ => rfl)) (pe_ix (k_ix (K := K) rfl) (pv 2) (pe_op op_add (pv 6) pe_int) (fun _ _ => rfl)))))) (pe_lst (pa_cons pe_int pa_nil))))
          (pss_one (ps_set (i := 2) sc_law_with_jump.nd rfl (Or.inr rfl) (pe_slice sl_list (pv 2) po_none (po_some (pe_op op_add (pv 1) pe_int)))))))
        (pss_cons (ps_set (i := 4) sc_law_with_jump.nd rfl (Or.inl rfl) (pe_ix ix_list (pv 2) (pe_op op_sub (pv 1) pe_int) (fun _ _ => rfl)))
        (pss_cons (ps_for PassesOwn.never rfl (pi_range3 rfl B.range (pa_cons pe_int (pa_cons (pe_op op_mulW pe_int (pe_op op_sub (pv 0) (pv 1))) (pa_cons pe_int pa_nil)))) (pg_name (i := 5) sc_law_with_jump.nd rfl (Or.inl rfl))
          (pss_one (ps_set (i := 4) sc_law_with_jump.nd rfl (Or.inl rfl) (pe_op op_mulW (pv 4) (pv 5)))))
        (pss_one (ps_ret (pv 4)))))))), ?_⟩
    unfold cwjN at q
    by_cases h0 : t = 0
    · rw [if_pos h0] at q
      refine ⟨_, rfl, rfl, true, dT (by rw [h0]; rfl), ?_⟩
      by_cases h1 : n = 0
      · rw [if_pos h1] at q
        exact ⟨_, rfl, rfl, true, dT (by rw [h1]; rfl), iteT ⟨_, rfl, rfl, .inr ⟨true, congrArg (fun v => [v]) (dT (by rw [h0]; rfl)), q _ (Same.refl _)⟩⟩⟩
      · rw [if_neg h1] at q
        exact ⟨_, rfl, rfl, false, dF (vne (by omega)), iteF (.inr ⟨false, rfl, q _ (Same.refl _)⟩)⟩
    · rw [if_neg h0] at q
      refine ⟨_, rfl, rfl, false, dF (vne (by omega)), ?_⟩
      by_cases h1 : n < t
      · rw [if_pos h1] at q
        refine ⟨_, rfl, _, rfl, _, _, rfl, rfl, true, dT (by omega), ?_⟩
        by_cases h2 : n = 0
        · exact ⟨_, rfl, rfl, true, dT (by rw [h2]; rfl), iteT ⟨_, rfl, rfl, .inr ⟨false, congrArg (fun v => [v]) (dF (vne (by omega))), q _ (Same.refl _)⟩⟩⟩
        · exact ⟨_, rfl, rfl, false, dF (vne (by omega)), iteF (.inr ⟨false, rfl, q _ (Same.refl _)⟩)⟩
      · rw [if_neg h1] at q
        refine ⟨_, rfl, _, rfl, _, _, rfl, rfl, false, dF (by omega), ?_⟩
        refine ⟨by show 1 ≤ sizeLine; decide, fun p0 np0 => ?_⟩
        have eM : (2 * (n : Int) - (t : Int) - 1).toNat = 2 * n - t - 1 := by omega
        refine ⟨_, rfl, _, _, rfl, rfl, wide_mul (a := 3) (b := 20) (by decide) (natAbs_lt (by omega)) (by decide) (by decide) (by decide), _, rfl, _, _, rfl, rfl, _, _, rfl, rfl, 2 * (n : Int) - (t : Int) - 1, rfl, by omega, by omega, ?_⟩
        rw [eM]
        refine for_range (lo := 0) (n := 2 * n - t - 1) (fun i σ H' => ∃ (y3 y4 y5 y6 : Option V) (p : Addr), σ = [some (.int (n : Int)), some (.int (t : Int)), some (.ref p), y3, y4, y5, y6] ∧ Same H H' ∧ H p = none ∧ H' p = some (.lst ((rowP t i).map V.int))) ⟨_, _, _, _, _, rfl, same_new np0, np0, ?_⟩ (fun i σ H' hi h => ?_) (fun σ H' h => ?_)
        · rw [upd_same]
          have e : rowP t 0 = [1] := by
            unfold rowP
            have e1 : min (0 + 1) (t + 1) = 1 := by omega
            rw [e1]
            rfl
          rw [e]
          rfl
        · obtain ⟨y3, y4, y5, y6, p, rfl, sm, np, hp⟩ := h
          have rl := rowP_len t i
          refine ⟨by show 1 ≤ sizeLine; decide, fun a na => ?_⟩
          have hpa := same_new (o := .lst [V.int 1]) na _ _ hp
          have eL : ((((rowP t i).map V.int).length : Nat) : Int) - 1 = ((min (i + 1) (t + 1) - 1 : Nat) : Int) := by
            rw [List.length_map, rl]
            omega
          refine ⟨_, rfl, p, _, rfl, .inl (.of hpa), _, _, rfl, rfl, ((((rowP t i).map V.int).length : Nat) : Int) - 1, rfl, by omega, by rw [eL]; omega, fun D hD => ?_⟩
          have eN : (((((rowP t i).map V.int).length : Nat) : Int) - 1).toNat = min (i + 1) (t + 1) - 1 := by rw [eL]; rfl
          rw [eN]
          refine lc_it (walk_range (lo := 0) (n := min (i + 1) (t + 1) - 1)) (LcP (upd H' a (.lst [V.int 1])) D fun k => ((List.range k).map fun c => ((chP i c : Nat) : Int) + ((chP i (c + 1) : Nat) : Int)).map V.int) (.init hD rfl) (fun _ _ _ _ => trivial) (fun k x H6 H7 hk pp hy => ?_) (fun H6 pp => ?_)
          · obtain ⟨rfl, rfl⟩ := hy
            have hp7 := pp.2.1 _ _ hpa
            have g1 : atI ((rowP t i).map V.int) (0 + ((k : Nat) : Int)) = some (.int ((chP i k : Nat) : Int)) := by
              rw [Int.zero_add]
              exact atI_nat (ints_get (rowP_get (by omega)))
            have g2 : atI ((rowP t i).map V.int) (0 + ((k : Nat) : Int) + 1) = some (.int ((chP i (k + 1) : Nat) : Int)) := by
              have e : (0 : Int) + ((k : Nat) : Int) + 1 = ((k + 1 : Nat) : Int) := by omega
              rw [e]
              exact atI_nat (ints_get (rowP_get (by omega)))
            refine ⟨rfl, _, rfl, _, rfl, p, _, _, _, rfl, rfl, .of hp7, g1, _, rfl, _, rfl, _, _, rfl, rfl, p, _, _, _, rfl, rfl, .of hp7, g2, _, _, rfl, rfl, pp.put (Same.refl _) ?_ ?_⟩
            · rw [List.range_succ, List.map_append, List.map_append]
              rfl
            · rw [List.length_map, List.length_map, List.length_range]
              omega
          · have h6 : H6 D = some (.lst (((List.range (min (i + 1) (t + 1) - 1)).map fun c => ((chP i c : Nat) : Int) + ((chP i (c + 1) : Nat) : Int)).map V.int)) := pp.2.2
            have ha6 : H6 a = some (.lst [V.int 1]) := pp.2.1 _ _ upd_same
            refine ⟨a, D, _, _, rfl, rfl, ha6, h6, Lp.zs (by rw [List.length_map, List.length_map, List.length_range]; show 1 + _ ≤ _; omega), fun c nc => ?_⟩
            refine ⟨by show 1 ≤ sizeLine; decide, fun d nd => ?_⟩
            have hc := same_new (o := .lst [V.int 1]) nd _ _ (upd_same (H := H6) (a := c) (o := .lst ([V.int 1] ++ ((List.range (min (i + 1) (t + 1) - 1)).map fun c => ((chP i c : Nat) : Int) + ((chP i (c + 1) : Nat) : Int)).map V.int)))
            refine ⟨c, d, _, _, rfl, rfl, hc, upd_same, Lp.zs (by rw [List.length_append, List.length_map, List.length_map, List.length_range]; show 1 + _ + 1 ≤ _; omega), fun e ne => ?_⟩
            have sE := (((sm.trans (same_new na)).trans pp.2.1).trans ((same_new nc).trans (same_new (o := .lst [V.int 1]) nd)))
            refine ⟨_, rfl, _, rfl, _, _, rfl, rfl, _, rfl, e, _, rfl, .of upd_same, fun g ng => ?_⟩
            refine ⟨_, _, _, _, g, rfl, (sE.trans (same_new ne)).trans (same_new ng), (sE.trans (same_new ne)).free ng, ?_⟩
            rw [upd_same]
            have e1 : (t : Int) + 1 = ((t + 1 : Nat) : Int) := by omega
            have e2 : [V.int 1] ++ ((List.range (min (i + 1) (t + 1) - 1)).map fun c => ((chP i c : Nat) : Int) + ((chP i (c + 1) : Nat) : Int)).map V.int ++ [V.int 1] = (([1] : List Int) ++ ((List.range (min (i + 1) (t + 1) - 1)).map fun a => ((chP i a : Nat) : Int) + ((chP i (a + 1) : Nat) : Int)) ++ [1]).map V.int := by
              rw [List.map_append, List.map_append]
              rfl
            rw [e1, e2, ← rowP_succ, List.map_take]
            unfold cutV
            rw [HT.sIx_none, HT.sIx_nat, List.drop_zero, Nat.sub_zero, ← List.take_eq_take_min]
        · obtain ⟨y3, y4, y5, y6, p, rfl, sm, np, hp⟩ := h
          have et : (t : Int) - 1 = ((t - 1 : Nat) : Int) := by omega
          have gt : (rowP t (2 * n - t - 1))[t - 1]? = some ((chP (2 * n - t - 1) (t - 1) : Nat) : Int) := rowP_get (by omega)
          refine ⟨_, rfl, _, rfl, _, _, rfl, rfl, p, _, _, .int ((chP (2 * n - t - 1) (t - 1) : Nat) : Int), rfl, rfl, .of hp, by rw [et]; exact atI_nat (ints_get gt), ?_⟩
          have e3 : 2 * ((n : Int) - (t : Int)) = 2 * ((n - t : Nat) : Int) := by omega
          have cb := chP_le (n := 2 * n - t - 1) (k := t - 1) (by omega)
          have cb2 := Nat.lt_of_lt_of_le cb (Nat.pow_le_pow_right (by decide) (show 10 * (2 * n - t - 1) + 1 ≤ 2001 by omega))
          refine ⟨_, rfl, _, rfl, _, _, rfl, rfl, _, _, rfl, rfl, wide_mul (a := 3) (b := 20) (by decide) (by omega) (by decide) (by decide) (by decide), 1, 2 * ((n - t : Nat) : Int), 2, n - t, ?_, rgc_two (n - t) (by omega), for_it (walk_rangeC) (fun i σ H2 => ∃ (y5 : Option V) (d : Int), σ = [some (.int (n : Int)), some (.int (t : Int)), some (.ref p), y3, some (.int d), y5, y6] ∧ d = ((chP (2 * n - t - 1) (t - 1) * oddN i : Nat) : Int) ∧ H2 = H') ⟨_, _, rfl, ?_, rfl⟩ (fun i σ H' _ h => trivial) (fun i x σ H2 H3 hi h hy => ?_) (fun σ H2 h => ?_)⟩
          · rw [← e3]
          · show _ = ((chP (2 * n - t - 1) (t - 1) * 1 : Nat) : Int)
            rw [Nat.mul_one]
          · obtain ⟨rfl, rfl⟩ := hy
            obtain ⟨y, d, rfl, rfl, rfl⟩ := h
            have e : (1 : Int) + ((i : Nat) : Int) * 2 = ((1 + i * 2 : Nat) : Int) := by omega
            have ol := Nat.lt_of_lt_of_le (odd_lt i (by omega)) (Nat.pow_le_pow_right (n := 2) (by decide) (show 8 * i + 1 ≤ 801 by omega))
            have pl : chP (2 * n - t - 1) (t - 1) * oddN i < 2 ^ 2802 := by
              have e : (2 : Nat) ^ 2802 = 2 ^ 2001 * 2 ^ 801 := by rw [← Nat.pow_add]
              rw [e]
              exact Nat.mul_lt_mul'' cb2 ol
            refine ⟨_, rfl, _, rfl, _, _, rfl, rfl, wide_mul (a := 2802) (b := 20) (natAbs_lt pl) (by rw [e]; exact natAbs_lt (by omega)) (by decide) (by decide) (by decide), _, _, rfl, ?_, rfl⟩
            rw [e, ← Int.natCast_mul, Nat.mul_assoc]
            rfl
          · obtain ⟨y, d, rfl, rfl, rfl⟩ := h
            rw [← ch_eq (by omega)]
            exact ⟨_, rfl, q _ sm⟩
end
end L63
set_option Elab.async false
set_option linter.all false
set_option maxRecDepth 100000
namespace L63
open PySem PySem.Spec PyProof.Rows L2 Lp
theorem flatMap_take_all {α β : Type} {f : α → List β} (l : List α) : ((l.take l.length).flatMap f) = l.flatMap f := by rw [List.take_length]
theorem eqvBT {xs ys : List Bool} (h : xs = ys) : PyData.eqvAll (xs.map PyData.bool) (ys.map PyData.bool) = true := by
  subst h
  induction xs with
  | nil => rfl
  | cons x r ih =>
    show (PyData.eqv (.bool x) (.bool x) && PyData.eqvAll (r.map PyData.bool) (r.map PyData.bool)) = true
    rw [ih]
    cases x <;> rfl
theorem layB : ∀ bs : List Bool, PyData.canLayAll0 (bs.map PyData.bool) = true
  | [] => rfl
  | _ :: r => by
    show (PyData.canLay0 (.bool _) && PyData.canLayAll0 (r.map PyData.bool)) = true
    rw [layB r]
    rfl
theorem depB : ∀ bs : List Bool, PyData.depthAll (bs.map PyData.bool) = 0
  | [] => rfl
  | _ :: r => by
    show max (PyData.depth (.bool _)) (PyData.depthAll (r.map PyData.bool)) = 0
    rw [depB r]
    rfl
theorem shapedB (bs : List Bool) : SeqAt.shaped (.list (bs.map PyData.bool)) = true := by
  show (PyData.canLayAll0 (bs.map PyData.bool) && decide (PyData.depthAll (bs.map PyData.bool) + 1 ≤ 64)) = true
  rw [layB, depB]
  rfl
theorem dpB {K : PySem.W.Frag} {H : Hp} : ∀ bs : List Bool, DpAll K H (bs.map V.bl) (bs.map PyData.bool)
  | [] => .nil
  | b :: r => .cons (.bl b) (dpB r)
section
variable {P : Program} {w : World} {K : PySem.W.Frag} {mg : Str → Option Value} {base : Heap}
/-! ### _law_all -/
def spAll : Sp := fun vs H Q _ => ∃ n : Nat, vs = [.int (n : Int)] ∧ n ≤ 4 ∧ ∀ (H' : Hp) (p : Addr) (ys : List V) (rows : List (List Int)), Same H H' → H p = none → H' p = some (.lst ys) → RowsR H' ys rows → rows.Perm (rowsL n) → Q (.ref p) H'
theorem ok_law_all {f : Addr} {fd : FuncData} (F : Fun K "_law_all" "_law_all" s_law_all f fd) (B : NoB mg) (T_law_shapes : Gc P w K mg base 1 "_law_shapes" spShapes) (T_law_every : Gc P w K mg base 1 "_law_every" spEvery) : FnG P w K mg base CX0 2 f fd ["n"] spAll := by
  refine okG F sc_law_all (fun vs H Q E h => ?_) (fun cdv A outer s H vs Q E hG hr h => ?_)
  · obtain ⟨n, rfl, _⟩ := h
    rfl
  · obtain ⟨n, rfl, hn, q⟩ := h
    have hu64 := hr.units
    obtain ⟨sok, _⟩ := shapes_ok ⟨n, by omega⟩
    dsimp only at sok
    have fl := (few_ok hn).len
    refine ⟨_, (pss_cons (ps_set (i := 1) sc_law_all.nd rfl (Or.inl rfl) (pe_lst pa_nil))
        (pss_cons (ps_for PassesOwn.never rfl (pi_list (pe_g T_law_shapes hG hr (by decide) (by rfl) (pa_cons (pv 0) pa_nil))) (pg_name (i := 2) sc_law_all.nd rfl (Or.inl rfl))
          (pss_one (ps_set (i := 1) sc_law_all.nd rfl (Or.inl rfl) (pe_op op_cat (pv 1) (pe_g T_law_every hG hr (by decide) (by rfl) (pa_cons (pv 2) pa_nil))))))
        (pss_one (ps_ret (pe_callB (cr_sortedLL hu64) (by rfl) B.sorted (by decide +kernel) (pa_cons (pv 1) pa_nil)))))), ?_⟩
    refine ⟨Nat.zero_le _, fun p0 np0 => ?_⟩
    refine ⟨_, rfl, n, rfl, by omega, fun H1 ps s1 nps hps => ⟨ps, rfl, ⟨_, .of hps⟩, ?_⟩⟩
    have s01 := (same_new (o := .lst []) np0).trans s1
    refine for_list (xs := (shapesL n).map fun bs => V.str (sgS bs)) (fun i σ H' => ∃ (y2 : Option V) (p : Addr) (rs : List V), σ = [some (.int (n : Int)), some (.ref p), y2] ∧ Same H1 H' ∧ Same H H' ∧ H p = none ∧ H' p = some (.lst rs) ∧ RowsR H' rs (((shapesL n).take i).flatMap everyL)) ⟨_, _, [], rfl, Same.refl _, s01, np0, s1 _ _ upd_same, RowsR.nil _⟩ (fun i σ H' _ h => ?_) (fun i x σ H' hx h => ?_) (fun σ H' h => ?_)
    · obtain ⟨_, _, _, _, sm1, _⟩ := h
      exact .of (sm1 _ _ hps)
    · obtain ⟨y2, p, rs, rfl, sm1, sm, np, hrs, rr⟩ := h
      rw [List.getElem?_map] at hx
      cases eb : (shapesL n)[i]? with
      | none => rw [eb] at hx; cases hx
      | some bs =>
        rw [eb] at hx
        cases hx
        have hb := List.all_eq_true.mp sok bs (mem_get eb)
        rw [Bool.and_eq_true, Bool.and_eq_true, Bool.and_eq_true, decide_eq_true_eq, decide_eq_true_eq, decide_eq_true_eq] at hb
        obtain ⟨⟨⟨h1, h2⟩, h3⟩, h4⟩ := hb
        have okb := okB_ok h1
        refine ⟨_, rfl, _, rfl, bs, rfl, okb, by omega, h4, fun H2 p2 rs2 s2 np2 hrs2 rr2 => ?_⟩
        have tot : (rs ++ rs2).length ≤ 1000 := by
          rw [List.length_append, rr.1, rr2.1]
          have e := flatMap_take_succ (f := everyL) eb
          have e2 := congrArg List.length e
          rw [List.length_append] at e2
          have e3 := flatMap_take_len (f := everyL) (shapesL n) (i + 1)
          have e4 : ((shapesL n).flatMap everyL).length ≤ 1000 := fl
          omega
        rw [List.length_append] at tot
        refine ⟨p, p2, rs, rs2, rfl, rfl, s2 _ _ hrs, hrs2, Lp.zs (by omega), fun p3 np3 => ⟨_, _, rs ++ rs2, rfl, (sm1.trans s2).trans (same_new np3), (sm.trans s2).trans (same_new np3), (sm.trans s2).free np3, upd_same, ?_⟩⟩
        rw [flatMap_take_succ eb]
        exact ((rr.same s2).app rr2).same (same_new np3)
    · obtain ⟨y2, p, rs, rfl, sm1, sm, np, hrs, rr⟩ := h
      rw [List.length_map, List.take_length] at rr
      refine ⟨_, rfl, p, rs, kH H', rfl, .of hrs, fun x hx => ?_, fun ys p2 pm pw np2 => ?_⟩
      · obtain ⟨t, e, ht⟩ := rr_mem rr hx
        exact ⟨t, e, .of ht⟩
      · have s2 := same_new (o := .lst ys) np2
        refine q _ p2 ys (ys.map (kH H')) (sm.trans s2) (sm.free np2) upd_same ?_ ?_
        · exact (rr_of fun y hy => rr_mem rr (pm.mem_iff.mp hy)).same s2
        · have pk := pm.map (kH H')
          rw [rr_key rr] at pk
          exact pk
/-! ### _law_jump -/
def spJump (K : PySem.W.Frag) : Sp := fun vs H Q _ => ∃ (a : Addr) (row : List Int), vs = [.ref a] ∧ SqL K H a (row.map V.int) ∧ rowB row = true ∧ row.Nodup ∧ row.length ≤ 200 ∧ Q (.int (jumpL row)) H
theorem ok_law_jump {f : Addr} {fd : FuncData} (F : Fun K "_law_jump" "_law_jump" s_law_jump f fd) (B : NoB mg) : FnG P w K mg base CX0 1 f fd ["row"] (spJump K) := by
  refine okG F sc_law_jump (fun vs H Q E h => ?_) (fun cdv A outer s H vs Q E hG hr h => ?_)
  · obtain ⟨a, row, rfl, _⟩ := h
    rfl
  · obtain ⟨a, row, rfl, hS, hB, nd, hl, q⟩ := h
    refine ⟨_, (pss_cons (ps_par (i := 1) (j := 2) (by rfl) sc_law_jump.nd rfl rfl (by decide) rfl rfl (pa_cons (pe_callB call_len_seq (by rfl) B.len PySem.boot_len (pa_cons (pv 0) pa_nil)) (pa_cons pe_int pa_nil)) (by rfl))
        (pss_cons (ps_while PassesOwn.never (pt_cmpR op_gt (pv 1) pe_int (nomark _)) (pss_cons (ps_if (pt_cmpR op_gt (pe_ix ix_list (pv 0) (pe_op op_sub (pv 1) pe_int) (fun _ _ => rfl)) pe_int (nomark _)) (pss_one (ps_ret (pe_un un_neg pe_int))) pss_nil)
          (pss_cons (ps_set (i := 1) sc_law_jump.nd rfl (Or.inl rfl) (pe_bm PySem.F.plainAttrs_list PySem.F.slot_list_index PySem.F.type_list_index mt_index (pv 0) (pa_cons (pe_op op_sub pe_int (pe_ix ix_list (pv 0) (pe_op op_sub (pv 1) pe_int) (fun _ _ => rfl))) pa_nil)))
          (pss_one (ps_set (i := 2) sc_law_jump.nd rfl (Or.inl rfl) (pe_op op_add (pv 2) pe_int))))))
        (pss_one (ps_ret (pv 2))))), ?_⟩
    refine ⟨_, rfl, a, _, rfl, .inl hS, _, _, rfl, ?_⟩
    refine ⟨fun m σ H' => ∃ (mi many : Int) (fu : Nat), σ = [some (.ref a), some (.int mi), some (.int many)] ∧ mi = ((m : Nat) : Int) ∧ m ≤ fu ∧ m ≤ row.length ∧ jumpF row fu m many = jumpL row ∧ H' = H, ⟨row.length, _, _, row.length, rfl, by rw [List.length_map], Nat.le_refl _, Nat.le_refl _, rfl, rfl⟩, fun m σ H' hW => ?_⟩
    obtain ⟨mi, many, fu, rfl, rfl, h1, h2, hj, rfl⟩ := hW
    by_cases h0 : m = 0
    · refine ⟨_, rfl, _, _, rfl, rfl, false, dF (by omega), ?_⟩
      have e : jumpF row fu m many = many := by
        cases fu with
        | zero => rfl
        | succ fu =>
          show (if m = 0 then many else _) = many
          rw [if_pos h0]
      rw [e] at hj
      rw [hj]
      exact ⟨_, rfl, q⟩
    · have hm : m - 1 < row.length := by omega
      have hg := List.getElem?_eq_getElem hm
      have em : ((m : Nat) : Int) - 1 = ((m - 1 : Nat) : Int) := by omega
      have at1 : atI (row.map V.int) (((m : Nat) : Int) - 1) = some (.int row[m - 1]) := by
        rw [em]
        exact atI_nat (get_at hm)
      refine ⟨_, rfl, _, _, rfl, rfl, true, dT (by omega), ?_⟩
      cases fu with
      | zero => omega
      | succ fu =>
        have st : jumpF row (fu + 1) m many = if 0 < row[m - 1] then -1 else jumpF row fu (row.idxOf (0 - row[m - 1])) (many + 1) := by
          show (if m = 0 then many else match row[m - 1]? with
            | some e => if 0 < e then -1 else jumpF row fu (row.idxOf (0 - e)) (many + 1)
            | none => many) = _
          rw [if_neg h0, hg]
        rw [st] at hj
        refine ⟨fun σ' H2 => ∃ (mi many : Int) (fu m2 : Nat), σ' = [some (.ref a), some (.int mi), some (.int many)] ∧ mi = ((m2 : Nat) : Int) ∧ m2 < m ∧ m2 ≤ fu ∧ m2 ≤ row.length ∧ jumpF row fu m2 many = jumpL row ∧ H2 = H', fun σ' H2 h => ?_, ?_⟩
        · obtain ⟨mi, many, fu, m2, e1, e2, e3, e4, e5, e6, e7⟩ := h
          exact ⟨m2, e3, mi, many, fu, e1, e2, e4, e5, e6, e7⟩
        · by_cases hp : 0 < row[m - 1]
          · rw [if_pos hp] at hj
            refine ⟨_, rfl, _, rfl, _, _, rfl, rfl, a, _, _, _, rfl, rfl, hS, at1, _, _, rfl, rfl, true, dT hp, 1, rfl, ?_⟩
            have e : (-1 : Int) = jumpL row := hj
            rw [← e] at q
            exact q
          · rw [if_neg hp] at hj
            have hpre := rowB_ok hB hg hp
            have hin := (List.mem_filter.mp hpre).1
            obtain ⟨j, hjl, ej⟩ := List.mem_iff_getElem.mp hin
            rw [List.length_take] at hjl
            rw [List.getElem_take] at ej
            have hjr : j < row.length := by omega
            have ix : row.idxOf (0 - row[m - 1]) = j := by
              have hm1 := List.getElem_mem hjr
              have hi := List.idxOf_lt_length_of_mem hm1
              have g : row[row.idxOf row[j]]? = some row[j] := by
                rw [List.getElem?_eq_getElem hi]
                exact congrArg some (List.getElem_idxOf hi)
              rw [← ej]
              exact nd_ix nd g (List.getElem?_eq_getElem hjr)
            rw [ix] at hj
            refine ⟨_, rfl, _, rfl, _, _, rfl, rfl, a, _, _, _, rfl, rfl, hS, at1, _, _, rfl, rfl, false, dF hp, ?_⟩
            refine ⟨_, rfl, .inl ⟨rfl, _, hS⟩, _, rfl, _, rfl, _, _, rfl, rfl, a, _, _, _, rfl, rfl, hS, at1, _, _, rfl, rfl, a, _, .int (0 - row[m - 1]), j, .int row[j], rfl, rfl, hS, rfl, flatI _, get_at hjr, ?_, fun m2 z' hm2 hz' => ?_, ?_⟩
            · show (row[j] == 0 - row[m - 1]) = true
              rw [ej]
              exact beq_self_eq_true _
            · obtain ⟨z, rfl, hz⟩ := get_int hz'
              show (z == 0 - row[m - 1]) = false
              refine beq_eq_false_iff_ne.mpr fun c => ?_
              rw [c, ← ej] at hz
              have := nd_ix nd hz (List.getElem?_eq_getElem hjr)
              omega
            · exact ⟨_, rfl, _, _, rfl, rfl, _, _, fu, j, rfl, rfl, by omega, by omega, by omega, hj, rfl⟩
end
end L63
set_option Elab.async false
set_option linter.all false
set_option maxRecDepth 100000
namespace L63
open PySem PySem.Spec PyProof.Rows L2 Lp
theorem k_lcount {X : Cx} {K : PySem.W.Frag} (hK : X.K = K) : MtR X "list.count" (rCntI K) := by
  subst hK
  exact mt_lcount
theorem neqB {xs ys : List Bool} (h : xs = ys) : V.bl (!PyData.eqv (.list (xs.map PyData.bool)) (.list (ys.map PyData.bool))) = V.bl false := by
  have e : PyData.eqv (.list (xs.map PyData.bool)) (.list (ys.map PyData.bool)) = true := eqvBT h
  rw [e]
  rfl
theorem cwj_log {n t : Nat} (h : n ≤ 100) (ht : t ≤ 100) : ∀ x ∈ [((cwjN n t : Nat) : Int), ((cwjN n t : Nat) : Int)], x.natAbs.log2 < 1920 := fun x hx => by
  have z := log_nat (J2_at h ht) (by decide) (by decide)
  rcases List.mem_cons.mp hx with e | e
  · rw [e]; exact z
  · rw [List.mem_singleton.mp e]; exact z
theorem tn_log {n : Nat} (h : n ≤ 100) : ∀ x ∈ [((TN n : Nat) : Int), ((TN n : Nat) : Int)], x.natAbs.log2 < 1920 := fun x hx => by
  have z := log_nat (J1_at h).2.2 (by decide) (by decide)
  rcases List.mem_cons.mp hx with e | e
  · rw [e]; exact z
  · rw [List.mem_singleton.mp e]; exact z
section
variable {P : Program} {w : World} {K : PySem.W.Frag} {mg : Str → Option Value} {base : Heap}
/-! ### _law_few_right -/
def spFew : Sp := fun vs H Q _ => ∃ n : Nat, vs = [.int (n : Int)] ∧ n ≤ 4 ∧ ∀ H', Same H H' → Q (.bl true) H'
set_option maxHeartbeats 2000000 in
theorem ok_law_few_right {f : Addr} {fd : FuncData} (F : Fun K "_law_few_right" "_law_few_right" s_law_few_right f fd) (B : NoB mg) (T_law_all : Gc P w K mg base 2 "_law_all" spAll) (T_law_jump : Gc P w K mg base 1 "_law_jump" (spJump K)) (T_law_present : Gc P w K mg base 1 "_law_present" (spPres K))
    (T_count_with_jump : Gc P w K mg base 5 "count_with_jump" spCWJ) (T_count_original : Gc P w K mg base 6 "count_original" spCO) : FnG P w K mg base CX0 7 f fd ["n"] spFew := by
  refine okG F sc_law_few_right (fun vs H Q E h => ?_) (fun cdv A outer s H vs Q E hG hr h => ?_)
  · obtain ⟨n, rfl, _⟩ := h
    rfl
  · obtain ⟨n, rfl, hn, q⟩ := h
    have hu64 := hr.units
    have fo := few_ok hn
    refine ⟨_, (pss_cons (ps_set (i := 1) sc_law_few_right.nd rfl (Or.inl rfl) (pe_g T_law_all hG hr (by decide) (by rfl) (pa_cons (pv 0) pa_nil)))
        (pss_cons (ps_set (i := 2) sc_law_few_right.nd rfl (Or.inr rfl) (pe_lc (own := [("row", 4)]) (g := gName 4) (tt := tYes) rfl sc_law_few_right.nd (pi_list (pv 1)) (blkOk_by (own := [("row", 4)]) (N := N_law_few_right) (sc := defScope s_law_few_right) (by decide +kernel)) (fun _ _ _ _ _ => (pg_name (i := 4) sc_law_few_right.nd rfl (Or.inl rfl))) (fun _ _ _ _ _ => pts_nil) (fun _ _ _ _ _ => (pe_g T_law_jump hG hr (by decide) (by rfl) (pa_cons (pv 4) pa_nil)))))
        (pss_cons (ps_if (pt_cmpR (op_neD hu64) (pe_lc (own := [("row", 4)]) (g := gName 4) (tt := tYes) rfl sc_law_few_right.nd (pi_list (pv 1)) (blkOk_by (own := [("row", 4)]) (N := N_law_few_right) (sc := defScope s_law_few_right) (by decide +kernel)) (fun _ _ _ _ _ => (pg_name (i := 4) sc_law_few_right.nd rfl (Or.inl rfl))) (fun _ _ _ _ _ => pts_nil) (fun _ _ _ _ _ => (pe_cmpR op_eq (pe_g T_law_present hG hr (by decide) (by rfl) (pa_cons (pv 4) pa_nil)) pe_int (nomark _)))) (pe_lc (own := [("one", 5)]) (g := gName 5) (tt := tYes) rfl sc_law_few_right.nd (pi_list (pv 2)) (blkOk_by (own := [("one", 5)]) (N := N_law_few_right) (sc := defScope s_law_few_right) (by decide +kernel)) (fun _ _ _ _ _ => (pg_name (i := 5) sc_law_few_right.nd rfl (Or.inl rfl))) (fun _ _ _ _ _ => pts_nil) (fun _ _ _ _ _ => (pe_cmpR op_ge (pv 5) pe_int (nomark _)))) (nomark _)) (pss_one (ps_ret pe_bl)) pss_nil)
        (pss_cons (ps_setLc (i := 3) (own := [("t", 6)]) (g := gName 6) (tt := tYes) rfl sc_law_few_right.nd rfl rfl (sw_true rfl rfl rfl (by decide +kernel)) (pi_range1 rfl B.range (pa_cons (pe_op op_add (pv 0) pe_int) pa_nil)) (blkOk_by (own := [("t", 6)]) (N := N_law_few_right) (sc := defScope s_law_few_right) (by decide +kernel)) (fun _ _ _ _ _ => (pg_name (i := 6) sc_law_few_right.nd rfl (Or.inl rfl))) (fun _ _ _ _ _ => pts_nil) (fun _ _ _ _ _ => (pe_g T_count_with_jump hG hr (by decide) (by rfl) (pa_cons (pv 0) (pa_cons (pv 6) pa_nil)))))
        (pss_one (ps_ret (pe_and (pe_cmpR (op_eqD hu64) (pv 3) (pe_lc (own := [("t", 6)]) (g := gName 6) (tt := tYes) rfl sc_law_few_right.nd (pi_range1 rfl B.range (pa_cons (pe_op op_add (pv 0) pe_int) pa_nil)) (blkOk_by (own := [("t", 6)]) (N := N_law_few_right) (sc := defScope s_law_few_right) (by decide +kernel)) (fun _ _ _ _ _ => (pg_name (i := 6) sc_law_few_right.nd rfl (Or.inl rfl))) (fun _ _ _ _ _ => pts_nil) (fun _ _ _ _ _ => (k_bm (K := K) rfl PySem.F.plainAttrs_list PySem.F.slot_list_count PySem.F.type_list_count (k_lcount (K := K) rfl) (pv 2) (pa_cons (pv 6) pa_nil)))) (nomark _)) (pe_one (pe_cmpR op_eq (pe_g T_count_original hG hr (by decide) (by rfl) (pa_cons (pv 0) pa_nil)) (pe_callB call_len_seq (by rfl) B.len PySem.boot_len (pa_cons (pe_lc (own := [("one", 5)]) (g := gName 5) (tt := _) rfl sc_law_few_right.nd (pi_list (pv 2)) (blkOk_by (own := [("one", 5)]) (N := N_law_few_right) (sc := defScope s_law_few_right) (by decide +kernel)) (fun _ _ _ _ _ => (pg_name (i := 5) sc_law_few_right.nd rfl (Or.inl rfl))) (fun _ _ _ _ _ => (pts_one (pt_cmpR op_ge (pv 5) pe_int (nomark _)))) (fun _ _ _ _ _ => pe_int)) pa_nil)) (nomark _)))))))))), ?_⟩
    refine ⟨_, rfl, n, rfl, hn, fun H1 p ys rows s1 np hp rr pm => ?_⟩
    have rl : rows.length ≤ 1000 := by rw [pm.length_eq]; exact fo.len
    have yl : ys.length = rows.length := rr.1
    have ro : ∀ row ∈ rows, rowB row = true ∧ row.Nodup ∧ row.length ≤ 10 ∧ decide (presL row = 0) = decide (jumpL row ≥ 0) := fun row hr => fo.rows row (pm.mem_iff.mp hr)
    refine ⟨_, rfl, p, rfl, ⟨_, .of hp⟩, fun D1 hD1 => lc_list (xs := ys) (LcP H1 D1 fun i => ((rows.take i).map jumpL).map V.int) (.init hD1 rfl) (fun i H' _ pp => .of (pp.2.1 _ _ hp)) (fun i x H' hx pp => ?_) (fun H2 pp => ?_)⟩
    · have hj := lt_get hx
      rw [yl] at hj
      have eg := List.getElem?_eq_getElem hj
      obtain ⟨pr, er, hpr⟩ := rr.2 i _ eg
      have ex : x = .ref pr := Option.some.inj (hx.symm.trans er)
      subst ex
      generalize rows[i] = row at hpr eg
      obtain ⟨o1, o2, o3, o4⟩ := ro row (mem_get eg)
      refine ⟨rfl, _, rfl, pr, row, rfl, .of (pp.2.1 _ _ hpr), o1, o2, by omega, pp.put (Same.refl _) ?_ ?_⟩
      · rw [take_get eg, List.map_append, List.map_append]
        rfl
      · rw [List.length_map, List.length_map, List.length_take]
        omega
    · have h2 : H2 D1 = some (.lst ((rows.map jumpL).map V.int)) := by
        have z : H2 D1 = some (.lst (((rows.take ys.length).map jumpL).map V.int)) := pp.2.2
        rw [yl, List.take_length] at z
        exact z
      have s2 : Same H1 H2 := pp.2.1
      have hp2 := s2 _ _ hp
      refine ⟨_, rfl, p, rfl, ⟨_, .of hp2⟩, fun D2 hD2 => lc_list (xs := ys) (LcP H2 D2 fun i => ((rows.take i).map fun r => decide (presL r = 0)).map V.bl) (.init hD2 rfl) (fun i H' _ pp => .of (pp.2.1 _ _ hp2)) (fun i x H' hx pp3 => ?_) (fun H3 pp3 => ?_)⟩
      · have hj := lt_get hx
        rw [yl] at hj
        have eg := List.getElem?_eq_getElem hj
        obtain ⟨pr, er, hpr⟩ := rr.2 i _ eg
        have ex : x = .ref pr := Option.some.inj (hx.symm.trans er)
        subst ex
        generalize rows[i] = row at hpr eg
        obtain ⟨o1, o2, o3, o4⟩ := ro row (mem_get eg)
        refine ⟨rfl, _, rfl, pr, row, rfl, .of (pp3.2.1 _ _ (s2 _ _ hpr)), by omega, o1, fun H4 s4 => ⟨rfl, pp3.put s4 ?_ ?_⟩⟩
        · rw [take_get eg, List.map_append, List.map_append]
          show _ = _ ++ [V.bl (decide (V.int (presL row) = V.int 0))]
          rw [decV]
          rfl
        · rw [List.length_map, List.length_map, List.length_take]
          omega
      · have h3 : H3 D2 = some (.lst ((rows.map fun r => decide (presL r = 0)).map V.bl)) := by
          have z : H3 D2 = some (.lst (((rows.take ys.length).map fun r => decide (presL r = 0)).map V.bl)) := pp3.2.2
          rw [yl, List.take_length] at z
          exact z
        have s3 : Same H2 H3 := pp3.2.1
        have h23 := s3 _ _ h2
        refine ⟨_, rfl, D1, rfl, ⟨_, .of h23⟩, fun D3 hD3 => lc_list (xs := (rows.map jumpL).map V.int) (LcP H3 D3 fun i => (((rows.map jumpL).take i).map fun j => decide (j ≥ 0)).map V.bl) (.init hD3 rfl) (fun i H' _ pp => .of (pp.2.1 _ _ h23)) (fun i x H' hx pp4 => ?_) (fun H4 pp4 => ?_)⟩
        · obtain ⟨j, rfl, hj⟩ := get_int hx
          have hjl := lt_get hj
          rw [List.length_map] at hjl
          refine ⟨rfl, _, rfl, _, _, rfl, rfl, pp4.put (Same.refl _) ?_ ?_⟩
          · rw [take_get hj, List.map_append, List.map_append]
            rfl
          · rw [List.length_map, List.length_map, List.length_take, List.length_map]
            omega
        · have h4 : H4 D3 = some (.lst (((rows.map jumpL).map fun j => decide (j ≥ 0)).map V.bl)) := by
            have z : H4 D3 = some (.lst ((((rows.map jumpL).take ((rows.map jumpL).map V.int).length).map fun j => decide (j ≥ 0)).map V.bl)) := pp4.2.2
            rw [List.length_map, List.take_length] at z
            exact z
          have s4 : Same H3 H4 := pp4.2.1
          have ebs : (rows.map fun r => decide (presL r = 0)) = (rows.map jumpL).map fun j => decide (j ≥ 0) := by
            rw [List.map_map]
            exact List.map_congr_left fun r hr => (ro r hr).2.2.2
          refine ⟨.list ((rows.map fun r => decide (presL r = 0)).map PyData.bool), .list (((rows.map jumpL).map fun j => decide (j ≥ 0)).map PyData.bool), .lst (.of (s4 _ _ h3)) (dpB _), .lst (.of h4) (dpB _), shapedB _, shapedB _, false, neqB ebs, ?_⟩
          have en : ((n : Int) + 2).toNat = n + 2 := by omega
          have h2b := s4 _ _ h23
          have sB : Same H H4 := (s1.trans s2).trans (s3.trans s4)
          refine ⟨_, rfl, _, _, rfl, rfl, (n : Int) + 2, rfl, by omega, by omega, fun D4 hD4 => ?_⟩
          rw [en]
          refine lc_it (walk_range (lo := 0) (n := n + 2)) (LcP H4 D4 fun k => ((List.range k).map fun t => ((cwjN n t : Nat) : Int)).map V.int) (.init hD4 rfl) (fun _ _ _ _ => trivial) (fun k x H6 H7 hk p6 hy => ?_) (fun H5 p5 => ?_)
          · obtain ⟨rfl, rfl⟩ := hy
            refine ⟨rfl, _, rfl, _, rfl, n, k, congrArg (fun z => [V.int (n : Int), V.int z]) (Int.zero_add _), by omega, by omega, p6.put (Same.refl _) ?_ ?_⟩
            · rw [List.range_succ, List.map_append, List.map_append]
              rfl
            · rw [List.length_map, List.length_map, List.length_range]
              omega
          · have h5 : H5 D4 = some (.lst (((List.range (n + 2)).map fun t => ((cwjN n t : Nat) : Int)).map V.int)) := p5.2.2
            have s5 : Same H4 H5 := p5.2.1
            have h2c := s5 _ _ h2b
            refine ⟨_, rfl, _, rfl, _, _, rfl, rfl, (n : Int) + 2, rfl, by omega, by omega, fun D5 hD5 => ?_⟩
            rw [en]
            refine lc_it (walk_range (lo := 0) (n := n + 2)) (LcP H5 D5 fun k => ((List.range k).map fun t => ((cwjN n t : Nat) : Int)).map V.int) (.init hD5 rfl) (fun _ _ _ _ => trivial) (fun k x H6 H7 hk p6 hy => ?_) (fun H6 p6 => ?_)
            · obtain ⟨rfl, rfl⟩ := hy
              have ecnt : (((rows.map jumpL).count (0 + ((k : Nat) : Int)) : Nat) : Int) = ((cwjN n k : Nat) : Int) := by
                rw [Int.zero_add, (pm.map jumpL).count_eq, fo.cnt k (by omega)]
              refine ⟨rfl, _, rfl, .inl ⟨rfl, _, .of (p6.2.1 _ _ h2c)⟩, _, rfl, D1, rows.map jumpL, 0 + ((k : Nat) : Int), rfl, rfl, .of (p6.2.1 _ _ h2c), p6.put (Same.refl _) ?_ ?_⟩
              · rw [List.range_succ, List.map_append, List.map_append, ecnt]
                rfl
              · rw [List.length_map, List.length_map, List.length_range]
                omega
            · have h6 : H6 D5 = some (.lst (((List.range (n + 2)).map fun t => ((cwjN n t : Nat) : Int)).map V.int)) := p6.2.2
              have s6 : Same H5 H6 := p6.2.1
              refine ⟨dI _, dI _, dp_ints (.of (s6 _ _ h5)), dp_ints (.of h6), shaped_ints _, shaped_ints _, true, eqvT rfl, iteT ?_⟩
              refine ⟨_, rfl, n, rfl, by omega, fun H7 s7 => ?_⟩
              have h2d := s7 _ _ (s6 _ _ h2c)
              refine ⟨_, rfl, D1, rfl, ⟨_, .of h2d⟩, fun D6 hD6 => lc_list (xs := (rows.map jumpL).map V.int) (LcP H7 D6 fun i => (List.replicate (((rows.map jumpL).take i).countP fun j => decide (j ≥ 0)) (1 : Int)).map V.int) (.init hD6 rfl) (fun i H' _ pp => .of (pp.2.1 _ _ h2d)) (fun i x H' hx p8 => ?_) (fun H8 p8 => ?_)⟩
              · obtain ⟨j, rfl, hj⟩ := get_int hx
                have hjl := lt_get hj
                rw [List.length_map] at hjl
                have cl := List.countP_le_length (p := fun j : Int => decide (j ≥ 0)) (l := (rows.map jumpL).take i)
                rw [List.length_take, List.length_map] at cl
                refine ⟨rfl, ?_⟩
                by_cases c : j ≥ 0
                · refine ⟨_, rfl, _, _, rfl, rfl, true, dT c, p8.put (Same.refl _) ?_ ?_⟩
                  · rw [take_get hj, List.countP_append]
                    have e : ([j].countP fun j => decide (j ≥ 0)) = 1 := by rw [List.countP_cons, List.countP_nil, if_pos (decide_eq_true c)]
                    rw [e, List.replicate_succ', List.map_append]
                    rfl
                  · rw [List.length_map, List.length_replicate]
                    omega
                · refine ⟨_, rfl, _, _, rfl, rfl, false, dF c, p8.skip (Same.refl _) ?_⟩
                  rw [take_get hj, List.countP_append]
                  have e : ([j].countP fun j => decide (j ≥ 0)) = 0 := by rw [List.countP_cons, List.countP_nil, if_neg (by simpa using c)]
                  rw [e, Nat.add_zero]
              · have h8 : H8 D6 = some (.lst ((List.replicate ((rows.map jumpL).countP fun j => decide (j ≥ 0)) (1 : Int)).map V.int)) := by
                  have z : H8 D6 = some (.lst ((List.replicate (((rows.map jumpL).take ((rows.map jumpL).map V.int).length).countP fun j => decide (j ≥ 0)) (1 : Int)).map V.int)) := p8.2.2
                  rw [List.length_map, List.take_length] at z
                  exact z
                refine ⟨D6, _, rfl, .inl (.of h8), rfl, ?_⟩
                rw [dT (by rw [List.length_map, List.length_replicate, (pm.map jumpL).countP_eq, fo.all, (J1_at (n := n) (by omega)).1])]
                exact q _ (sB.trans ((s5.trans (s6.trans s7)).trans p8.2.1))
/-! ### law -/
def spLaw (K : PySem.W.Frag) : Sp := fun vs H Q _ => ∃ (a : Addr) (ns : List Int), vs = [.ref a] ∧ SqL K H a (ns.map V.int) ∧ ns.length ≤ 63 ∧ ∀ H', Q (.bl true) H'
set_option maxHeartbeats 2000000 in
theorem ok_law {f : Addr} {fd : FuncData} (F : Fun K "law" "law" s_law f fd) (B : NoB mg) (T_z_sum : mg "sum" = none) (T_law_pool : Gc P w K mg base 1 "_law_pool" (spPool K)) (T_law_draw : Gc P w K mg base 1 "_law_draw" spDraw) (T_law_numbers : Gc P w K mg base 1 "_law_numbers" spNum) (T_count_original : Gc P w K mg base 6 "count_original" spCO) (T_K_count_original : Gk P w K mg base 6 "count_original" 0 ["patches"] gApp spCO)
    (T_count_with_jump : Gc P w K mg base 5 "count_with_jump" spCWJ) (T_K_count_with_jump : Gk P w K mg base 5 "count_with_jump" 0 ["arcs", "patches"] gRev spCWJ) (T_law_with_jump : Gc P w K mg base 1 "_law_with_jump" spWJ) (T_law_few_right : Gc P w K mg base 7 "_law_few_right" spFew) : FnG P w K mg base CX0 8 f fd ["script"] (spLaw K) := by
  refine okG F sc_law (fun vs H Q E h => ?_) (fun cdv A outer s H vs Q E hG hr h => ?_)
  · obtain ⟨a, ns, rfl, _⟩ := h
    rfl
  · obtain ⟨sc, ns, rfl, hS, hl, q⟩ := h
    have hu64 := hr.units
    refine ⟨_, (pss_cons (ps_for PassesOwn.never rfl (pi_range1 rfl B.range (pa_cons (pe_callB (call_max2 rfl) (by rfl) B.max (by decide +kernel) (pa_cons pe_int (pa_cons (pe_callB (call_min2 rfl) (by rfl) B.min (by decide +kernel) (pa_cons pe_int (pa_cons (pe_callB call_len_seq (by rfl) B.len PySem.boot_len (pa_cons (pv 0) pa_nil)) pa_nil))) pa_nil))) pa_nil)) (pg_name (i := 1) sc_law.nd rfl (Or.inl rfl))
          (pss_cons (ps_set (i := 2) sc_law.nd rfl (Or.inl rfl) (pe_g T_law_pool hG hr (by decide) (by rfl) (pa_cons (pv 0) (pa_cons (pv 1) pa_nil))))
          (pss_cons (ps_asg (pe_tup (pa_cons (pe_g T_law_numbers hG hr (by decide) (by rfl) (pa_cons pe_int pa_nil)) (pa_cons (pe_g T_law_draw hG hr (by decide) (by rfl) (pa_cons (pv 2) (pa_cons pe_int pa_nil))) pa_nil))) (pg_tup rfl (pgs_cons (pg_name (i := 3) sc_law.nd rfl (Or.inl rfl)) (pgs_cons (pg_name (i := 4) sc_law.nd rfl (Or.inr rfl)) pgs_nil))))
          (pss_cons (ps_for PassesOwn.never rfl (pi_list (pe_lst (pa_cons (pv 4) (pa_cons (pe_op op_sub pe_int (pv 4)) (pa_cons pe_int (pa_cons pe_int (pa_cons pe_int (pa_cons pe_int pa_nil)))))))) (pg_name (i := 5) sc_law.nd rfl (Or.inl rfl))
            (pss_one (ps_if (pt_cmpR op_ne (pe_callB (call_repr hG hu64) (by rfl) B.repr (by decide +kernel) (pa_cons (pe_lst (pa_cons (pe_g T_count_original hG hr (by decide) (by rfl) (pa_cons (pv 5) pa_nil)) (pa_cons (pe_gK0 T_K_count_original hG hr (by decide) (by rfl) (pk_cons (pv 5) pk_nil)) pa_nil))) pa_nil)) (pe_callB (call_repr hG hu64) (by rfl) B.repr (by decide +kernel) (pa_cons (pe_op op_rep (pe_lst (pa_cons (pe_ix ix_list (pv 3) (pv 5) (fun _ _ => rfl)) pa_nil)) pe_int) pa_nil)) (nomark _)) (pss_one (ps_ret pe_bl)) pss_nil)))
          (pss_cons (ps_if (pt_cmpR op_ne (pe_callB (cr_sum rfl) (by rfl) T_z_sum (by decide +kernel) (pa_cons (pe_lc (own := [("t", 6)]) (g := gName 6) (tt := tYes) rfl sc_law.nd (pi_range1 rfl B.range (pa_cons pe_int pa_nil)) (blkOk_by (own := [("t", 6)]) (N := N_law) (sc := defScope s_law) (by decide +kernel)) (fun _ _ _ _ _ => (pg_name (i := 6) sc_law.nd rfl (Or.inl rfl))) (fun _ _ _ _ _ => pts_nil) (fun _ _ _ _ _ => (pe_g T_count_with_jump hG hr (by decide) (by rfl) (pa_cons (pv 4) (pa_cons (pv 6) pa_nil))))) pa_nil)) (pe_ix ix_list (pv 3) (pv 4) (fun _ _ => rfl)) (nomark _)) (pss_one (ps_ret pe_bl)) pss_nil)
          (pss_cons (ps_for PassesOwn.never rfl (pi_list (pe_lst (pa_cons (pe_g T_law_draw hG hr (by decide) (by rfl) (pa_cons (pv 2) (pa_cons pe_int pa_nil))) (pa_cons (pe_g T_law_draw hG hr (by decide) (by rfl) (pa_cons (pv 2) (pa_cons (pe_op op_add (pv 4) pe_int) pa_nil))) (pa_cons (pv 4) (pa_cons pe_int (pa_cons pe_int (pa_cons pe_int pa_nil)))))))) (pg_name (i := 6) sc_law.nd rfl (Or.inl rfl))
            (pss_cons (ps_set (i := 7) sc_law.nd rfl (Or.inl rfl) (pe_g T_law_with_jump hG hr (by decide) (by rfl) (pa_cons (pv 4) (pa_cons (pv 6) pa_nil))))
            (pss_one (ps_if (pt_cmpR op_ne (pe_callB (call_repr hG hu64) (by rfl) B.repr (by decide +kernel) (pa_cons (pe_lst (pa_cons (pe_g T_count_with_jump hG hr (by decide) (by rfl) (pa_cons (pv 4) (pa_cons (pv 6) pa_nil))) (pa_cons (pe_gK0 T_K_count_with_jump hG hr (by decide) (by rfl) (pk_cons (pv 6) (pk_cons (pv 4) pk_nil))) pa_nil))) pa_nil)) (pe_callB (call_repr hG hu64) (by rfl) B.repr (by decide +kernel) (pa_cons (pe_lst (pa_cons (pv 7) (pa_cons (pv 7) pa_nil))) pa_nil)) (nomark _)) (pss_one (ps_ret pe_bl)) pss_nil))))
          (pss_one (ps_if (pt_not (pt_val (pe_g T_law_few_right hG hr (by decide) (by rfl) (pa_cons (pe_mid (pe_ifExp (pt_cmpR (op_eqD hu64) (pv 0) (pe_lst pa_nil) (nomark _)) pe_int (pe_g T_law_draw hG hr (by decide) (by rfl) (pa_cons (pv 2) (pa_cons pe_int pa_nil))))) pa_nil)))) (pss_one (ps_ret pe_bl)) pss_nil))))))))
        (pss_one (ps_ret pe_bl))), ?_⟩
    refine ⟨_, rfl, sc, _, rfl, .inl hS, _, _, rfl, _, _, rfl, ?_⟩
    generalize ec : (if (if (((ns.map V.int).length : Nat) : Int) < 6 then (((ns.map V.int).length : Nat) : Int) else (6 : Int)) > 1 then (if (((ns.map V.int).length : Nat) : Int) < 6 then (((ns.map V.int).length : Nat) : Int) else (6 : Int)) else 1) = c
    have c0 : 1 ≤ c ∧ c ≤ 6 := by
      rw [← ec]
      split <;> split <;> omega
    refine ⟨c, rfl, by omega, by omega, for_range (lo := 0) (n := c.toNat) (fun i σ H' => (∃ y1 y2 y3 y4 y5 y6 y7, σ = [some (.ref sc), y1, y2, y3, y4, y5, y6, y7]) ∧ Same H H') ⟨⟨_, _, _, _, _, _, _, rfl⟩, Same.refl _⟩ (fun i σ H' hi h => ?_) (fun σ H' h => ?_)⟩
    · obtain ⟨⟨y1, y2, y3, y4, y5, y6, y7, rfl⟩, sm⟩ := h
      refine ⟨_, rfl, _, rfl, sc, ns, i, congrArg (fun z => [V.ref sc, V.int z]) (Int.zero_add _), sm.seq hS, by omega, fun H2 src s2 nsrc hs2 => ?_⟩
      refine ⟨rfl, fun H3 pn s3 npn hpn => ?_⟩
      have hs3 := hs2.same s3
      have npns : pn ≠ src := hs2.ne npn
      refine ⟨_, rfl, src, 101, 0, rfl, hs3, by decide, by decide, by decide, fun n H4 n0 n1 hs4 b4 => ⟨by show 2 ≤ sizeLine; decide, fun T nT => ?_⟩⟩
      obtain ⟨n, rfl⟩ := nat_of n0
      have s04 : Same H' H4 := fun b o e => b4 b o (ne_of_none e nsrc) (s3 b o (s2 b o e))
      have hpn4 := b4 _ _ npns hpn
      have s05 := s04.trans (same_new (o := .tup [V.ref pn, .int (n : Int)]) nT)
      have hpn5 := same_new (o := .tup [V.ref pn, .int (n : Int)]) nT _ _ hpn4
      have hs5 := hs4.new (o := .tup [V.ref pn, .int (n : Int)]) nT
      refine ⟨T, _, rfl, .of upd_same, rfl, _, _, rfl, _, _, rfl, rfl, ?_⟩
      generalize upd H4 T (.tup [V.ref pn, .int (n : Int)]) = H5 at s05 hpn5 hs5 ⊢
      have gN : ∀ {Hx : Hp}, Hx pn = some (.lst (((List.range 101).map fun k => ((TN k : Nat) : Int)).map V.int)) → ∀ m : Nat, m ≤ 100 → atI (((List.range 101).map fun k => ((TN k : Nat) : Int)).map V.int) ((m : Nat) : Int) = some (.int ((TN m : Nat) : Int)) := fun _ m hm => by
        refine atI_nat ?_
        rw [List.getElem?_map, List.getElem?_map, List.getElem?_range (by omega)]
        rfl
      -- for one in [..]
      refine ⟨_, rfl, _, rfl, _, _, rfl, rfl, by show 6 ≤ sizeLine; decide, fun L nL => ?_⟩
      have sL := same_new (o := .lst [V.int (n : Int), .int (100 - (n : Int)), .int 0, .int 1, .int 2, .int 100]) nL
      have hL6 : (upd H5 L (.lst [V.int (n : Int), .int (100 - (n : Int)), .int 0, .int 1, .int 2, .int 100])) L = some (.lst [V.int (n : Int), .int (100 - (n : Int)), .int 0, .int 1, .int 2, .int 100]) := upd_same
      have s06 := s05.trans sL
      have hpn6 := sL _ _ hpn5
      have hs6 := hs5.same sL
      generalize upd H5 L (.lst [V.int (n : Int), .int (100 - (n : Int)), .int 0, .int 1, .int 2, .int 100]) = H6 at s06 hpn6 hs6 hL6 ⊢
      refine ⟨L, rfl, ⟨_, .of hL6⟩, for_list (xs := [V.int (n : Int), .int (100 - (n : Int)), .int 0, .int 1, .int 2, .int 100]) (fun j σ H7 => (∃ y5 y6 y7, σ = [some (.ref sc), some (.int (0 + (i : Int))), some (.ref src), some (.ref pn), some (.int (n : Int)), y5, y6, y7]) ∧ Same H6 H7) ⟨⟨_, _, _, rfl⟩, Same.refl _⟩ (fun j σ H7 _ h => .of (h.2 _ _ hL6)) (fun j x σ H7 hx h => ?_) (fun σ H7 h => ?_)⟩
      · obtain ⟨⟨y5, y6, y7, rfl⟩, sm7⟩ := h
        obtain ⟨m, rfl, hm⟩ : ∃ m : Nat, x = .int (m : Int) ∧ m ≤ 100 := by
          have mem := mem_get hx
          simp only [List.mem_cons, List.not_mem_nil, or_false] at mem
          rcases mem with rfl | rfl | rfl | rfl | rfl | rfl
          · exact ⟨n, rfl, by omega⟩
          · exact ⟨100 - n, congrArg V.int (by omega), by omega⟩
          · exact ⟨0, rfl, by decide⟩
          · exact ⟨1, rfl, by decide⟩
          · exact ⟨2, rfl, by decide⟩
          · exact ⟨100, rfl, by decide⟩
        have sh := shown_big (tn_log hm) (by show 2 ≤ 40; decide)
        refine ⟨_, rfl, m, rfl, hm, fun H8 s8 => ?_⟩
        refine ⟨_, rfl, rfl, rfl, m, rfl, hm, fun H9 s9 => ⟨by show 2 ≤ sizeLine; decide, fun L2 nL2 => ?_⟩⟩
        refine ⟨L2, dI [((TN m : Nat) : Int), ((TN m : Nat) : Int)], rfl, dp_ints (.of upd_same), show_ints _ (tn_log hm), noDict_ints _, rI2 _, sh, ?_⟩
        have hpnx := same_new (o := .lst [V.int ((TN m : Nat) : Int), .int ((TN m : Nat) : Int)]) nL2 _ _ (s9 _ _ (s8 _ _ (sm7 _ _ hpn6)))
        refine ⟨_, rfl, _, rfl, pn, _, _, .int ((TN m : Nat) : Int), rfl, rfl, .of hpnx, gN hpnx m hm, by show 1 ≤ sizeLine; decide, fun L3 nL3 => ?_⟩
        refine ⟨L3, 2, _, rfl, rfl, upd_same, by decide, by decide, Lp.zs (show 1 * 2 ≤ 100000 by decide), fun L4 nL4 => ?_⟩
        refine ⟨L4, dI [((TN m : Nat) : Int), ((TN m : Nat) : Int)], rfl, dp_ints (.of upd_same), show_ints _ (tn_log hm), noDict_ints _, rI2 _, sh, ?_⟩
        exact ⟨rfl, false, nF rfl, ⟨_, _, _, rfl⟩, (sm7.trans (s8.trans s9)).trans ((same_new nL2).trans ((same_new nL3).trans (same_new nL4)))⟩
      · obtain ⟨⟨y5, y6, y7, rfl⟩, sm7⟩ := h
        have s07 := s06.trans sm7
        have hpn7 := sm7 _ _ hpn6
        have hs7 := hs6.same sm7
        refine ⟨101, rfl, by decide, by decide, fun D hD => ?_⟩
        have e101 : (101 : Int).toNat = 101 := rfl
        rw [e101]
        refine lc_it (walk_range (lo := 0) (n := 101)) (LcP H7 D fun k => ((List.range k).map fun t => ((cwjN n t : Nat) : Int)).map V.int) (.init hD rfl) (fun _ _ _ _ => trivial) (fun k x H8 H9 hk p8 hy => ?_) (fun H8 p8 => ?_)
        · obtain ⟨rfl, rfl⟩ := hy
          refine ⟨rfl, _, rfl, _, rfl, n, k, congrArg (fun z => [V.int (n : Int), V.int z]) (Int.zero_add _), by omega, by omega, p8.put (Same.refl _) ?_ ?_⟩
          · rw [List.range_succ, List.map_append, List.map_append]
            rfl
          · rw [List.length_map, List.length_map, List.length_range]
            omega
        · have s08 := s07.trans p8.2.1
          have hpn8 := p8.2.1 _ _ hpn7
          have hs8 := hs7.same p8.2.1
          refine ⟨D, _, rfl, .of p8.2.2, _, rfl, _, rfl, pn, _, _, .int ((TN n : Nat) : Int), rfl, rfl, .of hpn8, gN hpn8 n (by omega), rfl, false, nF (by rw [sum_map_cwj, (J1_at (n := n) (by omega)).2.1]), ?_⟩
          -- for t in [..]
          refine ⟨_, rfl, src, 101, 1, rfl, hs8, by decide, by decide, by decide, fun r1 H9 r10 r11 hs9 b9 => ?_⟩
          refine ⟨_, rfl, _, rfl, _, _, rfl, rfl, src, _, 2, rfl, hs9, by decide, by omega, by omega, fun r2 H10 r20 r21 hs10 b10 => ?_⟩
          refine ⟨_, rfl, by show 6 ≤ sizeLine; decide, fun L5 nL5 => ?_⟩
          have s010 : Same H' H10 := fun b o e => b10 b o (ne_of_none e nsrc) (b9 b o (ne_of_none e nsrc) (s08 b o e))
          have sL5 := same_new (o := .lst [V.int r1, .int r2, .int (n : Int), .int 0, .int 1, .int 100]) nL5
          have hL5 : (upd H10 L5 (.lst [V.int r1, .int r2, .int (n : Int), .int 0, .int 1, .int 100])) L5 = some (.lst [V.int r1, .int r2, .int (n : Int), .int 0, .int 1, .int 100]) := upd_same
          have s011 := s010.trans sL5
          have hs11 := hs10.same sL5
          generalize upd H10 L5 (.lst [V.int r1, .int r2, .int (n : Int), .int 0, .int 1, .int 100]) = H11 at s011 hs11 hL5 ⊢
          refine ⟨L5, rfl, ⟨_, .of hL5⟩, for_list (xs := [V.int r1, .int r2, .int (n : Int), .int 0, .int 1, .int 100]) (fun j σ H12 => (∃ y5 y6 y7, σ = [some (.ref sc), some (.int (0 + (i : Int))), some (.ref src), some (.ref pn), some (.int (n : Int)), y5, y6, y7]) ∧ Same H11 H12) ⟨⟨_, _, _, rfl⟩, Same.refl _⟩ (fun j σ H12 _ h => .of (h.2 _ _ hL5)) (fun j x σ H12 hx h => ?_) (fun σ H12 h => ?_)⟩
          · obtain ⟨⟨y5, y6, y7, rfl⟩, sm12⟩ := h
            obtain ⟨t, rfl, ht⟩ : ∃ t : Nat, x = .int (t : Int) ∧ t ≤ 100 := by
              obtain ⟨n1, rfl⟩ := nat_of r10
              obtain ⟨n2, rfl⟩ := nat_of r20
              have mem := mem_get hx
              simp only [List.mem_cons, List.not_mem_nil, or_false] at mem
              rcases mem with rfl | rfl | rfl | rfl | rfl | rfl
              · exact ⟨n1, rfl, by omega⟩
              · exact ⟨n2, rfl, by omega⟩
              · exact ⟨n, rfl, by omega⟩
              · exact ⟨0, rfl, by decide⟩
              · exact ⟨1, rfl, by decide⟩
              · exact ⟨100, rfl, by decide⟩
            have cl := cwj_log (n := n) (t := t) (by omega) ht
            have sh := shown_big cl (by show 2 ≤ 40; decide)
            refine ⟨_, rfl, _, rfl, n, t, rfl, by omega, ht, fun H13 s13 => ?_⟩
            refine ⟨_, rfl, _, rfl, n, t, rfl, by omega, ht, ?_⟩
            refine ⟨_, rfl, _, rfl, rfl, rfl, n, t, rfl, by omega, ht, by show 2 ≤ sizeLine; decide, fun L2 nL2 => ?_⟩
            refine ⟨L2, dI [((cwjN n t : Nat) : Int), ((cwjN n t : Nat) : Int)], rfl, dp_ints (.of upd_same), show_ints _ cl, noDict_ints _, rI2 _, sh, ?_⟩
            refine ⟨_, rfl, _, rfl, by show 2 ≤ sizeLine; decide, fun L3 nL3 => ?_⟩
            refine ⟨L3, dI [((cwjN n t : Nat) : Int), ((cwjN n t : Nat) : Int)], rfl, dp_ints (.of upd_same), show_ints _ cl, noDict_ints _, rI2 _, sh, ?_⟩
            exact ⟨rfl, false, nF rfl, ⟨_, _, _, rfl⟩, (sm12.trans s13).trans ((same_new nL2).trans (same_new nL3))⟩
          · obtain ⟨⟨y5, y6, y7, rfl⟩, sm12⟩ := h
            have s012 := s011.trans sm12
            have hs12 := hs11.same sm12
            refine ⟨fun v H13 => ∃ m : Nat, v = .int (m : Int) ∧ m ≤ 4 ∧ Same H' H13, ?_, fun v H13 hm => ?_⟩
            · refine ⟨_, rfl, Nat.zero_le _, fun e ne => ?_⟩
              have hsc : SqL K (upd H12 e (.lst [])) sc (ns.map V.int) := ((sm.trans s012).trans (same_new ne)).seq hS
              by_cases hb : ns = []
              · exact ⟨dI ns, dI [], dp_ints hsc, dp_ints (ns := []) (.of upd_same), shaped_ints _, shaped_ints _, true, eqvT hb, 2, rfl, by decide, s012.trans (same_new ne)⟩
              · refine ⟨dI ns, dI [], dp_ints hsc, dp_ints (ns := []) (.of upd_same), shaped_ints _, shaped_ints _, false, eqvF hb, ?_⟩
                refine ⟨_, rfl, src, 5, 3, rfl, hs12.new ne, by decide, by decide, by decide, fun r H14 r0 r1' hs14 b14 => ?_⟩
                obtain ⟨m, rfl⟩ := nat_of r0
                exact ⟨m, rfl, by omega, fun b o eb => b14 b o (ne_of_none eb nsrc) ((s012.trans (same_new ne)) b o eb)⟩
            · obtain ⟨m, rfl, hm4, s013⟩ := hm
              exact ⟨m, rfl, hm4, fun H14 s14 => ⟨true, rfl, iteF ⟨⟨_, _, _, _, _, _, _, rfl⟩, sm.trans (s013.trans s14)⟩⟩⟩
    · exact q _
end
end L63
set_option Elab.async false
set_option linter.all false
set_option maxRecDepth 100000
namespace L63
open PySem PySem.Spec PyProof.Rows L2 Lp
theorem all_mk {l : PySem.W.OpenLaw} {w : World} {K : PySem.W.Frag} {h : Heap} {mg : Str → Option Value} {fa : Addr} (X : K.In h) (G : h.Ns mainGlobals mg) (hfa : mg "law" = some (.ref fa))
    {f0 : Addr} {oc0 kV0 dc0 pm0 cd0 ct0 : Value} {od0 an0 : Option Addr} {sl0 : Array (Option Value)}
    (a0 : PySem.W.nsIn K mainGlobals "is_integer" = some (some (.ref f0))) (l0 : K.lookup f0 = some ⟨oc0, od0, .func (PySem.W.fnOf "is_integer" "is_integer" (defArgs s_is_integer) (defBody s_is_integer) (defScope s_is_integer) .none kV0 dc0 pm0 an0 cd0 ct0), sl0⟩) (c0 : PySem.W.codeIn K cd0 "is_integer" = true) (k0 : PySem.W.keepIn K (.ref f0) = true)
    {f1 : Addr} {oc1 kV1 dc1 pm1 cd1 ct1 : Value} {od1 an1 : Option Addr} {sl1 : Array (Option Value)}
    (a1 : PySem.W.nsIn K mainGlobals "is_integer_within" = some (some (.ref f1))) (l1 : K.lookup f1 = some ⟨oc1, od1, .func (PySem.W.fnOf "is_integer_within" "is_integer_within" (defArgs s_is_integer_within) (defBody s_is_integer_within) (defScope s_is_integer_within) .none kV1 dc1 pm1 an1 cd1 ct1), sl1⟩) (c1 : PySem.W.codeIn K cd1 "is_integer_within" = true) (k1 : PySem.W.keepIn K (.ref f1) = true)
    {f2 : Addr} {oc2 kV2 dc2 pm2 cd2 ct2 : Value} {od2 an2 : Option Addr} {sl2 : Array (Option Value)}
    (a2 : PySem.W.nsIn K mainGlobals "check_number" = some (some (.ref f2))) (l2 : K.lookup f2 = some ⟨oc2, od2, .func (PySem.W.fnOf "check_number" "check_number" (defArgs s_check_number) (defBody s_check_number) (defScope s_check_number) .none kV2 dc2 pm2 an2 cd2 ct2), sl2⟩) (c2 : PySem.W.codeIn K cd2 "check_number" = true) (k2 : PySem.W.keepIn K (.ref f2) = true)
    {f3 : Addr} {oc3 kV3 dc3 pm3 cd3 ct3 : Value} {od3 an3 : Option Addr} {sl3 : Array (Option Value)}
    (a3 : PySem.W.nsIn K mainGlobals "_check_patches" = some (some (.ref f3))) (l3 : K.lookup f3 = some ⟨oc3, od3, .func (PySem.W.fnOf "_check_patches" "_check_patches" (defArgs s_check_patches) (defBody s_check_patches) (defScope s_check_patches) .none kV3 dc3 pm3 an3 cd3 ct3), sl3⟩) (c3 : PySem.W.codeIn K cd3 "_check_patches" = true) (k3 : PySem.W.keepIn K (.ref f3) = true)
    {f4 : Addr} {oc4 kV4 dc4 pm4 cd4 ct4 : Value} {od4 an4 : Option Addr} {sl4 : Array (Option Value)}
    (a4 : PySem.W.nsIn K mainGlobals "_count_ways" = some (some (.ref f4))) (l4 : K.lookup f4 = some ⟨oc4, od4, .func (PySem.W.fnOf "_count_ways" "_count_ways" (defArgs s_count_ways) (defBody s_count_ways) (defScope s_count_ways) .none kV4 dc4 pm4 an4 cd4 ct4), sl4⟩) (c4 : PySem.W.codeIn K cd4 "_count_ways" = true) (k4 : PySem.W.keepIn K (.ref f4) = true)
    {f5 : Addr} {oc5 kV5 dc5 pm5 cd5 ct5 : Value} {od5 an5 : Option Addr} {sl5 : Array (Option Value)}
    (a5 : PySem.W.nsIn K mainGlobals "count_with_jump" = some (some (.ref f5))) (l5 : K.lookup f5 = some ⟨oc5, od5, .func (PySem.W.fnOf "count_with_jump" "count_with_jump" (defArgs s_count_with_jump) (defBody s_count_with_jump) (defScope s_count_with_jump) .none kV5 dc5 pm5 an5 cd5 ct5), sl5⟩) (c5 : PySem.W.codeIn K cd5 "count_with_jump" = true) (k5 : PySem.W.keepIn K (.ref f5) = true)
    {f6 : Addr} {oc6 kV6 dc6 pm6 cd6 ct6 : Value} {od6 an6 : Option Addr} {sl6 : Array (Option Value)}
    (a6 : PySem.W.nsIn K mainGlobals "count_original" = some (some (.ref f6))) (l6 : K.lookup f6 = some ⟨oc6, od6, .func (PySem.W.fnOf "count_original" "count_original" (defArgs s_count_original) (defBody s_count_original) (defScope s_count_original) .none kV6 dc6 pm6 an6 cd6 ct6), sl6⟩) (c6 : PySem.W.codeIn K cd6 "count_original" = true) (k6 : PySem.W.keepIn K (.ref f6) = true)
    {f7 : Addr} {oc7 kV7 dc7 pm7 cd7 ct7 : Value} {od7 an7 : Option Addr} {sl7 : Array (Option Value)}
    (a7 : PySem.W.nsIn K mainGlobals "_law_pool" = some (some (.ref f7))) (l7 : K.lookup f7 = some ⟨oc7, od7, .func (PySem.W.fnOf "_law_pool" "_law_pool" (defArgs s_law_pool) (defBody s_law_pool) (defScope s_law_pool) .none kV7 dc7 pm7 an7 cd7 ct7), sl7⟩) (c7 : PySem.W.codeIn K cd7 "_law_pool" = true) (k7 : PySem.W.keepIn K (.ref f7) = true)
    {f8 : Addr} {oc8 kV8 dc8 pm8 cd8 ct8 : Value} {od8 an8 : Option Addr} {sl8 : Array (Option Value)}
    (a8 : PySem.W.nsIn K mainGlobals "_law_draw" = some (some (.ref f8))) (l8 : K.lookup f8 = some ⟨oc8, od8, .func (PySem.W.fnOf "_law_draw" "_law_draw" (defArgs s_law_draw) (defBody s_law_draw) (defScope s_law_draw) .none kV8 dc8 pm8 an8 cd8 ct8), sl8⟩) (c8 : PySem.W.codeIn K cd8 "_law_draw" = true) (k8 : PySem.W.keepIn K (.ref f8) = true)
    {f9 : Addr} {oc9 kV9 dc9 pm9 cd9 ct9 : Value} {od9 an9 : Option Addr} {sl9 : Array (Option Value)}
    (a9 : PySem.W.nsIn K mainGlobals "_law_every" = some (some (.ref f9))) (l9 : K.lookup f9 = some ⟨oc9, od9, .func (PySem.W.fnOf "_law_every" "_law_every" (defArgs s_law_every) (defBody s_law_every) (defScope s_law_every) .none kV9 dc9 pm9 an9 cd9 ct9), sl9⟩) (c9 : PySem.W.codeIn K cd9 "_law_every" = true) (k9 : PySem.W.keepIn K (.ref f9) = true)
    {f10 : Addr} {oc10 kV10 dc10 pm10 cd10 ct10 : Value} {od10 an10 : Option Addr} {sl10 : Array (Option Value)}
    (a10 : PySem.W.nsIn K mainGlobals "_law_shapes" = some (some (.ref f10))) (l10 : K.lookup f10 = some ⟨oc10, od10, .func (PySem.W.fnOf "_law_shapes" "_law_shapes" (defArgs s_law_shapes) (defBody s_law_shapes) (defScope s_law_shapes) .none kV10 dc10 pm10 an10 cd10 ct10), sl10⟩) (c10 : PySem.W.codeIn K cd10 "_law_shapes" = true) (k10 : PySem.W.keepIn K (.ref f10) = true)
    {f11 : Addr} {oc11 kV11 dc11 pm11 cd11 ct11 : Value} {od11 an11 : Option Addr} {sl11 : Array (Option Value)}
    (a11 : PySem.W.nsIn K mainGlobals "_law_all" = some (some (.ref f11))) (l11 : K.lookup f11 = some ⟨oc11, od11, .func (PySem.W.fnOf "_law_all" "_law_all" (defArgs s_law_all) (defBody s_law_all) (defScope s_law_all) .none kV11 dc11 pm11 an11 cd11 ct11), sl11⟩) (c11 : PySem.W.codeIn K cd11 "_law_all" = true) (k11 : PySem.W.keepIn K (.ref f11) = true)
    {f12 : Addr} {oc12 kV12 dc12 pm12 cd12 ct12 : Value} {od12 an12 : Option Addr} {sl12 : Array (Option Value)}
    (a12 : PySem.W.nsIn K mainGlobals "_law_present" = some (some (.ref f12))) (l12 : K.lookup f12 = some ⟨oc12, od12, .func (PySem.W.fnOf "_law_present" "_law_present" (defArgs s_law_present) (defBody s_law_present) (defScope s_law_present) .none kV12 dc12 pm12 an12 cd12 ct12), sl12⟩) (c12 : PySem.W.codeIn K cd12 "_law_present" = true) (k12 : PySem.W.keepIn K (.ref f12) = true)
    {f13 : Addr} {oc13 kV13 dc13 pm13 cd13 ct13 : Value} {od13 an13 : Option Addr} {sl13 : Array (Option Value)}
    (a13 : PySem.W.nsIn K mainGlobals "_law_numbers" = some (some (.ref f13))) (l13 : K.lookup f13 = some ⟨oc13, od13, .func (PySem.W.fnOf "_law_numbers" "_law_numbers" (defArgs s_law_numbers) (defBody s_law_numbers) (defScope s_law_numbers) .none kV13 dc13 pm13 an13 cd13 ct13), sl13⟩) (c13 : PySem.W.codeIn K cd13 "_law_numbers" = true) (k13 : PySem.W.keepIn K (.ref f13) = true)
    {f14 : Addr} {oc14 kV14 dc14 pm14 cd14 ct14 : Value} {od14 an14 : Option Addr} {sl14 : Array (Option Value)}
    (a14 : PySem.W.nsIn K mainGlobals "_law_with_jump" = some (some (.ref f14))) (l14 : K.lookup f14 = some ⟨oc14, od14, .func (PySem.W.fnOf "_law_with_jump" "_law_with_jump" (defArgs s_law_with_jump) (defBody s_law_with_jump) (defScope s_law_with_jump) .none kV14 dc14 pm14 an14 cd14 ct14), sl14⟩) (c14 : PySem.W.codeIn K cd14 "_law_with_jump" = true) (k14 : PySem.W.keepIn K (.ref f14) = true)
    {f15 : Addr} {oc15 kV15 dc15 pm15 cd15 ct15 : Value} {od15 an15 : Option Addr} {sl15 : Array (Option Value)}
    (a15 : PySem.W.nsIn K mainGlobals "_law_jump" = some (some (.ref f15))) (l15 : K.lookup f15 = some ⟨oc15, od15, .func (PySem.W.fnOf "_law_jump" "_law_jump" (defArgs s_law_jump) (defBody s_law_jump) (defScope s_law_jump) .none kV15 dc15 pm15 an15 cd15 ct15), sl15⟩) (c15 : PySem.W.codeIn K cd15 "_law_jump" = true) (k15 : PySem.W.keepIn K (.ref f15) = true)
    {f16 : Addr} {oc16 kV16 dc16 pm16 cd16 ct16 : Value} {od16 an16 : Option Addr} {sl16 : Array (Option Value)}
    (a16 : PySem.W.nsIn K mainGlobals "_law_few_right" = some (some (.ref f16))) (l16 : K.lookup f16 = some ⟨oc16, od16, .func (PySem.W.fnOf "_law_few_right" "_law_few_right" (defArgs s_law_few_right) (defBody s_law_few_right) (defScope s_law_few_right) .none kV16 dc16 pm16 an16 cd16 ct16), sl16⟩) (c16 : PySem.W.codeIn K cd16 "_law_few_right" = true) (k16 : PySem.W.keepIn K (.ref f16) = true)
    {f17 : Addr} {oc17 kV17 dc17 pm17 cd17 ct17 : Value} {od17 an17 : Option Addr} {sl17 : Array (Option Value)}
    (a17 : PySem.W.nsIn K mainGlobals "law" = some (some (.ref f17))) (l17 : K.lookup f17 = some ⟨oc17, od17, .func (PySem.W.fnOf "law" "law" (defArgs s_law) (defBody s_law) (defScope s_law) .none kV17 dc17 pm17 an17 cd17 ct17), sl17⟩) (c17 : PySem.W.codeIn K cd17 "law" = true) (k17 : PySem.W.keepIn K (.ref f17) = true)
    {t_LAST_PATCH : Tok} (g_LAST_PATCH : PySem.W.nsIn K mainGlobals "LAST_PATCH" = some (some (.int 100 t_LAST_PATCH)))
    (m_factorial : PySem.W.nsIn K mainGlobals "factorial" = some (some (.builtin "math.factorial")))
    (m_comb : PySem.W.nsIn K mainGlobals "comb" = some (some (.builtin "math.comb")))
    (z_len : PySem.W.nsIn K mainGlobals "len" = some none)
    (z_list : PySem.W.nsIn K mainGlobals "list" = some none)
    (z_int : PySem.W.nsIn K mainGlobals "int" = some none)
    (z_bool : PySem.W.nsIn K mainGlobals "bool" = some none)
    (z_str : PySem.W.nsIn K mainGlobals "str" = some none)
    (z_tuple : PySem.W.nsIn K mainGlobals "tuple" = some none)
    (z_max : PySem.W.nsIn K mainGlobals "max" = some none)
    (z_min : PySem.W.nsIn K mainGlobals "min" = some none)
    (z_range : PySem.W.nsIn K mainGlobals "range" = some none)
    (z_repr : PySem.W.nsIn K mainGlobals "repr" = some none)
    (z_isinstance : PySem.W.nsIn K mainGlobals "isinstance" = some none)
    (z_type : PySem.W.nsIn K mainGlobals "type" = some none)
    (z_all : PySem.W.nsIn K mainGlobals "all" = some none)
    (z_set : PySem.W.nsIn K mainGlobals "set" = some none)
    (z_zip : PySem.W.nsIn K mainGlobals "zip" = some none)
    (z_enumerate : PySem.W.nsIn K mainGlobals "enumerate" = some none)
    (z_sorted : PySem.W.nsIn K mainGlobals "sorted" = some none)
    (z_abs : PySem.W.nsIn K mainGlobals "abs" = some none)
    (z_sum : PySem.W.nsIn K mainGlobals "sum" = some none) :
    ∃ fd : FuncData, (∀ (s : Shared) (v : Value), BindsTo s fd ⟨[v], []⟩ [("script", v)]) ∧ ∀ base : Heap, K.In base → base.Ns mainGlobals mg → FnG l.prog w K mg base CX0 8 fa fd ["script"] (spLaw K) := by
  have e := hfa.symm.trans (PySem.W.mg_of X G a17)
  cases e
  have B : NoB mg := ⟨PySem.W.mg_none_of X G z_len, PySem.W.mg_none_of X G z_list, PySem.W.mg_none_of X G z_int, PySem.W.mg_none_of X G z_bool, PySem.W.mg_none_of X G z_str, PySem.W.mg_none_of X G z_tuple, PySem.W.mg_none_of X G z_max, PySem.W.mg_none_of X G z_min, PySem.W.mg_none_of X G z_range, PySem.W.mg_none_of X G z_repr, PySem.W.mg_none_of X G z_isinstance, PySem.W.mg_none_of X G z_type, PySem.W.mg_none_of X G z_all, PySem.W.mg_none_of X G z_set, PySem.W.mg_none_of X G z_zip, PySem.W.mg_none_of X G z_enumerate, PySem.W.mg_none_of X G z_sorted, PySem.W.mg_none_of X G z_abs⟩
  have F0 := fun_mk (st := s_is_integer) l0 c0 k0
  have b0 := F0.binds (ps := ["value"]) fun _ _ _ _ _ _ us hl => match us, hl with | [_], _ => rfl
  have F1 := fun_mk (st := s_is_integer_within) l1 c1 k1
  have b1 := F1.binds (ps := ["value", "least", "greatest"]) fun _ _ _ _ _ _ us hl => match us, hl with | [_, _, _], _ => rfl
  have F2 := fun_mk (st := s_check_number) l2 c2 k2
  have b2 := F2.binds (ps := ["value", "least", "greatest"]) fun _ _ _ _ _ _ us hl => match us, hl with | [_, _, _], _ => rfl
  have F3 := fun_mk (st := s_check_patches) l3 c3 k3
  have b3 := F3.binds (ps := ["patches"]) fun _ _ _ _ _ _ us hl => match us, hl with | [_], _ => rfl
  have F4 := fun_mk (st := s_count_ways) l4 c4 k4
  have b4 := F4.binds (ps := ["running", "unstarted"]) fun _ _ _ _ _ _ us hl => match us, hl with | [_, _], _ => rfl
  have F5 := fun_mk (st := s_count_with_jump) l5 c5 k5
  have b5 := F5.binds (ps := ["patches", "arcs"]) fun _ _ _ _ _ _ us hl => match us, hl with | [_, _], _ => rfl
  have F6 := fun_mk (st := s_count_original) l6 c6 k6
  have b6 := F6.binds (ps := ["patches"]) fun _ _ _ _ _ _ us hl => match us, hl with | [_], _ => rfl
  have F7 := fun_mk (st := s_law_pool) l7 c7 k7
  have b7 := F7.binds (ps := ["script", "k"]) fun _ _ _ _ _ _ us hl => match us, hl with | [_, _], _ => rfl
  have F8 := fun_mk (st := s_law_draw) l8 c8 k8
  have b8 := F8.binds (ps := ["pool", "many"]) fun _ _ _ _ _ _ us hl => match us, hl with | [_, _], _ => rfl
  have F9 := fun_mk (st := s_law_every) l9 c9 k9
  have b9 := F9.binds (ps := ["signs"]) fun _ _ _ _ _ _ us hl => match us, hl with | [_], _ => rfl
  have F10 := fun_mk (st := s_law_shapes) l10 c10 k10
  have b10 := F10.binds (ps := ["n"]) fun _ _ _ _ _ _ us hl => match us, hl with | [_], _ => rfl
  have F11 := fun_mk (st := s_law_all) l11 c11 k11
  have b11 := F11.binds (ps := ["n"]) fun _ _ _ _ _ _ us hl => match us, hl with | [_], _ => rfl
  have F12 := fun_mk (st := s_law_present) l12 c12 k12
  have b12 := F12.binds (ps := ["row"]) fun _ _ _ _ _ _ us hl => match us, hl with | [_], _ => rfl
  have F13 := fun_mk (st := s_law_numbers) l13 c13 k13
  have b13 := F13.binds (ps := ["most"]) fun _ _ _ _ _ _ us hl => match us, hl with | [_], _ => rfl
  have F14 := fun_mk (st := s_law_with_jump) l14 c14 k14
  have b14 := F14.binds (ps := ["n", "t"]) fun _ _ _ _ _ _ us hl => match us, hl with | [_, _], _ => rfl
  have F15 := fun_mk (st := s_law_jump) l15 c15 k15
  have b15 := F15.binds (ps := ["row"]) fun _ _ _ _ _ _ us hl => match us, hl with | [_], _ => rfl
  have F16 := fun_mk (st := s_law_few_right) l16 c16 k16
  have b16 := F16.binds (ps := ["n"]) fun _ _ _ _ _ _ us hl => match us, hl with | [_], _ => rfl
  have F17 := fun_mk (st := s_law) l17 c17 k17
  refine ⟨PySem.W.fnOf "law" "law" (defArgs s_law) (defBody s_law) (defScope s_law) .none kV17 dc17 pm17 an17 cd17 ct17, fun s v => .of_eq rfl, fun base _ _ => ?_⟩
  have T_is_integer : Gc l.prog w K mg base 1 "is_integer" _ := ⟨f0, _, ["value"], ok_is_integer F0 B, PySem.W.mg_of X G a0, F0.kp, b0⟩
  have T_is_integer_within : Gc l.prog w K mg base 2 "is_integer_within" _ := ⟨f1, _, ["value", "least", "greatest"], ok_is_integer_within F1 T_is_integer, PySem.W.mg_of X G a1, F1.kp, b1⟩
  have T_check_number : Gc l.prog w K mg base 3 "check_number" _ := ⟨f2, _, ["value", "least", "greatest"], ok_check_number F2 T_is_integer_within, PySem.W.mg_of X G a2, F2.kp, b2⟩
  have T_check_patches : Gc l.prog w K mg base 4 "_check_patches" _ := ⟨f3, _, ["patches"], ok_check_patches F3 (PySem.W.mg_of X G g_LAST_PATCH) T_check_number, PySem.W.mg_of X G a3, F3.kp, b3⟩
  have T_count_ways : Gc l.prog w K mg base 1 "_count_ways" _ := ⟨f4, _, ["running", "unstarted"], ok_count_ways F4 (PySem.W.mg_of X G m_factorial), PySem.W.mg_of X G a4, F4.kp, b4⟩
  have T_count_with_jump : Gc l.prog w K mg base 5 "count_with_jump" _ := ⟨f5, _, ["patches", "arcs"], ok_count_with_jump F5 (PySem.W.mg_of X G m_comb) (PySem.W.mg_of X G g_LAST_PATCH) T_check_patches T_check_number T_count_ways, PySem.W.mg_of X G a5, F5.kp, b5⟩
  have T_K_count_with_jump : Gk l.prog w K mg base 5 "count_with_jump" 0 ["arcs", "patches"] gRev _ := ⟨f5, _, ["patches", "arcs"], _, ok_count_with_jump F5 (PySem.W.mg_of X G m_comb) (PySem.W.mg_of X G g_LAST_PATCH) T_check_patches T_check_number T_count_ways, PySem.W.mg_of X G a5, F5.kp, kb_of F5 0 ["arcs", "patches"] gRev kb_gRev fun _ _ _ _ _ _ us ws l1 l2 => match us, ws, l1, l2 with | [], [_, _], _, _ => rfl⟩
  have T_count_original : Gc l.prog w K mg base 6 "count_original" _ := ⟨f6, _, ["patches"], ok_count_original F6 (PySem.W.mg_none_of X G z_sum) B T_check_patches T_count_with_jump, PySem.W.mg_of X G a6, F6.kp, b6⟩
  have T_K_count_original : Gk l.prog w K mg base 6 "count_original" 0 ["patches"] gApp _ := ⟨f6, _, ["patches"], _, ok_count_original F6 (PySem.W.mg_none_of X G z_sum) B T_check_patches T_count_with_jump, PySem.W.mg_of X G a6, F6.kp, kb_of F6 0 ["patches"] gApp kb_gApp fun _ _ _ _ _ _ us ws l1 l2 => match us, ws, l1, l2 with | [], [_], _, _ => rfl⟩
  have T_law_pool : Gc l.prog w K mg base 1 "_law_pool" _ := ⟨f7, _, ["script", "k"], ok_law_pool F7 B, PySem.W.mg_of X G a7, F7.kp, b7⟩
  have T_law_draw : Gc l.prog w K mg base 1 "_law_draw" _ := ⟨f8, _, ["pool", "many"], ok_law_draw F8, PySem.W.mg_of X G a8, F8.kp, b8⟩
  have T_law_every : Gc l.prog w K mg base 1 "_law_every" _ := ⟨f9, _, ["signs"], ok_law_every F9 B, PySem.W.mg_of X G a9, F9.kp, b9⟩
  have T_law_shapes : Gc l.prog w K mg base 1 "_law_shapes" _ := ⟨f10, _, ["n"], ok_law_shapes F10 B, PySem.W.mg_of X G a10, F10.kp, b10⟩
  have T_law_all : Gc l.prog w K mg base 2 "_law_all" _ := ⟨f11, _, ["n"], ok_law_all F11 B T_law_shapes T_law_every, PySem.W.mg_of X G a11, F11.kp, b11⟩
  have T_law_present : Gc l.prog w K mg base 1 "_law_present" _ := ⟨f12, _, ["row"], ok_law_present F12, PySem.W.mg_of X G a12, F12.kp, b12⟩
  have T_law_numbers : Gc l.prog w K mg base 1 "_law_numbers" _ := ⟨f13, _, ["most"], ok_law_numbers F13 B, PySem.W.mg_of X G a13, F13.kp, b13⟩
  have T_law_with_jump : Gc l.prog w K mg base 1 "_law_with_jump" _ := ⟨f14, _, ["n", "t"], ok_law_with_jump F14 B, PySem.W.mg_of X G a14, F14.kp, b14⟩
  have T_law_jump : Gc l.prog w K mg base 1 "_law_jump" _ := ⟨f15, _, ["row"], ok_law_jump F15 B, PySem.W.mg_of X G a15, F15.kp, b15⟩
  have T_law_few_right : Gc l.prog w K mg base 7 "_law_few_right" _ := ⟨f16, _, ["n"], ok_law_few_right F16 B T_law_all T_law_jump T_law_present T_count_with_jump T_count_original, PySem.W.mg_of X G a16, F16.kp, b16⟩
  exact ok_law F17 B (PySem.W.mg_none_of X G z_sum) T_law_pool T_law_draw T_law_numbers T_count_original T_K_count_original T_count_with_jump T_K_count_with_jump T_law_with_jump T_law_few_right
end L63
open PySem PySem.W PyProof.Rows
set_option maxHeartbeats 0 in
theorem PySem.Challenge.cw_latepatches_k63_originals_counted_holds : PySem.Challenge.rw_latepatches_k63_originals_counted.Holds := by
  w_on; o_law; k_head; (case hw => w_witness2)
  k_fill
  refine Lp.walk_ofG (l := PySem.Challenge.rw_latepatches_k63_originals_counted) (n := 63) (k := 8) (x := "script") (CX := fun _ => L2.CX0) (sp := fun w => L63.spLaw _) rfl (by decide) rfl ⟨rfl, by decide, by decide⟩ (fun w h Y => PySem.W.kIn_of Y) ?F (fun _ _ a ns hl _ hS => ⟨a, ns, rfl, hS, hl, fun _ => rfl⟩) (fun _ _ _ _ _ h => h)
  case F =>
    intro w mg fa h KX G hmg
    refine' L63.all_mk KX G hmg ?a0 ?l0 ?c0 ?k0 ?a1 ?l1 ?c1 ?k1 ?a2 ?l2 ?c2 ?k2 ?a3 ?l3 ?c3 ?k3 ?a4 ?l4 ?c4 ?k4 ?a5 ?l5 ?c5 ?k5 ?a6 ?l6 ?c6 ?k6 ?a7 ?l7 ?c7 ?k7 ?a8 ?l8 ?c8 ?k8 ?a9 ?l9 ?c9 ?k9 ?a10 ?l10 ?c10 ?k10 ?a11 ?l11 ?c11 ?k11 ?a12 ?l12 ?c12 ?k12 ?a13 ?l13 ?c13 ?k13 ?a14 ?l14 ?c14 ?k14 ?a15 ?l15 ?c15 ?k15 ?a16 ?l16 ?c16 ?k16 ?a17 ?l17 ?c17 ?k17 ?g_LAST_PATCH ?m_factorial ?m_comb ?z_len ?z_list ?z_int ?z_bool ?z_str ?z_tuple ?z_max ?z_min ?z_range ?z_repr ?z_isinstance ?z_type ?z_all ?z_set ?z_zip ?z_enumerate ?z_sorted ?z_abs ?z_sum
    (case a0 => k_is); (case l0 => k_is); (case c0 => k_is); (case k0 => k_is); (case a1 => k_is); (case l1 => k_is); (case c1 => k_is); (case k1 => k_is); (case a2 => k_is); (case l2 => k_is); (case c2 => k_is); (case k2 => k_is); (case a3 => k_is); (case l3 => k_is); (case c3 => k_is); (case k3 => k_is); (case a4 => k_is); (case l4 => k_is); (case c4 => k_is); (case k4 => k_is); (case a5 => k_is); (case l5 => k_is); (case c5 => k_is); (case k5 => k_is); (case a6 => k_is); (case l6 => k_is); (case c6 => k_is); (case k6 => k_is); (case a7 => k_is); (case l7 => k_is); (case c7 => k_is); (case k7 => k_is); (case a8 => k_is); (case l8 => k_is); (case c8 => k_is); (case k8 => k_is); (case a9 => k_is); (case l9 => k_is); (case c9 => k_is); (case k9 => k_is); (case a10 => k_is); (case l10 => k_is); (case c10 => k_is); (case k10 => k_is); (case a11 => k_is); (case l11 => k_is); (case c11 => k_is); (case k11 => k_is); (case a12 => k_is); (case l12 => k_is); (case c12 => k_is); (case k12 => k_is); (case a13 => k_is); (case l13 => k_is); (case c13 => k_is); (case k13 => k_is); (case a14 => k_is); (case l14 => k_is); (case c14 => k_is); (case k14 => k_is); (case a15 => k_is); (case l15 => k_is); (case c15 => k_is); (case k15 => k_is); (case a16 => k_is); (case l16 => k_is); (case c16 => k_is); (case k16 => k_is); (case a17 => k_is); (case l17 => k_is); (case c17 => k_is); (case k17 => k_is); (case g_LAST_PATCH => k_is); (case m_factorial => k_is); (case m_comb => k_is); (case z_len => k_is); (case z_list => k_is); (case z_int => k_is); (case z_bool => k_is); (case z_str => k_is); (case z_tuple => k_is); (case z_max => k_is); (case z_min => k_is); (case z_range => k_is); (case z_repr => k_is); (case z_isinstance => k_is); (case z_type => k_is); (case z_all => k_is); (case z_set => k_is); (case z_zip => k_is); (case z_enumerate => k_is); (case z_sorted => k_is); (case z_abs => k_is); (case z_sum => k_is)
