import PyProof.Rows.All
import Wide.All
import OpenK.AllK
import Wide.FinOn
import HandS.ForMost
import HandS.IsInst
import HandS.More
import HandS.Strs
import HandS.Wide
import HandS.SortInts
import HandS.Style
import HandS.Conv
import PyProof.TypeEq
import PyProof.ReprRoads
import HandS.ForExc
import HandS.Evl
import HandS.Zip
import HandS.SetFor
import HandS.Walk
import PyProof.Rows.CountFlat
import HandS.DictComp
import PyProof.Rows.SeqMore
import HandS.Text
import HandS.WideBits
import HandS.Gcd
import HandS.Defaults
import PyProof.Rows.RegReprOcc
import PyProof.StrOps2
import PySem.Challenge.RW_latepatches_k56_survivors_counted_in_sha
set_option Elab.async false
set_option linter.all false
set_option maxRecDepth 100000
namespace Lp
open PySem PySem.Spec PyProof.Rows L2

/-! ### operators that the layer lacks -/
def CPowW (i j : Int) : Prop := 0 ≤ j ∧ (Builtin.Int.intBits i : Int) * j ≤ 2 ^ 27
section
variable {X : Cx}
theorem op_powW : OpR X (binaryOp .Pow) (rI CPowW fun i j => .int (i ^ j.toNat)) := opI fun _ _ _ _ _ _ _ hc q => pow_int hc.1 hc.2 q
end
theorem powW_ok {i : Int} {n : Nat} {j : Int} (h : i.natAbs < 2 ^ n) (hj : 0 ≤ j) (hn : (n : Int) * j ≤ 100000000) : CPowW i j := by
  refine ⟨hj, ?_⟩
  have b := PyProof.Rows.intBits_le h
  have e : (2 : Int) ^ 27 = 134217728 := by decide
  rw [e]
  have h1 : (Builtin.Int.intBits i : Int) ≤ (n : Int) := by omega
  have h2 := Int.mul_le_mul_of_nonneg_right h1 hj
  omega

/-! ### repr -/
def rRepr (K : PySem.W.Frag) : List V → Hp → VK → Prop := fun xs H Q => ∃ (a : Addr) (d : PyData), xs = [.ref a] ∧ Dp K H (.ref a) d ∧ d.showable = true ∧ d.hasDict = false ∧ d.depth ≤ 60 ∧ d.shown.length ≤ sizeLine ∧ Q (.str d.shown) H
theorem call_repr {X : Cx} (hg : X.A.guards = some []) (hu : X.A.units + 64 < cLine) : CallR X (.builtin "repr") (rRepr X.K) := by
  intro pins s σ H xs us Q I r h
  obtain ⟨a, d, rfl, hd, h1, h2, h3, h4, q⟩ := h
  obtain ⟨u, rfl, rx⟩ := vals1 r
  obtain ⟨as, hr⟩ := Dp.reads I d _ u hd rx
  cases (show u = Value.ref a from rx)
  exact PySem.repr_of_reads' hr h1 (PyData.noDict_hsm h2) hg (by omega) (fun _ _ e => e) (fun h' t tk hk => ⟨.str d.shown, H, I.kept hk, ⟨t, rfl⟩, q⟩) h4
end Lp
set_option Elab.async false
set_option linter.all false
set_option maxRecDepth 100000
namespace Lp
open PySem PySem.Spec PyProof.Rows L2

/-! ### defs that are called where no repr is under way (guards = some []) -/
structure FnG (P : Program) (w : World) (K : PySem.W.Frag) (mg : Str → Option Value) (base : Heap) (CX : CXT) (k : Nat) (f : Addr) (fd : FuncData) (ps : List Str) (sp : Sp) : Prop where
  len : ∀ vs H Q E, sp vs H Q E → vs.length = ps.length
  runG : ∀ (A : Around) (out : List Env) (s : Shared) (H : Hp) (ar : Args) (us : List Value) (vs : List V) (Q : VK) (E : XK), A.guards = some [] → Room k A → Env0 P w K mg base A out s H →
    BindsTo s fd ar (ps.zip us) → Vals vs us → sp vs H Q E → codeAny (model P w) A (.call (.ref f) ar) (CR CX out P w H s Q E) s
section
variable {P : Program} {w : World} {K : PySem.W.Frag} {mg : Str → Option Value} {base : Heap}
theorem FnG.of {CX : CXT} {k : Nat} {f : Addr} {fd : FuncData} {ps : List Str} {sp : Sp} (F : FnOk P w K mg base CX k f fd ps sp) : FnG P w K mg base CX k f fd ps sp :=
  ⟨F.len, fun A out s H ar us vs Q E _ hr => F.run A out s H ar us vs Q E hr⟩
theorem fnG_of {CX : CXT} {k : Nat} {f : Addr} {name qual : Str} {params : Arguments} {body : List Stmt} {scope : Scope} {dV kV doc pm cdv ct oc : Value} {an od : Option Addr}
    {osl : Array (Option Value)} {N ps : List Str} {sp : Sp} (lk : K.lookup f = some ⟨oc, od, .func (PySem.W.fnOf name qual params body scope dV kV doc pm an cdv ct), osl⟩) (hcd : PySem.W.codeIn K cdv qual = true) (S : FnScope N ps scope)
    (ln : ∀ vs H Q E, sp vs H Q E → vs.length = ps.length)
    (hb : ∀ (A : Around) (out : List Env) (s : Shared) (H : Hp) (vs : List V) (Q : VK) (E : XK), A.guards = some [] → Room k (A.deeper (envOfC qual scope s.heap.objs.size f cdv)) → sp vs H Q E →
      ∃ t, PSs (cxOf CX P w K mg base N qual scope f cdv A out s H E) body t ∧ t { nx := fun _ H' => Q .non H', rt := Q } (start N vs) H) :
    FnG P w K mg base CX (k + 1) f (PySem.W.fnOf name qual params body scope dV kV doc pm an cdv ct) ps sp := by
  refine ⟨ln, fun A out s H ar us vs Q E hG room en bd rv hs => ?_⟩
  have KX : K.In s.heap := en.mod.kin.keeps fun b o e => (en.bs b o e).1
  have nl : s.heap.NoLimit := en.mod.nolimit.keeps fun b o e => (en.bs b o e).1
  have kd : ∀ y ∈ ps.zip us, scope.names.lookup y.1 = some .local ∨ (scope.names.lookup y.1 = some .cell ∧ ((cellsFrom (s.heap.objs.size + 1) scope.names []).lookup y.1).isSome = true) := by
    rintro ⟨n, v⟩ hy
    have hm := (List.of_mem_zip hy).1
    exact (S.par n hm).elim (fun q => .inl q) fun q => .inr ⟨q, PySem.W.cellsFrom_some _ _ _ (.inl q)⟩
  refine codeAny_call_function room.depth (KX _ _ lk) rfl S.co S.gen rfl (PySem.W.codeRec_of KX hcd) (bd _ _ _ _ ?_)
  refine wpAny_newFunctionEnv_cells S.kind kd fun e1 he s1 x => ?_
  subst he
  refine ⟨nl.keeps x.toInCall.keep, codeAny_func ?_⟩
  obtain ⟨t, ht, hq⟩ := hb A out s H vs Q E hG (room.deeper _) hs
  have J0 : Inv (cxOf CX P w K mg base N qual scope f cdv A out s H E) [] (start N vs) H s1 := inv_start S room.hd en (ln _ _ _ _ hs) rv x
  refine wpAny_mono (ht.run [] s1 (start N vs) H _ J0 hq) (fun fl s' h3 => ?_) fun _ _ h3 => h3
  cases fl with
  | ret u => exact let ⟨v, _, H', J, r2, q⟩ := h3; ⟨v, H', J.os, J.bare, J.base, J.hok, r2, q⟩
  | next => exact let ⟨_, H', J, q⟩ := h3; ⟨.non, H', J.os, J.bare, J.base, J.hok, rfl, q⟩
  | brk => exact (let ⟨_, _, _, q⟩ := h3; q : False).elim
  | cont => exact (let ⟨_, _, _, q⟩ := h3; q : False).elim
theorem okG {x qual : Str} {st : Stmt} {f : Addr} {fd : FuncData} {N ps : List Str} {k : Nat} {sp : Sp} (F : Fun K x qual st f fd) (S : FnScope N ps (defScope st)) (ln : ∀ vs H Q E, sp vs H Q E → vs.length = ps.length)
    (hb : ∀ (cdv : Value) (A : Around) (out : List Env) (s : Shared) (H : Hp) (vs : List V) (Q : VK) (E : XK), A.guards = some [] → Room k (A.deeper (envOfC qual (defScope st) s.heap.objs.size f cdv)) → sp vs H Q E →
      ∃ t, PSs (cxOf CX0 P w K mg base N qual (defScope st) f cdv A out s H E).nox (defBody st) t ∧ t { nx := fun _ H' => Q .non H', rt := Q } (start N vs) H) : FnG P w K mg base CX0 (k + 1) f fd ps sp := by
  obtain ⟨oc, od, kV, doc, pm, an, cdv, ct, osl, rfl, lk, hcd⟩ := F.ex
  refine fnG_of lk hcd S ln fun A out s H vs Q E hG room h => ?_
  obtain ⟨t, ht, q⟩ := hb cdv A out s H vs Q E hG room h
  exact ⟨t, ht.nox, q⟩
end
section
variable {X : Cx} {CX : CXT} {k : Nat} {f : Addr} {fd : FuncData} {ps : List Str} {sp : Sp} {dvs : List V} {ds : List Value} {E : XK} {x : Str} {p pos : Pos} {e : Expr} {es : List Expr} {t : TA}
theorem pe_callG (F : FnG X.prog X.w X.K X.mg X.base CX k f fd ps sp) (hG : X.A.guards = some []) (hr : Room k X.A) (hg : Gl X x) (hm : X.mg x = some (.ref f)) (hk : PySem.W.keepIn X.K (.ref f) = true) (hb : Binds X.K fd ps ds) (hd : Vals dvs ds) (hx : Passes CX X E)
    (ha : PA X (e :: es) t) (hdb : (x == ("__debug__" : Str)) = false := by decide) (he : starEach (e :: es) X.env = (false, eval e X.env) :: starEach es X.env := by rfl) (hpl : (backTo pos (starEach es X.env)).any (·.1) = false := by rfl) :
    PE X (.Call (.Name x p) (e :: es) [] pos) (tCall sp dvs E t) := by
  refine ⟨fun pins s σ H Q I h => wpAny_Call_Name_kw (ld_glob I hg hm ?_ hdb)⟩
  refine PySem.W.callWith_K (h₀ := X.base) I.ok.mod.kin hk (thn (ha.run pos pins s σ H _ I h) fun us s1 ⟨vs, H1, I1, r, q⟩ => ⟨I1.kIn, ?_⟩) he hpl
  have rr : Vals (vs ++ dvs) (us ++ ds) := r.append hd
  have hl : (us ++ ds).length = ps.length := rr.length.symm.trans (F.len _ _ _ _ q)
  refine wpAny_call (codeAny_mono (F.runG X.A X.stack s1 H1 ⟨us, []⟩ (us ++ ds) (vs ++ dvs) Q E hG hr I1.env0 (hb s1 us I1.kIn hl) rr q) fun r s' hq => ?_)
  cases r with
  | error e => exact hx pins σ H1 s1 e s' I1 hq
  | ok fl =>
    cases fl with
    | ret u => exact I1.after hq
    | next => exact False.elim hq
    | brk => exact False.elim hq
    | cont => exact False.elim hq
end

/-! ### the end of a law's row, for such a law -/
theorem law_callG {P : Program} {w : World} {K : PySem.W.Frag} {mg mb : Str → Option Value} {CX : CXT} {k : Nat} {fa a : Addr} {fd : FuncData} {x : Str} {sp : Sp} {s₁ : Shared} {vs : List Value} {ns : List Int}
    (KX : K.In s₁.heap) (hns : s₁.heap.Ns mainGlobals mg) (hb : s₁.heap.Ns builtinsNs mb) (hbb : ∀ x : Str, x ≠ "__name__" → mb x = bootBuiltins x) (hlim : s₁.heap.NoLimit) (hg : s₁.gens = #[])
    (ha : s₁.heap.get? a = some { cls := .type "list", data := .seq vs.toArray }) (hi : IntsAre vs ns) (hl : ns.length ≤ sizeLine) (hr : Room k callerA)
    (F : ∀ base : Heap, K.In base → base.Ns mainGlobals mg → FnG P w K mg base CX k fa fd [x] sp) (hbind : ∀ (s : Shared) (u : Value), BindsTo s fd ⟨[u], []⟩ [(x, u)])
    (hsp : ∀ H : Hp, Only H → SqL K H a (ns.map V.int) → sp [.ref a] H (fun v _ => v = .bl true) fun _ _ _ => False)
    (hCX : ∀ H e s', CX [] H s₁ (fun _ _ _ => False) e s' → False) :
    codeAny (model P w) callerA (.call (.ref fa) ⟨[.ref a], []⟩) (fun r s' => r = .ok (.ret (.bool true)) ∧ OldK s₁.heap s'.heap ∧ s'.os = s₁.os ∧ AllBare s'.gens) s₁ := by
  have rv := vals_ints hi
  have szV := hi.length
  have main : ∀ H : Hp, Only H → SqL K H a (ns.map V.int) → HOk P w H s₁.heap → (∀ b, H b ≠ none → b = a) → (H a ≠ none → K.lookup a = none) →
      codeAny (model P w) callerA (.call (.ref fa) ⟨[.ref a], []⟩) (fun r s' => r = .ok (.ret (.bool true)) ∧ OldK s₁.heap s'.heap ∧ s'.os = s₁.os ∧ AllBare s'.gens) s₁ := by
    intro H hO hS ok hA hK
    have free : ∀ {b : Addr}, b ≠ a → H b = none := fun {b} hb => by
      cases q : H b with
      | none => rfl
      | some u => exact absurd (hA b (by rw [q]; simp)) hb
    have nsK : ∀ {b : Addr} {m : Str → Option Value}, s₁.heap.Ns b m → (hidT s₁.heap H).Ns b m := by
      rintro b m ⟨o, es, ep, e, d, r⟩
      refine ⟨o, es, ep, hidT_get e (free fun z => ?_), d, r⟩
      subst z
      rw [ha] at e
      cases e
      exact nomatch (show Data.seq vs.toArray _ = Data.dict es ep from d)
    have hKb : K.In (hidT s₁.heap H) := by
      intro b o e
      refine hidT_get (KX b o e) ?_
      cases q : H b with
      | none => rfl
      | some u =>
        have z := hA b (by rw [q]; simp)
        subst z
        rw [hK (by rw [q]; simp)] at e
        cases e
    have hM : Mod K mg (hidT s₁.heap H) := ⟨hKb, nsK hns, ⟨mb, nsK hb, hbb⟩, let ⟨mc, h1, h2⟩ := hlim; ⟨mc, nsK h1, h2⟩⟩
    have e0 : Env0 P w K mg (hidT s₁.heap H) callerA [] s₁ H := ⟨rfl, hM, fun b o e => of_hidT e, Nat.le_of_eq (hidT_size _ _), trivial, fun b hb => absurd (show b ∈ ([] : List Addr) from hb) (by simp), ok, .of_eq hg⟩
    refine codeAny_mono ((F _ hKb (nsK hns)).runG callerA [] s₁ H ⟨[.ref a], []⟩ [.ref a] [.ref a] _ _ rfl hr e0 (hbind s₁ (.ref a)) (.cons rfl .nil) (hsp H hO hS)) fun r s' h => ?_
    cases r with
    | error e => exact (hCX H e s' h).elim
    | ok fl =>
      cases fl with
      | next => exact False.elim h
      | brk => exact False.elim h
      | cont => exact False.elim h
      | ret u =>
        obtain ⟨v, H', os, bare, un, hok', r', q⟩ := h
        cases (show v = .bl true from q)
        cases (show u = Value.bool true from r')
        refine ⟨rfl, OldK.of_keep fun b o e => ?_, os, bare⟩
        rcases hO b with z | ⟨ob, xs, z⟩
        · exact un.keep b o e z (fun z => absurd (show b ∈ ([] : List Addr) from z) (by simp)) (by simp)
        · obtain ⟨e1, _⟩ := ok b _ z
          obtain ⟨e2, _⟩ := hok' b _ (un.frzs b ob _ z)
          rw [e] at e1; cases e1
          exact e2
  cases hk : K.lookup a with
  | some o =>
    have e := KX a o hk
    rw [ha] at e
    cases e
    exact main (fun _ => none) (fun _ => .inl rfl) (.inr ⟨_, vs.toArray, _, hk, rfl, rfl, rfl, by rw [List.size_toArray, szV]; exact hl, by simpa using rv⟩) (fun b u z => nomatch z) (fun b z => absurd rfl z) fun z => absurd rfl z
  | none =>
    refine main (fun b => if b = a then some (.frz { cls := .type "list", data := .seq vs.toArray } (.lst (ns.map V.int))) else none) (fun b => ?_) (.inl (.inr ⟨{ cls := .type "list", data := .seq vs.toArray }, if_pos rfl⟩)) (fun b u z => ?_) (fun b z => ?_) fun _ => hk
    · by_cases h : b = a
      · exact .inr ⟨_, _, if_pos h⟩
      · exact .inl (if_neg h)
    · by_cases h : b = a
      · cases (if_pos h).symm.trans z
        subst h
        exact ⟨ha, by rw [List.length_map]; exact hl, vs, _, rv, ha⟩
      · cases (if_neg h).symm.trans z
    · by_cases h : b = a
      · exact h
      · exact absurd (if_neg h) z
theorem walk_ofG {l : PySem.W.OpenLaw} {n k : Nat} {q : Program} {loose : List Str} {XP : (Str → Option Value) → Heap → Prop} {YP : World → Heap → Prop} {d : DefRec} {K : Params → PySem.W.Frag} {CX : World → CXT} {sp : World → Sp} {x : Str}
    (hn : l.most = some n) (hn2 : n ≤ sizeLine) (hdf : d.params.defaults = []) (hr : Room k callerA)
    (hY : ∀ (w : World) (h : Heap), YP w h → (K w.params).In h)
    (F : ∀ (w : World) (mg : Str → Option Value) (fa : Addr) (h : Heap), (K w.params).In h → h.Ns mainGlobals mg → mg d.name = some (.ref fa) →
      ∃ fd : FuncData, (∀ (s : Shared) (u : Value), BindsTo s fd ⟨[u], []⟩ [(x, u)]) ∧
        ∀ base : Heap, (K w.params).In base → base.Ns mainGlobals mg → FnG l.prog w (K w.params) mg base (CX w) k fa fd [x] (sp w))
    (hsp : ∀ (w : World) (H : Hp) (a : Addr) (ns : List Int), ns.length ≤ n → Only H → SqL (K w.params) H a (ns.map V.int) → sp w [.ref a] H (fun v _ => v = .bl true) fun _ _ _ => False)
    (hCX : ∀ (w : World) (H : Hp) (s : Shared) (e : Value) (s' : Shared), CX w [] H s (fun _ _ _ => False) e s' → False) :
    PySem.W.WalkO q loose XP YP l.row.toRowW d [] (fun f vs => PySem.call f vs) := by
  refine Att.attach_call hn hdf fun w _ s₁ mg _ fa _ _ _ _ a vs ns G Y _ _ _ hmg hobj hints hlen hg => ?_
  obtain ⟨fd, hb, hF⟩ := F w mg fa _ (hY w _ Y) G.T.g hmg
  exact law_callG (hY w _ Y) G.T.g G.T.b G.T.builtins G.T.nolimit hg hobj hints (Nat.le_trans hlen hn2) hr hF hb (fun H hO hS => hsp w H a ns hlen hO hS) fun H e s' => hCX w H s₁ e s'
end Lp
set_option Elab.async false
set_option linter.all false
set_option maxRecDepth 100000
namespace Lp
open PySem PySem.Spec PyProof.Rows L2

/-- the names of the built-ins that the text leaves alone -/
structure NoB (mg : Str → Option Value) : Prop where
  len : mg "len" = none
  list : mg "list" = none
  int : mg "int" = none
  bool : mg "bool" = none
  str : mg "str" = none
  tuple : mg "tuple" = none
  max : mg "max" = none
  min : mg "min" = none
  range : mg "range" = none
  repr : mg "repr" = none
  isinstance : mg "isinstance" = none
  type : mg "type" = none
  all : mg "all" = none
  set : mg "set" = none
  zip : mg "zip" = none
  enumerate : mg "enumerate" = none
  sorted : mg "sorted" = none
  abs : mg "abs" = none

/-- a def that may be called by its name -/
structure Gc (P : Program) (w : World) (K : PySem.W.Frag) (mg : Str → Option Value) (base : Heap) (k : Nat) (x : Str) (sp : Sp) : Prop where
  ex : ∃ (f : Addr) (fd : FuncData) (ps : List Str), FnG P w K mg base CX0 k f fd ps sp ∧ mg x = some (.ref f) ∧ PySem.W.keepIn K (.ref f) = true ∧ Binds K fd ps []
theorem FnG.mono {P : Program} {w : World} {K : PySem.W.Frag} {mg : Str → Option Value} {base : Heap} {CX : CXT} {j k : Nat} {f : Addr} {fd : FuncData} {ps : List Str} {sp : Sp} (F : FnG P w K mg base CX j f fd ps sp) (h : j ≤ k) : FnG P w K mg base CX k f fd ps sp :=
  ⟨F.len, fun A out s H ar us vs Q E hG hr => F.runG A out s H ar us vs Q E hG (hr.mono h)⟩
section
variable {X : Cx} {k j : Nat} {x : Str} {sp : Sp} {p pos : Pos} {e : Expr} {es : List Expr} {t : TA}
theorem pe_g (c : Gc X.prog X.w X.K X.mg X.base k x sp) (hG : X.A.guards = some []) (hr : Room j X.A) (hk : k ≤ j) (hg : Gl X x) (ha : PA X (e :: es) t)
    (hdb : (x == ("__debug__" : Str)) = false := by decide) (he : starEach (e :: es) X.env = (false, eval e X.env) :: starEach es X.env := by rfl) (hpl : (backTo pos (starEach es X.env)).any (·.1) = false := by rfl) :
    PE X (.Call (.Name x p) (e :: es) [] pos) (tCall sp [] E0 t) := by
  obtain ⟨f, fd, ps, F, hm, kp, b⟩ := c.ex
  exact pe_callG F hG (hr.mono hk) hg hm kp b .nil pass0 ha hdb he hpl
end

/-! ### == and != of types -/
def rEqTy : R2 := fun x y H Q => ∃ a b, x = .ty a ∧ y = .ty b ∧ (∀ s' : Shared, s'.TypeIs (.type a) "type") ∧ (∀ s' : Shared, s'.TypeIs (.type b) "type") ∧ Q (.bl (decide (a = b))) H
def rNeTy : R2 := fun x y H Q => ∃ a b, x = .ty a ∧ y = .ty b ∧ (∀ s' : Shared, s'.TypeIs (.type a) "type") ∧ (∀ s' : Shared, s'.TypeIs (.type b) "type") ∧ Q (.bl (!decide (a = b))) H
section
variable {X : Cx}
theorem op_eqTy : OpR X (compareOp .Eq) rEqTy := by
  intro pins s σ H x y v u Q I rx ry h
  obtain ⟨a, b, rfl, rfl, ha, hb, q⟩ := h
  cases (show v = Value.type a from rx)
  cases (show u = Value.type b from ry)
  by_cases e : a = b
  · subst e
    exact PySem.TypeEq.eq_type_same ha ⟨.bl true, H, I, rfl, by simpa using q⟩
  · exact PySem.TypeEq.eq_type_other ha hb (by rw [ty_beq]; exact decide_eq_false e) ⟨.bl false, H, I, rfl, by simpa [e] using q⟩
end

open PySem.TypeEq
theorem slot_type_ne : Slot "type" (cmpInfo .NotEq).2.1 "object.__ne__" :=
  .of (owner := "object") (n := "__ne__") (by rw [typeLookup_type, builtinLookup_eq_fast]; kernel_rfl) (by decide +kernel) (by decide +kernel) (by decide +kernel)
    (by first | exact .inl (by decide +kernel) | exact .inr (by decide +kernel)) (by rw [isSubtype_type]; kernel_rfl)
section
variable {prog : Program} {w : World} {A : Around} {E : Value → Shared → Prop} {s : Shared} {Q : Value → Shared → Prop}
theorem ne_type_same {X : String} (hX : ∀ s' : Shared, s'.TypeIs (.type X) "type") (h : Q (.bool false) s) : wpAny (model prog w) A (compareOp .NotEq (.type X) (.type X)) Q E s := by
  show wpAny _ A (richCompare .NotEq _ _) Q E s
  refine PySem.wpAny_richCompare_same (T := "type") (hX s) (hX s) slot_type_ne (wpAny_call_entry slot_type_ne (hX s) F.entry_object_ne ?_ (F.args_object_ne_2 _ _))
  unfold Builtin.«object.__ne__»
  refine wpAny_bind (m := slotArgs "__ne__" 1 _) (wpAny_of_eq (a := ((Value.type X : Value), [Value.type X])) (by first | rfl | (simp only [slotArgs]; rfl)) ?_)
  refine wpAny_bind (wpAny_cRoomFor_or (.inl rfl) ?_)
  refine wpAny_bind (m := callSpecialIfBound? (.type X) (Str.ofString "__eq__") [.type X]) (wpAny_callSpecialIfBound?_slot (hX s) slot_type_eq
    (call_gives slot_type_eq (hX s) F.entry_object_eq (F.args_object_eq_2 _ _) (object_eq_same rfl (by simp)) ?_))
  show wpAny (model prog w) A.in1 (truthy (.bool true) >>= fun b => ret (Value.bool !b)) _ E s
  exact wpAny_bind (wpAny_of_eq (a := true) (by first | rfl | simp [truthy]) (wpAny_pure ⟨_, rfl, (by intro e; cases e), h⟩))
end

/-- a != b of the same built-in type -/
def rNeTyS : R2 := fun x y H Q => ∃ a, x = .ty a ∧ y = .ty a ∧ (∀ s' : Shared, s'.TypeIs (.type a) "type") ∧ Q (.bl false) H
theorem op_neTy {X : Cx} : OpR X (compareOp .NotEq) rNeTyS := by
  intro pins s σ H x y v u Q I rx ry h
  obtain ⟨a, rfl, rfl, ha, q⟩ := h
  cases (show v = Value.type a from rx)
  cases (show u = Value.type a from ry)
  exact ne_type_same ha ⟨.bl false, H, I, rfl, q⟩
/-! ### heaps -/
theorem same_new {H : Hp} {p : Addr} {o : HO} (h : H p = none) : Same H (upd H p o) := fun b x e => by
  rw [upd_ne (ne_of_none e h)]
  exact e
/-- all but what stands at a is as it was -/
def But (a : Addr) (H H' : Hp) : Prop := ∀ b, b ≠ a → ∀ o, H b = some o → H' b = some o
end Lp
set_option Elab.async false
set_option linter.all false
set_option maxRecDepth 100000
namespace Lp
open PySem PySem.Spec PyProof.Rows L2

/-! ### comprehensions that only add -/
def LcP (H1 : Hp) (D : Addr) (acc : Nat → List V) (i : Nat) (H : Hp) : Prop := H1 D = none ∧ Same H1 H ∧ H D = some (.lst (acc i))
section
variable {H1 H H4 : Hp} {D : Addr} {acc : Nat → List V} {i : Nat} {y : V}
theorem LcP.init (h : H1 D = none) (e : acc 0 = []) : LcP H1 D acc 0 (upd H1 D (.lst [])) := ⟨h, same_new h, by rw [upd_same, e]⟩
theorem LcP.put (p : LcP H1 D acc i H) (s : Same H H4) (e : acc (i + 1) = acc i ++ [y]) (hz : (acc i).length < 100000) :
    ∃ l, H4 D = some (.lst l) ∧ l.length < sizeLine ∧ LcP H1 D acc (i + 1) (upd H4 D (.lst (l ++ [y]))) := by
  obtain ⟨p1, p2, p3⟩ := p
  refine ⟨acc i, s _ _ p3, Nat.lt_of_lt_of_le hz (by decide), p1, fun b o h => ?_, by rw [upd_same, e]⟩
  rw [upd_ne (ne_of_none h p1)]
  exact s _ _ (p2 _ _ h)
theorem LcP.skip (p : LcP H1 D acc i H) (s : Same H H4) (e : acc (i + 1) = acc i) : LcP H1 D acc (i + 1) H4 := ⟨p.1, p.2.1.trans s, by rw [e]; exact s _ _ p.2.2⟩
end
theorem get_int {ns : List Int} {i : Nat} {x : V} (h : (ns.map V.int)[i]? = some x) : ∃ n, x = .int n ∧ ns[i]? = some n := by
  rw [List.getElem?_map] at h
  cases e : ns[i]? with
  | none => rw [e] at h; cases h
  | some n => rw [e] at h; cases h; exact ⟨n, rfl, rfl⟩
theorem mem_get {α : Type} {l : List α} {i : Nat} {x : α} (h : l[i]? = some x) : x ∈ l := List.mem_of_getElem? h
theorem lt_get {α : Type} {l : List α} {i : Nat} {x : α} (h : l[i]? = some x) : i < l.length := (List.getElem?_eq_some_iff.mp h).1
theorem take_get {α : Type} {l : List α} {i : Nat} {x : α} (h : l[i]? = some x) : l.take (i + 1) = l.take i ++ [x] := by
  rw [List.take_add_one, h]
  rfl
theorem zs {n : Nat} (h : n ≤ 100000) : n ≤ sizeLine := Nat.le_trans h (by decide)
theorem zl {n : Nat} (h : n < 100000) : n < sizeLine := Nat.lt_of_lt_of_le h (by decide)
theorem at0 {x : V} {r : List V} : atI (x :: r) 0 = some x := atI_nat (j := 0) rfl
theorem at1 {x y : V} {r : List V} : atI (x :: y :: r) 1 = some y := atI_nat (j := 1) rfl
theorem at2 {x y z : V} {r : List V} : atI (x :: y :: z :: r) 2 = some z := atI_nat (j := 2) rfl
theorem at_last {xs : List V} {y : V} : atI (xs ++ [y]) (-1) = some y := atI_last _ _
theorem dT {p : Prop} [Decidable p] (h : p) : V.bl (decide p) = V.bl true := congrArg V.bl (decide_eq_true h)
theorem dF {p : Prop} [Decidable p] (h : ¬ p) : V.bl (decide p) = V.bl false := congrArg V.bl (decide_eq_false h)
theorem nT {p : Prop} [Decidable p] (h : ¬ p) : V.bl (!decide p) = V.bl true := by rw [decide_eq_false h]; rfl
theorem nF {p : Prop} [Decidable p] (h : p) : V.bl (!decide p) = V.bl false := by rw [decide_eq_true h]; rfl
theorem vne {i j : Int} (h : i ≠ j) : ¬ V.int i = V.int j := fun e => h (V.int.inj e)

/-! ### a word behind a test, a value -/
def tMid (t : TT) : TT := fun σ H Q => ∃ M : Bool → Hp → Prop, t σ H M ∧ ∀ b H', M b H' → Q b H'
theorem pt_mid {X : Cx} {e : Expr} {t : TT} (h : PT X e t) : PT X e (tMid t) := ⟨fun pins s σ H _ I ⟨M, hm, hq⟩ => thn (h.run pins s σ H M I hm) fun b _ ⟨H', I', m⟩ => ⟨H', I', hq b H' m⟩⟩
def tMidE (t : TE) : TE := fun σ H Q => ∃ M : VK, t σ H M ∧ ∀ v H', M v H' → Q v H'
theorem pe_mid {X : Cx} {e : Expr} {t : TE} (h : PE X e t) : PE X e (tMidE t) := ⟨fun pins s σ H _ I ⟨M, hm, hq⟩ => thn (h.run pins s σ H M I hm) fun _ _ ⟨v, H', I', r, m⟩ => ⟨v, H', I', r, hq v H' m⟩⟩
/-! ### all but what stands at a is as it was -/
def Bt (a : Addr) (H H' : Hp) : Prop := ∀ b o, b ≠ a → H b = some o → H' b = some o
section
variable {a b p : Addr} {H H1 H2 H' : Hp} {o : HO}
theorem Bt.refl (a : Addr) (H : Hp) : Bt a H H := fun _ _ _ e => e
theorem Bt.trans (x : Bt a H H1) (y : Bt a H1 H2) : Bt a H H2 := fun b o n e => y b o n (x b o n e)
theorem Bt.of (x : Same H H') : Bt a H H' := fun b o _ e => x b o e
theorem Bt.at_ (a : Addr) (H : Hp) (o : HO) : Bt a H (upd H a o) := fun b u n e => by rw [upd_ne n]; exact e
theorem Bt.new (h : H p = none) : Bt a H (upd H p o) := .of (same_new h)
theorem Bt.mut (x : Bt a H H') (h : H p = none) : Bt a H (upd H' p o) := fun b u n e => by rw [upd_ne (ne_of_none e h)]; exact x b u n e
theorem Bt.add (x : Bt a H H') (h : H' p = none) : Bt a H (upd H' p o) := x.trans (.new h)
theorem Same.mut (x : Same H H') (h : H p = none) : Same H (upd H' p o) := fun b u e => by rw [upd_ne (ne_of_none e h)]; exact x b u e
theorem Same.add (x : Same H H') (h : H' p = none) : Same H (upd H' p o) := x.trans (same_new h)
theorem Bt.seq {K : PySem.W.Frag} {xs : List V} (x : Bt a H H') (n : b ≠ a) (h : SqL K H b xs) : SqL K H' b xs := by
  rcases h with (h | ⟨o, h⟩) | h
  · exact .inl (.inl (x _ _ n h))
  · exact .inl (.inr ⟨o, x _ _ n h⟩)
  · exact .inr h
end

/-! ### rules that name the written part outright: for the inside of comprehensions -/
section
variable {X : Cx} {K : PySem.W.Frag} {o e : Expr} {es : List Expr} {to : TE} {t : TA} {name : Str} {apos cpos : Pos} {T id : String} {r : V → List V → Hp → VK → Prop}
theorem k_bm (hK : X.K = K) (pa : PlainAttrs T) (slot : Slot T name id) (hty : typeOf (.builtin id) = pure (.type "method_descriptor")) (hm : MtR X id r) (ho : PE X o to) (ha : PA X (e :: es) t)
    (hbase : attributeBase o name X.env (eval o X.env) = eval o X.env := by rfl)
    (hfew : ((backTo cpos (starEach (e :: es) X.env)).all (fun x => !x.1) && (backToKw cpos (keywordEach [] X.env)).all (fun x => x.1.isSome)
      && decide ((e :: es).length + ([] : List Keyword).length + (if ([] : List Keyword).isEmpty then 0 else 1) < 30)) = true := by rfl)
    (hline : (apos.endLine == cpos.line) = true := by rfl) (hs : starEach (e :: es) X.env = (false, eval e X.env) :: starEach es X.env := by rfl) (hplain : (backTo cpos (starEach es X.env)).any (·.1) = false := by rfl) :
    PE X (.Call (.Attribute o name apos) (e :: es) [] cpos) (tBM K T r to t) := by
  subst hK
  exact pe_bm pa slot hty hm ho ha hbase hfew hline hs hplain
def rLenK (K : PySem.W.Frag) : List V → Hp → VK → Prop := fun xs H Q => ∃ p ys, xs = [.ref p] ∧ (SqL K H p ys ∨ SqT K H p ys) ∧ Q (.int ys.length) H
theorem k_len (hK : X.K = K) : CallR X (.builtin "len") (rLenK K) := by
  subst hK
  exact call_len_seq
theorem k_ix (hK : X.K = K) : IxR X (rIxL K) := by
  subst hK
  exact ix_list
theorem k_ixT (hK : X.K = K) : IxR X (rIxT K) := by
  subst hK
  exact ix_tup
theorem k_in (hK : X.K = K) : OpR X (compareOp .In) (rIn K false) := by
  subst hK
  exact op_in_seq
theorem k_notin (hK : X.K = K) : OpR X (compareOp .NotIn) (rIn K true) := by
  subst hK
  exact op_notIn_seq
theorem k_isi (hK : X.K = K) : CallR X (.builtin "isinstance") (rIsi K) := by
  subst hK
  exact call_isi
end
end Lp
set_option Elab.async false
set_option linter.all false
set_option maxRecDepth 100000
namespace Lp
open PySem PySem.Spec PyProof.Rows L2
/-! ### lists of ints as data -/
abbrev dI (ns : List Int) : PyData := .list (ns.map PyData.int)
theorem lay_ints : ∀ ns : List Int, PyData.canLayAll0 (ns.map PyData.int) = true
  | [] => rfl
  | _ :: r => by
    show (PyData.canLay0 (.int _) && PyData.canLayAll0 (r.map PyData.int)) = true
    rw [lay_ints r]
    rfl
theorem depth_ints : ∀ ns : List Int, PyData.depthAll (ns.map PyData.int) = 0
  | [] => rfl
  | _ :: r => by
    show max (PyData.depth (.int _)) (PyData.depthAll (r.map PyData.int)) = 0
    rw [depth_ints r]
    rfl
theorem shaped_ints (ns : List Int) : SeqAt.shaped (dI ns) = true := by
  show (PyData.canLayAll0 (ns.map PyData.int) && decide (PyData.depthAll (ns.map PyData.int) + 1 ≤ 64)) = true
  rw [lay_ints, depth_ints]
  rfl
theorem noDict_ints : ∀ ns : List Int, PyData.hasDictAll (ns.map PyData.int) = false
  | [] => rfl
  | _ :: r => by
    show (PyData.hasDict (.int _) || PyData.hasDictAll (r.map PyData.int)) = false
    rw [noDict_ints r]
    rfl
theorem show_ints : ∀ ns : List Int, (∀ n ∈ ns, n.natAbs.log2 < 1920) → PyData.showableAll (ns.map PyData.int) = true
  | [], _ => rfl
  | n :: r, h => by
    show (decide (n.natAbs.log2 < 1920) && PyData.showableAll (r.map PyData.int)) = true
    rw [show_ints r (fun m hm => h m (List.mem_cons_of_mem _ hm)), decide_eq_true (h n List.mem_cons_self)]
    rfl
theorem dpAll_ints {K : PySem.W.Frag} {H : Hp} : ∀ ns : List Int, DpAll K H (ns.map V.int) (ns.map PyData.int)
  | [] => .nil
  | n :: r => .cons (.int n) (dpAll_ints r)
theorem dp_ints {K : PySem.W.Frag} {H : Hp} {a : Addr} {ns : List Int} (h : SqL K H a (ns.map V.int)) : Dp K H (.ref a) (dI ns) := .lst h (dpAll_ints ns)
theorem eqvAll_ints : ∀ xs ys : List Int, PyData.eqvAll (xs.map PyData.int) (ys.map PyData.int) = decide (xs = ys)
  | [], [] => rfl
  | [], _ :: _ => rfl
  | _ :: _, [] => rfl
  | x :: r, y :: s => by
    show (PyData.eqv (.int x) (.int y) && PyData.eqvAll (r.map PyData.int) (s.map PyData.int)) = decide (x :: r = y :: s)
    rw [eqvAll_ints r s]
    show ((x == y) && decide (r = s)) = decide (x :: r = y :: s)
    by_cases e : x = y <;> by_cases e' : r = s <;> simp [e, e']
theorem eqv_ints (xs ys : List Int) : PyData.eqv (dI xs) (dI ys) = decide (xs = ys) := by
  show PyData.eqvAll (xs.map PyData.int) (ys.map PyData.int) = _
  exact eqvAll_ints xs ys
/-- [] == [], by the reading of == -/
theorem textFrom_le : ∀ (ts : List Str) (k : Nat) (acc : Str) (m : Nat), (∀ t ∈ ts, t.length ≤ m) → (textFrom k acc ts).length ≤ acc.length + ts.length * (m + 2)
  | [], k, acc, m, _ => by
    show acc.length ≤ _
    simp
  | t :: r, k, acc, m, h => by
    have ih := fun k' acc' => textFrom_le r k' acc' m (fun x hx => h x (List.mem_cons_of_mem _ hx))
    have ht := h t List.mem_cons_self
    have z := ih (k + 1) (acc ++ (if k > 0 then ", " else "" : String) ++ t)
    have e : (acc ++ (if k > 0 then ", " else "" : String) ++ t).length ≤ acc.length + 2 + t.length := by
      rw [Str.length_append, Str.length_append]
      by_cases hk : k > 0
      · rw [if_pos hk]
        exact Nat.le_refl _
      · rw [if_neg hk]
        show acc.length + 0 + t.length ≤ _
        omega
    show (textFrom (k + 1) (acc ++ (if k > 0 then ", " else "" : String) ++ t) r).length ≤ acc.length + (r.length + 1) * (m + 2)
    rw [Nat.succ_mul]
    omega
theorem num_len : ∀ n : Int, -100 ≤ n → n ≤ 100 → (Str.ofString (toString n)).length ≤ 4 := by
  intro n h0 h1
  have key : ∀ i : Fin 201, (Str.ofString (toString ((i.val : Int) - 100))).length ≤ 4 := by decide +kernel
  have e := key ⟨(n + 100).toNat, by omega⟩
  have e2 : (((n + 100).toNat : Nat) : Int) - 100 = n := by omega
  rw [e2] at e
  exact e
theorem shownAll_mem : ∀ (ns : List Int) (t : Str), t ∈ PyData.shownAll (ns.map PyData.int) → ∃ n ∈ ns, t = Str.ofString (toString n)
  | [], t, h => by
    have h' : t ∈ ([] : List Str) := h
    cases h'
  | n :: r, t, h => by
    have h' : t ∈ Str.ofString (toString n) :: PyData.shownAll (r.map PyData.int) := h
    rcases List.mem_cons.mp h' with e | e
    · exact ⟨n, List.mem_cons_self, e⟩
    · obtain ⟨m, hm, e⟩ := shownAll_mem r t e
      exact ⟨m, List.mem_cons_of_mem _ hm, e⟩
theorem shownAll_len : ∀ ns : List Int, (PyData.shownAll (ns.map PyData.int)).length = ns.length
  | [] => rfl
  | n :: r => congrArg (· + 1) (shownAll_len r)
theorem shown_ints {ns : List Int} (hb : ∀ n ∈ ns, -100 ≤ n ∧ n ≤ 100) (hl : ns.length ≤ 1000) : (dI ns).shown.length ≤ sizeLine := by
  show (textFrom 0 "[" (PyData.shownAll (ns.map PyData.int)) ++ ("]" : Str)).length ≤ sizeLine
  rw [Str.length_append]
  have z := textFrom_le (PyData.shownAll (ns.map PyData.int)) 0 "[" 4 (fun t ht => by
    obtain ⟨n, hn, e⟩ := shownAll_mem ns t ht
    rw [e]
    exact num_len n (hb n hn).1 (hb n hn).2)
  rw [shownAll_len] at z
  have e1 : ("[" : Str).length = 1 := rfl
  have e2 : ("]" : Str).length = 1 := rfl
  rw [e1] at z
  rw [e2]
  exact zs (by omega)
theorem log2_small {n : Int} (h0 : -100 ≤ n) (h1 : n ≤ 100) : n.natAbs.log2 < 1920 := by
  have h : n.natAbs < 2 ^ 7 := by omega
  exact Nat.lt_trans (PySem.Flt.log2_lt_of (by decide : 0 < 7) h) (by decide)
theorem rrepr_ints {K : PySem.W.Frag} {H : Hp} {a : Addr} {ns : List Int} {Q : VK} (hS : SqL K H a (ns.map V.int)) (hb : ∀ n ∈ ns, -100 ≤ n ∧ n ≤ 100) (hl : ns.length ≤ 1000) (q : Q (.str (dI ns).shown) H) : rRepr K [.ref a] H Q :=
  ⟨a, dI ns, rfl, dp_ints hS, show_ints ns (fun n hn => log2_small (hb n hn).1 (hb n hn).2), noDict_ints ns, by
    show PyData.depthAll (ns.map PyData.int) + 1 ≤ 60
    rw [depth_ints]
    decide, shown_ints hb hl, q⟩

/-! ### places -/
theorem erase_map {α β : Type} (f : α → β) : ∀ (l : List α) (j : Nat), (l.map f).eraseIdx j = (l.eraseIdx j).map f
  | [], _ => by simp
  | x :: r, 0 => rfl
  | x :: r, j + 1 => congrArg (f x :: ·) (erase_map f r j)
theorem get_at {al : List Int} {j : Nat} (h : j < al.length) : (al.map V.int)[j]? = some (.int al[j]) := by
  rw [List.getElem?_map, List.getElem?_eq_getElem h]
  rfl
theorem ix_at {j n : Nat} (h : j < n) : seqIndex? (j : Int) n = some j := (ixN_seq (Evl.ixN_nat h)).1
theorem nat_of {r : Int} (h : 0 ≤ r) : ∃ j : Nat, r = (j : Int) := ⟨r.toNat, by omega⟩
theorem nm {k : Nat} (h : k ≤ 100000) : -(2 ^ 63) ≤ (k : Int) ∧ (k : Int) < 2 ^ 63 := by omega
theorem free_of {a p : Addr} {H H' : Hp} (b : Bt a H H') (n : p ≠ a) (h : H' p = none) : H p = none := by
  cases e : H p with
  | none => rfl
  | some o =>
    rw [b _ _ n e] at h
    cases h
theorem erase_perm : ∀ (l : List Int) (j : Nat) (h : j < l.length), (l[j] :: l.eraseIdx j).Perm l
  | x :: r, 0, _ => .refl _
  | x :: r, j + 1, h => by
    have h' : j < r.length := Nat.lt_of_succ_lt_succ h
    exact (List.Perm.swap x (r[j]'h') (r.eraseIdx j)).trans ((erase_perm r j h').cons x)
end Lp
set_option Elab.async false
set_option linter.all false
set_option maxRecDepth 100000
namespace Lp
open PySem PySem.Spec PyProof.Rows L2
theorem lc_enum {K : PySem.W.Frag} {a : Addr} {xs : List V} {g : TG} {tt : TT} {te : TE} {vs : List Nat} {σ : L2.St} {H1 : Hp} {D : Addr} {Qd : Hp → Prop} (Pv : Nat → Hp → Prop) (h0 : Pv 0 (upd H1 D (.lst []))) (hl : ∀ i H, i ≤ xs.length → Pv i H → SqL K H a xs)
    (hs : ∀ (i : Nat) (x : V) (T : Addr) (H : Hp), xs[i]? = some x → H T = none → Pv i H → g (.ref T) (wipe σ vs) (upd H T (.tup [.int (i : Nat), x])) fun σ2 H2 => wipe σ2 vs = wipe σ vs ∧ tt σ2 H2 fun b H3 =>
      if b = true then te σ2 H3 fun y H4 => ∃ acc, H4 D = some (.lst acc) ∧ acc.length < sizeLine ∧ Pv (i + 1) (upd H4 D (.lst (acc ++ [y]))) else Pv (i + 1) H3) (hd : ∀ H, Pv xs.length H → Qd H) :
    ∃ W : Nat → Nat → Hp → Prop, (∃ m, W 0 m (upd H1 D (.lst []))) ∧ ∀ i m H, W i m H →
      ((Ite K a).stop i H ∧ Qd H) ∨ ((Ite K a).go i H ∧ ∃ Nx : Hp → Prop, (∀ H', Nx H' → ∃ m', m' < m ∧ W (i + 1) m' H') ∧ ∀ x H', (Ite K a).yld i H x H' → g x (wipe σ vs) H' fun σ2 H2 => wipe σ2 vs = wipe σ vs ∧ tt σ2 H2 fun b H3 =>
        if b = true then te σ2 H3 fun y H4 => ∃ acc, H4 D = some (.lst acc) ∧ acc.length < sizeLine ∧ Nx (upd H4 D (.lst (acc ++ [y]))) else Nx H3) := by
  refine ⟨fun i m H => m = xs.length - i ∧ i ≤ xs.length ∧ Pv i H, ⟨xs.length, by simp, Nat.zero_le _, h0⟩, ?_⟩
  rintro i m H ⟨rfl, hi, pv⟩
  have sq := hl i H hi pv
  rcases Nat.lt_or_ge i xs.length with hlt | hge
  · refine .inr ⟨⟨xs, xs[i], sq, List.getElem?_eq_getElem hlt⟩, Pv (i + 1), fun H' p' => ⟨xs.length - (i + 1), by omega, rfl, hlt, p'⟩, fun x H' y => ?_⟩
    obtain ⟨T, z, rfl, nT, rfl, ez⟩ := y
    exact hs i z T H (ez xs sq) nT pv
  · have e : i = xs.length := by omega
    subst e
    exact .inl ⟨⟨xs, sq, Nat.le_refl _⟩, hd H pv⟩
theorem cut_take (xs : List V) (k : Nat) (h : k ≤ xs.length) : cutV xs none (some (k : Int)) = xs.take k := by
  unfold cutV
  rw [HT.sIx_none, HT.sIx_nat, List.drop_zero, Nat.sub_zero, Nat.min_eq_left h]
theorem decV (i j : Int) : decide (V.int i = V.int j) = decide (i = j) := decide_eq_decide.mpr ⟨fun z => V.int.inj z, fun z => congrArg V.int z⟩
theorem k_sl {X : Cx} {K : PySem.W.Frag} (hK : X.K = K) : SlR X (rSlL K) := by
  subst hK
  exact sl_list
theorem k_tup {X : Cx} {K : PySem.W.Frag} {es : List Expr} {k : Nat} {pos : Pos} {t : TGs} {n : Nat} (hK : X.K = K) (hc : X.calm = true) (h : PGs X es t)
    (hn : (assignEach es X.env).length = n := by rfl) (hst : (assignEach es X.env).findIdx? (·.1) = none := by rfl) : PG X (.Tuple es k pos) (gTup K n t) := by
  subst hK
  exact pg_tup hc h hn hst
theorem seqN {K : PySem.W.Frag} {xs : List V} {H H1 H' : Hp} {a b : Addr} (h : SqL K H b xs) (n : H a = none) (s : Same H H1) (x : Bt a H1 H') : SqL K H' b xs := by
  rcases h with (h | ⟨o, h⟩) | h
  · exact .inl (.inl (x _ _ (ne_of_none h n) (s _ _ h)))
  · exact .inl (.inr ⟨o, x _ _ (ne_of_none h n) (s _ _ h)⟩)
  · exact .inr h
theorem rI1 {ns : List Int} (hb : ∀ n ∈ ns, -100 ≤ n ∧ n ≤ 100) : (dI ns).showable = true := show_ints ns (fun n hn => log2_small (hb n hn).1 (hb n hn).2)
theorem rI2 (ns : List Int) : (dI ns).depth ≤ 60 := by
  show PyData.depthAll (ns.map PyData.int) + 1 ≤ 60
  rw [depth_ints]
  decide
end Lp
set_option Elab.async false
set_option linter.all false
set_option maxRecDepth 100000
namespace Lp
open PySem PySem.Spec PyProof.Rows L2
theorem lc_zipL {K : PySem.W.Frag} {a b : Addr} {xs ys : List V} {g : TG} {tt : TT} {te : TE} {vs : List Nat} {σ : L2.St} {H1 : Hp} {D : Addr} {Qd : Hp → Prop} (le : xs.length = ys.length) (Pv : Nat → Hp → Prop) (h0 : Pv 0 (upd H1 D (.lst []))) (hl : ∀ i H, i ≤ xs.length → Pv i H → SqL K H a xs ∧ SqL K H b ys)
    (hs : ∀ (i : Nat) (x y : V) (T : Addr) (H : Hp), xs[i]? = some x → ys[i]? = some y → H T = none → Pv i H → g (.ref T) (wipe σ vs) (upd H T (.tup [x, y])) fun σ2 H2 => wipe σ2 vs = wipe σ vs ∧ tt σ2 H2 fun b H3 =>
      if b = true then te σ2 H3 fun y H4 => ∃ acc, H4 D = some (.lst acc) ∧ acc.length < sizeLine ∧ Pv (i + 1) (upd H4 D (.lst (acc ++ [y]))) else Pv (i + 1) H3) (hd : ∀ H, Pv xs.length H → Qd H) :
    ∃ W : Nat → Nat → Hp → Prop, (∃ m, W 0 m (upd H1 D (.lst []))) ∧ ∀ i m H, W i m H →
      ((Itz K a b).stop i H ∧ Qd H) ∨ ((Itz K a b).go i H ∧ ∃ Nx : Hp → Prop, (∀ H', Nx H' → ∃ m', m' < m ∧ W (i + 1) m' H') ∧ ∀ x H', (Itz K a b).yld i H x H' → g x (wipe σ vs) H' fun σ2 H2 => wipe σ2 vs = wipe σ vs ∧ tt σ2 H2 fun b H3 =>
        if b = true then te σ2 H3 fun y H4 => ∃ acc, H4 D = some (.lst acc) ∧ acc.length < sizeLine ∧ Nx (upd H4 D (.lst (acc ++ [y]))) else Nx H3) := by
  refine ⟨fun i m H => m = xs.length - i ∧ i ≤ xs.length ∧ Pv i H, ⟨xs.length, by simp, Nat.zero_le _, h0⟩, ?_⟩
  rintro i m H ⟨rfl, hi, pv⟩
  obtain ⟨sa, sb⟩ := hl i H hi pv
  rcases Nat.lt_or_ge i xs.length with hlt | hge
  · refine .inr ⟨⟨xs, ys, xs[i], ys[i]'(by omega), sa, sb, List.getElem?_eq_getElem hlt, List.getElem?_eq_getElem (by omega)⟩, Pv (i + 1), fun H' p' => ⟨xs.length - (i + 1), by omega, rfl, hlt, p'⟩, fun x H' y => ?_⟩
    obtain ⟨T, z1, z2, rfl, nT, rfl, e1, e2⟩ := y
    exact hs i z1 z2 T H (e1 xs sa) (e2 ys sb) nT pv
  · have e : i = xs.length := by omega
    subst e
    exact .inl ⟨⟨xs, ys, sa, sb, .inl (Nat.le_refl _)⟩, hd H pv⟩
theorem lc_zipT {K : PySem.W.Frag} {a b : Addr} {xs ys : List V} {g : TG} {tt : TT} {te : TE} {vs : List Nat} {σ : L2.St} {H1 : Hp} {D : Addr} {Qd : Hp → Prop} (le : xs.length = ys.length) (Pv : Nat → Hp → Prop) (h0 : Pv 0 (upd H1 D (.lst []))) (hl : ∀ i H, i ≤ xs.length → Pv i H → SqT K H a xs ∧ SqT K H b ys)
    (hs : ∀ (i : Nat) (x y : V) (T : Addr) (H : Hp), xs[i]? = some x → ys[i]? = some y → H T = none → Pv i H → g (.ref T) (wipe σ vs) (upd H T (.tup [x, y])) fun σ2 H2 => wipe σ2 vs = wipe σ vs ∧ tt σ2 H2 fun b H3 =>
      if b = true then te σ2 H3 fun y H4 => ∃ acc, H4 D = some (.lst acc) ∧ acc.length < sizeLine ∧ Pv (i + 1) (upd H4 D (.lst (acc ++ [y]))) else Pv (i + 1) H3) (hd : ∀ H, Pv xs.length H → Qd H) :
    ∃ W : Nat → Nat → Hp → Prop, (∃ m, W 0 m (upd H1 D (.lst []))) ∧ ∀ i m H, W i m H →
      ((RZ.ItzT K a b).stop i H ∧ Qd H) ∨ ((RZ.ItzT K a b).go i H ∧ ∃ Nx : Hp → Prop, (∀ H', Nx H' → ∃ m', m' < m ∧ W (i + 1) m' H') ∧ ∀ x H', (RZ.ItzT K a b).yld i H x H' → g x (wipe σ vs) H' fun σ2 H2 => wipe σ2 vs = wipe σ vs ∧ tt σ2 H2 fun b H3 =>
        if b = true then te σ2 H3 fun y H4 => ∃ acc, H4 D = some (.lst acc) ∧ acc.length < sizeLine ∧ Nx (upd H4 D (.lst (acc ++ [y]))) else Nx H3) := by
  refine ⟨fun i m H => m = xs.length - i ∧ i ≤ xs.length ∧ Pv i H, ⟨xs.length, by simp, Nat.zero_le _, h0⟩, ?_⟩
  rintro i m H ⟨rfl, hi, pv⟩
  obtain ⟨sa, sb⟩ := hl i H hi pv
  rcases Nat.lt_or_ge i xs.length with hlt | hge
  · refine .inr ⟨⟨xs, ys, xs[i], ys[i]'(by omega), sa, sb, List.getElem?_eq_getElem hlt, List.getElem?_eq_getElem (by omega)⟩, Pv (i + 1), fun H' p' => ⟨xs.length - (i + 1), by omega, rfl, hlt, p'⟩, fun x H' y => ?_⟩
    obtain ⟨T, z1, z2, rfl, nT, rfl, e1, e2⟩ := y
    exact hs i z1 z2 T H (e1 xs sa) (e2 ys sb) nT pv
  · have e : i = xs.length := by omega
    subst e
    exact .inl ⟨⟨xs, ys, sa, sb, .inl (Nat.le_refl _)⟩, hd H pv⟩
theorem tyx_l {K : PySem.W.Frag} {H : Hp} {a : Addr} {xs : List V} (h : SqL K H a xs) : TyX K H (.ref a) (.type "list") := by
  rcases h with (h | ⟨o, h⟩) | ⟨o, its, n, h, c, _⟩
  · exact .base (.lst h)
  · exact .base (.frz h)
  · exact .kList h c
theorem tyx_t {K : PySem.W.Frag} {H : Hp} {a : Addr} {xs : List V} (h : SqT K H a xs) : TyX K H (.ref a) (.type "tuple") := by
  rcases h with (h | ⟨o, h⟩) | ⟨o, its, n, h, c, _⟩
  · exact .base (.tup h)
  · exact .fTuple h
  · exact .kTuple h c
theorem seqT {K : PySem.W.Frag} {H H' : Hp} {a : Addr} {xs : List V} (e : Same H H') (h : SqT K H a xs) : SqT K H' a xs := by
  rcases h with (h | ⟨o, h⟩) | h
  · exact .inl (.inl (e _ _ h))
  · exact .inl (.inr ⟨o, e _ _ h⟩)
  · exact .inr h
mutual
theorem dp_same {K : PySem.W.Frag} {H H' : Hp} (s : Same H H') : ∀ {v : V} {d : PyData}, Dp K H v d → Dp K H' v d
  | _, _, .non => .non
  | _, _, .bl b => .bl b
  | _, _, .int i => .int i
  | _, _, .str x => .str x
  | _, _, .lst h1 h2 => .lst (s.seq h1) (dpAll_same s h2)
  | _, _, .tup h1 h2 => .tup (seqT s h1) (dpAll_same s h2)
theorem dpAll_same {K : PySem.W.Frag} {H H' : Hp} (s : Same H H') : ∀ {vs : List V} {ds : List PyData}, DpAll K H vs ds → DpAll K H' vs ds
  | _, _, .nil => .nil
  | _, _, .cons h1 h2 => .cons (dp_same s h1) (dpAll_same s h2)
end
theorem dpAll_len {K : PySem.W.Frag} {H : Hp} : ∀ {vs : List V} {ds : List PyData}, DpAll K H vs ds → vs.length = ds.length
  | _, _, .nil => rfl
  | _, _, .cons _ h => congrArg (· + 1) (dpAll_len h)
theorem dpAll_get {K : PySem.W.Frag} {H : Hp} : ∀ {vs : List V} {ds : List PyData} {i : Nat} {v : V}, DpAll K H vs ds → vs[i]? = some v → ∃ d, ds[i]? = some d ∧ Dp K H v d
  | _, _, 0, _, .cons h _, e => by cases e; exact ⟨_, rfl, h⟩
  | _, _, i + 1, _, .cons _ h, e => dpAll_get (i := i) h e
theorem depth_get : ∀ {ds : List PyData} {i : Nat} {d : PyData}, ds[i]? = some d → d.depth ≤ PyData.depthAll ds
  | x :: r, 0, d, e => by cases e; exact Nat.le_max_left _ _
  | x :: r, i + 1, d, e => Nat.le_trans (depth_get (ds := r) (i := i) e) (Nat.le_max_right _ _)
theorem kitA {K : PySem.W.Frag} {t c1 c2 : Value} {b : Bool} (h1 : PySem.W.kitOne K t c1 = some false) (h2 : PySem.W.kitOne K t c2 = some b) : PySem.W.kitAny K t [c1, c2] = some b := by
  unfold PySem.W.kitAny
  rw [h1]
  show PySem.W.kitAny K t [c2] = _
  unfold PySem.W.kitAny
  rw [h2]
  cases b <;> rfl
theorem kitT {K : PySem.W.Frag} {t c1 : Value} {cs : List Value} (h1 : PySem.W.kitOne K t c1 = some true) : PySem.W.kitAny K t (c1 :: cs) = some true := by
  unfold PySem.W.kitAny
  rw [h1]
/-! ### list(range(a, b, c)) -/
def tList3 (ta : TA) : TE := fun σ H Q => ta σ H fun vs H1 => ∃ (i j c : Int) (n : Nat), vs = [.int i, .int j, .int c] ∧ RgC i j c n ∧ n ≤ 100000 ∧ ∀ q, H1 q = none → Q (.ref q) (upd H1 q (.lst ((List.range n).map fun k : Nat => V.int (i + (k : Int) * c))))
theorem vals_rg3 {a c : Int} {n : Nat} {acc : Array Value} (h : ItemsOf (fun i v => ∃ t, v = .int (a + i * c) t) acc n) : Vals ((List.range n).map fun k : Nat => V.int (a + (k : Int) * c)) acc.toList := by
  have e : acc.toList.length = n := by rw [Array.length_toList]; exact h.1
  rw [← e]
  refine vals_of_get acc.toList _ fun j u hj => ?_
  obtain ⟨t, rfl⟩ := h.2 j u (by rw [← hj, Array.getElem?_toList])
  exact ⟨t, rfl⟩
theorem pe_list3 {X : Cx} {a b c : Expr} {ta : TA} {p p2 pos pos2 : Pos} (hc : X.calm = true) (hg : Gl X "list") (hm : X.mg "list" = none) (hg2 : Gl X "range") (hm2 : X.mg "range" = none) (ha : PA X [a, b, c] ta)
    (hs : starEach [a, b, c] X.env = (false, eval a X.env) :: starEach [b, c] X.env := by rfl) (hpl : (backTo pos2 (starEach [b, c] X.env)).any (·.1) = false := by rfl)
    (na : starEach [.Call (.Name "range" p2) [a, b, c] [] pos2] X.env = (false, eval (.Call (.Name "range" p2) [a, b, c] [] pos2) X.env) :: starEach [] X.env := by rfl) :
    PE X (.Call (.Name "list" p) [.Call (.Name "range" p2) [a, b, c] [] pos2] [] pos) (tList3 ta) := by
  refine ⟨fun pins s σ H Q I h => ?_⟩
  refine Call_ (ld_blt I hg hm boot_list (PyProof.Rows.callWith_type1 (args_cons (?_) na) na))
  refine Call_ (ld_blt I hg2 hm2 boot_range (PyProof.Rows.callWith_type1 (thn (ha.run pos2 pins s σ H _ I h) fun us s1 ⟨vs, H1, I1, r1, q1⟩ => ?_) hs hpl))
  obtain ⟨i, j, k, n, e, ⟨c0, c1, c2, c3⟩, hn, q⟩ := q1
  subst e
  cases r1 with
  | cons r rr =>
    cases rr with
    | cons r' rr =>
      cases rr with
      | cons r'' rr =>
        cases rr
        obtain ⟨t, rfl⟩ := r
        obtain ⟨t', rfl⟩ := r'
        obtain ⟨t'', rfl⟩ := r''
        refine call_range_3 c0 ?_ (.inl (PyProof.noPylong_small c1))
        refine args_nil ?_
        have I2 : Inv X pins σ H1 { s1 with heap := s1.heap.push { cls := .type "range", data := .fields #[.int i t, .int j t', .int k t''] } } := I1.kept (t' := s1.toks) fun b o e => Heap.get?_push_of_some _ e
        refine call_list_range (n := n) (I2.ok.hd hc) (IsRange.new ..) c2 c3 (by omega) fun h' tk acc c' hk e' hi => ?_
        refine ⟨.ref _, upd H1 _ (.lst ((List.range n).map fun m : Nat => V.int (i + (m : Int) * k))), I2.laid hk (Nat.le_refl _) (show ObjOk X.prog X.w _ _ _ (.lst _) from ⟨?_, acc.toList, c', vals_rg3 hi, ?_⟩), rfl, q _ (I2.hok.fresh (Nat.le_refl _))⟩
        · rw [List.length_map, List.length_range]
          exact zs hn
        · rw [Array.toArray_toList]; exact e'
end Lp
set_option Elab.async false
set_option linter.all false
set_option maxRecDepth 100000
namespace Lp
open PySem PySem.Spec PyProof.Rows L2
/-! ### xs.count(text) -/
theorem strCount {k : Str} : ∀ {us : List Value} {ys : List Str}, StrsAre us ys → us.countP (isStrOf k) = ys.countP (fun y => y == k)
  | _, _, .nil => rfl
  | _, _, .cons n t h => by
    have ih := strCount (k := k) h
    rw [List.countP_cons, List.countP_cons, ih] <;> rfl
def rCntS (K : PySem.W.Frag) : V → List V → Hp → VK → Prop := fun x xs H Q => ∃ (p : Addr) (ys : List Str) (k : Str), x = .ref p ∧ xs = [.str k] ∧ SqL K H p (ys.map V.str) ∧ Q (.int (ys.countP (fun y => y == k) : Nat)) H
theorem mt_lcountS {X : Cx} : MtR X "list.count" (rCntS X.K) := by
  intro pins s σ H x xs v us Q I rx rxs h
  obtain ⟨p, ys, k, rfl, rfl, hs, q⟩ := h
  cases rx
  obtain ⟨u, rfl, ru⟩ := rxs.one
  obtain ⟨t, rfl⟩ := ru
  obtain ⟨its, rv, ⟨⟨cls, dd, data, sl⟩, n, ho, hc, hdn, hd⟩, hlen⟩ := I.list hs
  simp only at hc hd
  subst hc hd
  have hi := Vals.strs rv
  refine call_meets PySem.F.slot_list_count ⟨_, ho, rfl⟩ PySem.F.entry_list_count (PySem.F.args_list_count_2 _ _)
    (SeqAt.list_countAt p its.toArray n dd sl (.str k t) (isStrOf k)) ⟨ho, fun y hy => (eq_isStrOf k t hi y (by simpa using hy)).at _ _, ?_⟩
  have ec : its.toArray.toList.countP (isStrOf k) = ys.countP (fun y => y == k) := strCount hi
  refine ⟨.int (ys.countP (fun y => y == k) : Nat), H, I.tok _, ⟨s.toks, ?_⟩, q⟩
  show Value.int ((its.toArray.toList.countP (isStrOf k) : Nat) : Int) s.toks = Value.int ((ys.countP (fun y => y == k) : Nat) : Int) s.toks
  rw [ec]
end Lp
set_option Elab.async false
set_option linter.all false
set_option maxRecDepth 100000
namespace Lp
open PySem PySem.Spec PyProof.Rows L2
/-! ### dict comprehensions over enumerate -/
theorem dc_enum {K : PySem.W.Frag} {a : Addr} {xs : List V} {g : TG} {tt : TT} {tk tv : TE} {vs : List Nat} {σ : L2.St} {H1 : Hp} {D : Addr} {Qd : Hp → Prop} (Pv : Nat → Hp → Prop) (h0 : Pv 0 (upd H1 D (.dK []))) (hl : ∀ i H, i ≤ xs.length → Pv i H → SqL K H a xs)
    (hs : ∀ (i : Nat) (x : V) (T : Addr) (H : Hp), xs[i]? = some x → H T = none → Pv i H → g (.ref T) (wipe σ vs) (upd H T (.tup [.int (i : Nat), x])) fun σ2 H2 => wipe σ2 vs = wipe σ vs ∧ tt σ2 H2 fun b H3 =>
      if b = true then tk σ2 H3 fun y H4 => tv σ2 H4 fun z H5 => ∃ kvs k, y = kV k ∧ H5 D = some (.dK kvs) ∧ kvs.length < sizeLine ∧ Pv (i + 1) (upd H5 D (.dK (putK kvs k z))) else Pv (i + 1) H3) (hd : ∀ H, Pv xs.length H → Qd H) :
    ∃ W : Nat → Nat → Hp → Prop, (∃ m, W 0 m (upd H1 D (.dK []))) ∧ ∀ i m H, W i m H →
      ((Ite K a).stop i H ∧ Qd H) ∨ ((Ite K a).go i H ∧ ∃ Nx : Hp → Prop, (∀ H', Nx H' → ∃ m', m' < m ∧ W (i + 1) m' H') ∧ ∀ x H', (Ite K a).yld i H x H' → g x (wipe σ vs) H' fun σ2 H2 => wipe σ2 vs = wipe σ vs ∧ tt σ2 H2 fun b H3 =>
        if b = true then tk σ2 H3 fun y H4 => tv σ2 H4 fun z H5 => ∃ kvs k, y = kV k ∧ H5 D = some (.dK kvs) ∧ kvs.length < sizeLine ∧ Nx (upd H5 D (.dK (putK kvs k z))) else Nx H3) := by
  refine ⟨fun i m H => m = xs.length - i ∧ i ≤ xs.length ∧ Pv i H, ⟨xs.length, by simp, Nat.zero_le _, h0⟩, ?_⟩
  rintro i m H ⟨rfl, hi, pv⟩
  have sq := hl i H hi pv
  rcases Nat.lt_or_ge i xs.length with hlt | hge
  · refine .inr ⟨⟨xs, xs[i], sq, List.getElem?_eq_getElem hlt⟩, Pv (i + 1), fun H' p' => ⟨xs.length - (i + 1), by omega, rfl, hlt, p'⟩, fun x H' y => ?_⟩
    obtain ⟨T, z, rfl, nT, rfl, e1⟩ := y
    exact hs i z T H (e1 xs sq) nT pv
  · have e : i = xs.length := by omega
    subst e
    exact .inl ⟨⟨xs, sq, Nat.le_refl _⟩, hd H pv⟩
end Lp
set_option Elab.async false
set_option linter.all false
set_option maxRecDepth 100000
namespace Lp
open PySem PySem.Spec PyProof.Rows L2
/-! ### list + list, the script's own list too -/
def rCatS (K : PySem.W.Frag) : R2 := fun x y H Q => ∃ l b xs zs, x = .ref l ∧ y = .ref b ∧ SqL K H l xs ∧ SqL K H b zs ∧ xs.length + zs.length ≤ sizeLine ∧ ∀ p, H p = none → Q (.ref p) (upd H p (.lst (xs ++ zs)))
theorem op_catS {X : Cx} : OpR X (binaryOp .Add) (rCatS X.K) := by
  intro pins s σ H x y v u Q I rx ry h
  obtain ⟨l, b, xs, zs, rfl, rfl, hl, hb, hz, q⟩ := h
  cases rx
  cases ry
  obtain ⟨its, r, ⟨⟨cls, dd, data, sl⟩, n, ho, hc, hdn, hd⟩, h1⟩ := I.list hl
  obtain ⟨its2, r2, ⟨⟨cls2, dd2, data2, sl2⟩, n2, ho2, hc2, hdn2, hd2⟩, h2⟩ := I.list hb
  simp only at hc hd hc2 hd2
  subst hc hd hc2 hd2
  have e1 := r.length
  have e2 := r2.length
  refine concat_meets ⟨_, ho, rfl⟩ ⟨_, ho2, rfl⟩ noFill_list_add seq_list_add PySem.F.slot_list_add PySem.F.entry_list_add (PySem.F.args_list_add_2 _ _) (list_addW l b its.toArray its2.toArray n n2 dd dd2 sl sl2 (by rw [List.size_toArray, List.size_toArray]; omega)) ⟨ho, ho2, ?_⟩
  have ea : its.toArray ++ its2.toArray = (its ++ its2).toArray := by simp
  rw [ea]
  exact ⟨.ref _, _, I.lnew (t' := s.toks) (r.append r2) (by rw [List.length_append]; omega), rfl, q _ I.fresh⟩
end Lp
set_option Elab.async false
set_option linter.all false
set_option maxRecDepth 100000
namespace Lp
open PySem PySem.Spec PyProof.Rows L2

/-! ### calls by keywords, of defs that are called where no repr is under way -/
structure Gk (P : Program) (w : World) (K : PySem.W.Frag) (mg : Str → Option Value) (base : Heap) (k : Nat) (x : Str) (n : Nat) (ks : List Str) (gV : List V → List V → List V) (sp : Sp) : Prop where
  ex : ∃ (f : Addr) (fd : FuncData) (ps : List Str) (g : List Value → List Value → List Value), FnG P w K mg base CX0 k f fd ps sp ∧ mg x = some (.ref f) ∧ PySem.W.keepIn K (.ref f) = true ∧ KBn K fd ps n ks g gV
theorem kb_of {K : PySem.W.Frag} {x qual : Str} {st : Stmt} {f : Addr} {fd : FuncData} {ps : List Str} (F : Fun K x qual st f fd) (n : Nat) (ks : List Str) (g : {α : Type} → List α → List α → List α)
    (hrel : ∀ {vs : List V} {us : List Value} {zs : List V} {ws : List Value}, Vals vs us → Vals zs ws → Vals (g vs zs) (g us ws))
    (h : ∀ (kV doc pm : Value) (an : Option Addr) (cdv ct : Value) (us ws : List Value), us.length = n → ws.length = ks.length → bindArgs (PySem.W.fnOf x qual (defArgs st) (defBody st) (defScope st) .none kV doc pm an cdv ct) ⟨us, ks.zip ws⟩ = pure (ps.zip (g us ws))) :
    KBn K fd ps n ks g g := by
  obtain ⟨oc, od, kV, doc, pm, an, cdv, ct, osl, rfl, lk, hcd⟩ := F.ex
  exact ⟨fun s us ws _ l1 l2 => .of_eq (h kV doc pm an cdv ct us ws l1 l2), hrel⟩
theorem kb_gApp0 {vs : List V} {us : List Value} {zs : List V} {ws : List Value} (a : Vals vs us) (b : Vals zs ws) : Vals (vs ++ zs) (us ++ ws) := a.append b
def gApp {α : Type} (us ws : List α) : List α := us ++ ws
def gRev {α : Type} (us ws : List α) : List α := us ++ ws.reverse
theorem kb_gApp {vs : List V} {us : List Value} {zs : List V} {ws : List Value} (a : Vals vs us) (b : Vals zs ws) : Vals (gApp vs zs) (gApp us ws) := a.append b
theorem vals_rev2 : ∀ {zs : List V} {ws : List Value}, Vals zs ws → Vals zs.reverse ws.reverse
  | _, _, .nil => .nil
  | _, _, .cons h t => by
    rw [List.reverse_cons, List.reverse_cons]
    exact (vals_rev2 t).append (.cons h .nil)
theorem kb_gRev {vs : List V} {us : List Value} {zs : List V} {ws : List Value} (a : Vals vs us) (b : Vals zs ws) : Vals (gRev vs zs) (gRev us ws) := a.append (vals_rev2 b)
def tCallG (n m : Nat) (sp : Sp) (gV : List V → List V → List V) (t tk : TA) : TE := fun σ H Q => t σ H fun vs H1 => tk σ H1 fun zs H2 => vs.length = n ∧ zs.length = m ∧ sp (gV vs zs) H2 Q E0
section
variable {X : Cx} {CX : CXT} {k n : Nat} {f : Addr} {fd : FuncData} {ps ks : List Str} {sp : Sp} {E : XK} {x : Str} {p pos : Pos} {e : Expr} {es : List Expr} {kws : List Keyword} {t tk : TA} {g : List Value → List Value → List Value} {gV : List V → List V → List V}
theorem run_fnG {pins : List (Addr × Obj)} {σ : L2.St} {H : Hp} {s : Shared} {Q : VK} {us ws : List Value} {vs zs : List V} (F : FnG X.prog X.w X.K X.mg X.base CX k f fd ps sp) (hG : X.A.guards = some []) (hr : Room k X.A) (hb : KBn X.K fd ps n ks g gV) (hx : Passes CX X E)
    (I : Inv X pins σ H s) (r : Vals vs us) (rz : Vals zs ws) (l1 : vs.length = n) (l2 : zs.length = ks.length) (h : sp (gV vs zs) H Q E) : wpAny (model X.prog X.w) X.A (call (.ref f) us (ks.zip ws)) (EP X pins σ Q) X.xe s := by
  have r2 := hb.rel r rz
  refine wpAny_call (codeAny_mono (F.runG X.A X.stack s H ⟨us, ks.zip ws⟩ (g us ws) (gV vs zs) Q E hG hr I.env0 (hb.to s us ws I.kIn (r.length.symm.trans l1) (rz.length.symm.trans l2)) r2 h) fun r s' hq => ?_)
  cases r with
  | error e => exact hx pins σ H s e s' I hq
  | ok fl =>
    cases fl with
    | ret u => exact I.after hq
    | next => exact False.elim hq
    | brk => exact False.elim hq
    | cont => exact False.elim hq
/-- f(k = v, ..) -/
theorem pe_gK0 {j : Nat} (c : Gk X.prog X.w X.K X.mg X.base k x 0 ks gV sp) (hG : X.A.guards = some []) (hr : Room j X.A) (hk : k ≤ j) (hg : Gl X x) (hkw : PK X kws tk)
    (hall : (backToKw pos (keywordEach kws X.env)).all (·.1.isSome) = true := by rfl) (hks : (backToKw pos (keywordEach kws X.env)).filterMap (·.1) = ks := by rfl) (hdb : (x == ("__debug__" : Str)) = false := by decide)
    (hpl : ((backTo pos (starEach [] X.env)).any (·.1) || (backToKw pos (keywordEach kws X.env)).any (·.1.isNone)) = false := by rfl) :
    PE X (.Call (.Name x p) [] kws pos) (tCallG 0 ks.length sp gV tNil tk) := by
  obtain ⟨f, fd, ps, g, F, hm, kp, hb⟩ := c.ex
  refine ⟨fun pins s σ H Q I h => ?_⟩
  refine wpAny_Call_Name_kw (ld_glob I hg hm ?_ hdb)
  refine PySem.W.callWith_KW0 (h₀ := X.base) I.ok.mod.kin kp hall ?_ hpl
  refine thn (hkw.run pos pins s σ H _ I h) fun ws s2 ⟨zs, H2, I2, rz, l1, l2, q2⟩ => ⟨I2.kIn, ?_⟩
  rw [hks]
  exact run_fnG (us := []) (vs := []) F hG (hr.mono hk) hb pass0 I2 .nil rz rfl l2 q2
/-- f(e, .., k = v, ..) -/
theorem pe_gK {j : Nat} (c : Gk X.prog X.w X.K X.mg X.base k x n ks gV sp) (hG : X.A.guards = some []) (hr : Room j X.A) (hk : k ≤ j) (hg : Gl X x) (ha : PA X (e :: es) t) (hkw : PK X kws tk)
    (hall : (backToKw pos (keywordEach kws X.env)).all (·.1.isSome) = true := by rfl) (hks : (backToKw pos (keywordEach kws X.env)).filterMap (·.1) = ks := by rfl) (hdb : (x == ("__debug__" : Str)) = false := by decide)
    (he : starEach (e :: es) X.env = (false, eval e X.env) :: starEach es X.env := by rfl) (hpl : ((backTo pos (starEach (e :: es) X.env)).any (·.1) || (backToKw pos (keywordEach kws X.env)).any (·.1.isNone)) = false := by rfl) :
    PE X (.Call (.Name x p) (e :: es) kws pos) (tCallG n ks.length sp gV t tk) := by
  obtain ⟨f, fd, ps, g, F, hm, kp, hb⟩ := c.ex
  refine ⟨fun pins s σ H Q I h => ?_⟩
  refine wpAny_Call_Name_kw (ld_glob I hg hm ?_ hdb)
  refine PySem.W.callWith_KW (h₀ := X.base) I.ok.mod.kin kp hall (thn (ha.run pos pins s σ H _ I h) fun us s1 ⟨vs, H1, I1, r, q⟩ => ?_) hpl he
  refine thn (hkw.run pos pins s1 σ H1 _ I1 q) fun ws s2 ⟨zs, H2, I2, rz, l1, l2, q2⟩ => ⟨I2.kIn, ?_⟩
  rw [hks]
  exact run_fnG F hG (hr.mono hk) hb pass0 I2 r rz l1 l2 q2
end

/-! ### i *= j of great ints -/
def ipC (C : Int → Int → Prop) (f : Int → Int → Int) : TIp := fun x y H Q => ∃ i j, x = .int i ∧ y = .int j ∧ C i j ∧ Q (.int (f i j)) H
section
variable {X : Cx}
theorem ip_mulW : PIp X .Mult (ipC CMulW fun i j => i * j) := by
  intro pins s σ H x y v u Q I r1 r2 h
  obtain ⟨i, j, e1, e2, hc, q⟩ := h
  subst e1; subst e2
  obtain ⟨t, rfl⟩ := r1
  obtain ⟨t', rfl⟩ := r2
  exact imul_int ⟨.int _, H, I.tok _, ⟨_, rfl⟩, q⟩ hc.ok
/-! ### text * int -/
theorem foldl_repN (l : List Nat) : ∀ (n : Nat) (acc : List Nat), List.foldl (fun x1 x2 => x1 ++ x2) acc.toArray (List.replicate n l.toArray) = (acc ++ (List.replicate n l).flatten).toArray
  | 0, acc => by simp
  | n + 1, acc => by
    rw [List.replicate_succ, List.foldl_cons, List.append_toArray, foldl_repN l n (acc ++ l), List.replicate_succ, List.flatten_cons, List.append_assoc]
theorem op_repS : OpR X (binaryOp .Mult) (fun x y H Q => ∃ (z : Str) (n : Nat), x = .str z ∧ y = .int (n : Int) ∧ 2 ≤ n ∧ z.length ≠ 0 ∧ z.length * n ≤ 100000 ∧ Q (.str ⟨(List.replicate n z.cps.toList).flatten.toArray⟩) H) := by
  intro pins s σ H x y v u Q I r1 r2 h
  obtain ⟨z, n, e1, e2, h1, h3, h4, q⟩ := h
  subst e1; subst e2
  obtain ⟨t, rfl⟩ := r1
  obtain ⟨t', rfl⟩ := r2
  have hn : ¬ (n : Int) < 1 := by omega
  have hz1 : 1 ≤ z.length := Nat.pos_of_ne_zero h3
  have hn2 : n ≤ 100000 := Nat.le_trans (Nat.le_mul_of_pos_left n hz1) h4
  have hb : ((n : Int) == 1 || z.length == 0) = false := by
    have a : ((n : Int) == 1) = false := beq_eq_false_iff_ne.mpr (by omega)
    have b : (z.length == 0) = false := beq_eq_false_iff_ne.mpr h3
    rw [a, b]
    rfl
  have hsz : z.length * n ≤ sizeLine := zs h4
  have f0 : List.foldl (fun x1 x2 => x1 ++ x2) #[] (List.replicate n z.cps) = (List.replicate n z.cps.toList).flatten.toArray := by
    have := foldl_repN z.cps.toList n []
    rw [List.nil_append, Array.toArray_toList] at this
    exact this
  have hl : (⟨(List.replicate n z.cps.toList).flatten.toArray⟩ : Str).length = n * z.length := by
    show ((List.replicate n z.cps.toList).flatten.toArray).size = n * z.length
    rw [List.size_toArray, List.length_flatten, List.map_replicate, List.sum_replicate_nat, Array.length_toList]
    rfl
  refine PySem.P.mul_str ?_ (fun _ _ => ?_) (fun _ _ => ?_) ?_
  · have a : ¬ (n : Int) < -(2 ^ 63 : Int) := by omega
    have b : ¬ (n : Int) ≥ 2 ^ 63 := by omega
    rw [decide_eq_false a, decide_eq_false b]
    rfl
  · have h5 : (z.length : Int) * (n : Int) ≤ 100000 := by
      have := Int.ofNat_le.mpr h4
      rwa [Int.natCast_mul] at this
    have := (Int.le_ediv_iff_mul_le (show (0 : Int) < n by omega)).mpr (show (z.length : Int) * (n : Int) ≤ 2 ^ 63 - 1 by omega)
    omega
  · have e : (n : Int).toNat = n := rfl
    rw [e]
    unfold Builtin.Str.tooLong
    exact decide_eq_false (by omega)
  · rw [if_neg hn, hb, if_neg Bool.false_ne_true]
    have e : (n : Int).toNat = n := rfl
    rw [e, f0]
    exact ⟨by rw [hl]; rw [Nat.mul_comm]; exact hsz, .str _, H, I.tok _, ⟨_, rfl⟩, q⟩
end
/-! ### math.factorial, math.comb -/
def facN : Nat → Nat
  | 0 => 1
  | n + 1 => facN n * (n + 1)
theorem fac_eq : ∀ n : Nat, Builtin.Math.factorialNat n = facN n
  | 0 => rfl
  | n + 1 => by
    have e : Builtin.Math.factorialNat (n + 1) = Builtin.Math.factorialNat n * (n + 1) := by
      unfold Builtin.Math.factorialNat
      rw [List.range_succ, List.foldl_append]
      rfl
    rw [e, fac_eq n]
    rfl
theorem fac_lt : ∀ n : Nat, n ≤ 1000 → facN n < 2 ^ (10 * n + 1)
  | 0, _ => by decide
  | n + 1, h => by
    have z := fac_lt n (by omega)
    have e : 10 * (n + 1) + 1 = (10 * n + 1) + 10 := by omega
    show facN n * (n + 1) < _
    rw [e, Nat.pow_add]
    exact Nat.mul_lt_mul_of_lt_of_le z (by have : (2 : Nat) ^ 10 = 1024 := by decide
                                           omega) (by decide)
def rFac : List V → Hp → VK → Prop := fun vs H Q => ∃ n : Nat, vs = [.int (n : Int)] ∧ n ≤ 1000 ∧ Q (.int ((facN n : Nat) : Int)) H
theorem cr_fac {X : Cx} : CallR X (.builtin "math.factorial") rFac := by
  intro pins s σ H vs us Q I r h
  obtain ⟨n, rfl, hn, q⟩ := h
  obtain ⟨u, rfl, t, rfl⟩ := vals1 r
  have hl := fac_lt n hn
  have e : Builtin.Math.factorialNat (n : Int).toNat = facN n := fac_eq n
  refine PySem.W.mg_factorial (by show ¬ (n : Int) > 2 ^ 63 - 1; omega) (by omega) (by show ¬ (n : Int) > 20000; omega) ?_ ?_
  · rw [e]
    show (facN n).log2 < bitsLine
    have b := PySem.Flt.log2_lt_of (by omega : 0 < 10 * n + 1) hl
    have e2 : bitsLine = 134217728 := by decide
    rw [e2]
    omega
  · rw [e]
    exact ⟨.int _, H, I.tok _, ⟨_, rfl⟩, q⟩
/-! ### lists of great ints as text -/
theorem shown_big {ns : List Int} (hb : ∀ n ∈ ns, n.natAbs.log2 < 1920) (hl : ns.length ≤ 40) : (dI ns).shown.length ≤ sizeLine := by
  show (textFrom 0 "[" (PyData.shownAll (ns.map PyData.int)) ++ ("]" : Str)).length ≤ sizeLine
  rw [Str.length_append]
  have z := textFrom_le (PyData.shownAll (ns.map PyData.int)) 0 "[" 1921 (fun t ht => by
    obtain ⟨n, hn, e⟩ := shownAll_mem ns t ht
    rw [e]
    exact PyProof.Rows.int_text_len_1921 (hb n hn))
  rw [shownAll_len] at z
  have e1 : ("[" : Str).length = 1 := rfl
  have e2 : ("]" : Str).length = 1 := rfl
  rw [e1] at z
  rw [e2]
  exact zs (by omega)
theorem rrepr_big {K : PySem.W.Frag} {H : Hp} {a : Addr} {ns : List Int} {Q : VK} (hS : SqL K H a (ns.map V.int)) (hb : ∀ n ∈ ns, n.natAbs.log2 < 1920) (hl : ns.length ≤ 40) (q : Q (.str (dI ns).shown) H) : rRepr K [.ref a] H Q :=
  ⟨a, dI ns, rfl, dp_ints hS, show_ints ns hb, noDict_ints ns, rI2 ns, shown_big hb hl, q⟩
theorem log_nat {n k : Nat} (h : n < 2 ^ k) (h0 : 0 < k) (hk : k ≤ 1920) : ((n : Nat) : Int).natAbs.log2 < 1920 := Nat.lt_of_lt_of_le (PySem.Flt.log2_lt_of h0 (show ((n : Nat) : Int).natAbs < 2 ^ k from h)) hk
end Lp
set_option Elab.async false
set_option linter.all false
set_option maxRecDepth 100000
namespace Lp
open PySem PySem.Spec PyProof.Rows L2
theorem filtG {α : Type} {l : List α} {f : α → Bool} {i : Nat} {e : α} (he : l[i]? = some e) : (l.take (i + 1)).filter f = (l.take i).filter f ++ (if f e = true then [e] else []) := by
  rw [take_get he, List.filter_append]
  congr 1
  simp only [List.filter_cons, List.filter_nil]
theorem filtG_len {α : Type} {l : List α} {f : α → Bool} (i : Nat) : ((l.take i).filter f).length ≤ l.length := Nat.le_trans (List.length_filter_le _ _) (by rw [List.length_take]; exact Nat.min_le_right _ _)
theorem inVI (x : Int) : ∀ ns : List Int, inV (.int x) (ns.map V.int) = decide (x ∈ ns)
  | [] => rfl
  | n :: r => by
    show (eqV (.int n) (.int x) || inV (.int x) (r.map V.int)) = _
    rw [inVI x r]
    show ((n == x) || decide (x ∈ r)) = _
    by_cases e : n = x
    · subst e
      simp
    · have e' : ¬ x = n := fun z => e z.symm
      simp [e, e']
theorem flatI (ns : List Int) : (ns.map V.int).all flatV = true := by
  rw [List.all_eq_true]
  intro v hv
  obtain ⟨n, _, rfl⟩ := List.mem_map.mp hv
  rfl
theorem notInT {x : Int} {ns : List Int} (h : x ∉ ns) : V.bl (if true = true then !inV (.int x) (ns.map V.int) else inV (.int x) (ns.map V.int)) = V.bl true := by
  rw [if_pos rfl, inVI, decide_eq_false h]
  rfl
theorem notInF {x : Int} {ns : List Int} (h : x ∈ ns) : V.bl (if true = true then !inV (.int x) (ns.map V.int) else inV (.int x) (ns.map V.int)) = V.bl false := by
  rw [if_pos rfl, inVI, decide_eq_true h]
  rfl

/-! ### rows of ints in the heap -/
def RowsR (H : Hp) (rs : List V) (rows : List (List Int)) : Prop := rs.length = rows.length ∧ ∀ (i : Nat) (row : List Int), rows[i]? = some row → ∃ a, rs[i]? = some (.ref a) ∧ H a = some (.lst (row.map V.int))
theorem RowsR.same {H H' : Hp} {rs : List V} {rows : List (List Int)} (h : RowsR H rs rows) (s : Same H H') : RowsR H' rs rows := ⟨h.1, fun i row e => by
  obtain ⟨a, b, c⟩ := h.2 i row e
  exact ⟨a, b, s _ _ c⟩⟩
theorem RowsR.upd {H : Hp} {rs : List V} {rows : List (List Int)} {q : Addr} {o : HO} (h : RowsR H rs rows) (n : V.ref q ∉ rs) : RowsR (upd H q o) rs rows := ⟨h.1, fun i row e => by
  obtain ⟨a, b, c⟩ := h.2 i row e
  have ne : a ≠ q := fun z => n (by rw [← z]; exact List.mem_of_getElem? b)
  refine ⟨a, b, ?_⟩
  rw [upd_ne ne]
  exact c⟩
theorem RowsR.nil (H : Hp) : RowsR H [] [] := ⟨rfl, fun i row e => by simp at e⟩
theorem RowsR.app {H : Hp} {rs ss : List V} {rows sows : List (List Int)} (h : RowsR H rs rows) (g : RowsR H ss sows) : RowsR H (rs ++ ss) (rows ++ sows) := by
  refine ⟨by rw [List.length_append, List.length_append, h.1, g.1], fun i row e => ?_⟩
  by_cases hi : i < rows.length
  · rw [List.getElem?_append_left hi] at e
    rw [List.getElem?_append_left (by rw [h.1]; exact hi)]
    exact h.2 i row e
  · rw [List.getElem?_append_right (by omega)] at e
    rw [List.getElem?_append_right (by rw [h.1]; omega), h.1]
    exact g.2 _ row e
theorem RowsR.one {H : Hp} {a : Addr} {row : List Int} (h : H a = some (.lst (row.map V.int))) : RowsR H [.ref a] [row] := ⟨rfl, fun i r e => by
  cases i with
  | zero => cases e; exact ⟨a, rfl, h⟩
  | succ i => simp at e⟩
theorem RowsR.dp {K : PySem.W.Frag} {H : Hp} : ∀ {rs : List V} {rows : List (List Int)}, RowsR H rs rows → DpAll K H rs (rows.map dI)
  | [], [], _ => .nil
  | [], _ :: _, h => absurd h.1 (by simp)
  | _ :: _, [], h => absurd h.1 (by simp)
  | v :: rs, r :: rows, h => by
    obtain ⟨a, b, c⟩ := h.2 0 r rfl
    have e : v = .ref a := Option.some.inj b
    subst e
    exact .cons (dp_ints (.of c)) (RowsR.dp ⟨Nat.succ.inj h.1, fun i row e => h.2 (i + 1) row e⟩)
theorem flatMap_take_len {α β : Type} {f : α → List β} (l : List α) (j : Nat) : ((l.take j).flatMap f).length ≤ (l.flatMap f).length := by
  have e : l.flatMap f = (l.take j).flatMap f ++ (l.drop j).flatMap f := by rw [← List.flatMap_append, List.take_append_drop]
  rw [e, List.length_append]
  omega
theorem flatMap_take_succ {α β : Type} {f : α → List β} {l : List α} {j : Nat} {x : α} (h : l[j]? = some x) : (l.take (j + 1)).flatMap f = (l.take j).flatMap f ++ f x := by
  rw [take_get h, List.flatMap_append]
  simp
end Lp
set_option Elab.async false
set_option linter.all false
set_option maxRecDepth 100000
namespace Lp
open PySem PySem.Spec PyProof.Rows L2
theorem rgc_two (n : Nat) (h : n ≤ 1000) : RgC 1 (2 * (n : Int)) 2 n := by
  have hs : Builtin.Range.rangeSize 1 (2 * (n : Int)) 2 = (n : Int) := by
    unfold Builtin.Range.rangeSize
    rw [if_pos (by decide)]
    by_cases h0 : n = 0
    · subst h0
      rw [if_neg (by omega)]
      rfl
    · rw [if_pos (by omega)]
      omega
  refine ⟨by decide, by decide, ?_, hs⟩
  unfold Builtin.Range.small
  rw [hs]
  have f : ∀ z : Int, -1000000 ≤ z → z ≤ 1000000 → Builtin.Range.rangeFitsLong z = true := fun z a b => by
    unfold Builtin.Range.rangeFitsLong
    rw [decide_eq_true (show -2 ^ 63 ≤ z by omega), decide_eq_true (show z < 2 ^ 63 by omega)]
    rfl
  rw [f 1 (by decide) (by decide), f (2 * (n : Int)) (by omega) (by omega), f 2 (by decide) (by decide), f (n : Int) (by omega) (by omega), if_pos (by decide), f (2 * (n : Int) + (2 - 1)) (by omega) (by omega), Bool.or_true]
  rfl
/-! ### lists of objects in the heap -/
def ObjR {α : Type} (o : α → HO) (H : Hp) (rs : List V) (l : List α) : Prop := rs.length = l.length ∧ ∀ (i : Nat) (x : α), l[i]? = some x → ∃ a, rs[i]? = some (.ref a) ∧ H a = some (o x)
section
variable {α : Type} {o : α → HO} {H H' : Hp} {rs ss : List V} {l m : List α}
theorem ObjR.same (h : ObjR o H rs l) (s : Same H H') : ObjR o H' rs l := ⟨h.1, fun i x e => by
  obtain ⟨a, b, c⟩ := h.2 i x e
  exact ⟨a, b, s _ _ c⟩⟩
theorem ObjR.upd {q : Addr} {u : HO} (h : ObjR o H rs l) (n : V.ref q ∉ rs) : ObjR o (upd H q u) rs l := ⟨h.1, fun i x e => by
  obtain ⟨a, b, c⟩ := h.2 i x e
  have ne : a ≠ q := fun z => n (by rw [← z]; exact List.mem_of_getElem? b)
  refine ⟨a, b, ?_⟩
  rw [upd_ne ne]
  exact c⟩
theorem ObjR.nil : ObjR o H [] [] := ⟨rfl, fun i x e => by simp at e⟩
theorem ObjR.app (h : ObjR o H rs l) (g : ObjR o H ss m) : ObjR o H (rs ++ ss) (l ++ m) := by
  refine ⟨by rw [List.length_append, List.length_append, h.1, g.1], fun i x e => ?_⟩
  by_cases hi : i < l.length
  · rw [List.getElem?_append_left hi] at e
    rw [List.getElem?_append_left (by rw [h.1]; exact hi)]
    exact h.2 i x e
  · rw [List.getElem?_append_right (by omega)] at e
    rw [List.getElem?_append_right (by rw [h.1]; omega), h.1]
    exact g.2 _ x e
theorem ObjR.one {a : Addr} {x : α} (h : H a = some (o x)) : ObjR o H [.ref a] [x] := ⟨rfl, fun i r e => by
  cases i with
  | zero => cases e; exact ⟨a, rfl, h⟩
  | succ i => simp at e⟩
end
theorem rep_one (b : Bool) (v : V) : (List.replicate (if b = true then (1 : Int) else 0).toNat [v]).flatten = if b = true then [v] else [] := by cases b <;> rfl
theorem rep_sz (b : Bool) (v : V) : [v].length * (if b = true then (1 : Int) else 0).toNat ≤ sizeLine := by
  cases b
  · exact Nat.zero_le _
  · exact Lp.zs (show 1 * 1 ≤ 100000 by decide)
theorem ifs_len (b : Bool) (v : V) : (if b = true then [v] else []).length ≤ 1 := by
  cases b
  · exact Nat.zero_le _
  · exact Nat.le_refl _
theorem ints_get {ns : List Int} {i : Nat} {n : Int} (h : ns[i]? = some n) : (ns.map V.int)[i]? = some (.int n) := by rw [List.getElem?_map, h]; rfl
end Lp
set_option Elab.async false
set_option linter.all false
set_option maxRecDepth 100000
namespace L56
open PySem PySem.Spec PyProof.Rows L2 Lp
def topS (i : Nat) : Stmt := PySem.Challenge.pw_latepatches_k56_survivors_counted_in_sha.main.body.getD i (.Pass ⟨0, 0, 0, 0⟩)
abbrev s_is_integer : Stmt := topS 5
abbrev N_is_integer : List Str := ["value"]
theorem sc_is_integer : FnScope N_is_integer ["value"] (defScope s_is_integer) := ⟨rfl, rfl, rfl, by decide +kernel, rfl, by decide +kernel, by decide +kernel⟩
abbrev s_is_integer_within : Stmt := topS 6
abbrev N_is_integer_within : List Str := ["value", "least", "greatest"]
theorem sc_is_integer_within : FnScope N_is_integer_within ["value", "least", "greatest"] (defScope s_is_integer_within) := ⟨rfl, rfl, rfl, by decide +kernel, rfl, by decide +kernel, by decide +kernel⟩
abbrev s_check_number : Stmt := topS 7
abbrev N_check_number : List Str := ["value", "least", "greatest"]
theorem sc_check_number : FnScope N_check_number ["value", "least", "greatest"] (defScope s_check_number) := ⟨rfl, rfl, rfl, by decide +kernel, rfl, by decide +kernel, by decide +kernel⟩
abbrev s_is_shape : Stmt := topS 10
abbrev N_is_shape : List Str := ["value", "running", "sign"]
theorem sc_is_shape : FnScope N_is_shape ["value"] (defScope s_is_shape) := ⟨rfl, rfl, rfl, by decide +kernel, rfl, by decide +kernel, by decide +kernel⟩
abbrev s_check_shape : Stmt := topS 11
abbrev N_check_shape : List Str := ["shape"]
theorem sc_check_shape : FnScope N_check_shape ["shape"] (defScope s_check_shape) := ⟨rfl, rfl, rfl, by decide +kernel, rfl, by decide +kernel, by decide +kernel⟩
abbrev s_count_in_shape : Stmt := topS 12
abbrev N_count_in_shape : List Str := ["shape", "count", "running", "sign"]
theorem sc_count_in_shape : FnScope N_count_in_shape ["shape"] (defScope s_count_in_shape) := ⟨rfl, rfl, rfl, by decide +kernel, rfl, by decide +kernel, by decide +kernel⟩
abbrev s_count_survivors : Stmt := topS 13
abbrev N_count_survivors : List Str := ["shape", "survivor", "count", "started", "running", "present", "saved", "sign"]
theorem sc_count_survivors : FnScope N_count_survivors ["shape", "survivor"] (defScope s_count_survivors) := ⟨rfl, rfl, rfl, by decide +kernel, rfl, by decide +kernel, by decide +kernel⟩
abbrev s_law_pool : Stmt := topS 15
abbrev N_law_pool : List Str := ["script", "k", "cell"]
theorem sc_law_pool : FnScope N_law_pool ["script", "k"] (defScope s_law_pool) := ⟨rfl, rfl, rfl, by decide +kernel, rfl, by decide +kernel, by decide +kernel⟩
abbrev s_law_draw : Stmt := topS 16
abbrev N_law_draw : List Str := ["pool", "many", "digit", "mixed"]
theorem sc_law_draw : FnScope N_law_draw ["pool", "many"] (defScope s_law_draw) := ⟨rfl, rfl, rfl, by decide +kernel, rfl, by decide +kernel, by decide +kernel⟩
abbrev s_law_signs : Stmt := topS 17
abbrev N_law_signs : List Str := ["pool", "script", "many", "style", "wide", "found", "running", "starts", "turn", "hit", "up"]
theorem sc_law_signs : FnScope N_law_signs ["pool", "script"] (defScope s_law_signs) := ⟨rfl, rfl, rfl, by decide +kernel, rfl, by decide +kernel, by decide +kernel⟩
abbrev s_law_ways : Stmt := topS 18
abbrev N_law_ways : List Str := ["signs", "found", "running", "sign"]
theorem sc_law_ways : FnScope N_law_ways ["signs"] (defScope s_law_ways) := ⟨rfl, rfl, rfl, by decide +kernel, rfl, by decide +kernel, by decide +kernel⟩
abbrev s_law_every : Stmt := topS 19
abbrev N_law_every : List Str := ["signs", "rows", "starts", "sign", "longer", "row", "able", "one"]
theorem sc_law_every : FnScope N_law_every ["signs"] (defScope s_law_every) := ⟨rfl, rfl, rfl, by decide +kernel, rfl, by decide +kernel, by decide +kernel⟩
abbrev s_law_present : Stmt := topS 20
abbrev N_law_present : List Str := ["row", "present", "kept", "one"]
theorem sc_law_present : FnScope N_law_present ["row"] (defScope s_law_present) := ⟨rfl, rfl, rfl, by decide +kernel, rfl, by decide +kernel, by decide +kernel⟩
abbrev s_law_few_right : Stmt := topS 21
abbrev N_law_few_right : List Str := ["signs", "left", "v", "due", "row"]
theorem sc_law_few_right : FnScope N_law_few_right ["signs"] (defScope s_law_few_right) := ⟨rfl, rfl, rfl, by decide +kernel, rfl, by decide +kernel, by decide +kernel⟩
abbrev s_law_from_end : Stmt := topS 22
abbrev N_law_from_end : List Str := ["signs", "running", "sign", "found", "weights", "m", "weight", "v", "rest", "at"]
theorem sc_law_from_end : FnScope N_law_from_end ["signs"] (defScope s_law_from_end) := ⟨rfl, rfl, rfl, by decide +kernel, rfl, by decide +kernel, by decide +kernel⟩
abbrev s_law : Stmt := topS 23
abbrev N_law : List Str := ["script", "k", "pool", "signs", "few", "due", "many", "told", "v"]
theorem sc_law : FnScope N_law ["script"] (defScope s_law) := ⟨rfl, rfl, rfl, by decide +kernel, rfl, by decide +kernel, by decide +kernel⟩
end L56
set_option Elab.async false
set_option linter.all false
set_option maxRecDepth 100000
namespace L56
open PySem PySem.Spec PyProof.Rows L2 Lp
theorem eqvT {xs ys : List Int} (h : xs = ys) : V.bl (PyData.eqv (dI xs) (dI ys)) = V.bl true := by rw [eqv_ints, decide_eq_true h]
theorem eqvF {xs ys : List Int} (h : ¬ xs = ys) : V.bl (PyData.eqv (dI xs) (dI ys)) = V.bl false := by rw [eqv_ints, decide_eq_false h]
theorem neqT {xs ys : List Int} (h : ¬ xs = ys) : V.bl (!PyData.eqv (dI xs) (dI ys)) = V.bl true := by rw [eqv_ints, decide_eq_false h]; rfl
theorem neqF {xs ys : List Int} (h : xs = ys) : V.bl (!PyData.eqv (dI xs) (dI ys)) = V.bl false := by rw [eqv_ints, decide_eq_true h]; rfl
theorem nodup_len {l : List Int} : ∀ {m : List Int}, l.Nodup → (∀ x ∈ l, x ∈ m) → l.length ≤ m.length := by
  induction l with
  | nil => intro m _ _; exact Nat.zero_le _
  | cons x r ih =>
    intro m h s
    obtain ⟨h1, h2⟩ := List.nodup_cons.mp h
    have hx := s x List.mem_cons_self
    have z := ih (m := m.erase x) h2 fun y hy => (List.mem_erase_of_ne (fun e : y = x => h1 (e ▸ hy))).mpr (s y (List.mem_cons_of_mem _ hy))
    rw [List.length_erase_of_mem hx] at z
    have := List.length_pos_of_mem hx
    show r.length + 1 ≤ m.length
    omega
/-! ### signs -/
def stp (p : Nat × Nat) (b : Bool) : Nat × Nat := if b then (p.1, p.2 + 1) else (p.1 * p.2, p.2 - 1)
def wr (bs : List Bool) : Nat × Nat := bs.foldl stp (1, 0)
def waysN (bs : List Bool) : Nat := (wr bs).1
def runN (bs : List Bool) : Nat := (wr bs).2
def upsN (bs : List Bool) : Nat := bs.count true
def dnsN (bs : List Bool) : Nat := bs.count false
theorem wr_snoc (bs : List Bool) (b : Bool) : wr (bs ++ [b]) = stp (wr bs) b := by
  unfold wr
  rw [List.foldl_append]
  rfl
theorem ways_up (bs : List Bool) : waysN (bs ++ [true]) = waysN bs := by unfold waysN; rw [wr_snoc]; rfl
theorem ways_dn (bs : List Bool) : waysN (bs ++ [false]) = waysN bs * runN bs := by unfold waysN runN; rw [wr_snoc]; rfl
theorem run_up (bs : List Bool) : runN (bs ++ [true]) = runN bs + 1 := by unfold runN; rw [wr_snoc]; rfl
theorem run_dn (bs : List Bool) : runN (bs ++ [false]) = runN bs - 1 := by unfold runN; rw [wr_snoc]; rfl
theorem ups_up (bs : List Bool) : upsN (bs ++ [true]) = upsN bs + 1 := by unfold upsN; rw [List.count_append]; rfl
theorem ups_dn (bs : List Bool) : upsN (bs ++ [false]) = upsN bs := by unfold upsN; rw [List.count_append]; rfl
theorem dns_up (bs : List Bool) : dnsN (bs ++ [true]) = dnsN bs := by unfold dnsN; rw [List.count_append]; rfl
theorem dns_dn (bs : List Bool) : dnsN (bs ++ [false]) = dnsN bs + 1 := by unfold dnsN; rw [List.count_append]; rfl
/-- nowhere more stops than starts ahead -/
def SgOk (bs : List Bool) : Prop := ∀ i, bs[i]? = some false → 0 < runN (bs.take i)
theorem sgOk_nil : SgOk [] := fun i h => by simp at h
theorem SgOk.pre {bs : List Bool} {b : Bool} (h : SgOk (bs ++ [b])) : SgOk bs := fun i hi => by
  have hl := (List.getElem?_eq_some_iff.mp hi).1
  have z := h i (by rw [List.getElem?_append_left hl]; exact hi)
  rwa [List.take_append_of_le_length (Nat.le_of_lt hl)] at z
theorem SgOk.last {bs : List Bool} (h : SgOk (bs ++ [false])) : 0 < runN bs := by
  have z := h bs.length (by rw [List.getElem?_append_right (Nat.le_refl _), Nat.sub_self]; rfl)
  rwa [List.take_append_of_le_length (Nat.le_refl _), List.take_length] at z
theorem SgOk.snoc {bs : List Bool} {b : Bool} (h : SgOk bs) (hb : b = false → 0 < runN bs) : SgOk (bs ++ [b]) := fun i hi => by
  by_cases hl : i < bs.length
  · rw [List.getElem?_append_left hl] at hi
    rw [List.take_append_of_le_length (Nat.le_of_lt hl)]
    exact h i hi
  · have h2 := (List.getElem?_eq_some_iff.mp hi).1
    rw [List.length_append, List.length_singleton] at h2
    have e : i = bs.length := by omega
    subst e
    rw [List.getElem?_append_right (Nat.le_refl _), Nat.sub_self] at hi
    rw [List.take_append_of_le_length (Nat.le_refl _), List.take_length]
    exact hb (Option.some.inj hi)
theorem SgOk.take {bs : List Bool} (h : SgOk bs) (n : Nat) : SgOk (bs.take n) := fun i hi => by
  have hl := (List.getElem?_eq_some_iff.mp hi).1
  rw [List.length_take] at hl
  rw [List.getElem?_take_of_lt (by omega)] at hi
  rw [List.take_take, Nat.min_eq_left (by omega)]
  exact h i hi
/-- induction from the end -/
theorem snoc_ind {α : Type} {P : List α → Prop} (h0 : P []) (h1 : ∀ l a, P l → P (l ++ [a])) : ∀ l, P l := by
  have key : ∀ n (l : List α), l.length = n → P l := by
    intro n
    induction n with
    | zero => intro l h; rw [List.length_eq_zero_iff.mp h]; exact h0
    | succ n ih =>
      intro l h
      have hne : l ≠ [] := fun e => by rw [e] at h; exact absurd h (by simp)
      rw [← List.dropLast_concat_getLast hne]
      exact h1 _ _ (ih _ (by rw [List.length_dropLast, h]; rfl))
  exact fun l => key _ l rfl
theorem run_eq {bs : List Bool} : SgOk bs → runN bs + dnsN bs = upsN bs := by
  refine snoc_ind (P := fun bs => SgOk bs → runN bs + dnsN bs = upsN bs) (fun _ => rfl) (fun l a ih h => ?_) bs
  have := ih h.pre
  cases a with
  | true => rw [run_up, dns_up, ups_up]; omega
  | false =>
    have := h.last
    rw [run_dn, dns_dn, ups_dn]; omega
theorem ups_dns (bs : List Bool) : upsN bs + dnsN bs = bs.length := by
  refine snoc_ind (P := fun bs => upsN bs + dnsN bs = bs.length) rfl (fun l a ih => ?_) bs
  cases a with
  | true => rw [ups_up, dns_up, List.length_append, List.length_singleton]; omega
  | false => rw [ups_dn, dns_dn, List.length_append, List.length_singleton]; omega
theorem ways_pos {bs : List Bool} : SgOk bs → 0 < waysN bs := by
  refine snoc_ind (P := fun bs => SgOk bs → 0 < waysN bs) (fun _ => by decide) (fun l a ih h => ?_) bs
  cases a with
  | true => rw [ways_up]; exact ih h.pre
  | false => rw [ways_dn]; exact Nat.mul_pos (ih h.pre) h.last
theorem ways_snoc_le {bs : List Bool} {b : Bool} (h : SgOk (bs ++ [b])) : waysN bs ≤ waysN (bs ++ [b]) := by
  cases b with
  | true => rw [ways_up]; exact Nat.le_refl _
  | false => rw [ways_dn]; exact Nat.le_mul_of_pos_right _ h.last
theorem take_snoc {α : Type} {l : List α} {i : Nat} {x : α} (h : l[i]? = some x) : l.take (i + 1) = l.take i ++ [x] := by
  rw [List.take_add_one, h]
  rfl
theorem ways_take_le {bs : List Bool} (h : SgOk bs) : ∀ k i, i + k = bs.length → waysN (bs.take i) ≤ waysN bs
  | 0, i, e => by rw [List.take_of_length_le (by omega)]; exact Nat.le_refl _
  | k + 1, i, e => by
    have hi : i < bs.length := by omega
    have e1 := take_snoc (List.getElem?_eq_getElem hi)
    have := h.take (i + 1)
    rw [e1] at this
    have z := ways_snoc_le this
    rw [← e1] at z
    exact Nat.le_trans z (ways_take_le h k (i + 1) (by omega))
theorem ways_lt {bs : List Bool} (hu : upsN bs ≤ 100) : SgOk bs → waysN bs < 2 ^ (7 * bs.length + 1) := by
  refine snoc_ind (P := fun bs => upsN bs ≤ 100 → SgOk bs → waysN bs < 2 ^ (7 * bs.length + 1)) (fun _ _ => by decide) (fun l a ih hu h => ?_) bs hu
  rw [List.length_append, List.length_singleton]
  cases a with
  | true =>
    rw [ups_up] at hu
    rw [ways_up]
    exact Nat.lt_of_lt_of_le (ih (by omega) h.pre) (Nat.pow_le_pow_right (by decide) (by omega))
  | false =>
    rw [ups_dn] at hu
    have r := run_eq h.pre
    rw [ways_dn]
    have z := ih hu h.pre
    have e : 7 * (l.length + 1) + 1 = (7 * l.length + 1) + 7 := by omega
    rw [e, Nat.pow_add]
    exact Nat.mul_lt_mul_of_lt_of_le z (by have : (2 : Nat) ^ 7 = 128 := by decide
                                           omega) (by decide)
/-! ### all histories of a shape -/
def negL (st : Nat) : List Int := (List.range st).map fun k : Nat => (0 : Int) - ((st : Int) + (k : Int) * (-1))
def ableL (st : Nat) (b : Bool) (row : List Int) : List Int := if b then [(st : Int)] else (negL st).filter fun x => decide (x ∉ row)
def evStep (p : List (List Int) × Nat) (b : Bool) : List (List Int) × Nat :=
  (p.1.flatMap (fun row => (ableL (p.2 + b.toNat) b row).map fun x => row ++ [x]), p.2 + b.toNat)
def ev (bs : List Bool) : List (List Int) × Nat := bs.foldl evStep ([[]], 0)
def everyL (bs : List Bool) : List (List Int) := (ev bs).1
theorem ev_snoc (bs : List Bool) (b : Bool) : ev (bs ++ [b]) = evStep (ev bs) b := by
  unfold ev
  rw [List.foldl_append]
  rfl
theorem ev_two (bs : List Bool) : (ev bs).2 = upsN bs := by
  refine snoc_ind (P := fun bs => (ev bs).2 = upsN bs) rfl (fun l a ih => ?_) bs
  rw [ev_snoc]
  cases a with
  | true => rw [ups_up, ← ih]; rfl
  | false => rw [ups_dn, ← ih]; rfl
theorem every_snoc (bs : List Bool) (b : Bool) : everyL (bs ++ [b]) = (everyL bs).flatMap fun row => (ableL (upsN bs + b.toNat) b row).map fun x => row ++ [x] := by
  unfold everyL
  rw [ev_snoc]
  unfold evStep
  rw [ev_two]
theorem negL_mem {st : Nat} {x : Int} : x ∈ negL st ↔ -(st : Int) ≤ x ∧ x < 0 := by
  unfold negL
  rw [List.mem_map]
  constructor
  · rintro ⟨k, hk, rfl⟩
    have := List.mem_range.mp hk
    omega
  · rintro ⟨h1, h2⟩
    exact ⟨(x + st).toNat, List.mem_range.mpr (by omega), by omega⟩
theorem nodup_map' {α β : Type} {f : α → β} (hf : ∀ x y, f x = f y → x = y) : ∀ {l : List α}, l.Nodup → (l.map f).Nodup
  | [], _ => List.nodup_nil
  | x :: r, h => by
    obtain ⟨h1, h2⟩ := List.nodup_cons.mp h
    refine List.nodup_cons.mpr ⟨fun hm => ?_, nodup_map' hf h2⟩
    obtain ⟨y, hy, e⟩ := List.mem_map.mp hm
    exact h1 (hf _ _ e ▸ hy)
theorem negL_nd (st : Nat) : (negL st).Nodup := nodup_map' (fun x y e => by omega) List.nodup_range
theorem negL_len (st : Nat) : (negL st).length = st := by unfold negL; rw [List.length_map, List.length_range]
def isNeg (x : Int) : Bool := decide (x < 0)
/-- a row: its stops -/
structure RowOk (st k : Nat) (row : List Int) : Prop where
  nd : (row.filter isNeg).Nodup
  rng : ∀ x ∈ row, -(st : Int) ≤ x ∧ x ≤ st ∧ x ≠ 0
  len : (row.filter isNeg).length = k
theorem filter_split {α : Type} (p : α → Bool) : ∀ l : List α, (l.filter p).length + (l.filter fun x => !p x).length = l.length
  | [] => rfl
  | x :: r => by
    have := filter_split p r
    rw [List.filter_cons, List.filter_cons, List.length_cons]
    cases p x
    · show (r.filter p).length + ((r.filter fun x => !p x).length + 1) = _
      omega
    · show (r.filter p).length + 1 + (r.filter fun x => !p x).length = _
      omega
theorem able_len {st k : Nat} {row : List Int} (h : RowOk st k row) : (ableL st false row).length + k = st := by
  have e : (ableL st false row) = (negL st).filter fun x => decide (x ∉ row) := rfl
  have s := filter_split (fun x => decide (x ∈ row)) (negL st)
  have e2 : ((negL st).filter fun x => !decide (x ∈ row)) = (negL st).filter fun x => decide (x ∉ row) := by
    congr 1
    funext x
    rw [decide_not]
  rw [e2, negL_len] at s
  have n1 : ((negL st).filter fun x => decide (x ∈ row)).Nodup := (negL_nd st).sublist List.filter_sublist
  have l1 : ((negL st).filter fun x => decide (x ∈ row)).length ≤ (row.filter isNeg).length := nodup_len n1 fun x hx => by
    rw [List.mem_filter] at hx
    obtain ⟨a, b⟩ := hx
    exact List.mem_filter.mpr ⟨of_decide_eq_true b, decide_eq_true (negL_mem.mp a).2⟩
  have l2 : (row.filter isNeg).length ≤ ((negL st).filter fun x => decide (x ∈ row)).length := nodup_len h.nd fun x hx => by
    rw [List.mem_filter] at hx
    obtain ⟨a, b⟩ := hx
    exact List.mem_filter.mpr ⟨negL_mem.mpr ⟨(h.rng x a).1, of_decide_eq_true b⟩, decide_eq_true a⟩
  rw [e]
  have := h.len
  omega
theorem flatMap_len {α β : Type} {f : α → List β} {c : Nat} : ∀ {l : List α}, (∀ x ∈ l, (f x).length = c) → (l.flatMap f).length = l.length * c
  | [], _ => by simp
  | x :: r, h => by
    rw [List.flatMap_cons, List.length_append, h x List.mem_cons_self, flatMap_len fun y hy => h y (List.mem_cons_of_mem _ hy), List.length_cons, Nat.succ_mul]
    omega
theorem every_ok {bs : List Bool} : SgOk bs → (∀ row ∈ everyL bs, RowOk (upsN bs) (dnsN bs) row ∧ row.length = bs.length) ∧ (everyL bs).length = waysN bs := by
  refine snoc_ind (P := fun bs => SgOk bs → (∀ row ∈ everyL bs, RowOk (upsN bs) (dnsN bs) row ∧ row.length = bs.length) ∧ (everyL bs).length = waysN bs) (fun _ => ⟨fun row hr => ?_, rfl⟩) (fun l a ih h => ?_) bs
  · have e : row = [] := List.mem_singleton.mp hr
    subst e
    exact ⟨⟨List.nodup_nil, fun x hx => absurd hx List.not_mem_nil, rfl⟩, rfl⟩
  · obtain ⟨i1, i2⟩ := ih h.pre
    rw [every_snoc]
    cases a with
    | true =>
      rw [ups_up, dns_up, ways_up]
      refine ⟨fun row hr => ?_, ?_⟩
      · obtain ⟨r0, h0, h1⟩ := List.mem_flatMap.mp hr
        obtain ⟨x, hx, rfl⟩ := List.mem_map.mp h1
        have ex : x = ((upsN l + 1 : Nat) : Int) := List.mem_singleton.mp hx
        obtain ⟨⟨a1, a2, a3⟩, a4⟩ := i1 r0 h0
        have ef : (r0 ++ [x]).filter isNeg = r0.filter isNeg := by
          rw [List.filter_append]
          have : isNeg x = false := decide_eq_false (by omega)
          rw [List.filter_cons, this]
          simp
        refine ⟨⟨by rw [ef]; exact a1, fun y hy => ?_, by rw [ef]; exact a3⟩, by rw [List.length_append, List.length_append, a4]; rfl⟩
        rcases List.mem_append.mp hy with z | z
        · have := a2 y z
          omega
        · rw [List.mem_singleton] at z
          omega
      · rw [flatMap_len (c := 1) fun row _ => by rw [List.length_map]; rfl, i2, Nat.mul_one]
    | false =>
      rw [ups_dn, dns_dn, ways_dn]
      refine ⟨fun row hr => ?_, ?_⟩
      · obtain ⟨r0, h0, h1⟩ := List.mem_flatMap.mp hr
        obtain ⟨x, hx, rfl⟩ := List.mem_map.mp h1
        have hx' : x ∈ (negL (upsN l)).filter fun x => decide (x ∉ r0) := hx
        obtain ⟨b1, b2⟩ := List.mem_filter.mp hx'
        have b3 := negL_mem.mp b1
        have b4 := of_decide_eq_true b2
        obtain ⟨⟨a1, a2, a3⟩, a4⟩ := i1 r0 h0
        have ef : (r0 ++ [x]).filter isNeg = r0.filter isNeg ++ [x] := by
          rw [List.filter_append]
          have : isNeg x = true := decide_eq_true b3.2
          rw [List.filter_cons, this]
          simp
        refine ⟨⟨?_, fun y hy => ?_, by rw [ef, List.length_append, a3]; rfl⟩, by rw [List.length_append, List.length_append, a4]; rfl⟩
        · rw [ef]
          refine List.nodup_append.mpr ⟨a1, List.nodup_cons.mpr ⟨List.not_mem_nil, List.nodup_nil⟩, fun p hp q hq e => ?_⟩
          rw [List.mem_singleton] at hq
          subst hq
          subst e
          exact b4 (List.mem_filter.mp hp).1
        · rcases List.mem_append.mp hy with z | z
          · exact a2 y z
          · rw [List.mem_singleton] at z
            omega
      · have r := run_eq h.pre
        rw [flatMap_len (c := runN l) fun row hr => by
          have := able_len (i1 row hr).1
          rw [List.length_map]
          show (ableL (upsN l) false row).length = _
          omega, i2]
/-! ### survivors -/
structure SvS where
  cnt : Nat
  st : Nat
  run : Nat
  pr : Nat
  sv : Nat
def svStep (v : Nat) (s : SvS) (b : Bool) : SvS :=
  if b then ⟨s.cnt, s.st + 1, s.run + 1, if s.st + 1 = v then s.cnt else 0, s.sv + s.pr⟩ else ⟨s.cnt * s.run, s.st, s.run - 1, s.sv, s.sv * (s.run - 1)⟩
def svS (v : Nat) (bs : List Bool) : SvS := bs.foldl (svStep v) ⟨1, 0, 0, if v = 0 then 1 else 0, 0⟩
def survN (bs : List Bool) (v : Nat) : Nat := (svS v bs).pr
theorem sv_snoc (v : Nat) (bs : List Bool) (b : Bool) : svS v (bs ++ [b]) = svStep v (svS v bs) b := by
  unfold svS
  rw [List.foldl_append]
  rfl
theorem sv_is (v : Nat) (bs : List Bool) : (svS v bs).cnt = waysN bs ∧ (svS v bs).st = upsN bs ∧ (svS v bs).run = runN bs := by
  refine snoc_ind (P := fun bs => (svS v bs).cnt = waysN bs ∧ (svS v bs).st = upsN bs ∧ (svS v bs).run = runN bs) ⟨rfl, rfl, rfl⟩ (fun l a ih => ?_) bs
  obtain ⟨h1, h2, h3⟩ := ih
  rw [sv_snoc]
  cases a with
  | true => rw [ways_up, ups_up, run_up]; exact ⟨h1, congrArg (· + 1) h2, congrArg (· + 1) h3⟩
  | false =>
    rw [ways_dn, ups_dn, run_dn, ← h1, ← h2, ← h3]
    exact ⟨rfl, rfl, rfl⟩
theorem sv_up (v : Nat) (bs : List Bool) : (svS v (bs ++ [true])).pr = (if upsN bs + 1 = v then waysN bs else 0) ∧ (svS v (bs ++ [true])).sv = (svS v bs).sv + (svS v bs).pr := by
  obtain ⟨h1, h2, h3⟩ := sv_is v bs
  rw [sv_snoc, ← h1, ← h2]
  exact ⟨rfl, rfl⟩
theorem sv_dn (v : Nat) (bs : List Bool) : (svS v (bs ++ [false])).pr = (svS v bs).sv ∧ (svS v (bs ++ [false])).sv = (svS v bs).sv * (runN bs - 1) := by
  obtain ⟨h1, h2, h3⟩ := sv_is v bs
  rw [sv_snoc, ← h3]
  exact ⟨rfl, rfl⟩
/-- nothing of a patch that was not started -/
theorem sv_none {v : Nat} {bs : List Bool} (h : upsN bs < v) : (svS v bs).pr = 0 ∧ (svS v bs).sv = 0 := by
  refine snoc_ind (P := fun bs => upsN bs < v → (svS v bs).pr = 0 ∧ (svS v bs).sv = 0) (fun h => ⟨if_neg (by have : 0 < v := h; omega), rfl⟩) (fun l a ih h => ?_) bs h
  cases a with
  | true =>
    rw [ups_up] at h
    obtain ⟨i1, i2⟩ := ih (by omega)
    obtain ⟨j1, j2⟩ := sv_up v l
    rw [j1, j2, i1, i2, if_neg (by omega)]
    exact ⟨rfl, rfl⟩
  | false =>
    rw [ups_dn] at h
    obtain ⟨i1, i2⟩ := ih h
    obtain ⟨j1, j2⟩ := sv_dn v l
    rw [j1, j2, i2]
    exact ⟨rfl, Nat.zero_mul _⟩
theorem sv_le (v : Nat) {bs : List Bool} (ok : SgOk bs) : (svS v bs).pr + (svS v bs).sv ≤ waysN bs := by
  refine snoc_ind (P := fun bs => SgOk bs → (svS v bs).pr + (svS v bs).sv ≤ waysN bs) (fun _ => ?_) (fun l a ih h => ?_) bs ok
  · show (if v = 0 then 1 else 0) + 0 ≤ 1
    split <;> decide
  · have i := ih h.pre
    cases a with
    | true =>
      obtain ⟨j1, j2⟩ := sv_up v l
      rw [j1, j2, ways_up]
      by_cases e : upsN l + 1 = v
      · obtain ⟨k1, k2⟩ := sv_none (v := v) (bs := l) (by omega)
        rw [if_pos e, k1, k2]
        exact Nat.le_refl _
      · rw [if_neg e]
        omega
    | false =>
      obtain ⟨j1, j2⟩ := sv_dn v l
      have r := h.last
      rw [j1, j2, ways_dn]
      have e : (svS v l).sv + (svS v l).sv * (runN l - 1) = (svS v l).sv * runN l := by
        conv => lhs; lhs; rw [← Nat.mul_one (svS v l).sv]
        rw [← Nat.mul_add]
        congr 1
        omega
      rw [e]
      exact Nat.mul_le_mul_right _ (by omega)
/-! over all values -/
def sumTo (f : Nat → Nat) : Nat → Nat
  | 0 => f 0
  | n + 1 => sumTo f n + f (n + 1)
theorem sumTo_add (f g : Nat → Nat) : ∀ n, sumTo (fun v => f v + g v) n = sumTo f n + sumTo g n
  | 0 => rfl
  | n + 1 => by
    show sumTo (fun v => f v + g v) n + (f (n + 1) + g (n + 1)) = sumTo f n + f (n + 1) + (sumTo g n + g (n + 1))
    rw [sumTo_add f g n]
    omega
theorem sumTo_mul (f : Nat → Nat) (c : Nat) : ∀ n, sumTo (fun v => f v * c) n = sumTo f n * c
  | 0 => rfl
  | n + 1 => by
    show sumTo (fun v => f v * c) n + f (n + 1) * c = (sumTo f n + f (n + 1)) * c
    rw [sumTo_mul f c n, Nat.add_mul]
theorem sumTo_congr {f g : Nat → Nat} : ∀ {n}, (∀ v, v ≤ n → f v = g v) → sumTo f n = sumTo g n
  | 0, h => h 0 (Nat.le_refl _)
  | n + 1, h => by
    show sumTo f n + f (n + 1) = sumTo g n + g (n + 1)
    rw [sumTo_congr fun v hv => h v (by omega), h (n + 1) (Nat.le_refl _)]
theorem sumTo_one {k c : Nat} : ∀ {n}, k ≤ n → sumTo (fun v => if k = v then c else 0) n = c
  | 0, h => by
    have e : k = 0 := by omega
    subst e
    rfl
  | n + 1, h => by
    show sumTo (fun v => if k = v then c else 0) n + (if k = n + 1 then c else 0) = c
    by_cases e : k = n + 1
    · rw [if_pos e]
      have z : sumTo (fun v => if k = v then c else 0) n = sumTo (fun _ => 0) n := sumTo_congr fun v hv => if_neg (by omega)
      have z2 : ∀ m, sumTo (fun _ => 0) m = 0 := fun m => by
        induction m with
        | zero => rfl
        | succ m ih => show sumTo (fun _ => 0) m + 0 = 0; rw [ih]
      rw [z, z2]
      omega
    · rw [if_neg e, sumTo_one (by omega)]
      omega
theorem sv_sum {bs : List Bool} (ok : SgOk bs) : ∀ n, upsN bs ≤ n → sumTo (fun v => (svS v bs).pr) n = waysN bs ∧ sumTo (fun v => (svS v bs).sv) n = waysN bs * runN bs := by
  refine snoc_ind (P := fun bs => SgOk bs → ∀ n, upsN bs ≤ n → sumTo (fun v => (svS v bs).pr) n = waysN bs ∧ sumTo (fun v => (svS v bs).sv) n = waysN bs * runN bs) (fun _ n _ => ?_) (fun l a ih h n hn => ?_) bs ok
  · refine ⟨?_, ?_⟩
    · show sumTo (fun v => if v = 0 then 1 else 0) n = 1
      have : sumTo (fun v => if v = 0 then 1 else 0) n = sumTo (fun v => if 0 = v then 1 else 0) n := sumTo_congr fun v _ => by
        by_cases e : v = 0
        · rw [if_pos e, if_pos e.symm]
        · rw [if_neg e, if_neg (fun z => e z.symm)]
      rw [this, sumTo_one (Nat.zero_le _)]
    · have z2 : ∀ m, sumTo (fun _ => 0) m = 0 := fun m => by
        induction m with
        | zero => rfl
        | succ m ih => show sumTo (fun _ => 0) m + 0 = 0; rw [ih]
      exact z2 n
  · cases a with
    | true =>
      rw [ups_up] at hn
      obtain ⟨i1, i2⟩ := ih h.pre n (by omega)
      refine ⟨?_, ?_⟩
      · rw [sumTo_congr fun v _ => (sv_up v l).1, sumTo_one hn, ways_up]
      · rw [sumTo_congr fun v _ => (sv_up v l).2, sumTo_add, i1, i2, ways_up, run_up, Nat.mul_add, Nat.mul_one]
    | false =>
      rw [ups_dn] at hn
      obtain ⟨i1, i2⟩ := ih h.pre n hn
      refine ⟨?_, ?_⟩
      · rw [sumTo_congr fun v _ => (sv_dn v l).1, i2, ways_dn]
      · rw [sumTo_congr fun v _ => (sv_dn v l).2, sumTo_mul, i2, ways_dn, run_dn]
/-! from the end: al and be at moment n - k -/
def abN (bs : List Bool) : Nat → Nat × Nat
  | 0 => (1, 0)
  | k + 1 => match bs[bs.length - (k + 1)]? with
    | some true => ((abN bs k).2, (abN bs k).2)
    | some false => (0, (abN bs k).1 + (abN bs k).2 * (runN (bs.take (bs.length - (k + 1))) - 1))
    | none => (0, 0)
def alN (bs : List Bool) (i : Nat) : Nat := (abN bs (bs.length - i)).1
def beN (bs : List Bool) (i : Nat) : Nat := (abN bs (bs.length - i)).2
theorem al_end (bs : List Bool) : alN bs bs.length = 1 := by unfold alN; rw [Nat.sub_self]; rfl
theorem be_end (bs : List Bool) : beN bs bs.length = 0 := by unfold beN; rw [Nat.sub_self]; rfl
theorem ab_up {bs : List Bool} {i : Nat} (h : bs[i]? = some true) : alN bs i = beN bs (i + 1) ∧ beN bs i = beN bs (i + 1) := by
  have hl := (List.getElem?_eq_some_iff.mp h).1
  have e : bs.length - i = (bs.length - (i + 1)) + 1 := by omega
  have e2 : bs.length - ((bs.length - (i + 1)) + 1) = i := by omega
  unfold alN beN
  rw [e]
  unfold abN
  rw [e2, h]
  cases q : bs.length - (i + 1) <;> exact ⟨rfl, rfl⟩
theorem ab_dn {bs : List Bool} {i : Nat} (h : bs[i]? = some false) : alN bs i = 0 ∧ beN bs i = alN bs (i + 1) + beN bs (i + 1) * (runN (bs.take i) - 1) := by
  have hl := (List.getElem?_eq_some_iff.mp h).1
  have e : bs.length - i = (bs.length - (i + 1)) + 1 := by omega
  have e2 : bs.length - ((bs.length - (i + 1)) + 1) = i := by omega
  unfold alN beN
  rw [e]
  unfold abN
  rw [e2, h]
  cases q : bs.length - (i + 1) <;> exact ⟨rfl, rfl⟩
/-- what a state at moment i leads to -/
theorem ab_lin {bs : List Bool} (v i : Nat) (hi : i ≤ bs.length) (hv : v ≤ upsN (bs.take i)) : ∀ k, i + k ≤ bs.length →
    (svS v (bs.take i)).pr * alN bs i + (svS v (bs.take i)).sv * beN bs i = (svS v (bs.take (i + k))).pr * alN bs (i + k) + (svS v (bs.take (i + k))).sv * beN bs (i + k)
  | 0, _ => rfl
  | k + 1, h => by
    rw [ab_lin v i hi hv k (by omega)]
    have hlt : i + k < bs.length := by omega
    have hg := List.getElem?_eq_getElem hlt
    have mono : upsN (bs.take i) ≤ upsN (bs.take (i + k)) := by
      have e : bs.take i = (bs.take (i + k)).take i := by rw [List.take_take, Nat.min_eq_left (by omega)]
      rw [e]
      exact List.Sublist.count_le _ (List.take_sublist _ _)
    have es := take_snoc hg
    show _ = (svS v (bs.take (i + k + 1))).pr * alN bs (i + k + 1) + (svS v (bs.take (i + k + 1))).sv * beN bs (i + k + 1)
    rw [es]
    generalize bs[i + k] = b at hg es
    cases b with
    | true =>
      obtain ⟨a1, a2⟩ := ab_up hg
      obtain ⟨j1, j2⟩ := sv_up v (bs.take (i + k))
      rw [a1, a2, j1, j2, if_neg (by omega), Nat.zero_mul, Nat.zero_add, Nat.add_mul, Nat.add_comm]
    | false =>
      obtain ⟨a1, a2⟩ := ab_dn hg
      obtain ⟨j1, j2⟩ := sv_dn v (bs.take (i + k))
      rw [a1, a2, j1, j2, Nat.mul_zero, Nat.zero_add, Nat.mul_add, Nat.mul_assoc, Nat.mul_comm (beN bs (i + k + 1))]
/-- the value of the start that ends at moment m (or the original one) -/
theorem surv_at {bs : List Bool} {m : Nat} (hm : m ≤ bs.length) (h : m = 0 ∨ (0 < m ∧ bs[m - 1]? = some true)) : survN bs (upsN (bs.take m)) = waysN (bs.take m) * alN bs m := by
  have z := ab_lin (upsN (bs.take m)) m hm (Nat.le_refl _) (bs.length - m) (by omega)
  have e : m + (bs.length - m) = bs.length := by omega
  rw [e, al_end, be_end, List.take_length, Nat.mul_one, Nat.mul_zero, Nat.add_zero] at z
  unfold survN
  rw [← z]
  have key : (svS (upsN (bs.take m)) (bs.take m)).pr = waysN (bs.take m) ∧ (svS (upsN (bs.take m)) (bs.take m)).sv = 0 := by
    rcases h with h | h
    · subst h
      exact ⟨rfl, rfl⟩
    · obtain ⟨hm1, h⟩ := h
      have es := take_snoc h
      have e1 : m - 1 + 1 = m := by omega
      rw [e1] at es
      rw [es, ups_up, ways_up]
      obtain ⟨j1, j2⟩ := sv_up (upsN (bs.take (m - 1)) + 1) (bs.take (m - 1))
      obtain ⟨k1, k2⟩ := sv_none (v := upsN (bs.take (m - 1)) + 1) (bs := bs.take (m - 1)) (by omega)
      rw [j1, j2, k1, k2, if_pos rfl]
      exact ⟨rfl, rfl⟩
  rw [key.1, key.2, Nat.zero_mul, Nat.add_zero]
/-! the products in between -/
def prodN (bs : List Bool) (i : Nat) : Nat → Nat
  | 0 => 1
  | k + 1 => prodN bs i k * (if bs[i + k]? = some false then runN (bs.take (i + k)) - 1 else 1)
theorem prod_left {bs : List Bool} (i : Nat) : ∀ k, prodN bs i (k + 1) = (if bs[i]? = some false then runN (bs.take i) - 1 else 1) * prodN bs (i + 1) k
  | 0 => by
    show 1 * (if bs[i + 0]? = some false then _ else 1) = _ * 1
    rw [Nat.one_mul, Nat.mul_one, Nat.add_zero]
  | k + 1 => by
    show prodN bs i (k + 1) * (if bs[i + (k + 1)]? = some false then runN (bs.take (i + (k + 1))) - 1 else 1) = _
    rw [prod_left i k, Nat.mul_assoc]
    congr 1
    show prodN bs (i + 1) k * _ = prodN bs (i + 1) k * (if bs[i + 1 + k]? = some false then runN (bs.take (i + 1 + k)) - 1 else 1)
    have e : i + (k + 1) = i + 1 + k := by omega
    rw [e]
/-- the weight of moment j ahead of moment m's turn -/
def wtN (bs : List Bool) (m j : Nat) : Nat := if j = m then alN bs m else if bs[j]? = some true then beN bs m * prodN bs (j + 1) (m - (j + 1)) else 0
theorem wt_top (bs : List Bool) (m : Nat) : wtN bs m m = alN bs m := if_pos rfl
theorem wt_end {bs : List Bool} {j : Nat} (h : j < bs.length) : wtN bs bs.length j = 0 := by
  unfold wtN
  rw [if_neg (by omega), be_end, Nat.zero_mul]
  split <;> rfl
theorem wt_up {bs : List Bool} {m j : Nat} (h : bs[m]? = some true) (hj : j ≤ m) : wtN bs m j = wtN bs (m + 1) j := by
  obtain ⟨a1, a2⟩ := ab_up h
  unfold wtN
  rw [if_neg (show ¬ j = m + 1 by omega)]
  by_cases e : j = m
  · subst e
    rw [if_pos rfl, if_pos h, a1]
    have e : j + 1 - (j + 1) = 0 := by omega
    rw [e]
    exact (Nat.mul_one _).symm
  · rw [if_neg e]
    by_cases c : bs[j]? = some true
    · rw [if_pos c, if_pos c, a2]
      have e2 : m + 1 - (j + 1) = (m - (j + 1)) + 1 := by omega
      rw [e2]
      have e3 : j + 1 + (m - (j + 1)) = m := by omega
      show _ = beN bs (m + 1) * (prodN bs (j + 1) (m - (j + 1)) * (if bs[j + 1 + (m - (j + 1))]? = some false then _ else 1))
      rw [e3, if_neg (by rw [h]; decide), Nat.mul_one]
    · rw [if_neg c, if_neg c]
theorem wt_dn {bs : List Bool} {m j : Nat} (h : bs[m]? = some false) (hj : j ≤ m) : wtN bs m j = wtN bs (m + 1) j + (if bs[j]? = some true then alN bs (m + 1) * prodN bs (j + 1) (m - (j + 1)) else 0) := by
  obtain ⟨a1, a2⟩ := ab_dn h
  unfold wtN
  rw [if_neg (show ¬ j = m + 1 by omega)]
  by_cases e : j = m
  · subst e
    rw [if_pos rfl, if_neg (by rw [h]; decide), if_neg (by rw [h]; decide), a1]
  · rw [if_neg e]
    by_cases c : bs[j]? = some true
    · rw [if_pos c, if_pos c, if_pos c, a2]
      have e2 : m + 1 - (j + 1) = (m - (j + 1)) + 1 := by omega
      rw [e2]
      have e3 : j + 1 + (m - (j + 1)) = m := by omega
      show _ = beN bs (m + 1) * (prodN bs (j + 1) (m - (j + 1)) * (if bs[j + 1 + (m - (j + 1))]? = some false then runN (bs.take (j + 1 + (m - (j + 1)))) - 1 else 1)) + _
      rw [e3, if_pos h, Nat.add_mul, Nat.mul_assoc, Nat.mul_comm (runN (bs.take m) - 1), Nat.add_comm]
    · rw [if_neg c, if_neg c, if_neg c]
/-! bounds -/
theorem ab_lt {bs : List Bool} (ok : SgOk bs) (u : upsN bs ≤ 100) : ∀ k, k ≤ bs.length → (abN bs k).1 ≤ 100 ^ k ∧ (abN bs k).2 ≤ 100 ^ k
  | 0, _ => ⟨Nat.le_refl _, Nat.zero_le _⟩
  | k + 1, h => by
    obtain ⟨i1, i2⟩ := ab_lt ok u k (by omega)
    have hlt : bs.length - (k + 1) < bs.length := by omega
    have hg := List.getElem?_eq_getElem hlt
    have r := run_eq (ok.take (bs.length - (k + 1)))
    have uu : upsN (bs.take (bs.length - (k + 1))) ≤ 100 := Nat.le_trans (List.Sublist.count_le _ (List.take_sublist _ bs)) u
    have pp : (100 : Nat) ^ k ≤ 100 ^ (k + 1) := Nat.pow_le_pow_right (by decide) (by omega)
    unfold abN
    rw [hg]
    cases q : bs[bs.length - (k + 1)] with
    | true => exact ⟨Nat.le_trans i2 pp, Nat.le_trans i2 pp⟩
    | false =>
      rw [q] at hg
      have pos := ok _ hg
      refine ⟨Nat.zero_le _, ?_⟩
      show (abN bs k).1 + (abN bs k).2 * (runN (bs.take (bs.length - (k + 1))) - 1) ≤ _
      have m1 : (abN bs k).2 * (runN (bs.take (bs.length - (k + 1))) - 1) ≤ 100 ^ k * 99 := Nat.mul_le_mul i2 (by omega)
      rw [Nat.pow_succ]
      omega
theorem prod_le {bs : List Bool} (ok : SgOk bs) (u : upsN bs ≤ 100) (i : Nat) : ∀ k, prodN bs i k ≤ 100 ^ k
  | 0 => Nat.le_refl _
  | k + 1 => by
    have ih := prod_le ok u i k
    have r := run_eq (ok.take (i + k))
    have uu : upsN (bs.take (i + k)) ≤ 100 := Nat.le_trans (List.Sublist.count_le _ (List.take_sublist _ bs)) u
    show prodN bs i k * _ ≤ _
    rw [Nat.pow_succ]
    refine Nat.mul_le_mul ih ?_
    split <;> omega
/-! ### signs as text -/
def sgC (b : Bool) : Nat := if b then 43 else 45
def sgS (bs : List Bool) : Str := ⟨(bs.map sgC).toArray⟩
theorem plus_eq : ("+" : Str) = ⟨#[43]⟩ := by decide +kernel
theorem minus_eq : ("-" : Str) = ⟨#[45]⟩ := by decide +kernel
theorem sgS_len (bs : List Bool) : (sgS bs).length = bs.length := by
  show ((bs.map sgC).toArray).size = _
  rw [List.size_toArray, List.length_map]
theorem sgS_up (bs : List Bool) : sgS bs ++ ("+" : Str) = sgS (bs ++ [true]) := by
  rw [plus_eq]
  show (⟨(bs.map sgC).toArray ++ [43].toArray⟩ : Str) = ⟨((bs ++ [true]).map sgC).toArray⟩
  rw [List.map_append, List.append_toArray]
  rfl
theorem sgS_dn (bs : List Bool) : sgS bs ++ ("-" : Str) = sgS (bs ++ [false]) := by
  rw [minus_eq]
  show (⟨(bs.map sgC).toArray ++ [45].toArray⟩ : Str) = ⟨((bs ++ [false]).map sgC).toArray⟩
  rw [List.map_append, List.append_toArray]
  rfl
theorem sgS_nil : ("" : Str) = sgS [] := by decide +kernel
theorem sgS_cat (as bs : List Bool) : sgS as ++ sgS bs = sgS (as ++ bs) := by
  show (⟨(as.map sgC).toArray ++ (bs.map sgC).toArray⟩ : Str) = ⟨((as ++ bs).map sgC).toArray⟩
  rw [List.map_append, List.append_toArray]
theorem sg_get {bs : List Bool} {i c : Nat} (h : (sgS bs).cps[i]? = some c) : ∃ b, bs[i]? = some b ∧ c = sgC b := by
  have h' : (bs.map sgC)[i]? = some c := by
    rw [← h]
    exact List.getElem?_toArray.symm
  rw [List.getElem?_map] at h'
  cases e : bs[i]? with
  | none => rw [e] at h'; cases h'
  | some b => rw [e] at h'; cases h'; exact ⟨b, rfl, rfl⟩
theorem sg_size (bs : List Bool) : (sgS bs).cps.size = bs.length := sgS_len bs
theorem eqP (b : Bool) : decide (V.str ⟨#[sgC b]⟩ = V.str ("+" : Str)) = b := by
  rw [plus_eq]
  cases b
  · exact decide_eq_false fun e => by have := V.str.inj e; revert this; decide
  · exact decide_eq_true rfl
theorem eqM (b : Bool) : decide (V.str ⟨#[sgC b]⟩ = V.str ("-" : Str)) = !b := by
  rw [minus_eq]
  cases b
  · exact decide_eq_true rfl
  · exact decide_eq_false fun e => by have := V.str.inj e; revert this; decide
theorem blP (b : Bool) : V.bl (decide (V.str ⟨#[sgC b]⟩ = V.str ("+" : Str))) = V.bl b := congrArg V.bl (eqP b)
theorem blM (b : Bool) : V.bl (decide (V.str ⟨#[sgC b]⟩ = V.str ("-" : Str))) = V.bl (!b) := congrArg V.bl (eqM b)
theorem cnt_sg (b : Bool) : ∀ bs : List Bool, PyProof.Rows.cnt (sgC b) (bs.map sgC) = ((bs.count b : Nat) : Int)
  | [] => rfl
  | x :: r => by
    rw [List.map_cons, PyProof.Rows.cnt_cons, cnt_sg b r, List.count_cons]
    cases x <;> cases b <;> (simp [sgC]; try omega)
theorem count_P (bs : List Bool) : Txt.count (sgS bs) ("+" : Str) = ((upsN bs : Nat) : Int) := by
  rw [plus_eq, PyProof.Rows.count_cnt]
  exact cnt_sg true bs
theorem count_M (bs : List Bool) : Txt.count (sgS bs) ("-" : Str) = ((dnsN bs : Nat) : Int) := by
  rw [minus_eq, PyProof.Rows.count_cnt]
  exact cnt_sg false bs
theorem cut_sg (bs : List Bool) (k : Nat) (h : k ≤ bs.length) : cutS (sgS bs) none (some (k : Int)) = sgS (bs.take k) := by
  unfold cutS
  rw [HT.sIx_none, HT.sIx_nat, sgS_len, List.drop_zero, Nat.sub_zero, Nat.min_eq_left h]
  show (⟨(((bs.map sgC).toArray.toList).take k).toArray⟩ : Str) = ⟨((bs.take k).map sgC).toArray⟩
  rw [List.map_take]
section
variable {P : Program} {w : World} {K : PySem.W.Frag} {mg : Str → Option Value} {base : Heap}
/-! ### draws -/
/-- the list of three ints that draws are made of: at most n draws were made in the second way -/
def Src (H : Hp) (a : Addr) (n : Nat) : Prop := ∃ x y z : Int, H a = some (.lst [.int x, .int y, .int z]) ∧ 0 ≤ y ∧ y < 2 ^ 300 ∧ 0 ≤ z ∧ z ≤ (n : Int)
theorem Src.mono {H : Hp} {a : Addr} {n m : Nat} (h : Src H a n) (l : n ≤ m) : Src H a m := by
  obtain ⟨x, y, z, h1, h2, h3, h4, h5⟩ := h
  exact ⟨x, y, z, h1, h2, h3, h4, by omega⟩
theorem Src.bt {H H' : Hp} {a b : Addr} {n : Nat} (h : Src H a n) (x : Bt b H H') (e : a ≠ b) : Src H' a n := by
  obtain ⟨p, y, z, h1, h2⟩ := h
  exact ⟨p, y, z, x _ _ e h1, h2⟩
theorem Src.same {H H' : Hp} {a : Addr} {n : Nat} (h : Src H a n) (x : Same H H') : Src H' a n := by
  obtain ⟨p, y, z, h1, h2⟩ := h
  exact ⟨p, y, z, x _ _ h1, h2⟩
theorem Src.new {H : Hp} {a p : Addr} {n : Nat} {o : HO} (h : Src H a n) (e : H p = none) : Src (upd H p o) a n := h.same (same_new e)
theorem Src.ne {H : Hp} {a p : Addr} {n : Nat} (h : Src H a n) (e : H p = none) : p ≠ a := fun z => by
  obtain ⟨_, _, _, h1, _⟩ := h
  rw [← z, e] at h1
  cases h1
theorem Src.upd {H : Hp} {a p : Addr} {n : Nat} {o : HO} (h : Src H a n) (e : p ≠ a) : Src (upd H p o) a n := by
  obtain ⟨x, y, z, h1, h2⟩ := h
  exact ⟨x, y, z, by rw [upd_ne e.symm]; exact h1, h2⟩
def spDraw : Sp := fun vs H Q _ => ∃ (a : Addr) (m : Int) (n : Nat), vs = [.ref a, .int m] ∧ Src H a n ∧ n ≤ 1000000 ∧ 1 ≤ m ∧ m ≤ 1000000 ∧ ∀ r H', 0 ≤ r → r < m → Src H' a (n + 1) → Bt a H H' → Q (.int r) H'
theorem lt_pow {i : Int} {n : Nat} (h0 : 0 ≤ i) (h : i < 2 ^ n) : i.natAbs < 2 ^ n := by
  have e : ((i.natAbs : Nat) : Int) = i := Int.natAbs_of_nonneg h0
  have h' : ((i.natAbs : Nat) : Int) < ((2 ^ n : Nat) : Int) := by
    rw [e]
    simpa using h
  exact Int.ofNat_lt.mp h'
theorem zz_le {z : Int} (h0 : 0 ≤ z) (h : z ≤ 1000001) : z * z ≤ 1000002000001 := by
  have := Int.mul_le_mul h h h0 (by decide)
  omega
theorem ok_law_draw {f : Addr} {fd : FuncData} (F : Fun K "_law_draw" "_law_draw" s_law_draw f fd) : FnG P w K mg base CX0 1 f fd ["pool", "many"] spDraw := by
  refine okG F sc_law_draw (fun vs H Q E h => ?_) (fun cdv A outer s H vs Q E hG hr h => ?_)
  · obtain ⟨a, m, n, rfl, _⟩ := h
    rfl
  · obtain ⟨a, m, n, rfl, ⟨x, y, z, ha, y0, y1, z0, z1⟩, hn, m0, m1, q⟩ := h
    refine ⟨_, (pss_cons (ps_if (pt_cmpR op_gt (pe_ix ix_list (pv 0) pe_int (fun _ _ => rfl)) pe_int (nomark _)) (pss_cons (ps_set (i := 2) sc_law_draw.nd rfl (Or.inl rfl) (pe_op op_mod (pe_ix ix_list (pv 0) pe_int (fun _ _ => rfl)) (pv 1)))
          (pss_cons (ps_asg (pe_op op_fdivW (pe_ix ix_list (pv 0) pe_int (fun _ _ => rfl)) (pv 1)) (pg_sub (pv 0) pe_int set_list))
          (pss_one (ps_ret (pv 2))))) pss_nil)
        (pss_cons (ps_asg (pe_op op_add (pe_ix ix_list (pv 0) pe_int (fun _ _ => rfl)) pe_int) (pg_sub (pv 0) pe_int set_list))
        (pss_cons (ps_set (i := 3) sc_law_draw.nd rfl (Or.inl rfl) (pe_op op_mod (pe_op op_powW (pe_op op_add (pe_ix ix_list (pv 0) pe_int (fun _ _ => rfl)) (pe_op op_mulW pe_int (pe_ix ix_list (pv 0) pe_int (fun _ _ => rfl)))) pe_int) (pe_op op_add (pe_op op_powW pe_int pe_int) pe_int)))
        (pss_cons (ps_set (i := 3) sc_law_draw.nd rfl (Or.inl rfl) (pe_op op_mod (pe_op op_powW (pe_op op_add (pv 3) (pe_op op_mulW pe_int (pe_ix ix_list (pv 0) pe_int (fun _ _ => rfl)))) pe_int) (pe_op op_add (pe_op op_powW pe_int pe_int) pe_int)))
        (pss_one (ps_ret (pe_op op_mod (pe_op op_fdivW (pv 3) pe_int) (pv 1)))))))), ?_⟩
    have hS : SqL K H a [.int x, .int y, .int z] := .of ha
    by_cases hx : 0 < x
    · refine ⟨_, rfl, a, _, 0, _, rfl, rfl, hS, at0, _, _, rfl, rfl, true, dT hx, ?_⟩
      refine ⟨_, rfl, a, _, 0, _, rfl, rfl, hS, at0, _, rfl, _, _, rfl, rfl, (by show (0 : Int) < m; omega), ?_⟩
      refine ⟨_, rfl, a, _, 0, _, rfl, rfl, hS, at0, _, rfl, _, _, rfl, rfl, wide_div (b := 30) (by omega) (lt_pow (by omega) (by omega)) (by decide) (by decide), ?_⟩
      refine ⟨_, rfl, a, _, 0, 0, rfl, rfl, ha, rfl, _, rfl, ?_⟩
      exact q _ _ (Int.emod_nonneg _ (by omega)) (Int.emod_lt_of_pos _ (by omega)) ⟨_, _, _, upd_same, y0, y1, z0, by omega⟩ (.at_ _ _ _)
    · refine ⟨_, rfl, a, _, 0, _, rfl, rfl, hS, at0, _, _, rfl, rfl, false, dF hx, ?_⟩
      refine ⟨_, rfl, a, _, 2, _, rfl, rfl, hS, at2, _, _, rfl, rfl, _, rfl, a, _, 2, 2, rfl, rfl, ha, rfl, ?_⟩
      have hS2 : SqL K (upd H a (.lst [.int x, .int y, .int (z + 1)])) a [.int x, .int y, .int (z + 1)] := .of upd_same
      have c1 : CPowW (y + 69061 * (z + 1)) 3 := powW_ok (n := 400) (lt_pow (by omega) (by omega)) (by decide) (by decide)
      have p1 : CPowW 10 41 := powW_ok (n := 4) (by decide) (by decide) (by decide)
      have p2 : CPowW 10 38 := powW_ok (n := 4) (by decide) (by decide) (by decide)
      have k1 : (10 : Int) ^ (41 : Int).toNat + 37 = 100000000000000000000000000000000000000037 := by decide +kernel
      have k2 : (10 : Int) ^ (38 : Int).toNat + 133 = 100000000000000000000000000000000000133 := by decide +kernel
      have n1 : (0 : Int) < 10 ^ (41 : Int).toNat + 37 := by rw [k1]; decide
      have n2 : (0 : Int) < 10 ^ (38 : Int).toNat + 133 := by rw [k2]; decide
      refine ⟨_, rfl, a, _, 1, _, rfl, rfl, hS2, at1, _, rfl, a, _, 2, _, rfl, rfl, hS2, at2, _, _, rfl, rfl, wide_mul (a := 30) (b := 30) (by decide) (lt_pow (by omega) (by omega)) (by decide) (by decide) (by decide), _, _, rfl, rfl, _, _, rfl, rfl, c1, _, _, rfl, rfl, p1, _, _, rfl, rfl, _, _, rfl, rfl, n1, ?_⟩
      generalize (y + 69061 * (z + 1)) ^ (3 : Int).toNat = big
      have b0 : 0 ≤ big % (10 ^ (41 : Int).toNat + 37) := Int.emod_nonneg _ (Int.ne_of_gt n1)
      have b1 : big % (10 ^ (41 : Int).toNat + 37) < 100000000000000000000000000000000000000037 := by
        have := Int.emod_lt_of_pos big n1
        rw [k1] at this
        rw [k1]
        exact this
      have c2 : ∀ mx : Int, 0 ≤ mx → mx < 100000000000000000000000000000000000000037 → CPowW (mx + 88469 * (z + 1)) 3 := fun mx b0 b1 => powW_ok (n := 400) (lt_pow (by omega) (by omega)) (by decide) (by decide)
      refine ⟨_, rfl, _, rfl, a, _, 2, _, rfl, rfl, hS2, at2, _, _, rfl, rfl, wide_mul (a := 30) (b := 30) (by decide) (lt_pow (by omega) (by omega)) (by decide) (by decide) (by decide), _, _, rfl, rfl, _, _, rfl, rfl, c2 _ b0 b1, _, _, rfl, rfl, p2, _, _, rfl, rfl, _, _, rfl, rfl, n2, ?_⟩
      refine ⟨_, rfl, _, _, rfl, rfl, wide_div (b := 30) (by decide) (by decide) (by decide) (by decide), _, rfl, _, _, rfl, rfl, (by show (0 : Int) < m; omega), ?_⟩
      exact q _ _ (Int.emod_nonneg _ (by omega)) (Int.emod_lt_of_pos _ (by omega)) ⟨_, _, _, upd_same, y0, y1, by omega, by omega⟩ (.at_ _ _ _)
/-! ### the pool of draws -/
def spPool (K : PySem.W.Frag) : Sp := fun vs H Q _ => ∃ (a : Addr) (ns : List Int) (k : Nat), vs = [.ref a, .int (k : Int)] ∧ SqL K H a (ns.map V.int) ∧ k ≤ 1000 ∧ ∀ H' p, Same H H' → H p = none → Src H' p 0 → Q (.ref p) H'
theorem ok_law_pool {f : Addr} {fd : FuncData} (F : Fun K "_law_pool" "_law_pool" s_law_pool f fd) (B : NoB mg) : FnG P w K mg base CX0 1 f fd ["script", "k"] (spPool K) := by
  refine okG F sc_law_pool (fun vs H Q E h => ?_) (fun cdv A outer s H vs Q E hG hr h => ?_)
  · obtain ⟨a, ns, k, rfl, _⟩ := h
    rfl
  · obtain ⟨a, ns, k, rfl, hS, hk, q⟩ := h
    refine ⟨_, (pss_cons (ps_set (i := 2) sc_law_pool.nd rfl (Or.inl rfl) pe_int)
        (Evl.pss_cut (ps_if (pt_cmpR op_lt (pv 1) (pe_callB call_len_seq (by rfl) B.len PySem.boot_len (pa_cons (pv 0) pa_nil)) (nomark _)) (pss_one (ps_set (i := 2) sc_law_pool.nd rfl (Or.inl rfl) (pe_ix ix_list (pv 0) (pv 1) (fun _ _ => rfl)))) pss_nil)
        (pss_one (ps_ret (pe_lst (pa_cons (pe_callB (call_max2 rfl) (by rfl) B.max (by decide +kernel) (pa_cons pe_int (pa_cons (pe_op op_sub (pv 2) (pe_op op_powW pe_int pe_int)) pa_nil))) (pa_cons (pe_op op_add (pe_op op_mulW (pe_op op_mod (pv 2) (pe_op op_add (pe_op op_powW pe_int pe_int) pe_int)) pe_int) (pv 1)) (pa_cons pe_int pa_nil)))))))), ?_⟩
    refine ⟨fun σ' H' => (∃ c : Int, σ' = [some (.ref a), some (.int (k : Int)), some (.int c)]) ∧ H' = H, ?_, fun σ' H' hm => ?_⟩
    · by_cases hlt : k < ns.length
      · refine ⟨_, rfl, _, rfl, a, _, rfl, .inl hS, _, _, rfl, rfl, true, dT (by rw [List.length_map]; omega), ?_⟩
        exact ⟨_, rfl, _, rfl, a, _, _, _, rfl, rfl, hS, atI_nat (get_at hlt), ⟨_, rfl⟩, rfl⟩
      · refine ⟨_, rfl, _, rfl, a, _, rfl, .inl hS, _, _, rfl, rfl, false, dF (by rw [List.length_map]; omega), ⟨_, rfl⟩, rfl⟩
    · obtain ⟨⟨c, rfl⟩, rfl⟩ := hm
      have p1 : CPowW 10 18 := powW_ok (n := 4) (by decide) (by decide) (by decide)
      have p2 : CPowW 10 40 := powW_ok (n := 4) (by decide) (by decide) (by decide)
      have e : (10 : Int) ^ (40 : Int).toNat + 121 = 10000000000000000000000000000000000000121 := by decide +kernel
      have m0 : (0 : Int) < 10 ^ (40 : Int).toNat + 121 := by rw [e]; decide
      have r0 := Int.emod_nonneg c (Int.ne_of_gt m0)
      have r1 := Int.emod_lt_of_pos c m0
      have r2 : c % (10 ^ (40 : Int).toNat + 121) < 10000000000000000000000000000000000000121 := by
        rw [e] at r1
        rw [e]
        exact r1
      refine ⟨_, rfl, _, _, rfl, rfl, p1, _, _, rfl, rfl, _, _, rfl, _, rfl, _, _, rfl, rfl, p2, _, _, rfl, rfl, _, _, rfl, rfl, m0, _, _, rfl, rfl, wide_mul (a := 200) (b := 30) (lt_pow r0 (by omega)) (by decide) (by decide) (by decide) (by decide),
        _, rfl, _, _, rfl, rfl, by show 3 ≤ sizeLine; decide, fun p np => q _ p (same_new np) np ?_⟩
      exact ⟨_, _, _, upd_same, by omega, by omega, Int.le_refl _, Int.le_refl _⟩
end
theorem sg_len {bs : List Bool} (ok : SgOk bs) (u : upsN bs ≤ 100) : bs.length ≤ 200 := by
  have a := run_eq ok
  have b := ups_dns bs
  omega
theorem wide_ways {bs : List Bool} (ok : SgOk bs) (u : upsN bs ≤ 100) : CMulW ((waysN bs : Nat) : Int) ((runN bs : Nat) : Int) := by
  have l := sg_len ok u
  have a := run_eq ok
  refine wide_mul (a := 1401) (b := 30) (lt_pow (by omega) ?_) (lt_pow (by omega) (by omega)) (by decide) (by decide) (by decide)
  have z := Nat.lt_of_lt_of_le (ways_lt u ok) (Nat.pow_le_pow_right (by decide) (show 7 * bs.length + 1 ≤ 1401 by omega))
  have := Int.ofNat_lt.mpr z
  rwa [Int.natCast_pow] at this
theorem ups_take {bs : List Bool} (u : upsN bs ≤ 100) (i : Nat) : upsN (bs.take i) ≤ 100 := Nat.le_trans (List.Sublist.count_le _ (List.take_sublist i bs)) u
section
variable {P : Program} {w : World} {K : PySem.W.Frag} {mg : Str → Option Value} {base : Heap}
/-! ### _law_signs -/
def spSigns (K : PySem.W.Frag) : Sp := fun vs H Q _ => ∃ (src sc : Addr) (ns : List Int) (n : Nat) (H0 : Hp), vs = [.ref src, .ref sc] ∧ Src H src n ∧ n ≤ 800000 ∧ SqL K H0 sc (ns.map V.int) ∧ H0 src = none ∧ Bt src H0 H ∧
  ∀ (H' : Hp) (bs : List Bool), SgOk bs → upsN bs ≤ 100 → 0 < bs.length → bs.length ≤ 200 → Bt src H H' → Src H' src (n + 500) → Q (.str (sgS bs)) H'
set_option maxHeartbeats 1000000 in
theorem ok_law_signs {f : Addr} {fd : FuncData} (F : Fun K "_law_signs" "_law_signs" s_law_signs f fd) (B : NoB mg) (T_law_draw : Gc P w K mg base 1 "_law_draw" spDraw) : FnG P w K mg base CX0 2 f fd ["pool", "script"] (spSigns K) := by
  refine okG F sc_law_signs (fun vs H Q E h => ?_) (fun cdv A outer s H vs Q E hG hr h => ?_)
  · obtain ⟨src, sc, ns, n, H0, rfl, _⟩ := h
    rfl
  · obtain ⟨src, sc, ns, n, H0, rfl, hs, hn, hS, h0, b0, q⟩ := h
    have hu64 := hr.units
    refine ⟨_, (pss_cons (ps_par (i := 2) (j := 3) (by rfl) sc_law_signs.nd rfl rfl (by decide) rfl rfl (pa_cons (pe_ix ix_list (pe_lst (pa_cons (pe_op op_add pe_int (pe_g T_law_draw hG hr (by decide) (by rfl) (pa_cons (pv 0) (pa_cons pe_int pa_nil)))) (pa_cons (pe_op op_add pe_int (pe_g T_law_draw hG hr (by decide) (by rfl) (pa_cons (pv 0) (pa_cons pe_int pa_nil)))) (pa_cons pe_int pa_nil)))) (pe_g T_law_draw hG hr (by decide) (by rfl) (pa_cons (pv 0) (pa_cons pe_int pa_nil))) (fun _ _ => rfl)) (pa_cons (pe_g T_law_draw hG hr (by decide) (by rfl) (pa_cons (pv 0) (pa_cons pe_int pa_nil))) pa_nil)) (by rfl))
        (pss_cons (ps_set (i := 4) sc_law_signs.nd rfl (Or.inl rfl) (pe_op op_add pe_int (pe_g T_law_draw hG hr (by decide) (by rfl) (pa_cons (pv 0) (pa_cons pe_int pa_nil)))))
        (pss_cons (ps_asg (pe_mid (pe_ifExp (pt_cmpR (op_eqD hu64) (pv 1) (pe_lst pa_nil) (nomark _)) (pe_tup (pa_cons pe_int (pa_cons pe_int (pa_cons pe_int pa_nil)))) (pe_tup (pa_cons (pv 2) (pa_cons (pv 3) (pa_cons (pv 4) pa_nil)))))) (pg_tup rfl (pgs_cons (pg_name (i := 2) sc_law_signs.nd rfl (Or.inl rfl)) (pgs_cons (pg_name (i := 3) sc_law_signs.nd rfl (Or.inl rfl)) (pgs_cons (pg_name (i := 4) sc_law_signs.nd rfl (Or.inl rfl)) pgs_nil)))))
        (pss_cons (ps_asg (pe_tup (pa_cons pe_str (pa_cons pe_int (pa_cons pe_int pa_nil)))) (pg_tup rfl (pgs_cons (pg_name (i := 5) sc_law_signs.nd rfl (Or.inl rfl)) (pgs_cons (pg_name (i := 6) sc_law_signs.nd rfl (Or.inl rfl)) (pgs_cons (pg_name (i := 7) sc_law_signs.nd rfl (Or.inl rfl)) pgs_nil)))))
        (pss_cons (ps_for PassesOwn.never rfl (pi_range1 rfl B.range (pa_cons (pv 2) pa_nil)) (pg_name (i := 8) sc_law_signs.nd rfl (Or.inl rfl))
          (pss_cons (ps_set (i := 9) sc_law_signs.nd rfl (Or.inl rfl) (pe_g T_law_draw hG hr (by decide) (by rfl) (pa_cons (pv 0) (pa_cons pe_int pa_nil))))
          (pss_cons (ps_set (i := 10) sc_law_signs.nd rfl (Or.inl rfl) (pe_ix ix_list (pe_lst (pa_cons (pe_cmpR op_gt (pv 9) pe_int (nomark _)) (pa_cons (pe_cmpR op_eq (pv 6) pe_int (nomark _)) (pa_cons (pe_cmpR op_lt (pv 7) (pv 4) (nomark _)) (pa_cons (pe_cmpR op_lt (pv 6) (pe_op op_add (pe_op op_mod (pv 4) pe_int) (pv 9)) (nomark _)) pa_nil))))) (pv 3) (fun _ _ => rfl)))
          (pss_one (ps_if (pt_mid (PW.pt (pw_or (pt_cmpR op_eq (pv 6) pe_int (nomark _)) (pw_or1 (PW.pt (pw_and (pt_cmpR op_lt (pv 7) pe_int (nomark _)) (pw_and1 (pt_val (pv 10))))))))) (pss_cons (ps_if (pt_cmpR op_eq (pv 7) pe_int (nomark _)) (pss_one (ps_ret (pv 5))) pss_nil)
            (pss_one (ps_par3 (i := 5) (j := 6) (l := 7) (by rfl) sc_law_signs.nd rfl rfl rfl (by decide) (by decide) (by decide) rfl rfl rfl (pa_cons (pe_op op_add_str (pv 5) pe_str) (pa_cons (pe_op op_add (pv 6) pe_int) (pa_cons (pe_op op_add (pv 7) pe_int) pa_nil))) (by rfl)))) (pss_one (ps_par (i := 5) (j := 6) (by rfl) sc_law_signs.nd rfl rfl (by decide) rfl rfl (pa_cons (pe_op op_add_str (pv 5) pe_str) (pa_cons (pe_op op_sub (pv 6) pe_int) pa_nil)) (by rfl))))))))
        (pss_one (ps_ret (pv 5)))))))), ?_⟩
    refine ⟨_, rfl, src, 8, n, rfl, hs, by omega, by decide, by decide, fun r1 H1 r10 r11 hs1 b1 => ⟨_, _, rfl, rfl, ?_⟩⟩
    refine ⟨_, rfl, src, 60, n + 1, rfl, hs1, by omega, by decide, by decide, fun r2 H2 r20 r21 hs2 b2 => ⟨_, _, rfl, rfl, ?_⟩⟩
    refine ⟨by show 3 ≤ sizeLine; decide, fun L nL => ?_⟩
    refine ⟨_, rfl, src, 3, n + 2, rfl, hs2.new nL, by omega, by decide, by decide, fun r3 H3 r30 r31 hs3 b3 => ?_⟩
    have nLs := hs2.ne nL
    have hL3 : H3 L = some (.lst [.int (1 + r1), .int (1 + r2), .int 200]) := b3 _ _ nLs upd_same
    obtain ⟨many, em, k1, k2⟩ : ∃ m : Int, atI [V.int (1 + r1), .int (1 + r2), .int 200] r3 = some (.int m) ∧ 1 ≤ m ∧ m ≤ 200 := by
      have c : r3 = 0 ∨ r3 = 1 ∨ r3 = 2 := by omega
      rcases c with rfl | rfl | rfl
      · exact ⟨_, at0, by omega, by omega⟩
      · exact ⟨_, at1, by omega, by omega⟩
      · exact ⟨_, at2, by omega, by omega⟩
    have b03 : Bt src H H3 := ((b1.trans b2).add nL).trans b3
    refine ⟨L, _, r3, _, rfl, rfl, .of hL3, em, ?_⟩
    refine ⟨_, rfl, src, 4, n + 3, rfl, hs3, by omega, by decide, by decide, fun st H4 st0 st1 hs4 b4 => ⟨_, _, rfl, ?_⟩⟩
    refine ⟨_, rfl, src, 100, n + 4, rfl, hs4, by omega, by decide, by decide, fun wd H5 wd0 wd1 hs5 b5 => ⟨_, _, rfl, rfl, ?_⟩⟩
    have b05 := (b03.trans b4).trans b5
    refine ⟨fun v H6 => ∃ (T : Addr) (m s d : Int), v = .ref T ∧ H6 T = some (.tup [.int m, .int s, .int d]) ∧ 1 ≤ m ∧ m ≤ 200 ∧ 0 ≤ s ∧ s < 4 ∧ 1 ≤ d ∧ d ≤ 100 ∧ Src H6 src (n + 5) ∧ Bt src H H6, ?_, fun v H6 hm => ?_⟩
    · refine ⟨_, rfl, Nat.zero_le _, fun e ne => ?_⟩
      have hsc : SqL K H5 sc (ns.map V.int) := seqN hS h0 (Same.refl _) (b0.trans b05)
      have hsc2 := (same_new (o := .lst []) ne).seq hsc
      by_cases hb : ns = []
      · refine ⟨dI ns, dI [], dp_ints hsc2, dp_ints (ns := []) (.of upd_same), shaped_ints _, shaped_ints _, true, eqvT hb, ?_⟩
        exact ⟨by show 3 ≤ sizeLine; decide, fun T nT => ⟨T, _, _, _, rfl, upd_same, by decide, by decide, by decide, by decide, by decide, by decide, (hs5.new ne).new nT, (b05.add ne).add nT⟩⟩
      · refine ⟨dI ns, dI [], dp_ints hsc2, dp_ints (ns := []) (.of upd_same), shaped_ints _, shaped_ints _, false, eqvF hb, ?_⟩
        exact ⟨_, rfl, _, rfl, _, rfl, by show 3 ≤ sizeLine; decide, fun T nT => ⟨T, _, _, _, rfl, upd_same, k1, k2, st0, st1, by omega, by omega, (hs5.new ne).new nT, (b05.add ne).add nT⟩⟩
    · obtain ⟨T, m, sy, d, rfl, hT, m0, m1, s0, s1, d0, d1, hs6, b6⟩ := hm
      refine ⟨T, _, rfl, .of hT, rfl, _, _, rfl, _, _, rfl, _, _, rfl, rfl, ?_⟩
      refine ⟨by show 3 ≤ sizeLine; decide, fun T2 nT2 => ⟨T2, _, rfl, .of upd_same, rfl, _, _, rfl, _, _, rfl, _, _, rfl, rfl, ?_⟩⟩
      refine ⟨_, rfl, m, rfl, by omega, by omega, for_range (lo := 0) (n := m.toNat) (fun i σ H' => ∃ (y1 y2 y3 : Option V) (z : Str) (rn up : Int) (bs : List Bool), σ = [some (.ref src), some (.ref sc), some (.int m), some (.int sy), some (.int d), some (.str z), some (.int rn), some (.int up), y1, y2, y3] ∧
        z = sgS bs ∧ rn = ((runN bs : Nat) : Int) ∧ up = ((upsN bs : Nat) : Int) ∧ SgOk bs ∧ upsN bs ≤ 100 ∧ bs.length = i ∧ Src H' src (n + 5 + i) ∧ Bt src H H')
        ⟨_, _, _, _, _, _, [], rfl, sgS_nil, rfl, rfl, sgOk_nil, by decide, rfl, hs6.new nT2, b6.add nT2⟩ (fun i σ H' hi h => ?_) (fun σ H' h => ?_)⟩
      · obtain ⟨y1, y2, y3, z, rn, up, bs, rfl, rfl, rfl, rfl, ok, u1, le, hsi, bi⟩ := h
        refine ⟨_, rfl, src, 4, n + 5 + i, rfl, hsi, by omega, by decide, by decide, fun hit G1 h0' h1' hg1 c1 => ?_⟩
        refine ⟨_, rfl, _, _, rfl, rfl, _, rfl, rfl, _, rfl, _, rfl, _, _, rfl, rfl, _, rfl, _, rfl, _, _, rfl, rfl, (by decide : (0 : Int) < 5), _, rfl, _, _, rfl, rfl, _, _, rfl, rfl, by show 4 ≤ sizeLine; decide, fun L2 nL2 => ?_⟩
        obtain ⟨bb, ebb⟩ : ∃ bb : Bool, atI [V.bl (decide (1 < hit)), V.bl (decide (V.int ((runN bs : Nat) : Int) = V.int 0)), V.bl (decide (((upsN bs : Nat) : Int) < d)), V.bl (decide (((runN bs : Nat) : Int) < d % 5 + hit))] sy = some (.bl bb) := by
          have c : sy = 0 ∨ sy = 1 ∨ sy = 2 ∨ sy = 3 := by omega
          rcases c with rfl | rfl | rfl | rfl
          · exact ⟨_, at0⟩
          · exact ⟨_, at1⟩
          · exact ⟨_, at2⟩
          · exact ⟨_, atI_nat (j := 3) rfl⟩
        refine ⟨_, rfl, L2, _, sy, .bl bb, rfl, rfl, .of upd_same, ebb, ?_⟩
        have hg2 := hg1.new (o := .lst [V.bl (decide (1 < hit)), V.bl (decide (V.int ((runN bs : Nat) : Int) = V.int 0)), V.bl (decide (((upsN bs : Nat) : Int) < d)), V.bl (decide (((runN bs : Nat) : Int) < d % 5 + hit))]) nL2
        have c2 := (bi.trans c1).add (o := .lst [V.bl (decide (1 < hit)), V.bl (decide (V.int ((runN bs : Nat) : Int) = V.int 0)), V.bl (decide (((upsN bs : Nat) : Int) < d)), V.bl (decide (((runN bs : Nat) : Int) < d % 5 + hit))]) nL2
        generalize upd G1 L2 (.lst [V.bl (decide (1 < hit)), V.bl (decide (V.int ((runN bs : Nat) : Int) = V.int 0)), V.bl (decide (((upsN bs : Nat) : Int) < d)), V.bl (decide (((runN bs : Nat) : Int) < d % 5 + hit))]) = G2 at hg2 c2 ⊢
        refine ⟨fun b H3 => H3 = G2 ∧ (b = false → 0 < runN bs), ?_, fun b H3 hM => ?_⟩
        · by_cases hr0 : runN bs = 0
          · exact ⟨_, rfl, rfl, true, dT (by rw [hr0]; rfl), rfl, fun z => nomatch z⟩
          · refine ⟨_, rfl, rfl, false, dF (vne (by omega)), ?_⟩
            by_cases hu1 : ((upsN bs : Nat) : Int) < 100
            · exact ⟨_, rfl, _, _, rfl, rfl, true, dT hu1, _, rfl, bb, rfl, rfl, fun _ => Nat.pos_of_ne_zero hr0⟩
            · exact ⟨_, rfl, _, _, rfl, rfl, false, dF hu1, rfl, fun _ => Nat.pos_of_ne_zero hr0⟩
        · obtain ⟨rfl, hb1⟩ := hM
          cases b with
          | true =>
            by_cases hu1 : upsN bs = 100
            · refine ⟨_, rfl, rfl, true, dT (by rw [hu1]; rfl), ?_⟩
              have pos : 0 < bs.length := by
                have := ups_dns bs
                omega
              exact ⟨_, rfl, q _ bs ok u1 pos (by omega) c2 (hg2.mono (by omega))⟩
            · refine ⟨_, rfl, rfl, false, dF (vne (by omega)), ?_⟩
              have hz : (sgS bs).length + ("+" : Str).length ≤ sizeLine := by
                rw [sgS_len]
                exact zs (by show bs.length + 1 ≤ _; omega)
              refine ⟨_, rfl, _, _, rfl, rfl, hz, _, rfl, _, _, rfl, rfl, _, rfl, _, _, rfl, rfl, _, _, _, rfl, ?_⟩
              refine ⟨_, _, _, _, _, _, bs ++ [true], rfl, sgS_up bs, ?_, ?_, ok.snoc (fun z => nomatch z), by rw [ups_up]; omega, by rw [List.length_append, le]; rfl, hg2.mono (by omega), c2⟩
              · rw [run_up]; omega
              · rw [ups_up]; omega
          | false =>
            have hrp := hb1 rfl
            have hz : (sgS bs).length + ("-" : Str).length ≤ sizeLine := by
              rw [sgS_len]
              exact zs (by show bs.length + 1 ≤ _; omega)
            refine ⟨_, rfl, _, _, rfl, rfl, hz, _, rfl, _, _, rfl, rfl, _, _, rfl, ?_⟩
            refine ⟨_, _, _, _, _, _, bs ++ [false], rfl, sgS_dn bs, ?_, ?_, ok.snoc (fun _ => hrp), by rw [ups_dn]; exact u1, by rw [List.length_append, le]; rfl, hg2.mono (by omega), c2⟩
            · rw [run_dn]; omega
            · rw [ups_dn]
      · obtain ⟨y1, y2, y3, z, rn, up, bs, rfl, rfl, rfl, rfl, ok, u1, le, hsi, bi⟩ := h
        exact ⟨_, rfl, q _ bs ok u1 (by omega) (by omega) bi (hsi.mono (by omega))⟩
end
section
variable {P : Program} {w : World} {K : PySem.W.Frag} {mg : Str → Option Value} {base : Heap}
/-! ### is_shape -/
def spIsShape : Sp := fun vs H Q _ => ∃ bs : List Bool, vs = [.str (sgS bs)] ∧ SgOk bs ∧ upsN bs ≤ 100 ∧ Q (.bl true) H
theorem ok_is_shape {f : Addr} {fd : FuncData} (F : Fun K "is_shape" "is_shape" s_is_shape f fd) (B : NoB mg) {t1 : Tok} (T_g_LAST_PATCH : mg "LAST_PATCH" = some (.int 100 t1)) : FnG P w K mg base CX0 1 f fd ["value"] spIsShape := by
  refine okG F sc_is_shape (fun vs H Q E h => ?_) (fun cdv A outer s H vs Q E hG hr h => ?_)
  · obtain ⟨bs, rfl, _⟩ := h
    rfl
  · obtain ⟨bs, rfl, ok, u1, q⟩ := h
    refine ⟨_, (pss_cons (ps_if (pt_not (pt_val (pe_callB call_isi (by rfl) B.isinstance (by decide +kernel) (pa_cons (pv 0) (pa_cons (pe_bltn (v := .ty "str") (by rfl) B.str boot_str rfl) pa_nil))))) (pss_one (ps_ret pe_bl)) pss_nil)
        (pss_cons (ps_set (i := 1) sc_is_shape.nd rfl (Or.inl rfl) pe_int)
        (pss_cons (ps_for PassesOwn.never rfl (pi_str (pv 0)) (pg_name (i := 2) sc_is_shape.nd rfl (Or.inl rfl))
          (pss_one (ps_if (pt_cmpR op_eq (pv 2) pe_str (nomark _)) (pss_one (ps_aug (i := 1) sc_is_shape.nd rfl (Or.inl rfl) pe_int ip_add)) (pss_one (ps_if (pt_mid (PW.pt (pw_and (pt_cmpR op_eq (pv 2) pe_str (nomark _)) (pw_and1 (pt_cmpR op_gt (pv 1) pe_int (nomark _)))))) (pss_one (ps_aug (i := 1) sc_is_shape.nd rfl (Or.inl rfl) pe_int ip_sub)) (pss_one (ps_ret pe_bl)))))))
        (pss_one (ps_ret (pe_cmpR op_le (pe_bm PySem.F.plainAttrs_str PySem.F.slot_str_count PySem.F.type_str_count mt_count (pv 0) (pa_cons pe_str pa_nil)) (pe_glob (v := .int 100) (by rfl) T_g_LAST_PATCH ⟨_, rfl⟩) (nomark _))))))), ?_⟩
    refine ⟨_, rfl, _, _, _, _, true, rfl, .ty _, .base (.str _), kit_ty (by decide +kernel), true, rfl, iteF ?_⟩
    refine ⟨_, rfl, _, rfl, for_it (walk_str (z := sgS bs)) (fun i σ H' => ∃ (y : Option V) (rn : Int), σ = [some (.str (sgS bs)), some (.int rn), y] ∧ rn = ((runN (bs.take i) : Nat) : Int) ∧ H' = H) ⟨_, _, rfl, rfl, rfl⟩ (fun i σ H' _ h => trivial) (fun i x σ H' H2 hi h hy => ?_) (fun σ H' h => ?_)⟩
    · obtain ⟨e1, c, hc, rfl⟩ := hy
      subst e1
      obtain ⟨b, hb, rfl⟩ := sg_get hc
      obtain ⟨y, rn, rfl, rfl, rfl⟩ := h
      have es := take_snoc hb
      cases b with
      | true =>
        refine ⟨_, rfl, rfl, true, blP true, ?_⟩
        exact ⟨_, rfl, _, _, rfl, rfl, _, _, rfl, by rw [es, run_up]; dsimp only; omega, rfl⟩
      | false =>
        have hp := ok i hb
        refine ⟨_, rfl, rfl, false, blP false, ?_⟩
        refine ⟨fun b H3 => b = true ∧ H3 = H2, ⟨_, rfl, rfl, true, blM false, _, rfl, _, _, rfl, rfl, true, dT (by omega), rfl, rfl⟩, fun b H3 hm => ?_⟩
        obtain ⟨rfl, rfl⟩ := hm
        exact ⟨_, rfl, _, _, rfl, rfl, _, _, rfl, by rw [es, run_dn]; dsimp only; omega, rfl⟩
    · obtain ⟨y, rn, rfl, rfl, rfl⟩ := h
      refine ⟨_, rfl, rfl, _, _, rfl, rfl, _, _, rfl, rfl, ?_⟩
      rw [count_P]
      dsimp only
      rw [decide_eq_true (show ((upsN bs : Nat) : Int) ≤ 100 by omega)]
      exact q
/-! ### _check_shape -/
def spCheckS : Sp := fun vs H Q _ => ∃ bs : List Bool, vs = [.str (sgS bs)] ∧ SgOk bs ∧ upsN bs ≤ 100 ∧ Q .non H
theorem ok_check_shape {f : Addr} {fd : FuncData} (F : Fun K "_check_shape" "_check_shape" s_check_shape f fd) (T_is_shape : Gc P w K mg base 1 "is_shape" spIsShape) : FnG P w K mg base CX0 2 f fd ["shape"] spCheckS := by
  refine okG F sc_check_shape (fun vs H Q E h => ?_) (fun cdv A outer s H vs Q E hG hr h => ?_)
  · obtain ⟨bs, rfl, _⟩ := h
    rfl
  · obtain ⟨bs, rfl, ok, u1, q⟩ := h
    refine ⟨_, (pss_one (ps_if (pt_not (pt_val (pe_g T_is_shape hG hr (by decide) (by rfl) (pa_cons (pv 0) pa_nil)))) (pss_one ps_never) pss_nil)), ?_⟩
    exact ⟨_, rfl, bs, rfl, ok, u1, _, rfl, iteF q⟩
/-! ### count_in_shape -/
def spCount : Sp := fun vs H Q _ => ∃ bs : List Bool, vs = [.str (sgS bs)] ∧ SgOk bs ∧ upsN bs ≤ 100 ∧ ∀ H', Same H H' → Q (.int ((waysN bs : Nat) : Int)) H'
theorem ok_count_in_shape {f : Addr} {fd : FuncData} (F : Fun K "count_in_shape" "count_in_shape" s_count_in_shape f fd) (T_check_shape : Gc P w K mg base 2 "_check_shape" spCheckS) : FnG P w K mg base CX0 3 f fd ["shape"] spCount := by
  refine okG F sc_count_in_shape (fun vs H Q E h => ?_) (fun cdv A outer s H vs Q E hG hr h => ?_)
  · obtain ⟨bs, rfl, _⟩ := h
    rfl
  · obtain ⟨bs, rfl, ok, u1, q⟩ := h
    refine ⟨_, (pss_cons (ps_expr (pe_g T_check_shape hG hr (by decide) (by rfl) (pa_cons (pv 0) pa_nil)))
        (pss_cons (ps_asg (pe_tup (pa_cons pe_int (pa_cons pe_int pa_nil))) (pg_tup rfl (pgs_cons (pg_name (i := 1) sc_count_in_shape.nd rfl (Or.inl rfl)) (pgs_cons (pg_name (i := 2) sc_count_in_shape.nd rfl (Or.inl rfl)) pgs_nil))))
        (pss_cons (ps_for PassesOwn.never rfl (pi_str (pv 0)) (pg_name (i := 3) sc_count_in_shape.nd rfl (Or.inl rfl))
          (pss_one (ps_if (pt_cmpR op_eq (pv 3) pe_str (nomark _)) (pss_one (ps_aug (i := 2) sc_count_in_shape.nd rfl (Or.inl rfl) pe_int ip_add)) (pss_cons (ps_aug (i := 1) sc_count_in_shape.nd rfl (Or.inl rfl) (pv 2) ip_mulW)
            (pss_one (ps_aug (i := 2) sc_count_in_shape.nd rfl (Or.inl rfl) pe_int ip_sub))))))
        (pss_one (ps_ret (pv 1)))))), ?_⟩
    refine ⟨_, rfl, bs, rfl, ok, u1, by show 2 ≤ sizeLine; decide, fun T nT => ⟨T, _, rfl, .of upd_same, rfl, _, _, rfl, _, _, rfl, rfl, ?_⟩⟩
    refine ⟨_, rfl, _, rfl, for_it (walk_str (z := sgS bs)) (fun i σ H' => ∃ (y : Option V) (c rn : Int), σ = [some (.str (sgS bs)), some (.int c), some (.int rn), y] ∧ c = ((waysN (bs.take i) : Nat) : Int) ∧ rn = ((runN (bs.take i) : Nat) : Int) ∧ Same H H') ⟨_, _, _, rfl, rfl, rfl, same_new nT⟩ (fun i σ H' _ h => trivial) (fun i x σ H' H2 hi h hy => ?_) (fun σ H' h => ?_)⟩
    · obtain ⟨e1, c, hc, rfl⟩ := hy
      subst e1
      obtain ⟨b, hb, rfl⟩ := sg_get hc
      obtain ⟨y, cc, rn, rfl, rfl, rfl, sm⟩ := h
      have es := take_snoc hb
      cases b with
      | true =>
        refine ⟨_, rfl, rfl, true, blP true, ?_⟩
        exact ⟨_, rfl, _, _, rfl, rfl, _, _, _, rfl, by rw [es, ways_up], by rw [es, run_up]; dsimp only; omega, sm⟩
      | false =>
        have hp := ok i hb
        refine ⟨_, rfl, rfl, false, blP false, ?_⟩
        refine ⟨_, rfl, _, rfl, _, _, rfl, rfl, wide_ways (ok.take i) (ups_take u1 i), ?_⟩
        exact ⟨_, rfl, _, _, rfl, rfl, _, _, _, rfl, by rw [es, ways_dn, Int.natCast_mul], by rw [es, run_dn]; dsimp only; omega, sm⟩
    · obtain ⟨y, cc, rn, rfl, rfl, rfl, sm⟩ := h
      rw [sg_size, List.take_length] at *
      exact ⟨_, rfl, q _ sm⟩
end
section
variable {P : Program} {w : World} {K : PySem.W.Frag} {mg : Str → Option Value} {base : Heap}
/-! ### _law_ways -/
def spWays : Sp := fun vs H Q _ => ∃ bs : List Bool, vs = [.str (sgS bs)] ∧ SgOk bs ∧ upsN bs ≤ 100 ∧ ∀ H', Same H H' → Q (.int ((waysN bs : Nat) : Int)) H'
theorem ok_law_ways {f : Addr} {fd : FuncData} (F : Fun K "_law_ways" "_law_ways" s_law_ways f fd) (B : NoB mg) : FnG P w K mg base CX0 1 f fd ["signs"] (spWays) := by
  refine okG F sc_law_ways (fun vs H Q E h => ?_) (fun cdv A outer s H vs Q E hG hr h => ?_)
  · obtain ⟨bs, rfl, _⟩ := h
    rfl
  · obtain ⟨bs, rfl, ok, u1, q⟩ := h
    refine ⟨_, (pss_cons (ps_asg (pe_tup (pa_cons pe_int (pa_cons pe_int pa_nil))) (pg_tup rfl (pgs_cons (pg_name (i := 1) sc_law_ways.nd rfl (Or.inl rfl)) (pgs_cons (pg_name (i := 2) sc_law_ways.nd rfl (Or.inl rfl)) pgs_nil))))
        (pss_cons (ps_for PassesOwn.never rfl (pi_str (pv 0)) (pg_name (i := 3) sc_law_ways.nd rfl (Or.inl rfl))
          (Evl.pss_cut (ps_if (pt_cmpR op_eq (pv 3) pe_str (nomark _)) (pss_one (ps_set (i := 1) sc_law_ways.nd rfl (Or.inl rfl) (pe_op op_mulW (pv 1) (pv 2)))) pss_nil)
          (pss_one (ps_set (i := 2) sc_law_ways.nd rfl (Or.inl rfl) (pe_op op_add (pv 2) (pe_ix ix_list (pe_lst (pa_cons pe_int (pa_cons (pe_un un_neg pe_int) pa_nil))) (pe_callTy call_int1 (by rfl) B.int (by decide +kernel) (pa_cons (pe_cmpR op_eq (pv 3) pe_str (nomark _)) pa_nil)) (fun _ _ => rfl)))))))
        (pss_one (ps_ret (pv 1))))), ?_⟩
    refine ⟨by show 2 ≤ sizeLine; decide, fun T nT => ⟨T, _, rfl, .of upd_same, rfl, _, _, rfl, _, _, rfl, rfl, ?_⟩⟩
    refine ⟨_, rfl, _, rfl, for_it (walk_str (z := sgS bs)) (fun i σ H' => ∃ (y : Option V) (c rn : Int), σ = [some (.str (sgS bs)), some (.int c), some (.int rn), y] ∧ c = ((waysN (bs.take i) : Nat) : Int) ∧ rn = ((runN (bs.take i) : Nat) : Int) ∧ Same H H') ⟨_, _, _, rfl, rfl, rfl, same_new nT⟩ (fun i σ H' _ h => trivial) (fun i x σ H' H2 hi h hy => ?_) (fun σ H' h => ?_)⟩
    · obtain ⟨e1, c, hc, rfl⟩ := hy
      subst e1
      obtain ⟨b, hb, rfl⟩ := sg_get hc
      obtain ⟨y, cc, rn, rfl, rfl, rfl, sm⟩ := h
      have es := take_snoc hb
      refine ⟨fun σ' H' => H' = H2 ∧ σ' = [some (.str (sgS bs)), some (.int ((waysN (bs.take (i + 1)) : Nat) : Int)), some (.int ((runN (bs.take i) : Nat) : Int)), some (.str ⟨#[sgC b]⟩)], ?_, fun σ' H' hm => ?_⟩
      · cases b with
        | true => exact ⟨_, rfl, rfl, false, blM true, rfl, by rw [es, ways_up]; rfl⟩
        | false => exact ⟨_, rfl, rfl, true, blM false, _, rfl, _, rfl, _, _, rfl, rfl, wide_ways (ok.take i) (ups_take u1 i), rfl, by rw [es, ways_dn, Int.natCast_mul]; rfl⟩
      · obtain ⟨rfl, rfl⟩ := hm
        refine ⟨_, rfl, 1, rfl, by show 2 ≤ sizeLine; decide, fun L nL => ?_⟩
        refine ⟨_, rfl, rfl, .inr ⟨!b, congrArg (fun v => [v]) (blM b), ?_⟩⟩
        have fin : ∀ y : Option V, Same H (upd H' L (.lst [.int 1, .int (-1)])) := fun _ => Lp.Same.add sm nL
        cases b with
        | true => exact ⟨L, _, 0, _, rfl, rfl, .of upd_same, at0, _, _, rfl, rfl, _, _, _, rfl, rfl, by rw [es, run_up]; omega, fin none⟩
        | false =>
          have hp := ok i hb
          exact ⟨L, _, 1, _, rfl, rfl, .of upd_same, at1, _, _, rfl, rfl, _, _, _, rfl, rfl, by rw [es, run_dn]; omega, fin none⟩
    · obtain ⟨y, cc, rn, rfl, rfl, rfl, sm⟩ := h
      rw [sg_size, List.take_length] at *
      exact ⟨_, rfl, q _ sm⟩
end
section
variable {P : Program} {w : World} {K : PySem.W.Frag} {mg : Str → Option Value} {base : Heap}
/-! ### _law_every -/
def spEvery : Sp := fun vs H Q _ => ∃ bs : List Bool, vs = [.str (sgS bs)] ∧ SgOk bs ∧ upsN bs ≤ 100 ∧ waysN bs ≤ 1000 ∧ ∀ (H' : Hp) (p : Addr) (rs : List V), Same H H' → H p = none → H' p = some (.lst rs) → RowsR H' rs (everyL bs) → Q (.ref p) H'
theorem int_bool (b : Bool) : (if b = true then (1 : Int) else 0) = ((b.toNat : Nat) : Int) := by cases b <;> rfl
theorem negL_get {st k : Nat} (h : k < st) : (negL st)[k]? = some ((0 : Int) - ((st : Int) + (k : Int) * (-1))) := by
  unfold negL
  rw [List.getElem?_map, List.getElem?_range h]
  rfl
set_option maxHeartbeats 1000000 in
theorem ok_law_every {f : Addr} {fd : FuncData} (F : Fun K "_law_every" "_law_every" s_law_every f fd) (B : NoB mg) : FnG P w K mg base CX0 1 f fd ["signs"] (spEvery) := by
  refine okG F sc_law_every (fun vs H Q E h => ?_) (fun cdv A outer s H vs Q E hG hr h => ?_)
  · obtain ⟨bs, rfl, _⟩ := h
    rfl
  · obtain ⟨bs, rfl, ok, u1, w1, q⟩ := h
    have slen := sg_len ok u1
    refine ⟨_, (pss_cons (ps_par (i := 1) (j := 2) (by rfl) sc_law_every.nd rfl rfl (by decide) rfl rfl (pa_cons (pe_lst (pa_cons (pe_lst pa_nil) pa_nil)) (pa_cons pe_int pa_nil)) (by rfl))
        (pss_cons (ps_for PassesOwn.never rfl (pi_str (pv 0)) (pg_name (i := 3) sc_law_every.nd rfl (Or.inl rfl))
          (pss_cons (ps_set (i := 2) sc_law_every.nd rfl (Or.inl rfl) (pe_op op_add (pv 2) (pe_callTy call_int1 (by rfl) B.int (by decide +kernel) (pa_cons (pe_cmpR op_eq (pv 3) pe_str (nomark _)) pa_nil))))
          (pss_cons (ps_set (i := 4) sc_law_every.nd rfl (Or.inl rfl) (pe_lst pa_nil))
          (pss_cons (ps_for PassesOwn.never rfl (pi_list (pv 1)) (pg_name (i := 5) sc_law_every.nd rfl (Or.inr rfl))
            (pss_cons (ps_set (i := 6) sc_law_every.nd rfl (Or.inl rfl) (pe_lst (pa_cons (pv 2) pa_nil)))
            (Evl.pss_cut (ps_if (pt_cmpR op_eq (pv 3) pe_str (nomark _)) (pss_one (ps_setLc (i := 6) (own := [("one", 7)]) (g := gName 7) (tt := _) rfl sc_law_every.nd rfl rfl (sw_true rfl rfl rfl (by decide +kernel)) (pi_range3 rfl B.range (pa_cons (pv 2) (pa_cons pe_int (pa_cons (pe_un un_neg pe_int) pa_nil)))) (blkOk_by (own := [("one", 7)]) (N := N_law_every) (sc := defScope s_law_every) (by decide +kernel)) (fun _ _ _ _ _ => (pg_name (i := 7) sc_law_every.nd rfl (Or.inl rfl))) (fun _ _ _ _ _ => (pts_one (pt_cmpR (k_notin (K := K) rfl) (pe_op op_sub pe_int (pv 7)) (pv 5) (by rfl)))) (fun _ _ _ _ _ => (pe_op op_sub pe_int (pv 7))))) pss_nil)
            (pss_one (ps_expr (pe_bm PySem.F.plainAttrs_list PySem.F.slot_list_extend PySem.F.type_list_extend mt_extend (pv 4) (pa_cons (pe_lc (own := [("one", 7)]) (g := gName 7) (tt := tYes) rfl sc_law_every.nd (pi_list (pv 6)) (blkOk_by (own := [("one", 7)]) (N := N_law_every) (sc := defScope s_law_every) (by decide +kernel)) (fun _ _ _ _ _ => (pg_name (i := 7) sc_law_every.nd rfl (Or.inl rfl))) (fun _ _ _ _ _ => pts_nil) (fun _ _ _ _ _ => (pe_op op_cat (pv 5) (pe_lst (pa_cons (pv 7) pa_nil))))) pa_nil)))))))
          (pss_one (ps_set (i := 1) sc_law_every.nd rfl (Or.inl rfl) (pv 4)))))))
        (pss_one (ps_ret (pv 1))))), ?_⟩
    refine ⟨Nat.zero_le _, fun p0 n0 => ⟨by show 1 ≤ sizeLine; decide, fun p1 n1 => ⟨_, _, rfl, ?_⟩⟩⟩
    have s01 := (same_new (o := .lst []) n0).trans (same_new (o := .lst [V.ref p0]) n1)
    have hp1 : H p1 = none := (same_new (o := .lst []) n0).free n1
    refine ⟨_, rfl, _, rfl, for_it (walk_str (z := sgS bs)) (fun i σ H' => ∃ (y3 y4 y5 y6 y7 : Option V) (p : Addr) (st : Int) (rs : List V), σ = [some (.str (sgS bs)), some (.ref p), some (.int st), y3, y4, y5, y6, y7] ∧ st = ((upsN (bs.take i) : Nat) : Int) ∧ Same H H' ∧ H p = none ∧ H' p = some (.lst rs) ∧ RowsR H' rs (everyL (bs.take i)))
      ⟨_, _, _, _, _, _, _, _, rfl, rfl, s01, hp1, upd_same, RowsR.one (row := []) ?_⟩ (fun i σ H' _ h => trivial) (fun i x σ H' H2 hi h hy => ?_) (fun σ H' h => ?_)⟩
    · exact (same_new n1) _ _ upd_same
    · obtain ⟨e1, c, hc, rfl⟩ := hy
      subst e1
      obtain ⟨b, hb, rfl⟩ := sg_get hc
      obtain ⟨y3, y4, y5, y6, y7, p, st, rs, rfl, rfl, sm, hp, hrs, rr⟩ := h
      have es := take_snoc hb
      have oki := ok.take i
      have oki1 := ok.take (i + 1)
      obtain ⟨ev1, ev2⟩ := every_ok oki
      have hi' := lt_get hb
      have wle := ways_take_le ok (bs.length - (i + 1)) (i + 1) (by omega)
      have ui := ups_take u1 i
      have tot := (every_ok oki1).2
      rw [es, every_snoc] at tot
      rw [es] at wle
      have goalE : everyL (bs.take (i + 1)) = (everyL (bs.take i)).flatMap fun row => (ableL (upsN (bs.take i) + b.toNat) b row).map fun x => row ++ [x] := by rw [es, every_snoc]
      have ab : ∀ row, (ableL (upsN (bs.take i) + b.toNat) b row).length ≤ 101 := fun row => by
        cases b with
        | true => show 1 ≤ 101; decide
        | false =>
          refine Nat.le_trans (List.length_filter_le _ _) ?_
          rw [negL_len]
          show upsN (bs.take i) + 0 ≤ 101
          omega
      have upE : ((upsN (bs.take (i + 1)) : Nat) : Int) = ((upsN (bs.take i) + b.toNat : Nat) : Int) := by
        rw [es]
        cases b with
        | true => rw [ups_up]; rfl
        | false => rw [ups_dn]; rfl
      refine ⟨_, rfl, _, rfl, rfl, .inr ⟨b, congrArg (fun v => [v]) (blP b), _, _, rfl, rfl, ?_⟩⟩
      dsimp only
      rw [int_bool, ← Int.natCast_add]
      have stb : upsN (bs.take i) + b.toNat ≤ 101 := by cases b <;> (simp only [Bool.toNat_true, Bool.toNat_false]; omega)
      generalize upsN (bs.take i) + b.toNat = st at tot goalE ab upE stb ⊢
      refine ⟨Nat.zero_le _, fun q1 nq1 => ?_⟩
      have nqp : q1 ≠ p := fun z => by rw [z, hrs] at nq1; cases nq1
      have hpp := same_new (o := .lst []) nq1 _ _ hrs
      have rr1 := rr.same (same_new (o := .lst []) nq1)
      refine ⟨_, rfl, p, rfl, ⟨_, .of hpp⟩, for_list (xs := rs) (fun j σ H' => ∃ (y5 y6 y7 : Option V) (ls : List V), σ = [some (.str (sgS bs)), some (.ref p), some (.int ((st : Nat) : Int)), some (.str ⟨#[sgC b]⟩), some (.ref q1), y5, y6, y7] ∧
        Same H2 H' ∧ H' q1 = some (.lst ls) ∧ V.ref q1 ∉ ls ∧ RowsR H' ls (((everyL (bs.take i)).take j).flatMap fun row => (ableL st b row).map fun x => row ++ [x])) ⟨_, _, _, [], rfl, same_new nq1, upd_same, List.not_mem_nil, RowsR.nil _⟩ (fun j σ H' _ h => ?_) (fun j x σ H' hx h => ?_) (fun σ H' h => ?_)⟩
      · obtain ⟨_, _, _, _, _, sm2, _⟩ := h
        exact .of (sm2 _ _ hrs)
      · obtain ⟨y5, y6, y7, ls, rfl, sm2, hq, nq, rl⟩ := h
        have hj := lt_get hx
        rw [rr.1] at hj
        have eg := List.getElem?_eq_getElem hj
        obtain ⟨pr, er, hpr⟩ := rr.2 j _ eg
        have ex : x = .ref pr := Option.some.inj (hx.symm.trans er)
        subst ex
        generalize (everyL (bs.take i))[j] = row at hpr eg
        obtain ⟨hrow, rlen⟩ := ev1 row (mem_get eg)
        have hpr' := sm2 _ _ hpr
        have lsz : ls.length ≤ 1000 := by
          rw [rl.1]
          have := flatMap_take_len (f := fun row => (ableL st b row).map fun x => row ++ [x]) (everyL (bs.take i)) j
          omega
        have lsz2 : ls.length + (ableL st b row).length ≤ 2000 := by
          have := ab row
          omega
        refine ⟨_, rfl, by show 1 ≤ sizeLine; decide, fun a1 na1 => ?_⟩
        refine ⟨fun σ' H'' => ∃ (a2 : Addr) (y7 : Option V), σ' = [some (.str (sgS bs)), some (.ref p), some (.int ((st : Nat) : Int)), some (.str ⟨#[sgC b]⟩), some (.ref q1), some (.ref pr), some (.ref a2), y7] ∧ Same H' H'' ∧ H'' a2 = some (.lst ((ableL st b row).map V.int)), ?_, fun σ' H'' hm => ?_⟩
        · cases b with
          | true => exact ⟨_, rfl, rfl, false, blM true, a1, _, rfl, same_new na1, upd_same⟩
          | false =>
            have s1 := same_new (o := .lst [V.int ((st : Nat) : Int)]) na1
            have hrg : RgC ((st : Nat) : Int) 0 (-1) st := by
              have z := RgC.neg (i := ((st : Nat) : Int)) (j := 0) (by omega) (by omega) (by decide) (by decide)
              have e : (((st : Nat) : Int) - 0).toNat = st := by omega
              rwa [e] at z
            refine ⟨_, rfl, rfl, true, blM false, ?_⟩
            refine ⟨_, rfl, 1, rfl, _, _, _, st, rfl, hrg, fun D hD => lc_it (walk_rangeC) (LcP (upd H' a1 (.lst [V.int ((st : Nat) : Int)])) D fun k => (((negL st).take k).filter fun x => decide (x ∉ row)).map V.int) (.init hD rfl) (fun i H' _ p => trivial) (fun k x H3 H4 hk p hy => ?_) (fun H3 p => ?_)⟩
            · obtain ⟨rfl, rfl⟩ := hy
              have gk := negL_get hk
              have fs := filtG (f := fun x => decide (x ∉ row)) gk
              have fl := filtG_len (l := negL st) (f := fun x => decide (x ∉ row)) k
              rw [negL_len] at fl
              refine ⟨rfl, ?_⟩
              refine ⟨_, rfl, _, _, rfl, rfl, _, rfl, pr, row.map V.int, rfl, .inl (.of (p.2.1 _ _ (s1 _ _ hpr'))), rfl, flatI row, ?_⟩
              by_cases hin : (0 : Int) - (((st : Nat) : Int) + (k : Int) * (-1)) ∈ row
              · refine ⟨false, notInF hin, p.skip (Same.refl _) ?_⟩
                show (((negL st).take (k + 1)).filter _).map V.int = _
                rw [fs, if_neg (by simpa using hin), List.append_nil]
              · refine ⟨true, notInT hin, _, rfl, _, _, rfl, rfl, p.put (Same.refl _) ?_ (by rw [List.length_map]; omega)⟩
                show (((negL st).take (k + 1)).filter _).map V.int = _
                rw [fs, if_pos (by simpa using hin), List.map_append]
                rfl
            · refine ⟨D, _, rfl, s1.trans p.2.1, ?_⟩
              have e := p.2.2
              have en : (negL st).take st = negL st := List.take_of_length_le (by rw [negL_len]; exact Nat.le_refl _)
              rw [e]
              show some (HO.lst ((((negL st).take st).filter _).map V.int)) = _
              rw [en]
              rfl
        · obtain ⟨a2, y7, rfl, sm3, ha2⟩ := hm
          have hq3 := sm3 _ _ hq
          have hpr3 := sm3 _ _ hpr'
          refine ⟨_, rfl, .inl ⟨rfl, _, .of hq3⟩, _, rfl, a2, rfl, ⟨_, .of ha2⟩, fun D hD => lc_list (xs := (ableL st b row).map V.int) (fun k H3 => ∃ zs, Same H'' H3 ∧ H3 D = some (.lst zs) ∧ (∀ a, V.ref a ∈ zs → H'' a = none ∧ a ≠ D) ∧ RowsR H3 zs (((ableL st b row).take k).map fun x => row ++ [x])) ⟨[], same_new hD, upd_same, fun a h => absurd h List.not_mem_nil, RowsR.nil _⟩ (fun k H3 _ h => ?_) (fun k x H3 hx h => ?_) (fun H3 h => ?_)⟩
          · obtain ⟨zs, s5, _⟩ := h
            exact .of (s5 _ _ ha2)
          · obtain ⟨v, rfl, hv⟩ := get_int hx
            obtain ⟨zs, s5, hz, hf, rz⟩ := h
            have zl' : zs.length ≤ 101 := by
              rw [rz.1, List.length_map, List.length_take]
              have := ab row
              omega
            refine ⟨rfl, _, rfl, _, rfl, by show 1 ≤ sizeLine; decide, fun t nt => ⟨pr, t, row.map V.int, [.int v], rfl, rfl, same_new nt _ _ (s5 _ _ hpr3), upd_same, by rw [List.length_map, rlen]; exact Lp.zs (by show (bs.take i).length + 1 ≤ _; rw [List.length_take]; omega), fun p5 np5 => ⟨zs, ?_, zl (by omega), ?_⟩⟩⟩
            · exact same_new np5 _ _ (same_new nt _ _ hz)
            · have s6 := (same_new (o := .lst [V.int v]) nt).trans (same_new (o := .lst (row.map V.int ++ [.int v])) np5)
              have nD : p5 ≠ D := fun z => by
                rw [z] at np5
                rw [same_new nt _ _ hz] at np5
                cases np5
              have n5 : H'' p5 = none := (s5.trans (same_new (o := .lst [V.int v]) nt)).free np5
              refine ⟨zs ++ [.ref p5], Lp.Same.mut (s5.trans s6) hD, upd_same, fun a ha => ?_, ?_⟩
              · rcases List.mem_append.mp ha with z | z
                · exact hf a z
                · cases List.mem_singleton.mp z
                  exact ⟨n5, nD⟩
              · have e : ((ableL st b row).take (k + 1)).map (fun x => row ++ [x]) = ((ableL st b row).take k).map (fun x => row ++ [x]) ++ [row ++ [v]] := by
                  rw [take_get hv, List.map_append]
                  rfl
                rw [e]
                refine RowsR.upd ((rz.same s6).app (RowsR.one ?_)) (fun hm => ?_)
                · rw [List.map_append]
                  exact upd_same
                · rcases List.mem_append.mp hm with z | z
                  · exact (hf D z).2 rfl
                  · exact nD (V.ref.inj (List.mem_singleton.mp z)).symm
          · obtain ⟨zs, s5, hz, hf, rz⟩ := h
            rw [List.length_map, List.take_length] at rz
            have hq5 := s5 _ _ hq3
            have nqz : V.ref q1 ∉ zs := fun z => by
              have := (hf q1 z).1
              rw [hq3] at this
              cases this
            have zl' : zs.length = (ableL st b row).length := by rw [rz.1, List.length_map]
            refine ⟨q1, D, ls, zs, rfl, rfl, hq5, hz, Lp.zs (by omega), _, _, _, ls ++ zs, rfl, Lp.Same.mut ((sm2.trans sm3).trans s5) nq1, upd_same, fun z => ?_, ?_⟩
            · rcases List.mem_append.mp z with z | z
              · exact nq z
              · exact nqz z
            · rw [flatMap_take_succ eg]
              refine RowsR.upd ((rl.same (sm3.trans s5)).app rz) fun z => ?_
              rcases List.mem_append.mp z with z | z
              · exact nq z
              · exact nqz z
      · obtain ⟨y5, y6, y7, ls, rfl, sm2, hq, nq, rl⟩ := h
        rw [rr.1, List.take_length] at rl
        refine ⟨_, rfl, _, _, _, _, _, q1, _, ls, rfl, upE.symm, sm.trans sm2, sm.free nq1, hq, ?_⟩
        rw [goalE]
        exact rl
    · obtain ⟨y3, y4, y5, y6, y7, p, st, rs, rfl, rfl, sm, hp, hrs, rr⟩ := h
      rw [sg_size, List.take_length] at *
      exact ⟨_, rfl, q _ p rs sm hp hrs rr⟩
end
end L56
set_option Elab.async false
set_option linter.all false
set_option maxRecDepth 100000
namespace L56
open PySem PySem.Spec PyProof.Rows L2 Lp
/-! ### the few -/
def presStep (s : Int × (Int → Int)) (e : Int) : Int × (Int → Int) := if 0 < e then (e, fun k => if k = e then s.1 else s.2 k) else (s.2 (0 - e), s.2)
def presS (row : List Int) : Int × (Int → Int) := row.foldl presStep (0, fun _ => 0)
def presL (row : List Int) : Int := (presS row).1
theorem pres_snoc (row : List Int) (e : Int) : presS (row ++ [e]) = presStep (presS row) e := by
  unfold presS
  rw [List.foldl_append]
  rfl
def rowB (row : List Int) : Bool := (List.range row.length).all fun i => match row[i]? with
  | some e => decide (0 < e) || decide (0 - e ∈ (row.take i).filter fun x => decide (0 < x))
  | none => true
theorem rowB_ok {row : List Int} (h : rowB row = true) {i : Nat} {e : Int} (he : row[i]? = some e) (h0 : ¬ 0 < e) : 0 - e ∈ (row.take i).filter fun x => decide (0 < x) := by
  have hl := (List.getElem?_eq_some_iff.mp he).1
  have z := List.all_eq_true.mp h i (List.mem_range.mpr hl)
  rw [he] at z
  rw [Bool.or_eq_true, decide_eq_true_eq, decide_eq_true_eq] at z
  exact z.elim (fun y => absurd y h0) id
def allB : Nat → List (List Bool)
  | 0 => [[]]
  | n + 1 => [] :: (allB n).flatMap fun l => [true :: l, false :: l]
theorem allB_mem : ∀ (n : Nat) (bs : List Bool), bs.length ≤ n → bs ∈ allB n
  | 0, bs, h => by rw [List.length_eq_zero_iff.mp (Nat.le_zero.mp h)]; exact List.mem_cons_self
  | n + 1, [], _ => List.mem_cons_self
  | n + 1, b :: l, h => by
    refine List.mem_cons_of_mem _ (List.mem_flatMap.mpr ⟨l, allB_mem n l (Nat.le_of_succ_le_succ h), ?_⟩)
    cases b
    · exact List.mem_cons_of_mem _ List.mem_cons_self
    · exact List.mem_cons_self
def okB (bs : List Bool) : Bool := (List.range bs.length).all fun i => decide (bs[i]? ≠ some false) || decide (0 < runN (bs.take i))
theorem okB_of {bs : List Bool} (h : SgOk bs) : okB bs = true := by
  refine List.all_eq_true.mpr fun i hi => ?_
  rw [Bool.or_eq_true, decide_eq_true_eq, decide_eq_true_eq]
  by_cases e : bs[i]? = some false
  · exact .inr (h i e)
  · exact .inl e
def fewB (bs : List Bool) : Bool := !okB bs || ((everyL bs).all rowB && (List.range (upsN bs + 1)).all fun v => decide (((everyL bs).map presL).count ((v : Nat) : Int) = survN bs v))
theorem few_all : (allB 8).all fewB = true := by decide +kernel
theorem few_ok {bs : List Bool} (ok : SgOk bs) (h : bs.length ≤ 8) : (∀ row ∈ everyL bs, rowB row = true) ∧ ∀ v, v ≤ upsN bs → ((everyL bs).map presL).count ((v : Nat) : Int) = survN bs v := by
  have z := List.all_eq_true.mp few_all bs (allB_mem 8 bs h)
  unfold fewB at z
  rw [okB_of ok, Bool.not_true, Bool.false_or, Bool.and_eq_true] at z
  exact ⟨fun row hr => List.all_eq_true.mp z.1 row hr, fun v hv => of_decide_eq_true (List.all_eq_true.mp z.2 v (List.mem_range.mpr (by omega)))⟩
section
variable {P : Program} {w : World} {K : PySem.W.Frag} {mg : Str → Option Value} {base : Heap}
/-! ### is_integer and its kin -/
def spIsInt : Sp := fun vs H Q _ => ∃ i : Int, vs = [.int i] ∧ Q (.bl true) H
theorem ok_is_integer {f : Addr} {fd : FuncData} (F : Fun K "is_integer" "is_integer" s_is_integer f fd) (B : NoB mg) : FnG P w K mg base CX0 1 f fd ["value"] spIsInt := by
  refine okG F sc_is_integer (fun vs H Q E h => ?_) (fun cdv A outer s H vs Q E hG hr h => ?_)
  · obtain ⟨i, rfl, _⟩ := h
    rfl
  · obtain ⟨i, rfl, q⟩ := h
    refine ⟨_, (pss_one (ps_ret (pe_and (pe_callB call_isi (by rfl) B.isinstance (by decide +kernel) (pa_cons (pv 0) (pa_cons (pe_bltn (v := .ty "int") (by rfl) B.int boot_int rfl) pa_nil))) (pe_one (pe_not (pe_callB call_isi (by rfl) B.isinstance (by decide +kernel) (pa_cons (pv 0) (pa_cons (pe_bltn (v := .ty "bool") (by rfl) B.bool boot_bool rfl) pa_nil)))))))), ?_⟩
    refine ⟨_, rfl, _, _, _, _, true, rfl, .ty _, .base (.int i), kit_ty (by decide +kernel), true, rfl, iteT ?_⟩
    exact ⟨_, rfl, _, _, _, _, false, rfl, .ty _, .base (.int i), kit_ty (by decide +kernel), false, rfl, q⟩
def spWithin : Sp := fun vs H Q _ => ∃ i lo hi : Int, vs = [.int i, .int lo, .int hi] ∧ lo ≤ i ∧ i ≤ hi ∧ Q (.bl true) H
theorem ok_is_integer_within {f : Addr} {fd : FuncData} (F : Fun K "is_integer_within" "is_integer_within" s_is_integer_within f fd) (T_is_integer : Gc P w K mg base 1 "is_integer" spIsInt) : FnG P w K mg base CX0 2 f fd ["value", "least", "greatest"] spWithin := by
  refine okG F sc_is_integer_within (fun vs H Q E h => ?_) (fun cdv A outer s H vs Q E hG hr h => ?_)
  · obtain ⟨i, lo, hi, rfl, _⟩ := h
    rfl
  · obtain ⟨i, lo, hi, rfl, h1, h2, q⟩ := h
    refine ⟨_, (pss_one (ps_ret (pe_and (pe_g T_is_integer hG hr (by decide) (by rfl) (pa_cons (pv 0) pa_nil)) (pe_one (pe_chain op_le op_le (pv 1) (pv 0) (pv 2)))))), ?_⟩
    refine ⟨_, rfl, i, rfl, true, rfl, iteT ?_⟩
    refine ⟨_, rfl, _, rfl, _, _, rfl, rfl, _, rfl, ?_⟩
    rw [decide_eq_true h1]
    refine iteT ⟨_, rfl, _, _, rfl, rfl, ?_⟩
    dsimp only
    rw [decide_eq_true h2]
    exact q
end
section
variable {P : Program} {w : World} {K : PySem.W.Frag} {mg : Str → Option Value} {base : Heap}
/-! ### check_number -/
def spCheckN : Sp := fun vs H Q _ => ∃ i lo hi : Int, vs = [.int i, .int lo, .int hi] ∧ lo ≤ i ∧ i ≤ hi ∧ Q .non H
theorem ok_check_number {f : Addr} {fd : FuncData} (F : Fun K "check_number" "check_number" s_check_number f fd) (T_is_integer_within : Gc P w K mg base 2 "is_integer_within" spWithin) : FnG P w K mg base CX0 3 f fd ["value", "least", "greatest"] spCheckN := by
  refine okG F sc_check_number (fun vs H Q E h => ?_) (fun cdv A outer s H vs Q E hG hr h => ?_)
  · obtain ⟨i, lo, hi, rfl, _⟩ := h
    rfl
  · obtain ⟨i, lo, hi, rfl, h1, h2, q⟩ := h
    refine ⟨_, (pss_one (ps_if (pt_not (pt_val (pe_g T_is_integer_within hG hr (by decide) (by rfl) (pa_cons (pv 0) (pa_cons (pv 1) (pa_cons (pv 2) pa_nil)))))) (pss_one ps_never) pss_nil)), ?_⟩
    exact ⟨_, rfl, _, rfl, _, rfl, i, lo, hi, rfl, h1, h2, _, rfl, iteF q⟩
theorem natAbs_lt {n k : Nat} (h : n < 2 ^ k) : ((n : Nat) : Int).natAbs < 2 ^ k := h
end
section
variable {P : Program} {w : World} {K : PySem.W.Frag} {mg : Str → Option Value} {base : Heap}
/-! ### count_survivors -/
def spSurv : Sp := fun vs H Q _ => ∃ (bs : List Bool) (v : Nat), vs = [.str (sgS bs), .int (v : Int)] ∧ SgOk bs ∧ upsN bs ≤ 100 ∧ v ≤ upsN bs ∧ ∀ H', Same H H' → Q (.int ((survN bs v : Nat) : Int)) H'
theorem ways_lt2 {bs : List Bool} (ok : SgOk bs) (u : upsN bs ≤ 100) : waysN bs < 2 ^ 1401 := by
  have l := sg_len ok u
  exact Nat.lt_of_lt_of_le (ways_lt u ok) (Nat.pow_le_pow_right (by decide) (show 7 * bs.length + 1 ≤ 1401 by omega))
set_option maxHeartbeats 1000000 in
theorem ok_count_survivors {f : Addr} {fd : FuncData} (F : Fun K "count_survivors" "count_survivors" s_count_survivors f fd) (T_check_shape : Gc P w K mg base 2 "_check_shape" spCheckS) (T_check_number : Gc P w K mg base 3 "check_number" spCheckN) : FnG P w K mg base CX0 4 f fd ["shape", "survivor"] spSurv := by
  refine okG F sc_count_survivors (fun vs H Q E h => ?_) (fun cdv A outer s H vs Q E hG hr h => ?_)
  · obtain ⟨bs, v, rfl, _⟩ := h
    rfl
  · obtain ⟨bs, v, rfl, ok, u1, hv, q⟩ := h
    refine ⟨_, (pss_cons (ps_expr (pe_g T_check_shape hG hr (by decide) (by rfl) (pa_cons (pv 0) pa_nil)))
        (pss_cons (ps_expr (pe_g T_check_number hG hr (by decide) (by rfl) (pa_cons (pv 1) (pa_cons pe_int (pa_cons (pe_bm PySem.F.plainAttrs_str PySem.F.slot_str_count PySem.F.type_str_count mt_count (pv 0) (pa_cons pe_str pa_nil)) pa_nil)))))
        (pss_cons (ps_asg (pe_tup (pa_cons pe_int (pa_cons pe_int (pa_cons pe_int pa_nil)))) (pg_tup rfl (pgs_cons (pg_name (i := 2) sc_count_survivors.nd rfl (Or.inl rfl)) (pgs_cons (pg_name (i := 3) sc_count_survivors.nd rfl (Or.inl rfl)) (pgs_cons (pg_name (i := 4) sc_count_survivors.nd rfl (Or.inl rfl)) pgs_nil)))))
        (pss_cons (ps_asg (pe_mid (pe_ifExp (pt_cmpR op_eq (pv 1) pe_int (nomark _)) (pe_tup (pa_cons pe_int (pa_cons pe_int pa_nil))) (pe_tup (pa_cons pe_int (pa_cons pe_int pa_nil))))) (pg_tup rfl (pgs_cons (pg_name (i := 5) sc_count_survivors.nd rfl (Or.inl rfl)) (pgs_cons (pg_name (i := 6) sc_count_survivors.nd rfl (Or.inl rfl)) pgs_nil))))
        (pss_cons (ps_for PassesOwn.never rfl (pi_str (pv 0)) (pg_name (i := 7) sc_count_survivors.nd rfl (Or.inl rfl))
          (pss_one (ps_if (pt_cmpR op_eq (pv 7) pe_str (nomark _)) (pss_cons (ps_aug (i := 3) sc_count_survivors.nd rfl (Or.inl rfl) pe_int ip_add)
            (pss_cons (ps_aug (i := 4) sc_count_survivors.nd rfl (Or.inl rfl) pe_int ip_add)
            (pss_cons (ps_aug (i := 6) sc_count_survivors.nd rfl (Or.inl rfl) (pv 5) ip_add)
            (pss_one (ps_set (i := 5) sc_count_survivors.nd rfl (Or.inl rfl) (pe_mid (pe_ifExp (pt_cmpR op_eq (pv 3) (pv 1) (nomark _)) (pv 2) pe_int))))))) (pss_cons (ps_par (i := 5) (j := 6) (by rfl) sc_count_survivors.nd rfl rfl (by decide) rfl rfl (pa_cons (pv 6) (pa_cons (pe_op op_mulW (pv 6) (pe_op op_sub (pv 4) pe_int)) pa_nil)) (by rfl))
            (pss_cons (ps_aug (i := 2) sc_count_survivors.nd rfl (Or.inl rfl) (pv 4) ip_mulW)
            (pss_one (ps_aug (i := 4) sc_count_survivors.nd rfl (Or.inl rfl) pe_int ip_sub)))))))
        (pss_one (ps_ret (pv 5)))))))), ?_⟩
    refine ⟨_, rfl, bs, rfl, ok, u1, ?_⟩
    refine ⟨_, rfl, _, rfl, rfl, _, _, rfl, rfl, (v : Int), 0, Txt.count (sgS bs) "+", rfl, by omega, by rw [count_P]; omega, ?_⟩
    refine ⟨by show 3 ≤ sizeLine; decide, fun T nT => ⟨T, _, rfl, .of upd_same, rfl, _, _, rfl, _, _, rfl, _, _, rfl, rfl, ?_⟩⟩
    refine ⟨fun x H' => ∃ T : Addr, x = .ref T ∧ Same H H' ∧ H' T = some (.tup [.int (((if v = 0 then 1 else 0 : Nat) : Nat) : Int), .int 0]), ?_, fun x H2 hm => ?_⟩
    · by_cases h0 : v = 0
      · subst h0
        exact ⟨_, rfl, rfl, true, dT rfl, by show 2 ≤ sizeLine; decide, fun T2 nT2 => ⟨T2, rfl, (same_new nT).trans (same_new nT2), upd_same⟩⟩
      · refine ⟨_, rfl, rfl, false, dF (vne (by omega)), by show 2 ≤ sizeLine; decide, fun T2 nT2 => ⟨T2, rfl, (same_new nT).trans (same_new nT2), ?_⟩⟩
        rw [if_neg h0]
        exact upd_same
    · obtain ⟨T2, rfl, sm2, hT2⟩ := hm
      refine ⟨T2, _, rfl, .of hT2, rfl, _, _, rfl, _, _, rfl, rfl, ?_⟩
      refine ⟨_, rfl, _, rfl, for_it (walk_str (z := sgS bs)) (fun i σ H' => ∃ (y : Option V) (c st rn pr sv : Int), σ = [some (.str (sgS bs)), some (.int (v : Int)), some (.int c), some (.int st), some (.int rn), some (.int pr), some (.int sv), y] ∧
        c = ((waysN (bs.take i) : Nat) : Int) ∧ st = ((upsN (bs.take i) : Nat) : Int) ∧ rn = ((runN (bs.take i) : Nat) : Int) ∧ pr = (((svS v (bs.take i)).pr : Nat) : Int) ∧ sv = (((svS v (bs.take i)).sv : Nat) : Int) ∧ H' = H2) ⟨_, _, _, _, _, _, rfl, rfl, rfl, rfl, rfl, rfl, rfl⟩ (fun i σ H' _ h => trivial) (fun i x σ H' H3 hi h hy => ?_) (fun σ H' h => ?_)⟩
      · obtain ⟨e1, c, hc, rfl⟩ := hy
        subst e1
        obtain ⟨b, hb, rfl⟩ := sg_get hc
        obtain ⟨y, cc, st, rn, pr, sv, rfl, rfl, rfl, rfl, rfl, rfl, rfl⟩ := h
        have es := take_snoc hb
        have oki := ok.take i
        have ui := ups_take u1 i
        have wl := ways_lt2 oki ui
        have sl := sv_le v oki
        have rl := run_eq oki
        cases b with
        | true =>
          obtain ⟨j1, j2⟩ := sv_up v (bs.take i)
          refine ⟨_, rfl, rfl, true, blP true, ?_⟩
          refine ⟨_, rfl, _, _, rfl, rfl, _, rfl, _, _, rfl, rfl, _, rfl, _, rfl, _, _, rfl, rfl, ?_⟩
          refine ⟨fun x H' => x = .int (((svS v (bs.take (i + 1))).pr : Nat) : Int) ∧ H' = H3, ?_, fun x H' hm => ?_⟩
          · by_cases h0 : upsN (bs.take i) + 1 = v
            · refine ⟨_, rfl, _, rfl, rfl, true, dT (congrArg V.int (by dsimp only; omega)), _, rfl, ?_, rfl⟩
              rw [es, j1, if_pos h0]
            · refine ⟨_, rfl, _, rfl, rfl, false, dF (vne (by dsimp only; omega)), ?_, rfl⟩
              rw [es, j1, if_neg h0]
              rfl
          · obtain ⟨rfl, rfl⟩ := hm
            refine ⟨_, _, _, _, _, _, rfl, ?_, ?_, ?_, rfl, ?_, rfl⟩
            · rw [es, ways_up]
            · rw [es, ups_up]; dsimp only; omega
            · rw [es, run_up]; dsimp only; omega
            · rw [es, j2]; dsimp only; omega
        | false =>
          have hp := ok i hb
          obtain ⟨j1, j2⟩ := sv_dn v (bs.take i)
          have e1 : ((runN (bs.take i) : Nat) : Int) - 1 = ((runN (bs.take i) - 1 : Nat) : Int) := by omega
          refine ⟨_, rfl, rfl, false, blP false, ?_⟩
          refine ⟨_, rfl, _, rfl, _, rfl, _, _, rfl, rfl, _, _, rfl, rfl, wide_mul (a := 1401) (b := 30) (natAbs_lt (by omega)) (by rw [e1]; exact natAbs_lt (by omega)) (by decide) (by decide) (by decide), _, _, rfl, ?_⟩
          refine ⟨_, rfl, _, rfl, _, _, rfl, rfl, wide_ways oki ui, ?_⟩
          refine ⟨_, rfl, _, _, rfl, rfl, _, _, _, _, _, _, rfl, ?_, ?_, ?_, ?_, ?_, rfl⟩
          · rw [es, ways_dn, Int.natCast_mul]
          · rw [es, ups_dn]
          · rw [es, run_dn]; dsimp only; omega
          · rw [es, j1]
          · rw [es, j2, e1, Int.natCast_mul]
      · obtain ⟨y, cc, st, rn, pr, sv, rfl, rfl, rfl, rfl, rfl, rfl, rfl⟩ := h
        rw [sg_size, List.take_length] at *
        exact ⟨_, rfl, q _ sm2⟩
end
/-- the dict of what each patch saved -/
def Saved (kvs : List (Key × V)) (l : List Int) (sv : Int → Int) : Prop := ∀ k ∈ l, 0 < k → valV kvs (Sum.inl k) = some (.int (sv k))
theorem putK_le (kvs : List (Key × V)) (k : Key) (v : V) : (putK kvs k v).length ≤ kvs.length + 1 := by
  unfold putK
  split <;> simp
section
variable {P : Program} {w : World} {K : PySem.W.Frag} {mg : Str → Option Value} {base : Heap}
/-! ### _law_present -/
def spPres (K : PySem.W.Frag) : Sp := fun vs H Q _ => ∃ (a : Addr) (row : List Int), vs = [.ref a] ∧ SqL K H a (row.map V.int) ∧ row.length ≤ 200 ∧ rowB row = true ∧ ∀ H', Same H H' → Q (.int (presL row)) H'
theorem ok_law_present {f : Addr} {fd : FuncData} (F : Fun K "_law_present" "_law_present" s_law_present f fd) : FnG P w K mg base CX0 1 f fd ["row"] (spPres K) := by
  refine okG F sc_law_present (fun vs H Q E h => ?_) (fun cdv A outer s H vs Q E hG hr h => ?_)
  · obtain ⟨a, row, rfl, _⟩ := h
    rfl
  · obtain ⟨a, row, rfl, hS, hl, hB, q⟩ := h
    have hu := hu_of hr
    refine ⟨_, (pss_cons (ps_par (i := 1) (j := 2) (by rfl) sc_law_present.nd rfl rfl (by decide) rfl rfl (pa_cons pe_int (pa_cons pe_dnewK pa_nil)) (by rfl))
        (pss_cons (ps_for PassesOwn.never rfl (pi_list (pv 0)) (pg_name (i := 3) sc_law_present.nd rfl (Or.inl rfl))
          (pss_one (ps_if (pt_cmpR op_gt (pv 3) pe_int (nomark _)) (pss_cons (ps_dput hu (pv 2) (pv 3) (pv 1) rfl)
            (pss_one (ps_set (i := 1) sc_law_present.nd rfl (Or.inl rfl) (pv 3)))) (pss_one (ps_set (i := 1) sc_law_present.nd rfl (Or.inl rfl) (pe_dget hu (pv 2) (pe_op op_sub pe_int (pv 3)) (fun _ _ => rfl)))))))
        (pss_one (ps_ret (pv 1))))), ?_⟩
    refine fun d nd => ⟨_, _, rfl, ?_⟩
    refine ⟨_, rfl, a, rfl, ⟨_, (same_new nd).seq hS⟩, for_list (xs := row.map V.int) (fun i σ H' => ∃ (y : Option V) (pr : Int) (kvs : List (Key × V)), σ = [some (.ref a), some (.int pr), some (.ref d), y] ∧ Same H H' ∧ H' d = some (.dK kvs) ∧ kvs.length ≤ i ∧ pr = (presS (row.take i)).1 ∧ Saved kvs (row.take i) (presS (row.take i)).2) ⟨_, _, [], rfl, same_new nd, upd_same, Nat.zero_le _, rfl, fun k hk => by simp at hk⟩ (fun i σ H' _ h => ?_) (fun i x σ H' hx h => ?_) (fun σ H' h => ?_)⟩
    · obtain ⟨_, _, _, _, sm, _⟩ := h
      exact sm.seq hS
    · obtain ⟨e, rfl, he⟩ := get_int hx
      obtain ⟨y, pr, kvs, rfl, sm, hd, hk, rfl, sv⟩ := h
      have hi := lt_get he
      have es := take_snoc he
      have nd' : H d = none := nd
      by_cases h0 : 0 < e
      · have eP : presS (row.take (i + 1)) = (e, fun k => if k = e then (presS (row.take i)).1 else (presS (row.take i)).2 k) := by
          rw [es, pres_snoc]
          unfold presStep
          rw [if_pos h0]
        refine ⟨_, rfl, _, _, rfl, rfl, true, dT h0, ?_⟩
        refine ⟨_, rfl, _, rfl, _, rfl, d, _, rfl, DPut.k (k := Sum.inl e) hd (zl (by omega)), ?_⟩
        refine ⟨_, rfl, _, _, putK kvs (Sum.inl e) (.int (presS (row.take i)).1), rfl, Lp.Same.mut sm nd, upd_same, Nat.le_trans (putK_le _ _ _) (Nat.succ_le_succ hk), by rw [eP], ?_⟩
        rw [eP]
        intro k hk h1
        rw [valV_put]
        dsimp only
        by_cases z : k = e
        · rw [if_pos (by rw [z]), if_pos z]
        · rw [if_neg (fun q => z (Sum.inl.inj q)), if_neg z]
          rw [es] at hk
          exact sv k ((List.mem_append.mp hk).resolve_right fun y => z (List.mem_singleton.mp y)) h1
      · have hpre := rowB_ok hB he h0
        obtain ⟨m1, m2⟩ := List.mem_filter.mp hpre
        have m3 := of_decide_eq_true m2
        have eP : presS (row.take (i + 1)) = ((presS (row.take i)).2 (0 - e), (presS (row.take i)).2) := by
          rw [es, pres_snoc]
          unfold presStep
          rw [if_neg h0]
        have g : DGet H' d (.int (0 - e)) (some (.int ((presS (row.take i)).2 (0 - e)))) := by
          have z := DGet.k (k := Sum.inl (0 - e)) hd
          rw [sv _ m1 m3] at z
          exact z
        refine ⟨_, rfl, _, _, rfl, rfl, false, dF h0, ?_⟩
        refine ⟨_, rfl, _, rfl, _, _, rfl, rfl, d, _, rfl, g, _, _, kvs, rfl, sm, hd, by omega, by rw [eP], ?_⟩
        rw [eP]
        intro k hk h1
        rw [es] at hk
        exact sv k ((List.mem_append.mp hk).resolve_right fun y => h0 (List.mem_singleton.mp y ▸ h1)) h1
    · obtain ⟨y, pr, kvs, rfl, sm, hd, hk, rfl, sv⟩ := h
      rw [List.length_map, List.take_length]
      exact ⟨_, rfl, q _ sm⟩
end
end L56
set_option Elab.async false
set_option linter.all false
set_option maxRecDepth 100000
namespace L56
open PySem PySem.Spec PyProof.Rows L2 Lp
/-! ### what is counted from the end -/
def GetI (kvs : List (Key × V)) (j z : Nat) : Prop := valV kvs (Sum.inl ((j : Nat) : Int)) = some (.int ((z : Nat) : Int)) ∨ (valV kvs (Sum.inl ((j : Nat) : Int)) = none ∧ z = 0)
theorem GetI.get {kvs : List (Key × V)} {j z : Nat} {H : Hp} {d : Addr} (h : GetI kvs j z) (hd : H d = some (.dK kvs)) : ∃ o, DGet H d (.int ((j : Nat) : Int)) o ∧ o.getD (.int 0) = .int ((z : Nat) : Int) := by
  refine ⟨_, DGet.k (k := Sum.inl ((j : Nat) : Int)) hd, ?_⟩
  rcases h with h | ⟨h, rfl⟩
  · rw [h]
    rfl
  · rw [h]
    rfl
theorem GetI.put {kvs : List (Key × V)} {j i z y : Nat} (h : GetI kvs j z) (hy : j = i → y = z) (hn : j ≠ i → True) : GetI (putK kvs (Sum.inl ((i : Nat) : Int)) (.int ((y : Nat) : Int))) j z := by
  unfold GetI
  rw [valV_put]
  by_cases e : j = i
  · rw [if_pos (by rw [e]), hy e]
    exact .inl rfl
  · rw [if_neg (fun q => e (by have := Sum.inl.inj q; omega))]
    exact h
theorem GetI.new {kvs : List (Key × V)} {i y : Nat} : GetI (putK kvs (Sum.inl ((i : Nat) : Int)) (.int ((y : Nat) : Int))) i y := by
  unfold GetI
  rw [valV_put, if_pos rfl]
  exact .inl rfl
theorem GetI.other {kvs : List (Key × V)} {j i z y : Nat} (h : GetI kvs j z) (e : j ≠ i) : GetI (putK kvs (Sum.inl ((i : Nat) : Int)) (.int ((y : Nat) : Int))) j z := by
  unfold GetI
  rw [valV_put, if_neg (fun q => e (by have := Sum.inl.inj q; omega))]
  exact h
def runV (bs : List Bool) (i : Nat) : List V := (List.range (i + 1)).map fun j => V.int ((runN (bs.take j) : Nat) : Int)
theorem runV_succ (bs : List Bool) (i : Nat) : runV bs (i + 1) = runV bs i ++ [.int ((runN (bs.take (i + 1)) : Nat) : Int)] := by
  unfold runV
  rw [List.range_succ, List.map_append]
  rfl
theorem runV_last (bs : List Bool) (i : Nat) : atI (runV bs i) (-1) = some (.int ((runN (bs.take i) : Nat) : Int)) := by
  unfold runV
  rw [List.range_succ, List.map_append]
  exact atI_last _ _
theorem runV_len (bs : List Bool) (i : Nat) : (runV bs i).length = i + 1 := by
  unfold runV
  rw [List.length_map, List.length_range]
theorem runV_at {bs : List Bool} {i j : Nat} (h : j ≤ i) : atI (runV bs i) ((j : Nat) : Int) = some (.int ((runN (bs.take j) : Nat) : Int)) := by
  refine atI_nat ?_
  unfold runV
  rw [List.getElem?_map, List.getElem?_range (by omega)]
  rfl
theorem cut_sgA (bs : List Bool) (k : Nat) : cutS (sgS bs) none (some (k : Int)) = sgS (bs.take k) := by
  by_cases h : k ≤ bs.length
  · exact cut_sg bs k h
  · unfold cutS
    rw [HT.sIx_none, HT.sIx_nat, sgS_len, List.drop_zero, Nat.sub_zero, Nat.min_eq_right (by omega), List.take_of_length_le (l := bs) (by omega)]
    show (⟨(((bs.map sgC).toArray.toList).take bs.length).toArray⟩ : Str) = ⟨(bs.map sgC).toArray⟩
    rw [List.take_of_length_le (by show (bs.map sgC).length ≤ _; rw [List.length_map]; exact Nat.le_refl _)]
theorem sg_at {bs : List Bool} {i : Nat} {b : Bool} (h : bs[i]? = some b) : atI (sgS bs).cps.toList ((i : Nat) : Int) = some (sgC b) := by
  unfold atI
  show ((ixN (bs.map sgC).length ((i : Nat) : Int)).bind fun j => (bs.map sgC)[j]?) = _
  have hl := lt_get h
  rw [Evl.ixN_nat (by rw [List.length_map]; exact hl)]
  show (bs.map sgC)[i]? = _
  rw [List.getElem?_map, h]
  rfl
theorem hun_lt : (100 : Nat) ^ 200 < 2 ^ 1401 := by decide +kernel
theorem al_lt {bs : List Bool} (ok : SgOk bs) (u : upsN bs ≤ 100) (i : Nat) : alN bs i < 2 ^ 1401 := by
  have l := sg_len ok u
  have z := (ab_lt ok u (bs.length - i) (by omega)).1
  exact Nat.lt_of_le_of_lt z (Nat.lt_of_le_of_lt (Nat.pow_le_pow_right (by decide) (by omega)) hun_lt)
theorem pr_lt {bs : List Bool} (ok : SgOk bs) (u : upsN bs ≤ 100) (i k : Nat) (h : k ≤ 200) : prodN bs i k < 2 ^ 1401 :=
  Nat.lt_of_le_of_lt (prod_le ok u i k) (Nat.lt_of_le_of_lt (Nat.pow_le_pow_right (by decide) h) hun_lt)
theorem rest_lt {bs : List Bool} (ok : SgOk bs) (u : upsN bs ≤ 100) (m i k : Nat) (h : k ≤ 200) : alN bs m * prodN bs i k < 2 ^ 2802 := by
  have e : (2 : Nat) ^ 2802 = 2 ^ 1401 * 2 ^ 1401 := by rw [← Nat.pow_add]
  rw [e]
  exact Nat.mul_lt_mul'' (al_lt ok u m) (pr_lt ok u i k h)
/-- what the outer walk keeps ahead of moment m = n - k -/
structure FE (bs : List Bool) (k : Nat) (fk wk : List (Key × V)) : Prop where
  fl : fk.length ≤ k
  wl : wk.length ≤ 1 + 201 * k
  wt : ∀ m j, m + k = bs.length → j ≤ m → GetI wk j (wtN bs m j)
  dn : ∀ v : Nat, (∀ m, m + k = bs.length → upsN (bs.take m) < v) → v ≤ upsN bs → valV fk (Sum.inl ((v : Nat) : Int)) = some (.int ((survN bs v : Nat) : Int))
  no : ∀ v m : Nat, m + k = bs.length → v ≤ upsN (bs.take m) → valV fk (Sum.inl ((v : Nat) : Int)) = none
section
variable {P : Program} {w : World} {K : PySem.W.Frag} {mg : Str → Option Value} {base : Heap}
/-! ### _law_from_end -/
def spEnd : Sp := fun vs H Q _ => ∃ bs : List Bool, vs = [.str (sgS bs)] ∧ SgOk bs ∧ upsN bs ≤ 100 ∧ ∀ (H' : Hp) (d : Addr) (fk : List (Key × V)), Same H H' → H d = none → H' d = some (.dK fk) → (∀ v : Nat, v ≤ upsN bs → valV fk (Sum.inl ((v : Nat) : Int)) = some (.int ((survN bs v : Nat) : Int))) → Q (.ref d) H'
set_option maxHeartbeats 2000000 in
theorem ok_law_from_end {f : Addr} {fd : FuncData} (F : Fun K "_law_from_end" "_law_from_end" s_law_from_end f fd) (B : NoB mg) (T_law_ways : Gc P w K mg base 1 "_law_ways" spWays) : FnG P w K mg base CX0 2 f fd ["signs"] spEnd := by
  refine okG F sc_law_from_end (fun vs H Q E h => ?_) (fun cdv A outer s H vs Q E hG hr h => ?_)
  · obtain ⟨bs, rfl, _⟩ := h
    rfl
  · obtain ⟨bs, rfl, ok, u1, q⟩ := h
    have hu := hu_of hr
    have slen := sg_len ok u1
    have hz : (sgS bs).length ≤ sizeLine := by rw [sgS_len]; exact Lp.zs (by omega)
    refine ⟨_, (pss_cons (ps_set (i := 1) sc_law_from_end.nd rfl (Or.inl rfl) (pe_lst (pa_cons pe_int pa_nil)))
        (pss_cons (ps_for PassesOwn.never rfl (pi_str (pv 0)) (pg_name (i := 2) sc_law_from_end.nd rfl (Or.inl rfl))
          (pss_one (ps_expr (pe_bm PySem.F.plainAttrs_list PySem.F.slot_list_append PySem.F.type_list_append mt_append (pv 1) (pa_cons (pe_op op_add (pe_ix ix_list (pv 1) (pe_un un_neg pe_int) (fun _ _ => rfl)) (pe_ix ix_list (pe_lst (pa_cons pe_int (pa_cons (pe_un un_neg pe_int) pa_nil))) (pe_callTy call_int1 (by rfl) B.int (by decide +kernel) (pa_cons (pe_cmpR op_eq (pv 2) pe_str (nomark _)) pa_nil)) (fun _ _ => rfl))) pa_nil)))))
        (pss_cons (ps_par (i := 3) (j := 4) (by rfl) sc_law_from_end.nd rfl rfl (by decide) rfl rfl (pa_cons pe_dnewK (pa_cons (pe_disp (pps_cons (pe_callB call_len_str (by rfl) B.len PySem.boot_len (pa_cons (pv 0) pa_nil)) pe_int pps_nil) (by rfl) (by rfl) (fun z => by cases z) (by decide)) pa_nil)) (by rfl))
        (pss_cons (ps_for PassesOwn.never rfl (pi_range3 rfl B.range (pa_cons (pe_callB call_len_str (by rfl) B.len PySem.boot_len (pa_cons (pv 0) pa_nil)) (pa_cons (pe_un un_neg pe_int) (pa_cons (pe_un un_neg pe_int) pa_nil)))) (pg_name (i := 5) sc_law_from_end.nd rfl (Or.inl rfl))
          (pss_cons (ps_set (i := 6) sc_law_from_end.nd rfl (Or.inl rfl) (pe_dget2 hu (pv 4) (pv 5) pe_int (by constructor <;> rfl)))
          (pss_one (ps_if (pt_mid (PW.pt (pw_or (pt_cmpR op_eq (pv 5) pe_int (nomark _)) (pw_or1 (pt_cmpR op_eq (pe_ix ix_str (pv 0) (pe_op op_sub (pv 5) pe_int) (fun _ _ => rfl)) pe_str (nomark _)))))) (pss_cons (ps_set (i := 7) sc_law_from_end.nd rfl (Or.inl rfl) (pe_bm PySem.F.plainAttrs_str PySem.F.slot_str_count PySem.F.type_str_count mt_count (pe_slice sl_str (pv 0) po_none (po_some (pv 5))) (pa_cons pe_str pa_nil)))
            (pss_one (ps_dput hu (pv 3) (pv 7) (pe_op op_add (pe_dget2 hu (pv 3) (pv 7) pe_int (by constructor <;> rfl)) (pe_op op_mulW (pv 6) (pe_g T_law_ways hG hr (by decide) (by rfl) (pa_cons (pe_slice sl_str (pv 0) po_none (po_some (pv 5))) pa_nil)))) rfl))) (pss_cons (ps_set (i := 8) sc_law_from_end.nd rfl (Or.inl rfl) (pv 6))
            (pss_one (ps_for PassesOwn.never rfl (pi_range3 rfl B.range (pa_cons (pe_op op_sub (pv 5) pe_int) (pa_cons (pe_un un_neg pe_int) (pa_cons (pe_un un_neg pe_int) pa_nil)))) (pg_name (i := 9) sc_law_from_end.nd rfl (Or.inl rfl))
              (pss_one (ps_if (pt_cmpR op_eq (pe_ix ix_str (pv 0) (pv 9) (fun _ _ => rfl)) pe_str (nomark _)) (pss_one (ps_dput hu (pv 4) (pv 9) (pe_op op_add (pe_dget2 hu (pv 4) (pv 9) pe_int (by constructor <;> rfl)) (pv 8)) rfl)) (pss_one (ps_set (i := 8) sc_law_from_end.nd rfl (Or.inl rfl) (pe_op op_mulW (pv 8) (pe_op op_sub (pe_ix ix_list (pv 1) (pv 9) (fun _ _ => rfl)) pe_int)))))))))))))
        (pss_one (ps_ret (pv 3))))))), ?_⟩
    refine ⟨by show 1 ≤ sizeLine; decide, fun p np => ?_⟩
    refine ⟨_, rfl, _, rfl, for_it (walk_str (z := sgS bs)) (fun i σ H' => (∃ y, σ = [some (.str (sgS bs)), some (.ref p), y, none, none, none, none, none, none, none]) ∧ Same H H' ∧ H' p = some (.lst (runV bs i))) ⟨⟨_, rfl⟩, same_new np, upd_same⟩ (fun i σ H' _ h => trivial) (fun i x σ H' H2 hi h hy => ?_) (fun σ H' h => ?_)⟩
    · obtain ⟨e1, c, hc, rfl⟩ := hy
      subst e1
      obtain ⟨b, hb, rfl⟩ := sg_get hc
      obtain ⟨⟨y, rfl⟩, sm, hp⟩ := h
      have es := take_snoc hb
      have hi2 := lt_get hb
      refine ⟨_, rfl, .inl ⟨rfl, _, .of hp⟩, _, rfl, 1, rfl, p, _, -1, _, rfl, rfl, .of hp, runV_last bs i, 1, rfl, by show 2 ≤ sizeLine; decide, fun L nL => ?_⟩
      have hpL := same_new (o := .lst [V.int 1, .int (-1)]) nL _ _ hp
      refine ⟨_, rfl, rfl, .inr ⟨!b, congrArg (fun v => [v]) (blM b), ?_⟩⟩
      cases b with
      | true =>
        refine ⟨L, _, 0, _, rfl, rfl, .of upd_same, at0, _, _, rfl, rfl, p, _, _, rfl, rfl, hpL, by rw [runV_len]; exact zl (by omega), ⟨_, rfl⟩, Lp.Same.mut (sm.trans (same_new nL)) np, ?_⟩
        rw [upd_same, runV_succ, es, run_up]
        rfl
      | false =>
        have hpos := ok i hb
        refine ⟨L, _, 1, _, rfl, rfl, .of upd_same, at1, _, _, rfl, rfl, p, _, _, rfl, rfl, hpL, by rw [runV_len]; exact zl (by omega), ⟨_, rfl⟩, Lp.Same.mut (sm.trans (same_new nL)) np, ?_⟩
        rw [upd_same, runV_succ, es, run_dn]
        have e : ((runN (bs.take i) - 1 : Nat) : Int) = ((runN (bs.take i) : Nat) : Int) + -1 := by omega
        rw [e]
    · obtain ⟨⟨y, rfl⟩, sm, hp⟩ := h
      rw [sg_size] at hp
      refine fun fd nfd wd nwd => ⟨_, rfl, _, rfl, hz, upd_same, [(Sum.inl ((bs.length : Nat) : Int), .int 1)], ?_, by show 1 ≤ 15; decide, _, _, rfl, ?_⟩
      · rw [sgS_len]
        rfl
      have nfd0 : H fd = none := sm.free nfd
      have nwd1 : H' wd = none := (same_new (o := .dK []) nfd).free nwd
      have nwd0 : H wd = none := sm.free nwd1
      have ndw : fd ≠ wd := ne_of_none upd_same nwd
      have npf : p ≠ fd := ne_of_none hp nfd
      have npw : p ≠ wd := ne_of_none hp nwd1
      have hrg : RgC (((sgS bs).length : Nat) : Int) (-1) (-1) (bs.length + 1) := by
        rw [sgS_len]
        have z := RgC.neg (i := ((bs.length : Nat) : Int)) (j := -1) (by omega) (by omega) (by decide) (by decide)
        have e : (((bs.length : Nat) : Int) - -1).toNat = bs.length + 1 := by omega
        rwa [e] at z
      refine ⟨_, rfl, _, rfl, hz, 1, rfl, 1, rfl, _, _, _, bs.length + 1, rfl, hrg, for_it (walk_rangeC) (fun k σ H' => ∃ (y2 y5 y6 y7 y8 y9 : Option V) (fk wk : List (Key × V)), σ = [some (.str (sgS bs)), some (.ref p), y2, some (.ref fd), some (.ref wd), y5, y6, y7, y8, y9] ∧ Same H H' ∧ H' p = some (.lst (runV bs bs.length)) ∧ H' fd = some (.dK fk) ∧ H' wd = some (.dK wk) ∧ FE bs k fk wk) ⟨_, _, _, _, _, _, [], _, rfl, ?_, ?_, ?_, upd_same, ?_⟩ (fun k σ H' _ h => trivial) (fun k x σ H1 H2 hk h hy => ?_) (fun σ H' h => ?_)⟩
      · exact Lp.Same.mut ((sm.trans (same_new nfd)).trans (same_new nwd)) nwd0
      · rw [upd_ne npw, upd_ne npw, upd_ne npf]
        exact hp
      · rw [upd_ne ndw, upd_ne ndw, upd_same]
      · have e0 : mergeK [] [((Sum.inl ((bs.length : Nat) : Int) : Key), V.int 1)] = putK [] (Sum.inl ((bs.length : Nat) : Int)) (.int ((1 : Nat) : Int)) := rfl
        rw [e0]
        refine ⟨Nat.zero_le _, by show 1 ≤ 1; decide, fun m j hm hj => ?_, fun v h1 h2 => ?_, fun v m _ _ => rfl⟩
        · have em : m = bs.length := by omega
          subst em
          by_cases ej : j = bs.length
          · subst ej
            rw [wt_top, al_end]
            exact GetI.new
          · rw [wt_end (by omega)]
            exact GetI.other (.inr ⟨rfl, rfl⟩) ej
        · have := h1 bs.length (by omega)
          rw [List.take_length] at this
          omega
      · obtain ⟨e1, e2⟩ := hy
        subst e1
        obtain ⟨y2, y5, y6, y7, y8, y9, fk, wk, rfl, sm, hp, hfd, hwd, fe⟩ := h
        obtain ⟨m, hm⟩ : ∃ m : Nat, m + k = bs.length := ⟨bs.length - k, by omega⟩
        have ex : x = .int ((m : Nat) : Int) := e2.trans (congrArg V.int (by rw [sgS_len]; omega))
        subst ex
        obtain ⟨o, go, eo⟩ := (fe.wt m m hm (Nat.le_refl _)).get hwd
        rw [wt_top] at eo
        have okm := ok.take m
        have um := ups_take u1 m
        refine ⟨_, rfl, wd, rfl, .inl ⟨_, .inl hwd⟩, _, rfl, o, go, ?_⟩
        rw [eo]
        refine ⟨fun b H3 => H3 = H2 ∧ (b = true → m = 0 ∨ (0 < m ∧ bs[m - 1]? = some true)) ∧ (b = false → 0 < m ∧ bs[m - 1]? = some false), ?_, fun b H3 hM => ?_⟩
        · by_cases h0 : m = 0
          · exact ⟨_, rfl, rfl, true, dT (by rw [h0]; rfl), rfl, fun _ => .inl h0, fun z => nomatch z⟩
          · have hg := List.getElem?_eq_getElem (show m - 1 < bs.length by omega)
            have em1 : ((m : Nat) : Int) - 1 = ((m - 1 : Nat) : Int) := by omega
            refine ⟨_, rfl, rfl, false, dF (vne (by omega)), _, rfl, _, rfl, _, _, rfl, rfl, _, _, sgC bs[m - 1], rfl, rfl, hz, by rw [em1]; exact sg_at hg, rfl, bs[m - 1], blP _, rfl, fun z => .inr ⟨by omega, by rw [hg, z]⟩, fun z => ⟨by omega, by rw [hg, z]⟩⟩
        · obtain ⟨rfl, ht, hf⟩ := hM
          cases b with
          | true =>
            have hc := ht rfl
            have upm : ∀ m', m' + (k + 1) = bs.length → upsN (bs.take m) = upsN (bs.take m') + 1 ∧ bs[m']? = some true := fun m' hm' => by
              have em : m' = m - 1 := by omega
              subst em
              rcases hc with z | ⟨z1, z2⟩
              · omega
              · have es := take_snoc z2
                have e1 : m - 1 + 1 = m := by omega
                rw [e1] at es
                rw [es, ups_up]
                exact ⟨rfl, z2⟩
            have sa := surv_at (bs := bs) (m := m) (by omega) hc
            refine ⟨_, rfl, _, rfl, _, rfl, _, rfl, hz, rfl, _, _, rfl, rfl, ?_⟩
            rw [cut_sgA, count_P]
            have gn : DGet H3 fd (.int ((upsN (bs.take m) : Nat) : Int)) none := by
              have z := DGet.k (k := Sum.inl ((upsN (bs.take m) : Nat) : Int)) hfd
              rw [fe.no _ m hm (Nat.le_refl _)] at z
              exact z
            refine ⟨_, rfl, fd, rfl, .inl ⟨_, .inl hfd⟩, _, rfl, none, gn, ?_⟩
            refine ⟨_, rfl, _, rfl, _, rfl, _, rfl, _, rfl, hz, bs.take m, congrArg (fun z => [V.str z]) (cut_sgA bs m), okm, um, fun H4 s4 => ?_⟩
            refine ⟨_, _, rfl, rfl, wide_mul (a := 1401) (b := 1401) (natAbs_lt (al_lt ok u1 m)) (natAbs_lt (ways_lt2 okm um)) (by decide) (by decide) (by decide), 0, _, rfl, rfl, ?_⟩
            refine ⟨_, rfl, _, rfl, fd, _, rfl, DPut.k (k := Sum.inl ((upsN (bs.take m) : Nat) : Int)) (s4 _ _ hfd) (zl (by have := fe.fl; omega)), ?_⟩
            have eval : (0 : Int) + ((alN bs m : Nat) : Int) * ((waysN (bs.take m) : Nat) : Int) = ((survN bs (upsN (bs.take m)) : Nat) : Int) := by
              rw [sa, Int.natCast_mul, Int.zero_add, Int.mul_comm]
            refine ⟨_, _, _, _, _, _, putK fk (Sum.inl ((upsN (bs.take m) : Nat) : Int)) (.int ((survN bs (upsN (bs.take m)) : Nat) : Int)), wk, rfl, Lp.Same.mut (sm.trans s4) nfd0, ?_, ?_, ?_, ?_⟩
            · rw [upd_ne npf]
              exact s4 _ _ hp
            · rw [upd_same]
              dsimp only
              rw [eval]
            · rw [upd_ne ndw.symm]
              exact s4 _ _ hwd
            · refine ⟨Nat.le_trans (putK_le _ _ _) (Nat.succ_le_succ fe.fl), by have := fe.wl; omega, fun m' j hm' hj => ?_, fun v h1 h2 => ?_, fun v m' hm' hv => ?_⟩
              · obtain ⟨_, z2⟩ := upm m' hm'
                rw [wt_up z2 hj]
                have em : m' + 1 = m := by omega
                rw [em]
                exact fe.wt m j hm (by omega)
              · rw [valV_put]
                by_cases ev : v = upsN (bs.take m)
                · subst ev
                  rw [if_pos rfl]
                · rw [if_neg (fun q => ev (by have := Sum.inl.inj q; omega))]
                  refine fe.dn v (fun m2 hm2 => ?_) h2
                  have e2 : m2 = m := by omega
                  subst e2
                  rcases hc with z | ⟨z1, z2⟩
                  · subst z
                    have e0 : upsN (bs.take 0) = 0 := rfl
                    rw [e0] at ev ⊢
                    omega
                  · have := h1 (m2 - 1) (by omega)
                    have := (upm (m2 - 1) (by omega)).1
                    omega
              · have z1 := (upm m' hm').1
                rw [valV_put, if_neg (fun q => by have := Sum.inl.inj q; omega)]
                exact fe.no v m hm (by omega)
          | false =>
            obtain ⟨m0, hs⟩ := hf rfl
            have es := take_snoc hs
            have em1 : m - 1 + 1 = m := by omega
            rw [em1] at es
            have upm : upsN (bs.take m) = upsN (bs.take (m - 1)) := by rw [es, ups_dn]
            have hrg2 : RgC (((m : Nat) : Int) - 2) (-1) (-1) (m - 1) := by
              have z := RgC.neg (i := ((m : Nat) : Int) - 2) (j := -1) (by omega) (by omega) (by decide) (by decide)
              have e : (((m : Nat) : Int) - 2 - -1).toNat = m - 1 := by omega
              rwa [e] at z
            refine ⟨_, rfl, _, rfl, _, _, rfl, rfl, 1, rfl, 1, rfl, _, _, _, m - 1, rfl, hrg2, for_it (walk_rangeC) (fun l σ H' => ∃ (y7 y9 : Option V) (rest : Int) (wk' : List (Key × V)), σ = [some (.str (sgS bs)), some (.ref p), y2, some (.ref fd), some (.ref wd), some (.int ((m : Nat) : Int)), some (.int ((alN bs m : Nat) : Int)), y7, some (.int rest), y9] ∧
              rest = ((alN bs m * prodN bs (m - 1 - l) l : Nat) : Int) ∧ Same H H' ∧ H' p = some (.lst (runV bs bs.length)) ∧ H' fd = some (.dK fk) ∧ H' wd = some (.dK wk') ∧ wk'.length ≤ 1 + 201 * k + l ∧
              ∀ j, j ≤ m - 1 → GetI wk' j (wtN bs m j + if m - 1 - l ≤ j ∧ bs[j]? = some true then alN bs m * prodN bs (j + 1) (m - 1 - (j + 1)) else 0)) ⟨_, _, _, wk, rfl, ?_, sm, hp, hfd, hwd, by have := fe.wl; omega, fun j hj => ?_⟩ (fun l σ H' _ h => trivial) (fun l x σ H4 H5 hl h hy => ?_) (fun σ H' h => ?_)⟩
            · show _ = ((alN bs m * 1 : Nat) : Int)
              rw [Nat.mul_one]
            · have z := fe.wt m j hm (by omega)
              rw [if_neg ?_]
              · exact z
              · rintro ⟨h1, h2⟩
                have ej : j = m - 1 := by omega
                rw [ej, hs] at h2
                cases h2
            · obtain ⟨e3, e4⟩ := hy
              subst e3
              obtain ⟨y7, y9, rest, wk', rfl, rfl, sm5, hp5, hfd5, hwd5, wl5, gt⟩ := h
              obtain ⟨a, ha⟩ : ∃ a : Nat, a + l + 2 = m := ⟨m - 2 - l, by omega⟩
              have ex : x = .int ((a : Nat) : Int) := e4.trans (congrArg V.int (by omega))
              subst ex
              have hg := List.getElem?_eq_getElem (show a < bs.length by omega)
              have ea1 : m - 1 - l = a + 1 := by omega
              have ea2 : m - 1 - (l + 1) = a := by omega
              have pl := prod_left (bs := bs) a l
              rw [ea1] at gt ⊢
              rw [ea2]
              refine ⟨_, rfl, _, rfl, _, _, sgC bs[a], rfl, rfl, hz, sg_at hg, rfl, bs[a], blP _, ?_⟩
              cases hb : bs[a] with
              | true =>
                rw [hb] at hg
                obtain ⟨o2, g2, eo2⟩ := (gt a (by omega)).get hwd5
                refine ⟨_, rfl, wd, rfl, .inl ⟨_, .inl hwd5⟩, _, rfl, o2, g2, _, rfl, ?_⟩
                rw [eo2]
                refine ⟨_, _, rfl, rfl, _, rfl, _, rfl, wd, _, rfl, DPut.k (k := Sum.inl ((a : Nat) : Int)) hwd5 (zl (by omega)), ?_⟩
                refine ⟨_, _, _, putK wk' (Sum.inl ((a : Nat) : Int)) (.int ((wtN bs m a + 0 + alN bs m * prodN bs (a + 1) l : Nat) : Int)), rfl, ?_, Lp.Same.mut sm5 nwd0, ?_, ?_, ?_, Nat.le_trans (putK_le _ _ _) (by omega), fun j hj => ?_⟩
                · rw [pl, if_neg (by rw [hg]; decide), Nat.one_mul]
                · rw [upd_ne npw]; exact hp5
                · rw [upd_ne ndw]; exact hfd5
                · rw [upd_same]
                  dsimp only
                  rw [if_neg (by omega), ← Int.natCast_add]
                · by_cases ej : j = a
                  · subst ej
                    rw [if_pos ⟨Nat.le_refl _, hg⟩]
                    have e : m - 1 - (j + 1) = l := by omega
                    rw [e]
                    have z := GetI.new (kvs := wk') (i := j) (y := wtN bs m j + 0 + alN bs m * prodN bs (j + 1) l)
                    rwa [Nat.add_zero] at z
                  · have z := GetI.other (y := wtN bs m a + 0 + alN bs m * prodN bs (a + 1) l) (gt j hj) ej
                    by_cases c : a + 1 ≤ j ∧ bs[j]? = some true
                    · rw [if_pos c] at z
                      rw [if_pos ⟨by omega, c.2⟩]
                      exact z
                    · rw [if_neg c] at z
                      rw [if_neg (fun q => c ⟨by omega, q.2⟩)]
                      exact z
              | false =>
                rw [hb] at hg
                have pos := ok a hg
                have er : ((runN (bs.take a) : Nat) : Int) - 1 = ((runN (bs.take a) - 1 : Nat) : Int) := by omega
                have rl := run_eq (ok.take a)
                have ra := ups_take u1 a
                refine ⟨_, rfl, _, rfl, _, rfl, p, _, _, _, rfl, rfl, .of hp5, runV_at (by omega), _, _, rfl, rfl, _, _, rfl, rfl, wide_mul (a := 2802) (b := 30) (natAbs_lt (rest_lt ok u1 m (a + 1) l (by omega))) (by rw [er]; exact natAbs_lt (by omega)) (by decide) (by decide) (by decide), ?_⟩
                refine ⟨_, _, _, wk', rfl, ?_, sm5, hp5, hfd5, hwd5, by omega, fun j hj => ?_⟩
                · rw [pl, if_pos hg, er, ← Int.natCast_mul, Nat.mul_assoc, Nat.mul_comm (runN (bs.take a) - 1)]
                · have z := gt j hj
                  by_cases c : a + 1 ≤ j ∧ bs[j]? = some true
                  · rw [if_pos c] at z
                    rw [if_pos ⟨by omega, c.2⟩]
                    exact z
                  · rw [if_neg c] at z
                    rw [if_neg (fun q => c ⟨?_, q.2⟩)]
                    · exact z
                    · have : j ≠ a := fun e => by rw [e, hg] at q; exact nomatch q.2
                      omega
            · obtain ⟨y7, y9, rest, wk', rfl, rfl, sm5, hp5, hfd5, hwd5, wl5, gt⟩ := h
              refine ⟨_, _, _, _, _, _, fk, wk', rfl, sm5, hp5, hfd5, hwd5, ⟨by have := fe.fl; omega, by omega, fun m' j hm' hj => ?_, fun v h1 h2 => ?_, fun v m' hm' hv => ?_⟩⟩
              · have em : m' = m - 1 := by omega
                subst em
                rw [wt_dn hs hj, em1]
                have z := gt j hj
                have e0 : m - 1 - (m - 1) = 0 := by omega
                rw [e0] at z
                by_cases c : bs[j]? = some true
                · rw [if_pos ⟨Nat.zero_le _, c⟩] at z
                  rw [if_pos c]
                  exact z
                · rw [if_neg (fun q => c q.2)] at z
                  rw [if_neg c]
                  exact z
              · refine fe.dn v (fun m2 hm2 => ?_) h2
                have e2 : m2 = m := by omega
                subst e2
                rw [upm]
                exact h1 (m2 - 1) (by omega)
              · have em : m' = m - 1 := by omega
                subst em
                exact fe.no v m hm (by omega)
      · obtain ⟨y2, y5, y6, y7, y8, y9, fk, wk, rfl, sm, hp, hfd, hwd, fe⟩ := h
        exact ⟨_, rfl, q _ fd fk sm nfd0 hfd fun v hv => fe.dn v (fun m hm => by omega) hv⟩
end
end L56
set_option Elab.async false
set_option linter.all false
set_option maxRecDepth 100000
namespace L56
open PySem PySem.Spec PyProof.Rows L2 Lp
theorem surv_log {bs : List Bool} (ok : SgOk bs) (u : upsN bs ≤ 100) (v : Nat) : ((survN bs v : Nat) : Int).natAbs.log2 < 1920 := by
  have a := sv_le v ok
  have b := ways_lt2 ok u
  exact log_nat (k := 1401) (Nat.lt_of_le_of_lt (Nat.le_trans (Nat.le_add_right _ _) a) b) (by decide) (by decide)
theorem sum_range (f : Nat → Nat) : ∀ n, (((List.range (n + 1)).map fun v => ((f v : Nat) : Int)).sum) = ((sumTo f n : Nat) : Int)
  | 0 => by show ((f 0 : Nat) : Int) + 0 = _; exact Int.add_zero _
  | n + 1 => by
    rw [List.range_succ, List.map_append, List.sum_append, sum_range f n]
    show _ + (((f (n + 1) : Nat) : Int) + 0) = ((sumTo f n + f (n + 1) : Nat) : Int)
    rw [Int.add_zero, Int.natCast_add]
section
variable {P : Program} {w : World} {K : PySem.W.Frag} {mg : Str → Option Value} {base : Heap}
def spFew : Sp := fun vs H Q _ => ∃ bs : List Bool, vs = [.str (sgS bs)] ∧ SgOk bs ∧ bs.length ≤ 8 ∧ waysN bs ≤ 200 ∧ ∀ H', Same H H' → Q (.bl true) H'
set_option maxHeartbeats 1000000 in
theorem ok_law_few_right {f : Addr} {fd : FuncData} (F : Fun K "_law_few_right" "_law_few_right" s_law_few_right f fd) (B : NoB mg) (T_law_every : Gc P w K mg base 1 "_law_every" spEvery) (T_law_present : Gc P w K mg base 1 "_law_present" (spPres K)) (T_count_survivors : Gc P w K mg base 4 "count_survivors" spSurv) (T_K_count_survivors : Gk P w K mg base 4 "count_survivors" 0 ["survivor", "shape"] gRev spSurv) : FnG P w K mg base CX0 5 f fd ["signs"] spFew := by
  refine okG F sc_law_few_right (fun vs H Q E h => ?_) (fun cdv A outer s H vs Q E hG hr h => ?_)
  · obtain ⟨bs, rfl, _⟩ := h
    rfl
  · obtain ⟨bs, rfl, ok, l8, w2, q⟩ := h
    have hu64 := hr.units
    have ud := ups_dns bs
    have u1 : upsN bs ≤ 100 := by omega
    obtain ⟨fo1, fo2⟩ := few_ok ok l8
    obtain ⟨ev1, ev2⟩ := every_ok ok
    refine ⟨_, (pss_cons (ps_setLc (i := 1) (own := [("row", 4)]) (g := gName 4) (tt := tYes) rfl sc_law_few_right.nd rfl rfl (sw_true rfl rfl rfl (by decide +kernel)) (pi_list (pe_g T_law_every hG hr (by decide) (by rfl) (pa_cons (pv 0) pa_nil))) (blkOk_by (own := [("row", 4)]) (N := N_law_few_right) (sc := defScope s_law_few_right) (by decide +kernel)) (fun _ _ _ _ _ => (pg_name (i := 4) sc_law_few_right.nd rfl (Or.inl rfl))) (fun _ _ _ _ _ => pts_nil) (fun _ _ _ _ _ => (pe_g T_law_present hG hr (by decide) (by rfl) (pa_cons (pv 4) pa_nil))))
        (pss_cons (ps_for PassesOwn.never rfl (pi_range1 rfl B.range (pa_cons (pe_op op_add (pe_bm PySem.F.plainAttrs_str PySem.F.slot_str_count PySem.F.type_str_count mt_count (pv 0) (pa_cons pe_str pa_nil)) pe_int) pa_nil)) (pg_name (i := 2) sc_law_few_right.nd rfl (Or.inl rfl))
          (pss_cons (ps_set (i := 3) sc_law_few_right.nd rfl (Or.inl rfl) (pe_bm PySem.F.plainAttrs_list PySem.F.slot_list_count PySem.F.type_list_count mt_lcount (pv 1) (pa_cons (pv 2) pa_nil)))
          (pss_one (ps_if (pt_cmpR op_ne (pe_callB (call_repr hG hu64) (by rfl) B.repr (by decide +kernel) (pa_cons (pe_lst (pa_cons (pe_g T_count_survivors hG hr (by decide) (by rfl) (pa_cons (pv 0) (pa_cons (pv 2) pa_nil))) (pa_cons (pe_gK0 T_K_count_survivors hG hr (by decide) (by rfl) (pk_cons (pv 2) (pk_cons (pv 0) pk_nil))) pa_nil))) pa_nil)) (pe_callB (call_repr hG hu64) (by rfl) B.repr (by decide +kernel) (pa_cons (pe_lst (pa_cons (pv 3) (pa_cons (pv 3) pa_nil))) pa_nil)) (nomark _)) (pss_one (ps_ret pe_bl)) pss_nil))))
        (pss_one (ps_ret pe_bl)))), ?_⟩
    refine ⟨_, rfl, bs, rfl, ok, u1, by omega, fun H1 p rs s1 hp hrs rr => ⟨p, rfl, ⟨_, .of hrs⟩, fun D hD => lc_list (xs := rs) (LcP H1 D fun i => (((everyL bs).take i).map presL).map V.int) (.init hD rfl) (fun i H' _ pp => .of (pp.2.1 _ _ hrs)) (fun i x H' hx pp => ?_) (fun H2 pp => ?_)⟩⟩
    · have hj := lt_get hx
      rw [rr.1] at hj
      have eg := List.getElem?_eq_getElem hj
      obtain ⟨pr, er, hpr⟩ := rr.2 i _ eg
      have ex : x = .ref pr := Option.some.inj (hx.symm.trans er)
      subst ex
      generalize (everyL bs)[i] = row at hpr eg
      have rl := (ev1 row (mem_get eg)).2
      refine ⟨rfl, _, rfl, pr, row, rfl, .of (pp.2.1 _ _ hpr), by omega, fo1 row (mem_get eg), fun H3 s3 => pp.put s3 ?_ ?_⟩
      · rw [take_get eg, List.map_append, List.map_append]
        rfl
      · rw [List.length_map, List.length_map, List.length_take]
        omega
    · have h2 : H2 D = some (.lst (((everyL bs).map presL).map V.int)) := by
        have z := pp.2.2
        dsimp only at z
        rw [rr.1, List.take_length] at z
        exact z
      have s2 : Same H H2 := s1.trans pp.2.1
      refine ⟨_, rfl, rfl, _, _, rfl, rfl, _, _, rfl, rfl, Txt.count (sgS bs) "+" + 1, rfl, by rw [count_P]; omega, by rw [count_P]; omega, ?_⟩
      have ecn : (Txt.count (sgS bs) ("+" : Str) + 1).toNat = upsN bs + 1 := by rw [count_P]; omega
      rw [ecn]
      refine for_range (lo := 0) (n := upsN bs + 1) (fun i σ H' => (∃ y2 y3 y4, σ = [some (.str (sgS bs)), some (.ref D), y2, y3, y4]) ∧ Same H2 H') ⟨⟨_, _, _, rfl⟩, Same.refl _⟩ (fun i σ H' hi h => ?_) (fun σ H' h => ?_)
      · obtain ⟨⟨y2, y3, y4, rfl⟩, sm⟩ := h
        refine ⟨_, rfl, .inl ⟨rfl, _, .of (sm _ _ h2)⟩, _, rfl, D, (everyL bs).map presL, 0 + (i : Int), rfl, rfl, .of (sm _ _ h2), ?_⟩
        have ecnt : (((everyL bs).map presL).count (0 + (i : Int)) : Nat) = survN bs i := by
          rw [Int.zero_add]
          exact fo2 i (by omega)
        rw [ecnt]
        have hb : ∀ n ∈ [((survN bs i : Nat) : Int), ((survN bs i : Nat) : Int)], n.natAbs.log2 < 1920 := fun n hn => by
          rcases List.mem_cons.mp hn with z | z
          · rw [z]; exact surv_log ok u1 i
          · rw [List.mem_singleton.mp z]; exact surv_log ok u1 i
        have hs2 := shown_big hb (by show 2 ≤ 40; decide)
        have e0 : (0 : Int) + (i : Int) = ((i : Nat) : Int) := Int.zero_add _
        refine ⟨_, rfl, _, rfl, bs, i, congrArg (fun z => [V.str (sgS bs), V.int z]) e0, ok, u1, by omega, fun H3 s3 => ?_⟩
        refine ⟨_, rfl, _, rfl, rfl, rfl, bs, i, congrArg (fun z => [V.str (sgS bs), V.int z]) e0, ok, u1, by omega, fun H4 s4 => ⟨by show 2 ≤ sizeLine; decide, fun L nL => ?_⟩⟩
        refine ⟨L, dI [((survN bs i : Nat) : Int), ((survN bs i : Nat) : Int)], rfl, dp_ints (.of upd_same), show_ints _ hb, noDict_ints _, rI2 _, hs2, ?_⟩
        refine ⟨_, rfl, _, rfl, by show 2 ≤ sizeLine; decide, fun L2 nL2 => ?_⟩
        refine ⟨L2, dI [((survN bs i : Nat) : Int), ((survN bs i : Nat) : Int)], rfl, dp_ints (.of upd_same), show_ints _ hb, noDict_ints _, rI2 _, hs2, ?_⟩
        exact ⟨rfl, false, nF rfl, ⟨_, _, _, rfl⟩, (sm.trans (s3.trans s4)).trans ((same_new nL).trans (same_new nL2))⟩
      · obtain ⟨⟨y2, y3, y4, rfl⟩, sm⟩ := h
        exact q _ (s2.trans sm)
/-! ### law -/
def spLaw (K : PySem.W.Frag) : Sp := fun vs H Q _ => ∃ (a : Addr) (ns : List Int), vs = [.ref a] ∧ SqL K H a (ns.map V.int) ∧ ns.length ≤ 63 ∧ ∀ H', Q (.bl true) H'
set_option maxHeartbeats 1000000 in
theorem ok_law {f : Addr} {fd : FuncData} (F : Fun K "law" "law" s_law f fd) (B : NoB mg) (T_z_sum : mg "sum" = none) (T_law_pool : Gc P w K mg base 1 "_law_pool" (spPool K)) (T_law_signs : Gc P w K mg base 2 "_law_signs" (spSigns K)) (T_law_ways : Gc P w K mg base 1 "_law_ways" spWays) (T_law_few_right : Gc P w K mg base 5 "_law_few_right" spFew)
    (T_law_from_end : Gc P w K mg base 2 "_law_from_end" spEnd) (T_count_survivors : Gc P w K mg base 4 "count_survivors" spSurv) (T_count_in_shape : Gc P w K mg base 3 "count_in_shape" spCount) : FnG P w K mg base CX0 6 f fd ["script"] (spLaw K) := by
  refine okG F sc_law (fun vs H Q E h => ?_) (fun cdv A outer s H vs Q E hG hr h => ?_)
  · obtain ⟨a, ns, rfl, _⟩ := h
    rfl
  · obtain ⟨sc, ns, rfl, hS, hl, q⟩ := h
    have hu := hu_of hr
    have hu64 := hr.units
    refine ⟨_, (pss_cons (ps_for PassesOwn.never rfl (pi_range1 rfl B.range (pa_cons (pe_callB (call_max2 rfl) (by rfl) B.max (by decide +kernel) (pa_cons pe_int (pa_cons (pe_callB (call_min2 rfl) (by rfl) B.min (by decide +kernel) (pa_cons pe_int (pa_cons (pe_callB call_len_seq (by rfl) B.len PySem.boot_len (pa_cons (pv 0) pa_nil)) pa_nil))) pa_nil))) pa_nil)) (pg_name (i := 1) sc_law.nd rfl (Or.inl rfl))
          (pss_cons (ps_set (i := 2) sc_law.nd rfl (Or.inl rfl) (pe_g T_law_pool hG hr (by decide) (by rfl) (pa_cons (pv 0) (pa_cons (pv 1) pa_nil))))
          (pss_cons (ps_set (i := 3) sc_law.nd rfl (Or.inr rfl) (pe_g T_law_signs hG hr (by decide) (by rfl) (pa_cons (pv 2) (pa_cons (pv 0) pa_nil))))
          (pss_cons (ps_set (i := 4) sc_law.nd rfl (Or.inl rfl) (pe_slice sl_str (pv 3) po_none (po_some pe_int)))
          (Evl.pss_cut (ps_if (PW.pt (pw_and (pt_cmpR op_lt (pe_g T_law_ways hG hr (by decide) (by rfl) (pa_cons (pv 4) pa_nil)) pe_int (nomark _)) (pw_and1 (pt_not (pt_val (pe_g T_law_few_right hG hr (by decide) (by rfl) (pa_cons (pv 4) pa_nil))))))) (pss_one (ps_ret pe_bl)) pss_nil)
          (pss_cons (ps_set (i := 5) sc_law.nd rfl (Or.inr rfl) (pe_g T_law_from_end hG hr (by decide) (by rfl) (pa_cons (pv 3) pa_nil)))
          (pss_cons (ps_set (i := 6) sc_law.nd rfl (Or.inl rfl) (pe_bm PySem.F.plainAttrs_str PySem.F.slot_str_count PySem.F.type_str_count mt_count (pv 3) (pa_cons pe_str pa_nil)))
          (pss_cons (ps_setLc (i := 7) (own := [("v", 8)]) (g := gName 8) (tt := tYes) rfl sc_law.nd rfl rfl (sw_true rfl rfl rfl (by decide +kernel)) (pi_range1 rfl B.range (pa_cons (pe_op op_add (pv 6) pe_int) pa_nil)) (blkOk_by (own := [("v", 8)]) (N := N_law) (sc := defScope s_law) (by decide +kernel)) (fun _ _ _ _ _ => (pg_name (i := 8) sc_law.nd rfl (Or.inl rfl))) (fun _ _ _ _ _ => pts_nil) (fun _ _ _ _ _ => (pe_g T_count_survivors hG hr (by decide) (by rfl) (pa_cons (pv 3) (pa_cons (pv 8) pa_nil)))))
          (pss_one (ps_if (PW.pt (pw_or (pt_cmpR (op_neD hu64) (pv 7) (pe_lc (own := [("v", 8)]) (g := gName 8) (tt := tYes) rfl sc_law.nd (pi_range1 rfl B.range (pa_cons (pe_op op_add (pv 6) pe_int) pa_nil)) (blkOk_by (own := [("v", 8)]) (N := N_law) (sc := defScope s_law) (by decide +kernel)) (fun _ _ _ _ _ => (pg_name (i := 8) sc_law.nd rfl (Or.inl rfl))) (fun _ _ _ _ _ => pts_nil) (fun _ _ _ _ _ => (pe_dget2 hu (pv 5) (pv 8) pe_int (by constructor <;> rfl)))) (nomark _)) (pw_or1 (pt_cmpR op_ne (pe_callB (cr_sum rfl) (by rfl) T_z_sum (by decide +kernel) (pa_cons (pv 7) pa_nil)) (pe_g T_count_in_shape hG hr (by decide) (by rfl) (pa_cons (pv 3) pa_nil)) (nomark _))))) (pss_one (ps_ret pe_bl)) pss_nil))))))))))
        (pss_one (ps_ret pe_bl))), ?_⟩
    refine ⟨_, rfl, sc, _, rfl, .inl hS, _, _, rfl, _, _, rfl, ?_⟩
    generalize ec : (if (if (((ns.map V.int).length : Nat) : Int) < 5 then (((ns.map V.int).length : Nat) : Int) else (5 : Int)) > 1 then (if (((ns.map V.int).length : Nat) : Int) < 5 then (((ns.map V.int).length : Nat) : Int) else (5 : Int)) else 1) = c
    have c0 : 1 ≤ c ∧ c ≤ 5 := by
      rw [← ec]
      split <;> split <;> omega
    refine ⟨c, rfl, by omega, by omega, for_range (lo := 0) (n := c.toNat) (fun i σ H' => (∃ y1 y2 y3 y4 y5 y6 y7 y8, σ = [some (.ref sc), y1, y2, y3, y4, y5, y6, y7, y8]) ∧ Same H H') ⟨⟨_, _, _, _, _, _, _, _, rfl⟩, Same.refl _⟩ (fun i σ H' hi h => ?_) (fun σ H' h => ?_)⟩
    · obtain ⟨⟨y1, y2, y3, y4, y5, y6, y7, y8, rfl⟩, sm⟩ := h
      refine ⟨_, rfl, _, rfl, sc, ns, i, congrArg (fun z => [V.ref sc, V.int z]) (Int.zero_add _), sm.seq hS, by omega, fun H2 src s2 nsrc hs2 => ?_⟩
      refine ⟨_, rfl, _, rfl, src, sc, ns, 0, H', rfl, hs2, by decide, sm.seq hS, nsrc, .of s2, fun H3 bs ok u1 pos len b3 hs3 => ?_⟩
      have hz : (sgS bs).length ≤ sizeLine := by rw [sgS_len]; exact Lp.zs (by omega)
      have s03 : Same H' H3 := fun b o e => b3 b o (ne_of_none e nsrc) (s2 b o e)
      refine ⟨_, rfl, 8, rfl, _, rfl, hz, ?_⟩
      have ecut : cutS (sgS bs) none (some 8) = sgS (bs.take 8) := cut_sgA bs 8
      rw [ecut]
      have ok8 := ok.take 8
      have u8 := ups_take u1 8
      have l8 : (bs.take 8).length ≤ 8 := by rw [List.length_take]; omega
      refine ⟨fun σ' H4 => (∃ y5 y6 y7 y8, σ' = [some (.ref sc), some (.int (0 + (i : Int))), some (.ref src), some (.str (sgS bs)), some (.str (sgS (bs.take 8))), y5, y6, y7, y8]) ∧ Same H3 H4, ?_, fun σ' H4 hm => ?_⟩
      · refine ⟨_, rfl, bs.take 8, rfl, ok8, u8, fun H4 s4 => ?_⟩
        by_cases hw : ((waysN (bs.take 8) : Nat) : Int) < 201
        · exact ⟨_, _, rfl, rfl, true, dT hw, _, rfl, bs.take 8, rfl, ok8, l8, by omega, fun H5 s5 => ⟨true, rfl, ⟨_, _, _, _, rfl⟩, s4.trans s5⟩⟩
        · exact ⟨_, _, rfl, rfl, false, dF hw, ⟨_, _, _, _, rfl⟩, s4⟩
      · obtain ⟨⟨y5, y6, y7, y8, rfl⟩, s4⟩ := hm
        refine ⟨_, rfl, bs, rfl, ok, u1, fun H5 d fk s5 nd hd hfk => ?_⟩
        refine ⟨_, rfl, rfl, _, _, rfl, rfl, ?_⟩
        rw [count_P]
        refine ⟨_, rfl, _, _, rfl, rfl, ((upsN bs : Nat) : Int) + 1, rfl, by omega, by omega, fun D hD => ?_⟩
        have en : (((upsN bs : Nat) : Int) + 1).toNat = upsN bs + 1 := by omega
        rw [en]
        refine lc_it (walk_range (lo := 0) (n := upsN bs + 1)) (LcP H5 D fun k => ((List.range k).map fun v => ((survN bs v : Nat) : Int)).map V.int) (.init hD rfl) (fun _ _ _ _ => trivial) (fun k x H6 H7 hk p hy => ?_) (fun H6 p => ?_)
        · obtain ⟨rfl, rfl⟩ := hy
          refine ⟨rfl, _, rfl, _, rfl, bs, k, congrArg (fun z => [V.str (sgS bs), V.int z]) (Int.zero_add _), ok, u1, by omega, fun H8 s8 => p.put s8 ?_ ?_⟩
          · rw [List.range_succ, List.map_append, List.map_append]
            rfl
          · rw [List.length_map, List.length_map, List.length_range]
            omega
        · have h6 : H6 D = some (.lst (((List.range (upsN bs + 1)).map fun v => ((survN bs v : Nat) : Int)).map V.int)) := p.2.2
          have s6 : Same H5 H6 := p.2.1
          refine ⟨_, rfl, _, rfl, _, _, rfl, rfl, ((upsN bs : Nat) : Int) + 1, rfl, by omega, by omega, fun D2 hD2 => ?_⟩
          rw [en]
          refine lc_it (walk_range (lo := 0) (n := upsN bs + 1)) (LcP H6 D2 fun k => ((List.range k).map fun v => ((survN bs v : Nat) : Int)).map V.int) (.init hD2 rfl) (fun _ _ _ _ => trivial) (fun k x H7 H8 hk p2 hy => ?_) (fun H7 p2 => ?_)
          · obtain ⟨rfl, rfl⟩ := hy
            have g : DGet H8 d (.int (0 + (k : Int))) (some (.int ((survN bs k : Nat) : Int))) := by
              have z := DGet.k (k := Sum.inl (0 + ((k : Nat) : Int))) (p2.2.1 _ _ (s6 _ _ hd))
              rw [Int.zero_add, hfk k (by omega)] at z
              rw [Int.zero_add]
              exact z
            refine ⟨rfl, _, rfl, d, rfl, .inl ⟨_, .inl (p2.2.1 _ _ (s6 _ _ hd))⟩, _, rfl, _, g, p2.put (Same.refl _) ?_ ?_⟩
            · rw [List.range_succ, List.map_append, List.map_append]
              rfl
            · rw [List.length_map, List.length_map, List.length_range]
              omega
          · have h7 : H7 D2 = some (.lst (((List.range (upsN bs + 1)).map fun v => ((survN bs v : Nat) : Int)).map V.int)) := p2.2.2
            have h7D := p2.2.1 _ _ h6
            refine ⟨dI _, dI _, dp_ints (.of h7D), dp_ints (.of h7), shaped_ints _, shaped_ints _, false, neqF rfl, ?_⟩
            refine ⟨_, rfl, D, _, rfl, .of h7D, _, rfl, bs, rfl, ok, u1, fun H8 s8 => ⟨rfl, false, nF ?_, ⟨_, _, _, _, _, _, _, _, rfl⟩, sm.trans (s03.trans ((s4.trans s5).trans ((s6.trans p2.2.1).trans s8)))⟩⟩
            rw [sum_range, show sumTo (fun v => survN bs v) (upsN bs) = waysN bs from (sv_sum ok (upsN bs) (Nat.le_refl _)).1]
    · exact q _
end
end L56
set_option Elab.async false
set_option linter.all false
set_option maxRecDepth 100000
namespace L56
open PySem PySem.Spec PyProof.Rows L2 Lp
theorem all_mk {l : PySem.W.OpenLaw} {w : World} {K : PySem.W.Frag} {h : Heap} {mg : Str → Option Value} {fa : Addr} (X : K.In h) (G : h.Ns mainGlobals mg) (hfa : mg "law" = some (.ref fa))
    {f0 : Addr} {oc0 kV0 dc0 pm0 cd0 ct0 : Value} {od0 an0 : Option Addr} {sl0 : Array (Option Value)}
    (a0 : PySem.W.nsIn K mainGlobals "is_integer" = some (some (.ref f0))) (l0 : K.lookup f0 = some ⟨oc0, od0, .func (PySem.W.fnOf "is_integer" "is_integer" (defArgs s_is_integer) (defBody s_is_integer) (defScope s_is_integer) .none kV0 dc0 pm0 an0 cd0 ct0), sl0⟩) (c0 : PySem.W.codeIn K cd0 "is_integer" = true) (k0 : PySem.W.keepIn K (.ref f0) = true)
    {f1 : Addr} {oc1 kV1 dc1 pm1 cd1 ct1 : Value} {od1 an1 : Option Addr} {sl1 : Array (Option Value)}
    (a1 : PySem.W.nsIn K mainGlobals "is_integer_within" = some (some (.ref f1))) (l1 : K.lookup f1 = some ⟨oc1, od1, .func (PySem.W.fnOf "is_integer_within" "is_integer_within" (defArgs s_is_integer_within) (defBody s_is_integer_within) (defScope s_is_integer_within) .none kV1 dc1 pm1 an1 cd1 ct1), sl1⟩) (c1 : PySem.W.codeIn K cd1 "is_integer_within" = true) (k1 : PySem.W.keepIn K (.ref f1) = true)
    {f2 : Addr} {oc2 kV2 dc2 pm2 cd2 ct2 : Value} {od2 an2 : Option Addr} {sl2 : Array (Option Value)}
    (a2 : PySem.W.nsIn K mainGlobals "check_number" = some (some (.ref f2))) (l2 : K.lookup f2 = some ⟨oc2, od2, .func (PySem.W.fnOf "check_number" "check_number" (defArgs s_check_number) (defBody s_check_number) (defScope s_check_number) .none kV2 dc2 pm2 an2 cd2 ct2), sl2⟩) (c2 : PySem.W.codeIn K cd2 "check_number" = true) (k2 : PySem.W.keepIn K (.ref f2) = true)
    {f3 : Addr} {oc3 kV3 dc3 pm3 cd3 ct3 : Value} {od3 an3 : Option Addr} {sl3 : Array (Option Value)}
    (a3 : PySem.W.nsIn K mainGlobals "is_shape" = some (some (.ref f3))) (l3 : K.lookup f3 = some ⟨oc3, od3, .func (PySem.W.fnOf "is_shape" "is_shape" (defArgs s_is_shape) (defBody s_is_shape) (defScope s_is_shape) .none kV3 dc3 pm3 an3 cd3 ct3), sl3⟩) (c3 : PySem.W.codeIn K cd3 "is_shape" = true) (k3 : PySem.W.keepIn K (.ref f3) = true)
    {f4 : Addr} {oc4 kV4 dc4 pm4 cd4 ct4 : Value} {od4 an4 : Option Addr} {sl4 : Array (Option Value)}
    (a4 : PySem.W.nsIn K mainGlobals "_check_shape" = some (some (.ref f4))) (l4 : K.lookup f4 = some ⟨oc4, od4, .func (PySem.W.fnOf "_check_shape" "_check_shape" (defArgs s_check_shape) (defBody s_check_shape) (defScope s_check_shape) .none kV4 dc4 pm4 an4 cd4 ct4), sl4⟩) (c4 : PySem.W.codeIn K cd4 "_check_shape" = true) (k4 : PySem.W.keepIn K (.ref f4) = true)
    {f5 : Addr} {oc5 kV5 dc5 pm5 cd5 ct5 : Value} {od5 an5 : Option Addr} {sl5 : Array (Option Value)}
    (a5 : PySem.W.nsIn K mainGlobals "count_in_shape" = some (some (.ref f5))) (l5 : K.lookup f5 = some ⟨oc5, od5, .func (PySem.W.fnOf "count_in_shape" "count_in_shape" (defArgs s_count_in_shape) (defBody s_count_in_shape) (defScope s_count_in_shape) .none kV5 dc5 pm5 an5 cd5 ct5), sl5⟩) (c5 : PySem.W.codeIn K cd5 "count_in_shape" = true) (k5 : PySem.W.keepIn K (.ref f5) = true)
    {f6 : Addr} {oc6 kV6 dc6 pm6 cd6 ct6 : Value} {od6 an6 : Option Addr} {sl6 : Array (Option Value)}
    (a6 : PySem.W.nsIn K mainGlobals "count_survivors" = some (some (.ref f6))) (l6 : K.lookup f6 = some ⟨oc6, od6, .func (PySem.W.fnOf "count_survivors" "count_survivors" (defArgs s_count_survivors) (defBody s_count_survivors) (defScope s_count_survivors) .none kV6 dc6 pm6 an6 cd6 ct6), sl6⟩) (c6 : PySem.W.codeIn K cd6 "count_survivors" = true) (k6 : PySem.W.keepIn K (.ref f6) = true)
    {f7 : Addr} {oc7 kV7 dc7 pm7 cd7 ct7 : Value} {od7 an7 : Option Addr} {sl7 : Array (Option Value)}
    (a7 : PySem.W.nsIn K mainGlobals "_law_pool" = some (some (.ref f7))) (l7 : K.lookup f7 = some ⟨oc7, od7, .func (PySem.W.fnOf "_law_pool" "_law_pool" (defArgs s_law_pool) (defBody s_law_pool) (defScope s_law_pool) .none kV7 dc7 pm7 an7 cd7 ct7), sl7⟩) (c7 : PySem.W.codeIn K cd7 "_law_pool" = true) (k7 : PySem.W.keepIn K (.ref f7) = true)
    {f8 : Addr} {oc8 kV8 dc8 pm8 cd8 ct8 : Value} {od8 an8 : Option Addr} {sl8 : Array (Option Value)}
    (a8 : PySem.W.nsIn K mainGlobals "_law_draw" = some (some (.ref f8))) (l8 : K.lookup f8 = some ⟨oc8, od8, .func (PySem.W.fnOf "_law_draw" "_law_draw" (defArgs s_law_draw) (defBody s_law_draw) (defScope s_law_draw) .none kV8 dc8 pm8 an8 cd8 ct8), sl8⟩) (c8 : PySem.W.codeIn K cd8 "_law_draw" = true) (k8 : PySem.W.keepIn K (.ref f8) = true)
    {f9 : Addr} {oc9 kV9 dc9 pm9 cd9 ct9 : Value} {od9 an9 : Option Addr} {sl9 : Array (Option Value)}
    (a9 : PySem.W.nsIn K mainGlobals "_law_signs" = some (some (.ref f9))) (l9 : K.lookup f9 = some ⟨oc9, od9, .func (PySem.W.fnOf "_law_signs" "_law_signs" (defArgs s_law_signs) (defBody s_law_signs) (defScope s_law_signs) .none kV9 dc9 pm9 an9 cd9 ct9), sl9⟩) (c9 : PySem.W.codeIn K cd9 "_law_signs" = true) (k9 : PySem.W.keepIn K (.ref f9) = true)
    {f10 : Addr} {oc10 kV10 dc10 pm10 cd10 ct10 : Value} {od10 an10 : Option Addr} {sl10 : Array (Option Value)}
    (a10 : PySem.W.nsIn K mainGlobals "_law_ways" = some (some (.ref f10))) (l10 : K.lookup f10 = some ⟨oc10, od10, .func (PySem.W.fnOf "_law_ways" "_law_ways" (defArgs s_law_ways) (defBody s_law_ways) (defScope s_law_ways) .none kV10 dc10 pm10 an10 cd10 ct10), sl10⟩) (c10 : PySem.W.codeIn K cd10 "_law_ways" = true) (k10 : PySem.W.keepIn K (.ref f10) = true)
    {f11 : Addr} {oc11 kV11 dc11 pm11 cd11 ct11 : Value} {od11 an11 : Option Addr} {sl11 : Array (Option Value)}
    (a11 : PySem.W.nsIn K mainGlobals "_law_every" = some (some (.ref f11))) (l11 : K.lookup f11 = some ⟨oc11, od11, .func (PySem.W.fnOf "_law_every" "_law_every" (defArgs s_law_every) (defBody s_law_every) (defScope s_law_every) .none kV11 dc11 pm11 an11 cd11 ct11), sl11⟩) (c11 : PySem.W.codeIn K cd11 "_law_every" = true) (k11 : PySem.W.keepIn K (.ref f11) = true)
    {f12 : Addr} {oc12 kV12 dc12 pm12 cd12 ct12 : Value} {od12 an12 : Option Addr} {sl12 : Array (Option Value)}
    (a12 : PySem.W.nsIn K mainGlobals "_law_present" = some (some (.ref f12))) (l12 : K.lookup f12 = some ⟨oc12, od12, .func (PySem.W.fnOf "_law_present" "_law_present" (defArgs s_law_present) (defBody s_law_present) (defScope s_law_present) .none kV12 dc12 pm12 an12 cd12 ct12), sl12⟩) (c12 : PySem.W.codeIn K cd12 "_law_present" = true) (k12 : PySem.W.keepIn K (.ref f12) = true)
    {f13 : Addr} {oc13 kV13 dc13 pm13 cd13 ct13 : Value} {od13 an13 : Option Addr} {sl13 : Array (Option Value)}
    (a13 : PySem.W.nsIn K mainGlobals "_law_few_right" = some (some (.ref f13))) (l13 : K.lookup f13 = some ⟨oc13, od13, .func (PySem.W.fnOf "_law_few_right" "_law_few_right" (defArgs s_law_few_right) (defBody s_law_few_right) (defScope s_law_few_right) .none kV13 dc13 pm13 an13 cd13 ct13), sl13⟩) (c13 : PySem.W.codeIn K cd13 "_law_few_right" = true) (k13 : PySem.W.keepIn K (.ref f13) = true)
    {f14 : Addr} {oc14 kV14 dc14 pm14 cd14 ct14 : Value} {od14 an14 : Option Addr} {sl14 : Array (Option Value)}
    (a14 : PySem.W.nsIn K mainGlobals "_law_from_end" = some (some (.ref f14))) (l14 : K.lookup f14 = some ⟨oc14, od14, .func (PySem.W.fnOf "_law_from_end" "_law_from_end" (defArgs s_law_from_end) (defBody s_law_from_end) (defScope s_law_from_end) .none kV14 dc14 pm14 an14 cd14 ct14), sl14⟩) (c14 : PySem.W.codeIn K cd14 "_law_from_end" = true) (k14 : PySem.W.keepIn K (.ref f14) = true)
    {f15 : Addr} {oc15 kV15 dc15 pm15 cd15 ct15 : Value} {od15 an15 : Option Addr} {sl15 : Array (Option Value)}
    (a15 : PySem.W.nsIn K mainGlobals "law" = some (some (.ref f15))) (l15 : K.lookup f15 = some ⟨oc15, od15, .func (PySem.W.fnOf "law" "law" (defArgs s_law) (defBody s_law) (defScope s_law) .none kV15 dc15 pm15 an15 cd15 ct15), sl15⟩) (c15 : PySem.W.codeIn K cd15 "law" = true) (k15 : PySem.W.keepIn K (.ref f15) = true)
    {t_LAST_PATCH : Tok} (g_LAST_PATCH : PySem.W.nsIn K mainGlobals "LAST_PATCH" = some (some (.int 100 t_LAST_PATCH)))
    (z_len : PySem.W.nsIn K mainGlobals "len" = some none)
    (z_list : PySem.W.nsIn K mainGlobals "list" = some none)
    (z_int : PySem.W.nsIn K mainGlobals "int" = some none)
    (z_bool : PySem.W.nsIn K mainGlobals "bool" = some none)
    (z_str : PySem.W.nsIn K mainGlobals "str" = some none)
    (z_tuple : PySem.W.nsIn K mainGlobals "tuple" = some none)
    (z_max : PySem.W.nsIn K mainGlobals "max" = some none)
    (z_min : PySem.W.nsIn K mainGlobals "min" = some none)
    (z_range : PySem.W.nsIn K mainGlobals "range" = some none)
    (z_repr : PySem.W.nsIn K mainGlobals "repr" = some none)
    (z_isinstance : PySem.W.nsIn K mainGlobals "isinstance" = some none)
    (z_type : PySem.W.nsIn K mainGlobals "type" = some none)
    (z_all : PySem.W.nsIn K mainGlobals "all" = some none)
    (z_set : PySem.W.nsIn K mainGlobals "set" = some none)
    (z_zip : PySem.W.nsIn K mainGlobals "zip" = some none)
    (z_enumerate : PySem.W.nsIn K mainGlobals "enumerate" = some none)
    (z_sorted : PySem.W.nsIn K mainGlobals "sorted" = some none)
    (z_abs : PySem.W.nsIn K mainGlobals "abs" = some none)
    (z_sum : PySem.W.nsIn K mainGlobals "sum" = some none) :
    ∃ fd : FuncData, (∀ (s : Shared) (v : Value), BindsTo s fd ⟨[v], []⟩ [("script", v)]) ∧ ∀ base : Heap, K.In base → base.Ns mainGlobals mg → FnG l.prog w K mg base CX0 6 fa fd ["script"] (spLaw K) := by
  have e := hfa.symm.trans (PySem.W.mg_of X G a15)
  cases e
  have B : NoB mg := ⟨PySem.W.mg_none_of X G z_len, PySem.W.mg_none_of X G z_list, PySem.W.mg_none_of X G z_int, PySem.W.mg_none_of X G z_bool, PySem.W.mg_none_of X G z_str, PySem.W.mg_none_of X G z_tuple, PySem.W.mg_none_of X G z_max, PySem.W.mg_none_of X G z_min, PySem.W.mg_none_of X G z_range, PySem.W.mg_none_of X G z_repr, PySem.W.mg_none_of X G z_isinstance, PySem.W.mg_none_of X G z_type, PySem.W.mg_none_of X G z_all, PySem.W.mg_none_of X G z_set, PySem.W.mg_none_of X G z_zip, PySem.W.mg_none_of X G z_enumerate, PySem.W.mg_none_of X G z_sorted, PySem.W.mg_none_of X G z_abs⟩
  have F0 := fun_mk (st := s_is_integer) l0 c0 k0
  have b0 := F0.binds (ps := ["value"]) fun _ _ _ _ _ _ us hl => match us, hl with | [_], _ => rfl
  have F1 := fun_mk (st := s_is_integer_within) l1 c1 k1
  have b1 := F1.binds (ps := ["value", "least", "greatest"]) fun _ _ _ _ _ _ us hl => match us, hl with | [_, _, _], _ => rfl
  have F2 := fun_mk (st := s_check_number) l2 c2 k2
  have b2 := F2.binds (ps := ["value", "least", "greatest"]) fun _ _ _ _ _ _ us hl => match us, hl with | [_, _, _], _ => rfl
  have F3 := fun_mk (st := s_is_shape) l3 c3 k3
  have b3 := F3.binds (ps := ["value"]) fun _ _ _ _ _ _ us hl => match us, hl with | [_], _ => rfl
  have F4 := fun_mk (st := s_check_shape) l4 c4 k4
  have b4 := F4.binds (ps := ["shape"]) fun _ _ _ _ _ _ us hl => match us, hl with | [_], _ => rfl
  have F5 := fun_mk (st := s_count_in_shape) l5 c5 k5
  have b5 := F5.binds (ps := ["shape"]) fun _ _ _ _ _ _ us hl => match us, hl with | [_], _ => rfl
  have F6 := fun_mk (st := s_count_survivors) l6 c6 k6
  have b6 := F6.binds (ps := ["shape", "survivor"]) fun _ _ _ _ _ _ us hl => match us, hl with | [_, _], _ => rfl
  have F7 := fun_mk (st := s_law_pool) l7 c7 k7
  have b7 := F7.binds (ps := ["script", "k"]) fun _ _ _ _ _ _ us hl => match us, hl with | [_, _], _ => rfl
  have F8 := fun_mk (st := s_law_draw) l8 c8 k8
  have b8 := F8.binds (ps := ["pool", "many"]) fun _ _ _ _ _ _ us hl => match us, hl with | [_, _], _ => rfl
  have F9 := fun_mk (st := s_law_signs) l9 c9 k9
  have b9 := F9.binds (ps := ["pool", "script"]) fun _ _ _ _ _ _ us hl => match us, hl with | [_, _], _ => rfl
  have F10 := fun_mk (st := s_law_ways) l10 c10 k10
  have b10 := F10.binds (ps := ["signs"]) fun _ _ _ _ _ _ us hl => match us, hl with | [_], _ => rfl
  have F11 := fun_mk (st := s_law_every) l11 c11 k11
  have b11 := F11.binds (ps := ["signs"]) fun _ _ _ _ _ _ us hl => match us, hl with | [_], _ => rfl
  have F12 := fun_mk (st := s_law_present) l12 c12 k12
  have b12 := F12.binds (ps := ["row"]) fun _ _ _ _ _ _ us hl => match us, hl with | [_], _ => rfl
  have F13 := fun_mk (st := s_law_few_right) l13 c13 k13
  have b13 := F13.binds (ps := ["signs"]) fun _ _ _ _ _ _ us hl => match us, hl with | [_], _ => rfl
  have F14 := fun_mk (st := s_law_from_end) l14 c14 k14
  have b14 := F14.binds (ps := ["signs"]) fun _ _ _ _ _ _ us hl => match us, hl with | [_], _ => rfl
  have F15 := fun_mk (st := s_law) l15 c15 k15
  refine ⟨PySem.W.fnOf "law" "law" (defArgs s_law) (defBody s_law) (defScope s_law) .none kV15 dc15 pm15 an15 cd15 ct15, fun s v => .of_eq rfl, fun base _ _ => ?_⟩
  have T_is_integer : Gc l.prog w K mg base 1 "is_integer" _ := ⟨f0, _, ["value"], ok_is_integer F0 B, PySem.W.mg_of X G a0, F0.kp, b0⟩
  have T_is_integer_within : Gc l.prog w K mg base 2 "is_integer_within" _ := ⟨f1, _, ["value", "least", "greatest"], ok_is_integer_within F1 T_is_integer, PySem.W.mg_of X G a1, F1.kp, b1⟩
  have T_check_number : Gc l.prog w K mg base 3 "check_number" _ := ⟨f2, _, ["value", "least", "greatest"], ok_check_number F2 T_is_integer_within, PySem.W.mg_of X G a2, F2.kp, b2⟩
  have T_is_shape : Gc l.prog w K mg base 1 "is_shape" _ := ⟨f3, _, ["value"], ok_is_shape F3 B (PySem.W.mg_of X G g_LAST_PATCH), PySem.W.mg_of X G a3, F3.kp, b3⟩
  have T_check_shape : Gc l.prog w K mg base 2 "_check_shape" _ := ⟨f4, _, ["shape"], ok_check_shape F4 T_is_shape, PySem.W.mg_of X G a4, F4.kp, b4⟩
  have T_count_in_shape : Gc l.prog w K mg base 3 "count_in_shape" _ := ⟨f5, _, ["shape"], ok_count_in_shape F5 T_check_shape, PySem.W.mg_of X G a5, F5.kp, b5⟩
  have T_count_survivors : Gc l.prog w K mg base 4 "count_survivors" _ := ⟨f6, _, ["shape", "survivor"], ok_count_survivors F6 T_check_shape T_check_number, PySem.W.mg_of X G a6, F6.kp, b6⟩
  have T_K_count_survivors : Gk l.prog w K mg base 4 "count_survivors" 0 ["survivor", "shape"] gRev _ := ⟨f6, _, ["shape", "survivor"], _, ok_count_survivors F6 T_check_shape T_check_number, PySem.W.mg_of X G a6, F6.kp, kb_of F6 0 ["survivor", "shape"] gRev kb_gRev fun _ _ _ _ _ _ us ws l1 l2 => match us, ws, l1, l2 with | [], [_, _], _, _ => rfl⟩
  have T_law_pool : Gc l.prog w K mg base 1 "_law_pool" _ := ⟨f7, _, ["script", "k"], ok_law_pool F7 B, PySem.W.mg_of X G a7, F7.kp, b7⟩
  have T_law_draw : Gc l.prog w K mg base 1 "_law_draw" _ := ⟨f8, _, ["pool", "many"], ok_law_draw F8, PySem.W.mg_of X G a8, F8.kp, b8⟩
  have T_law_signs : Gc l.prog w K mg base 2 "_law_signs" _ := ⟨f9, _, ["pool", "script"], ok_law_signs F9 B T_law_draw, PySem.W.mg_of X G a9, F9.kp, b9⟩
  have T_law_ways : Gc l.prog w K mg base 1 "_law_ways" _ := ⟨f10, _, ["signs"], ok_law_ways F10 B, PySem.W.mg_of X G a10, F10.kp, b10⟩
  have T_law_every : Gc l.prog w K mg base 1 "_law_every" _ := ⟨f11, _, ["signs"], ok_law_every F11 B, PySem.W.mg_of X G a11, F11.kp, b11⟩
  have T_law_present : Gc l.prog w K mg base 1 "_law_present" _ := ⟨f12, _, ["row"], ok_law_present F12, PySem.W.mg_of X G a12, F12.kp, b12⟩
  have T_law_few_right : Gc l.prog w K mg base 5 "_law_few_right" _ := ⟨f13, _, ["signs"], ok_law_few_right F13 B T_law_every T_law_present T_count_survivors T_K_count_survivors, PySem.W.mg_of X G a13, F13.kp, b13⟩
  have T_law_from_end : Gc l.prog w K mg base 2 "_law_from_end" _ := ⟨f14, _, ["signs"], ok_law_from_end F14 B T_law_ways, PySem.W.mg_of X G a14, F14.kp, b14⟩
  exact ok_law F15 B (PySem.W.mg_none_of X G z_sum) T_law_pool T_law_signs T_law_ways T_law_few_right T_law_from_end T_count_survivors T_count_in_shape
end L56
open PySem PySem.W PyProof.Rows
set_option maxHeartbeats 0 in
theorem PySem.Challenge.cw_latepatches_k56_survivors_counted_in_sha_holds : PySem.Challenge.rw_latepatches_k56_survivors_counted_in_sha.Holds := by
  w_on; o_law; k_head; (case hw => w_witness2)
  k_fill
  refine Lp.walk_ofG (l := PySem.Challenge.rw_latepatches_k56_survivors_counted_in_sha) (n := 63) (k := 6) (x := "script") (CX := fun _ => L2.CX0) (sp := fun w => L56.spLaw _) rfl (by decide) rfl ⟨rfl, by decide, by decide⟩ (fun w h Y => PySem.W.kIn_of Y) ?F (fun _ _ a ns hl _ hS => ⟨a, ns, rfl, hS, hl, fun _ => rfl⟩) (fun _ _ _ _ _ h => h)
  case F =>
    intro w mg fa h KX G hmg
    refine' L56.all_mk KX G hmg ?a0 ?l0 ?c0 ?k0 ?a1 ?l1 ?c1 ?k1 ?a2 ?l2 ?c2 ?k2 ?a3 ?l3 ?c3 ?k3 ?a4 ?l4 ?c4 ?k4 ?a5 ?l5 ?c5 ?k5 ?a6 ?l6 ?c6 ?k6 ?a7 ?l7 ?c7 ?k7 ?a8 ?l8 ?c8 ?k8 ?a9 ?l9 ?c9 ?k9 ?a10 ?l10 ?c10 ?k10 ?a11 ?l11 ?c11 ?k11 ?a12 ?l12 ?c12 ?k12 ?a13 ?l13 ?c13 ?k13 ?a14 ?l14 ?c14 ?k14 ?a15 ?l15 ?c15 ?k15 ?g_LAST_PATCH ?z_len ?z_list ?z_int ?z_bool ?z_str ?z_tuple ?z_max ?z_min ?z_range ?z_repr ?z_isinstance ?z_type ?z_all ?z_set ?z_zip ?z_enumerate ?z_sorted ?z_abs ?z_sum
    (case a0 => k_is); (case l0 => k_is); (case c0 => k_is); (case k0 => k_is); (case a1 => k_is); (case l1 => k_is); (case c1 => k_is); (case k1 => k_is); (case a2 => k_is); (case l2 => k_is); (case c2 => k_is); (case k2 => k_is); (case a3 => k_is); (case l3 => k_is); (case c3 => k_is); (case k3 => k_is); (case a4 => k_is); (case l4 => k_is); (case c4 => k_is); (case k4 => k_is); (case a5 => k_is); (case l5 => k_is); (case c5 => k_is); (case k5 => k_is); (case a6 => k_is); (case l6 => k_is); (case c6 => k_is); (case k6 => k_is); (case a7 => k_is); (case l7 => k_is); (case c7 => k_is); (case k7 => k_is); (case a8 => k_is); (case l8 => k_is); (case c8 => k_is); (case k8 => k_is); (case a9 => k_is); (case l9 => k_is); (case c9 => k_is); (case k9 => k_is); (case a10 => k_is); (case l10 => k_is); (case c10 => k_is); (case k10 => k_is); (case a11 => k_is); (case l11 => k_is); (case c11 => k_is); (case k11 => k_is); (case a12 => k_is); (case l12 => k_is); (case c12 => k_is); (case k12 => k_is); (case a13 => k_is); (case l13 => k_is); (case c13 => k_is); (case k13 => k_is); (case a14 => k_is); (case l14 => k_is); (case c14 => k_is); (case k14 => k_is); (case a15 => k_is); (case l15 => k_is); (case c15 => k_is); (case k15 => k_is); (case g_LAST_PATCH => k_is); (case z_len => k_is); (case z_list => k_is); (case z_int => k_is); (case z_bool => k_is); (case z_str => k_is); (case z_tuple => k_is); (case z_max => k_is); (case z_min => k_is); (case z_range => k_is); (case z_repr => k_is); (case z_isinstance => k_is); (case z_type => k_is); (case z_all => k_is); (case z_set => k_is); (case z_zip => k_is); (case z_enumerate => k_is); (case z_sorted => k_is); (case z_abs => k_is); (case z_sum => k_is)
