import PyProof.Rows.All
import Wide.All
import OpenK.AllK
import Wide.FinOn
import HandS.ForMost
import HandS.IsInst
import HandS.More
import HandS.Strs
import HandS.Wide
import HandS.SortInts
import HandS.Style
import HandS.Conv
import PyProof.TypeEq
import PyProof.ReprRoads
import HandS.ForExc
import HandS.Evl
import HandS.Zip
import HandS.SetFor
import HandS.Walk
import PyProof.Rows.CountFlat
import HandS.DictComp
import PyProof.Rows.SeqMore
import HandS.Text
import HandS.WideBits
import HandS.Gcd
import HandS.Defaults
import PyProof.Rows.RegReprOcc
import PyProof.StrOps2
import HandS.WordsDict
import PySem.Challenge.RW_latepatches_k04_histories_renumbered
set_option Elab.async false
set_option linter.all false
set_option maxRecDepth 100000
namespace Lp
open PySem PySem.Spec PyProof.Rows L2

/-! ### operators that the layer lacks -/
def CPowW (i j : Int) : Prop := 0 ≤ j ∧ (Builtin.Int.intBits i : Int) * j ≤ 2 ^ 27
section
variable {X : Cx}
theorem op_powW : OpR X (binaryOp .Pow) (rI CPowW fun i j => .int (i ^ j.toNat)) := opI fun _ _ _ _ _ _ _ hc q => pow_int hc.1 hc.2 q
end
theorem powW_ok {i : Int} {n : Nat} {j : Int} (h : i.natAbs < 2 ^ n) (hj : 0 ≤ j) (hn : (n : Int) * j ≤ 100000000) : CPowW i j := by
  refine ⟨hj, ?_⟩
  have b := PyProof.Rows.intBits_le h
  have e : (2 : Int) ^ 27 = 134217728 := by decide
  rw [e]
  have h1 : (Builtin.Int.intBits i : Int) ≤ (n : Int) := by omega
  have h2 := Int.mul_le_mul_of_nonneg_right h1 hj
  omega

/-! ### repr -/
def rRepr (K : PySem.W.Frag) : List V → Hp → VK → Prop := fun xs H Q => ∃ (a : Addr) (d : PyData), xs = [.ref a] ∧ Dp K H (.ref a) d ∧ d.showable = true ∧ d.hasDict = false ∧ d.depth ≤ 60 ∧ d.shown.length ≤ sizeLine ∧ Q (.str d.shown) H
theorem call_repr {X : Cx} (hg : X.A.guards = some []) (hu : X.A.units + 64 < cLine) : CallR X (.builtin "repr") (rRepr X.K) := by
  intro pins s σ H xs us Q I r h
  obtain ⟨a, d, rfl, hd, h1, h2, h3, h4, q⟩ := h
  obtain ⟨u, rfl, rx⟩ := vals1 r
  obtain ⟨as, hr⟩ := Dp.reads I d _ u hd rx
  cases (show u = Value.ref a from rx)
  exact PySem.repr_of_reads' hr h1 (PyData.noDict_hsm h2) hg (by omega) (fun _ _ e => e) (fun h' t tk hk => ⟨.str d.shown, H, I.kept hk, ⟨t, rfl⟩, q⟩) h4
end Lp
set_option Elab.async false
set_option linter.all false
set_option maxRecDepth 100000
namespace Lp
open PySem PySem.Spec PyProof.Rows L2

/-! ### defs that are called where no repr is under way (guards = some []) -/
structure FnG (P : Program) (w : World) (K : PySem.W.Frag) (mg : Str → Option Value) (base : Heap) (CX : CXT) (k : Nat) (f : Addr) (fd : FuncData) (ps : List Str) (sp : Sp) : Prop where
  len : ∀ vs H Q E, sp vs H Q E → vs.length = ps.length
  runG : ∀ (A : Around) (out : List Env) (s : Shared) (H : Hp) (ar : Args) (us : List Value) (vs : List V) (Q : VK) (E : XK), A.guards = some [] → Room k A → Env0 P w K mg base A out s H →
    BindsTo s fd ar (ps.zip us) → Vals vs us → sp vs H Q E → codeAny (model P w) A (.call (.ref f) ar) (CR CX out P w H s Q E) s
section
variable {P : Program} {w : World} {K : PySem.W.Frag} {mg : Str → Option Value} {base : Heap}
theorem FnG.of {CX : CXT} {k : Nat} {f : Addr} {fd : FuncData} {ps : List Str} {sp : Sp} (F : FnOk P w K mg base CX k f fd ps sp) : FnG P w K mg base CX k f fd ps sp :=
  ⟨F.len, fun A out s H ar us vs Q E _ hr => F.run A out s H ar us vs Q E hr⟩
theorem fnG_of {CX : CXT} {k : Nat} {f : Addr} {name qual : Str} {params : Arguments} {body : List Stmt} {scope : Scope} {dV kV doc pm cdv ct oc : Value} {an od : Option Addr}
    {osl : Array (Option Value)} {N ps : List Str} {sp : Sp} (lk : K.lookup f = some ⟨oc, od, .func (PySem.W.fnOf name qual params body scope dV kV doc pm an cdv ct), osl⟩) (hcd : PySem.W.codeIn K cdv qual = true) (S : FnScope N ps scope)
    (ln : ∀ vs H Q E, sp vs H Q E → vs.length = ps.length)
    (hb : ∀ (A : Around) (out : List Env) (s : Shared) (H : Hp) (vs : List V) (Q : VK) (E : XK), A.guards = some [] → Room k (A.deeper (envOfC qual scope s.heap.objs.size f cdv)) → sp vs H Q E →
      ∃ t, PSs (cxOf CX P w K mg base N qual scope f cdv A out s H E) body t ∧ t { nx := fun _ H' => Q .non H', rt := Q } (start N vs) H) :
    FnG P w K mg base CX (k + 1) f (PySem.W.fnOf name qual params body scope dV kV doc pm an cdv ct) ps sp := by
  refine ⟨ln, fun A out s H ar us vs Q E hG room en bd rv hs => ?_⟩
  have KX : K.In s.heap := en.mod.kin.keeps fun b o e => (en.bs b o e).1
  have nl : s.heap.NoLimit := en.mod.nolimit.keeps fun b o e => (en.bs b o e).1
  have kd : ∀ y ∈ ps.zip us, scope.names.lookup y.1 = some .local ∨ (scope.names.lookup y.1 = some .cell ∧ ((cellsFrom (s.heap.objs.size + 1) scope.names []).lookup y.1).isSome = true) := by
    rintro ⟨n, v⟩ hy
    have hm := (List.of_mem_zip hy).1
    exact (S.par n hm).elim (fun q => .inl q) fun q => .inr ⟨q, PySem.W.cellsFrom_some _ _ _ (.inl q)⟩
  refine codeAny_call_function room.depth (KX _ _ lk) rfl S.co S.gen rfl (PySem.W.codeRec_of KX hcd) (bd _ _ _ _ ?_)
  refine wpAny_newFunctionEnv_cells S.kind kd fun e1 he s1 x => ?_
  subst he
  refine ⟨nl.keeps x.toInCall.keep, codeAny_func ?_⟩
  obtain ⟨t, ht, hq⟩ := hb A out s H vs Q E hG (room.deeper _) hs
  have J0 : Inv (cxOf CX P w K mg base N qual scope f cdv A out s H E) [] (start N vs) H s1 := inv_start S room.hd en (ln _ _ _ _ hs) rv x
  refine wpAny_mono (ht.run [] s1 (start N vs) H _ J0 hq) (fun fl s' h3 => ?_) fun _ _ h3 => h3
  cases fl with
  | ret u => exact let ⟨v, _, H', J, r2, q⟩ := h3; ⟨v, H', J.os, J.bare, J.base, J.hok, r2, q⟩
  | next => exact let ⟨_, H', J, q⟩ := h3; ⟨.non, H', J.os, J.bare, J.base, J.hok, rfl, q⟩
  | brk => exact (let ⟨_, _, _, q⟩ := h3; q : False).elim
  | cont => exact (let ⟨_, _, _, q⟩ := h3; q : False).elim
theorem okG {x qual : Str} {st : Stmt} {f : Addr} {fd : FuncData} {N ps : List Str} {k : Nat} {sp : Sp} (F : Fun K x qual st f fd) (S : FnScope N ps (defScope st)) (ln : ∀ vs H Q E, sp vs H Q E → vs.length = ps.length)
    (hb : ∀ (cdv : Value) (A : Around) (out : List Env) (s : Shared) (H : Hp) (vs : List V) (Q : VK) (E : XK), A.guards = some [] → Room k (A.deeper (envOfC qual (defScope st) s.heap.objs.size f cdv)) → sp vs H Q E →
      ∃ t, PSs (cxOf CX0 P w K mg base N qual (defScope st) f cdv A out s H E).nox (defBody st) t ∧ t { nx := fun _ H' => Q .non H', rt := Q } (start N vs) H) : FnG P w K mg base CX0 (k + 1) f fd ps sp := by
  obtain ⟨oc, od, kV, doc, pm, an, cdv, ct, osl, rfl, lk, hcd⟩ := F.ex
  refine fnG_of lk hcd S ln fun A out s H vs Q E hG room h => ?_
  obtain ⟨t, ht, q⟩ := hb cdv A out s H vs Q E hG room h
  exact ⟨t, ht.nox, q⟩
end
section
variable {X : Cx} {CX : CXT} {k : Nat} {f : Addr} {fd : FuncData} {ps : List Str} {sp : Sp} {dvs : List V} {ds : List Value} {E : XK} {x : Str} {p pos : Pos} {e : Expr} {es : List Expr} {t : TA}
theorem pe_callG (F : FnG X.prog X.w X.K X.mg X.base CX k f fd ps sp) (hG : X.A.guards = some []) (hr : Room k X.A) (hg : Gl X x) (hm : X.mg x = some (.ref f)) (hk : PySem.W.keepIn X.K (.ref f) = true) (hb : Binds X.K fd ps ds) (hd : Vals dvs ds) (hx : Passes CX X E)
    (ha : PA X (e :: es) t) (hdb : (x == ("__debug__" : Str)) = false := by decide) (he : starEach (e :: es) X.env = (false, eval e X.env) :: starEach es X.env := by rfl) (hpl : (backTo pos (starEach es X.env)).any (·.1) = false := by rfl) :
    PE X (.Call (.Name x p) (e :: es) [] pos) (tCall sp dvs E t) := by
  refine ⟨fun pins s σ H Q I h => wpAny_Call_Name_kw (ld_glob I hg hm ?_ hdb)⟩
  refine PySem.W.callWith_K (h₀ := X.base) I.ok.mod.kin hk (thn (ha.run pos pins s σ H _ I h) fun us s1 ⟨vs, H1, I1, r, q⟩ => ⟨I1.kIn, ?_⟩) he hpl
  have rr : Vals (vs ++ dvs) (us ++ ds) := r.append hd
  have hl : (us ++ ds).length = ps.length := rr.length.symm.trans (F.len _ _ _ _ q)
  refine wpAny_call (codeAny_mono (F.runG X.A X.stack s1 H1 ⟨us, []⟩ (us ++ ds) (vs ++ dvs) Q E hG hr I1.env0 (hb s1 us I1.kIn hl) rr q) fun r s' hq => ?_)
  cases r with
  | error e => exact hx pins σ H1 s1 e s' I1 hq
  | ok fl =>
    cases fl with
    | ret u => exact I1.after hq
    | next => exact False.elim hq
    | brk => exact False.elim hq
    | cont => exact False.elim hq
end

/-! ### the end of a law's row, for such a law -/
theorem law_callG {P : Program} {w : World} {K : PySem.W.Frag} {mg mb : Str → Option Value} {CX : CXT} {k : Nat} {fa a : Addr} {fd : FuncData} {x : Str} {sp : Sp} {s₁ : Shared} {vs : List Value} {ns : List Int}
    (KX : K.In s₁.heap) (hns : s₁.heap.Ns mainGlobals mg) (hb : s₁.heap.Ns builtinsNs mb) (hbb : ∀ x : Str, x ≠ "__name__" → mb x = bootBuiltins x) (hlim : s₁.heap.NoLimit) (hg : s₁.gens = #[])
    (ha : s₁.heap.get? a = some { cls := .type "list", data := .seq vs.toArray }) (hi : IntsAre vs ns) (hl : ns.length ≤ sizeLine) (hr : Room k callerA)
    (F : ∀ base : Heap, K.In base → base.Ns mainGlobals mg → FnG P w K mg base CX k fa fd [x] sp) (hbind : ∀ (s : Shared) (u : Value), BindsTo s fd ⟨[u], []⟩ [(x, u)])
    (hsp : ∀ H : Hp, Only H → SqL K H a (ns.map V.int) → sp [.ref a] H (fun v _ => v = .bl true) fun _ _ _ => False)
    (hCX : ∀ H e s', CX [] H s₁ (fun _ _ _ => False) e s' → False) :
    codeAny (model P w) callerA (.call (.ref fa) ⟨[.ref a], []⟩) (fun r s' => r = .ok (.ret (.bool true)) ∧ OldK s₁.heap s'.heap ∧ s'.os = s₁.os ∧ AllBare s'.gens) s₁ := by
  have rv := vals_ints hi
  have szV := hi.length
  have main : ∀ H : Hp, Only H → SqL K H a (ns.map V.int) → HOk P w H s₁.heap → (∀ b, H b ≠ none → b = a) → (H a ≠ none → K.lookup a = none) →
      codeAny (model P w) callerA (.call (.ref fa) ⟨[.ref a], []⟩) (fun r s' => r = .ok (.ret (.bool true)) ∧ OldK s₁.heap s'.heap ∧ s'.os = s₁.os ∧ AllBare s'.gens) s₁ := by
    intro H hO hS ok hA hK
    have free : ∀ {b : Addr}, b ≠ a → H b = none := fun {b} hb => by
      cases q : H b with
      | none => rfl
      | some u => exact absurd (hA b (by rw [q]; simp)) hb
    have nsK : ∀ {b : Addr} {m : Str → Option Value}, s₁.heap.Ns b m → (hidT s₁.heap H).Ns b m := by
      rintro b m ⟨o, es, ep, e, d, r⟩
      refine ⟨o, es, ep, hidT_get e (free fun z => ?_), d, r⟩
      subst z
      rw [ha] at e
      cases e
      exact nomatch (show Data.seq vs.toArray _ = Data.dict es ep from d)
    have hKb : K.In (hidT s₁.heap H) := by
      intro b o e
      refine hidT_get (KX b o e) ?_
      cases q : H b with
      | none => rfl
      | some u =>
        have z := hA b (by rw [q]; simp)
        subst z
        rw [hK (by rw [q]; simp)] at e
        cases e
    have hM : Mod K mg (hidT s₁.heap H) := ⟨hKb, nsK hns, ⟨mb, nsK hb, hbb⟩, let ⟨mc, h1, h2⟩ := hlim; ⟨mc, nsK h1, h2⟩⟩
    have e0 : Env0 P w K mg (hidT s₁.heap H) callerA [] s₁ H := ⟨rfl, hM, fun b o e => of_hidT e, Nat.le_of_eq (hidT_size _ _), trivial, fun b hb => absurd (show b ∈ ([] : List Addr) from hb) (by simp), ok, .of_eq hg⟩
    refine codeAny_mono ((F _ hKb (nsK hns)).runG callerA [] s₁ H ⟨[.ref a], []⟩ [.ref a] [.ref a] _ _ rfl hr e0 (hbind s₁ (.ref a)) (.cons rfl .nil) (hsp H hO hS)) fun r s' h => ?_
    cases r with
    | error e => exact (hCX H e s' h).elim
    | ok fl =>
      cases fl with
      | next => exact False.elim h
      | brk => exact False.elim h
      | cont => exact False.elim h
      | ret u =>
        obtain ⟨v, H', os, bare, un, hok', r', q⟩ := h
        cases (show v = .bl true from q)
        cases (show u = Value.bool true from r')
        refine ⟨rfl, OldK.of_keep fun b o e => ?_, os, bare⟩
        rcases hO b with z | ⟨ob, xs, z⟩
        · exact un.keep b o e z (fun z => absurd (show b ∈ ([] : List Addr) from z) (by simp)) (by simp)
        · obtain ⟨e1, _⟩ := ok b _ z
          obtain ⟨e2, _⟩ := hok' b _ (un.frzs b ob _ z)
          rw [e] at e1; cases e1
          exact e2
  cases hk : K.lookup a with
  | some o =>
    have e := KX a o hk
    rw [ha] at e
    cases e
    exact main (fun _ => none) (fun _ => .inl rfl) (.inr ⟨_, vs.toArray, _, hk, rfl, rfl, rfl, by rw [List.size_toArray, szV]; exact hl, by simpa using rv⟩) (fun b u z => nomatch z) (fun b z => absurd rfl z) fun z => absurd rfl z
  | none =>
    refine main (fun b => if b = a then some (.frz { cls := .type "list", data := .seq vs.toArray } (.lst (ns.map V.int))) else none) (fun b => ?_) (.inl (.inr ⟨{ cls := .type "list", data := .seq vs.toArray }, if_pos rfl⟩)) (fun b u z => ?_) (fun b z => ?_) fun _ => hk
    · by_cases h : b = a
      · exact .inr ⟨_, _, if_pos h⟩
      · exact .inl (if_neg h)
    · by_cases h : b = a
      · cases (if_pos h).symm.trans z
        subst h
        exact ⟨ha, by rw [List.length_map]; exact hl, vs, _, rv, ha⟩
      · cases (if_neg h).symm.trans z
    · by_cases h : b = a
      · exact h
      · exact absurd (if_neg h) z
theorem walk_ofG {l : PySem.W.OpenLaw} {n k : Nat} {q : Program} {loose : List Str} {XP : (Str → Option Value) → Heap → Prop} {YP : World → Heap → Prop} {d : DefRec} {K : Params → PySem.W.Frag} {CX : World → CXT} {sp : World → Sp} {x : Str}
    (hn : l.most = some n) (hn2 : n ≤ sizeLine) (hdf : d.params.defaults = []) (hr : Room k callerA)
    (hY : ∀ (w : World) (h : Heap), YP w h → (K w.params).In h)
    (F : ∀ (w : World) (mg : Str → Option Value) (fa : Addr) (h : Heap), (K w.params).In h → h.Ns mainGlobals mg → mg d.name = some (.ref fa) →
      ∃ fd : FuncData, (∀ (s : Shared) (u : Value), BindsTo s fd ⟨[u], []⟩ [(x, u)]) ∧
        ∀ base : Heap, (K w.params).In base → base.Ns mainGlobals mg → FnG l.prog w (K w.params) mg base (CX w) k fa fd [x] (sp w))
    (hsp : ∀ (w : World) (H : Hp) (a : Addr) (ns : List Int), ns.length ≤ n → Only H → SqL (K w.params) H a (ns.map V.int) → sp w [.ref a] H (fun v _ => v = .bl true) fun _ _ _ => False)
    (hCX : ∀ (w : World) (H : Hp) (s : Shared) (e : Value) (s' : Shared), CX w [] H s (fun _ _ _ => False) e s' → False) :
    PySem.W.WalkO q loose XP YP l.row.toRowW d [] (fun f vs => PySem.call f vs) := by
  refine Att.attach_call hn hdf fun w _ s₁ mg _ fa _ _ _ _ a vs ns G Y _ _ _ hmg hobj hints hlen hg => ?_
  obtain ⟨fd, hb, hF⟩ := F w mg fa _ (hY w _ Y) G.T.g hmg
  exact law_callG (hY w _ Y) G.T.g G.T.b G.T.builtins G.T.nolimit hg hobj hints (Nat.le_trans hlen hn2) hr hF hb (fun H hO hS => hsp w H a ns hlen hO hS) fun H e s' => hCX w H s₁ e s'
end Lp
set_option Elab.async false
set_option linter.all false
set_option maxRecDepth 100000
namespace Lp
open PySem PySem.Spec PyProof.Rows L2

/-- the names of the built-ins that the text leaves alone -/
structure NoB (mg : Str → Option Value) : Prop where
  len : mg "len" = none
  list : mg "list" = none
  int : mg "int" = none
  bool : mg "bool" = none
  str : mg "str" = none
  tuple : mg "tuple" = none
  max : mg "max" = none
  min : mg "min" = none
  range : mg "range" = none
  repr : mg "repr" = none
  isinstance : mg "isinstance" = none
  type : mg "type" = none
  all : mg "all" = none
  set : mg "set" = none
  zip : mg "zip" = none
  enumerate : mg "enumerate" = none
  sorted : mg "sorted" = none
  abs : mg "abs" = none

/-- a def that may be called by its name -/
structure Gc (P : Program) (w : World) (K : PySem.W.Frag) (mg : Str → Option Value) (base : Heap) (k : Nat) (x : Str) (sp : Sp) : Prop where
  ex : ∃ (f : Addr) (fd : FuncData) (ps : List Str), FnG P w K mg base CX0 k f fd ps sp ∧ mg x = some (.ref f) ∧ PySem.W.keepIn K (.ref f) = true ∧ Binds K fd ps []
theorem FnG.mono {P : Program} {w : World} {K : PySem.W.Frag} {mg : Str → Option Value} {base : Heap} {CX : CXT} {j k : Nat} {f : Addr} {fd : FuncData} {ps : List Str} {sp : Sp} (F : FnG P w K mg base CX j f fd ps sp) (h : j ≤ k) : FnG P w K mg base CX k f fd ps sp :=
  ⟨F.len, fun A out s H ar us vs Q E hG hr => F.runG A out s H ar us vs Q E hG (hr.mono h)⟩
section
variable {X : Cx} {k j : Nat} {x : Str} {sp : Sp} {p pos : Pos} {e : Expr} {es : List Expr} {t : TA}
theorem pe_g (c : Gc X.prog X.w X.K X.mg X.base k x sp) (hG : X.A.guards = some []) (hr : Room j X.A) (hk : k ≤ j) (hg : Gl X x) (ha : PA X (e :: es) t)
    (hdb : (x == ("__debug__" : Str)) = false := by decide) (he : starEach (e :: es) X.env = (false, eval e X.env) :: starEach es X.env := by rfl) (hpl : (backTo pos (starEach es X.env)).any (·.1) = false := by rfl) :
    PE X (.Call (.Name x p) (e :: es) [] pos) (tCall sp [] E0 t) := by
  obtain ⟨f, fd, ps, F, hm, kp, b⟩ := c.ex
  exact pe_callG F hG (hr.mono hk) hg hm kp b .nil pass0 ha hdb he hpl
end

/-! ### == and != of types -/
def rEqTy : R2 := fun x y H Q => ∃ a b, x = .ty a ∧ y = .ty b ∧ (∀ s' : Shared, s'.TypeIs (.type a) "type") ∧ (∀ s' : Shared, s'.TypeIs (.type b) "type") ∧ Q (.bl (decide (a = b))) H
def rNeTy : R2 := fun x y H Q => ∃ a b, x = .ty a ∧ y = .ty b ∧ (∀ s' : Shared, s'.TypeIs (.type a) "type") ∧ (∀ s' : Shared, s'.TypeIs (.type b) "type") ∧ Q (.bl (!decide (a = b))) H
section
variable {X : Cx}
theorem op_eqTy : OpR X (compareOp .Eq) rEqTy := by
  intro pins s σ H x y v u Q I rx ry h
  obtain ⟨a, b, rfl, rfl, ha, hb, q⟩ := h
  cases (show v = Value.type a from rx)
  cases (show u = Value.type b from ry)
  by_cases e : a = b
  · subst e
    exact PySem.TypeEq.eq_type_same ha ⟨.bl true, H, I, rfl, by simpa using q⟩
  · exact PySem.TypeEq.eq_type_other ha hb (by rw [ty_beq]; exact decide_eq_false e) ⟨.bl false, H, I, rfl, by simpa [e] using q⟩
end

open PySem.TypeEq
theorem slot_type_ne : Slot "type" (cmpInfo .NotEq).2.1 "object.__ne__" :=
  .of (owner := "object") (n := "__ne__") (by rw [typeLookup_type, builtinLookup_eq_fast]; kernel_rfl) (by decide +kernel) (by decide +kernel) (by decide +kernel)
    (by first | exact .inl (by decide +kernel) | exact .inr (by decide +kernel)) (by rw [isSubtype_type]; kernel_rfl)
section
variable {prog : Program} {w : World} {A : Around} {E : Value → Shared → Prop} {s : Shared} {Q : Value → Shared → Prop}
theorem ne_type_same {X : String} (hX : ∀ s' : Shared, s'.TypeIs (.type X) "type") (h : Q (.bool false) s) : wpAny (model prog w) A (compareOp .NotEq (.type X) (.type X)) Q E s := by
  show wpAny _ A (richCompare .NotEq _ _) Q E s
  refine PySem.wpAny_richCompare_same (T := "type") (hX s) (hX s) slot_type_ne (wpAny_call_entry slot_type_ne (hX s) F.entry_object_ne ?_ (F.args_object_ne_2 _ _))
  unfold Builtin.«object.__ne__»
  refine wpAny_bind (m := slotArgs "__ne__" 1 _) (wpAny_of_eq (a := ((Value.type X : Value), [Value.type X])) (by first | rfl | (simp only [slotArgs]; rfl)) ?_)
  refine wpAny_bind (wpAny_cRoomFor_or (.inl rfl) ?_)
  refine wpAny_bind (m := callSpecialIfBound? (.type X) (Str.ofString "__eq__") [.type X]) (wpAny_callSpecialIfBound?_slot (hX s) slot_type_eq
    (call_gives slot_type_eq (hX s) F.entry_object_eq (F.args_object_eq_2 _ _) (object_eq_same rfl (by simp)) ?_))
  show wpAny (model prog w) A.in1 (truthy (.bool true) >>= fun b => ret (Value.bool !b)) _ E s
  exact wpAny_bind (wpAny_of_eq (a := true) (by first | rfl | simp [truthy]) (wpAny_pure ⟨_, rfl, (by intro e; cases e), h⟩))
end

/-- a != b of the same built-in type -/
def rNeTyS : R2 := fun x y H Q => ∃ a, x = .ty a ∧ y = .ty a ∧ (∀ s' : Shared, s'.TypeIs (.type a) "type") ∧ Q (.bl false) H
theorem op_neTy {X : Cx} : OpR X (compareOp .NotEq) rNeTyS := by
  intro pins s σ H x y v u Q I rx ry h
  obtain ⟨a, rfl, rfl, ha, q⟩ := h
  cases (show v = Value.type a from rx)
  cases (show u = Value.type a from ry)
  exact ne_type_same ha ⟨.bl false, H, I, rfl, q⟩
/-! ### heaps -/
theorem same_new {H : Hp} {p : Addr} {o : HO} (h : H p = none) : Same H (upd H p o) := fun b x e => by
  rw [upd_ne (ne_of_none e h)]
  exact e
/-- all but what stands at a is as it was -/
def But (a : Addr) (H H' : Hp) : Prop := ∀ b, b ≠ a → ∀ o, H b = some o → H' b = some o
end Lp
set_option Elab.async false
set_option linter.all false
set_option maxRecDepth 100000
namespace Lp
open PySem PySem.Spec PyProof.Rows L2

/-! ### comprehensions that only add -/
def LcP (H1 : Hp) (D : Addr) (acc : Nat → List V) (i : Nat) (H : Hp) : Prop := H1 D = none ∧ Same H1 H ∧ H D = some (.lst (acc i))
section
variable {H1 H H4 : Hp} {D : Addr} {acc : Nat → List V} {i : Nat} {y : V}
theorem LcP.init (h : H1 D = none) (e : acc 0 = []) : LcP H1 D acc 0 (upd H1 D (.lst [])) := ⟨h, same_new h, by rw [upd_same, e]⟩
theorem LcP.put (p : LcP H1 D acc i H) (s : Same H H4) (e : acc (i + 1) = acc i ++ [y]) (hz : (acc i).length < 100000) :
    ∃ l, H4 D = some (.lst l) ∧ l.length < sizeLine ∧ LcP H1 D acc (i + 1) (upd H4 D (.lst (l ++ [y]))) := by
  obtain ⟨p1, p2, p3⟩ := p
  refine ⟨acc i, s _ _ p3, Nat.lt_of_lt_of_le hz (by decide), p1, fun b o h => ?_, by rw [upd_same, e]⟩
  rw [upd_ne (ne_of_none h p1)]
  exact s _ _ (p2 _ _ h)
theorem LcP.skip (p : LcP H1 D acc i H) (s : Same H H4) (e : acc (i + 1) = acc i) : LcP H1 D acc (i + 1) H4 := ⟨p.1, p.2.1.trans s, by rw [e]; exact s _ _ p.2.2⟩
end
theorem get_int {ns : List Int} {i : Nat} {x : V} (h : (ns.map V.int)[i]? = some x) : ∃ n, x = .int n ∧ ns[i]? = some n := by
  rw [List.getElem?_map] at h
  cases e : ns[i]? with
  | none => rw [e] at h; cases h
  | some n => rw [e] at h; cases h; exact ⟨n, rfl, rfl⟩
theorem mem_get {α : Type} {l : List α} {i : Nat} {x : α} (h : l[i]? = some x) : x ∈ l := List.mem_of_getElem? h
theorem lt_get {α : Type} {l : List α} {i : Nat} {x : α} (h : l[i]? = some x) : i < l.length := (List.getElem?_eq_some_iff.mp h).1
theorem take_get {α : Type} {l : List α} {i : Nat} {x : α} (h : l[i]? = some x) : l.take (i + 1) = l.take i ++ [x] := by
  rw [List.take_add_one, h]
  rfl
theorem zs {n : Nat} (h : n ≤ 100000) : n ≤ sizeLine := Nat.le_trans h (by decide)
theorem zl {n : Nat} (h : n < 100000) : n < sizeLine := Nat.lt_of_lt_of_le h (by decide)
theorem at0 {x : V} {r : List V} : atI (x :: r) 0 = some x := atI_nat (j := 0) rfl
theorem at1 {x y : V} {r : List V} : atI (x :: y :: r) 1 = some y := atI_nat (j := 1) rfl
theorem at2 {x y z : V} {r : List V} : atI (x :: y :: z :: r) 2 = some z := atI_nat (j := 2) rfl
theorem at_last {xs : List V} {y : V} : atI (xs ++ [y]) (-1) = some y := atI_last _ _
theorem dT {p : Prop} [Decidable p] (h : p) : V.bl (decide p) = V.bl true := congrArg V.bl (decide_eq_true h)
theorem dF {p : Prop} [Decidable p] (h : ¬ p) : V.bl (decide p) = V.bl false := congrArg V.bl (decide_eq_false h)
theorem nT {p : Prop} [Decidable p] (h : ¬ p) : V.bl (!decide p) = V.bl true := by rw [decide_eq_false h]; rfl
theorem nF {p : Prop} [Decidable p] (h : p) : V.bl (!decide p) = V.bl false := by rw [decide_eq_true h]; rfl
theorem vne {i j : Int} (h : i ≠ j) : ¬ V.int i = V.int j := fun e => h (V.int.inj e)

/-! ### a word behind a test, a value -/
def tMid (t : TT) : TT := fun σ H Q => ∃ M : Bool → Hp → Prop, t σ H M ∧ ∀ b H', M b H' → Q b H'
theorem pt_mid {X : Cx} {e : Expr} {t : TT} (h : PT X e t) : PT X e (tMid t) := ⟨fun pins s σ H _ I ⟨M, hm, hq⟩ => thn (h.run pins s σ H M I hm) fun b _ ⟨H', I', m⟩ => ⟨H', I', hq b H' m⟩⟩
def tMidE (t : TE) : TE := fun σ H Q => ∃ M : VK, t σ H M ∧ ∀ v H', M v H' → Q v H'
theorem pe_mid {X : Cx} {e : Expr} {t : TE} (h : PE X e t) : PE X e (tMidE t) := ⟨fun pins s σ H _ I ⟨M, hm, hq⟩ => thn (h.run pins s σ H M I hm) fun _ _ ⟨v, H', I', r, m⟩ => ⟨v, H', I', r, hq v H' m⟩⟩
/-! ### all but what stands at a is as it was -/
def Bt (a : Addr) (H H' : Hp) : Prop := ∀ b o, b ≠ a → H b = some o → H' b = some o
section
variable {a b p : Addr} {H H1 H2 H' : Hp} {o : HO}
theorem Bt.refl (a : Addr) (H : Hp) : Bt a H H := fun _ _ _ e => e
theorem Bt.trans (x : Bt a H H1) (y : Bt a H1 H2) : Bt a H H2 := fun b o n e => y b o n (x b o n e)
theorem Bt.of (x : Same H H') : Bt a H H' := fun b o _ e => x b o e
theorem Bt.at_ (a : Addr) (H : Hp) (o : HO) : Bt a H (upd H a o) := fun b u n e => by rw [upd_ne n]; exact e
theorem Bt.new (h : H p = none) : Bt a H (upd H p o) := .of (same_new h)
theorem Bt.mut (x : Bt a H H') (h : H p = none) : Bt a H (upd H' p o) := fun b u n e => by rw [upd_ne (ne_of_none e h)]; exact x b u n e
theorem Bt.add (x : Bt a H H') (h : H' p = none) : Bt a H (upd H' p o) := x.trans (.new h)
theorem Same.mut (x : Same H H') (h : H p = none) : Same H (upd H' p o) := fun b u e => by rw [upd_ne (ne_of_none e h)]; exact x b u e
theorem Same.add (x : Same H H') (h : H' p = none) : Same H (upd H' p o) := x.trans (same_new h)
theorem Bt.seq {K : PySem.W.Frag} {xs : List V} (x : Bt a H H') (n : b ≠ a) (h : SqL K H b xs) : SqL K H' b xs := by
  rcases h with (h | ⟨o, h⟩) | h
  · exact .inl (.inl (x _ _ n h))
  · exact .inl (.inr ⟨o, x _ _ n h⟩)
  · exact .inr h
end

/-! ### rules that name the written part outright: for the inside of comprehensions -/
section
variable {X : Cx} {K : PySem.W.Frag} {o e : Expr} {es : List Expr} {to : TE} {t : TA} {name : Str} {apos cpos : Pos} {T id : String} {r : V → List V → Hp → VK → Prop}
theorem k_bm (hK : X.K = K) (pa : PlainAttrs T) (slot : Slot T name id) (hty : typeOf (.builtin id) = pure (.type "method_descriptor")) (hm : MtR X id r) (ho : PE X o to) (ha : PA X (e :: es) t)
    (hbase : attributeBase o name X.env (eval o X.env) = eval o X.env := by rfl)
    (hfew : ((backTo cpos (starEach (e :: es) X.env)).all (fun x => !x.1) && (backToKw cpos (keywordEach [] X.env)).all (fun x => x.1.isSome)
      && decide ((e :: es).length + ([] : List Keyword).length + (if ([] : List Keyword).isEmpty then 0 else 1) < 30)) = true := by rfl)
    (hline : (apos.endLine == cpos.line) = true := by rfl) (hs : starEach (e :: es) X.env = (false, eval e X.env) :: starEach es X.env := by rfl) (hplain : (backTo cpos (starEach es X.env)).any (·.1) = false := by rfl) :
    PE X (.Call (.Attribute o name apos) (e :: es) [] cpos) (tBM K T r to t) := by
  subst hK
  exact pe_bm pa slot hty hm ho ha hbase hfew hline hs hplain
def rLenK (K : PySem.W.Frag) : List V → Hp → VK → Prop := fun xs H Q => ∃ p ys, xs = [.ref p] ∧ (SqL K H p ys ∨ SqT K H p ys) ∧ Q (.int ys.length) H
theorem k_len (hK : X.K = K) : CallR X (.builtin "len") (rLenK K) := by
  subst hK
  exact call_len_seq
theorem k_ix (hK : X.K = K) : IxR X (rIxL K) := by
  subst hK
  exact ix_list
theorem k_ixT (hK : X.K = K) : IxR X (rIxT K) := by
  subst hK
  exact ix_tup
theorem k_in (hK : X.K = K) : OpR X (compareOp .In) (rIn K false) := by
  subst hK
  exact op_in_seq
theorem k_notin (hK : X.K = K) : OpR X (compareOp .NotIn) (rIn K true) := by
  subst hK
  exact op_notIn_seq
theorem k_isi (hK : X.K = K) : CallR X (.builtin "isinstance") (rIsi K) := by
  subst hK
  exact call_isi
end
end Lp
set_option Elab.async false
set_option linter.all false
set_option maxRecDepth 100000
namespace Lp
open PySem PySem.Spec PyProof.Rows L2
/-! ### lists of ints as data -/
abbrev dI (ns : List Int) : PyData := .list (ns.map PyData.int)
theorem lay_ints : ∀ ns : List Int, PyData.canLayAll0 (ns.map PyData.int) = true
  | [] => rfl
  | _ :: r => by
    show (PyData.canLay0 (.int _) && PyData.canLayAll0 (r.map PyData.int)) = true
    rw [lay_ints r]
    rfl
theorem depth_ints : ∀ ns : List Int, PyData.depthAll (ns.map PyData.int) = 0
  | [] => rfl
  | _ :: r => by
    show max (PyData.depth (.int _)) (PyData.depthAll (r.map PyData.int)) = 0
    rw [depth_ints r]
    rfl
theorem shaped_ints (ns : List Int) : SeqAt.shaped (dI ns) = true := by
  show (PyData.canLayAll0 (ns.map PyData.int) && decide (PyData.depthAll (ns.map PyData.int) + 1 ≤ 64)) = true
  rw [lay_ints, depth_ints]
  rfl
theorem noDict_ints : ∀ ns : List Int, PyData.hasDictAll (ns.map PyData.int) = false
  | [] => rfl
  | _ :: r => by
    show (PyData.hasDict (.int _) || PyData.hasDictAll (r.map PyData.int)) = false
    rw [noDict_ints r]
    rfl
theorem show_ints : ∀ ns : List Int, (∀ n ∈ ns, n.natAbs.log2 < 1920) → PyData.showableAll (ns.map PyData.int) = true
  | [], _ => rfl
  | n :: r, h => by
    show (decide (n.natAbs.log2 < 1920) && PyData.showableAll (r.map PyData.int)) = true
    rw [show_ints r (fun m hm => h m (List.mem_cons_of_mem _ hm)), decide_eq_true (h n List.mem_cons_self)]
    rfl
theorem dpAll_ints {K : PySem.W.Frag} {H : Hp} : ∀ ns : List Int, DpAll K H (ns.map V.int) (ns.map PyData.int)
  | [] => .nil
  | n :: r => .cons (.int n) (dpAll_ints r)
theorem dp_ints {K : PySem.W.Frag} {H : Hp} {a : Addr} {ns : List Int} (h : SqL K H a (ns.map V.int)) : Dp K H (.ref a) (dI ns) := .lst h (dpAll_ints ns)
theorem eqvAll_ints : ∀ xs ys : List Int, PyData.eqvAll (xs.map PyData.int) (ys.map PyData.int) = decide (xs = ys)
  | [], [] => rfl
  | [], _ :: _ => rfl
  | _ :: _, [] => rfl
  | x :: r, y :: s => by
    show (PyData.eqv (.int x) (.int y) && PyData.eqvAll (r.map PyData.int) (s.map PyData.int)) = decide (x :: r = y :: s)
    rw [eqvAll_ints r s]
    show ((x == y) && decide (r = s)) = decide (x :: r = y :: s)
    by_cases e : x = y <;> by_cases e' : r = s <;> simp [e, e']
theorem eqv_ints (xs ys : List Int) : PyData.eqv (dI xs) (dI ys) = decide (xs = ys) := by
  show PyData.eqvAll (xs.map PyData.int) (ys.map PyData.int) = _
  exact eqvAll_ints xs ys
/-- [] == [], by the reading of == -/
theorem textFrom_le : ∀ (ts : List Str) (k : Nat) (acc : Str) (m : Nat), (∀ t ∈ ts, t.length ≤ m) → (textFrom k acc ts).length ≤ acc.length + ts.length * (m + 2)
  | [], k, acc, m, _ => by
    show acc.length ≤ _
    simp
  | t :: r, k, acc, m, h => by
    have ih := fun k' acc' => textFrom_le r k' acc' m (fun x hx => h x (List.mem_cons_of_mem _ hx))
    have ht := h t List.mem_cons_self
    have z := ih (k + 1) (acc ++ (if k > 0 then ", " else "" : String) ++ t)
    have e : (acc ++ (if k > 0 then ", " else "" : String) ++ t).length ≤ acc.length + 2 + t.length := by
      rw [Str.length_append, Str.length_append]
      by_cases hk : k > 0
      · rw [if_pos hk]
        exact Nat.le_refl _
      · rw [if_neg hk]
        show acc.length + 0 + t.length ≤ _
        omega
    show (textFrom (k + 1) (acc ++ (if k > 0 then ", " else "" : String) ++ t) r).length ≤ acc.length + (r.length + 1) * (m + 2)
    rw [Nat.succ_mul]
    omega
theorem num_len : ∀ n : Int, -100 ≤ n → n ≤ 100 → (Str.ofString (toString n)).length ≤ 4 := by
  intro n h0 h1
  have key : ∀ i : Fin 201, (Str.ofString (toString ((i.val : Int) - 100))).length ≤ 4 := by decide +kernel
  have e := key ⟨(n + 100).toNat, by omega⟩
  have e2 : (((n + 100).toNat : Nat) : Int) - 100 = n := by omega
  rw [e2] at e
  exact e
theorem shownAll_mem : ∀ (ns : List Int) (t : Str), t ∈ PyData.shownAll (ns.map PyData.int) → ∃ n ∈ ns, t = Str.ofString (toString n)
  | [], t, h => by
    have h' : t ∈ ([] : List Str) := h
    cases h'
  | n :: r, t, h => by
    have h' : t ∈ Str.ofString (toString n) :: PyData.shownAll (r.map PyData.int) := h
    rcases List.mem_cons.mp h' with e | e
    · exact ⟨n, List.mem_cons_self, e⟩
    · obtain ⟨m, hm, e⟩ := shownAll_mem r t e
      exact ⟨m, List.mem_cons_of_mem _ hm, e⟩
theorem shownAll_len : ∀ ns : List Int, (PyData.shownAll (ns.map PyData.int)).length = ns.length
  | [] => rfl
  | n :: r => congrArg (· + 1) (shownAll_len r)
theorem shown_ints {ns : List Int} (hb : ∀ n ∈ ns, -100 ≤ n ∧ n ≤ 100) (hl : ns.length ≤ 1000) : (dI ns).shown.length ≤ sizeLine := by
  show (textFrom 0 "[" (PyData.shownAll (ns.map PyData.int)) ++ ("]" : Str)).length ≤ sizeLine
  rw [Str.length_append]
  have z := textFrom_le (PyData.shownAll (ns.map PyData.int)) 0 "[" 4 (fun t ht => by
    obtain ⟨n, hn, e⟩ := shownAll_mem ns t ht
    rw [e]
    exact num_len n (hb n hn).1 (hb n hn).2)
  rw [shownAll_len] at z
  have e1 : ("[" : Str).length = 1 := rfl
  have e2 : ("]" : Str).length = 1 := rfl
  rw [e1] at z
  rw [e2]
  exact zs (by omega)
theorem log2_small {n : Int} (h0 : -100 ≤ n) (h1 : n ≤ 100) : n.natAbs.log2 < 1920 := by
  have h : n.natAbs < 2 ^ 7 := by omega
  exact Nat.lt_trans (PySem.Flt.log2_lt_of (by decide : 0 < 7) h) (by decide)
theorem rrepr_ints {K : PySem.W.Frag} {H : Hp} {a : Addr} {ns : List Int} {Q : VK} (hS : SqL K H a (ns.map V.int)) (hb : ∀ n ∈ ns, -100 ≤ n ∧ n ≤ 100) (hl : ns.length ≤ 1000) (q : Q (.str (dI ns).shown) H) : rRepr K [.ref a] H Q :=
  ⟨a, dI ns, rfl, dp_ints hS, show_ints ns (fun n hn => log2_small (hb n hn).1 (hb n hn).2), noDict_ints ns, by
    show PyData.depthAll (ns.map PyData.int) + 1 ≤ 60
    rw [depth_ints]
    decide, shown_ints hb hl, q⟩

/-! ### places -/
theorem erase_map {α β : Type} (f : α → β) : ∀ (l : List α) (j : Nat), (l.map f).eraseIdx j = (l.eraseIdx j).map f
  | [], _ => by simp
  | x :: r, 0 => rfl
  | x :: r, j + 1 => congrArg (f x :: ·) (erase_map f r j)
theorem get_at {al : List Int} {j : Nat} (h : j < al.length) : (al.map V.int)[j]? = some (.int al[j]) := by
  rw [List.getElem?_map, List.getElem?_eq_getElem h]
  rfl
theorem ix_at {j n : Nat} (h : j < n) : seqIndex? (j : Int) n = some j := (ixN_seq (Evl.ixN_nat h)).1
theorem nat_of {r : Int} (h : 0 ≤ r) : ∃ j : Nat, r = (j : Int) := ⟨r.toNat, by omega⟩
theorem nm {k : Nat} (h : k ≤ 100000) : -(2 ^ 63) ≤ (k : Int) ∧ (k : Int) < 2 ^ 63 := by omega
theorem free_of {a p : Addr} {H H' : Hp} (b : Bt a H H') (n : p ≠ a) (h : H' p = none) : H p = none := by
  cases e : H p with
  | none => rfl
  | some o =>
    rw [b _ _ n e] at h
    cases h
theorem erase_perm : ∀ (l : List Int) (j : Nat) (h : j < l.length), (l[j] :: l.eraseIdx j).Perm l
  | x :: r, 0, _ => .refl _
  | x :: r, j + 1, h => by
    have h' : j < r.length := Nat.lt_of_succ_lt_succ h
    exact (List.Perm.swap x (r[j]'h') (r.eraseIdx j)).trans ((erase_perm r j h').cons x)
end Lp
set_option Elab.async false
set_option linter.all false
set_option maxRecDepth 100000
namespace Lp
open PySem PySem.Spec PyProof.Rows L2
theorem lc_enum {K : PySem.W.Frag} {a : Addr} {xs : List V} {g : TG} {tt : TT} {te : TE} {vs : List Nat} {σ : L2.St} {H1 : Hp} {D : Addr} {Qd : Hp → Prop} (Pv : Nat → Hp → Prop) (h0 : Pv 0 (upd H1 D (.lst []))) (hl : ∀ i H, i ≤ xs.length → Pv i H → SqL K H a xs)
    (hs : ∀ (i : Nat) (x : V) (T : Addr) (H : Hp), xs[i]? = some x → H T = none → Pv i H → g (.ref T) (wipe σ vs) (upd H T (.tup [.int (i : Nat), x])) fun σ2 H2 => wipe σ2 vs = wipe σ vs ∧ tt σ2 H2 fun b H3 =>
      if b = true then te σ2 H3 fun y H4 => ∃ acc, H4 D = some (.lst acc) ∧ acc.length < sizeLine ∧ Pv (i + 1) (upd H4 D (.lst (acc ++ [y]))) else Pv (i + 1) H3) (hd : ∀ H, Pv xs.length H → Qd H) :
    ∃ W : Nat → Nat → Hp → Prop, (∃ m, W 0 m (upd H1 D (.lst []))) ∧ ∀ i m H, W i m H →
      ((Ite K a).stop i H ∧ Qd H) ∨ ((Ite K a).go i H ∧ ∃ Nx : Hp → Prop, (∀ H', Nx H' → ∃ m', m' < m ∧ W (i + 1) m' H') ∧ ∀ x H', (Ite K a).yld i H x H' → g x (wipe σ vs) H' fun σ2 H2 => wipe σ2 vs = wipe σ vs ∧ tt σ2 H2 fun b H3 =>
        if b = true then te σ2 H3 fun y H4 => ∃ acc, H4 D = some (.lst acc) ∧ acc.length < sizeLine ∧ Nx (upd H4 D (.lst (acc ++ [y]))) else Nx H3) := by
  refine ⟨fun i m H => m = xs.length - i ∧ i ≤ xs.length ∧ Pv i H, ⟨xs.length, by simp, Nat.zero_le _, h0⟩, ?_⟩
  rintro i m H ⟨rfl, hi, pv⟩
  have sq := hl i H hi pv
  rcases Nat.lt_or_ge i xs.length with hlt | hge
  · refine .inr ⟨⟨xs, xs[i], sq, List.getElem?_eq_getElem hlt⟩, Pv (i + 1), fun H' p' => ⟨xs.length - (i + 1), by omega, rfl, hlt, p'⟩, fun x H' y => ?_⟩
    obtain ⟨T, z, rfl, nT, rfl, ez⟩ := y
    exact hs i z T H (ez xs sq) nT pv
  · have e : i = xs.length := by omega
    subst e
    exact .inl ⟨⟨xs, sq, Nat.le_refl _⟩, hd H pv⟩
theorem cut_take (xs : List V) (k : Nat) (h : k ≤ xs.length) : cutV xs none (some (k : Int)) = xs.take k := by
  unfold cutV
  rw [HT.sIx_none, HT.sIx_nat, List.drop_zero, Nat.sub_zero, Nat.min_eq_left h]
theorem decV (i j : Int) : decide (V.int i = V.int j) = decide (i = j) := decide_eq_decide.mpr ⟨fun z => V.int.inj z, fun z => congrArg V.int z⟩
theorem k_sl {X : Cx} {K : PySem.W.Frag} (hK : X.K = K) : SlR X (rSlL K) := by
  subst hK
  exact sl_list
theorem k_tup {X : Cx} {K : PySem.W.Frag} {es : List Expr} {k : Nat} {pos : Pos} {t : TGs} {n : Nat} (hK : X.K = K) (hc : X.calm = true) (h : PGs X es t)
    (hn : (assignEach es X.env).length = n := by rfl) (hst : (assignEach es X.env).findIdx? (·.1) = none := by rfl) : PG X (.Tuple es k pos) (gTup K n t) := by
  subst hK
  exact pg_tup hc h hn hst
theorem seqN {K : PySem.W.Frag} {xs : List V} {H H1 H' : Hp} {a b : Addr} (h : SqL K H b xs) (n : H a = none) (s : Same H H1) (x : Bt a H1 H') : SqL K H' b xs := by
  rcases h with (h | ⟨o, h⟩) | h
  · exact .inl (.inl (x _ _ (ne_of_none h n) (s _ _ h)))
  · exact .inl (.inr ⟨o, x _ _ (ne_of_none h n) (s _ _ h)⟩)
  · exact .inr h
theorem rI1 {ns : List Int} (hb : ∀ n ∈ ns, -100 ≤ n ∧ n ≤ 100) : (dI ns).showable = true := show_ints ns (fun n hn => log2_small (hb n hn).1 (hb n hn).2)
theorem rI2 (ns : List Int) : (dI ns).depth ≤ 60 := by
  show PyData.depthAll (ns.map PyData.int) + 1 ≤ 60
  rw [depth_ints]
  decide
end Lp
set_option Elab.async false
set_option linter.all false
set_option maxRecDepth 100000
namespace Lp
open PySem PySem.Spec PyProof.Rows L2
theorem lc_zipL {K : PySem.W.Frag} {a b : Addr} {xs ys : List V} {g : TG} {tt : TT} {te : TE} {vs : List Nat} {σ : L2.St} {H1 : Hp} {D : Addr} {Qd : Hp → Prop} (le : xs.length = ys.length) (Pv : Nat → Hp → Prop) (h0 : Pv 0 (upd H1 D (.lst []))) (hl : ∀ i H, i ≤ xs.length → Pv i H → SqL K H a xs ∧ SqL K H b ys)
    (hs : ∀ (i : Nat) (x y : V) (T : Addr) (H : Hp), xs[i]? = some x → ys[i]? = some y → H T = none → Pv i H → g (.ref T) (wipe σ vs) (upd H T (.tup [x, y])) fun σ2 H2 => wipe σ2 vs = wipe σ vs ∧ tt σ2 H2 fun b H3 =>
      if b = true then te σ2 H3 fun y H4 => ∃ acc, H4 D = some (.lst acc) ∧ acc.length < sizeLine ∧ Pv (i + 1) (upd H4 D (.lst (acc ++ [y]))) else Pv (i + 1) H3) (hd : ∀ H, Pv xs.length H → Qd H) :
    ∃ W : Nat → Nat → Hp → Prop, (∃ m, W 0 m (upd H1 D (.lst []))) ∧ ∀ i m H, W i m H →
      ((Itz K a b).stop i H ∧ Qd H) ∨ ((Itz K a b).go i H ∧ ∃ Nx : Hp → Prop, (∀ H', Nx H' → ∃ m', m' < m ∧ W (i + 1) m' H') ∧ ∀ x H', (Itz K a b).yld i H x H' → g x (wipe σ vs) H' fun σ2 H2 => wipe σ2 vs = wipe σ vs ∧ tt σ2 H2 fun b H3 =>
        if b = true then te σ2 H3 fun y H4 => ∃ acc, H4 D = some (.lst acc) ∧ acc.length < sizeLine ∧ Nx (upd H4 D (.lst (acc ++ [y]))) else Nx H3) := by
  refine ⟨fun i m H => m = xs.length - i ∧ i ≤ xs.length ∧ Pv i H, ⟨xs.length, by simp, Nat.zero_le _, h0⟩, ?_⟩
  rintro i m H ⟨rfl, hi, pv⟩
  obtain ⟨sa, sb⟩ := hl i H hi pv
  rcases Nat.lt_or_ge i xs.length with hlt | hge
  · refine .inr ⟨⟨xs, ys, xs[i], ys[i]'(by omega), sa, sb, List.getElem?_eq_getElem hlt, List.getElem?_eq_getElem (by omega)⟩, Pv (i + 1), fun H' p' => ⟨xs.length - (i + 1), by omega, rfl, hlt, p'⟩, fun x H' y => ?_⟩
    obtain ⟨T, z1, z2, rfl, nT, rfl, e1, e2⟩ := y
    exact hs i z1 z2 T H (e1 xs sa) (e2 ys sb) nT pv
  · have e : i = xs.length := by omega
    subst e
    exact .inl ⟨⟨xs, ys, sa, sb, .inl (Nat.le_refl _)⟩, hd H pv⟩
theorem lc_zipT {K : PySem.W.Frag} {a b : Addr} {xs ys : List V} {g : TG} {tt : TT} {te : TE} {vs : List Nat} {σ : L2.St} {H1 : Hp} {D : Addr} {Qd : Hp → Prop} (le : xs.length = ys.length) (Pv : Nat → Hp → Prop) (h0 : Pv 0 (upd H1 D (.lst []))) (hl : ∀ i H, i ≤ xs.length → Pv i H → SqT K H a xs ∧ SqT K H b ys)
    (hs : ∀ (i : Nat) (x y : V) (T : Addr) (H : Hp), xs[i]? = some x → ys[i]? = some y → H T = none → Pv i H → g (.ref T) (wipe σ vs) (upd H T (.tup [x, y])) fun σ2 H2 => wipe σ2 vs = wipe σ vs ∧ tt σ2 H2 fun b H3 =>
      if b = true then te σ2 H3 fun y H4 => ∃ acc, H4 D = some (.lst acc) ∧ acc.length < sizeLine ∧ Pv (i + 1) (upd H4 D (.lst (acc ++ [y]))) else Pv (i + 1) H3) (hd : ∀ H, Pv xs.length H → Qd H) :
    ∃ W : Nat → Nat → Hp → Prop, (∃ m, W 0 m (upd H1 D (.lst []))) ∧ ∀ i m H, W i m H →
      ((RZ.ItzT K a b).stop i H ∧ Qd H) ∨ ((RZ.ItzT K a b).go i H ∧ ∃ Nx : Hp → Prop, (∀ H', Nx H' → ∃ m', m' < m ∧ W (i + 1) m' H') ∧ ∀ x H', (RZ.ItzT K a b).yld i H x H' → g x (wipe σ vs) H' fun σ2 H2 => wipe σ2 vs = wipe σ vs ∧ tt σ2 H2 fun b H3 =>
        if b = true then te σ2 H3 fun y H4 => ∃ acc, H4 D = some (.lst acc) ∧ acc.length < sizeLine ∧ Nx (upd H4 D (.lst (acc ++ [y]))) else Nx H3) := by
  refine ⟨fun i m H => m = xs.length - i ∧ i ≤ xs.length ∧ Pv i H, ⟨xs.length, by simp, Nat.zero_le _, h0⟩, ?_⟩
  rintro i m H ⟨rfl, hi, pv⟩
  obtain ⟨sa, sb⟩ := hl i H hi pv
  rcases Nat.lt_or_ge i xs.length with hlt | hge
  · refine .inr ⟨⟨xs, ys, xs[i], ys[i]'(by omega), sa, sb, List.getElem?_eq_getElem hlt, List.getElem?_eq_getElem (by omega)⟩, Pv (i + 1), fun H' p' => ⟨xs.length - (i + 1), by omega, rfl, hlt, p'⟩, fun x H' y => ?_⟩
    obtain ⟨T, z1, z2, rfl, nT, rfl, e1, e2⟩ := y
    exact hs i z1 z2 T H (e1 xs sa) (e2 ys sb) nT pv
  · have e : i = xs.length := by omega
    subst e
    exact .inl ⟨⟨xs, ys, sa, sb, .inl (Nat.le_refl _)⟩, hd H pv⟩
theorem tyx_l {K : PySem.W.Frag} {H : Hp} {a : Addr} {xs : List V} (h : SqL K H a xs) : TyX K H (.ref a) (.type "list") := by
  rcases h with (h | ⟨o, h⟩) | ⟨o, its, n, h, c, _⟩
  · exact .base (.lst h)
  · exact .base (.frz h)
  · exact .kList h c
theorem tyx_t {K : PySem.W.Frag} {H : Hp} {a : Addr} {xs : List V} (h : SqT K H a xs) : TyX K H (.ref a) (.type "tuple") := by
  rcases h with (h | ⟨o, h⟩) | ⟨o, its, n, h, c, _⟩
  · exact .base (.tup h)
  · exact .fTuple h
  · exact .kTuple h c
theorem seqT {K : PySem.W.Frag} {H H' : Hp} {a : Addr} {xs : List V} (e : Same H H') (h : SqT K H a xs) : SqT K H' a xs := by
  rcases h with (h | ⟨o, h⟩) | h
  · exact .inl (.inl (e _ _ h))
  · exact .inl (.inr ⟨o, e _ _ h⟩)
  · exact .inr h
mutual
theorem dp_same {K : PySem.W.Frag} {H H' : Hp} (s : Same H H') : ∀ {v : V} {d : PyData}, Dp K H v d → Dp K H' v d
  | _, _, .non => .non
  | _, _, .bl b => .bl b
  | _, _, .int i => .int i
  | _, _, .str x => .str x
  | _, _, .lst h1 h2 => .lst (s.seq h1) (dpAll_same s h2)
  | _, _, .tup h1 h2 => .tup (seqT s h1) (dpAll_same s h2)
theorem dpAll_same {K : PySem.W.Frag} {H H' : Hp} (s : Same H H') : ∀ {vs : List V} {ds : List PyData}, DpAll K H vs ds → DpAll K H' vs ds
  | _, _, .nil => .nil
  | _, _, .cons h1 h2 => .cons (dp_same s h1) (dpAll_same s h2)
end
theorem dpAll_len {K : PySem.W.Frag} {H : Hp} : ∀ {vs : List V} {ds : List PyData}, DpAll K H vs ds → vs.length = ds.length
  | _, _, .nil => rfl
  | _, _, .cons _ h => congrArg (· + 1) (dpAll_len h)
theorem dpAll_get {K : PySem.W.Frag} {H : Hp} : ∀ {vs : List V} {ds : List PyData} {i : Nat} {v : V}, DpAll K H vs ds → vs[i]? = some v → ∃ d, ds[i]? = some d ∧ Dp K H v d
  | _, _, 0, _, .cons h _, e => by cases e; exact ⟨_, rfl, h⟩
  | _, _, i + 1, _, .cons _ h, e => dpAll_get (i := i) h e
theorem depth_get : ∀ {ds : List PyData} {i : Nat} {d : PyData}, ds[i]? = some d → d.depth ≤ PyData.depthAll ds
  | x :: r, 0, d, e => by cases e; exact Nat.le_max_left _ _
  | x :: r, i + 1, d, e => Nat.le_trans (depth_get (ds := r) (i := i) e) (Nat.le_max_right _ _)
theorem kitA {K : PySem.W.Frag} {t c1 c2 : Value} {b : Bool} (h1 : PySem.W.kitOne K t c1 = some false) (h2 : PySem.W.kitOne K t c2 = some b) : PySem.W.kitAny K t [c1, c2] = some b := by
  unfold PySem.W.kitAny
  rw [h1]
  show PySem.W.kitAny K t [c2] = _
  unfold PySem.W.kitAny
  rw [h2]
  cases b <;> rfl
theorem kitT {K : PySem.W.Frag} {t c1 : Value} {cs : List Value} (h1 : PySem.W.kitOne K t c1 = some true) : PySem.W.kitAny K t (c1 :: cs) = some true := by
  unfold PySem.W.kitAny
  rw [h1]
/-! ### list(range(a, b, c)) -/
def tList3 (ta : TA) : TE := fun σ H Q => ta σ H fun vs H1 => ∃ (i j c : Int) (n : Nat), vs = [.int i, .int j, .int c] ∧ RgC i j c n ∧ n ≤ 100000 ∧ ∀ q, H1 q = none → Q (.ref q) (upd H1 q (.lst ((List.range n).map fun k : Nat => V.int (i + (k : Int) * c))))
theorem vals_rg3 {a c : Int} {n : Nat} {acc : Array Value} (h : ItemsOf (fun i v => ∃ t, v = .int (a + i * c) t) acc n) : Vals ((List.range n).map fun k : Nat => V.int (a + (k : Int) * c)) acc.toList := by
  have e : acc.toList.length = n := by rw [Array.length_toList]; exact h.1
  rw [← e]
  refine vals_of_get acc.toList _ fun j u hj => ?_
  obtain ⟨t, rfl⟩ := h.2 j u (by rw [← hj, Array.getElem?_toList])
  exact ⟨t, rfl⟩
theorem pe_list3 {X : Cx} {a b c : Expr} {ta : TA} {p p2 pos pos2 : Pos} (hc : X.calm = true) (hg : Gl X "list") (hm : X.mg "list" = none) (hg2 : Gl X "range") (hm2 : X.mg "range" = none) (ha : PA X [a, b, c] ta)
    (hs : starEach [a, b, c] X.env = (false, eval a X.env) :: starEach [b, c] X.env := by rfl) (hpl : (backTo pos2 (starEach [b, c] X.env)).any (·.1) = false := by rfl)
    (na : starEach [.Call (.Name "range" p2) [a, b, c] [] pos2] X.env = (false, eval (.Call (.Name "range" p2) [a, b, c] [] pos2) X.env) :: starEach [] X.env := by rfl) :
    PE X (.Call (.Name "list" p) [.Call (.Name "range" p2) [a, b, c] [] pos2] [] pos) (tList3 ta) := by
  refine ⟨fun pins s σ H Q I h => ?_⟩
  refine Call_ (ld_blt I hg hm boot_list (PyProof.Rows.callWith_type1 (args_cons (?_) na) na))
  refine Call_ (ld_blt I hg2 hm2 boot_range (PyProof.Rows.callWith_type1 (thn (ha.run pos2 pins s σ H _ I h) fun us s1 ⟨vs, H1, I1, r1, q1⟩ => ?_) hs hpl))
  obtain ⟨i, j, k, n, e, ⟨c0, c1, c2, c3⟩, hn, q⟩ := q1
  subst e
  cases r1 with
  | cons r rr =>
    cases rr with
    | cons r' rr =>
      cases rr with
      | cons r'' rr =>
        cases rr
        obtain ⟨t, rfl⟩ := r
        obtain ⟨t', rfl⟩ := r'
        obtain ⟨t'', rfl⟩ := r''
        refine call_range_3 c0 ?_ (.inl (PyProof.noPylong_small c1))
        refine args_nil ?_
        have I2 : Inv X pins σ H1 { s1 with heap := s1.heap.push { cls := .type "range", data := .fields #[.int i t, .int j t', .int k t''] } } := I1.kept (t' := s1.toks) fun b o e => Heap.get?_push_of_some _ e
        refine call_list_range (n := n) (I2.ok.hd hc) (IsRange.new ..) c2 c3 (by omega) fun h' tk acc c' hk e' hi => ?_
        refine ⟨.ref _, upd H1 _ (.lst ((List.range n).map fun m : Nat => V.int (i + (m : Int) * k))), I2.laid hk (Nat.le_refl _) (show ObjOk X.prog X.w _ _ _ (.lst _) from ⟨?_, acc.toList, c', vals_rg3 hi, ?_⟩), rfl, q _ (I2.hok.fresh (Nat.le_refl _))⟩
        · rw [List.length_map, List.length_range]
          exact zs hn
        · rw [Array.toArray_toList]; exact e'
end Lp
set_option Elab.async false
set_option linter.all false
set_option maxRecDepth 100000
namespace Lp
open PySem PySem.Spec PyProof.Rows L2
/-! ### xs.count(text) -/
theorem strCount {k : Str} : ∀ {us : List Value} {ys : List Str}, StrsAre us ys → us.countP (isStrOf k) = ys.countP (fun y => y == k)
  | _, _, .nil => rfl
  | _, _, .cons n t h => by
    have ih := strCount (k := k) h
    rw [List.countP_cons, List.countP_cons, ih] <;> rfl
def rCntS (K : PySem.W.Frag) : V → List V → Hp → VK → Prop := fun x xs H Q => ∃ (p : Addr) (ys : List Str) (k : Str), x = .ref p ∧ xs = [.str k] ∧ SqL K H p (ys.map V.str) ∧ Q (.int (ys.countP (fun y => y == k) : Nat)) H
theorem mt_lcountS {X : Cx} : MtR X "list.count" (rCntS X.K) := by
  intro pins s σ H x xs v us Q I rx rxs h
  obtain ⟨p, ys, k, rfl, rfl, hs, q⟩ := h
  cases rx
  obtain ⟨u, rfl, ru⟩ := rxs.one
  obtain ⟨t, rfl⟩ := ru
  obtain ⟨its, rv, ⟨⟨cls, dd, data, sl⟩, n, ho, hc, hdn, hd⟩, hlen⟩ := I.list hs
  simp only at hc hd
  subst hc hd
  have hi := Vals.strs rv
  refine call_meets PySem.F.slot_list_count ⟨_, ho, rfl⟩ PySem.F.entry_list_count (PySem.F.args_list_count_2 _ _)
    (SeqAt.list_countAt p its.toArray n dd sl (.str k t) (isStrOf k)) ⟨ho, fun y hy => (eq_isStrOf k t hi y (by simpa using hy)).at _ _, ?_⟩
  have ec : its.toArray.toList.countP (isStrOf k) = ys.countP (fun y => y == k) := strCount hi
  refine ⟨.int (ys.countP (fun y => y == k) : Nat), H, I.tok _, ⟨s.toks, ?_⟩, q⟩
  show Value.int ((its.toArray.toList.countP (isStrOf k) : Nat) : Int) s.toks = Value.int ((ys.countP (fun y => y == k) : Nat) : Int) s.toks
  rw [ec]
end Lp
set_option Elab.async false
set_option linter.all false
set_option maxRecDepth 100000
namespace Lp
open PySem PySem.Spec PyProof.Rows L2
/-! ### dict comprehensions over enumerate -/
theorem dc_enum {K : PySem.W.Frag} {a : Addr} {xs : List V} {g : TG} {tt : TT} {tk tv : TE} {vs : List Nat} {σ : L2.St} {H1 : Hp} {D : Addr} {Qd : Hp → Prop} (Pv : Nat → Hp → Prop) (h0 : Pv 0 (upd H1 D (.dK []))) (hl : ∀ i H, i ≤ xs.length → Pv i H → SqL K H a xs)
    (hs : ∀ (i : Nat) (x : V) (T : Addr) (H : Hp), xs[i]? = some x → H T = none → Pv i H → g (.ref T) (wipe σ vs) (upd H T (.tup [.int (i : Nat), x])) fun σ2 H2 => wipe σ2 vs = wipe σ vs ∧ tt σ2 H2 fun b H3 =>
      if b = true then tk σ2 H3 fun y H4 => tv σ2 H4 fun z H5 => ∃ kvs k, y = kV k ∧ H5 D = some (.dK kvs) ∧ kvs.length < sizeLine ∧ Pv (i + 1) (upd H5 D (.dK (putK kvs k z))) else Pv (i + 1) H3) (hd : ∀ H, Pv xs.length H → Qd H) :
    ∃ W : Nat → Nat → Hp → Prop, (∃ m, W 0 m (upd H1 D (.dK []))) ∧ ∀ i m H, W i m H →
      ((Ite K a).stop i H ∧ Qd H) ∨ ((Ite K a).go i H ∧ ∃ Nx : Hp → Prop, (∀ H', Nx H' → ∃ m', m' < m ∧ W (i + 1) m' H') ∧ ∀ x H', (Ite K a).yld i H x H' → g x (wipe σ vs) H' fun σ2 H2 => wipe σ2 vs = wipe σ vs ∧ tt σ2 H2 fun b H3 =>
        if b = true then tk σ2 H3 fun y H4 => tv σ2 H4 fun z H5 => ∃ kvs k, y = kV k ∧ H5 D = some (.dK kvs) ∧ kvs.length < sizeLine ∧ Nx (upd H5 D (.dK (putK kvs k z))) else Nx H3) := by
  refine ⟨fun i m H => m = xs.length - i ∧ i ≤ xs.length ∧ Pv i H, ⟨xs.length, by simp, Nat.zero_le _, h0⟩, ?_⟩
  rintro i m H ⟨rfl, hi, pv⟩
  have sq := hl i H hi pv
  rcases Nat.lt_or_ge i xs.length with hlt | hge
  · refine .inr ⟨⟨xs, xs[i], sq, List.getElem?_eq_getElem hlt⟩, Pv (i + 1), fun H' p' => ⟨xs.length - (i + 1), by omega, rfl, hlt, p'⟩, fun x H' y => ?_⟩
    obtain ⟨T, z, rfl, nT, rfl, e1⟩ := y
    exact hs i z T H (e1 xs sq) nT pv
  · have e : i = xs.length := by omega
    subst e
    exact .inl ⟨⟨xs, sq, Nat.le_refl _⟩, hd H pv⟩
end Lp
set_option Elab.async false
set_option linter.all false
set_option maxRecDepth 100000
namespace Lp
open PySem PySem.Spec PyProof.Rows L2
/-! ### list + list, the script's own list too -/
def rCatS (K : PySem.W.Frag) : R2 := fun x y H Q => ∃ l b xs zs, x = .ref l ∧ y = .ref b ∧ SqL K H l xs ∧ SqL K H b zs ∧ xs.length + zs.length ≤ sizeLine ∧ ∀ p, H p = none → Q (.ref p) (upd H p (.lst (xs ++ zs)))
theorem op_catS {X : Cx} : OpR X (binaryOp .Add) (rCatS X.K) := by
  intro pins s σ H x y v u Q I rx ry h
  obtain ⟨l, b, xs, zs, rfl, rfl, hl, hb, hz, q⟩ := h
  cases rx
  cases ry
  obtain ⟨its, r, ⟨⟨cls, dd, data, sl⟩, n, ho, hc, hdn, hd⟩, h1⟩ := I.list hl
  obtain ⟨its2, r2, ⟨⟨cls2, dd2, data2, sl2⟩, n2, ho2, hc2, hdn2, hd2⟩, h2⟩ := I.list hb
  simp only at hc hd hc2 hd2
  subst hc hd hc2 hd2
  have e1 := r.length
  have e2 := r2.length
  refine concat_meets ⟨_, ho, rfl⟩ ⟨_, ho2, rfl⟩ noFill_list_add seq_list_add PySem.F.slot_list_add PySem.F.entry_list_add (PySem.F.args_list_add_2 _ _) (list_addW l b its.toArray its2.toArray n n2 dd dd2 sl sl2 (by rw [List.size_toArray, List.size_toArray]; omega)) ⟨ho, ho2, ?_⟩
  have ea : its.toArray ++ its2.toArray = (its ++ its2).toArray := by simp
  rw [ea]
  exact ⟨.ref _, _, I.lnew (t' := s.toks) (r.append r2) (by rw [List.length_append]; omega), rfl, q _ I.fresh⟩
end Lp
set_option Elab.async false
set_option linter.all false
set_option maxRecDepth 100000
namespace Lp
open PySem PySem.Spec PyProof.Rows L2

/-! ### calls by keywords, of defs that are called where no repr is under way -/
structure Gk (P : Program) (w : World) (K : PySem.W.Frag) (mg : Str → Option Value) (base : Heap) (k : Nat) (x : Str) (n : Nat) (ks : List Str) (gV : List V → List V → List V) (sp : Sp) : Prop where
  ex : ∃ (f : Addr) (fd : FuncData) (ps : List Str) (g : List Value → List Value → List Value), FnG P w K mg base CX0 k f fd ps sp ∧ mg x = some (.ref f) ∧ PySem.W.keepIn K (.ref f) = true ∧ KBn K fd ps n ks g gV
theorem kb_of {K : PySem.W.Frag} {x qual : Str} {st : Stmt} {f : Addr} {fd : FuncData} {ps : List Str} (F : Fun K x qual st f fd) (n : Nat) (ks : List Str) (g : {α : Type} → List α → List α → List α)
    (hrel : ∀ {vs : List V} {us : List Value} {zs : List V} {ws : List Value}, Vals vs us → Vals zs ws → Vals (g vs zs) (g us ws))
    (h : ∀ (kV doc pm : Value) (an : Option Addr) (cdv ct : Value) (us ws : List Value), us.length = n → ws.length = ks.length → bindArgs (PySem.W.fnOf x qual (defArgs st) (defBody st) (defScope st) .none kV doc pm an cdv ct) ⟨us, ks.zip ws⟩ = pure (ps.zip (g us ws))) :
    KBn K fd ps n ks g g := by
  obtain ⟨oc, od, kV, doc, pm, an, cdv, ct, osl, rfl, lk, hcd⟩ := F.ex
  exact ⟨fun s us ws _ l1 l2 => .of_eq (h kV doc pm an cdv ct us ws l1 l2), hrel⟩
theorem kb_gApp0 {vs : List V} {us : List Value} {zs : List V} {ws : List Value} (a : Vals vs us) (b : Vals zs ws) : Vals (vs ++ zs) (us ++ ws) := a.append b
def gApp {α : Type} (us ws : List α) : List α := us ++ ws
def gRev {α : Type} (us ws : List α) : List α := us ++ ws.reverse
theorem kb_gApp {vs : List V} {us : List Value} {zs : List V} {ws : List Value} (a : Vals vs us) (b : Vals zs ws) : Vals (gApp vs zs) (gApp us ws) := a.append b
theorem vals_rev2 : ∀ {zs : List V} {ws : List Value}, Vals zs ws → Vals zs.reverse ws.reverse
  | _, _, .nil => .nil
  | _, _, .cons h t => by
    rw [List.reverse_cons, List.reverse_cons]
    exact (vals_rev2 t).append (.cons h .nil)
theorem kb_gRev {vs : List V} {us : List Value} {zs : List V} {ws : List Value} (a : Vals vs us) (b : Vals zs ws) : Vals (gRev vs zs) (gRev us ws) := a.append (vals_rev2 b)
def tCallG (n m : Nat) (sp : Sp) (gV : List V → List V → List V) (t tk : TA) : TE := fun σ H Q => t σ H fun vs H1 => tk σ H1 fun zs H2 => vs.length = n ∧ zs.length = m ∧ sp (gV vs zs) H2 Q E0
section
variable {X : Cx} {CX : CXT} {k n : Nat} {f : Addr} {fd : FuncData} {ps ks : List Str} {sp : Sp} {E : XK} {x : Str} {p pos : Pos} {e : Expr} {es : List Expr} {kws : List Keyword} {t tk : TA} {g : List Value → List Value → List Value} {gV : List V → List V → List V}
theorem run_fnG {pins : List (Addr × Obj)} {σ : L2.St} {H : Hp} {s : Shared} {Q : VK} {us ws : List Value} {vs zs : List V} (F : FnG X.prog X.w X.K X.mg X.base CX k f fd ps sp) (hG : X.A.guards = some []) (hr : Room k X.A) (hb : KBn X.K fd ps n ks g gV) (hx : Passes CX X E)
    (I : Inv X pins σ H s) (r : Vals vs us) (rz : Vals zs ws) (l1 : vs.length = n) (l2 : zs.length = ks.length) (h : sp (gV vs zs) H Q E) : wpAny (model X.prog X.w) X.A (call (.ref f) us (ks.zip ws)) (EP X pins σ Q) X.xe s := by
  have r2 := hb.rel r rz
  refine wpAny_call (codeAny_mono (F.runG X.A X.stack s H ⟨us, ks.zip ws⟩ (g us ws) (gV vs zs) Q E hG hr I.env0 (hb.to s us ws I.kIn (r.length.symm.trans l1) (rz.length.symm.trans l2)) r2 h) fun r s' hq => ?_)
  cases r with
  | error e => exact hx pins σ H s e s' I hq
  | ok fl =>
    cases fl with
    | ret u => exact I.after hq
    | next => exact False.elim hq
    | brk => exact False.elim hq
    | cont => exact False.elim hq
/-- f(k = v, ..) -/
theorem pe_gK0 {j : Nat} (c : Gk X.prog X.w X.K X.mg X.base k x 0 ks gV sp) (hG : X.A.guards = some []) (hr : Room j X.A) (hk : k ≤ j) (hg : Gl X x) (hkw : PK X kws tk)
    (hall : (backToKw pos (keywordEach kws X.env)).all (·.1.isSome) = true := by rfl) (hks : (backToKw pos (keywordEach kws X.env)).filterMap (·.1) = ks := by rfl) (hdb : (x == ("__debug__" : Str)) = false := by decide)
    (hpl : ((backTo pos (starEach [] X.env)).any (·.1) || (backToKw pos (keywordEach kws X.env)).any (·.1.isNone)) = false := by rfl) :
    PE X (.Call (.Name x p) [] kws pos) (tCallG 0 ks.length sp gV tNil tk) := by
  obtain ⟨f, fd, ps, g, F, hm, kp, hb⟩ := c.ex
  refine ⟨fun pins s σ H Q I h => ?_⟩
  refine wpAny_Call_Name_kw (ld_glob I hg hm ?_ hdb)
  refine PySem.W.callWith_KW0 (h₀ := X.base) I.ok.mod.kin kp hall ?_ hpl
  refine thn (hkw.run pos pins s σ H _ I h) fun ws s2 ⟨zs, H2, I2, rz, l1, l2, q2⟩ => ⟨I2.kIn, ?_⟩
  rw [hks]
  exact run_fnG (us := []) (vs := []) F hG (hr.mono hk) hb pass0 I2 .nil rz rfl l2 q2
/-- f(e, .., k = v, ..) -/
theorem pe_gK {j : Nat} (c : Gk X.prog X.w X.K X.mg X.base k x n ks gV sp) (hG : X.A.guards = some []) (hr : Room j X.A) (hk : k ≤ j) (hg : Gl X x) (ha : PA X (e :: es) t) (hkw : PK X kws tk)
    (hall : (backToKw pos (keywordEach kws X.env)).all (·.1.isSome) = true := by rfl) (hks : (backToKw pos (keywordEach kws X.env)).filterMap (·.1) = ks := by rfl) (hdb : (x == ("__debug__" : Str)) = false := by decide)
    (he : starEach (e :: es) X.env = (false, eval e X.env) :: starEach es X.env := by rfl) (hpl : ((backTo pos (starEach (e :: es) X.env)).any (·.1) || (backToKw pos (keywordEach kws X.env)).any (·.1.isNone)) = false := by rfl) :
    PE X (.Call (.Name x p) (e :: es) kws pos) (tCallG n ks.length sp gV t tk) := by
  obtain ⟨f, fd, ps, g, F, hm, kp, hb⟩ := c.ex
  refine ⟨fun pins s σ H Q I h => ?_⟩
  refine wpAny_Call_Name_kw (ld_glob I hg hm ?_ hdb)
  refine PySem.W.callWith_KW (h₀ := X.base) I.ok.mod.kin kp hall (thn (ha.run pos pins s σ H _ I h) fun us s1 ⟨vs, H1, I1, r, q⟩ => ?_) hpl he
  refine thn (hkw.run pos pins s1 σ H1 _ I1 q) fun ws s2 ⟨zs, H2, I2, rz, l1, l2, q2⟩ => ⟨I2.kIn, ?_⟩
  rw [hks]
  exact run_fnG F hG (hr.mono hk) hb pass0 I2 r rz l1 l2 q2
end

/-! ### i *= j of great ints -/
def ipC (C : Int → Int → Prop) (f : Int → Int → Int) : TIp := fun x y H Q => ∃ i j, x = .int i ∧ y = .int j ∧ C i j ∧ Q (.int (f i j)) H
section
variable {X : Cx}
theorem ip_mulW : PIp X .Mult (ipC CMulW fun i j => i * j) := by
  intro pins s σ H x y v u Q I r1 r2 h
  obtain ⟨i, j, e1, e2, hc, q⟩ := h
  subst e1; subst e2
  obtain ⟨t, rfl⟩ := r1
  obtain ⟨t', rfl⟩ := r2
  exact imul_int ⟨.int _, H, I.tok _, ⟨_, rfl⟩, q⟩ hc.ok
/-! ### text * int -/
theorem foldl_repN (l : List Nat) : ∀ (n : Nat) (acc : List Nat), List.foldl (fun x1 x2 => x1 ++ x2) acc.toArray (List.replicate n l.toArray) = (acc ++ (List.replicate n l).flatten).toArray
  | 0, acc => by simp
  | n + 1, acc => by
    rw [List.replicate_succ, List.foldl_cons, List.append_toArray, foldl_repN l n (acc ++ l), List.replicate_succ, List.flatten_cons, List.append_assoc]
theorem op_repS : OpR X (binaryOp .Mult) (fun x y H Q => ∃ (z : Str) (n : Nat), x = .str z ∧ y = .int (n : Int) ∧ 2 ≤ n ∧ z.length ≠ 0 ∧ z.length * n ≤ 100000 ∧ Q (.str ⟨(List.replicate n z.cps.toList).flatten.toArray⟩) H) := by
  intro pins s σ H x y v u Q I r1 r2 h
  obtain ⟨z, n, e1, e2, h1, h3, h4, q⟩ := h
  subst e1; subst e2
  obtain ⟨t, rfl⟩ := r1
  obtain ⟨t', rfl⟩ := r2
  have hn : ¬ (n : Int) < 1 := by omega
  have hz1 : 1 ≤ z.length := Nat.pos_of_ne_zero h3
  have hn2 : n ≤ 100000 := Nat.le_trans (Nat.le_mul_of_pos_left n hz1) h4
  have hb : ((n : Int) == 1 || z.length == 0) = false := by
    have a : ((n : Int) == 1) = false := beq_eq_false_iff_ne.mpr (by omega)
    have b : (z.length == 0) = false := beq_eq_false_iff_ne.mpr h3
    rw [a, b]
    rfl
  have hsz : z.length * n ≤ sizeLine := zs h4
  have f0 : List.foldl (fun x1 x2 => x1 ++ x2) #[] (List.replicate n z.cps) = (List.replicate n z.cps.toList).flatten.toArray := by
    have := foldl_repN z.cps.toList n []
    rw [List.nil_append, Array.toArray_toList] at this
    exact this
  have hl : (⟨(List.replicate n z.cps.toList).flatten.toArray⟩ : Str).length = n * z.length := by
    show ((List.replicate n z.cps.toList).flatten.toArray).size = n * z.length
    rw [List.size_toArray, List.length_flatten, List.map_replicate, List.sum_replicate_nat, Array.length_toList]
    rfl
  refine PySem.P.mul_str ?_ (fun _ _ => ?_) (fun _ _ => ?_) ?_
  · have a : ¬ (n : Int) < -(2 ^ 63 : Int) := by omega
    have b : ¬ (n : Int) ≥ 2 ^ 63 := by omega
    rw [decide_eq_false a, decide_eq_false b]
    rfl
  · have h5 : (z.length : Int) * (n : Int) ≤ 100000 := by
      have := Int.ofNat_le.mpr h4
      rwa [Int.natCast_mul] at this
    have := (Int.le_ediv_iff_mul_le (show (0 : Int) < n by omega)).mpr (show (z.length : Int) * (n : Int) ≤ 2 ^ 63 - 1 by omega)
    omega
  · have e : (n : Int).toNat = n := rfl
    rw [e]
    unfold Builtin.Str.tooLong
    exact decide_eq_false (by omega)
  · rw [if_neg hn, hb, if_neg Bool.false_ne_true]
    have e : (n : Int).toNat = n := rfl
    rw [e, f0]
    exact ⟨by rw [hl]; rw [Nat.mul_comm]; exact hsz, .str _, H, I.tok _, ⟨_, rfl⟩, q⟩
end
/-! ### math.factorial, math.comb -/
def facN : Nat → Nat
  | 0 => 1
  | n + 1 => facN n * (n + 1)
theorem fac_eq : ∀ n : Nat, Builtin.Math.factorialNat n = facN n
  | 0 => rfl
  | n + 1 => by
    have e : Builtin.Math.factorialNat (n + 1) = Builtin.Math.factorialNat n * (n + 1) := by
      unfold Builtin.Math.factorialNat
      rw [List.range_succ, List.foldl_append]
      rfl
    rw [e, fac_eq n]
    rfl
theorem fac_lt : ∀ n : Nat, n ≤ 1000 → facN n < 2 ^ (10 * n + 1)
  | 0, _ => by decide
  | n + 1, h => by
    have z := fac_lt n (by omega)
    have e : 10 * (n + 1) + 1 = (10 * n + 1) + 10 := by omega
    show facN n * (n + 1) < _
    rw [e, Nat.pow_add]
    exact Nat.mul_lt_mul_of_lt_of_le z (by have : (2 : Nat) ^ 10 = 1024 := by decide
                                           omega) (by decide)
def rFac : List V → Hp → VK → Prop := fun vs H Q => ∃ n : Nat, vs = [.int (n : Int)] ∧ n ≤ 1000 ∧ Q (.int ((facN n : Nat) : Int)) H
theorem cr_fac {X : Cx} : CallR X (.builtin "math.factorial") rFac := by
  intro pins s σ H vs us Q I r h
  obtain ⟨n, rfl, hn, q⟩ := h
  obtain ⟨u, rfl, t, rfl⟩ := vals1 r
  have hl := fac_lt n hn
  have e : Builtin.Math.factorialNat (n : Int).toNat = facN n := fac_eq n
  refine PySem.W.mg_factorial (by show ¬ (n : Int) > 2 ^ 63 - 1; omega) (by omega) (by show ¬ (n : Int) > 20000; omega) ?_ ?_
  · rw [e]
    show (facN n).log2 < bitsLine
    have b := PySem.Flt.log2_lt_of (by omega : 0 < 10 * n + 1) hl
    have e2 : bitsLine = 134217728 := by decide
    rw [e2]
    omega
  · rw [e]
    exact ⟨.int _, H, I.tok _, ⟨_, rfl⟩, q⟩
/-! ### lists of great ints as text -/
theorem shown_big {ns : List Int} (hb : ∀ n ∈ ns, n.natAbs.log2 < 1920) (hl : ns.length ≤ 40) : (dI ns).shown.length ≤ sizeLine := by
  show (textFrom 0 "[" (PyData.shownAll (ns.map PyData.int)) ++ ("]" : Str)).length ≤ sizeLine
  rw [Str.length_append]
  have z := textFrom_le (PyData.shownAll (ns.map PyData.int)) 0 "[" 1921 (fun t ht => by
    obtain ⟨n, hn, e⟩ := shownAll_mem ns t ht
    rw [e]
    exact PyProof.Rows.int_text_len_1921 (hb n hn))
  rw [shownAll_len] at z
  have e1 : ("[" : Str).length = 1 := rfl
  have e2 : ("]" : Str).length = 1 := rfl
  rw [e1] at z
  rw [e2]
  exact zs (by omega)
theorem rrepr_big {K : PySem.W.Frag} {H : Hp} {a : Addr} {ns : List Int} {Q : VK} (hS : SqL K H a (ns.map V.int)) (hb : ∀ n ∈ ns, n.natAbs.log2 < 1920) (hl : ns.length ≤ 40) (q : Q (.str (dI ns).shown) H) : rRepr K [.ref a] H Q :=
  ⟨a, dI ns, rfl, dp_ints hS, show_ints ns hb, noDict_ints ns, rI2 ns, shown_big hb hl, q⟩
theorem log_nat {n k : Nat} (h : n < 2 ^ k) (h0 : 0 < k) (hk : k ≤ 1920) : ((n : Nat) : Int).natAbs.log2 < 1920 := Nat.lt_of_lt_of_le (PySem.Flt.log2_lt_of h0 (show ((n : Nat) : Int).natAbs < 2 ^ k from h)) hk
end Lp
set_option Elab.async false
set_option linter.all false
set_option maxRecDepth 100000
namespace Lp
open PySem PySem.Spec PyProof.Rows L2
theorem filtG {α : Type} {l : List α} {f : α → Bool} {i : Nat} {e : α} (he : l[i]? = some e) : (l.take (i + 1)).filter f = (l.take i).filter f ++ (if f e = true then [e] else []) := by
  rw [take_get he, List.filter_append]
  congr 1
  simp only [List.filter_cons, List.filter_nil]
theorem filtG_len {α : Type} {l : List α} {f : α → Bool} (i : Nat) : ((l.take i).filter f).length ≤ l.length := Nat.le_trans (List.length_filter_le _ _) (by rw [List.length_take]; exact Nat.min_le_right _ _)
theorem inVI (x : Int) : ∀ ns : List Int, inV (.int x) (ns.map V.int) = decide (x ∈ ns)
  | [] => rfl
  | n :: r => by
    show (eqV (.int n) (.int x) || inV (.int x) (r.map V.int)) = _
    rw [inVI x r]
    show ((n == x) || decide (x ∈ r)) = _
    by_cases e : n = x
    · subst e
      simp
    · have e' : ¬ x = n := fun z => e z.symm
      simp [e, e']
theorem flatI (ns : List Int) : (ns.map V.int).all flatV = true := by
  rw [List.all_eq_true]
  intro v hv
  obtain ⟨n, _, rfl⟩ := List.mem_map.mp hv
  rfl
theorem notInT {x : Int} {ns : List Int} (h : x ∉ ns) : V.bl (if true = true then !inV (.int x) (ns.map V.int) else inV (.int x) (ns.map V.int)) = V.bl true := by
  rw [if_pos rfl, inVI, decide_eq_false h]
  rfl
theorem notInF {x : Int} {ns : List Int} (h : x ∈ ns) : V.bl (if true = true then !inV (.int x) (ns.map V.int) else inV (.int x) (ns.map V.int)) = V.bl false := by
  rw [if_pos rfl, inVI, decide_eq_true h]
  rfl

/-! ### rows of ints in the heap -/
def RowsR (H : Hp) (rs : List V) (rows : List (List Int)) : Prop := rs.length = rows.length ∧ ∀ (i : Nat) (row : List Int), rows[i]? = some row → ∃ a, rs[i]? = some (.ref a) ∧ H a = some (.lst (row.map V.int))
theorem RowsR.same {H H' : Hp} {rs : List V} {rows : List (List Int)} (h : RowsR H rs rows) (s : Same H H') : RowsR H' rs rows := ⟨h.1, fun i row e => by
  obtain ⟨a, b, c⟩ := h.2 i row e
  exact ⟨a, b, s _ _ c⟩⟩
theorem RowsR.upd {H : Hp} {rs : List V} {rows : List (List Int)} {q : Addr} {o : HO} (h : RowsR H rs rows) (n : V.ref q ∉ rs) : RowsR (upd H q o) rs rows := ⟨h.1, fun i row e => by
  obtain ⟨a, b, c⟩ := h.2 i row e
  have ne : a ≠ q := fun z => n (by rw [← z]; exact List.mem_of_getElem? b)
  refine ⟨a, b, ?_⟩
  rw [upd_ne ne]
  exact c⟩
theorem RowsR.nil (H : Hp) : RowsR H [] [] := ⟨rfl, fun i row e => by simp at e⟩
theorem RowsR.app {H : Hp} {rs ss : List V} {rows sows : List (List Int)} (h : RowsR H rs rows) (g : RowsR H ss sows) : RowsR H (rs ++ ss) (rows ++ sows) := by
  refine ⟨by rw [List.length_append, List.length_append, h.1, g.1], fun i row e => ?_⟩
  by_cases hi : i < rows.length
  · rw [List.getElem?_append_left hi] at e
    rw [List.getElem?_append_left (by rw [h.1]; exact hi)]
    exact h.2 i row e
  · rw [List.getElem?_append_right (by omega)] at e
    rw [List.getElem?_append_right (by rw [h.1]; omega), h.1]
    exact g.2 _ row e
theorem RowsR.one {H : Hp} {a : Addr} {row : List Int} (h : H a = some (.lst (row.map V.int))) : RowsR H [.ref a] [row] := ⟨rfl, fun i r e => by
  cases i with
  | zero => cases e; exact ⟨a, rfl, h⟩
  | succ i => simp at e⟩
theorem RowsR.dp {K : PySem.W.Frag} {H : Hp} : ∀ {rs : List V} {rows : List (List Int)}, RowsR H rs rows → DpAll K H rs (rows.map dI)
  | [], [], _ => .nil
  | [], _ :: _, h => absurd h.1 (by simp)
  | _ :: _, [], h => absurd h.1 (by simp)
  | v :: rs, r :: rows, h => by
    obtain ⟨a, b, c⟩ := h.2 0 r rfl
    have e : v = .ref a := Option.some.inj b
    subst e
    exact .cons (dp_ints (.of c)) (RowsR.dp ⟨Nat.succ.inj h.1, fun i row e => h.2 (i + 1) row e⟩)
theorem flatMap_take_len {α β : Type} {f : α → List β} (l : List α) (j : Nat) : ((l.take j).flatMap f).length ≤ (l.flatMap f).length := by
  have e : l.flatMap f = (l.take j).flatMap f ++ (l.drop j).flatMap f := by rw [← List.flatMap_append, List.take_append_drop]
  rw [e, List.length_append]
  omega
theorem flatMap_take_succ {α β : Type} {f : α → List β} {l : List α} {j : Nat} {x : α} (h : l[j]? = some x) : (l.take (j + 1)).flatMap f = (l.take j).flatMap f ++ f x := by
  rw [take_get h, List.flatMap_append]
  simp
end Lp
set_option Elab.async false
set_option linter.all false
set_option maxRecDepth 100000
namespace Lp
open PySem PySem.Spec PyProof.Rows L2
theorem rgc_two (n : Nat) (h : n ≤ 1000) : RgC 1 (2 * (n : Int)) 2 n := by
  have hs : Builtin.Range.rangeSize 1 (2 * (n : Int)) 2 = (n : Int) := by
    unfold Builtin.Range.rangeSize
    rw [if_pos (by decide)]
    by_cases h0 : n = 0
    · subst h0
      rw [if_neg (by omega)]
      rfl
    · rw [if_pos (by omega)]
      omega
  refine ⟨by decide, by decide, ?_, hs⟩
  unfold Builtin.Range.small
  rw [hs]
  have f : ∀ z : Int, -1000000 ≤ z → z ≤ 1000000 → Builtin.Range.rangeFitsLong z = true := fun z a b => by
    unfold Builtin.Range.rangeFitsLong
    rw [decide_eq_true (show -2 ^ 63 ≤ z by omega), decide_eq_true (show z < 2 ^ 63 by omega)]
    rfl
  rw [f 1 (by decide) (by decide), f (2 * (n : Int)) (by omega) (by omega), f 2 (by decide) (by decide), f (n : Int) (by omega) (by omega), if_pos (by decide), f (2 * (n : Int) + (2 - 1)) (by omega) (by omega), Bool.or_true]
  rfl
/-! ### lists of objects in the heap -/
def ObjR {α : Type} (o : α → HO) (H : Hp) (rs : List V) (l : List α) : Prop := rs.length = l.length ∧ ∀ (i : Nat) (x : α), l[i]? = some x → ∃ a, rs[i]? = some (.ref a) ∧ H a = some (o x)
section
variable {α : Type} {o : α → HO} {H H' : Hp} {rs ss : List V} {l m : List α}
theorem ObjR.same (h : ObjR o H rs l) (s : Same H H') : ObjR o H' rs l := ⟨h.1, fun i x e => by
  obtain ⟨a, b, c⟩ := h.2 i x e
  exact ⟨a, b, s _ _ c⟩⟩
theorem ObjR.upd {q : Addr} {u : HO} (h : ObjR o H rs l) (n : V.ref q ∉ rs) : ObjR o (upd H q u) rs l := ⟨h.1, fun i x e => by
  obtain ⟨a, b, c⟩ := h.2 i x e
  have ne : a ≠ q := fun z => n (by rw [← z]; exact List.mem_of_getElem? b)
  refine ⟨a, b, ?_⟩
  rw [upd_ne ne]
  exact c⟩
theorem ObjR.nil : ObjR o H [] [] := ⟨rfl, fun i x e => by simp at e⟩
theorem ObjR.app (h : ObjR o H rs l) (g : ObjR o H ss m) : ObjR o H (rs ++ ss) (l ++ m) := by
  refine ⟨by rw [List.length_append, List.length_append, h.1, g.1], fun i x e => ?_⟩
  by_cases hi : i < l.length
  · rw [List.getElem?_append_left hi] at e
    rw [List.getElem?_append_left (by rw [h.1]; exact hi)]
    exact h.2 i x e
  · rw [List.getElem?_append_right (by omega)] at e
    rw [List.getElem?_append_right (by rw [h.1]; omega), h.1]
    exact g.2 _ x e
theorem ObjR.one {a : Addr} {x : α} (h : H a = some (o x)) : ObjR o H [.ref a] [x] := ⟨rfl, fun i r e => by
  cases i with
  | zero => cases e; exact ⟨a, rfl, h⟩
  | succ i => simp at e⟩
end
theorem rep_one (b : Bool) (v : V) : (List.replicate (if b = true then (1 : Int) else 0).toNat [v]).flatten = if b = true then [v] else [] := by cases b <;> rfl
theorem rep_sz (b : Bool) (v : V) : [v].length * (if b = true then (1 : Int) else 0).toNat ≤ sizeLine := by
  cases b
  · exact Nat.zero_le _
  · exact Lp.zs (show 1 * 1 ≤ 100000 by decide)
theorem ifs_len (b : Bool) (v : V) : (if b = true then [v] else []).length ≤ 1 := by
  cases b
  · exact Nat.zero_le _
  · exact Nat.le_refl _
theorem ints_get {ns : List Int} {i : Nat} {n : Int} (h : ns[i]? = some n) : (ns.map V.int)[i]? = some (.int n) := by rw [List.getElem?_map, h]; rfl
end Lp
set_option Elab.async false
set_option linter.all false
set_option maxRecDepth 100000
namespace L04
open PySem PySem.Spec PyProof.Rows L2 Lp
def topS (i : Nat) : Stmt := PySem.Challenge.pw_latepatches_k04_histories_renumbered.main.body.getD i (.Pass ⟨0, 0, 0, 0⟩)
abbrev s_is_integer : Stmt := topS 4
abbrev N_is_integer : List Str := ["value"]
theorem sc_is_integer : FnScope N_is_integer ["value"] (defScope s_is_integer) := ⟨rfl, rfl, rfl, by decide +kernel, rfl, by decide +kernel, by decide +kernel⟩
abbrev s_is_integer_within : Stmt := topS 5
abbrev N_is_integer_within : List Str := ["value", "least", "greatest"]
theorem sc_is_integer_within : FnScope N_is_integer_within ["value", "least", "greatest"] (defScope s_is_integer_within) := ⟨rfl, rfl, rfl, by decide +kernel, rfl, by decide +kernel, by decide +kernel⟩
abbrev s_are_integers : Stmt := topS 6
abbrev N_are_integers : List Str := ["value", "least", "greatest", "most", "item"]
theorem sc_are_integers : FnScope N_are_integers ["value", "least", "greatest", "most"] (defScope s_are_integers) := ⟨rfl, rfl, rfl, by decide +kernel, rfl, by decide +kernel, by decide +kernel⟩
abbrev s_are_events : Stmt := topS 10
abbrev N_are_events : List Str := ["value"]
theorem sc_are_events : FnScope N_are_events ["value"] (defScope s_are_events) := ⟨rfl, rfl, rfl, by decide +kernel, rfl, by decide +kernel, by decide +kernel⟩
abbrev s_is_history : Stmt := topS 11
abbrev N_is_history : List Str := ["value", "started", "event"]
theorem sc_is_history : FnScope N_is_history ["value"] (defScope s_is_history) := ⟨rfl, rfl, rfl, by decide +kernel, rfl, by decide +kernel, by decide +kernel⟩
abbrev s_check_history : Stmt := topS 12
abbrev N_check_history : List Str := ["history"]
theorem sc_check_history : FnScope N_check_history ["history"] (defScope s_check_history) := ⟨rfl, rfl, rfl, by decide +kernel, rfl, by decide +kernel, by decide +kernel⟩
abbrev s_starts_of : Stmt := topS 13
abbrev N_starts_of : List Str := ["history", "event"]
theorem sc_starts_of : FnScope N_starts_of ["history"] (defScope s_starts_of) := ⟨rfl, rfl, rfl, by decide +kernel, rfl, by decide +kernel, by decide +kernel⟩
abbrev s_is_plain : Stmt := topS 14
abbrev N_is_plain : List Str := ["history", "starts"]
theorem sc_is_plain : FnScope N_is_plain ["history"] (defScope s_is_plain) := ⟨rfl, rfl, rfl, by decide +kernel, rfl, by decide +kernel, by decide +kernel⟩
abbrev s_is_nested : Stmt := topS 15
abbrev N_is_nested : List Str := ["history", "running", "event"]
theorem sc_is_nested : FnScope N_is_nested ["history"] (defScope s_is_nested) := ⟨rfl, rfl, rfl, by decide +kernel, rfl, by decide +kernel, by decide +kernel⟩
abbrev s_arcs_of : Stmt := topS 16
abbrev N_arcs_of : List Str := ["history", "indexes", "index", "event", "patch"]
theorem sc_arcs_of : FnScope N_arcs_of ["history"] (defScope s_arcs_of) := ⟨rfl, rfl, rfl, by decide +kernel, rfl, by decide +kernel, by decide +kernel⟩
abbrev s_renumbered : Stmt := topS 17
abbrev N_renumbered : List Str := ["history", "numbers", "index", "patch", "event"]
theorem sc_renumbered : FnScope N_renumbered ["history"] (defScope s_renumbered) := ⟨rfl, rfl, rfl, by decide +kernel, rfl, by decide +kernel, by decide +kernel⟩
abbrev s_law_source : Stmt := topS 19
abbrev N_law_source : List Str := ["cell", "k"]
theorem sc_law_source : FnScope N_law_source ["cell", "k"] (defScope s_law_source) := ⟨rfl, rfl, rfl, by decide +kernel, rfl, by decide +kernel, by decide +kernel⟩
abbrev s_law_draw : Stmt := topS 20
abbrev N_law_draw : List Str := ["source", "count", "digit", "mixed"]
theorem sc_law_draw : FnScope N_law_draw ["source", "count"] (defScope s_law_draw) := ⟨rfl, rfl, rfl, by decide +kernel, rfl, by decide +kernel, by decide +kernel⟩
abbrev s_law_row : Stmt := topS 21
abbrev N_law_row : List Str := ["source", "most", "many", "style", "ends", "named", "left", "active", "found", "lap", "begins", "spots"]
theorem sc_law_row : FnScope N_law_row ["source", "most"] (defScope s_law_row) := ⟨rfl, rfl, rfl, by decide +kernel, rfl, by decide +kernel, by decide +kernel⟩
abbrev s_law_equal : Stmt := topS 22
abbrev N_law_equal : List Str := ["result", "expected", "one", "other"]
theorem sc_law_equal : FnScope N_law_equal ["result", "expected"] (defScope s_law_equal) := ⟨rfl, rfl, rfl, by decide +kernel, rfl, by decide +kernel, by decide +kernel⟩
abbrev s_law_holds : Stmt := topS 23
abbrev N_law_holds : List Str := ["source", "most", "row", "other", "some", "before", "numbers", "due", "event", "attempt", "told", "turned", "third"]
theorem sc_law_holds : FnScope N_law_holds ["source", "most"] (defScope s_law_holds) := ⟨rfl, rfl, rfl, by decide +kernel, rfl, by decide +kernel, by decide +kernel⟩
abbrev s_law : Stmt := topS 24
abbrev N_law : List Str := ["script", "k", "cell"]
theorem sc_law : FnScope N_law ["script"] (defScope s_law) := ⟨rfl, rfl, rfl, by decide +kernel, rfl, by decide +kernel, by decide +kernel⟩
end L04
set_option Elab.async false
set_option linter.all false
set_option maxRecDepth 100000
namespace L04
open PySem PySem.Spec PyProof.Rows L2 Lp
section
variable {P : Program} {w : World} {K : PySem.W.Frag} {mg : Str → Option Value} {base : Heap}
/-- a def of the text at its name -/
structure At (K : PySem.W.Frag) (mg : Str → Option Value) (x : Str) (st : Stmt) (f : Addr) (fd : FuncData) : Prop where
  fn : Fun K x x st f fd
  mgf : mg x = some (.ref f)
theorem At.gc {k : Nat} {x : Str} {st : Stmt} {f : Addr} {fd : FuncData} {ps : List Str} {sp : Sp} (a : At K mg x st f fd) (b : Binds K fd ps []) (F : FnG P w K mg base CX0 k f fd ps sp) : Gc P w K mg base k x sp := ⟨f, fd, ps, F, a.mgf, a.fn.kp, b⟩

/-! ### is_integer and its kin -/
def spIsInt : Sp := fun vs H Q _ => ∃ i : Int, vs = [.int i] ∧ Q (.bl true) H
theorem ok_is_integer {f : Addr} {fd : FuncData} (F : Fun K "is_integer" "is_integer" s_is_integer f fd) (B : NoB mg) : FnG P w K mg base CX0 1 f fd ["value"] spIsInt := by
  refine okG F sc_is_integer (fun vs H Q E h => ?_) (fun cdv A outer s H vs Q E hG hr h => ?_)
  · obtain ⟨i, rfl, _⟩ := h
    rfl
  · obtain ⟨i, rfl, q⟩ := h
    refine ⟨_, (pss_one (ps_ret (pe_and (pe_callB call_isi (by rfl) B.isinstance (by decide +kernel) (pa_cons (pv 0) (pa_cons (pe_bltn (v := .ty "int") (by rfl) B.int boot_int rfl) pa_nil))) (pe_one (pe_not (pe_callB call_isi (by rfl) B.isinstance (by decide +kernel) (pa_cons (pv 0) (pa_cons (pe_bltn (v := .ty "bool") (by rfl) B.bool boot_bool rfl) pa_nil)))))))), ?_⟩
    refine ⟨_, rfl, _, _, _, _, true, rfl, .ty _, .base (.int i), kit_ty (by decide +kernel), true, rfl, iteT ?_⟩
    exact ⟨_, rfl, _, _, _, _, false, rfl, .ty _, .base (.int i), kit_ty (by decide +kernel), false, rfl, q⟩
def spWithin : Sp := fun vs H Q _ => ∃ i lo hi : Int, vs = [.int i, .int lo, .int hi] ∧ lo ≤ i ∧ i ≤ hi ∧ Q (.bl true) H
theorem ok_is_integer_within {f : Addr} {fd : FuncData} (F : Fun K "is_integer_within" "is_integer_within" s_is_integer_within f fd) (T_is_integer : Gc P w K mg base 1 "is_integer" spIsInt) : FnG P w K mg base CX0 2 f fd ["value", "least", "greatest"] spWithin := by
  refine okG F sc_is_integer_within (fun vs H Q E h => ?_) (fun cdv A outer s H vs Q E hG hr h => ?_)
  · obtain ⟨i, lo, hi, rfl, _⟩ := h
    rfl
  · obtain ⟨i, lo, hi, rfl, h1, h2, q⟩ := h
    refine ⟨_, (pss_one (ps_ret (pe_and (pe_g T_is_integer hG hr (by decide) (by rfl) (pa_cons (pv 0) pa_nil)) (pe_one (pe_chain op_le op_le (pv 1) (pv 0) (pv 2)))))), ?_⟩
    refine ⟨_, rfl, i, rfl, true, rfl, iteT ?_⟩
    refine ⟨_, rfl, _, rfl, _, _, rfl, rfl, _, rfl, ?_⟩
    rw [decide_eq_true h1]
    refine iteT ⟨_, rfl, _, _, rfl, rfl, ?_⟩
    dsimp only
    rw [decide_eq_true h2]
    exact q
/-! ### are_integers -/
def spAreInts (K : PySem.W.Frag) : Sp := fun vs H Q _ => ∃ (a : Addr) (ns : List Int) (lo hi m : Int), vs = [.ref a, .int lo, .int hi, .int m] ∧ SqL K H a (ns.map V.int) ∧ ((ns.length : Nat) : Int) ≤ m ∧ ns.length ≤ 1000 ∧ (∀ n ∈ ns, lo ≤ n ∧ n ≤ hi) ∧ ∀ H', Same H H' → Q (.bl true) H'
theorem ok_are_integers {f : Addr} {fd : FuncData} (F : Fun K "are_integers" "are_integers" s_are_integers f fd) (B : NoB mg) (T_is_integer_within : Gc P w K mg base 2 "is_integer_within" spWithin) : FnG P w K mg base CX0 3 f fd ["value", "least", "greatest", "most"] (spAreInts K) := by
  refine okG F sc_are_integers (fun vs H Q E h => ?_) (fun cdv A outer s H vs Q E hG hr h => ?_)
  · obtain ⟨a, ns, lo, hi, m, rfl, _⟩ := h
    rfl
  · obtain ⟨a, ns, lo, hi, m, rfl, hS, hm, hl, hb, q⟩ := h
    refine ⟨_, (pss_cons (ps_if (PW.pt (pw_or (pt_cmpR op_neTy (pe_callTy call_type1 (by rfl) B.type (by decide +kernel) (pa_cons (pv 0) pa_nil)) (pe_bltn (v := .ty "list") (by rfl) B.list boot_list rfl) (nomark _)) (pw_or1 (pt_cmpR op_gt (pe_callB call_len_seq (by rfl) B.len PySem.boot_len (pa_cons (pv 0) pa_nil)) (pv 3) (nomark _))))) (pss_one (ps_ret pe_bl)) pss_nil)
        (pss_one (ps_ret (pe_callB (cr_all rfl) (by rfl) B.all (by decide +kernel) (pa_cons (pe_lc (own := [("item", 4)]) (g := gName 4) (tt := tYes) rfl sc_are_integers.nd (pi_list (pv 0)) (blkOk_by (own := [("item", 4)]) (N := N_are_integers) (sc := defScope s_are_integers) (by decide +kernel)) (fun _ _ _ _ _ => (pg_name (i := 4) sc_are_integers.nd rfl (Or.inl rfl))) (fun _ _ _ _ _ => pts_nil) (fun _ _ _ _ _ => (pe_g T_is_integer_within hG hr (by decide) (by rfl) (pa_cons (pv 4) (pa_cons (pv 1) (pa_cons (pv 2) pa_nil)))))) pa_nil))))), ?_⟩
    refine ⟨_, rfl, _, _, rfl, .lst hS, _, rfl, rfl, PySem.TypeEq.meta_list, _, rfl, iteF ?_⟩
    refine ⟨_, rfl, a, _, rfl, .inl hS, _, rfl, _, _, rfl, rfl, _, rfl, ?_⟩
    rw [List.length_map, decide_eq_false (show ¬ m < ((ns.length : Nat) : Int) by omega)]
    refine iteF ?_
    refine ⟨_, rfl, a, rfl, ⟨_, hS⟩, fun D hD => lc_list (xs := ns.map V.int) (LcP H D fun i => (List.replicate i true).map V.bl) (.init hD rfl) (fun i H' _ p => p.2.1.seq hS) (fun i x H' hx p => ?_) (fun H' p => ?_)⟩
    · obtain ⟨n, rfl, hn⟩ := get_int hx
      obtain ⟨h1, h2⟩ := hb n (mem_get hn)
      refine ⟨rfl, ?_⟩
      refine ⟨_, rfl, _, rfl, _, rfl, n, lo, hi, rfl, h1, h2, ?_⟩
      refine p.put (Same.refl _) ?_ (by rw [List.length_map, List.length_replicate]; have := lt_get hn; omega)
      rw [List.replicate_succ', List.map_append]
      rfl
    · refine ⟨D, _, rfl, .of p.2.2, ?_⟩
      have e : (List.replicate (ns.map V.int).length true).all id = true := by
        rw [List.all_eq_true]
        intro b hb
        exact (List.eq_of_mem_replicate hb)
      rw [e]
      exact q _ p.2.1

/-! ### histories -/
structure Hist (ns : List Int) : Prop where
  rng : ∀ e ∈ ns, e ≠ 0 ∧ -100 ≤ e ∧ e ≤ 100
  nd : ns.Nodup
  ord : ∀ (i : Nat) (e : Int), ns[i]? = some e → e < 0 → -e ∈ ns.take i
  len : ns.length ≤ 200
theorem not_mem_take {ns : List Int} (nd : ns.Nodup) {i : Nat} {e : Int} (h : ns[i]? = some e) : e ∉ ns.take i := by
  intro hm
  obtain ⟨j, hj, e1⟩ := List.mem_iff_getElem.mp hm
  rw [List.length_take] at hj
  have hjn : j < ns.length := by omega
  have e2 : ns[j]? = some e := by
    rw [List.getElem?_eq_getElem hjn, ← e1, List.getElem_take]
  have := nd_ix nd e2 h
  omega
theorem mem_take_succ {ns : List Int} {i : Nat} {e x : Int} (h : ns[i]? = some e) : (x ∈ ns.take (i + 1)) ↔ (x ∈ ns.take i ∨ x = e) := by
  rw [take_get h, List.mem_append, List.mem_singleton]
/-! ### are_events -/
def spAreEv (K : PySem.W.Frag) : Sp := fun vs H Q _ => ∃ (a : Addr) (ns : List Int), vs = [.ref a] ∧ SqL K H a (ns.map V.int) ∧ (∀ e ∈ ns, e ≠ 0 ∧ -100 ≤ e ∧ e ≤ 100) ∧ ns.Nodup ∧ ns.length ≤ 200 ∧ ∀ H', Same H H' → Q (.bl true) H'
theorem ok_are_events {f : Addr} {fd : FuncData} (F : Fun K "are_events" "are_events" s_are_events f fd) (B : NoB mg) {t1 t2 : Tok} (T_g_LAST_PATCH : mg "LAST_PATCH" = some (.int 100 t1)) (T_g_MOST_EVENTS : mg "MOST_EVENTS" = some (.int 200 t2))
    (T_are_integers : Gc P w K mg base 3 "are_integers" (spAreInts K)) : FnG P w K mg base CX0 4 f fd ["value"] (spAreEv K) := by
  refine okG F sc_are_events (fun vs H Q E h => ?_) (fun cdv A outer s H vs Q E hG hr h => ?_)
  · obtain ⟨a, ns, rfl, _⟩ := h
    rfl
  · obtain ⟨a, ns, rfl, hS, hb, nd, hl, q⟩ := h
    refine ⟨_, (pss_cons (ps_if (pt_not (pt_val (pe_g T_are_integers hG hr (by decide) (by rfl) (pa_cons (pv 0) (pa_cons (pe_un un_neg (pe_glob (v := .int 100) (by rfl) T_g_LAST_PATCH ⟨_, rfl⟩)) (pa_cons (pe_glob (v := .int 100) (by rfl) T_g_LAST_PATCH ⟨_, rfl⟩) (pa_cons (pe_glob (v := .int 200) (by rfl) T_g_MOST_EVENTS ⟨_, rfl⟩) pa_nil))))))) (pss_one (ps_ret pe_bl)) pss_nil)
        (pss_one (ps_ret (pe_and (pe_cmpR op_notIn_seq pe_int (pv 0) (by rfl)) (pe_one (pe_cmpR op_eq (RZ.pe_lenSetI (by rfl) B.len (by rfl) B.set (pv 0)) (pe_callB call_len_seq (by rfl) B.len PySem.boot_len (pa_cons (pv 0) pa_nil)) (nomark _))))))), ?_⟩
    refine ⟨_, rfl, _, rfl, a, ns, -100, 100, 200, rfl, hS, by omega, by omega, fun n hn => (hb n hn).2, fun H1 s1 => ?_⟩
    refine ⟨_, rfl, iteF ?_⟩
    have hS1 := s1.seq hS
    refine ⟨_, rfl, a, ns.map V.int, rfl, .inl hS1, rfl, flatI ns, true, notInT fun z => (hb 0 z).1 rfl, iteT ?_⟩
    refine ⟨_, rfl, a, ns, rfl, hS1, nd, by omega, _, rfl, a, _, rfl, .inl hS1, rfl, ?_⟩
    rw [List.length_map, dT rfl]
    exact q _ s1

def spIsHist (K : PySem.W.Frag) : Sp := fun vs H Q _ => ∃ (a : Addr) (ns : List Int), vs = [.ref a] ∧ SqL K H a (ns.map V.int) ∧ Hist ns ∧ ∀ H', Same H H' → Q (.bl true) H'
theorem ok_is_history {f : Addr} {fd : FuncData} (F : Fun K "is_history" "is_history" s_is_history f fd) (B : NoB mg) (T_are_events : Gc P w K mg base 4 "are_events" (spAreEv K)) : FnG P w K mg base CX0 5 f fd ["value"] (spIsHist K) := by
  refine okG F sc_is_history (fun vs H Q E h => ?_) (fun cdv A outer s H vs Q E hG hr h => ?_)
  · obtain ⟨a, ns, rfl, _⟩ := h
    rfl
  · obtain ⟨a, ns, rfl, hS, hh, q⟩ := h
    have hu := hu_of hr
    refine ⟨_, (pss_cons (ps_if (pt_not (pt_val (pe_g T_are_events hG hr (by decide) (by rfl) (pa_cons (pv 0) pa_nil)))) (pss_one (ps_ret pe_bl)) pss_nil)
        (pss_cons (ps_set (i := 1) sc_is_history.nd rfl (Or.inl rfl) (pe_callTy0 cr_set0 (by rfl) B.set (by decide +kernel)))
        (pss_cons (ps_for PassesOwn.never rfl (pi_list (pv 0)) (pg_name (i := 2) sc_is_history.nd rfl (Or.inl rfl))
          (pss_one (ps_if (pt_cmpR op_gt (pv 2) pe_int (nomark _)) (pss_one (ps_expr (pe_sadd (pv 1) (pa_cons (pv 2) pa_nil)))) (pss_one (ps_if (pt_cmpR or_snotin (pe_un un_neg (pv 2)) (pv 1) (by rfl)) (pss_one (ps_ret pe_bl)) pss_nil)))))
        (pss_one (ps_ret pe_bl))))), ?_⟩
    refine ⟨_, rfl, a, ns, rfl, hS, hh.rng, hh.nd, hh.len, fun H1 s1 => ?_⟩
    refine ⟨_, rfl, iteF ?_⟩
    refine ⟨rfl, fun p np => ?_⟩
    have hS1 := s1.seq hS
    refine ⟨_, rfl, a, rfl, ⟨_, (same_new np).seq hS1⟩, for_list (xs := ns.map V.int) (fun i σ H' => (∃ y, σ = [some (.ref a), some (.ref p), y]) ∧ Same H1 H' ∧ ∃ n, n ≤ i ∧ H' p = some (SetO w p (fun x => decide (0 < x ∧ x ∈ ns.take i)) n)) ⟨⟨_, rfl⟩, same_new np, 0, Nat.le_refl _, ?_⟩ (fun i σ H' _ h => h.2.1.seq hS1) (fun i x σ H' hx h => ?_) (fun σ H' h => ?_)⟩
    · rw [upd_same]
      show some (SetO w p (fun x => false) 0) = some (SetO w p (fun x => decide (0 < x ∧ x ∈ ns.take 0)) 0)
      simp
    · obtain ⟨n, rfl, hn⟩ := get_int hx
      obtain ⟨⟨y, rfl⟩, sm, m, hm, hp⟩ := h
      have hi : i < 200 := Nat.lt_of_lt_of_le (lt_get hn) hh.len
      by_cases h0 : 0 < n
      · refine ⟨_, rfl, _, _, rfl, rfl, true, dT h0, ?_⟩
        refine ⟨_, rfl, ⟨p, _, m, rfl, hp⟩, _, rfl, p, n, _, m, rfl, rfl, hp, by show m + 1 < 4096; omega, ⟨_, rfl⟩, fun b o e => ?_, m + 1, by omega, ?_⟩
        rotate_left 1
        · have hnt : ¬ (0 < n ∧ n ∈ ns.take i) := fun z => not_mem_take hh.nd hn z.2
          rw [upd_same, decide_eq_false hnt, if_neg Bool.false_ne_true]
          refine congrArg some (congrArg (fun S => SetO w p S _) (funext fun x => ?_))
          rw [← Bool.decide_or]
          refine decide_eq_decide.mpr ?_
          have := mem_take_succ (x := x) hn
          rw [this]
          constructor
          · rintro (⟨a, b⟩ | rfl)
            · exact ⟨a, .inl b⟩
            · exact ⟨h0, .inr rfl⟩
          · rintro ⟨a, b | b⟩
            · exact .inl ⟨a, b⟩
            · exact .inr b
        · rw [upd_ne (ne_of_none e np)]
          exact sm _ _ e
      · refine ⟨_, rfl, _, _, rfl, rfl, false, dF h0, ?_⟩
        have e0 := (hh.rng n (mem_get hn)).1
        have hpre := hh.ord i n hn (by omega)
        refine ⟨_, rfl, n, rfl, _, rfl, -n, p, _, m, rfl, rfl, hp, false, nF ⟨by omega, hpre⟩, ⟨_, rfl⟩, sm, m, by omega, ?_⟩
        rw [hp]
        refine congrArg some (congrArg (fun S => SetO w p S m) (funext fun x => decide_eq_decide.mpr ?_))
        rw [mem_take_succ hn]
        constructor
        · exact fun ⟨a, b⟩ => ⟨a, .inl b⟩
        · rintro ⟨a, b | b⟩
          · exact ⟨a, b⟩
          · omega
    · obtain ⟨⟨y, rfl⟩, sm, _⟩ := h
      exact q _ (s1.trans sm)

/-! ### check_history -/
def spCheck (K : PySem.W.Frag) : Sp := fun vs H Q _ => ∃ (a : Addr) (ns : List Int), vs = [.ref a] ∧ SqL K H a (ns.map V.int) ∧ Hist ns ∧ ∀ H', Same H H' → Q .non H'
theorem ok_check_history {f : Addr} {fd : FuncData} (F : Fun K "check_history" "check_history" s_check_history f fd) (T_is_history : Gc P w K mg base 5 "is_history" (spIsHist K)) : FnG P w K mg base CX0 6 f fd ["history"] (spCheck K) := by
  refine okG F sc_check_history (fun vs H Q E h => ?_) (fun cdv A outer s H vs Q E hG hr h => ?_)
  · obtain ⟨a, ns, rfl, _⟩ := h
    rfl
  · obtain ⟨a, ns, rfl, hS, hh, q⟩ := h
    refine ⟨_, (pss_one (ps_if (pt_not (pt_val (pe_g T_is_history hG hr (by decide) (by rfl) (pa_cons (pv 0) pa_nil)))) (pss_one ps_never) pss_nil)), ?_⟩
    exact ⟨_, rfl, a, ns, rfl, hS, hh, fun H1 s1 => ⟨_, rfl, iteF (q _ s1)⟩⟩

end
/-! ### what is present, event by event -/
abbrev PSt := Int × (Int → Int)
def putF1 (f : Int → Int) (e v : Int) : Int → Int := fun k => if k = e then v else f k
def stepP (s : PSt) (e : Int) : PSt := if 0 < e then (e, putF1 s.2 e s.1) else (s.2 (-e), s.2)
def stepC (s : PSt) (e : Int) : PSt := if 0 < e then (e, putF1 s.2 e s.1) else if s.1 = -e then (s.2 (-e), s.2) else s
def stepN (o : Option (List Int)) (e : Int) : Option (List Int) := match o with
  | none => none
  | some st => if 0 < e then some (e :: st) else match st with
    | [] => none
    | k :: r => if k = -e then some r else none
def runP (ns : List Int) : PSt := ns.foldl stepP (0, fun _ => 0)
def runC (ns : List Int) : PSt := ns.foldl stepC (0, fun _ => 0)
def runN (ns : List Int) : Option (List Int) := ns.foldl stepN (some [])
theorem run_succ {α : Type} {f : α → Int → α} {z : α} {ns : List Int} {i : Nat} {e : Int} (h : ns[i]? = some e) : (ns.take (i + 1)).foldl f z = f ((ns.take i).foldl f z) e := by
  rw [take_get h, List.foldl_append]
  rfl
theorem runP_succ {ns : List Int} {i : Nat} {e : Int} (h : ns[i]? = some e) : runP (ns.take (i + 1)) = stepP (runP (ns.take i)) e := run_succ h
theorem runC_succ {ns : List Int} {i : Nat} {e : Int} (h : ns[i]? = some e) : runC (ns.take (i + 1)) = stepC (runC (ns.take i)) e := run_succ h
theorem runN_succ {ns : List Int} {i : Nat} {e : Int} (h : ns[i]? = some e) : runN (ns.take (i + 1)) = stepN (runN (ns.take i)) e := run_succ h
/-- the dict of what each patch saved: its pairs bear the function sv on the patches of l -/
def Saves (kvs : List (Key × V)) (l : List Int) (sv : Int → Int) : Prop := ∀ k ∈ l, 0 < k → valV kvs (Sum.inl k) = some (.int (sv k))
theorem putK_len (kvs : List (Key × V)) (k : Key) (v : V) : (putK kvs k v).length ≤ kvs.length + 1 := by
  unfold putK
  split <;> simp
theorem Saves.put {kvs : List (Key × V)} {ns : List Int} {i : Nat} {e c : Int} {sv : Int → Int} (h : Saves kvs (ns.take i) sv) (he : ns[i]? = some e) : Saves (putK kvs (Sum.inl e) (.int c)) (ns.take (i + 1)) (putF1 sv e c) := by
  intro k hk h0
  rw [valV_put]
  unfold putF1
  by_cases z : k = e
  · rw [if_pos (by rw [z]), if_pos z]
  · rw [if_neg (fun q => z (Sum.inl.inj q)), if_neg z]
    exact h k (((mem_take_succ he).mp hk).resolve_right z) h0
theorem Saves.keep {kvs : List (Key × V)} {ns : List Int} {i : Nat} {e : Int} {sv : Int → Int} (h : Saves kvs (ns.take i) sv) (he : ns[i]? = some e) (hn : e < 0) : Saves kvs (ns.take (i + 1)) sv := by
  intro k hk h0
  refine h k (((mem_take_succ he).mp hk).resolve_right fun z => ?_) h0
  omega
theorem sv_get {kvs : List (Key × V)} {l : List Int} {sv : Int → Int} {H : Hp} {d : Addr} {k : Int} (h : Saves kvs l sv) (hd : H d = some (.dK kvs)) (hk : k ∈ l) (h0 : 0 < k) : DGet H d (.int k) (some (.int (sv k))) := by
  have z := DGet.k (k := Sum.inl k) hd
  rw [h k hk h0] at z
  exact z
theorem Hist.no_stop {ns : List Int} (hh : Hist ns) {i : Nat} {e : Int} (he : ns[i]? = some e) (h0 : 0 < e) : -e ∉ ns.take i := by
  intro hm
  obtain ⟨j, hj, e1⟩ := List.mem_iff_getElem.mp hm
  rw [List.length_take] at hj
  have e2 : ns[j]? = some (-e) := by rw [List.getElem?_eq_getElem (by omega), ← e1, List.getElem_take]
  have z := hh.ord j (-e) e2 (by omega)
  rw [Int.neg_neg] at z
  exact not_mem_take hh.nd he ((List.take_subset_take_left ns (by omega : j ≤ i)) z)
theorem runN_mem {ns : List Int} (hh : Hist ns) : ∀ (i : Nat) (st : List Int), i ≤ ns.length → runN (ns.take i) = some st → (∀ k, k ∈ st ↔ (0 < k ∧ k ∈ ns.take i ∧ -k ∉ ns.take i)) ∧ st.Nodup ∧ st.length ≤ i
  | 0, st, _, h => by
    have e : st = [] := by
      have h' : some [] = some st := h
      exact (Option.some.inj h').symm
    subst e
    exact ⟨fun k => by simp, List.nodup_nil, Nat.le_refl _⟩
  | i + 1, st, hi, h => by
    have hlt : i < ns.length := hi
    have he : ns[i]? = some ns[i] := List.getElem?_eq_getElem hlt
    generalize ns[i] = e at he
    rw [runN_succ he] at h
    cases h0 : runN (ns.take i) with
    | none => rw [h0] at h; cases h
    | some s0 =>
      obtain ⟨ih, nd, ln⟩ := runN_mem hh i s0 (Nat.le_of_lt hlt) h0
      rw [h0] at h
      have hnt := not_mem_take hh.nd he
      unfold stepN at h
      dsimp only at h
      by_cases hp : 0 < e
      · rw [if_pos hp] at h
        cases h
        have hns := hh.no_stop he hp
        refine ⟨fun k => ?_, List.nodup_cons.mpr ⟨fun hm => hnt ((ih e).mp hm).2.1, nd⟩, Nat.succ_le_succ ln⟩
        rw [List.mem_cons, ih k, mem_take_succ he, mem_take_succ he]
        constructor
        · rintro (rfl | ⟨a, b, c⟩)
          · exact ⟨hp, .inr rfl, fun q => q.elim hns fun z => by omega⟩
          · exact ⟨a, .inl b, fun q => q.elim c fun z => by omega⟩
        · rintro ⟨a, b | b, c⟩
          · exact .inr ⟨a, b, fun z => c (.inl z)⟩
          · exact .inl b
      · rw [if_neg hp] at h
        cases s0 with
        | nil => cases h
        | cons k0 r =>
          dsimp only at h
          by_cases hk : k0 = -e
          · rw [if_pos hk] at h
            cases h
            obtain ⟨n1, n2⟩ := List.nodup_cons.mp nd
            refine ⟨fun k => ?_, n2, by rw [List.length_cons] at ln; omega⟩
            rw [mem_take_succ he, mem_take_succ he]
            have ihk := ih k
            rw [List.mem_cons] at ihk
            constructor
            · intro hm
              obtain ⟨a, b, c⟩ := ihk.mp (.inr hm)
              refine ⟨a, .inl b, fun q => q.elim c fun z => ?_⟩
              have : k = k0 := by omega
              exact n1 (this ▸ hm)
            · rintro ⟨a, b, c⟩
              have b' : k ∈ ns.take i := b.resolve_right fun z => by omega
              rcases ihk.mpr ⟨a, b', fun z => c (.inl z)⟩ with z | z
              · exact absurd (.inr (by omega)) c
              · exact z
          · rw [if_neg hk] at h
            cases h
theorem runN_stays {l : List Int} : l.foldl stepN none = none := by
  induction l with
  | nil => rfl
  | cons a r ih => exact ih
theorem runN_none {ns : List Int} {i : Nat} (h : runN (ns.take i) = none) : runN ns = none := by
  have e : ns = ns.take i ++ ns.drop i := (List.take_append_drop i ns).symm
  unfold runN at h ⊢
  rw [e, List.foldl_append, h]
  exact runN_stays
section
variable {P : Program} {w : World} {K : PySem.W.Frag} {mg : Str → Option Value} {base : Heap}
/-! ### draws -/
/-- the list of three ints that draws are made of: at most n draws were made in the second way -/
def Src (H : Hp) (a : Addr) (n : Nat) : Prop := ∃ x y z : Int, H a = some (.lst [.int x, .int y, .int z]) ∧ 0 ≤ y ∧ y < 2 ^ 300 ∧ 0 ≤ z ∧ z ≤ (n : Int)
theorem Src.mono {H : Hp} {a : Addr} {n m : Nat} (h : Src H a n) (l : n ≤ m) : Src H a m := by
  obtain ⟨x, y, z, h1, h2, h3, h4, h5⟩ := h
  exact ⟨x, y, z, h1, h2, h3, h4, by omega⟩
theorem Src.bt {H H' : Hp} {a b : Addr} {n : Nat} (h : Src H a n) (x : Bt b H H') (e : a ≠ b) : Src H' a n := by
  obtain ⟨p, y, z, h1, h2⟩ := h
  exact ⟨p, y, z, x _ _ e h1, h2⟩
theorem Src.same {H H' : Hp} {a : Addr} {n : Nat} (h : Src H a n) (x : Same H H') : Src H' a n := by
  obtain ⟨p, y, z, h1, h2⟩ := h
  exact ⟨p, y, z, x _ _ h1, h2⟩
theorem Src.new {H : Hp} {a p : Addr} {n : Nat} {o : HO} (h : Src H a n) (e : H p = none) : Src (upd H p o) a n := h.same (same_new e)
theorem Src.ne {H : Hp} {a p : Addr} {n : Nat} (h : Src H a n) (e : H p = none) : p ≠ a := fun z => by
  obtain ⟨_, _, _, h1, _⟩ := h
  rw [← z, e] at h1
  cases h1
theorem Src.upd {H : Hp} {a p : Addr} {n : Nat} {o : HO} (h : Src H a n) (e : p ≠ a) : Src (upd H p o) a n := by
  obtain ⟨x, y, z, h1, h2⟩ := h
  exact ⟨x, y, z, by rw [upd_ne e.symm]; exact h1, h2⟩
def spDraw : Sp := fun vs H Q _ => ∃ (a : Addr) (m : Int) (n : Nat), vs = [.ref a, .int m] ∧ Src H a n ∧ n ≤ 1000000 ∧ 1 ≤ m ∧ m ≤ 1000000 ∧ ∀ r H', 0 ≤ r → r < m → Src H' a (n + 1) → Bt a H H' → Q (.int r) H'
theorem lt_pow {i : Int} {n : Nat} (h0 : 0 ≤ i) (h : i < 2 ^ n) : i.natAbs < 2 ^ n := by
  have e : ((i.natAbs : Nat) : Int) = i := Int.natAbs_of_nonneg h0
  have h' : ((i.natAbs : Nat) : Int) < ((2 ^ n : Nat) : Int) := by
    rw [e]
    simpa using h
  exact Int.ofNat_lt.mp h'
theorem zz_le {z : Int} (h0 : 0 ≤ z) (h : z ≤ 1000001) : z * z ≤ 1000002000001 := by
  have := Int.mul_le_mul h h h0 (by decide)
  omega
theorem ok_law_draw {f : Addr} {fd : FuncData} (F : Fun K "_law_draw" "_law_draw" s_law_draw f fd) : FnG P w K mg base CX0 1 f fd ["source", "count"] spDraw := by
  refine okG F sc_law_draw (fun vs H Q E h => ?_) (fun cdv A outer s H vs Q E hG hr h => ?_)
  · obtain ⟨a, m, n, rfl, _⟩ := h
    rfl
  · obtain ⟨a, m, n, rfl, ⟨x, y, z, ha, y0, y1, z0, z1⟩, hn, m0, m1, q⟩ := h
    refine ⟨_, (pss_cons (ps_if (pt_cmpR op_gt (pe_ix ix_list (pv 0) pe_int (fun _ _ => rfl)) pe_int (nomark _)) (pss_cons (ps_set (i := 2) sc_law_draw.nd rfl (Or.inl rfl) (pe_op op_mod (pe_ix ix_list (pv 0) pe_int (fun _ _ => rfl)) (pv 1)))
          (pss_cons (ps_asg (pe_op op_fdivW (pe_ix ix_list (pv 0) pe_int (fun _ _ => rfl)) (pv 1)) (pg_sub (pv 0) pe_int set_list))
          (pss_one (ps_ret (pv 2))))) pss_nil)
        (pss_cons (ps_asg (pe_op op_add (pe_ix ix_list (pv 0) pe_int (fun _ _ => rfl)) pe_int) (pg_sub (pv 0) pe_int set_list))
        (pss_cons (ps_set (i := 3) sc_law_draw.nd rfl (Or.inl rfl) (pe_op op_mod (pe_op op_powW (pe_op op_add (pe_ix ix_list (pv 0) pe_int (fun _ _ => rfl)) (pe_op op_mulW pe_int (pe_ix ix_list (pv 0) pe_int (fun _ _ => rfl)))) pe_int) (pe_op op_add (pe_op op_powW pe_int pe_int) pe_int)))
        (pss_cons (ps_set (i := 3) sc_law_draw.nd rfl (Or.inl rfl) (pe_op op_mod (pe_op op_powW (pe_op op_add (pv 3) (pe_op op_mulW pe_int (pe_ix ix_list (pv 0) pe_int (fun _ _ => rfl)))) pe_int) (pe_op op_add (pe_op op_powW pe_int pe_int) pe_int)))
        (pss_one (ps_ret (pe_op op_mod (pe_op op_fdivW (pv 3) pe_int) (pv 1)))))))), ?_⟩
    have hS : SqL K H a [.int x, .int y, .int z] := .of ha
    by_cases hx : 0 < x
    · refine ⟨_, rfl, a, _, 0, _, rfl, rfl, hS, at0, _, _, rfl, rfl, true, dT hx, ?_⟩
      refine ⟨_, rfl, a, _, 0, _, rfl, rfl, hS, at0, _, rfl, _, _, rfl, rfl, (by show (0 : Int) < m; omega), ?_⟩
      refine ⟨_, rfl, a, _, 0, _, rfl, rfl, hS, at0, _, rfl, _, _, rfl, rfl, wide_div (b := 30) (by omega) (lt_pow (by omega) (by omega)) (by decide) (by decide), ?_⟩
      refine ⟨_, rfl, a, _, 0, 0, rfl, rfl, ha, rfl, _, rfl, ?_⟩
      exact q _ _ (Int.emod_nonneg _ (by omega)) (Int.emod_lt_of_pos _ (by omega)) ⟨_, _, _, upd_same, y0, y1, z0, by omega⟩ (.at_ _ _ _)
    · refine ⟨_, rfl, a, _, 0, _, rfl, rfl, hS, at0, _, _, rfl, rfl, false, dF hx, ?_⟩
      refine ⟨_, rfl, a, _, 2, _, rfl, rfl, hS, at2, _, _, rfl, rfl, _, rfl, a, _, 2, 2, rfl, rfl, ha, rfl, ?_⟩
      have hS2 : SqL K (upd H a (.lst [.int x, .int y, .int (z + 1)])) a [.int x, .int y, .int (z + 1)] := .of upd_same
      have c1 : CPowW (y + 980131 * (z + 1)) 3 := powW_ok (n := 400) (lt_pow (by omega) (by omega)) (by decide) (by decide)
      have p1 : CPowW 10 39 := powW_ok (n := 4) (by decide) (by decide) (by decide)
      have p2 : CPowW 10 36 := powW_ok (n := 4) (by decide) (by decide) (by decide)
      have k1 : (10 : Int) ^ (39 : Int).toNat + 3 = 1000000000000000000000000000000000000003 := by decide +kernel
      have k2 : (10 : Int) ^ (36 : Int).toNat + 67 = 1000000000000000000000000000000000067 := by decide +kernel
      have n1 : (0 : Int) < 10 ^ (39 : Int).toNat + 3 := by rw [k1]; decide
      have n2 : (0 : Int) < 10 ^ (36 : Int).toNat + 67 := by rw [k2]; decide
      refine ⟨_, rfl, a, _, 1, _, rfl, rfl, hS2, at1, _, rfl, a, _, 2, _, rfl, rfl, hS2, at2, _, _, rfl, rfl, wide_mul (a := 30) (b := 30) (by decide) (lt_pow (by omega) (by omega)) (by decide) (by decide) (by decide), _, _, rfl, rfl, _, _, rfl, rfl, c1, _, _, rfl, rfl, p1, _, _, rfl, rfl, _, _, rfl, rfl, n1, ?_⟩
      generalize (y + 980131 * (z + 1)) ^ (3 : Int).toNat = big
      have b0 : 0 ≤ big % (10 ^ (39 : Int).toNat + 3) := Int.emod_nonneg _ (Int.ne_of_gt n1)
      have b1 : big % (10 ^ (39 : Int).toNat + 3) < 1000000000000000000000000000000000000003 := by
        have := Int.emod_lt_of_pos big n1
        rw [k1] at this
        rw [k1]
        exact this
      have c2 : ∀ mx : Int, 0 ≤ mx → mx < 1000000000000000000000000000000000000003 → CPowW (mx + 79 * (z + 1)) 3 := fun mx b0 b1 => powW_ok (n := 400) (lt_pow (by omega) (by omega)) (by decide) (by decide)
      refine ⟨_, rfl, _, rfl, a, _, 2, _, rfl, rfl, hS2, at2, _, _, rfl, rfl, wide_mul (a := 30) (b := 30) (by decide) (lt_pow (by omega) (by omega)) (by decide) (by decide) (by decide), _, _, rfl, rfl, _, _, rfl, rfl, c2 _ b0 b1, _, _, rfl, rfl, p2, _, _, rfl, rfl, _, _, rfl, rfl, n2, ?_⟩
      refine ⟨_, rfl, _, _, rfl, rfl, wide_div (b := 30) (by decide) (by decide) (by decide) (by decide), _, rfl, _, _, rfl, rfl, (by show (0 : Int) < m; omega), ?_⟩
      exact q _ _ (Int.emod_nonneg _ (by omega)) (Int.emod_lt_of_pos _ (by omega)) ⟨_, _, _, upd_same, y0, y1, by omega, by omega⟩ (.at_ _ _ _)
/-! ### where the draws come from -/
def spSource : Sp := fun vs H Q _ => ∃ (c : Int) (k : Nat), vs = [.int c, .int (k : Int)] ∧ k ≤ 1000 ∧ ∀ H' p, Same H H' → H p = none → Src H' p 0 → Q (.ref p) H'
theorem ok_law_source {f : Addr} {fd : FuncData} (F : Fun K "_law_source" "_law_source" s_law_source f fd) (B : NoB mg) : FnG P w K mg base CX0 1 f fd ["cell", "k"] spSource := by
  refine okG F sc_law_source (fun vs H Q E h => ?_) (fun cdv A outer s H vs Q E hG hr h => ?_)
  · obtain ⟨c, k, rfl, _⟩ := h
    rfl
  · obtain ⟨c, k, rfl, hk, q⟩ := h
    refine ⟨_, (pss_one (ps_ret (pe_lst (pa_cons (pe_callB (call_max2 rfl) (by rfl) B.max (by decide +kernel) (pa_cons pe_int (pa_cons (pe_op op_sub (pv 0) (pe_op op_powW pe_int pe_int)) pa_nil))) (pa_cons (pe_op op_add (pe_op op_mulW (pe_op op_mod (pv 0) (pe_op op_add (pe_op op_powW pe_int pe_int) pe_int)) pe_int) (pv 1)) (pa_cons pe_int pa_nil)))))), ?_⟩
    have p1 : CPowW 10 18 := powW_ok (n := 4) (by decide) (by decide) (by decide)
    have p2 : CPowW 10 33 := powW_ok (n := 4) (by decide) (by decide) (by decide)
    have e : (10 : Int) ^ (33 : Int).toNat + 153 = 1000000000000000000000000000000153 := by decide +kernel
    have m0 : (0 : Int) < 10 ^ (33 : Int).toNat + 153 := by rw [e]; decide
    have r0 := Int.emod_nonneg c (Int.ne_of_gt m0)
    have r1 := Int.emod_lt_of_pos c m0
    have r2 : c % (10 ^ (33 : Int).toNat + 153) < 1000000000000000000000000000000153 := by
      rw [e] at r1
      rw [e]
      exact r1
    refine ⟨_, rfl, _, _, rfl, rfl, p1, _, _, rfl, rfl, _, _, rfl, _, rfl, _, _, rfl, rfl, p2, _, _, rfl, rfl, _, _, rfl, rfl, m0, _, _, rfl, rfl, wide_mul (a := 200) (b := 30) (lt_pow r0 (by omega)) (by decide) (by decide) (by decide) (by decide),
      _, rfl, _, _, rfl, rfl, by show 3 ≤ sizeLine; decide, fun p np => q _ p (same_new np) np ?_⟩
    exact ⟨_, _, _, upd_same, by omega, by omega, Int.le_refl _, Int.le_refl _⟩
end
end L04
set_option Elab.async false
set_option linter.all false
set_option maxRecDepth 100000
namespace L04
open PySem PySem.Spec PyProof.Rows L2 Lp
/-! ### the drawn history -/
def upL (n : Nat) : List Int := (List.range n).map fun i : Nat => 1 + (i : Int)
theorem nodup_map {α β : Type} {f : α → β} (hf : ∀ x y, f x = f y → x = y) : ∀ {l : List α}, l.Nodup → (l.map f).Nodup
  | [], _ => List.nodup_nil
  | x :: r, h => by
    obtain ⟨h1, h2⟩ := List.nodup_cons.mp h
    refine List.nodup_cons.mpr ⟨fun hm => ?_, nodup_map hf h2⟩
    obtain ⟨y, hy, e⟩ := List.mem_map.mp hm
    exact h1 (hf _ _ e ▸ hy)
theorem upL_nd (n : Nat) : (upL n).Nodup := nodup_map (fun x y e => by omega) List.nodup_range
theorem upL_mem {n : Nat} {k : Int} (h : k ∈ upL n) : 1 ≤ k ∧ k ≤ (n : Int) := by
  obtain ⟨i, hi, rfl⟩ := List.mem_map.mp h
  have := List.mem_range.mp hi
  omega
theorem upL_len (n : Nat) : (upL n).length = n := by
  unfold upL
  rw [List.length_map, List.length_range]
theorem rgV_up (b : Int) : rgV 1 b = (upL (b - 1).toNat).map V.int := by
  unfold rgV upL
  rw [List.map_map]
  rfl
structure Good (fr av fd : List Int) : Prop where
  rng : ∀ e ∈ fd, e ≠ 0 ∧ -100 ≤ e ∧ e ≤ 100
  nd : fd.Nodup
  ord : ∀ (i : Nat) (e : Int), fd[i]? = some e → e < 0 → -e ∈ fd.take i
  avn : av.Nodup
  avm : ∀ k ∈ av, 0 < k ∧ k ∈ fd ∧ -k ∉ fd
  frn : fr.Nodup
  frm : ∀ k ∈ fr, 1 ≤ k ∧ k ≤ 100 ∧ k ∉ fd
theorem ord_snoc {fd : List Int} {x : Int} (h : ∀ (i : Nat) (e : Int), fd[i]? = some e → e < 0 → -e ∈ fd.take i) (hx : x < 0 → -x ∈ fd) (i : Nat) (e : Int) (he : (fd ++ [x])[i]? = some e) (h0 : e < 0) : -e ∈ (fd ++ [x]).take i := by
  by_cases hi : i < fd.length
  · rw [List.getElem?_append_left hi] at he
    rw [List.take_append_of_le_length (Nat.le_of_lt hi)]
    exact h i e he h0
  · have hi2 := lt_get he
    rw [List.length_append, List.length_singleton] at hi2
    have e1 : i = fd.length := by omega
    subst e1
    rw [List.getElem?_append_right (Nat.le_refl _), Nat.sub_self] at he
    have e2 : x = e := Option.some.inj he
    subst e2
    rw [List.take_append_of_le_length (Nat.le_refl _), List.take_length]
    exact hx h0
theorem ord_mem {fd : List Int} (h : ∀ (i : Nat) (e : Int), fd[i]? = some e → e < 0 → -e ∈ fd.take i) {e : Int} (he : e ∈ fd) (h0 : e < 0) : -e ∈ fd := by
  obtain ⟨i, hi, rfl⟩ := List.mem_iff_getElem.mp he
  exact List.mem_of_mem_take (h i _ (List.getElem?_eq_getElem hi) h0)
theorem nodup_snoc {l : List Int} {x : Int} (h : l.Nodup) (hx : x ∉ l) : (l ++ [x]).Nodup :=
  List.nodup_append.mpr ⟨h, List.nodup_cons.mpr ⟨List.not_mem_nil, List.nodup_nil⟩, fun a ha b hb e => hx (by
    rw [List.mem_singleton] at hb
    rw [← hb, ← e]
    exact ha)⟩
theorem Good.push {k : Int} {fr av fd : List Int} (g : Good (k :: fr) av fd) : Good fr (av ++ [k]) (fd ++ [k]) := by
  obtain ⟨k1, k2, k3⟩ := g.frm k List.mem_cons_self
  obtain ⟨n1, n2⟩ := List.nodup_cons.mp g.frn
  have kn : -k ∉ fd := fun h => k3 (by
    have z := ord_mem g.ord h (by omega)
    rwa [Int.neg_neg] at z)
  have kav : k ∉ av := fun h => k3 (g.avm k h).2.1
  refine ⟨fun e he => ?_, nodup_snoc g.nd k3, ord_snoc g.ord (fun z => by omega), nodup_snoc g.avn kav, fun j hj => ?_, n2, fun j hj => ?_⟩
  · rcases List.mem_append.mp he with h | h
    · exact g.rng e h
    · rw [List.mem_singleton] at h
      omega
  · rw [List.mem_append, List.mem_append, List.mem_singleton, List.mem_singleton]
    rcases List.mem_append.mp hj with h | h
    · obtain ⟨a, b, c⟩ := g.avm j h
      exact ⟨a, .inl b, fun z => z.elim c fun z => by omega⟩
    · rw [List.mem_singleton] at h
      subst h
      exact ⟨by omega, .inr rfl, fun z => z.elim kn fun z => by omega⟩
  · obtain ⟨a, b, c⟩ := g.frm j (List.mem_cons_of_mem _ hj)
    refine ⟨a, b, fun z => ?_⟩
    rcases List.mem_append.mp z with h | h
    · exact c h
    · rw [List.mem_singleton] at h
      exact n1 (h ▸ hj)
theorem Good.stop {fr av fd : List Int} (g : Good fr av fd) {j : Nat} (hj : j < av.length) : Good fr (av.eraseIdx j) (fd ++ [-av[j]]) := by
  obtain ⟨a0, a1, a2⟩ := g.avm av[j] (List.getElem_mem hj)
  have pm := erase_perm av j hj
  have ndp : (av[j] :: av.eraseIdx j).Nodup := pm.nodup_iff.mpr g.avn
  obtain ⟨m1, m2⟩ := List.nodup_cons.mp ndp
  refine ⟨fun e he => ?_, nodup_snoc g.nd a2, ord_snoc g.ord (fun _ => by rw [Int.neg_neg]; exact a1), m2, fun k hk => ?_, g.frn, fun k hk => ?_⟩
  · rcases List.mem_append.mp he with h | h
    · exact g.rng e h
    · rw [List.mem_singleton] at h
      have := g.rng _ a1
      omega
  · have hk2 : k ∈ av := pm.mem_iff.mp (List.mem_cons_of_mem _ hk)
    obtain ⟨a, b, c⟩ := g.avm k hk2
    refine ⟨a, List.mem_append_left _ b, fun z => ?_⟩
    rcases List.mem_append.mp z with h | h
    · exact c h
    · rw [List.mem_singleton] at h
      have e : k = av[j] := by omega
      exact m1 (e ▸ hk)
  · obtain ⟨a, b, c⟩ := g.frm k hk
    refine ⟨a, b, fun z => ?_⟩
    rcases List.mem_append.mp z with h | h
    · exact c h
    · rw [List.mem_singleton] at h
      omega
theorem eqvT {xs ys : List Int} (h : xs = ys) : V.bl (PyData.eqv (dI xs) (dI ys)) = V.bl true := by rw [eqv_ints, decide_eq_true h]
theorem eqvF {xs ys : List Int} (h : ¬ xs = ys) : V.bl (PyData.eqv (dI xs) (dI ys)) = V.bl false := by rw [eqv_ints, decide_eq_false h]
theorem neqT {xs ys : List Int} (h : ¬ xs = ys) : V.bl (!PyData.eqv (dI xs) (dI ys)) = V.bl true := by rw [eqv_ints, decide_eq_false h]; rfl
theorem neqF {xs ys : List Int} (h : xs = ys) : V.bl (!PyData.eqv (dI xs) (dI ys)) = V.bl false := by rw [eqv_ints, decide_eq_true h]; rfl
theorem nodup_len {l : List Int} : ∀ {m : List Int}, l.Nodup → (∀ x ∈ l, x ∈ m) → l.length ≤ m.length := by
  induction l with
  | nil => intro m _ _; exact Nat.zero_le _
  | cons x r ih =>
    intro m h s
    obtain ⟨h1, h2⟩ := List.nodup_cons.mp h
    have hx := s x List.mem_cons_self
    have z := ih (m := m.erase x) h2 fun y hy => (List.mem_erase_of_ne (fun e : y = x => h1 (e ▸ hy))).mpr (s y (List.mem_cons_of_mem _ hy))
    rw [List.length_erase_of_mem hx] at z
    have := List.length_pos_of_mem hx
    show r.length + 1 ≤ m.length
    omega
theorem Good.perm {fr fr' av fd : List Int} (g : Good fr av fd) (p : fr'.Perm fr) : Good fr' av fd :=
  ⟨g.rng, g.nd, g.ord, g.avn, g.avm, p.nodup_iff.mpr g.frn, fun k hk => g.frm k (p.mem_iff.mp hk)⟩
theorem Good.pushAt {fr av fd : List Int} (g : Good fr av fd) {j : Nat} (hj : j < fr.length) : Good (fr.eraseIdx j) (av ++ [fr[j]]) (fd ++ [fr[j]]) :=
  (g.perm (erase_perm fr j hj)).push
section
variable {P : Program} {w : World} {K : PySem.W.Frag} {mg : Str → Option Value} {base : Heap}
/-! ### _law_row -/
def spRow : Sp := fun vs H Q _ => ∃ (src : Addr) (most : Int) (n : Nat), vs = [.ref src, .int most] ∧ Src H src n ∧ n ≤ 800000 ∧ 0 ≤ most ∧ most ≤ 200 ∧
  ∀ (H' : Hp) (p : Addr) (row : List Int), Hist row → (row.length : Int) ≤ most → Bt src H H' → Src H' src (n + 2000) → H p = none → H' p = some (.lst (row.map V.int)) → Q (.ref p) H'
/-- what the loop of _law_row keeps -/
def LogF (H H' : Hp) (src fa fo al : Addr) (n : Nat) (fr av fd : List Int) : Prop :=
  H' fa = some (.lst (fr.map V.int)) ∧ H' al = some (.lst (av.map V.int)) ∧ H' fo = some (.lst (fd.map V.int)) ∧ Src H' src n ∧ Bt src H H'
theorem ok_law_row {f : Addr} {fdd : FuncData} (F : Fun K "_law_row" "_law_row" s_law_row f fdd) (B : NoB mg) (T_law_draw : Gc P w K mg base 1 "_law_draw" spDraw) : FnG P w K mg base CX0 2 f fdd ["source", "most"] spRow := by
  refine okG F sc_law_row (fun vs H Q E h => ?_) (fun cdv A outer s H vs Q E hG hr h => ?_)
  · obtain ⟨src, most, n, rfl, _⟩ := h
    rfl
  · obtain ⟨src, most, n, rfl, hs, hn, o1, o2, q⟩ := h
    have hu64 := hr.units
    refine ⟨_, (pss_cons (ps_set (i := 2) sc_law_row.nd rfl (Or.inl rfl) (pe_ix ix_list (pe_lst (pa_cons (pe_g T_law_draw hG hr (by decide) (by rfl) (pa_cons (pv 0) (pa_cons (pe_op op_add (pv 1) pe_int) pa_nil))) (pa_cons (pe_g T_law_draw hG hr (by decide) (by rfl) (pa_cons (pv 0) (pa_cons (pe_op op_add (pe_callB (call_min2 rfl) (by rfl) B.min (by decide +kernel) (pa_cons (pv 1) (pa_cons pe_int pa_nil))) pe_int) pa_nil))) (pa_cons (pv 1) pa_nil)))) (pe_g T_law_draw hG hr (by decide) (by rfl) (pa_cons (pv 0) (pa_cons pe_int pa_nil))) (fun _ _ => rfl)))
        (pss_cons (ps_par3 (i := 3) (j := 4) (l := 5) (by rfl) sc_law_row.nd rfl rfl rfl (by decide) (by decide) (by decide) rfl rfl rfl (pa_cons (pe_g T_law_draw hG hr (by decide) (by rfl) (pa_cons (pv 0) (pa_cons pe_int pa_nil))) (pa_cons (pe_g T_law_draw hG hr (by decide) (by rfl) (pa_cons (pv 0) (pa_cons pe_int pa_nil))) (pa_cons (pe_g T_law_draw hG hr (by decide) (by rfl) (pa_cons (pv 0) (pa_cons pe_int pa_nil))) pa_nil))) (by rfl))
        (pss_cons (ps_par3 (i := 6) (j := 7) (l := 8) (by rfl) sc_law_row.nd rfl rfl rfl (by decide) (by decide) (by decide) rfl rfl rfl (pa_cons (pe_listRg rfl (by rfl) B.list (prg_2 (by rfl) B.range pe_int pe_int)) (pa_cons (pe_lst pa_nil) (pa_cons (pe_lst pa_nil) pa_nil))) (by rfl))
        (pss_cons (ps_for PassesOwn.never rfl (pi_range1 rfl B.range (pa_cons (pv 2) pa_nil)) (pg_name (i := 9) sc_law_row.nd rfl (Or.inl rfl))
          (pss_cons (ps_set (i := 10) sc_law_row.nd rfl (Or.inl rfl) (pe_ix ix_list (pe_lst (pa_cons (pe_cmpR op_eq (pe_g T_law_draw hG hr (by decide) (by rfl) (pa_cons (pv 0) (pa_cons pe_int pa_nil))) pe_int (nomark _)) (pa_cons (pe_cmpR op_gt (pe_g T_law_draw hG hr (by decide) (by rfl) (pa_cons (pv 0) (pa_cons pe_int pa_nil))) pe_int (nomark _)) (pa_cons (pe_cmpR op_lt (pe_op op_mulW pe_int (pv 9)) (pv 2) (nomark _)) (pa_cons (pe_cmpR (op_eqD hu64) (pv 7) (pe_lst pa_nil) (nomark _)) pa_nil))))) (pv 3) (fun _ _ => rfl)))
          (pss_one (ps_if (pt_mid (PW.pt (pw_and (pt_cmpR (op_neD hu64) (pv 6) (pe_lst pa_nil) (nomark _)) (pw_and1 (PW.pt (pw_or (pt_cmpR (op_eqD hu64) (pv 7) (pe_lst pa_nil) (nomark _)) (pw_or1 (pt_val (pv 10))))))))) (pss_cons (ps_expr (pe_bm PySem.F.plainAttrs_list PySem.F.slot_list_append PySem.F.type_list_append mt_append (pv 7) (pa_cons (pe_bm PySem.F.plainAttrs_list PySem.F.slot_list_pop PySem.F.type_list_pop mt_popAt (pv 6) (pa_cons (pe_ix ix_list (pe_lst (pa_cons pe_int (pa_cons (pe_g T_law_draw hG hr (by decide) (by rfl) (pa_cons (pv 0) (pa_cons (pe_callB call_len_seq (by rfl) B.len PySem.boot_len (pa_cons (pv 6) pa_nil)) pa_nil))) pa_nil))) (pv 5) (fun _ _ => rfl)) pa_nil)) pa_nil)))
            (pss_one (ps_expr (pe_bm PySem.F.plainAttrs_list PySem.F.slot_list_append PySem.F.type_list_append mt_append (pv 8) (pa_cons (pe_ix ix_list (pv 7) (pe_un un_neg pe_int) (fun _ _ => rfl)) pa_nil))))) (pss_one (ps_if (pt_cmpR (op_neD hu64) (pv 7) (pe_lst pa_nil) (nomark _)) (pss_cons (ps_set (i := 11) sc_law_row.nd rfl (Or.inl rfl) (pe_lst (pa_cons (pe_g T_law_draw hG hr (by decide) (by rfl) (pa_cons (pv 0) (pa_cons (pe_callB call_len_seq (by rfl) B.len PySem.boot_len (pa_cons (pv 7) pa_nil)) pa_nil))) (pa_cons (pe_op op_sub (pe_callB call_len_seq (by rfl) B.len PySem.boot_len (pa_cons (pv 7) pa_nil)) pe_int) (pa_cons pe_int (pa_cons (pe_g T_law_draw hG hr (by decide) (by rfl) (pa_cons (pv 0) (pa_cons (pe_callB call_len_seq (by rfl) B.len PySem.boot_len (pa_cons (pv 7) pa_nil)) pa_nil))) pa_nil))))))
              (pss_one (ps_expr (pe_bm PySem.F.plainAttrs_list PySem.F.slot_list_append PySem.F.type_list_append mt_append (pv 8) (pa_cons (pe_op op_sub pe_int (pe_bm PySem.F.plainAttrs_list PySem.F.slot_list_pop PySem.F.type_list_pop mt_popAt (pv 7) (pa_cons (pe_ix ix_list (pv 11) (pv 4) (fun _ _ => rfl)) pa_nil))) pa_nil))))) pss_nil))))))
        (pss_one (ps_ret (pv 8))))))), ?_⟩
    -- many
    refine ⟨_, rfl, _, rfl, _, _, rfl, rfl, src, _, n, rfl, hs, by omega, by omega, by omega, fun r1 H1 r10 r11 hs1 b1 => ?_⟩
    refine ⟨_, rfl, _, rfl, _, _, rfl, _, _, rfl, rfl, src, _, n + 1, rfl, hs1, by omega, by split <;> omega, by split <;> omega, fun r2 H2 r20 r21 hs2 b2 => ?_⟩
    have r22 : r2 ≤ most := by
      split at r21 <;> omega
    refine ⟨_, rfl, by show 3 ≤ sizeLine; decide, fun L nL => ?_⟩
    refine ⟨_, rfl, src, 3, n + 2, rfl, hs2.new nL, by omega, by decide, by decide, fun r3 H3 r30 r31 hs3 b3 => ?_⟩
    have nLs := hs2.ne nL
    have hL3 : H3 L = some (.lst [.int r1, .int r2, .int most]) := b3 _ _ nLs upd_same
    obtain ⟨many, em, k1, k2⟩ : ∃ m : Int, atI [V.int r1, .int r2, .int most] r3 = some (.int m) ∧ 0 ≤ m ∧ m ≤ most := by
      have c : r3 = 0 ∨ r3 = 1 ∨ r3 = 2 := by omega
      rcases c with rfl | rfl | rfl
      · exact ⟨_, at0, by omega, by omega⟩
      · exact ⟨_, at1, by omega, by omega⟩
      · exact ⟨_, at2, o1, Int.le_refl _⟩
    have b03 : Bt src H H3 := ((b1.trans b2).add nL).trans b3
    refine ⟨L, _, r3, _, rfl, rfl, .of hL3, em, ?_⟩
    -- style, ends, named
    refine ⟨_, rfl, src, 4, n + 3, rfl, hs3, by omega, by decide, by decide, fun st H4 st0 st1 hs4 b4 => ?_⟩
    refine ⟨_, rfl, src, 4, n + 4, rfl, hs4, by omega, by decide, by decide, fun en H5 en0 en1 hs5 b5 => ?_⟩
    refine ⟨_, rfl, src, 2, n + 5, rfl, hs5, by omega, by decide, by decide, fun nd H6 nd0 nd1 hs6 b6 => ⟨_, _, _, rfl, ?_⟩⟩
    have b06 := ((b03.trans b4).trans b5).trans b6
    -- left, active, found
    refine ⟨_, _, rfl, rfl, RgOk.of_le (by decide) (by decide) (by decide) (by decide), fun lf nlf => ⟨Nat.zero_le _, fun al nal => ⟨Nat.zero_le _, fun fo nfo => ⟨_, _, _, rfl, ?_⟩⟩⟩⟩
    have nlfs := hs6.ne nlf
    have nals := (hs6.new nlf).ne nal
    have nfos := ((hs6.new nlf).new nal).ne nfo
    have nla : lf ≠ al := ne_of_none upd_same nal
    have nlo : lf ≠ fo := ne_of_none (show (upd (upd H6 lf (.lst (rgV 1 101))) al (.lst [])) lf = some (.lst (rgV 1 101)) by rw [upd_ne nla, upd_same]) nfo
    have nao : al ≠ fo := ne_of_none upd_same nfo
    have hlf0 : H lf = none := free_of b06 nlfs nlf
    have nal6 : H6 al = none := by rw [upd_ne nla.symm] at nal; exact nal
    have hal0 : H al = none := free_of b06 nals nal6
    have nfo6 : H6 fo = none := by rw [upd_ne nao.symm, upd_ne nlo.symm] at nfo; exact nfo
    have hfo0 : H fo = none := free_of b06 nfos nfo6
    -- the turns
    refine ⟨_, rfl, many, rfl, by omega, by omega, ?_⟩
    refine for_range (lo := 0) (n := many.toNat) (fun i σ H' => (∃ y1 y2 y3, σ = [some (.ref src), some (.int most), some (.int many), some (.int st), some (.int en), some (.int nd), some (.ref lf), some (.ref al), some (.ref fo), y1, y2, y3]) ∧
      ∃ fr av fd : List Int, LogF H H' src lf fo al (n + 6 + 5 * i) fr av fd ∧ Good fr av fd ∧ fd.length ≤ i ∧ fr.length ≤ 100) ⟨⟨_, _, _, rfl⟩, upL 100, [], [], ⟨?_, ?_, upd_same, ((hs6.new nlf).new nal).new nfo, ((b06.add nlf).add nal).add nfo⟩, ?_, Nat.le_refl _, by rw [upL_len]; exact Nat.le_refl _⟩ (fun i σ H' hi h => ?_) (fun σ H' h => ?_)
    · rw [upd_ne nlo, upd_ne nla, upd_same, rgV_up]
      rfl
    · rw [upd_ne nao, upd_same]
      rfl
    · exact ⟨fun e he => absurd he List.not_mem_nil, List.nodup_nil, fun i e he => by simp at he, List.nodup_nil, fun k hk => absurd hk List.not_mem_nil, upL_nd 100, fun k hk => ⟨(upL_mem hk).1, (upL_mem hk).2, List.not_mem_nil⟩⟩
    · obtain ⟨⟨y1, y2, y3, rfl⟩, fr, av, fd, ⟨f1, f2, f3, f4, f5⟩, g, ln, frl⟩ := h
      have avl : av.length ≤ 100 := Nat.le_trans (nodup_len (m := upL 100) g.avn fun k hk => by
        obtain ⟨a, b, _⟩ := g.avm k hk
        have := g.rng k b
        exact List.mem_map.mpr ⟨(k - 1).toNat, List.mem_range.mpr (by omega), by omega⟩) (by rw [upL_len]; exact Nat.le_refl _)
      have i200 : i < 200 := by omega
      -- begins
      refine ⟨_, rfl, src, 2, n + 6 + 5 * i, rfl, f4, by omega, by decide, by decide, fun q1 G1 q10 q11 hg1 c1 => ⟨rfl, ?_⟩⟩
      refine ⟨_, rfl, src, 4, n + 6 + 5 * i + 1, rfl, hg1, by omega, by decide, by decide, fun q2 G2 q20 q21 hg2 c2 => ⟨_, _, rfl, rfl, ?_⟩⟩
      refine ⟨_, rfl, _, _, rfl, rfl, wide_mul (a := 3) (b := 10) (by decide) (by omega) (by decide) (by decide) (by decide), _, rfl, _, _, rfl, rfl, ?_⟩
      have f1b := c2 _ _ nlfs (c1 _ _ nlfs f1)
      have f2b := c2 _ _ nals (c1 _ _ nals f2)
      have f3b := c2 _ _ nfos (c1 _ _ nfos f3)
      have f5b := (f5.trans c1).trans c2
      refine ⟨_, rfl, Nat.zero_le _, fun e1 ne1 => ?_⟩
      refine ⟨dI av, dI [], dp_ints (.of (same_new ne1 _ _ f2b)), dp_ints (ns := []) (.of upd_same), shaped_ints _, shaped_ints _, ?_⟩
      refine ⟨by show 4 ≤ sizeLine; decide, fun L2 nL2 => ?_⟩
      have s3 := (same_new (o := .lst []) ne1).trans (same_new (o := .lst [V.bl (decide (V.int q1 = V.int 0)), V.bl (decide (0 < q2)), V.bl (decide (2 * (0 + (i : Int)) < many)), V.bl (PyData.eqv (dI av) (dI []))]) nL2)
      obtain ⟨bb, ebb⟩ : ∃ bb : Bool, atI [V.bl (decide (V.int q1 = V.int 0)), V.bl (decide (0 < q2)), V.bl (decide (2 * (0 + (i : Int)) < many)), V.bl (PyData.eqv (dI av) (dI []))] st = some (.bl bb) := by
        have c : st = 0 ∨ st = 1 ∨ st = 2 ∨ st = 3 := by omega
        rcases c with rfl | rfl | rfl | rfl
        · exact ⟨_, at0⟩
        · exact ⟨_, at1⟩
        · exact ⟨_, at2⟩
        · exact ⟨_, atI_nat (j := 3) rfl⟩
      refine ⟨_, rfl, L2, _, st, .bl bb, rfl, rfl, .of upd_same, ebb, ?_⟩
      have l0 : LogF H (upd (upd G2 e1 (.lst [])) L2 (.lst [V.bl (decide (V.int q1 = V.int 0)), V.bl (decide (0 < q2)), V.bl (decide (2 * (0 + (i : Int)) < many)), V.bl (PyData.eqv (dI av) (dI []))])) src lf fo al (n + 6 + 5 * i + 2) fr av fd :=
        ⟨s3 _ _ f1b, s3 _ _ f2b, s3 _ _ f3b, hg2.same s3, f5b.trans (.of s3)⟩
      generalize upd (upd G2 e1 (.lst [])) L2 (.lst [V.bl (decide (V.int q1 = V.int 0)), V.bl (decide (0 < q2)), V.bl (decide (2 * (0 + (i : Int)) < many)), V.bl (PyData.eqv (dI av) (dI []))]) = G3 at l0 ⊢
      have lnew : ∀ {Ga : Hp} {e : Addr} {o : HO} {k : Nat}, LogF H Ga src lf fo al k fr av fd → Ga e = none → LogF H (upd Ga e o) src lf fo al k fr av fd := fun {Ga e o k} l ne => by
        obtain ⟨g1, g2, g3, g4, g5⟩ := l
        exact ⟨same_new ne _ _ g1, same_new ne _ _ g2, same_new ne _ _ g3, g4.new ne, g5.add ne⟩
      refine ⟨fun b H3 => LogF H H3 src lf fo al (n + 6 + 5 * i + 2) fr av fd ∧ (b = true → fr ≠ []), ?_, fun b H3 hM => ?_⟩
      · refine ⟨_, rfl, Nat.zero_le _, fun e ne => ?_⟩
        have l1 := lnew (o := .lst []) l0 ne
        by_cases hfr : fr = []
        · exact ⟨dI fr, dI [], dp_ints (.of l1.1), dp_ints (ns := []) (.of upd_same), shaped_ints _, shaped_ints _, false, neqF hfr, l1, fun z => absurd z Bool.false_ne_true⟩
        · refine ⟨dI fr, dI [], dp_ints (.of l1.1), dp_ints (ns := []) (.of upd_same), shaped_ints _, shaped_ints _, true, neqT hfr, ?_⟩
          refine ⟨_, rfl, Nat.zero_le _, fun e3 ne3 => ?_⟩
          have l2 := lnew (o := .lst []) l1 ne3
          by_cases hav : av = []
          · exact ⟨dI av, dI [], dp_ints (.of l2.2.1), dp_ints (ns := []) (.of upd_same), shaped_ints _, shaped_ints _, true, eqvT hav, l2, fun _ => hfr⟩
          · exact ⟨dI av, dI [], dp_ints (.of l2.2.1), dp_ints (ns := []) (.of upd_same), shaped_ints _, shaped_ints _, false, eqvF hav, _, rfl, bb, rfl, l2, fun _ => hfr⟩
      · obtain ⟨⟨f1, f2, f3, f4, f5⟩, hb1⟩ := hM
        have fdl : fd.length < 100000 := by omega
        cases b with
        | true =>
          have hfr := hb1 rfl
          have fpos : 0 < fr.length := Nat.pos_of_ne_zero fun z => hfr (List.length_eq_zero_iff.mp z)
          refine ⟨_, rfl, .inl ⟨rfl, _, .of f2⟩, _, rfl, .inl ⟨rfl, _, .of f1⟩, _, rfl, _, rfl, lf, _, rfl, .inl (.of f1), src, _, n + 6 + 5 * i + 2, rfl, f4, by omega, by rw [List.length_map]; omega, by rw [List.length_map]; omega, fun r5 H5 r50 r51 hs5 b5 => ?_⟩
          rw [List.length_map] at r51
          have f1f := b5 _ _ nlfs f1
          have f2f := b5 _ _ nals f2
          have f3f := b5 _ _ nfos f3
          refine ⟨by show 2 ≤ sizeLine; decide, fun sp nsp => ?_⟩
          obtain ⟨j, ej, hj⟩ : ∃ j : Nat, atI [V.int 0, .int r5] nd = some (.int (j : Int)) ∧ j < fr.length := by
            have c : nd = 0 ∨ nd = 1 := by omega
            obtain ⟨j, rfl⟩ := nat_of r50
            rcases c with rfl | rfl
            · exact ⟨0, at0, fpos⟩
            · exact ⟨j, at1, by omega⟩
          have f1g := same_new (o := .lst [V.int 0, .int r5]) nsp _ _ f1f
          have f2g := same_new (o := .lst [V.int 0, .int r5]) nsp _ _ f2f
          have f3g := same_new (o := .lst [V.int 0, .int r5]) nsp _ _ f3f
          have f4g := hs5.new (o := .lst [V.int 0, .int r5]) nsp
          have f5g := (f5.trans b5).add (o := .lst [V.int 0, .int r5]) nsp
          refine ⟨_, rfl, sp, _, nd, _, rfl, rfl, .of upd_same, ej, lf, _, _, j, _, rfl, rfl, f1g, (nm (by omega)).1, (nm (by omega)).2, by rw [List.length_map]; exact ix_at hj, get_at hj, al, _, _, rfl, rfl, (by rw [upd_ne nla.symm]; exact f2g), by rw [List.length_map]; exact zl (by omega), ?_⟩
          generalize upd H5 sp (.lst [V.int 0, .int r5]) = H6' at f1g f2g f3g f4g f5g ⊢
          have fo3 : (upd (upd H6' lf (.lst ((fr.map V.int).eraseIdx j))) al (.lst (av.map V.int ++ [.int fr[j]]))) fo = some (.lst (fd.map V.int)) := by rw [upd_ne nao.symm, upd_ne nlo.symm]; exact f3g
          refine ⟨_, rfl, .inl ⟨rfl, _, .of fo3⟩, _, rfl, 1, rfl, al, _, -1, _, rfl, rfl, .of upd_same, at_last, fo, _, _, rfl, rfl, fo3, by rw [List.length_map]; exact zl fdl, ⟨_, _, _, rfl⟩, fr.eraseIdx j, av ++ [fr[j]], fd ++ [fr[j]], ⟨?_, ?_, ?_, ?_, ?_⟩, g.pushAt hj, ?_, ?_⟩
          · rw [upd_ne nlo, upd_ne nla, upd_same, erase_map]
          · rw [upd_ne nao, upd_same, List.map_append]
            rfl
          · rw [upd_same, List.map_append]
            rfl
          · exact (((f4g.upd nlfs).upd nals).upd nfos).mono (by omega)
          · exact ((f5g.mut hlf0).mut hal0).mut hfo0
          · rw [List.length_append]
            exact Nat.succ_le_succ ln
          · rw [List.length_eraseIdx]
            split <;> omega
        | false =>
          refine ⟨_, rfl, Nat.zero_le _, fun e ne => ?_⟩
          have l1 := lnew (o := .lst []) (⟨f1, f2, f3, f4, f5⟩ : LogF H H3 src lf fo al (n + 6 + 5 * i + 2) fr av fd) ne
          obtain ⟨f1e, f2e, f3e, f4e, f5e⟩ := l1
          by_cases hav : av = []
          · refine ⟨dI av, dI [], dp_ints (.of f2e), dp_ints (ns := []) (.of upd_same), shaped_ints _, shaped_ints _, false, neqF hav, ?_⟩
            exact ⟨⟨_, _, _, rfl⟩, fr, av, fd, ⟨f1e, f2e, f3e, f4e.mono (by omega), f5e⟩, g, Nat.le_succ_of_le ln, frl⟩
          · refine ⟨dI av, dI [], dp_ints (.of f2e), dp_ints (ns := []) (.of upd_same), shaped_ints _, shaped_ints _, true, neqT hav, ?_⟩
            have apos : 0 < av.length := Nat.pos_of_ne_zero fun z => hav (List.length_eq_zero_iff.mp z)
            refine ⟨_, rfl, _, rfl, al, _, rfl, .inl (.of f2e), src, _, n + 6 + 5 * i + 2, rfl, f4e, by omega, by rw [List.length_map]; omega, by rw [List.length_map]; omega, fun r5 H5 r50 r51 hs5 b5 => ?_⟩
            rw [List.length_map] at r51
            have f1f := b5 _ _ nlfs f1e
            have f2f := b5 _ _ nals f2e
            have f3f := b5 _ _ nfos f3e
            refine ⟨_, rfl, al, _, rfl, .inl (.of f2f), _, _, rfl, rfl, ?_⟩
            refine ⟨_, rfl, _, rfl, al, _, rfl, .inl (.of f2f), src, _, n + 6 + 5 * i + 3, rfl, hs5, by omega, by rw [List.length_map]; omega, by rw [List.length_map]; omega, fun r6 H6 r60 r61 hs6 b6 => ?_⟩
            rw [List.length_map] at r61
            have f1g := b6 _ _ nlfs f1f
            have f2g := b6 _ _ nals f2f
            have f3g := b6 _ _ nfos f3f
            refine ⟨by show 4 ≤ sizeLine; decide, fun sp nsp => ?_⟩
            have f1h : ∀ o, (upd H6 sp o) lf = some (.lst (fr.map V.int)) := fun o => same_new nsp _ _ f1g
            have f2h : ∀ o, (upd H6 sp o) al = some (.lst (av.map V.int)) := fun o => same_new nsp _ _ f2g
            have f3h : ∀ o, (upd H6 sp o) fo = some (.lst (fd.map V.int)) := fun o => same_new nsp _ _ f3g
            have f4h : ∀ o, Src (upd H6 sp o) src (n + 6 + 5 * i + 4) := fun o => hs6.new nsp
            have f5h : ∀ o, Bt src H (upd H6 sp o) := fun o => ((f5e.trans b5).trans b6).add nsp
            obtain ⟨j, ej, hj⟩ : ∃ j : Nat, atI [V.int r5, .int ((((av.map V.int).length : Nat) : Int) - 1), .int 0, .int r6] en = some (.int (j : Int)) ∧ j < av.length := by
              have c : en = 0 ∨ en = 1 ∨ en = 2 ∨ en = 3 := by omega
              have fin : ∀ (s : Nat) (v : Int), [V.int r5, .int ((((av.map V.int).length : Nat) : Int) - 1), .int 0, .int r6][s]? = some (.int v) → 0 ≤ v → v < (av.length : Int) → ∃ j : Nat, atI [V.int r5, .int ((((av.map V.int).length : Nat) : Int) - 1), .int 0, .int r6] (s : Int) = some (.int (j : Int)) ∧ j < av.length := fun s v e v0 v1 => by
                obtain ⟨j, rfl⟩ := nat_of v0
                exact ⟨j, atI_nat e, by omega⟩
              rcases c with rfl | rfl | rfl | rfl
              · exact fin 0 r5 rfl r50 r51
              · exact fin 1 _ rfl (by rw [List.length_map]; omega) (by rw [List.length_map]; omega)
              · exact fin 2 0 rfl (by decide) (by omega)
              · exact fin 3 r6 rfl r60 r61
            refine ⟨_, rfl, .inl ⟨rfl, _, .of (f3h _)⟩, _, rfl, .inl ⟨rfl, _, .of (f2h _)⟩, _, rfl, _, rfl, sp, _, en, _, rfl, rfl, .of upd_same, ej, al, _, _, j, _, rfl, rfl, f2h _, (nm (by omega)).1, (nm (by omega)).2, by rw [List.length_map]; exact ix_at hj, get_at hj, _, _, rfl, rfl, fo, _, _, rfl, rfl, (by rw [upd_ne nao.symm]; exact f3h _), by rw [List.length_map]; exact zl fdl, ?_⟩
            refine ⟨⟨_, _, _, rfl⟩, fr, av.eraseIdx j, fd ++ [-av[j]], ⟨?_, ?_, ?_, ?_, ?_⟩, g.stop hj, ?_, frl⟩
            · rw [upd_ne nlo, upd_ne nla]
              exact f1h _
            · rw [upd_ne nao, upd_same, erase_map]
            · rw [upd_same, List.map_append]
              show some (HO.lst (_ ++ [V.int (0 - av[j])])) = _
              rw [Int.zero_sub]
              rfl
            · exact (((f4h _).upd nals).upd nfos).mono (by omega)
            · exact ((f5h _).mut hal0).mut hfo0
            · rw [List.length_append]
              exact Nat.succ_le_succ ln
    · obtain ⟨⟨y1, y2, y3, rfl⟩, fr, av, fd, ⟨f1, f2, f3, f4, f5⟩, g, ln, frl⟩ := h
      exact ⟨_, rfl, q _ fo fd ⟨g.rng, g.nd, g.ord, by omega⟩ (by omega) f5 (f4.mono (by omega)) hfo0 f3⟩
end
end L04
set_option Elab.async false
set_option linter.all false
set_option maxRecDepth 100000
namespace L04
open PySem PySem.Spec PyProof.Rows L2 Lp
section
variable {P : Program} {w : World} {K : PySem.W.Frag} {mg : Str → Option Value} {base : Heap}
/-! ### _law_equal of equal data -/
/-- data of at most so many levels, its lists of a size -/
def okD : Nat → PyData → Prop
  | _, .none => True
  | _, .bool _ => True
  | _, .int _ => True
  | _, .str _ => True
  | n + 1, .list ds => ds.length < 100000 ∧ ∀ x ∈ ds, okD n x
  | n + 1, .tuple ds => ds.length < 100000 ∧ ∀ x ∈ ds, okD n x
  | _, _ => False
def spEqD (K : PySem.W.Frag) (n : Nat) : Sp := fun vs H Q _ => ∃ (r e : V) (d : PyData), vs = [r, e] ∧ Dp K H r d ∧ Dp K H e d ∧ okD n d ∧ (∀ H', Same H H' → Q (.bl true) H')
theorem ok_law_equal_0 {f : Addr} {fd : FuncData} (F : Fun K "_law_equal" "_law_equal" s_law_equal f fd) (B : NoB mg) :
    FnG P w K mg base CX0 1 f fd ["result", "expected"] (spEqD K 0) := by
  refine okG F sc_law_equal (fun vs H Q E h => ?_) (fun cdv A outer s H vs Q E hG hr h => ?_)
  · obtain ⟨r, e, d, rfl, _⟩ := h
    rfl
  · obtain ⟨r, e, d, rfl, h1, h2, hd, q⟩ := h
    cases h1 with
    | non =>
      cases h2
      refine ⟨_, (pss_cons (ps_if (pt_val (pe_callB call_isiT (by rfl) B.isinstance (by decide +kernel) (pa_cons (pv 1) (pa_cons (pe_tup (pa_cons (pe_bltn (v := .ty "list") (by rfl) B.list boot_list rfl) (pa_cons (pe_bltn (v := .ty "tuple") (by rfl) B.tuple boot_tuple rfl) pa_nil))) pa_nil)))) (pss_cons ps_never (pss_cons ps_never (pss_one ps_never))) pss_nil)
        (pss_cons (ps_if (PW.pt (pw_or (pt_val (pe_callB call_isiT (by rfl) B.isinstance (by decide +kernel) (pa_cons (pv 1) (pa_cons (pe_tup (pa_cons (pe_bltn (v := .ty "bool") (by rfl) B.bool boot_bool rfl) (pa_cons (pe_bltn (v := .ty "str") (by rfl) B.str boot_str rfl) pa_nil))) pa_nil)))) (pw_or1 (pt_cmpR op_isN (pv 1) pe_non (nomark _))))) (pss_one (ps_ret (pe_and (pe_cmpR op_eq (pe_callB call_isi (by rfl) B.isinstance (by decide +kernel) (pa_cons (pv 0) (pa_cons (pe_bltn (v := .ty "bool") (by rfl) B.bool boot_bool rfl) pa_nil))) (pe_callB call_isi (by rfl) B.isinstance (by decide +kernel) (pa_cons (pv 1) (pa_cons (pe_bltn (v := .ty "bool") (by rfl) B.bool boot_bool rfl) pa_nil))) (nomark _)) (pe_one (pe_cmpR op_eq (pv 0) (pv 1) (nomark _)))))) pss_nil)
        (pss_one (ps_ret (pe_and (pe_callB call_isi (by rfl) B.isinstance (by decide +kernel) (pa_cons (pv 0) (pa_cons (pe_bltn (v := .ty "int") (by rfl) B.int boot_int rfl) pa_nil))) (pe_and (pe_not (pe_callB call_isi (by rfl) B.isinstance (by decide +kernel) (pa_cons (pv 0) (pa_cons (pe_bltn (v := .ty "bool") (by rfl) B.bool boot_bool rfl) pa_nil)))) (pe_one (pe_cmpR op_eq (pv 0) (pv 1) (nomark _))))))))), ?_⟩
      refine ⟨_, rfl, by show 2 ≤ sizeLine; decide, fun T nT => ?_⟩
      refine ⟨_, T, _, _, _, false, rfl, upd_same, .cons (.ty _) (.cons (.ty _) .nil), .base .non, kitA (kit_ty (by decide +kernel)) (kit_ty (by decide +kernel)), false, rfl, ?_⟩
      refine ⟨_, rfl, by show 2 ≤ sizeLine; decide, fun T2 nT2 => ?_⟩
      have s2 := (same_new (o := .tup [.ty "list", .ty "tuple"]) nT).trans (same_new (o := .tup [.ty "bool", .ty "str"]) nT2)
      refine ⟨_, T2, _, _, _, false, rfl, upd_same, .cons (.ty _) (.cons (.ty _) .nil), .base .non, kitA (kit_ty (by decide +kernel)) (kit_ty (by decide +kernel)), false, rfl, _, rfl, rfl, true, rfl, ?_⟩
      refine ⟨_, rfl, _, _, _, _, false, rfl, .ty _, .base .non, kit_ty (by decide +kernel), _, rfl, _, _, _, _, false, rfl, .ty _, .base .non, kit_ty (by decide +kernel), rfl, true, dT rfl, ?_⟩
      refine ⟨_, rfl, _, rfl, rfl, ?_⟩
      rw [decide_eq_true rfl]
      exact q _ s2
    | bl b =>
      cases h2
      refine ⟨_, (pss_cons (ps_if (pt_val (pe_callB call_isiT (by rfl) B.isinstance (by decide +kernel) (pa_cons (pv 1) (pa_cons (pe_tup (pa_cons (pe_bltn (v := .ty "list") (by rfl) B.list boot_list rfl) (pa_cons (pe_bltn (v := .ty "tuple") (by rfl) B.tuple boot_tuple rfl) pa_nil))) pa_nil)))) (pss_cons ps_never (pss_cons ps_never (pss_one ps_never))) pss_nil)
        (pss_cons (ps_if (PW.pt (pw_or (pt_val (pe_callB call_isiT (by rfl) B.isinstance (by decide +kernel) (pa_cons (pv 1) (pa_cons (pe_tup (pa_cons (pe_bltn (v := .ty "bool") (by rfl) B.bool boot_bool rfl) (pa_cons (pe_bltn (v := .ty "str") (by rfl) B.str boot_str rfl) pa_nil))) pa_nil)))) (pw_or1 (pt_cmpR op_isN (pv 1) pe_non (nomark _))))) (pss_one (ps_ret (pe_and (pe_cmpR op_eq (pe_callB call_isi (by rfl) B.isinstance (by decide +kernel) (pa_cons (pv 0) (pa_cons (pe_bltn (v := .ty "bool") (by rfl) B.bool boot_bool rfl) pa_nil))) (pe_callB call_isi (by rfl) B.isinstance (by decide +kernel) (pa_cons (pv 1) (pa_cons (pe_bltn (v := .ty "bool") (by rfl) B.bool boot_bool rfl) pa_nil))) (nomark _)) (pe_one (pe_cmpR op_eq (pv 0) (pv 1) (nomark _)))))) pss_nil)
        (pss_one (ps_ret (pe_and (pe_callB call_isi (by rfl) B.isinstance (by decide +kernel) (pa_cons (pv 0) (pa_cons (pe_bltn (v := .ty "int") (by rfl) B.int boot_int rfl) pa_nil))) (pe_and (pe_not (pe_callB call_isi (by rfl) B.isinstance (by decide +kernel) (pa_cons (pv 0) (pa_cons (pe_bltn (v := .ty "bool") (by rfl) B.bool boot_bool rfl) pa_nil)))) (pe_one (pe_cmpR op_eq (pv 0) (pv 1) (nomark _))))))))), ?_⟩
      refine ⟨_, rfl, by show 2 ≤ sizeLine; decide, fun T nT => ?_⟩
      refine ⟨_, T, _, _, _, false, rfl, upd_same, .cons (.ty _) (.cons (.ty _) .nil), .base (.bl b), kitA (kit_ty (by decide +kernel)) (kit_ty (by decide +kernel)), false, rfl, ?_⟩
      refine ⟨_, rfl, by show 2 ≤ sizeLine; decide, fun T2 nT2 => ?_⟩
      have s2 := (same_new (o := .tup [.ty "list", .ty "tuple"]) nT).trans (same_new (o := .tup [.ty "bool", .ty "str"]) nT2)
      refine ⟨_, T2, _, _, _, true, rfl, upd_same, .cons (.ty _) (.cons (.ty _) .nil), .base (.bl b), kitT (kit_ty (by decide +kernel)), true, rfl, ?_⟩
      refine ⟨_, rfl, _, _, _, _, true, rfl, .ty _, .base (.bl b), kit_ty (by decide +kernel), _, rfl, _, _, _, _, true, rfl, .ty _, .base (.bl b), kit_ty (by decide +kernel), rfl, true, dT rfl, ?_⟩
      refine ⟨_, rfl, _, rfl, rfl, ?_⟩
      rw [decide_eq_true rfl]
      exact q _ s2
    | int i =>
      cases h2
      refine ⟨_, (pss_cons (ps_if (pt_val (pe_callB call_isiT (by rfl) B.isinstance (by decide +kernel) (pa_cons (pv 1) (pa_cons (pe_tup (pa_cons (pe_bltn (v := .ty "list") (by rfl) B.list boot_list rfl) (pa_cons (pe_bltn (v := .ty "tuple") (by rfl) B.tuple boot_tuple rfl) pa_nil))) pa_nil)))) (pss_cons ps_never (pss_cons ps_never (pss_one ps_never))) pss_nil)
        (pss_cons (ps_if (PW.pt (pw_or (pt_val (pe_callB call_isiT (by rfl) B.isinstance (by decide +kernel) (pa_cons (pv 1) (pa_cons (pe_tup (pa_cons (pe_bltn (v := .ty "bool") (by rfl) B.bool boot_bool rfl) (pa_cons (pe_bltn (v := .ty "str") (by rfl) B.str boot_str rfl) pa_nil))) pa_nil)))) (pw_or1 (pt_cmpR op_isN (pv 1) pe_non (nomark _))))) (pss_one (ps_ret (pe_and (pe_cmpR op_eq (pe_callB call_isi (by rfl) B.isinstance (by decide +kernel) (pa_cons (pv 0) (pa_cons (pe_bltn (v := .ty "bool") (by rfl) B.bool boot_bool rfl) pa_nil))) (pe_callB call_isi (by rfl) B.isinstance (by decide +kernel) (pa_cons (pv 1) (pa_cons (pe_bltn (v := .ty "bool") (by rfl) B.bool boot_bool rfl) pa_nil))) (nomark _)) (pe_one (pe_cmpR op_eq (pv 0) (pv 1) (nomark _)))))) pss_nil)
        (pss_one (ps_ret (pe_and (pe_callB call_isi (by rfl) B.isinstance (by decide +kernel) (pa_cons (pv 0) (pa_cons (pe_bltn (v := .ty "int") (by rfl) B.int boot_int rfl) pa_nil))) (pe_and (pe_not (pe_callB call_isi (by rfl) B.isinstance (by decide +kernel) (pa_cons (pv 0) (pa_cons (pe_bltn (v := .ty "bool") (by rfl) B.bool boot_bool rfl) pa_nil)))) (pe_one (pe_cmpR op_eq (pv 0) (pv 1) (nomark _))))))))), ?_⟩
      refine ⟨_, rfl, by show 2 ≤ sizeLine; decide, fun T nT => ?_⟩
      refine ⟨_, T, _, _, _, false, rfl, upd_same, .cons (.ty _) (.cons (.ty _) .nil), .base (.int i), kitA (kit_ty (by decide +kernel)) (kit_ty (by decide +kernel)), false, rfl, ?_⟩
      refine ⟨_, rfl, by show 2 ≤ sizeLine; decide, fun T2 nT2 => ?_⟩
      have s2 := (same_new (o := .tup [.ty "list", .ty "tuple"]) nT).trans (same_new (o := .tup [.ty "bool", .ty "str"]) nT2)
      refine ⟨_, T2, _, _, _, false, rfl, upd_same, .cons (.ty _) (.cons (.ty _) .nil), .base (.int i), kitA (kit_ty (by decide +kernel)) (kit_ty (by decide +kernel)), false, rfl, _, rfl, rfl, false, dF (fun z => nomatch z), ?_⟩
      refine ⟨_, rfl, _, _, _, _, true, rfl, .ty _, .base (.int i), kit_ty (by decide +kernel), true, rfl, ?_⟩
      refine ⟨_, rfl, _, _, _, _, false, rfl, .ty _, .base (.int i), kit_ty (by decide +kernel), false, rfl, true, rfl, ?_⟩
      refine ⟨_, rfl, _, rfl, rfl, ?_⟩
      rw [decide_eq_true rfl]
      exact q _ s2
    | str x =>
      cases h2
      refine ⟨_, (pss_cons (ps_if (pt_val (pe_callB call_isiT (by rfl) B.isinstance (by decide +kernel) (pa_cons (pv 1) (pa_cons (pe_tup (pa_cons (pe_bltn (v := .ty "list") (by rfl) B.list boot_list rfl) (pa_cons (pe_bltn (v := .ty "tuple") (by rfl) B.tuple boot_tuple rfl) pa_nil))) pa_nil)))) (pss_cons ps_never (pss_cons ps_never (pss_one ps_never))) pss_nil)
        (pss_cons (ps_if (PW.pt (pw_or (pt_val (pe_callB call_isiT (by rfl) B.isinstance (by decide +kernel) (pa_cons (pv 1) (pa_cons (pe_tup (pa_cons (pe_bltn (v := .ty "bool") (by rfl) B.bool boot_bool rfl) (pa_cons (pe_bltn (v := .ty "str") (by rfl) B.str boot_str rfl) pa_nil))) pa_nil)))) (pw_or1 (pt_cmpR op_isN (pv 1) pe_non (nomark _))))) (pss_one (ps_ret (pe_and (pe_cmpR op_eq (pe_callB call_isi (by rfl) B.isinstance (by decide +kernel) (pa_cons (pv 0) (pa_cons (pe_bltn (v := .ty "bool") (by rfl) B.bool boot_bool rfl) pa_nil))) (pe_callB call_isi (by rfl) B.isinstance (by decide +kernel) (pa_cons (pv 1) (pa_cons (pe_bltn (v := .ty "bool") (by rfl) B.bool boot_bool rfl) pa_nil))) (nomark _)) (pe_one (pe_cmpR op_eq (pv 0) (pv 1) (nomark _)))))) pss_nil)
        (pss_one (ps_ret (pe_and (pe_callB call_isi (by rfl) B.isinstance (by decide +kernel) (pa_cons (pv 0) (pa_cons (pe_bltn (v := .ty "int") (by rfl) B.int boot_int rfl) pa_nil))) (pe_and (pe_not (pe_callB call_isi (by rfl) B.isinstance (by decide +kernel) (pa_cons (pv 0) (pa_cons (pe_bltn (v := .ty "bool") (by rfl) B.bool boot_bool rfl) pa_nil)))) (pe_one (pe_cmpR op_eq (pv 0) (pv 1) (nomark _))))))))), ?_⟩
      refine ⟨_, rfl, by show 2 ≤ sizeLine; decide, fun T nT => ?_⟩
      refine ⟨_, T, _, _, _, false, rfl, upd_same, .cons (.ty _) (.cons (.ty _) .nil), .base (.str x), kitA (kit_ty (by decide +kernel)) (kit_ty (by decide +kernel)), false, rfl, ?_⟩
      refine ⟨_, rfl, by show 2 ≤ sizeLine; decide, fun T2 nT2 => ?_⟩
      have s2 := (same_new (o := .tup [.ty "list", .ty "tuple"]) nT).trans (same_new (o := .tup [.ty "bool", .ty "str"]) nT2)
      refine ⟨_, T2, _, _, _, true, rfl, upd_same, .cons (.ty _) (.cons (.ty _) .nil), .base (.str x), kitA (kit_ty (by decide +kernel)) (kit_ty (by decide +kernel)), true, rfl, ?_⟩
      refine ⟨_, rfl, _, _, _, _, false, rfl, .ty _, .base (.str x), kit_ty (by decide +kernel), _, rfl, _, _, _, _, false, rfl, .ty _, .base (.str x), kit_ty (by decide +kernel), rfl, true, dT rfl, ?_⟩
      refine ⟨_, rfl, _, rfl, rfl, ?_⟩
      rw [decide_eq_true rfl]
      exact q _ s2
    | @lst a xs ds hs ha => exact hd.elim
    | @tup a xs ds hs ha => exact hd.elim
theorem ok_law_equal_step {f : Addr} {fd : FuncData} (F : Fun K "_law_equal" "_law_equal" s_law_equal f fd) (B : NoB mg) (n : Nat) (T_law_equal : Gc P w K mg base n "_law_equal" (spEqD K (n - 1))) :
    FnG P w K mg base CX0 (n + 1) f fd ["result", "expected"] (spEqD K n) := by
  refine okG F sc_law_equal (fun vs H Q E h => ?_) (fun cdv A outer s H vs Q E hG hr h => ?_)
  · obtain ⟨r, e, d, rfl, _⟩ := h
    rfl
  · obtain ⟨r, e, d, rfl, h1, h2, hd, q⟩ := h
    have el : PySem.W.kitOne K (.type "list") (.type "list") = some true := kit_ty (by decide +kernel)
    have tl : PySem.W.kitOne K (.type "tuple") (.type "list") = some false := kit_ty (by decide +kernel)
    have tt : PySem.W.kitOne K (.type "tuple") (.type "tuple") = some true := kit_ty (by decide +kernel)
    cases h1 with
    | non =>
      cases h2
      refine ⟨_, (pss_cons (ps_if (pt_val (pe_callB call_isiT (by rfl) B.isinstance (by decide +kernel) (pa_cons (pv 1) (pa_cons (pe_tup (pa_cons (pe_bltn (v := .ty "list") (by rfl) B.list boot_list rfl) (pa_cons (pe_bltn (v := .ty "tuple") (by rfl) B.tuple boot_tuple rfl) pa_nil))) pa_nil)))) (pss_cons ps_never (pss_cons ps_never (pss_one ps_never))) pss_nil)
        (pss_cons (ps_if (PW.pt (pw_or (pt_val (pe_callB call_isiT (by rfl) B.isinstance (by decide +kernel) (pa_cons (pv 1) (pa_cons (pe_tup (pa_cons (pe_bltn (v := .ty "bool") (by rfl) B.bool boot_bool rfl) (pa_cons (pe_bltn (v := .ty "str") (by rfl) B.str boot_str rfl) pa_nil))) pa_nil)))) (pw_or1 (pt_cmpR op_isN (pv 1) pe_non (nomark _))))) (pss_one (ps_ret (pe_and (pe_cmpR op_eq (pe_callB call_isi (by rfl) B.isinstance (by decide +kernel) (pa_cons (pv 0) (pa_cons (pe_bltn (v := .ty "bool") (by rfl) B.bool boot_bool rfl) pa_nil))) (pe_callB call_isi (by rfl) B.isinstance (by decide +kernel) (pa_cons (pv 1) (pa_cons (pe_bltn (v := .ty "bool") (by rfl) B.bool boot_bool rfl) pa_nil))) (nomark _)) (pe_one (pe_cmpR op_eq (pv 0) (pv 1) (nomark _)))))) pss_nil)
        (pss_one (ps_ret (pe_and (pe_callB call_isi (by rfl) B.isinstance (by decide +kernel) (pa_cons (pv 0) (pa_cons (pe_bltn (v := .ty "int") (by rfl) B.int boot_int rfl) pa_nil))) (pe_and (pe_not (pe_callB call_isi (by rfl) B.isinstance (by decide +kernel) (pa_cons (pv 0) (pa_cons (pe_bltn (v := .ty "bool") (by rfl) B.bool boot_bool rfl) pa_nil)))) (pe_one (pe_cmpR op_eq (pv 0) (pv 1) (nomark _))))))))), ?_⟩
      refine ⟨_, rfl, by show 2 ≤ sizeLine; decide, fun T nT => ?_⟩
      refine ⟨_, T, _, _, _, false, rfl, upd_same, .cons (.ty _) (.cons (.ty _) .nil), .base .non, kitA (kit_ty (by decide +kernel)) (kit_ty (by decide +kernel)), false, rfl, ?_⟩
      refine ⟨_, rfl, by show 2 ≤ sizeLine; decide, fun T2 nT2 => ?_⟩
      have s2 := (same_new (o := .tup [.ty "list", .ty "tuple"]) nT).trans (same_new (o := .tup [.ty "bool", .ty "str"]) nT2)
      refine ⟨_, T2, _, _, _, false, rfl, upd_same, .cons (.ty _) (.cons (.ty _) .nil), .base .non, kitA (kit_ty (by decide +kernel)) (kit_ty (by decide +kernel)), false, rfl, _, rfl, rfl, true, rfl, ?_⟩
      refine ⟨_, rfl, _, _, _, _, false, rfl, .ty _, .base .non, kit_ty (by decide +kernel), _, rfl, _, _, _, _, false, rfl, .ty _, .base .non, kit_ty (by decide +kernel), rfl, true, dT rfl, ?_⟩
      refine ⟨_, rfl, _, rfl, rfl, ?_⟩
      rw [decide_eq_true rfl]
      exact q _ s2
    | bl b =>
      cases h2
      refine ⟨_, (pss_cons (ps_if (pt_val (pe_callB call_isiT (by rfl) B.isinstance (by decide +kernel) (pa_cons (pv 1) (pa_cons (pe_tup (pa_cons (pe_bltn (v := .ty "list") (by rfl) B.list boot_list rfl) (pa_cons (pe_bltn (v := .ty "tuple") (by rfl) B.tuple boot_tuple rfl) pa_nil))) pa_nil)))) (pss_cons ps_never (pss_cons ps_never (pss_one ps_never))) pss_nil)
        (pss_cons (ps_if (PW.pt (pw_or (pt_val (pe_callB call_isiT (by rfl) B.isinstance (by decide +kernel) (pa_cons (pv 1) (pa_cons (pe_tup (pa_cons (pe_bltn (v := .ty "bool") (by rfl) B.bool boot_bool rfl) (pa_cons (pe_bltn (v := .ty "str") (by rfl) B.str boot_str rfl) pa_nil))) pa_nil)))) (pw_or1 (pt_cmpR op_isN (pv 1) pe_non (nomark _))))) (pss_one (ps_ret (pe_and (pe_cmpR op_eq (pe_callB call_isi (by rfl) B.isinstance (by decide +kernel) (pa_cons (pv 0) (pa_cons (pe_bltn (v := .ty "bool") (by rfl) B.bool boot_bool rfl) pa_nil))) (pe_callB call_isi (by rfl) B.isinstance (by decide +kernel) (pa_cons (pv 1) (pa_cons (pe_bltn (v := .ty "bool") (by rfl) B.bool boot_bool rfl) pa_nil))) (nomark _)) (pe_one (pe_cmpR op_eq (pv 0) (pv 1) (nomark _)))))) pss_nil)
        (pss_one (ps_ret (pe_and (pe_callB call_isi (by rfl) B.isinstance (by decide +kernel) (pa_cons (pv 0) (pa_cons (pe_bltn (v := .ty "int") (by rfl) B.int boot_int rfl) pa_nil))) (pe_and (pe_not (pe_callB call_isi (by rfl) B.isinstance (by decide +kernel) (pa_cons (pv 0) (pa_cons (pe_bltn (v := .ty "bool") (by rfl) B.bool boot_bool rfl) pa_nil)))) (pe_one (pe_cmpR op_eq (pv 0) (pv 1) (nomark _))))))))), ?_⟩
      refine ⟨_, rfl, by show 2 ≤ sizeLine; decide, fun T nT => ?_⟩
      refine ⟨_, T, _, _, _, false, rfl, upd_same, .cons (.ty _) (.cons (.ty _) .nil), .base (.bl b), kitA (kit_ty (by decide +kernel)) (kit_ty (by decide +kernel)), false, rfl, ?_⟩
      refine ⟨_, rfl, by show 2 ≤ sizeLine; decide, fun T2 nT2 => ?_⟩
      have s2 := (same_new (o := .tup [.ty "list", .ty "tuple"]) nT).trans (same_new (o := .tup [.ty "bool", .ty "str"]) nT2)
      refine ⟨_, T2, _, _, _, true, rfl, upd_same, .cons (.ty _) (.cons (.ty _) .nil), .base (.bl b), kitT (kit_ty (by decide +kernel)), true, rfl, ?_⟩
      refine ⟨_, rfl, _, _, _, _, true, rfl, .ty _, .base (.bl b), kit_ty (by decide +kernel), _, rfl, _, _, _, _, true, rfl, .ty _, .base (.bl b), kit_ty (by decide +kernel), rfl, true, dT rfl, ?_⟩
      refine ⟨_, rfl, _, rfl, rfl, ?_⟩
      rw [decide_eq_true rfl]
      exact q _ s2
    | int i =>
      cases h2
      refine ⟨_, (pss_cons (ps_if (pt_val (pe_callB call_isiT (by rfl) B.isinstance (by decide +kernel) (pa_cons (pv 1) (pa_cons (pe_tup (pa_cons (pe_bltn (v := .ty "list") (by rfl) B.list boot_list rfl) (pa_cons (pe_bltn (v := .ty "tuple") (by rfl) B.tuple boot_tuple rfl) pa_nil))) pa_nil)))) (pss_cons ps_never (pss_cons ps_never (pss_one ps_never))) pss_nil)
        (pss_cons (ps_if (PW.pt (pw_or (pt_val (pe_callB call_isiT (by rfl) B.isinstance (by decide +kernel) (pa_cons (pv 1) (pa_cons (pe_tup (pa_cons (pe_bltn (v := .ty "bool") (by rfl) B.bool boot_bool rfl) (pa_cons (pe_bltn (v := .ty "str") (by rfl) B.str boot_str rfl) pa_nil))) pa_nil)))) (pw_or1 (pt_cmpR op_isN (pv 1) pe_non (nomark _))))) (pss_one (ps_ret (pe_and (pe_cmpR op_eq (pe_callB call_isi (by rfl) B.isinstance (by decide +kernel) (pa_cons (pv 0) (pa_cons (pe_bltn (v := .ty "bool") (by rfl) B.bool boot_bool rfl) pa_nil))) (pe_callB call_isi (by rfl) B.isinstance (by decide +kernel) (pa_cons (pv 1) (pa_cons (pe_bltn (v := .ty "bool") (by rfl) B.bool boot_bool rfl) pa_nil))) (nomark _)) (pe_one (pe_cmpR op_eq (pv 0) (pv 1) (nomark _)))))) pss_nil)
        (pss_one (ps_ret (pe_and (pe_callB call_isi (by rfl) B.isinstance (by decide +kernel) (pa_cons (pv 0) (pa_cons (pe_bltn (v := .ty "int") (by rfl) B.int boot_int rfl) pa_nil))) (pe_and (pe_not (pe_callB call_isi (by rfl) B.isinstance (by decide +kernel) (pa_cons (pv 0) (pa_cons (pe_bltn (v := .ty "bool") (by rfl) B.bool boot_bool rfl) pa_nil)))) (pe_one (pe_cmpR op_eq (pv 0) (pv 1) (nomark _))))))))), ?_⟩
      refine ⟨_, rfl, by show 2 ≤ sizeLine; decide, fun T nT => ?_⟩
      refine ⟨_, T, _, _, _, false, rfl, upd_same, .cons (.ty _) (.cons (.ty _) .nil), .base (.int i), kitA (kit_ty (by decide +kernel)) (kit_ty (by decide +kernel)), false, rfl, ?_⟩
      refine ⟨_, rfl, by show 2 ≤ sizeLine; decide, fun T2 nT2 => ?_⟩
      have s2 := (same_new (o := .tup [.ty "list", .ty "tuple"]) nT).trans (same_new (o := .tup [.ty "bool", .ty "str"]) nT2)
      refine ⟨_, T2, _, _, _, false, rfl, upd_same, .cons (.ty _) (.cons (.ty _) .nil), .base (.int i), kitA (kit_ty (by decide +kernel)) (kit_ty (by decide +kernel)), false, rfl, _, rfl, rfl, false, dF (fun z => nomatch z), ?_⟩
      refine ⟨_, rfl, _, _, _, _, true, rfl, .ty _, .base (.int i), kit_ty (by decide +kernel), true, rfl, ?_⟩
      refine ⟨_, rfl, _, _, _, _, false, rfl, .ty _, .base (.int i), kit_ty (by decide +kernel), false, rfl, true, rfl, ?_⟩
      refine ⟨_, rfl, _, rfl, rfl, ?_⟩
      rw [decide_eq_true rfl]
      exact q _ s2
    | str x =>
      cases h2
      refine ⟨_, (pss_cons (ps_if (pt_val (pe_callB call_isiT (by rfl) B.isinstance (by decide +kernel) (pa_cons (pv 1) (pa_cons (pe_tup (pa_cons (pe_bltn (v := .ty "list") (by rfl) B.list boot_list rfl) (pa_cons (pe_bltn (v := .ty "tuple") (by rfl) B.tuple boot_tuple rfl) pa_nil))) pa_nil)))) (pss_cons ps_never (pss_cons ps_never (pss_one ps_never))) pss_nil)
        (pss_cons (ps_if (PW.pt (pw_or (pt_val (pe_callB call_isiT (by rfl) B.isinstance (by decide +kernel) (pa_cons (pv 1) (pa_cons (pe_tup (pa_cons (pe_bltn (v := .ty "bool") (by rfl) B.bool boot_bool rfl) (pa_cons (pe_bltn (v := .ty "str") (by rfl) B.str boot_str rfl) pa_nil))) pa_nil)))) (pw_or1 (pt_cmpR op_isN (pv 1) pe_non (nomark _))))) (pss_one (ps_ret (pe_and (pe_cmpR op_eq (pe_callB call_isi (by rfl) B.isinstance (by decide +kernel) (pa_cons (pv 0) (pa_cons (pe_bltn (v := .ty "bool") (by rfl) B.bool boot_bool rfl) pa_nil))) (pe_callB call_isi (by rfl) B.isinstance (by decide +kernel) (pa_cons (pv 1) (pa_cons (pe_bltn (v := .ty "bool") (by rfl) B.bool boot_bool rfl) pa_nil))) (nomark _)) (pe_one (pe_cmpR op_eq (pv 0) (pv 1) (nomark _)))))) pss_nil)
        (pss_one (ps_ret (pe_and (pe_callB call_isi (by rfl) B.isinstance (by decide +kernel) (pa_cons (pv 0) (pa_cons (pe_bltn (v := .ty "int") (by rfl) B.int boot_int rfl) pa_nil))) (pe_and (pe_not (pe_callB call_isi (by rfl) B.isinstance (by decide +kernel) (pa_cons (pv 0) (pa_cons (pe_bltn (v := .ty "bool") (by rfl) B.bool boot_bool rfl) pa_nil)))) (pe_one (pe_cmpR op_eq (pv 0) (pv 1) (nomark _))))))))), ?_⟩
      refine ⟨_, rfl, by show 2 ≤ sizeLine; decide, fun T nT => ?_⟩
      refine ⟨_, T, _, _, _, false, rfl, upd_same, .cons (.ty _) (.cons (.ty _) .nil), .base (.str x), kitA (kit_ty (by decide +kernel)) (kit_ty (by decide +kernel)), false, rfl, ?_⟩
      refine ⟨_, rfl, by show 2 ≤ sizeLine; decide, fun T2 nT2 => ?_⟩
      have s2 := (same_new (o := .tup [.ty "list", .ty "tuple"]) nT).trans (same_new (o := .tup [.ty "bool", .ty "str"]) nT2)
      refine ⟨_, T2, _, _, _, true, rfl, upd_same, .cons (.ty _) (.cons (.ty _) .nil), .base (.str x), kitA (kit_ty (by decide +kernel)) (kit_ty (by decide +kernel)), true, rfl, ?_⟩
      refine ⟨_, rfl, _, _, _, _, false, rfl, .ty _, .base (.str x), kit_ty (by decide +kernel), _, rfl, _, _, _, _, false, rfl, .ty _, .base (.str x), kit_ty (by decide +kernel), rfl, true, dT rfl, ?_⟩
      refine ⟨_, rfl, _, rfl, rfl, ?_⟩
      rw [decide_eq_true rfl]
      exact q _ s2
    | @lst a xs ds hs ha =>
      cases h2 with
      | @lst b ys _ hs2 ha2 =>
      obtain ⟨dsl, dsm⟩ : ds.length < 100000 ∧ ∀ x ∈ ds, okD (n - 1) x := by
        cases n with
        | zero => exact hd.elim
        | succ m => exact hd
      have l1 := dpAll_len ha
      have l2 := dpAll_len ha2
      refine ⟨_, (pss_cons (ps_if (pt_val (pe_callB call_isiT (by rfl) B.isinstance (by decide +kernel) (pa_cons (pv 1) (pa_cons (pe_tup (pa_cons (pe_bltn (v := .ty "list") (by rfl) B.list boot_list rfl) (pa_cons (pe_bltn (v := .ty "tuple") (by rfl) B.tuple boot_tuple rfl) pa_nil))) pa_nil)))) (pss_cons (ps_if (PW.pt (pw_or (pt_not (pt_val (pe_callB call_isiT (by rfl) B.isinstance (by decide +kernel) (pa_cons (pv 0) (pa_cons (pe_tup (pa_cons (pe_bltn (v := .ty "list") (by rfl) B.list boot_list rfl) (pa_cons (pe_bltn (v := .ty "tuple") (by rfl) B.tuple boot_tuple rfl) pa_nil))) pa_nil))))) (pw_or1 (pt_cmpR op_ne (pe_callB call_len_seq (by rfl) B.len PySem.boot_len (pa_cons (pv 0) pa_nil)) (pe_callB call_len_seq (by rfl) B.len PySem.boot_len (pa_cons (pv 1) pa_nil)) (nomark _))))) (pss_one (ps_ret pe_bl)) pss_nil)
          (pss_cons (ps_if (pt_cmpR op_ne (pe_callB call_isi (by rfl) B.isinstance (by decide +kernel) (pa_cons (pv 0) (pa_cons (pe_bltn (v := .ty "list") (by rfl) B.list boot_list rfl) pa_nil))) (pe_callB call_isi (by rfl) B.isinstance (by decide +kernel) (pa_cons (pv 1) (pa_cons (pe_bltn (v := .ty "list") (by rfl) B.list boot_list rfl) pa_nil))) (nomark _)) (pss_one (ps_ret pe_bl)) pss_nil)
          (pss_one (ps_ret (pe_callB (cr_all rfl) (by rfl) B.all (by decide +kernel) (pa_cons (pe_lc (own := [("one", 2), ("other", 3)]) (g := _) (tt := tYes) rfl sc_law_equal.nd (RZ.pi_zipA (by rfl) B.zip (pa_cons (pv 0) (pa_cons (pv 1) pa_nil))) (blkOk_by (own := [("one", 2), ("other", 3)]) (N := N_law_equal) (sc := defScope s_law_equal) (by decide +kernel)) (fun _ _ _ _ _ => (k_tup (K := K) (n := 2) rfl rfl (pgs_cons (pg_name (i := 2) sc_law_equal.nd rfl (Or.inl rfl)) (pgs_cons (pg_name (i := 3) sc_law_equal.nd rfl (Or.inl rfl)) pgs_nil)))) (fun _ _ _ _ _ => pts_nil) (fun _ _ _ _ _ => (pe_g T_law_equal hG hr (Nat.le_refl _) (by rfl) (pa_cons (pv 2) (pa_cons (pv 3) pa_nil))))) pa_nil)))))) pss_nil)
        (pss_cons (ps_if (PW.pt (pw_or (pt_val (pe_callB call_isiT (by rfl) B.isinstance (by decide +kernel) (pa_cons (pv 1) (pa_cons (pe_tup (pa_cons (pe_bltn (v := .ty "bool") (by rfl) B.bool boot_bool rfl) (pa_cons (pe_bltn (v := .ty "str") (by rfl) B.str boot_str rfl) pa_nil))) pa_nil)))) (pw_or1 (pt_cmpR op_isN (pv 1) pe_non (nomark _))))) (pss_one (ps_ret (pe_and (pe_cmpR op_eq (pe_callB call_isi (by rfl) B.isinstance (by decide +kernel) (pa_cons (pv 0) (pa_cons (pe_bltn (v := .ty "bool") (by rfl) B.bool boot_bool rfl) pa_nil))) (pe_callB call_isi (by rfl) B.isinstance (by decide +kernel) (pa_cons (pv 1) (pa_cons (pe_bltn (v := .ty "bool") (by rfl) B.bool boot_bool rfl) pa_nil))) (nomark _)) (pe_one (pe_cmpR op_eq (pv 0) (pv 1) (nomark _)))))) pss_nil)
        (pss_one (ps_ret (pe_and (pe_callB call_isi (by rfl) B.isinstance (by decide +kernel) (pa_cons (pv 0) (pa_cons (pe_bltn (v := .ty "int") (by rfl) B.int boot_int rfl) pa_nil))) (pe_and (pe_not (pe_callB call_isi (by rfl) B.isinstance (by decide +kernel) (pa_cons (pv 0) (pa_cons (pe_bltn (v := .ty "bool") (by rfl) B.bool boot_bool rfl) pa_nil)))) (pe_one (pe_cmpR op_eq (pv 0) (pv 1) (nomark _))))))))), ?_⟩
      refine ⟨_, rfl, by show 2 ≤ sizeLine; decide, fun T nT => ?_⟩
      have s1 := same_new (o := .tup [.ty "list", .ty "tuple"]) nT
      refine ⟨_, T, _, _, _, true, rfl, upd_same, .cons (.ty _) (.cons (.ty _) .nil), tyx_l (s1.seq hs2), kitT el, true, rfl, ?_⟩
      refine ⟨_, rfl, by show 2 ≤ sizeLine; decide, fun T2 nT2 => ?_⟩
      have s2 := s1.trans (same_new (o := .tup [.ty "list", .ty "tuple"]) nT2)
      refine ⟨_, T2, _, _, _, true, rfl, upd_same, .cons (.ty _) (.cons (.ty _) .nil), tyx_l (s2.seq hs), kitT el, true, rfl, ?_⟩
      refine ⟨_, rfl, a, _, rfl, .inl (s2.seq hs), _, rfl, b, _, rfl, .inl (s2.seq hs2), rfl, false, nF (by rw [l1, l2]), ?_⟩
      refine ⟨_, rfl, _, _, _, _, true, rfl, .ty _, tyx_l (s2.seq hs), el, _, rfl, _, _, _, _, true, rfl, .ty _, tyx_l (s2.seq hs2), el, rfl, false, nF rfl, ?_⟩
      refine ⟨_, rfl, _, rfl, a, b, xs, ys, rfl, .inl ⟨s2.seq hs, s2.seq hs2, fun D nD => lc_zipL (l1.trans l2.symm) (LcP (upd (upd H T (.tup [.ty "list", .ty "tuple"])) T2 (.tup [.ty "list", .ty "tuple"])) D fun i => (List.replicate i true).map V.bl) (.init nD rfl) (fun i H' _ p => ⟨p.2.1.seq (s2.seq hs), p.2.1.seq (s2.seq hs2)⟩) (fun i x y T3 H' hx hy nT3 p => ?_) (fun H' p => ?_)⟩⟩
      · obtain ⟨d1, e1, p1⟩ := dpAll_get ha hx
        obtain ⟨d2, e2, p2⟩ := dpAll_get ha2 hy
        rw [e1] at e2
        cases e2
        have s3 : Same H (upd H' T3 (.tup [x, y])) := (s2.trans p.2.1).trans (same_new nT3)
        have dd : okD (n - 1) d1 := dsm d1 (List.mem_of_getElem? e1)
        refine ⟨T3, _, rfl, .of upd_same, rfl, _, _, rfl, _, _, rfl, rfl, rfl, ?_⟩
        refine ⟨_, rfl, _, rfl, x, y, d1, rfl, dp_same s3 p1, dp_same s3 p2, dd, fun H4 s4 => ?_⟩
        refine p.put ((same_new nT3).trans s4) ?_ (by have := lt_get hx; rw [List.length_map, List.length_replicate]; omega)
        show (List.replicate (i + 1) true).map V.bl = _
        rw [List.replicate_succ', List.map_append]
        rfl
      · refine ⟨D, _, rfl, .of p.2.2, ?_⟩
        have e : (List.replicate xs.length true).all id = true := by
          rw [List.all_eq_true]
          intro z hz
          exact (List.eq_of_mem_replicate hz)
        rw [e]
        exact q _ (s2.trans p.2.1)
    | @tup a xs ds hs ha =>
      cases h2 with
      | @tup b ys _ hs2 ha2 =>
      obtain ⟨dsl, dsm⟩ : ds.length < 100000 ∧ ∀ x ∈ ds, okD (n - 1) x := by
        cases n with
        | zero => exact hd.elim
        | succ m => exact hd
      have l1 := dpAll_len ha
      have l2 := dpAll_len ha2
      refine ⟨_, (pss_cons (ps_if (pt_val (pe_callB call_isiT (by rfl) B.isinstance (by decide +kernel) (pa_cons (pv 1) (pa_cons (pe_tup (pa_cons (pe_bltn (v := .ty "list") (by rfl) B.list boot_list rfl) (pa_cons (pe_bltn (v := .ty "tuple") (by rfl) B.tuple boot_tuple rfl) pa_nil))) pa_nil)))) (pss_cons (ps_if (PW.pt (pw_or (pt_not (pt_val (pe_callB call_isiT (by rfl) B.isinstance (by decide +kernel) (pa_cons (pv 0) (pa_cons (pe_tup (pa_cons (pe_bltn (v := .ty "list") (by rfl) B.list boot_list rfl) (pa_cons (pe_bltn (v := .ty "tuple") (by rfl) B.tuple boot_tuple rfl) pa_nil))) pa_nil))))) (pw_or1 (pt_cmpR op_ne (pe_callB call_len_seq (by rfl) B.len PySem.boot_len (pa_cons (pv 0) pa_nil)) (pe_callB call_len_seq (by rfl) B.len PySem.boot_len (pa_cons (pv 1) pa_nil)) (nomark _))))) (pss_one (ps_ret pe_bl)) pss_nil)
          (pss_cons (ps_if (pt_cmpR op_ne (pe_callB call_isi (by rfl) B.isinstance (by decide +kernel) (pa_cons (pv 0) (pa_cons (pe_bltn (v := .ty "list") (by rfl) B.list boot_list rfl) pa_nil))) (pe_callB call_isi (by rfl) B.isinstance (by decide +kernel) (pa_cons (pv 1) (pa_cons (pe_bltn (v := .ty "list") (by rfl) B.list boot_list rfl) pa_nil))) (nomark _)) (pss_one (ps_ret pe_bl)) pss_nil)
          (pss_one (ps_ret (pe_callB (cr_all rfl) (by rfl) B.all (by decide +kernel) (pa_cons (pe_lc (own := [("one", 2), ("other", 3)]) (g := _) (tt := tYes) rfl sc_law_equal.nd (RZ.pi_zipA (by rfl) B.zip (pa_cons (pv 0) (pa_cons (pv 1) pa_nil))) (blkOk_by (own := [("one", 2), ("other", 3)]) (N := N_law_equal) (sc := defScope s_law_equal) (by decide +kernel)) (fun _ _ _ _ _ => (k_tup (K := K) (n := 2) rfl rfl (pgs_cons (pg_name (i := 2) sc_law_equal.nd rfl (Or.inl rfl)) (pgs_cons (pg_name (i := 3) sc_law_equal.nd rfl (Or.inl rfl)) pgs_nil)))) (fun _ _ _ _ _ => pts_nil) (fun _ _ _ _ _ => (pe_g T_law_equal hG hr (Nat.le_refl _) (by rfl) (pa_cons (pv 2) (pa_cons (pv 3) pa_nil))))) pa_nil)))))) pss_nil)
        (pss_cons (ps_if (PW.pt (pw_or (pt_val (pe_callB call_isiT (by rfl) B.isinstance (by decide +kernel) (pa_cons (pv 1) (pa_cons (pe_tup (pa_cons (pe_bltn (v := .ty "bool") (by rfl) B.bool boot_bool rfl) (pa_cons (pe_bltn (v := .ty "str") (by rfl) B.str boot_str rfl) pa_nil))) pa_nil)))) (pw_or1 (pt_cmpR op_isN (pv 1) pe_non (nomark _))))) (pss_one (ps_ret (pe_and (pe_cmpR op_eq (pe_callB call_isi (by rfl) B.isinstance (by decide +kernel) (pa_cons (pv 0) (pa_cons (pe_bltn (v := .ty "bool") (by rfl) B.bool boot_bool rfl) pa_nil))) (pe_callB call_isi (by rfl) B.isinstance (by decide +kernel) (pa_cons (pv 1) (pa_cons (pe_bltn (v := .ty "bool") (by rfl) B.bool boot_bool rfl) pa_nil))) (nomark _)) (pe_one (pe_cmpR op_eq (pv 0) (pv 1) (nomark _)))))) pss_nil)
        (pss_one (ps_ret (pe_and (pe_callB call_isi (by rfl) B.isinstance (by decide +kernel) (pa_cons (pv 0) (pa_cons (pe_bltn (v := .ty "int") (by rfl) B.int boot_int rfl) pa_nil))) (pe_and (pe_not (pe_callB call_isi (by rfl) B.isinstance (by decide +kernel) (pa_cons (pv 0) (pa_cons (pe_bltn (v := .ty "bool") (by rfl) B.bool boot_bool rfl) pa_nil)))) (pe_one (pe_cmpR op_eq (pv 0) (pv 1) (nomark _))))))))), ?_⟩
      refine ⟨_, rfl, by show 2 ≤ sizeLine; decide, fun T nT => ?_⟩
      have s1 := same_new (o := .tup [.ty "list", .ty "tuple"]) nT
      refine ⟨_, T, _, _, _, true, rfl, upd_same, .cons (.ty _) (.cons (.ty _) .nil), tyx_t (seqT s1 hs2), kitA tl tt, true, rfl, ?_⟩
      refine ⟨_, rfl, by show 2 ≤ sizeLine; decide, fun T2 nT2 => ?_⟩
      have s2 := s1.trans (same_new (o := .tup [.ty "list", .ty "tuple"]) nT2)
      refine ⟨_, T2, _, _, _, true, rfl, upd_same, .cons (.ty _) (.cons (.ty _) .nil), tyx_t (seqT s2 hs), kitA tl tt, true, rfl, ?_⟩
      refine ⟨_, rfl, a, _, rfl, .inr (seqT s2 hs), _, rfl, b, _, rfl, .inr (seqT s2 hs2), rfl, false, nF (by rw [l1, l2]), ?_⟩
      refine ⟨_, rfl, _, _, _, _, false, rfl, .ty _, tyx_t (seqT s2 hs), tl, _, rfl, _, _, _, _, false, rfl, .ty _, tyx_t (seqT s2 hs2), tl, rfl, false, nF rfl, ?_⟩
      refine ⟨_, rfl, _, rfl, a, b, xs, ys, rfl, .inr ⟨seqT s2 hs, seqT s2 hs2, fun D nD => lc_zipT (l1.trans l2.symm) (LcP (upd (upd H T (.tup [.ty "list", .ty "tuple"])) T2 (.tup [.ty "list", .ty "tuple"])) D fun i => (List.replicate i true).map V.bl) (.init nD rfl) (fun i H' _ p => ⟨seqT p.2.1 (seqT s2 hs), seqT p.2.1 (seqT s2 hs2)⟩) (fun i x y T3 H' hx hy nT3 p => ?_) (fun H' p => ?_)⟩⟩
      · obtain ⟨d1, e1, p1⟩ := dpAll_get ha hx
        obtain ⟨d2, e2, p2⟩ := dpAll_get ha2 hy
        rw [e1] at e2
        cases e2
        have s3 : Same H (upd H' T3 (.tup [x, y])) := (s2.trans p.2.1).trans (same_new nT3)
        have dd : okD (n - 1) d1 := dsm d1 (List.mem_of_getElem? e1)
        refine ⟨T3, _, rfl, .of upd_same, rfl, _, _, rfl, _, _, rfl, rfl, rfl, ?_⟩
        refine ⟨_, rfl, _, rfl, x, y, d1, rfl, dp_same s3 p1, dp_same s3 p2, dd, fun H4 s4 => ?_⟩
        refine p.put ((same_new nT3).trans s4) ?_ (by have := lt_get hx; rw [List.length_map, List.length_replicate]; omega)
        show (List.replicate (i + 1) true).map V.bl = _
        rw [List.replicate_succ', List.map_append]
        rfl
      · refine ⟨D, _, rfl, .of p.2.2, ?_⟩
        have e : (List.replicate xs.length true).all id = true := by
          rw [List.all_eq_true]
          intro z hz
          exact (List.eq_of_mem_replicate hz)
        rw [e]
        exact q _ (s2.trans p.2.1)
/-- .. for data of at most n levels -/
theorem ok_law_equal_D {f : Addr} {fd : FuncData} (F : Fun K "_law_equal" "_law_equal" s_law_equal f fd) (B : NoB mg) (hm : mg "_law_equal" = some (.ref f)) (b : Binds K fd ["result", "expected"] []) : ∀ n : Nat, FnG P w K mg base CX0 (n + 1) f fd ["result", "expected"] (spEqD K n)
  | 0 => by
    refine ok_law_equal_0 F B
  | n + 1 => ok_law_equal_step F B (n + 1) ⟨f, fd, _, ok_law_equal_D F B hm b n, hm, F.kp, b⟩
end
end L04
set_option Elab.async false
set_option linter.all false
set_option maxRecDepth 100000
namespace L04
open PySem PySem.Spec PyProof.Rows L2 Lp
theorem filt_succ {ns : List Int} {f : Int → Bool} {i : Nat} {e : Int} (h : ns[i]? = some e) : (ns.take (i + 1)).filter f = (ns.take i).filter f ++ if f e = true then [e] else [] := by
  rw [take_get h, List.filter_append, List.filter_cons]
  split <;> rfl
theorem filt_len {ns : List Int} {f : Int → Bool} (i : Nat) : ((ns.take i).filter f).length ≤ i := by
  have a := List.length_filter_le f (ns.take i)
  rw [List.length_take] at a
  omega
def stL (ns : List Int) : List Int := ns.filter fun e => decide (0 < e)
theorem stL_len (ns : List Int) : (stL ns).length ≤ ns.length := List.length_filter_le _ _
theorem stL_nd {ns : List Int} (hh : Hist ns) : (stL ns).Nodup := hh.nd.sublist List.filter_sublist
theorem mem_stL {ns : List Int} {k : Int} (h : k ∈ ns) (h0 : 0 < k) : k ∈ stL ns := List.mem_filter.mpr ⟨h, decide_eq_true h0⟩
def numL (ns : List Int) (k : Int) : Int := (((stL ns).idxOf k : Nat) : Int) + 1
def rnE (ns : List Int) (e : Int) : Int := if 0 < e then numL ns e else -(numL ns (-e))
def rn (ns : List Int) : List Int := ns.map (rnE ns)
theorem idx_get {l : List Int} {k : Int} (h : k ∈ l) : l[l.idxOf k]? = some k := by
  have hi := List.idxOf_lt_length_of_mem h
  rw [List.getElem?_eq_getElem hi]
  exact congrArg some (List.getElem_idxOf hi)
theorem dget {H : Hp} {a : Addr} {kvs : List (Key × V)} {v : Int} {x : V} (h : Rd H a (.dK kvs)) (e : valV kvs (Sum.inl v) = some x) : DGet H a (.int v) (some x) := .inl ⟨kvs, Sum.inl v, h, rfl, e.symm⟩
section
variable {P : Program} {w : World} {K : PySem.W.Frag} {mg : Str → Option Value} {base : Heap}
/-! ### starts_of -/
def spStarts (K : PySem.W.Frag) : Sp := fun vs H Q _ => ∃ (a : Addr) (ns : List Int), vs = [.ref a] ∧ SqL K H a (ns.map V.int) ∧ ns.length ≤ 1000 ∧
  ∀ H' p, Same H H' → H' p = some (.lst ((stL ns).map V.int)) → H p = none → Q (.ref p) H'
theorem ok_starts_of {f : Addr} {fd : FuncData} (F : Fun K "starts_of" "starts_of" s_starts_of f fd) : FnG P w K mg base CX0 1 f fd ["history"] (spStarts K) := by
  refine okG F sc_starts_of (fun vs H Q E h => ?_) (fun cdv A outer s H vs Q E hG hr h => ?_)
  · obtain ⟨a, ns, rfl, _⟩ := h
    rfl
  · obtain ⟨a, ns, rfl, hS, hl, q⟩ := h
    refine ⟨_, (pss_one (ps_ret (pe_lc (own := [("event", 1)]) (g := gName 1) (tt := _) rfl sc_starts_of.nd (pi_list (pv 0)) (blkOk_by (own := [("event", 1)]) (N := N_starts_of) (sc := defScope s_starts_of) (by decide +kernel)) (fun _ _ _ _ _ => (pg_name (i := 1) sc_starts_of.nd rfl (Or.inl rfl))) (fun _ _ _ _ _ => (pts_one (pt_cmpR op_gt (pv 1) pe_int (nomark _)))) (fun _ _ _ _ _ => (pv 1))))), ?_⟩
    refine ⟨_, rfl, a, rfl, ⟨_, hS⟩, fun D hD => lc_list (xs := ns.map V.int) (LcP H D fun i => ((ns.take i).filter fun e => decide (0 < e)).map V.int) (.init hD rfl) (fun i H' _ p => p.2.1.seq hS) (fun i x H' hx p => ?_) (fun H1 p => ?_)⟩
    · obtain ⟨e, rfl, he⟩ := get_int hx
      have fs := filt_succ (f := fun e => decide (0 < e)) he
      have fl := filt_len (ns := ns) (f := fun e => decide (0 < e)) i
      have li := lt_get he
      refine ⟨rfl, ?_⟩
      by_cases h0 : 0 < e
      · refine ⟨_, rfl, _, _, rfl, rfl, true, dT h0, ?_⟩
        refine ⟨_, rfl, p.put (Same.refl _) ?_ (by rw [List.length_map]; omega)⟩
        show ((ns.take (i + 1)).filter _).map V.int = _
        rw [fs, if_pos (by simp [h0]), List.map_append]
        rfl
      · refine ⟨_, rfl, _, _, rfl, rfl, false, dF h0, ?_⟩
        refine p.skip (Same.refl _) ?_
        show ((ns.take (i + 1)).filter _).map V.int = _
        rw [fs, if_neg (by simp [h0]), List.append_nil]
    · have hp := p.2.2
      rw [List.length_map] at hp
      have hp : H1 D = some (.lst (((ns.take ns.length).filter fun e => decide (0 < e)).map V.int)) := hp
      rw [List.take_length] at hp
      exact q _ _ p.2.1 hp hD
/-! ### renumbered -/
def spRen (K : PySem.W.Frag) : Sp := fun vs H Q _ => ∃ (a : Addr) (ns : List Int), vs = [.ref a] ∧ SqL K H a (ns.map V.int) ∧ Hist ns ∧ ∀ H' p, Same H H' → H' p = some (.lst ((rn ns).map V.int)) → H p = none → Q (.ref p) H'
theorem ok_renumbered {f : Addr} {fd : FuncData} (F : Fun K "renumbered" "renumbered" s_renumbered f fd) (B : NoB mg) (T_check_history : Gc P w K mg base 6 "check_history" (spCheck K)) (T_starts_of : Gc P w K mg base 1 "starts_of" (spStarts K)) : FnG P w K mg base CX0 7 f fd ["history"] (spRen K) := by
  refine okG F sc_renumbered (fun vs H Q E h => ?_) (fun cdv A outer s H vs Q E hG hr h => ?_)
  · obtain ⟨a, ns, rfl, _⟩ := h
    rfl
  · obtain ⟨a, ns, rfl, hS, hh, q⟩ := h
    have hu := hu_of hr
    have hlen := hh.len
    have sl := stL_len ns
    have snd := stL_nd hh
    refine ⟨_, (pss_cons (ps_expr (pe_g T_check_history hG hr (by decide) (by rfl) (pa_cons (pv 0) pa_nil)))
        (pss_cons (ps_set (i := 1) sc_renumbered.nd rfl (Or.inr rfl) (pe_dc (own := [("index", 2), ("patch", 3)]) (g := _) (tt := tYes) rfl sc_renumbered.nd (pi_enum (by rfl) B.enumerate (pa_cons (pe_g T_starts_of hG hr (by decide) (by rfl) (pa_cons (pv 0) pa_nil)) pa_nil)) (blkOk_by (own := [("index", 2), ("patch", 3)]) (N := N_renumbered) (sc := defScope s_renumbered) (by decide +kernel)) (fun _ _ _ _ _ => (k_tup (K := K) (n := 2) rfl rfl (pgs_cons (pg_name (i := 2) sc_renumbered.nd rfl (Or.inl rfl)) (pgs_cons (pg_name (i := 3) sc_renumbered.nd rfl (Or.inl rfl)) pgs_nil)))) (fun _ _ _ _ _ => pts_nil) (fun _ _ _ _ _ => (pv 3)) (fun _ _ _ _ _ => (pe_op op_add (pv 2) pe_int))))
        (pss_one (ps_ret (pe_lc (own := [("event", 4)]) (g := gName 4) (tt := tYes) rfl sc_renumbered.nd (pi_list (pv 0)) (blkOk_by (own := [("event", 4)]) (N := N_renumbered) (sc := defScope s_renumbered) (by decide +kernel)) (fun _ _ _ _ _ => (pg_name (i := 4) sc_renumbered.nd rfl (Or.inl rfl))) (fun _ _ _ _ _ => pts_nil) (fun _ _ _ _ _ => (pe_ifExp (pt_cmpR op_gt (pv 4) pe_int (nomark _)) (pe_dget hu (pv 1) (pv 4) (fun _ _ => rfl)) (pe_un un_neg (pe_dget hu (pv 1) (pe_un un_neg (pv 4)) (fun _ _ => rfl)))))))))), ?_⟩
    refine ⟨_, rfl, a, ns, rfl, hS, hh, fun H1 s1 => ?_⟩
    refine ⟨_, rfl, a, ns, rfl, s1.seq hS, by omega, fun H2 st s2 hst nst => ?_⟩
    have s02 := s1.trans s2
    refine ⟨st, _, rfl, .of hst, fun D nD => dc_enum (xs := (stL ns).map V.int) (fun i H' => Same H2 H' ∧ ∃ kvs, H' D = some (.dK kvs) ∧ kvs.length ≤ i ∧ ∀ j k, j < i → (stL ns)[j]? = some k → valV kvs (Sum.inl k) = some (.int ((j : Int) + 1)))
      ⟨same_new nD, [], upd_same, Nat.le_refl _, fun j k hj => absurd hj (Nat.not_lt_zero _)⟩ (fun i H' _ p => .of (p.1 _ _ hst)) (fun i x T H' hx nT p => ?_) (fun H3 p => ?_)⟩
    · obtain ⟨e, rfl, he⟩ := get_int hx
      obtain ⟨sm, kvs, hD, kl, kv⟩ := p
      have li := lt_get he
      refine ⟨T, _, rfl, .of upd_same, rfl, _, _, rfl, _, _, rfl, rfl, rfl, ?_⟩
      refine ⟨_, rfl, _, rfl, _, _, rfl, rfl, kvs, Sum.inl e, rfl, same_new nT _ _ hD, zl (by omega), Lp.Same.mut (sm.trans (same_new nT)) nD, _, upd_same, Nat.le_trans (putK_len _ _ _) (Nat.succ_le_succ kl), fun j k hj hk => ?_⟩
      rw [valV_put]
      by_cases z : k = e
      · subst z
        have := nd_ix snd he hk
        subst this
        rw [if_pos rfl]
      · rw [if_neg (fun q => z (Sum.inl.inj q))]
        refine kv j k ?_ hk
        rcases Nat.lt_or_ge j i with y | y
        · exact y
        · have : j = i := by omega
          subst this
          rw [he] at hk
          exact absurd (Option.some.inj hk).symm z
    · obtain ⟨sm, kvs, hD, kl, kv⟩ := p
      rw [List.length_map] at kv
      have s03 := s02.trans sm
      have hget : ∀ {k : Int}, k ∈ ns → 0 < k → valV kvs (Sum.inl k) = some (.int (numL ns k)) := fun {k} hk h0 => by
        have hm := mem_stL hk h0
        exact kv _ k (List.idxOf_lt_length_of_mem hm) (idx_get hm)
      refine ⟨_, rfl, a, rfl, ⟨_, s03.seq hS⟩, fun D2 nD2 => lc_list (xs := ns.map V.int) (LcP H3 D2 fun i => ((ns.take i).map (rnE ns)).map V.int) (.init nD2 rfl) (fun i H' _ pp => pp.2.1.seq (s03.seq hS)) (fun i x H' hx pp => ?_) (fun H4 pp => ?_)⟩
      · obtain ⟨e, rfl, he⟩ := get_int hx
        have li := lt_get he
        have hDD := pp.2.1 _ _ hD
        have e0 := (hh.rng e (mem_get he)).1
        have hput : ∀ y, y = V.int (rnE ns e) → ((ns.take (i + 1)).map (rnE ns)).map V.int = ((ns.take i).map (rnE ns)).map V.int ++ [y] := fun y hy => by
          rw [take_get he, List.map_append, List.map_append, hy]
          rfl
        have hz : (((ns.take i).map (rnE ns)).map V.int).length < 100000 := by
          rw [List.length_map, List.length_map, List.length_take]
          omega
        refine ⟨rfl, ?_⟩
        by_cases h0 : 0 < e
        · refine ⟨_, rfl, _, _, rfl, rfl, true, dT h0, ?_⟩
          refine ⟨_, rfl, _, rfl, D, _, rfl, dget (.inl hDD) (hget (mem_get he) h0), ?_⟩
          refine pp.put (.refl _) (hput _ ?_) hz
          unfold rnE
          rw [if_pos h0]
        · refine ⟨_, rfl, _, _, rfl, rfl, false, dF h0, ?_⟩
          have hneg : e < 0 := by omega
          have hm : -e ∈ ns := ord_mem hh.ord (mem_get he) hneg
          refine ⟨_, rfl, _, rfl, e, rfl, D, _, rfl, dget (.inl hDD) (hget hm (by omega)), ?_⟩
          refine ⟨_, rfl, pp.put (.refl _) (hput _ ?_) hz⟩
          unfold rnE
          rw [if_neg h0]
      · have hp := pp.2.2
        rw [List.length_map] at hp
        have hp : H4 D2 = some (.lst (((ns.take ns.length).map (rnE ns)).map V.int)) := hp
        rw [List.take_length] at hp
        exact q _ _ (s03.trans pp.2.1) hp (s03.free nD2)
end
end L04
set_option Elab.async false
set_option linter.all false
set_option maxRecDepth 100000
namespace L04
open PySem PySem.Spec PyProof.Rows L2 Lp
def stopV (ns : List Int) (k : Int) : V := if -k ∈ ns then .int ((ns.idxOf (-k) : Nat) : Int) else .non
def arcV (ns : List Int) (k : Int) : List V := [.int ((ns.idxOf k : Nat) : Int), stopV ns k]
def stopD (ns : List Int) (k : Int) : PyData := if -k ∈ ns then .int ((ns.idxOf (-k) : Nat) : Int) else .none
def arcD (ns : List Int) (k : Int) : PyData := .tuple [.int ((ns.idxOf k : Nat) : Int), stopD ns k]
def arcsD (ns : List Int) : PyData := .list ((stL ns).map (arcD ns))
theorem dp_arc {K : PySem.W.Frag} {H : Hp} {t : Addr} {ns : List Int} {k : Int} (h : H t = some (.tup (arcV ns k))) : Dp K H (.ref t) (arcD ns k) := by
  refine .tup (.of h) (.cons (.int _) (.cons ?_ .nil))
  unfold stopV stopD
  split
  · exact .int _
  · exact .non
theorem dpAll_arcs {K : PySem.W.Frag} {H : Hp} {ns : List Int} : ∀ {rs : List V} {l : List Int}, rs.length = l.length → (∀ (j : Nat) (k : Int), l[j]? = some k → ∃ t, rs[j]? = some (V.ref t) ∧ H t = some (.tup (arcV ns k))) → DpAll K H rs (l.map (arcD ns))
  | [], [], _, _ => .nil
  | r :: rs, k :: l, hl, h => by
    obtain ⟨t, h1, h2⟩ := h 0 k rfl
    have e : r = .ref t := Option.some.inj h1
    subst e
    exact .cons (dp_arc h2) (dpAll_arcs (Nat.succ.inj hl) fun j k hk => h (j + 1) k hk)
section
variable {P : Program} {w : World} {K : PySem.W.Frag} {mg : Str → Option Value} {base : Heap}
/-! ### arcs_of -/
def spArcs (K : PySem.W.Frag) : Sp := fun vs H Q _ => ∃ (a : Addr) (ns : List Int), vs = [.ref a] ∧ SqL K H a (ns.map V.int) ∧ Hist ns ∧ ∀ H' p, Same H H' → Dp K H' (.ref p) (arcsD ns) → H p = none → Q (.ref p) H'
theorem ok_arcs_of {f : Addr} {fd : FuncData} (F : Fun K "arcs_of" "arcs_of" s_arcs_of f fd) (B : NoB mg) (T_check_history : Gc P w K mg base 6 "check_history" (spCheck K)) (T_starts_of : Gc P w K mg base 1 "starts_of" (spStarts K)) : FnG P w K mg base CX0 7 f fd ["history"] (spArcs K) := by
  refine okG F sc_arcs_of (fun vs H Q E h => ?_) (fun cdv A outer s H vs Q E hG hr h => ?_)
  · obtain ⟨a, ns, rfl, _⟩ := h
    rfl
  · obtain ⟨a, ns, rfl, hS, hh, q⟩ := h
    have hu := hu_of hr
    have hlen := hh.len
    have sl := stL_len ns
    have snd := stL_nd hh
    refine ⟨_, (pss_cons (ps_expr (pe_g T_check_history hG hr (by decide) (by rfl) (pa_cons (pv 0) pa_nil)))
        (pss_cons (ps_set (i := 1) sc_arcs_of.nd rfl (Or.inr rfl) (pe_dc (own := [("index", 2), ("event", 3)]) (g := _) (tt := tYes) rfl sc_arcs_of.nd (pi_enum (by rfl) B.enumerate (pa_cons (pv 0) pa_nil)) (blkOk_by (own := [("index", 2), ("event", 3)]) (N := N_arcs_of) (sc := defScope s_arcs_of) (by decide +kernel)) (fun _ _ _ _ _ => (k_tup (K := K) (n := 2) rfl rfl (pgs_cons (pg_name (i := 2) sc_arcs_of.nd rfl (Or.inl rfl)) (pgs_cons (pg_name (i := 3) sc_arcs_of.nd rfl (Or.inl rfl)) pgs_nil)))) (fun _ _ _ _ _ => pts_nil) (fun _ _ _ _ _ => (pv 3)) (fun _ _ _ _ _ => (pv 2))))
        (pss_one (ps_ret (pe_lc (own := [("patch", 4)]) (g := gName 4) (tt := tYes) rfl sc_arcs_of.nd (pi_list (pe_g T_starts_of hG hr (by decide) (by rfl) (pa_cons (pv 0) pa_nil))) (blkOk_by (own := [("patch", 4)]) (N := N_arcs_of) (sc := defScope s_arcs_of) (by decide +kernel)) (fun _ _ _ _ _ => (pg_name (i := 4) sc_arcs_of.nd rfl (Or.inl rfl))) (fun _ _ _ _ _ => pts_nil) (fun _ _ _ _ _ => (pe_tup (pa_cons (pe_dget hu (pv 1) (pv 4) (fun _ _ => rfl)) (pa_cons (pe_dget1 hu (pv 1) (pe_un un_neg (pv 4)) (by constructor <;> rfl)) pa_nil))))))))), ?_⟩
    refine ⟨_, rfl, a, ns, rfl, hS, hh, fun H1 s1 => ?_⟩
    have hS1 := s1.seq hS
    refine ⟨_, rfl, a, _, rfl, hS1, fun D nD => dc_enum (xs := ns.map V.int) (fun i H' => Same H1 H' ∧ ∃ kvs, H' D = some (.dK kvs) ∧ kvs.length ≤ i ∧ ∀ k, valV kvs (Sum.inl k) = if k ∈ ns.take i then some (.int ((ns.idxOf k : Nat) : Int)) else none)
      ⟨same_new nD, [], upd_same, Nat.le_refl _, fun k => by simp; rfl⟩ (fun i H' _ p => p.1.seq hS1) (fun i x T H' hx nT p => ?_) (fun H3 p => ?_)⟩
    · obtain ⟨e, rfl, he⟩ := get_int hx
      obtain ⟨sm, kvs, hD, kl, kv⟩ := p
      have li := lt_get he
      refine ⟨T, _, rfl, .of upd_same, rfl, _, _, rfl, _, _, rfl, rfl, rfl, ?_⟩
      refine ⟨_, rfl, _, rfl, kvs, Sum.inl e, rfl, same_new nT _ _ hD, zl (by omega), Lp.Same.mut (sm.trans (same_new nT)) nD, _, upd_same, Nat.le_trans (putK_len _ _ _) (Nat.succ_le_succ kl), fun k => ?_⟩
      rw [valV_put]
      by_cases z : k = e
      · subst z
        have hi := nd_ix hh.nd he (idx_get (mem_get he))
        rw [if_pos rfl, if_pos ((mem_take_succ he).mpr (.inr rfl)), ← hi]
      · rw [if_neg (fun q => z (Sum.inl.inj q)), kv]
        by_cases y : k ∈ ns.take i
        · rw [if_pos y, if_pos ((mem_take_succ he).mpr (.inl y))]
        · rw [if_neg y, if_neg (fun q => ((mem_take_succ he).mp q).elim y z)]
    · obtain ⟨sm, kvs, hD, kl, kv⟩ := p
      rw [List.length_map, List.take_length] at kv
      have s03 := s1.trans sm
      refine ⟨_, rfl, a, ns, rfl, s03.seq hS, by omega, fun H4 st s4 hst nst => ⟨st, rfl, ⟨_, .of hst⟩, fun D2 nD2 => ?_⟩⟩
      have s04 := s03.trans s4
      have hD4 := s4 _ _ hD
      refine lc_list (xs := (stL ns).map V.int) (fun i H' => Same H4 H' ∧ ∃ rs, H' D2 = some (.lst rs) ∧ rs.length = i ∧ ∀ j k, j < i → (stL ns)[j]? = some k → ∃ t, rs[j]? = some (.ref t) ∧ H' t = some (.tup (arcV ns k)))
        ⟨same_new nD2, [], upd_same, rfl, fun j k hj => absurd hj (Nat.not_lt_zero _)⟩ (fun i H' _ p => .of (p.1 _ _ hst)) (fun i x H' hx p => ?_) (fun H5 p => ?_)
      · obtain ⟨k, rfl, hk⟩ := get_int hx
        obtain ⟨sm2, rs, hrs, rl, rr⟩ := p
        have li := lt_get hk
        have hkn := (List.mem_filter.mp (mem_get hk)).1
        have hDD := sm2 _ _ hD4
        have v1 : valV kvs (Sum.inl k) = some (.int ((ns.idxOf k : Nat) : Int)) := by rw [kv, if_pos hkn]
        refine ⟨rfl, ?_⟩
        refine ⟨_, rfl, _, rfl, D, _, rfl, dget (.inl hDD) v1, ?_⟩
        refine ⟨_, rfl, D, rfl, .inl ⟨_, .inl hDD⟩, _, rfl, k, rfl, valV kvs (Sum.inl (-k)), DGet.k (k := Sum.inl (-k)) hDD, ?_⟩
        have v2 : (valV kvs (Sum.inl (-k))).getD .non = stopV ns k := by
          rw [kv]
          unfold stopV
          split <;> rfl
        rw [v2]
        refine ⟨by show 2 ≤ sizeLine; decide, fun t nt => ⟨rs, same_new nt _ _ hrs, zl (by omega), Lp.Same.mut (sm2.trans (same_new nt)) nD2, _, upd_same, ?_, fun j k' hj hk' => ?_⟩⟩
        · rw [List.length_append, rl]
          rfl
        · have ntD : t ≠ D2 := fun z => by
            rw [z, hrs] at nt
            cases nt
          by_cases y : j < i
          · obtain ⟨t', h1, h2⟩ := rr j k' y hk'
            refine ⟨t', ?_, ?_⟩
            · rw [List.getElem?_append_left (by omega)]
              exact h1
            · rw [upd_ne (fun z => by rw [z, hrs] at h2; cases h2)]
              exact same_new nt _ _ h2
          · have ej : j = i := by omega
            subst ej
            have ek : k = k' := Option.some.inj (hk.symm.trans hk')
            subst ek
            refine ⟨t, ?_, ?_⟩
            · rw [List.getElem?_append_right (by omega), rl, Nat.sub_self]
              rfl
            · rw [upd_ne ntD]
              exact upd_same
      · obtain ⟨sm2, rs, hrs, rl, rr⟩ := p
        rw [List.length_map] at rl rr
        exact q _ D2 (s04.trans sm2) (.lst (.of hrs) (dpAll_arcs rl fun j k hk => rr j k (lt_get hk) hk)) (s04.free nD2)
/-! ### is_plain -/
def spPlain (K : PySem.W.Frag) : Sp := fun vs H Q _ => ∃ (a : Addr) (ns : List Int), vs = [.ref a] ∧ SqL K H a (ns.map V.int) ∧ Hist ns ∧ ∀ H', Same H H' → Q (.bl (decide (stL ns = upL (stL ns).length))) H'
theorem ok_is_plain {f : Addr} {fd : FuncData} (F : Fun K "is_plain" "is_plain" s_is_plain f fd) (B : NoB mg) (T_check_history : Gc P w K mg base 6 "check_history" (spCheck K)) (T_starts_of : Gc P w K mg base 1 "starts_of" (spStarts K)) : FnG P w K mg base CX0 7 f fd ["history"] (spPlain K) := by
  refine okG F sc_is_plain (fun vs H Q E h => ?_) (fun cdv A outer s H vs Q E hG hr h => ?_)
  · obtain ⟨a, ns, rfl, _⟩ := h
    rfl
  · obtain ⟨a, ns, rfl, hS, hh, q⟩ := h
    have hu64 := hr.units
    have hlen := hh.len
    have sl := stL_len ns
    refine ⟨_, (pss_cons (ps_expr (pe_g T_check_history hG hr (by decide) (by rfl) (pa_cons (pv 0) pa_nil)))
        (pss_cons (ps_set (i := 1) sc_is_plain.nd rfl (Or.inl rfl) (pe_g T_starts_of hG hr (by decide) (by rfl) (pa_cons (pv 0) pa_nil)))
        (pss_one (ps_ret (pe_cmpR (op_eqD hu64) (pv 1) (pe_listRg rfl (by rfl) B.list (prg_2 (by rfl) B.range pe_int (pe_op op_add (pe_callB call_len_seq (by rfl) B.len PySem.boot_len (pa_cons (pv 1) pa_nil)) pe_int))) (nomark _)))))), ?_⟩
    refine ⟨_, rfl, a, ns, rfl, hS, hh, fun H1 s1 => ?_⟩
    refine ⟨_, rfl, a, ns, rfl, s1.seq hS, by omega, fun H2 st s2 hst nst => ?_⟩
    refine ⟨_, rfl, _, rfl, st, _, rfl, .inl (.of hst), _, _, rfl, rfl, ?_⟩
    refine ⟨_, _, rfl, rfl, RgOk.of_le (by decide) (by rw [List.length_map]; omega) (by decide) (by omega), fun p np => ?_⟩
    have hst2 := same_new (o := .lst (rgV 1 ((((stL ns).map V.int).length : Nat) + 1))) np _ _ hst
    refine ⟨dI (stL ns), dI (upL (stL ns).length), dp_ints (.of hst2), dp_ints (.of ?_), shaped_ints _, shaped_ints _, ?_⟩
    · rw [upd_same, rgV_up, List.length_map]
      have e : ((((stL ns).length : Nat) : Int) + 1 - 1).toNat = (stL ns).length := by omega
      rw [e]
    · rw [eqv_ints]
      exact q _ ((s1.trans s2).trans (same_new np))
/-! ### is_nested -/
def spNest (K : PySem.W.Frag) : Sp := fun vs H Q _ => ∃ (a : Addr) (ns : List Int), vs = [.ref a] ∧ SqL K H a (ns.map V.int) ∧ Hist ns ∧ ∀ H', Same H H' → Q (.bl (runN ns).isSome) H'
theorem ok_is_nested {f : Addr} {fd : FuncData} (F : Fun K "is_nested" "is_nested" s_is_nested f fd) (T_check_history : Gc P w K mg base 6 "check_history" (spCheck K)) : FnG P w K mg base CX0 7 f fd ["history"] (spNest K) := by
  refine okG F sc_is_nested (fun vs H Q E h => ?_) (fun cdv A outer s H vs Q E hG hr h => ?_)
  · obtain ⟨a, ns, rfl, _⟩ := h
    rfl
  · obtain ⟨a, ns, rfl, hS, hh, q⟩ := h
    have hlen := hh.len
    refine ⟨_, (pss_cons (ps_expr (pe_g T_check_history hG hr (by decide) (by rfl) (pa_cons (pv 0) pa_nil)))
        (pss_cons (ps_set (i := 1) sc_is_nested.nd rfl (Or.inl rfl) (pe_lst pa_nil))
        (pss_cons (ps_for PassesOwn.never rfl (pi_list (pv 0)) (pg_name (i := 2) sc_is_nested.nd rfl (Or.inl rfl))
          (pss_one (ps_if (pt_cmpR op_gt (pv 2) pe_int (nomark _)) (pss_one (ps_expr (pe_bm PySem.F.plainAttrs_list PySem.F.slot_list_append PySem.F.type_list_append mt_append (pv 1) (pa_cons (pv 2) pa_nil)))) (pss_one (ps_if (pt_cmpR op_ne (pe_bm0 PySem.F.plainAttrs_list PySem.F.slot_list_pop PySem.F.type_list_pop mt_pop (pv 1)) (pe_un un_neg (pv 2)) (nomark _)) (pss_one (ps_ret pe_bl)) pss_nil)))))
        (pss_one (ps_ret pe_bl))))), ?_⟩
    refine ⟨_, rfl, a, ns, rfl, hS, hh, fun H1 s1 => ⟨Nat.zero_le _, fun r nr => ?_⟩⟩
    have hSx : ∀ H', Same H1 H' → SqL K H' a (ns.map V.int) := fun H' x => x.seq (s1.seq hS)
    refine ⟨_, rfl, a, rfl, ⟨_, hSx _ (same_new nr)⟩, for_list (xs := ns.map V.int) (fun i σ H' => (∃ y, σ = [some (.ref a), some (.ref r), y]) ∧ Same H1 H' ∧ ∃ st, runN (ns.take i) = some st ∧ H' r = some (.lst (st.reverse.map V.int))) ⟨⟨_, rfl⟩, same_new nr, [], rfl, upd_same⟩ (fun i σ H' _ h => hSx _ h.2.1) (fun i x σ H' hx h => ?_) (fun σ H' h => ?_)⟩
    · obtain ⟨e, rfl, he⟩ := get_int hx
      obtain ⟨⟨y, rfl⟩, sm, st, hst, hr⟩ := h
      have hi := lt_get he
      obtain ⟨m1, m2, m3⟩ := runN_mem hh i st (by omega) hst
      have e0 := (hh.rng e (mem_get he)).1
      by_cases h0 : 0 < e
      · refine ⟨_, rfl, _, _, rfl, rfl, true, dT h0, ?_⟩
        refine ⟨_, rfl, .inl ⟨rfl, _, .of hr⟩, _, rfl, r, _, _, rfl, rfl, hr, by rw [List.length_map, List.length_reverse]; exact zl (by omega), ⟨_, rfl⟩, Lp.Same.mut sm nr, e :: st, ?_, ?_⟩
        · rw [runN_succ he, hst]
          show (if 0 < e then some (e :: st) else _) = _
          rw [if_pos h0]
        · rw [upd_same, List.reverse_cons, List.map_append]
          rfl
      · have hneg : e < 0 := by omega
        have hm : -e ∈ st := (m1 (-e)).mpr ⟨by omega, hh.ord i e he hneg, by rw [Int.neg_neg]; exact not_mem_take hh.nd he⟩
        refine ⟨_, rfl, _, _, rfl, rfl, false, dF h0, ?_⟩
        cases st with
        | nil => exact absurd hm List.not_mem_nil
        | cons k rs =>
          have hr' : H' r = some (.lst (rs.reverse.map V.int ++ [.int k])) := by rw [hr, List.reverse_cons, List.map_append]; rfl
          refine ⟨_, rfl, .inl ⟨rfl, _, .of hr'⟩, ?_⟩
          have hst1 : runN (ns.take (i + 1)) = if k = -e then some rs else none := by
            rw [runN_succ he, hst]
            show (if 0 < e then some (e :: k :: rs) else if k = -e then some rs else none) = _
            rw [if_neg h0]
          have edl : (rs.reverse.map V.int ++ [V.int k]).dropLast = rs.reverse.map V.int := List.dropLast_concat
          refine ⟨r, _, .int k, rfl, rfl, hr', by simp, ?_⟩
          rw [edl]
          by_cases hk : k = -e
          · rw [if_pos hk] at hst1
            exact ⟨_, rfl, e, rfl, rfl, false, nF (congrArg V.int hk), ⟨_, rfl⟩, Lp.Same.mut sm nr, rs, hst1, upd_same⟩
          · rw [if_neg hk] at hst1
            have z := q _ (s1.trans (Lp.Same.mut (o := .lst (rs.reverse.map V.int)) sm nr))
            rw [runN_none hst1] at z
            exact ⟨_, rfl, e, rfl, rfl, true, nT (vne hk), z⟩
    · obtain ⟨⟨y, rfl⟩, sm, st, hst, hr⟩ := h
      rw [List.length_map, List.take_length] at hst
      have z := q _ (s1.trans sm)
      rw [hst] at z
      exact z
end
end L04
set_option Elab.async false
set_option linter.all false
set_option maxRecDepth 100000
namespace L04
open PySem PySem.Spec PyProof.Rows L2 Lp
/-! ### other numbers for the patches -/
/-- e with other numbers -/
def rl (f : Int → Int) (e : Int) : Int := if 0 < e then f e else -(f (-e))
/-- f numbers the patches of ns by patches, one to one -/
structure Rel (f : Int → Int) (ns : List Int) : Prop where
  rng : ∀ k ∈ stL ns, 1 ≤ f k ∧ f k ≤ 100
  inj : ∀ k ∈ stL ns, ∀ l ∈ stL ns, f k = f l → k = l
section
variable {f : Int → Int} {ns : List Int}
theorem abs_mem (hh : Hist ns) {e : Int} (he : e ∈ ns) : (if 0 < e then e else -e) ∈ stL ns := by
  have e0 := (hh.rng e he).1
  by_cases h0 : 0 < e
  · rw [if_pos h0]
    exact mem_stL he h0
  · rw [if_neg h0]
    exact mem_stL (ord_mem hh.ord he (by omega)) (by omega)
theorem rl_pos (hh : Hist ns) (r : Rel f ns) {e : Int} (he : e ∈ ns) : (0 < rl f e ↔ 0 < e) ∧ rl f e ≠ 0 ∧ -100 ≤ rl f e ∧ rl f e ≤ 100 := by
  have m := abs_mem hh he
  unfold rl
  by_cases h0 : 0 < e
  · rw [if_pos h0] at m ⊢
    have := r.rng e m
    exact ⟨⟨fun _ => h0, fun _ => by omega⟩, by omega, by omega, by omega⟩
  · rw [if_neg h0] at m ⊢
    have := r.rng (-e) m
    exact ⟨⟨fun z => by omega, fun z => absurd z h0⟩, by omega, by omega, by omega⟩
theorem rl_inj (hh : Hist ns) (r : Rel f ns) {d e : Int} (hd : d ∈ ns) (he : e ∈ ns) (h : rl f d = rl f e) : d = e := by
  have p1 := (rl_pos hh r hd).1
  have p2 := (rl_pos hh r he).1
  have m1 := abs_mem hh hd
  have m2 := abs_mem hh he
  have d0 := (hh.rng d hd).1
  have e0 := (hh.rng e he).1
  unfold rl at h p1 p2
  by_cases h1 : 0 < d
  · have h2 : 0 < e := p2.mp (by rw [← h]; exact p1.mpr h1)
    rw [if_pos h1, if_pos h2] at h
    rw [if_pos h1] at m1
    rw [if_pos h2] at m2
    exact r.inj d m1 e m2 h
  · have h2 : ¬ 0 < e := fun z => h1 (p1.mp (by rw [h]; exact p2.mpr z))
    rw [if_neg h1, if_neg h2] at h
    rw [if_neg h1] at m1
    rw [if_neg h2] at m2
    have := r.inj (-d) m1 (-e) m2 (by omega)
    omega
theorem rl_neg {e : Int} (h : e ≠ 0) : rl f (-e) = -(rl f e) := by
  unfold rl
  by_cases h0 : 0 < e
  · rw [if_pos h0, if_neg (by omega), Int.neg_neg]
  · rw [if_neg h0, if_pos (by omega), Int.neg_neg]
theorem stL_rl (hh : Hist ns) (r : Rel f ns) : stL (ns.map (rl f)) = (stL ns).map f := by
  have : ∀ l : List Int, (∀ e ∈ l, e ∈ ns) → (l.map (rl f)).filter (fun e => decide (0 < e)) = (l.filter fun e => decide (0 < e)).map f := by
    intro l
    induction l with
    | nil => intro _; rfl
    | cons e t ih =>
      intro hl
      have he := hl e List.mem_cons_self
      have p := (rl_pos hh r he).1
      rw [List.map_cons, List.filter_cons, List.filter_cons, ih fun x hx => hl x (List.mem_cons_of_mem _ hx)]
      by_cases h0 : 0 < e
      · rw [if_pos (decide_eq_true (p.mpr h0)), if_pos (decide_eq_true h0), List.map_cons]
        unfold rl
        rw [if_pos h0]
      · rw [if_neg (by simp only [decide_eq_true_eq]; exact fun z => h0 (p.mp z)), if_neg (by simp only [decide_eq_true_eq]; exact h0)]
  exact this ns fun e he => he
theorem hist_rl (hh : Hist ns) (r : Rel f ns) : Hist (ns.map (rl f)) := by
  refine ⟨fun e he => ?_, ?_, fun i e he h0 => ?_, by rw [List.length_map]; exact hh.len⟩
  · obtain ⟨d, hd, rfl⟩ := List.mem_map.mp he
    exact (rl_pos hh r hd).2
  · have : ∀ l : List Int, (∀ e ∈ l, e ∈ ns) → l.Nodup → (l.map (rl f)).Nodup := by
      intro l
      induction l with
      | nil => intro _ _; exact List.nodup_nil
      | cons e t ih =>
        intro hl nd
        obtain ⟨n1, n2⟩ := List.nodup_cons.mp nd
        rw [List.map_cons]
        refine List.nodup_cons.mpr ⟨fun hm => ?_, ih (fun x hx => hl x (List.mem_cons_of_mem _ hx)) n2⟩
        obtain ⟨d, hd, ed⟩ := List.mem_map.mp hm
        have := rl_inj hh r (hl d (List.mem_cons_of_mem _ hd)) (hl e List.mem_cons_self) ed
        exact n1 (this ▸ hd)
    exact this ns (fun e he => he) hh.nd
  · rw [List.getElem?_map] at he
    cases hd : ns[i]? with
    | none => rw [hd] at he; cases he
    | some d =>
      rw [hd] at he
      have he : rl f d = e := Option.some.inj he
      subst he
      have dm := mem_get hd
      have d0 := (hh.rng d dm).1
      have dn : d < 0 := by
        have := (rl_pos hh r dm).1
        omega
      have := hh.ord i d hd dn
      rw [← List.map_take, ← rl_neg d0]
      exact List.mem_map.mpr ⟨-d, this, rfl⟩
theorem idx_rl (hh : Hist ns) (r : Rel f ns) {e : Int} (he : e ∈ ns) : (ns.map (rl f)).idxOf (rl f e) = ns.idxOf e := by
  have h1 : (ns.map (rl f))[ns.idxOf e]? = some (rl f e) := by rw [List.getElem?_map, idx_get he]; rfl
  have h2 := idx_get (List.mem_map.mpr ⟨e, he, rfl⟩ : rl f e ∈ ns.map (rl f))
  exact (nd_ix (hist_rl hh r).nd h2 h1)
theorem mem_rl (hh : Hist ns) (r : Rel f ns) {k : Int} (hk : k ∈ stL ns) : -(f k) ∈ ns.map (rl f) ↔ -k ∈ ns := by
  obtain ⟨k1, k2⟩ := List.mem_filter.mp hk
  have k0 : 0 < k := of_decide_eq_true k2
  have ef : f k = rl f k := by unfold rl; rw [if_pos k0]
  constructor
  · intro h
    obtain ⟨d, hd, ed⟩ := List.mem_map.mp h
    have d0 := (hh.rng d hd).1
    have dn : ¬ 0 < d := fun z => by
      have p := (rl_pos hh r hd).1.mpr z
      have := r.rng k hk
      omega
    have hm : -d ∈ ns := ord_mem hh.ord hd (by omega)
    have : rl f (-d) = rl f k := by rw [rl_neg d0, ed, ef, Int.neg_neg]
    have := rl_inj hh r hm k1 this
    have : -k = d := by omega
    rw [this]
    exact hd
  · intro h
    rw [ef, ← rl_neg (by omega)]
    exact List.mem_map.mpr ⟨-k, h, rfl⟩
theorem arcs_rl (hh : Hist ns) (r : Rel f ns) : arcsD (ns.map (rl f)) = arcsD ns := by
  unfold arcsD
  rw [stL_rl hh r, List.map_map]
  refine congrArg PyData.list (List.map_congr_left fun k hk => ?_)
  obtain ⟨k1, k2⟩ := List.mem_filter.mp hk
  have k0 : 0 < k := of_decide_eq_true k2
  have ef : f k = rl f k := by unfold rl; rw [if_pos k0]
  show arcD (ns.map (rl f)) (f k) = arcD ns k
  unfold arcD stopD
  have e1 : (ns.map (rl f)).idxOf (f k) = ns.idxOf k := by rw [ef]; exact idx_rl hh r k1
  rw [e1]
  by_cases h : -k ∈ ns
  · have e2 : (ns.map (rl f)).idxOf (-(f k)) = ns.idxOf (-k) := by rw [ef, ← rl_neg (by omega)]; exact idx_rl hh r h
    rw [if_pos ((mem_rl hh r hk).mpr h), if_pos h, e2]
  · rw [if_neg (fun z => h ((mem_rl hh r hk).mp z)), if_neg h]
theorem map_idx {l : List Int} : ∀ {k : Int}, (∀ x ∈ l, ∀ y ∈ l, f x = f y → x = y) → k ∈ l → (l.map f).idxOf (f k) = l.idxOf k := by
  induction l with
  | nil => intro k _ hk; cases hk
  | cons x t ih =>
    intro k hi hk
    rw [List.map_cons, List.idxOf_cons, List.idxOf_cons]
    by_cases e : x = k
    · subst e
      simp
    · have e2 : f x ≠ f k := fun z => e (hi x List.mem_cons_self k hk z)
      have hk' : k ∈ t := (List.mem_cons.mp hk).resolve_left fun z => e z.symm
      have := ih (fun a ha b hb => hi a (List.mem_cons_of_mem _ ha) b (List.mem_cons_of_mem _ hb)) hk'
      have b1 : (x == k) = false := beq_eq_false_iff_ne.mpr e
      have b2 : (f x == f k) = false := beq_eq_false_iff_ne.mpr e2
      rw [b1, b2, this]
theorem num_rl (hh : Hist ns) (r : Rel f ns) {k : Int} (hk : k ∈ stL ns) : numL (ns.map (rl f)) (f k) = numL ns k := by
  unfold numL
  rw [stL_rl hh r, map_idx r.inj hk]
theorem rn_rl (hh : Hist ns) (r : Rel f ns) : rn (ns.map (rl f)) = rn ns := by
  unfold rn
  rw [List.map_map]
  refine List.map_congr_left fun e he => ?_
  have p := (rl_pos hh r he).1
  have m := abs_mem hh he
  show rnE (ns.map (rl f)) (rl f e) = rnE ns e
  unfold rnE
  by_cases h0 : 0 < e
  · rw [if_pos h0] at m
    rw [if_pos (p.mpr h0), if_pos h0]
    have ef : rl f e = f e := by unfold rl; rw [if_pos h0]
    rw [ef]
    exact num_rl hh r m
  · rw [if_neg h0] at m
    rw [if_neg (fun z => h0 (p.mp z)), if_neg h0]
    have ef : -(rl f e) = f (-e) := by unfold rl; rw [if_neg h0, Int.neg_neg]
    rw [ef, num_rl hh r m]
theorem sN1 {st : List Int} {e : Int} (h : 0 < e) : stepN (some st) e = some (e :: st) := if_pos h
theorem sN2 {e : Int} (h : ¬ 0 < e) : stepN (some []) e = none := if_neg h
theorem sN3 {k : Int} {rs : List Int} {e : Int} (h : ¬ 0 < e) : stepN (some (k :: rs)) e = if k = -e then some rs else none := if_neg h
theorem nest_rl (hh : Hist ns) (r : Rel f ns) : ∀ i, i ≤ ns.length → runN ((ns.map (rl f)).take i) = (runN (ns.take i)).map (List.map f)
  | 0, _ => rfl
  | i + 1, hi => by
    have ih := nest_rl hh r i (by omega)
    have he : ns[i]? = some ns[i] := List.getElem?_eq_getElem (by omega)
    generalize ns[i] = e at he
    have he2 : (ns.map (rl f))[i]? = some (rl f e) := by rw [List.getElem?_map, he]; rfl
    rw [runN_succ he, runN_succ he2, ih]
    have p := (rl_pos hh r (mem_get he)).1
    have m := abs_mem hh (mem_get he)
    cases hst : runN (ns.take i) with
    | none => rfl
    | some st =>
      obtain ⟨m1, m2, m3⟩ := runN_mem hh i st (by omega) hst
      show stepN (some (st.map f)) (rl f e) = _
      by_cases h0 : 0 < e
      · rw [sN1 h0, sN1 (p.mpr h0)]
        have ef : rl f e = f e := by unfold rl; rw [if_pos h0]
        rw [ef]
        rfl
      · rw [if_neg h0] at m
        have h1 : ¬ 0 < rl f e := fun z => h0 (p.mp z)
        have ef : -(rl f e) = f (-e) := by unfold rl; rw [if_neg h0, Int.neg_neg]
        cases st with
        | nil => rw [sN2 h0]; exact sN2 h1
        | cons k rs =>
          obtain ⟨k0, k1, _⟩ := (m1 k).mp List.mem_cons_self
          have km := mem_stL (List.mem_of_mem_take k1) k0
          rw [sN3 h0]
          show stepN (some (f k :: rs.map f)) (rl f e) = _
          rw [sN3 h1, ef]
          by_cases z : k = -e
          · rw [if_pos z, if_pos (by rw [z])]
            rfl
          · rw [if_neg z, if_neg (fun y => z (r.inj k km (-e) m y))]
            rfl
theorem nested_rl (hh : Hist ns) (r : Rel f ns) : (runN (ns.map (rl f))).isSome = (runN ns).isSome := by
  have := nest_rl hh r ns.length (Nat.le_refl _)
  rw [List.take_length] at this
  have e : (ns.map (rl f)).take ns.length = ns.map (rl f) := List.take_of_length_le (by rw [List.length_map]; exact Nat.le_refl _)
  rw [e] at this
  rw [this]
  cases runN ns <;> rfl
end
end L04
set_option Elab.async false
set_option linter.all false
set_option maxRecDepth 100000
namespace L04
open PySem PySem.Spec PyProof.Rows L2 Lp
theorem stL_le {ns : List Int} (hh : Hist ns) : (stL ns).length ≤ 100 :=
  Nat.le_trans (nodup_len (m := upL 100) (stL_nd hh) fun k hk => by
    obtain ⟨k1, k2⟩ := List.mem_filter.mp hk
    have k0 : 0 < k := of_decide_eq_true k2
    have := (hh.rng k k1).2.2
    exact List.mem_map.mpr ⟨(k - 1).toNat, List.mem_range.mpr (by omega), by omega⟩) (by rw [upL_len]; exact Nat.le_refl _)
theorem idx_inj {l : List Int} {a b : Int} (ha : a ∈ l) (hb : b ∈ l) (h : l.idxOf a = l.idxOf b) : a = b := by
  have h1 := idx_get ha
  rw [h, idx_get hb] at h1
  exact (Option.some.inj h1).symm
theorem rel_num {ns : List Int} (hh : Hist ns) : Rel (numL ns) ns := by
  refine ⟨fun k hk => ?_, fun k hk l hl h => ?_⟩
  · have h1 := List.idxOf_lt_length_of_mem hk
    have h2 := stL_le hh
    unfold numL
    omega
  · unfold numL at h
    exact idx_inj hk hl (by omega)
theorem rel_turn {ns : List Int} (hh : Hist ns) : Rel (fun k => 101 - k) ns := by
  refine ⟨fun k hk => ?_, fun k hk l hl h => by omega⟩
  obtain ⟨k1, k2⟩ := List.mem_filter.mp hk
  have k0 : 0 < k := of_decide_eq_true k2
  have := (hh.rng k k1).2.2
  omega
theorem rn_eq (ns : List Int) : rn ns = ns.map (rl (numL ns)) := rfl
theorem hist_rn {ns : List Int} (hh : Hist ns) : Hist (rn ns) := hist_rl hh (rel_num hh)
theorem rn_rn {ns : List Int} (hh : Hist ns) : rn (rn ns) = rn ns := rn_rl hh (rel_num hh)
theorem arcs_rn {ns : List Int} (hh : Hist ns) : arcsD (rn ns) = arcsD ns := arcs_rl hh (rel_num hh)
theorem nested_rn {ns : List Int} (hh : Hist ns) : (runN (rn ns)).isSome = (runN ns).isSome := nested_rl hh (rel_num hh)
theorem stL_rn {ns : List Int} (hh : Hist ns) : stL (rn ns) = upL (stL ns).length := by
  have e : stL (rn ns) = (stL ns).map (numL ns) := stL_rl hh (rel_num hh)
  rw [e]
  refine List.ext_getElem? fun i => ?_
  unfold upL
  rw [List.getElem?_map, List.getElem?_map]
  by_cases hi : i < (stL ns).length
  · rw [List.getElem?_range hi, List.getElem?_eq_getElem hi]
    have hm : (stL ns)[i] ∈ stL ns := List.getElem_mem hi
    have h1 := idx_get hm
    have h2 := nd_ix (stL_nd hh) h1 (List.getElem?_eq_getElem hi)
    show some (numL ns (stL ns)[i]) = some (1 + (i : Int))
    unfold numL
    rw [h2]
    exact congrArg some (by omega)
  · rw [List.getElem?_eq_none (Nat.le_of_not_lt hi), List.getElem?_eq_none (by rw [List.length_range]; exact Nat.le_of_not_lt hi)]
    rfl
theorem plain_rn {ns : List Int} (hh : Hist ns) : stL (rn ns) = upL (stL (rn ns)).length := by
  rw [stL_rn hh, upL_len]
theorem plain_iff {ns : List Int} (hh : Hist ns) : stL ns = upL (stL ns).length ↔ ns = rn ns := by
  constructor
  · intro h
    have : ∀ k ∈ stL ns, numL ns k = k := fun k hk => by
      have hi := List.idxOf_lt_length_of_mem hk
      have h1 := idx_get hk
      rw [show (stL ns)[(stL ns).idxOf k]? = (upL (stL ns).length)[(stL ns).idxOf k]? from congrArg (fun l : List Int => l[(stL ns).idxOf k]?) h] at h1
      unfold upL at h1
      rw [List.getElem?_map, List.getElem?_range hi] at h1
      have h1 : 1 + (((stL ns).idxOf k : Nat) : Int) = k := Option.some.inj h1
      unfold numL
      omega
    have e : ns.map (rnE ns) = ns.map id := List.map_congr_left fun e he => by
      have m := abs_mem hh he
      unfold rnE
      by_cases h0 : 0 < e
      · rw [if_pos h0] at m
        rw [if_pos h0]
        exact this e m
      · rw [if_neg h0] at m
        rw [if_neg h0, this _ m, Int.neg_neg]
        rfl
    show ns = ns.map (rnE ns)
    rw [e, List.map_id]
  · intro h
    have := plain_rn hh
    rw [← h] at this
    exact this
theorem rn_of_arcs {a b : List Int} (ha : Hist a) (hb : Hist b) (h : arcsD a = arcsD b) {i : Nat} {x : Int} (hx : (rn a)[i]? = some x) : (rn b)[i]? = some x := by
  unfold arcsD at h
  injection h with h
  unfold rn at hx ⊢
  rw [List.getElem?_map] at hx ⊢
  cases he : a[i]? with
  | none => rw [he] at hx; cases hx
  | some e =>
    rw [he] at hx
    have hx : rnE a e = x := Option.some.inj hx
    subst hx
    have m := abs_mem ha (mem_get he)
    have pick : ∀ k, k ∈ stL a → ∃ k', (stL b)[(stL a).idxOf k]? = some k' ∧ arcD a k = arcD b k' := fun k hk => by
      have h1 : ((stL a).map (arcD a))[(stL a).idxOf k]? = some (arcD a k) := by rw [List.getElem?_map, idx_get hk]; rfl
      rw [h, List.getElem?_map] at h1
      cases e : (stL b)[(stL a).idxOf k]? with
      | none => rw [e] at h1; cases h1
      | some k' => rw [e] at h1; exact ⟨k', rfl, (Option.some.inj h1).symm⟩
    by_cases h0 : 0 < e
    · rw [if_pos h0] at m
      obtain ⟨k', g1, g2⟩ := pick e m
      unfold arcD at g2
      injection g2 with g2
      injection g2 with g3 g4
      injection g3 with g3
      have kb := List.mem_filter.mp (mem_get g1)
      have i1 := nd_ix ha.nd (idx_get (mem_get he)) he
      have i2 : b.idxOf k' = i := by omega
      have hb1 := idx_get kb.1
      rw [i2] at hb1
      rw [hb1]
      have j1 := nd_ix (stL_nd hb) (idx_get (mem_get g1)) g1
      show some (rnE b k') = some (rnE a e)
      unfold rnE
      rw [if_pos h0, if_pos (of_decide_eq_true kb.2)]
      unfold numL
      rw [j1]
    · rw [if_neg h0] at m
      obtain ⟨k', g1, g2⟩ := pick (-e) m
      unfold arcD at g2
      injection g2 with g2
      injection g2 with g3 g4
      injection g4 with g4 g5
      have hm : - -e ∈ a := by rw [Int.neg_neg]; exact mem_get he
      unfold stopD at g4
      rw [if_pos hm, Int.neg_neg] at g4
      have kb := List.mem_filter.mp (mem_get g1)
      have k0 : 0 < k' := of_decide_eq_true kb.2
      by_cases hm2 : -k' ∈ b
      · rw [if_pos hm2] at g4
        injection g4 with g4
        have i1 := nd_ix ha.nd (idx_get (mem_get he)) he
        have i2 : b.idxOf (-k') = i := by omega
        have hb1 := idx_get hm2
        rw [i2] at hb1
        rw [hb1]
        have j1 := nd_ix (stL_nd hb) (idx_get (mem_get g1)) g1
        show some (rnE b (-k')) = some (rnE a e)
        unfold rnE
        rw [if_neg h0, if_neg (show ¬ 0 < -k' by omega), Int.neg_neg]
        unfold numL
        rw [j1]
      · rw [if_neg hm2] at g4
        cases g4
theorem rn_iff {a b : List Int} (ha : Hist a) (hb : Hist b) : rn a = rn b ↔ arcsD a = arcsD b := by
  constructor
  · intro h
    rw [← arcs_rn ha, ← arcs_rn hb, h]
  · intro h
    refine List.ext_getElem? fun i => ?_
    cases e : (rn a)[i]? with
    | some x => exact (rn_of_arcs ha hb h e).symm
    | none =>
      cases e2 : (rn b)[i]? with
      | none => rfl
      | some y =>
        rw [rn_of_arcs hb ha h.symm e2] at e
        cases e
end L04
set_option Elab.async false
set_option linter.all false
set_option maxRecDepth 100000
namespace L04
open PySem PySem.Spec PyProof.Rows L2 Lp
/-! ### arcs as data -/
def oD : Option Int → PyData
  | some j => .int j
  | none => .none
def pD (p : Int × Option Int) : PyData := .tuple [.int p.1, oD p.2]
def apL (ns : List Int) : List (Int × Option Int) := (stL ns).map fun k => (((ns.idxOf k : Nat) : Int), if -k ∈ ns then some ((ns.idxOf (-k) : Nat) : Int) else none)
theorem arcs_apL (ns : List Int) : arcsD ns = .list ((apL ns).map pD) := by
  unfold arcsD apL
  rw [List.map_map]
  refine congrArg PyData.list (List.map_congr_left fun k _ => ?_)
  show arcD ns k = pD _
  unfold arcD stopD pD
  by_cases h : -k ∈ ns
  · rw [if_pos h]
    show _ = PyData.tuple [_, oD (if -k ∈ ns then _ else _)]
    rw [if_pos h]
    rfl
  · rw [if_neg h]
    show _ = PyData.tuple [_, oD (if -k ∈ ns then _ else _)]
    rw [if_neg h]
    rfl
theorem pD_inj : ∀ {p q : Int × Option Int}, pD p = pD q → p = q
  | (a, some x), (b, some y), h => by
    injection h with h; injection h with h1 h2; injection h1 with h1; injection h2 with h2; injection h2 with h2; have h1 : a = b := h1; rw [h1, h2]
  | (a, some x), (b, none), h => by
    injection h with h; injection h with h1 h2; injection h2 with h2; cases h2
  | (a, none), (b, some y), h => by
    injection h with h; injection h with h1 h2; injection h2 with h2; cases h2
  | (a, none), (b, none), h => by
    injection h with h; injection h with h1 h2; injection h1 with h1; have h1 : a = b := h1; rw [h1]
theorem map_pD_inj : ∀ {l m : List (Int × Option Int)}, l.map pD = m.map pD → l = m
  | [], [], _ => rfl
  | [], _ :: _, h => nomatch h
  | _ :: _, [], h => nomatch h
  | p :: l, q :: m, h => by
    injection h with h1 h2
    rw [pD_inj h1, map_pD_inj h2]
theorem eqv_pD : ∀ p q : Int × Option Int, PyData.eqv (pD p) (pD q) = decide (p = q)
  | (a, some x), (b, some y) => by
    show ((a == b) && ((x == y) && true)) = _
    by_cases h1 : a = b <;> by_cases h2 : x = y <;> simp [h1, h2]
  | (a, some x), (b, none) => by
    show ((a == b) && (false && true)) = _
    simp
  | (a, none), (b, some y) => by
    show ((a == b) && (false && true)) = _
    simp
  | (a, none), (b, none) => by
    show ((a == b) && (true && true)) = _
    by_cases h1 : a = b <;> simp [h1]
theorem eqvAll_pD : ∀ l m : List (Int × Option Int), PyData.eqvAll (l.map pD) (m.map pD) = decide (l = m)
  | [], [] => rfl
  | [], _ :: _ => rfl
  | _ :: _, [] => rfl
  | p :: l, q :: m => by
    show (PyData.eqv (pD p) (pD q) && PyData.eqvAll (l.map pD) (m.map pD)) = decide (p :: l = q :: m)
    rw [eqv_pD, eqvAll_pD l m]
    by_cases e : p = q <;> by_cases e' : l = m <;> simp [e, e']
theorem eqv_arcs (a b : List Int) : PyData.eqv (arcsD a) (arcsD b) = decide (apL a = apL b) := by
  rw [arcs_apL, arcs_apL]
  exact eqvAll_pD _ _
theorem apL_iff {a b : List Int} : arcsD a = arcsD b ↔ apL a = apL b := by
  rw [arcs_apL, arcs_apL]
  exact ⟨fun h => by injection h with h; exact map_pD_inj h, fun h => by rw [h]⟩
theorem lay_pD : ∀ l : List (Int × Option Int), PyData.canLayAll0 (l.map pD) = true
  | [] => rfl
  | (_, some _) :: l => by
    show (true && PyData.canLayAll0 (l.map pD)) = true
    rw [lay_pD l]
    rfl
  | (_, none) :: l => by
    show (true && PyData.canLayAll0 (l.map pD)) = true
    rw [lay_pD l]
    rfl
theorem depth_pD : ∀ l : List (Int × Option Int), PyData.depthAll (l.map pD) ≤ 2
  | [] => Nat.zero_le _
  | (a, some x) :: l => Nat.max_le.mpr ⟨by show max 0 (max 0 0) + 1 ≤ 2; decide, depth_pD l⟩
  | (a, none) :: l => Nat.max_le.mpr ⟨by show max 0 (max 0 0) + 1 ≤ 2; decide, depth_pD l⟩
theorem shaped_arcs (ns : List Int) : SeqAt.shaped (arcsD ns) = true := by
  rw [arcs_apL]
  show (PyData.canLayAll0 ((apL ns).map pD) && decide (PyData.depthAll ((apL ns).map pD) + 1 ≤ 64)) = true
  rw [lay_pD, decide_eq_true (by have := depth_pD (apL ns); omega)]
  rfl
theorem okD_ints (ns : List Int) (h : ns.length ≤ 1000) : okD 1 (dI ns) := by
  refine ⟨by rw [List.length_map]; omega, fun x hx => ?_⟩
  obtain ⟨n, _, rfl⟩ := List.mem_map.mp hx
  trivial
end L04
set_option Elab.async false
set_option linter.all false
set_option maxRecDepth 100000
namespace L04
open PySem PySem.Spec PyProof.Rows L2 Lp
theorem hist_take {ns : List Int} (hh : Hist ns) (n : Nat) : Hist (ns.take n) := by
  refine ⟨fun e he => hh.rng e (List.mem_of_mem_take he), hh.nd.sublist (List.take_sublist _ _), fun i e he h0 => ?_, by have := hh.len; rw [List.length_take]; omega⟩
  have hi := lt_get he
  rw [List.length_take] at hi
  rw [List.getElem?_take_of_lt (by omega)] at he
  rw [List.take_take, Nat.min_eq_left (by omega)]
  exact hh.ord i e he h0
theorem hist4 : Hist [7, 3, -7, -3] := by
  refine ⟨by decide, by decide, fun i e he h0 => ?_, by decide⟩
  have hi := lt_get he
  have c : i = 0 ∨ i = 1 ∨ i = 2 ∨ i = 3 := by
    have : i < 4 := hi
    omega
  rcases c with rfl | rfl | rfl | rfl <;> (cases he) <;> first | exact absurd h0 (by decide) | decide
theorem hist0 : Hist [] := ⟨by decide, by decide, fun i e he h0 => by simp at he, by decide⟩
theorem stL_succ {ns : List Int} {i : Nat} {e : Int} (he : ns[i]? = some e) : stL (ns.take (i + 1)) = stL (ns.take i) ++ if 0 < e then [e] else [] := by
  unfold stL
  rw [take_get he, List.filter_append, List.filter_cons]
  by_cases h : 0 < e <;> simp [h]
theorem num_at {ns : List Int} (hh : Hist ns) {i : Nat} {e : Int} (he : ns[i]? = some e) (h0 : 0 < e) : numL ns e = (((stL (ns.take i)).length : Nat) : Int) + 1 := by
  have hm := mem_stL (mem_get he) h0
  have hi := lt_get he
  have e1 : stL ns = stL (ns.take (i + 1)) ++ stL (ns.drop (i + 1)) := by
    unfold stL
    rw [← List.filter_append, List.take_append_drop]
  have g : (stL ns)[(stL (ns.take i)).length]? = some e := by
    rw [e1, stL_succ he, if_pos h0, List.append_assoc, List.getElem?_append_right (Nat.le_refl _), Nat.sub_self]
    rfl
  have := nd_ix (stL_nd hh) (idx_get hm) g
  unfold numL
  rw [this]
theorem keys_put_new {kvs : List (Key × V)} {k : Key} {v : V} (h : k ∉ kvs.map (·.1)) : (putK kvs k v).map (·.1) = kvs.map (·.1) ++ [k] := by
  unfold putK
  have e : (kvs.any fun kv => decide (kv.1 = k)) = false := by
    cases e : (kvs.any fun kv => decide (kv.1 = k)) with
    | false => rfl
    | true =>
      obtain ⟨p, hp, e⟩ := List.any_eq_true.mp e
      exact absurd (List.mem_map.mpr ⟨p, hp, of_decide_eq_true e⟩) h
  rw [e, if_neg (fun z => nomatch z), List.map_append]
  rfl
def kI (l : List Int) : List Key := l.map Sum.inl
theorem kI_mem {l : List Int} {k : Int} : (Sum.inl k : Key) ∈ kI l ↔ k ∈ l := by
  constructor
  · intro h
    obtain ⟨x, hx, e⟩ := List.mem_map.mp h
    cases e
    exact hx
  · exact fun h => List.mem_map.mpr ⟨k, h, rfl⟩
/-- the dict of the numbers -/
structure NRel (kvs : List (Key × V)) (l : List Int) (ns : List Int) : Prop where
  keys : kvs.map (·.1) = kI l
  vals : ∀ k ∈ l, valV kvs (Sum.inl k) = some (.int (numL ns k))
theorem NRel.len {kvs : List (Key × V)} {l ns : List Int} (r : NRel kvs l ns) : kvs.length = l.length := by
  have := congrArg List.length r.keys
  unfold kI at this
  rw [List.length_map, List.length_map] at this
  exact this
theorem NRel.new {kvs : List (Key × V)} {l ns : List Int} {a : Int} (r : NRel kvs l ns) (ha : a ∉ l) : NRel (putK kvs (Sum.inl a) (.int (numL ns a))) (l ++ [a]) ns := by
  refine ⟨?_, fun v hv => ?_⟩
  · rw [keys_put_new (by rw [r.keys]; exact fun z => ha (kI_mem.mp z)), r.keys]
    unfold kI
    rw [List.map_append]
    rfl
  · rw [valV_put]
    by_cases z : v = a
    · subst z
      rw [if_pos rfl]
    · rw [if_neg (fun q => z (Sum.inl.inj q))]
      rcases List.mem_append.mp hv with y | y
      · exact r.vals v y
      · exact absurd (List.mem_singleton.mp y) z
section
variable {P : Program} {w : World} {K : PySem.W.Frag} {mg : Str → Option Value} {base : Heap}
/-! ### _law_holds -/
def spHolds : Sp := fun vs H Q _ => ∃ (src : Addr) (most : Int) (n : Nat), vs = [.ref src, .int most] ∧ Src H src n ∧ n ≤ 100000 ∧ 0 ≤ most ∧ most ≤ 200 ∧ ∀ H', Bt src H H' → Q (.bl true) H'
set_option maxHeartbeats 2000000 in
theorem ok_law_holds {f : Addr} {fd : FuncData} (F : Fun K "_law_holds" "_law_holds" s_law_holds f fd) (B : NoB mg) (T_law_row : Gc P w K mg base 2 "_law_row" spRow) (T_renumbered : Gc P w K mg base 7 "renumbered" (spRen K)) (T_law_equal : Gc P w K mg base 2 "_law_equal" (spEqD K 1))
    (T_is_plain : Gc P w K mg base 7 "is_plain" (spPlain K)) (T_arcs_of : Gc P w K mg base 7 "arcs_of" (spArcs K)) (T_is_nested : Gc P w K mg base 7 "is_nested" (spNest K)) : FnG P w K mg base CX0 8 f fd ["source", "most"] spHolds := by
  refine okG F sc_law_holds (fun vs H Q E h => ?_) (fun cdv A outer s H vs Q E hG hr h => ?_)
  · obtain ⟨src, most, n, rfl, _⟩ := h
    rfl
  · obtain ⟨src, most, n, rfl, hs, hn, o1, o2, q⟩ := h
    have hu := hu_of hr
    have hu64 := hr.units
    refine ⟨_, (pss_cons (ps_par (i := 2) (j := 3) (by rfl) sc_law_holds.nd rfl rfl (by decide) rfl rfl (pa_cons (pe_g T_law_row hG hr (by decide) (by rfl) (pa_cons (pv 0) (pa_cons (pv 1) pa_nil))) (pa_cons (pe_g T_law_row hG hr (by decide) (by rfl) (pa_cons (pv 0) (pa_cons (pe_callB (call_min2 rfl) (by rfl) B.min (by decide +kernel) (pa_cons (pv 1) (pa_cons pe_int pa_nil))) pa_nil))) pa_nil)) (by rfl))
        (pss_cons (ps_for PassesOwn.never rfl (pi_list (pe_lst (pa_cons (pv 2) (pa_cons (pe_slice sl_list (pv 2) po_none (po_some (pe_op op_fdivW (pe_callB call_len_seq (by rfl) B.len PySem.boot_len (pa_cons (pv 2) pa_nil)) pe_int))) (pa_cons (pv 3) pa_nil))))) (pg_name (i := 4) sc_law_holds.nd rfl (Or.inl rfl))
          (pss_cons (ps_par3 (i := 5) (j := 6) (l := 7) (by rfl) sc_law_holds.nd rfl rfl rfl (by decide) (by decide) (by decide) rfl rfl rfl (pa_cons (pe_callB (call_repr hG hu64) (by rfl) B.repr (by decide +kernel) (pa_cons (pv 4) pa_nil)) (pa_cons pe_dnewK (pa_cons (pe_lst pa_nil) pa_nil))) (by rfl))
          (pss_cons (ps_for PassesOwn.never rfl (pi_list (pv 4)) (pg_name (i := 8) sc_law_holds.nd rfl (Or.inl rfl))
            (Evl.pss_cut (ps_if (pt_cmpR op_gt (pv 8) pe_int (nomark _)) (pss_one (ps_dput hu (pv 6) (pv 8) (pe_op op_add (pe_callB call_lenD (by rfl) B.len PySem.boot_len (pa_cons (pv 6) pa_nil)) pe_int) rfl)) pss_nil)
            (pss_one (ps_expr (pe_bm PySem.F.plainAttrs_list PySem.F.slot_list_append PySem.F.type_list_append mt_append (pv 7) (pa_cons (pe_ifExp (pt_cmpR op_gt (pv 8) pe_int (nomark _)) (pe_dget hu (pv 6) (pv 8) (fun _ _ => rfl)) (pe_op op_sub pe_int (pe_dget hu (pv 6) (pe_op op_sub pe_int (pv 8)) (fun _ _ => rfl)))) pa_nil))))))
          (pss_cons (ps_for PassesOwn.never rfl (pi_range1 rfl B.range (pa_cons pe_int pa_nil)) (pg_name (i := 9) sc_law_holds.nd rfl (Or.inl rfl))
            (pss_cons (ps_set (i := 10) sc_law_holds.nd rfl (Or.inl rfl) (pe_g T_renumbered hG hr (by decide) (by rfl) (pa_cons (pv 4) pa_nil)))
            (pss_cons (ps_if (PW.pt (pw_or (pt_not (pt_val (pe_g T_law_equal hG hr (by decide) (by rfl) (pa_cons (pv 10) (pa_cons (pv 7) pa_nil))))) (pw_or1 (pt_cmpR op_ne (pe_callB (call_repr hG hu64) (by rfl) B.repr (by decide +kernel) (pa_cons (pv 4) pa_nil)) (pv 5) (nomark _))))) (pss_one (ps_ret pe_bl)) pss_nil)
            (pss_one (ps_expr (pe_bm PySem.F.plainAttrs_list PySem.F.slot_list_append PySem.F.type_list_append mt_append (pv 10) (pa_cons pe_int pa_nil)))))))
          (pss_cons (ps_if (PW.pt (pw_or (pt_cmpR (op_neD hu64) (pe_g T_renumbered hG hr (by decide) (by rfl) (pa_cons (pv 7) pa_nil)) (pv 7) (nomark _)) (pw_or (pt_cmpR op_notBl (pe_g T_is_plain hG hr (by decide) (by rfl) (pa_cons (pv 7) pa_nil)) pe_bl (nomark _)) (pw_or1 (pt_cmpR op_ne (pe_g T_is_plain hG hr (by decide) (by rfl) (pa_cons (pv 4) pa_nil)) (pe_cmpR (op_eqD hu64) (pv 4) (pv 7) (nomark _)) (nomark _)))))) (pss_one (ps_ret pe_bl)) pss_nil)
          (pss_cons (ps_if (PW.pt (pw_or (pt_cmpR (op_neD hu64) (pe_g T_arcs_of hG hr (by decide) (by rfl) (pa_cons (pv 7) pa_nil)) (pe_g T_arcs_of hG hr (by decide) (by rfl) (pa_cons (pv 4) pa_nil)) (nomark _)) (pw_or1 (pt_cmpR op_ne (pe_g T_is_nested hG hr (by decide) (by rfl) (pa_cons (pv 7) pa_nil)) (pe_g T_is_nested hG hr (by decide) (by rfl) (pa_cons (pv 4) pa_nil)) (nomark _))))) (pss_one (ps_ret pe_bl)) pss_nil)
          (pss_cons (ps_setLc (i := 11) (own := [("event", 8)]) (g := gName 8) (tt := tYes) rfl sc_law_holds.nd rfl rfl (sw_true rfl rfl rfl (by decide +kernel)) (pi_list (pv 4)) (blkOk_by (own := [("event", 8)]) (N := N_law_holds) (sc := defScope s_law_holds) (by decide +kernel)) (fun _ _ _ _ _ => (pg_name (i := 8) sc_law_holds.nd rfl (Or.inl rfl))) (fun _ _ _ _ _ => pts_nil) (fun _ _ _ _ _ => (pe_ifExp (pt_cmpR op_gt (pv 8) pe_int (nomark _)) (pe_op op_sub pe_int (pv 8)) (pe_op op_sub pe_int (pe_op op_add pe_int (pv 8))))))
          (pss_cons (ps_if (pt_cmpR (op_neD hu64) (pe_g T_renumbered hG hr (by decide) (by rfl) (pa_cons (pv 11) pa_nil)) (pv 7) (nomark _)) (pss_one (ps_ret pe_bl)) pss_nil)
          (pss_one (ps_for PassesOwn.never rfl (pi_list (pe_lst (pa_cons (pv 2) (pa_cons (pv 3) pa_nil)))) (pg_name (i := 12) sc_law_holds.nd rfl (Or.inl rfl))
            (pss_one (ps_if (pt_cmpR op_ne (pe_cmpR (op_eqD hu64) (pe_g T_renumbered hG hr (by decide) (by rfl) (pa_cons (pv 12) pa_nil)) (pv 7) (nomark _)) (pe_cmpR (op_eqD hu64) (pe_g T_arcs_of hG hr (by decide) (by rfl) (pa_cons (pv 12) pa_nil)) (pe_g T_arcs_of hG hr (by decide) (by rfl) (pa_cons (pv 4) pa_nil)) (nomark _)) (nomark _)) (pss_one (ps_ret pe_bl)) pss_nil))))))))))))
        (pss_one (ps_ret (pe_and (pe_cmpR (op_eqD hu64) (pe_g T_renumbered hG hr (by decide) (by rfl) (pa_cons (pe_lst (pa_cons pe_int (pa_cons pe_int (pa_cons (pe_un un_neg pe_int) (pa_cons (pe_un un_neg pe_int) pa_nil))))) pa_nil)) (pe_lst (pa_cons pe_int (pa_cons pe_int (pa_cons (pe_un un_neg pe_int) (pa_cons (pe_un un_neg pe_int) pa_nil))))) (nomark _)) (pe_one (pe_cmpR (op_eqD hu64) (pe_g T_renumbered hG hr (by decide) (by rfl) (pa_cons (pe_lst pa_nil) pa_nil)) (pe_lst pa_nil) (nomark _)))))))), ?_⟩
    refine ⟨_, rfl, _, rfl, src, most, n, rfl, hs, by omega, o1, o2, fun H1 p1 row hh1 l1 b1 hs1 n1 h1 => ?_⟩
    have p1s := hs.ne n1
    refine ⟨_, rfl, _, rfl, _, _, rfl, src, _, n + 2000, rfl, hs1, by omega, by split <;> omega, by split <;> omega, fun H2 p2 oth hh2 l2 b2 hs2 n2 h2 => ⟨.ref p1, .ref p2, rfl, ?_⟩⟩
    have h12 := b2 _ _ p1s h1
    have b02 := b1.trans b2
    have len1 := hh1.len
    have len2 := hh2.len
    refine ⟨_, rfl, _, rfl, _, rfl, p1, _, rfl, .inl (.of h12), _, _, rfl, rfl, wide_div (b := 30) (by decide) (by decide) (by decide) (by decide), _, rfl, p1, _, rfl, .of h12, fun p3 np3 => ?_⟩
    have ecut : cutV (row.map V.int) none (some ((((row.map V.int).length : Nat) : Int) / 2)) = (row.take (row.length / 2)).map V.int := by
      have e : (((row.map V.int).length : Nat) : Int) / 2 = ((row.length / 2 : Nat) : Int) := by rw [List.length_map]; omega
      rw [e, cut_take _ _ (by rw [List.length_map]; omega), ← List.map_take]
    rw [ecut]
    have s23 := same_new (o := .lst ((row.take (row.length / 2)).map V.int)) np3
    have h13 := s23 _ _ h12
    have h23 := s23 _ _ h2
    have h33 : (upd H2 p3 (.lst ((row.take (row.length / 2)).map V.int))) p3 = some (.lst ((row.take (row.length / 2)).map V.int)) := upd_same
    have b03 : Bt src H (upd H2 p3 (.lst ((row.take (row.length / 2)).map V.int))) := b02.trans (.of s23)
    generalize upd H2 p3 (.lst ((row.take (row.length / 2)).map V.int)) = Hc at h13 h23 h33 b03 ⊢
    refine ⟨_, rfl, by show 3 ≤ sizeLine; decide, fun A nA => ⟨A, rfl, ⟨_, .of upd_same⟩, ?_⟩⟩
    refine for_list (xs := [V.ref p1, .ref p3, .ref p2]) (fun i σ H' => (∃ y4 y5 y6 y7 y8 y9 y10 y11 y12, σ = [some (.ref src), some (.int most), some (.ref p1), some (.ref p2), y4, y5, y6, y7, y8, y9, y10, y11, y12]) ∧ Same Hc H' ∧ H' A = some (.lst [V.ref p1, .ref p3, .ref p2]))
      ⟨⟨_, _, _, _, _, _, _, _, _, rfl⟩, same_new nA, upd_same⟩ (fun i σ H' _ h => .of h.2.2) (fun i x σ H3 hx h => ?_) (fun σ H' h => ?_)
    · obtain ⟨⟨y4, y5, y6, y7, y8, y9, y10, y11, y12, rfl⟩, sm, hA⟩ := h
      obtain ⟨ps, S, rfl, hps, hh⟩ : ∃ (ps : Addr) (S : List Int), x = .ref ps ∧ Hc ps = some (.lst (S.map V.int)) ∧ Hist S := by
        have hj := lt_get hx
        have cc : i = 0 ∨ i = 1 ∨ i = 2 := by
          have : i < 3 := hj
          omega
        rcases cc with rfl | rfl | rfl <;> cases hx
        · exact ⟨p1, row, rfl, h13, hh1⟩
        · exact ⟨p3, _, rfl, h33, hist_take hh1 _⟩
        · exact ⟨p2, oth, rfl, h23, hh2⟩
      have hb : ∀ n ∈ S, -100 ≤ n ∧ n ≤ 100 := fun n m => (hh.rng n m).2
      have hlen := hh.len
      have hl : S.length ≤ 1000 := by omega
      have hp3 := sm _ _ hps
      -- before, numbers, due
      refine ⟨_, rfl, ps, dI S, rfl, dp_ints (.of hp3), rI1 hb, noDict_ints S, rI2 S, shown_ints hb hl, fun dn ndn => ⟨Nat.zero_le _, fun du ndu => ⟨_, _, _, rfl, ?_⟩⟩⟩
      have nnd : dn ≠ du := ne_of_none upd_same ndu
      have ndu3 : H3 du = none := by rw [upd_ne nnd.symm] at ndu; exact ndu
      have s4 : Same H3 (upd (upd H3 dn (.dK [])) du (.lst [])) := (same_new ndn).trans (same_new ndu)
      -- for event in some
      refine ⟨_, rfl, ps, rfl, ⟨_, .of (s4 _ _ hp3)⟩, for_list (xs := S.map V.int) (fun j σ H' => (∃ y8 y9 y10 y11 y12, σ = [some (.ref src), some (.int most), some (.ref p1), some (.ref p2), some (.ref ps), some (.str (dI S).shown), some (.ref dn), some (.ref du), y8, y9, y10, y11, y12]) ∧ Same H3 H' ∧
        (∃ kv, H' dn = some (.dK kv) ∧ NRel kv (stL (S.take j)) S) ∧ H' du = some (.lst (((S.take j).map (rnE S)).map V.int))) ⟨⟨_, _, _, _, _, rfl⟩, s4, ⟨[], ?_, rfl, fun k hk => absurd hk List.not_mem_nil⟩, upd_same⟩ (fun j σ H' _ h => .of (h.2.1 _ _ hp3)) (fun j x σ H' hx h => ?_) (fun σ H' h => ?_)⟩
      · rw [upd_ne nnd, upd_same]
      · obtain ⟨e, rfl, he⟩ := get_int hx
        obtain ⟨⟨y8, y9, y10, y11, y12, rfl⟩, sm2, ⟨kv, hkv, kr⟩, hdu⟩ := h
        have hj := lt_get he
        have kvl := kr.len
        have sle := stL_len (S.take j)
        rw [List.length_take] at sle
        have e0 := (hh.rng e (mem_get he)).1
        have hput : ((S.take (j + 1)).map (rnE S)).map V.int = ((S.take j).map (rnE S)).map V.int ++ [.int (rnE S e)] := by
          rw [take_get he, List.map_append, List.map_append]
          rfl
        have hz : (((S.take j).map (rnE S)).map V.int).length < sizeLine := by
          rw [List.length_map, List.length_map, List.length_take]
          exact zl (by omega)
        refine ⟨fun σ'' H'' => σ'' = [some (.ref src), some (.int most), some (.ref p1), some (.ref p2), some (.ref ps), some (.str (dI S).shown), some (.ref dn), some (.ref du), some (.int e), y9, y10, y11, y12] ∧ Same H3 H'' ∧
          (∃ kv, H'' dn = some (.dK kv) ∧ NRel kv (stL (S.take (j + 1))) S) ∧ H'' du = some (.lst (((S.take j).map (rnE S)).map V.int)), ?_, fun σ'' H'' hm => ?_⟩
        · by_cases h0 : 0 < e
          · have na := num_at hh he h0
            refine ⟨_, rfl, _, _, rfl, rfl, true, dT h0, ?_⟩
            refine ⟨_, rfl, dn, kv, rfl, hkv, _, _, rfl, rfl, _, rfl, _, rfl, dn, _, rfl, DPut.k (k := Sum.inl e) hkv (zl (by omega)), rfl, Lp.Same.mut sm2 ndn, ⟨_, upd_same, ?_⟩, ?_⟩
            · have z := kr.new (a := e) (fun z => by
                have := (List.mem_filter.mp z).1
                exact not_mem_take hh.nd he this)
              rw [stL_succ he, if_pos h0]
              rw [na, ← kvl] at z
              exact z
            · rw [upd_ne nnd.symm]
              exact hdu
          · refine ⟨_, rfl, _, _, rfl, rfl, false, dF h0, rfl, sm2, ⟨kv, hkv, ?_⟩, hdu⟩
            rw [stL_succ he, if_neg h0, List.append_nil]
            exact kr
        · obtain ⟨rfl, sm3, ⟨kw, hkw, kwr⟩, hdu3⟩ := hm
          by_cases h0 : 0 < e
          · have vk := kwr.vals e (by rw [stL_succ he, if_pos h0]; exact List.mem_append_right _ (List.mem_singleton.mpr rfl))
            refine ⟨_, rfl, .inl ⟨rfl, _, .of hdu3⟩, _, rfl, _, _, rfl, rfl, true, dT h0, ?_⟩
            refine ⟨_, rfl, _, rfl, dn, _, rfl, dget (.inl hkw) vk, du, _, _, rfl, rfl, hdu3, hz, ⟨_, _, _, _, _, rfl⟩, Lp.Same.mut sm3 ndu3, ⟨kw, ?_, kwr⟩, ?_⟩
            · rw [upd_ne nnd]
              exact hkw
            · rw [upd_same, hput]
              unfold rnE
              rw [if_pos h0]
          · have hneg : e < 0 := by omega
            have ez : (0 : Int) - e = -e := Int.zero_sub e
            have vk := kwr.vals (-e) (by rw [stL_succ he]; exact List.mem_append_left _ (mem_stL (hh.ord j e he hneg) (by omega)))
            refine ⟨_, rfl, .inl ⟨rfl, _, .of hdu3⟩, _, rfl, _, _, rfl, rfl, false, dF h0, ?_⟩
            refine ⟨_, rfl, _, rfl, _, _, rfl, rfl, dn, .int (numL S (-e)), rfl, by show DGet H'' dn (.int (0 - e)) _; rw [ez]; exact dget (.inl hkw) vk, _, _, rfl, rfl, du, _, _, rfl, rfl, hdu3, hz, ⟨_, _, _, _, _, rfl⟩, Lp.Same.mut sm3 ndu3, ⟨kw, ?_, kwr⟩, ?_⟩
            · rw [upd_ne nnd]
              exact hkw
            · rw [upd_same, hput]
              show some (HO.lst (_ ++ [V.int (0 - numL S (-e))])) = _
              unfold rnE
              rw [if_neg h0, Int.zero_sub]
      · obtain ⟨⟨y8, y9, y10, y11, y12, rfl⟩, sm2, _, hdu⟩ := h
        rw [List.length_map, List.take_length] at hdu
        have hdu : H' du = some (.lst ((rn S).map V.int)) := hdu
        have smC := sm.trans sm2
        have hpH := smC _ _ hps
        have hhr := hist_rn hh
        have rlen : (rn S).length = S.length := List.length_map ..
        have hrl : (rn S).length ≤ 1000 := by omega
        -- for attempt in range(2)
        refine ⟨2, rfl, by decide, by decide, ?_⟩
        refine for_range (lo := 0) (n := 2) (fun j σ H'' => (∃ y8 y9 y10 y11 y12, σ = [some (.ref src), some (.int most), some (.ref p1), some (.ref p2), some (.ref ps), some (.str (dI S).shown), some (.ref dn), some (.ref du), y8, y9, y10, y11, y12]) ∧ Same H' H'') ⟨⟨_, _, _, _, _, rfl⟩, .refl _⟩ (fun j σ H4 hj h => ?_) (fun σ H4 h => ?_)
        · obtain ⟨⟨y8, y9, y10, y11, y12, rfl⟩, sj⟩ := h
          have hp4 := sj _ _ hpH
          refine ⟨_, rfl, ps, S, rfl, .of hp4, hh, fun H5 t s5 ht nt => ?_⟩
          refine ⟨_, rfl, _, rfl, .ref t, .ref du, dI (rn S), rfl, dp_ints (.of ht), dp_ints (.of (s5 _ _ (sj _ _ hdu))), okD_ints (rn S) hrl, fun H6 s6 => ⟨true, rfl, ?_⟩⟩
          refine ⟨_, rfl, ps, dI S, rfl, dp_ints (.of (s6 _ _ (s5 _ _ hp4))), rI1 hb, noDict_ints S, rI2 S, shown_ints hb hl, _, rfl, rfl, false, nF rfl, ?_⟩
          have ht6 := s6 _ _ ht
          have nt' : H' t = none := sj.free nt
          exact ⟨_, rfl, .inl ⟨rfl, _, .of ht6⟩, t, _, _, rfl, rfl, ht6, by rw [List.length_map]; exact zl (by omega), ⟨_, _, _, _, _, rfl⟩, Lp.Same.mut ((sj.trans s5).trans s6) nt'⟩
        · obtain ⟨⟨y8, y9, y10, y11, y12, rfl⟩, sj⟩ := h
          have hp4 := sj _ _ hpH
          have hd4 := sj _ _ hdu
          refine ⟨_, rfl, du, rn S, rfl, .of hd4, hhr, fun H5 t5 s5 ht5 nt5 => ?_⟩
          refine ⟨_, rfl, dI (rn (rn S)), dI (rn S), dp_ints (.of ht5), dp_ints (.of (s5 _ _ hd4)), shaped_ints _, shaped_ints _, false, neqF (rn_rn hh), ?_⟩
          refine ⟨_, rfl, du, rn S, rfl, .of (s5 _ _ hd4), hhr, fun H6 s6 => ⟨_, true, rfl, rfl, false, by rw [decide_eq_true (plain_rn hh)]; rfl, ?_⟩⟩
          have s46 := s5.trans s6
          refine ⟨_, rfl, ps, S, rfl, .of (s46 _ _ hp4), hh, fun H7 s7 => ?_⟩
          have s47 := s46.trans s7
          refine ⟨_, rfl, _, rfl, dI S, dI (rn S), dp_ints (.of (s47 _ _ hp4)), dp_ints (.of (s47 _ _ hd4)), shaped_ints _, shaped_ints _, rfl, false, nF (congrArg V.bl (by rw [eqv_ints]; exact decide_eq_decide.mpr (plain_iff hh))), ?_⟩
          -- arcs, nested
          refine ⟨_, rfl, du, rn S, rfl, .of (s47 _ _ hd4), hhr, fun H8 a8 s8 d8 n8 => ⟨_, rfl, ps, S, rfl, .of (s8 _ _ (s47 _ _ hp4)), hh, fun H9 a9 s9 d9 n9 => ?_⟩⟩
          refine ⟨arcsD (rn S), arcsD S, dp_same s9 d8, d9, shaped_arcs _, shaped_arcs _, false, by rw [eqv_arcs, decide_eq_true (apL_iff.mp (arcs_rn hh))]; rfl, ?_⟩
          have s49 := (s47.trans s8).trans s9
          refine ⟨_, rfl, du, rn S, rfl, .of (s49 _ _ hd4), hhr, fun HA sA => ⟨_, rfl, ps, S, rfl, .of (sA _ _ (s49 _ _ hp4)), hh, fun HB sB => ⟨rfl, false, nF (congrArg V.bl (nested_rn hh)), ?_⟩⟩⟩
          have s4B := (s49.trans sA).trans sB
          have hpB := s4B _ _ hp4
          -- turned
          refine ⟨_, rfl, ps, rfl, ⟨_, .of hpB⟩, fun D nD => lc_list (xs := S.map V.int) (LcP HB D fun j => ((S.take j).map (rl fun k => 101 - k)).map V.int) (.init nD rfl) (fun j H' _ p => .of (p.2.1 _ _ hpB)) (fun j x H' hx p => ?_) (fun HC p => ?_)⟩
          · obtain ⟨e, rfl, he⟩ := get_int hx
            have hj := lt_get he
            have hput : ∀ y, y = V.int (rl (fun k => 101 - k) e) → ((S.take (j + 1)).map (rl fun k => 101 - k)).map V.int = ((S.take j).map (rl fun k => 101 - k)).map V.int ++ [y] := fun y hy => by
              rw [take_get he, List.map_append, List.map_append, hy]
              rfl
            have hz : (((S.take j).map (rl fun k => 101 - k)).map V.int).length < 100000 := by
              rw [List.length_map, List.length_map, List.length_take]
              omega
            refine ⟨rfl, ?_⟩
            by_cases h0 : 0 < e
            · refine ⟨_, rfl, _, _, rfl, rfl, true, dT h0, ?_⟩
              refine ⟨_, rfl, _, _, rfl, rfl, p.put (.refl _) (hput _ ?_) hz⟩
              unfold rl
              rw [if_pos h0]
            · refine ⟨_, rfl, _, _, rfl, rfl, false, dF h0, ?_⟩
              refine ⟨_, rfl, _, _, rfl, rfl, _, _, rfl, rfl, p.put (.refl _) (hput _ ?_) hz⟩
              unfold rl
              rw [if_neg h0]
              exact congrArg V.int (by show (0 : Int) - (101 + e) = -(101 - -e); omega)
          · have hD := p.2.2
            rw [List.length_map] at hD
            have hD : HC D = some (.lst (((S.take S.length).map (rl fun k => 101 - k)).map V.int)) := hD
            rw [List.take_length] at hD
            have s4C := s4B.trans p.2.1
            have rt := rel_turn hh
            refine ⟨_, rfl, D, _, rfl, .of hD, hist_rl hh rt, fun HE t sE ht nt => ?_⟩
            refine ⟨_, rfl, dI (rn (S.map (rl fun k => 101 - k))), dI (rn S), dp_ints (.of ht), dp_ints (.of (sE _ _ (s4C _ _ hd4))), shaped_ints _, shaped_ints _, false, neqF (rn_rl hh rt), ?_⟩
            have s4E := s4C.trans sE
            -- for third
            refine ⟨_, rfl, _, rfl, by show 2 ≤ sizeLine; decide, fun A2 nA2 => ⟨A2, rfl, ⟨_, .of upd_same⟩, ?_⟩⟩
            refine for_list (xs := [V.ref p1, .ref p2]) (fun j σ H'' => (∃ y8 y9 y10 y11 y12, σ = [some (.ref src), some (.int most), some (.ref p1), some (.ref p2), some (.ref ps), some (.str (dI S).shown), some (.ref dn), some (.ref du), y8, y9, y10, y11, y12]) ∧ Same HE H'' ∧ H'' A2 = some (.lst [V.ref p1, .ref p2])) ⟨⟨_, _, _, _, _, rfl⟩, same_new nA2, upd_same⟩ (fun j σ H' _ h => .of h.2.2) (fun j x σ HF hx h => ?_) (fun σ HF h => ?_)
            · obtain ⟨⟨y8, y9, y10, y11, y12, rfl⟩, sF, hA2⟩ := h
              obtain ⟨pt, R, rfl, hpt, hhR⟩ : ∃ (pt : Addr) (R : List Int), x = .ref pt ∧ Hc pt = some (.lst (R.map V.int)) ∧ Hist R := by
                have hj := lt_get hx
                have cc : j = 0 ∨ j = 1 := by
                  have : j < 2 := hj
                  omega
                rcases cc with rfl | rfl <;> cases hx
                · exact ⟨p1, row, rfl, h13, hh1⟩
                · exact ⟨p2, oth, rfl, h23, hh2⟩
              have sCF : Same Hc HF := ((smC.trans sj).trans s4E).trans sF
              have hptF := sCF _ _ hpt
              have hpF := sCF _ _ hps
              have hdF := sF _ _ (s4E _ _ hd4)
              refine ⟨_, rfl, pt, R, rfl, .of hptF, hhR, fun HG tg sG htg ntg => ?_⟩
              refine ⟨_, rfl, dI (rn R), dI (rn S), dp_ints (.of htg), dp_ints (.of (sG _ _ hdF)), shaped_ints _, shaped_ints _, ?_⟩
              refine ⟨_, rfl, pt, R, rfl, .of (sG _ _ hptF), hhR, fun HI ti sI dti nti => ⟨_, rfl, ps, S, rfl, .of (sI _ _ (sG _ _ hpF)), hh, fun HJ tj sJ dtj ntj => ?_⟩⟩
              have sFJ := (sG.trans sI).trans sJ
              exact ⟨arcsD R, arcsD S, dp_same sJ dti, dtj, shaped_arcs _, shaped_arcs _, rfl, false, nF (congrArg V.bl (by rw [eqv_ints, eqv_arcs]; exact decide_eq_decide.mpr ((rn_iff hhR hh).trans apL_iff))), ⟨_, _, _, _, _, rfl⟩, sF.trans sFJ, sFJ _ _ hA2⟩
            · obtain ⟨⟨y8, y9, y10, y11, y12, rfl⟩, sF, hA2⟩ := h
              exact ⟨⟨_, _, _, _, _, _, _, _, _, rfl⟩, ((smC.trans sj).trans s4E).trans sF, (((sm2.trans sj).trans s4E).trans sF) _ _ hA⟩
    · obtain ⟨⟨y4, y5, y6, y7, y8, y9, y10, y11, y12, rfl⟩, sm, hA⟩ := h
      refine ⟨7, rfl, 3, rfl, by show 4 ≤ sizeLine; decide, fun e ne => ⟨e, [7, 3, -7, -3], rfl, .of upd_same, hist4, fun H4 t s4 ht nt => ⟨1, rfl, 2, rfl, by show 4 ≤ sizeLine; decide, fun g ng => ?_⟩⟩⟩
      refine ⟨dI (rn [7, 3, -7, -3]), dI [1, 2, -1, -2], dp_ints (.of (same_new ng _ _ ht)), dp_ints (ns := [1, 2, -1, -2]) (.of upd_same), shaped_ints _, shaped_ints _, true, eqvT (by decide), ?_⟩
      refine ⟨Nat.zero_le _, fun e2 ne2 => ⟨e2, [], rfl, .of upd_same, hist0, fun H5 t5 s5 ht5 nt5 => ⟨Nat.zero_le _, fun g2 ng2 => ?_⟩⟩⟩
      refine ⟨dI (rn []), dI [], dp_ints (.of (same_new ng2 _ _ ht5)), dp_ints (ns := []) (.of upd_same), shaped_ints _, shaped_ints _, ?_⟩
      rw [eqvT (show rn [] = [] from rfl)]
      have s6 := ((((same_new (o := .lst [V.int 7, .int 3, .int (-7), .int (-3)]) ne).trans s4).trans (same_new (o := .lst [V.int 1, .int 2, .int (-1), .int (-2)]) ng)).trans (same_new (o := .lst []) ne2)).trans (s5.trans (same_new (o := .lst []) ng2))
      exact q _ (b03.trans (.of (sm.trans s6)))
end
end L04
set_option Elab.async false
set_option linter.all false
set_option maxRecDepth 100000
namespace L04
open PySem PySem.Spec PyProof.Rows L2 Lp
section
variable {P : Program} {w : World} {K : PySem.W.Frag} {mg : Str → Option Value} {base : Heap}
def spLaw (K : PySem.W.Frag) : Sp := fun vs H Q _ => ∃ (a : Addr) (ns : List Int), vs = [.ref a] ∧ SqL K H a (ns.map V.int) ∧ ns.length ≤ 63 ∧ ∀ H', Q (.bl true) H'
theorem ok_law {f : Addr} {fd : FuncData} (F : Fun K "law" "law" s_law f fd) (B : NoB mg) (T_law_source : Gc P w K mg base 1 "_law_source" spSource) (T_law_holds : Gc P w K mg base 8 "_law_holds" spHolds) : FnG P w K mg base CX0 9 f fd ["script"] (spLaw K) := by
  refine okG F sc_law (fun vs H Q E h => ?_) (fun cdv A outer s H vs Q E hG hr h => ?_)
  · obtain ⟨a, ns, rfl, _⟩ := h
    rfl
  · obtain ⟨sc, ns, rfl, hS, hl, q⟩ := h
    have hu64 := hr.units
    refine ⟨_, (pss_cons (ps_for PassesOwn.never rfl (pi_enum (by rfl) B.enumerate (pa_cons (pe_slice sl_list (pe_op op_catS (pv 0) (pe_lst (pa_cons pe_int pa_nil))) po_none (po_some (pe_callB (call_max2 rfl) (by rfl) B.max (by decide +kernel) (pa_cons pe_int (pa_cons (pe_callB (call_min2 rfl) (by rfl) B.min (by decide +kernel) (pa_cons (pe_callB call_len_seq (by rfl) B.len PySem.boot_len (pa_cons (pv 0) pa_nil)) (pa_cons pe_int pa_nil))) pa_nil))))) pa_nil)) (pg_tup rfl (pgs_cons (pg_name (i := 1) sc_law.nd rfl (Or.inl rfl)) (pgs_cons (pg_name (i := 2) sc_law.nd rfl (Or.inl rfl)) pgs_nil)))
          (pss_one (ps_if (pt_not (pt_val (pe_g T_law_holds hG hr (by decide) (by rfl) (pa_cons (pe_g T_law_source hG hr (by decide) (by rfl) (pa_cons (pv 2) (pa_cons (pv 1) pa_nil))) (pa_cons (pe_ifExp (pt_cmpR (op_eqD hu64) (pv 0) (pe_lst pa_nil) (nomark _)) pe_int pe_int) pa_nil))))) (pss_one (ps_ret pe_bl)) pss_nil)))
        (pss_one (ps_ret pe_bl))), ?_⟩
    refine ⟨_, rfl, by show 1 ≤ sizeLine; decide, fun z nz => ?_⟩
    have hS1 := (same_new (o := .lst [V.int 0]) nz).seq hS
    refine ⟨sc, z, ns.map V.int, [V.int 0], rfl, rfl, hS1, .of upd_same, by rw [List.length_map]; exact zs (by show ns.length + 1 ≤ _; omega), fun p np => ?_⟩
    have s2 : Same H (upd (upd H z (.lst [V.int 0])) p (.lst (ns.map V.int ++ [V.int 0]))) := (same_new nz).trans (same_new np)
    refine ⟨_, rfl, sc, _, rfl, .inl (s2.seq hS), _, _, rfl, _, _, rfl, _, rfl, p, _, rfl, .of upd_same, fun p2 np2 => ?_⟩
    generalize ec : (if (if 16 < (((ns.map V.int).length : Nat) : Int) then (16 : Int) else (((ns.map V.int).length : Nat) : Int)) > 1 then (if 16 < (((ns.map V.int).length : Nat) : Int) then (16 : Int) else (((ns.map V.int).length : Nat) : Int)) else 1) = c
    have c0 : 1 ≤ c ∧ c ≤ (ns.length : Int) + 1 := by
      rw [← ec, List.length_map]
      split <;> split <;> omega
    have ecut : cutV (ns.map V.int ++ [V.int 0]) none (some c) = ((ns ++ [0]).take c.toNat).map V.int := by
      have e : c = ((c.toNat : Nat) : Int) := by omega
      rw [e, cut_take _ _ (by rw [List.length_append, List.length_map, List.length_singleton]; omega), List.map_take, List.map_append]
      rfl
    rw [ecut]
    have cl : ((ns ++ [0]).take c.toNat).length ≤ 64 := by
      rw [List.length_take, List.length_append, List.length_singleton]
      omega
    have s3 := s2.trans (same_new (o := .lst (((ns ++ [0]).take c.toNat).map V.int)) np2)
    refine ⟨p2, _, rfl, .of upd_same, for_it (walk_enum (xs := ((ns ++ [0]).take c.toNat).map V.int)) (fun i σ H' => (∃ y1 y2, σ = [some (.ref sc), y1, y2]) ∧ Same H H' ∧ H' p2 = some (.lst (((ns ++ [0]).take c.toNat).map V.int))) ⟨⟨_, _, rfl⟩, s3, upd_same⟩ (fun i σ H' _ h => .of h.2.2) (fun i x σ H' H2 hi h hy => ?_) (fun σ H' h => ?_)⟩
    · obtain ⟨T, x1, x2, rfl, nT, rfl, e1, e2⟩ := hy
      cases e1
      obtain ⟨e, rfl, he⟩ := get_int e2
      obtain ⟨⟨y1, y2, rfl⟩, sm, hp2⟩ := h
      have hi2 := lt_get he
      refine ⟨T, _, rfl, .of upd_same, rfl, _, _, rfl, _, _, rfl, rfl, ?_⟩
      have sT := same_new (o := .tup [V.int ((i : Nat) : Int), .int e]) nT
      refine ⟨_, rfl, _, rfl, e, i, rfl, by omega, fun H3 src s3 nsrc hs3 => ?_⟩
      have nsrc' : H' src = none := sT.free nsrc
      have sm3 : Same H' H3 := sT.trans s3
      have fin : ∀ H5, Bt src H3 H5 → Same H H5 ∧ H5 p2 = some (.lst (((ns ++ [0]).take c.toNat).map V.int)) := fun H5 b5 => by
        have s5 : Same H' H5 := fun b o eb => b5 b o (ne_of_none eb nsrc') (sm3 b o eb)
        exact ⟨sm.trans s5, s5 _ _ hp2⟩
      refine ⟨_, rfl, Nat.zero_le _, fun e4 ne4 => ?_⟩
      have s4 := same_new (o := .lst []) ne4
      have hS4 : SqL K (upd H3 e4 (.lst [])) sc (ns.map V.int) := ((sm.trans sm3).trans s4).seq hS
      by_cases hb : ns = []
      · refine ⟨dI ns, dI [], dp_ints hS4, dp_ints (ns := []) (.of upd_same), shaped_ints _, shaped_ints _, true, eqvT hb, ?_⟩
        exact ⟨src, 7, 0, rfl, hs3.same s4, by decide, by decide, by decide, fun H5 b5 => ⟨true, rfl, ⟨_, _, rfl⟩, fin H5 ((Lp.Bt.of s4).trans b5)⟩⟩
      · refine ⟨dI ns, dI [], dp_ints hS4, dp_ints (ns := []) (.of upd_same), shaped_ints _, shaped_ints _, false, eqvF hb, ?_⟩
        exact ⟨src, 200, 0, rfl, hs3.same s4, by decide, by decide, by decide, fun H5 b5 => ⟨true, rfl, ⟨_, _, rfl⟩, fin H5 ((Lp.Bt.of s4).trans b5)⟩⟩
    · obtain ⟨⟨y1, y2, rfl⟩, sm, hp2⟩ := h
      exact q _
end
end L04
set_option Elab.async false
set_option linter.all false
set_option maxRecDepth 100000
namespace L04
open PySem PySem.Spec PyProof.Rows L2 Lp
theorem all_mk {l : PySem.W.OpenLaw} {w : World} {K : PySem.W.Frag} {h : Heap} {mg : Str → Option Value} {fa : Addr} (X : K.In h) (G : h.Ns mainGlobals mg) (hfa : mg "law" = some (.ref fa))
    {f0 : Addr} {oc0 kV0 dc0 pm0 cd0 ct0 : Value} {od0 an0 : Option Addr} {sl0 : Array (Option Value)}
    (a0 : PySem.W.nsIn K mainGlobals "is_integer" = some (some (.ref f0))) (l0 : K.lookup f0 = some ⟨oc0, od0, .func (PySem.W.fnOf "is_integer" "is_integer" (defArgs s_is_integer) (defBody s_is_integer) (defScope s_is_integer) .none kV0 dc0 pm0 an0 cd0 ct0), sl0⟩) (c0 : PySem.W.codeIn K cd0 "is_integer" = true) (k0 : PySem.W.keepIn K (.ref f0) = true)
    {f1 : Addr} {oc1 kV1 dc1 pm1 cd1 ct1 : Value} {od1 an1 : Option Addr} {sl1 : Array (Option Value)}
    (a1 : PySem.W.nsIn K mainGlobals "is_integer_within" = some (some (.ref f1))) (l1 : K.lookup f1 = some ⟨oc1, od1, .func (PySem.W.fnOf "is_integer_within" "is_integer_within" (defArgs s_is_integer_within) (defBody s_is_integer_within) (defScope s_is_integer_within) .none kV1 dc1 pm1 an1 cd1 ct1), sl1⟩) (c1 : PySem.W.codeIn K cd1 "is_integer_within" = true) (k1 : PySem.W.keepIn K (.ref f1) = true)
    {f2 : Addr} {oc2 kV2 dc2 pm2 cd2 ct2 : Value} {od2 an2 : Option Addr} {sl2 : Array (Option Value)}
    (a2 : PySem.W.nsIn K mainGlobals "are_integers" = some (some (.ref f2))) (l2 : K.lookup f2 = some ⟨oc2, od2, .func (PySem.W.fnOf "are_integers" "are_integers" (defArgs s_are_integers) (defBody s_are_integers) (defScope s_are_integers) .none kV2 dc2 pm2 an2 cd2 ct2), sl2⟩) (c2 : PySem.W.codeIn K cd2 "are_integers" = true) (k2 : PySem.W.keepIn K (.ref f2) = true)
    {f3 : Addr} {oc3 kV3 dc3 pm3 cd3 ct3 : Value} {od3 an3 : Option Addr} {sl3 : Array (Option Value)}
    (a3 : PySem.W.nsIn K mainGlobals "are_events" = some (some (.ref f3))) (l3 : K.lookup f3 = some ⟨oc3, od3, .func (PySem.W.fnOf "are_events" "are_events" (defArgs s_are_events) (defBody s_are_events) (defScope s_are_events) .none kV3 dc3 pm3 an3 cd3 ct3), sl3⟩) (c3 : PySem.W.codeIn K cd3 "are_events" = true) (k3 : PySem.W.keepIn K (.ref f3) = true)
    {f4 : Addr} {oc4 kV4 dc4 pm4 cd4 ct4 : Value} {od4 an4 : Option Addr} {sl4 : Array (Option Value)}
    (a4 : PySem.W.nsIn K mainGlobals "is_history" = some (some (.ref f4))) (l4 : K.lookup f4 = some ⟨oc4, od4, .func (PySem.W.fnOf "is_history" "is_history" (defArgs s_is_history) (defBody s_is_history) (defScope s_is_history) .none kV4 dc4 pm4 an4 cd4 ct4), sl4⟩) (c4 : PySem.W.codeIn K cd4 "is_history" = true) (k4 : PySem.W.keepIn K (.ref f4) = true)
    {f5 : Addr} {oc5 kV5 dc5 pm5 cd5 ct5 : Value} {od5 an5 : Option Addr} {sl5 : Array (Option Value)}
    (a5 : PySem.W.nsIn K mainGlobals "check_history" = some (some (.ref f5))) (l5 : K.lookup f5 = some ⟨oc5, od5, .func (PySem.W.fnOf "check_history" "check_history" (defArgs s_check_history) (defBody s_check_history) (defScope s_check_history) .none kV5 dc5 pm5 an5 cd5 ct5), sl5⟩) (c5 : PySem.W.codeIn K cd5 "check_history" = true) (k5 : PySem.W.keepIn K (.ref f5) = true)
    {f6 : Addr} {oc6 kV6 dc6 pm6 cd6 ct6 : Value} {od6 an6 : Option Addr} {sl6 : Array (Option Value)}
    (a6 : PySem.W.nsIn K mainGlobals "starts_of" = some (some (.ref f6))) (l6 : K.lookup f6 = some ⟨oc6, od6, .func (PySem.W.fnOf "starts_of" "starts_of" (defArgs s_starts_of) (defBody s_starts_of) (defScope s_starts_of) .none kV6 dc6 pm6 an6 cd6 ct6), sl6⟩) (c6 : PySem.W.codeIn K cd6 "starts_of" = true) (k6 : PySem.W.keepIn K (.ref f6) = true)
    {f7 : Addr} {oc7 kV7 dc7 pm7 cd7 ct7 : Value} {od7 an7 : Option Addr} {sl7 : Array (Option Value)}
    (a7 : PySem.W.nsIn K mainGlobals "is_plain" = some (some (.ref f7))) (l7 : K.lookup f7 = some ⟨oc7, od7, .func (PySem.W.fnOf "is_plain" "is_plain" (defArgs s_is_plain) (defBody s_is_plain) (defScope s_is_plain) .none kV7 dc7 pm7 an7 cd7 ct7), sl7⟩) (c7 : PySem.W.codeIn K cd7 "is_plain" = true) (k7 : PySem.W.keepIn K (.ref f7) = true)
    {f8 : Addr} {oc8 kV8 dc8 pm8 cd8 ct8 : Value} {od8 an8 : Option Addr} {sl8 : Array (Option Value)}
    (a8 : PySem.W.nsIn K mainGlobals "is_nested" = some (some (.ref f8))) (l8 : K.lookup f8 = some ⟨oc8, od8, .func (PySem.W.fnOf "is_nested" "is_nested" (defArgs s_is_nested) (defBody s_is_nested) (defScope s_is_nested) .none kV8 dc8 pm8 an8 cd8 ct8), sl8⟩) (c8 : PySem.W.codeIn K cd8 "is_nested" = true) (k8 : PySem.W.keepIn K (.ref f8) = true)
    {f9 : Addr} {oc9 kV9 dc9 pm9 cd9 ct9 : Value} {od9 an9 : Option Addr} {sl9 : Array (Option Value)}
    (a9 : PySem.W.nsIn K mainGlobals "arcs_of" = some (some (.ref f9))) (l9 : K.lookup f9 = some ⟨oc9, od9, .func (PySem.W.fnOf "arcs_of" "arcs_of" (defArgs s_arcs_of) (defBody s_arcs_of) (defScope s_arcs_of) .none kV9 dc9 pm9 an9 cd9 ct9), sl9⟩) (c9 : PySem.W.codeIn K cd9 "arcs_of" = true) (k9 : PySem.W.keepIn K (.ref f9) = true)
    {f10 : Addr} {oc10 kV10 dc10 pm10 cd10 ct10 : Value} {od10 an10 : Option Addr} {sl10 : Array (Option Value)}
    (a10 : PySem.W.nsIn K mainGlobals "renumbered" = some (some (.ref f10))) (l10 : K.lookup f10 = some ⟨oc10, od10, .func (PySem.W.fnOf "renumbered" "renumbered" (defArgs s_renumbered) (defBody s_renumbered) (defScope s_renumbered) .none kV10 dc10 pm10 an10 cd10 ct10), sl10⟩) (c10 : PySem.W.codeIn K cd10 "renumbered" = true) (k10 : PySem.W.keepIn K (.ref f10) = true)
    {f11 : Addr} {oc11 kV11 dc11 pm11 cd11 ct11 : Value} {od11 an11 : Option Addr} {sl11 : Array (Option Value)}
    (a11 : PySem.W.nsIn K mainGlobals "_law_source" = some (some (.ref f11))) (l11 : K.lookup f11 = some ⟨oc11, od11, .func (PySem.W.fnOf "_law_source" "_law_source" (defArgs s_law_source) (defBody s_law_source) (defScope s_law_source) .none kV11 dc11 pm11 an11 cd11 ct11), sl11⟩) (c11 : PySem.W.codeIn K cd11 "_law_source" = true) (k11 : PySem.W.keepIn K (.ref f11) = true)
    {f12 : Addr} {oc12 kV12 dc12 pm12 cd12 ct12 : Value} {od12 an12 : Option Addr} {sl12 : Array (Option Value)}
    (a12 : PySem.W.nsIn K mainGlobals "_law_draw" = some (some (.ref f12))) (l12 : K.lookup f12 = some ⟨oc12, od12, .func (PySem.W.fnOf "_law_draw" "_law_draw" (defArgs s_law_draw) (defBody s_law_draw) (defScope s_law_draw) .none kV12 dc12 pm12 an12 cd12 ct12), sl12⟩) (c12 : PySem.W.codeIn K cd12 "_law_draw" = true) (k12 : PySem.W.keepIn K (.ref f12) = true)
    {f13 : Addr} {oc13 kV13 dc13 pm13 cd13 ct13 : Value} {od13 an13 : Option Addr} {sl13 : Array (Option Value)}
    (a13 : PySem.W.nsIn K mainGlobals "_law_row" = some (some (.ref f13))) (l13 : K.lookup f13 = some ⟨oc13, od13, .func (PySem.W.fnOf "_law_row" "_law_row" (defArgs s_law_row) (defBody s_law_row) (defScope s_law_row) .none kV13 dc13 pm13 an13 cd13 ct13), sl13⟩) (c13 : PySem.W.codeIn K cd13 "_law_row" = true) (k13 : PySem.W.keepIn K (.ref f13) = true)
    {f14 : Addr} {oc14 kV14 dc14 pm14 cd14 ct14 : Value} {od14 an14 : Option Addr} {sl14 : Array (Option Value)}
    (a14 : PySem.W.nsIn K mainGlobals "_law_equal" = some (some (.ref f14))) (l14 : K.lookup f14 = some ⟨oc14, od14, .func (PySem.W.fnOf "_law_equal" "_law_equal" (defArgs s_law_equal) (defBody s_law_equal) (defScope s_law_equal) .none kV14 dc14 pm14 an14 cd14 ct14), sl14⟩) (c14 : PySem.W.codeIn K cd14 "_law_equal" = true) (k14 : PySem.W.keepIn K (.ref f14) = true)
    {f15 : Addr} {oc15 kV15 dc15 pm15 cd15 ct15 : Value} {od15 an15 : Option Addr} {sl15 : Array (Option Value)}
    (a15 : PySem.W.nsIn K mainGlobals "_law_holds" = some (some (.ref f15))) (l15 : K.lookup f15 = some ⟨oc15, od15, .func (PySem.W.fnOf "_law_holds" "_law_holds" (defArgs s_law_holds) (defBody s_law_holds) (defScope s_law_holds) .none kV15 dc15 pm15 an15 cd15 ct15), sl15⟩) (c15 : PySem.W.codeIn K cd15 "_law_holds" = true) (k15 : PySem.W.keepIn K (.ref f15) = true)
    {f16 : Addr} {oc16 kV16 dc16 pm16 cd16 ct16 : Value} {od16 an16 : Option Addr} {sl16 : Array (Option Value)}
    (a16 : PySem.W.nsIn K mainGlobals "law" = some (some (.ref f16))) (l16 : K.lookup f16 = some ⟨oc16, od16, .func (PySem.W.fnOf "law" "law" (defArgs s_law) (defBody s_law) (defScope s_law) .none kV16 dc16 pm16 an16 cd16 ct16), sl16⟩) (c16 : PySem.W.codeIn K cd16 "law" = true) (k16 : PySem.W.keepIn K (.ref f16) = true)
    {t_LAST_PATCH : Tok} (g_LAST_PATCH : PySem.W.nsIn K mainGlobals "LAST_PATCH" = some (some (.int 100 t_LAST_PATCH)))
    {t_MOST_EVENTS : Tok} (g_MOST_EVENTS : PySem.W.nsIn K mainGlobals "MOST_EVENTS" = some (some (.int 200 t_MOST_EVENTS)))
    (z_len : PySem.W.nsIn K mainGlobals "len" = some none)
    (z_list : PySem.W.nsIn K mainGlobals "list" = some none)
    (z_int : PySem.W.nsIn K mainGlobals "int" = some none)
    (z_bool : PySem.W.nsIn K mainGlobals "bool" = some none)
    (z_str : PySem.W.nsIn K mainGlobals "str" = some none)
    (z_tuple : PySem.W.nsIn K mainGlobals "tuple" = some none)
    (z_max : PySem.W.nsIn K mainGlobals "max" = some none)
    (z_min : PySem.W.nsIn K mainGlobals "min" = some none)
    (z_range : PySem.W.nsIn K mainGlobals "range" = some none)
    (z_repr : PySem.W.nsIn K mainGlobals "repr" = some none)
    (z_isinstance : PySem.W.nsIn K mainGlobals "isinstance" = some none)
    (z_type : PySem.W.nsIn K mainGlobals "type" = some none)
    (z_all : PySem.W.nsIn K mainGlobals "all" = some none)
    (z_set : PySem.W.nsIn K mainGlobals "set" = some none)
    (z_zip : PySem.W.nsIn K mainGlobals "zip" = some none)
    (z_enumerate : PySem.W.nsIn K mainGlobals "enumerate" = some none)
    (z_sorted : PySem.W.nsIn K mainGlobals "sorted" = some none)
    (z_abs : PySem.W.nsIn K mainGlobals "abs" = some none) :
    ∃ fd : FuncData, (∀ (s : Shared) (v : Value), BindsTo s fd ⟨[v], []⟩ [("script", v)]) ∧ ∀ base : Heap, K.In base → base.Ns mainGlobals mg → FnG l.prog w K mg base CX0 9 fa fd ["script"] (spLaw K) := by
  have e := hfa.symm.trans (PySem.W.mg_of X G a16)
  cases e
  have B : NoB mg := ⟨PySem.W.mg_none_of X G z_len, PySem.W.mg_none_of X G z_list, PySem.W.mg_none_of X G z_int, PySem.W.mg_none_of X G z_bool, PySem.W.mg_none_of X G z_str, PySem.W.mg_none_of X G z_tuple, PySem.W.mg_none_of X G z_max, PySem.W.mg_none_of X G z_min, PySem.W.mg_none_of X G z_range, PySem.W.mg_none_of X G z_repr, PySem.W.mg_none_of X G z_isinstance, PySem.W.mg_none_of X G z_type, PySem.W.mg_none_of X G z_all, PySem.W.mg_none_of X G z_set, PySem.W.mg_none_of X G z_zip, PySem.W.mg_none_of X G z_enumerate, PySem.W.mg_none_of X G z_sorted, PySem.W.mg_none_of X G z_abs⟩
  have F0 := fun_mk (st := s_is_integer) l0 c0 k0
  have b0 := F0.binds (ps := ["value"]) fun _ _ _ _ _ _ us hl => match us, hl with | [_], _ => rfl
  have F1 := fun_mk (st := s_is_integer_within) l1 c1 k1
  have b1 := F1.binds (ps := ["value", "least", "greatest"]) fun _ _ _ _ _ _ us hl => match us, hl with | [_, _, _], _ => rfl
  have F2 := fun_mk (st := s_are_integers) l2 c2 k2
  have b2 := F2.binds (ps := ["value", "least", "greatest", "most"]) fun _ _ _ _ _ _ us hl => match us, hl with | [_, _, _, _], _ => rfl
  have F3 := fun_mk (st := s_are_events) l3 c3 k3
  have b3 := F3.binds (ps := ["value"]) fun _ _ _ _ _ _ us hl => match us, hl with | [_], _ => rfl
  have F4 := fun_mk (st := s_is_history) l4 c4 k4
  have b4 := F4.binds (ps := ["value"]) fun _ _ _ _ _ _ us hl => match us, hl with | [_], _ => rfl
  have F5 := fun_mk (st := s_check_history) l5 c5 k5
  have b5 := F5.binds (ps := ["history"]) fun _ _ _ _ _ _ us hl => match us, hl with | [_], _ => rfl
  have F6 := fun_mk (st := s_starts_of) l6 c6 k6
  have b6 := F6.binds (ps := ["history"]) fun _ _ _ _ _ _ us hl => match us, hl with | [_], _ => rfl
  have F7 := fun_mk (st := s_is_plain) l7 c7 k7
  have b7 := F7.binds (ps := ["history"]) fun _ _ _ _ _ _ us hl => match us, hl with | [_], _ => rfl
  have F8 := fun_mk (st := s_is_nested) l8 c8 k8
  have b8 := F8.binds (ps := ["history"]) fun _ _ _ _ _ _ us hl => match us, hl with | [_], _ => rfl
  have F9 := fun_mk (st := s_arcs_of) l9 c9 k9
  have b9 := F9.binds (ps := ["history"]) fun _ _ _ _ _ _ us hl => match us, hl with | [_], _ => rfl
  have F10 := fun_mk (st := s_renumbered) l10 c10 k10
  have b10 := F10.binds (ps := ["history"]) fun _ _ _ _ _ _ us hl => match us, hl with | [_], _ => rfl
  have F11 := fun_mk (st := s_law_source) l11 c11 k11
  have b11 := F11.binds (ps := ["cell", "k"]) fun _ _ _ _ _ _ us hl => match us, hl with | [_, _], _ => rfl
  have F12 := fun_mk (st := s_law_draw) l12 c12 k12
  have b12 := F12.binds (ps := ["source", "count"]) fun _ _ _ _ _ _ us hl => match us, hl with | [_, _], _ => rfl
  have F13 := fun_mk (st := s_law_row) l13 c13 k13
  have b13 := F13.binds (ps := ["source", "most"]) fun _ _ _ _ _ _ us hl => match us, hl with | [_, _], _ => rfl
  have F14 := fun_mk (st := s_law_equal) l14 c14 k14
  have b14 := F14.binds (ps := ["result", "expected"]) fun _ _ _ _ _ _ us hl => match us, hl with | [_, _], _ => rfl
  have F15 := fun_mk (st := s_law_holds) l15 c15 k15
  have b15 := F15.binds (ps := ["source", "most"]) fun _ _ _ _ _ _ us hl => match us, hl with | [_, _], _ => rfl
  have F16 := fun_mk (st := s_law) l16 c16 k16
  refine ⟨PySem.W.fnOf "law" "law" (defArgs s_law) (defBody s_law) (defScope s_law) .none kV16 dc16 pm16 an16 cd16 ct16, fun s v => .of_eq rfl, fun base _ _ => ?_⟩
  have T_is_integer : Gc l.prog w K mg base 1 "is_integer" _ := ⟨f0, _, ["value"], ok_is_integer F0 B, PySem.W.mg_of X G a0, F0.kp, b0⟩
  have T_is_integer_within : Gc l.prog w K mg base 2 "is_integer_within" _ := ⟨f1, _, ["value", "least", "greatest"], ok_is_integer_within F1 T_is_integer, PySem.W.mg_of X G a1, F1.kp, b1⟩
  have T_are_integers : Gc l.prog w K mg base 3 "are_integers" _ := ⟨f2, _, ["value", "least", "greatest", "most"], ok_are_integers F2 B T_is_integer_within, PySem.W.mg_of X G a2, F2.kp, b2⟩
  have T_are_events : Gc l.prog w K mg base 4 "are_events" _ := ⟨f3, _, ["value"], ok_are_events F3 B (PySem.W.mg_of X G g_LAST_PATCH) (PySem.W.mg_of X G g_MOST_EVENTS) T_are_integers, PySem.W.mg_of X G a3, F3.kp, b3⟩
  have T_is_history : Gc l.prog w K mg base 5 "is_history" _ := ⟨f4, _, ["value"], ok_is_history F4 B T_are_events, PySem.W.mg_of X G a4, F4.kp, b4⟩
  have T_check_history : Gc l.prog w K mg base 6 "check_history" _ := ⟨f5, _, ["history"], ok_check_history F5 T_is_history, PySem.W.mg_of X G a5, F5.kp, b5⟩
  have T_starts_of : Gc l.prog w K mg base 1 "starts_of" _ := ⟨f6, _, ["history"], ok_starts_of F6, PySem.W.mg_of X G a6, F6.kp, b6⟩
  have T_is_plain : Gc l.prog w K mg base 7 "is_plain" _ := ⟨f7, _, ["history"], ok_is_plain F7 B T_check_history T_starts_of, PySem.W.mg_of X G a7, F7.kp, b7⟩
  have T_is_nested : Gc l.prog w K mg base 7 "is_nested" _ := ⟨f8, _, ["history"], ok_is_nested F8 T_check_history, PySem.W.mg_of X G a8, F8.kp, b8⟩
  have T_arcs_of : Gc l.prog w K mg base 7 "arcs_of" _ := ⟨f9, _, ["history"], ok_arcs_of F9 B T_check_history T_starts_of, PySem.W.mg_of X G a9, F9.kp, b9⟩
  have T_renumbered : Gc l.prog w K mg base 7 "renumbered" _ := ⟨f10, _, ["history"], ok_renumbered F10 B T_check_history T_starts_of, PySem.W.mg_of X G a10, F10.kp, b10⟩
  have T_law_source : Gc l.prog w K mg base 1 "_law_source" _ := ⟨f11, _, ["cell", "k"], ok_law_source F11 B, PySem.W.mg_of X G a11, F11.kp, b11⟩
  have T_law_draw : Gc l.prog w K mg base 1 "_law_draw" _ := ⟨f12, _, ["source", "count"], ok_law_draw F12, PySem.W.mg_of X G a12, F12.kp, b12⟩
  have T_law_row : Gc l.prog w K mg base 2 "_law_row" _ := ⟨f13, _, ["source", "most"], ok_law_row F13 B T_law_draw, PySem.W.mg_of X G a13, F13.kp, b13⟩
  have T_law_equal : Gc l.prog w K mg base 2 "_law_equal" _ := ⟨f14, _, ["result", "expected"], ok_law_equal_D F14 B (PySem.W.mg_of X G a14) b14 1, PySem.W.mg_of X G a14, F14.kp, b14⟩
  have T_law_holds : Gc l.prog w K mg base 8 "_law_holds" _ := ⟨f15, _, ["source", "most"], ok_law_holds F15 B T_law_row T_renumbered T_law_equal T_is_plain T_arcs_of T_is_nested, PySem.W.mg_of X G a15, F15.kp, b15⟩
  exact ok_law F16 B T_law_source T_law_holds
end L04
open PySem PySem.W PyProof.Rows
set_option maxHeartbeats 0 in
theorem PySem.Challenge.cw_latepatches_k04_histories_renumbered_holds : PySem.Challenge.rw_latepatches_k04_histories_renumbered.Holds := by
  w_on; o_law; k_head; (case hw => w_witness2)
  k_fill
  refine Lp.walk_ofG (l := PySem.Challenge.rw_latepatches_k04_histories_renumbered) (n := 63) (k := 9) (x := "script") (CX := fun _ => L2.CX0) (sp := fun w => L04.spLaw _) rfl (by decide) rfl ⟨rfl, by decide, by decide⟩ (fun w h Y => PySem.W.kIn_of Y) ?F (fun _ _ a ns hl _ hS => ⟨a, ns, rfl, hS, hl, fun _ => rfl⟩) (fun _ _ _ _ _ h => h)
  case F =>
    intro w mg fa h KX G hmg
    refine' L04.all_mk KX G hmg ?a0 ?l0 ?c0 ?k0 ?a1 ?l1 ?c1 ?k1 ?a2 ?l2 ?c2 ?k2 ?a3 ?l3 ?c3 ?k3 ?a4 ?l4 ?c4 ?k4 ?a5 ?l5 ?c5 ?k5 ?a6 ?l6 ?c6 ?k6 ?a7 ?l7 ?c7 ?k7 ?a8 ?l8 ?c8 ?k8 ?a9 ?l9 ?c9 ?k9 ?a10 ?l10 ?c10 ?k10 ?a11 ?l11 ?c11 ?k11 ?a12 ?l12 ?c12 ?k12 ?a13 ?l13 ?c13 ?k13 ?a14 ?l14 ?c14 ?k14 ?a15 ?l15 ?c15 ?k15 ?a16 ?l16 ?c16 ?k16 ?g_LAST_PATCH ?g_MOST_EVENTS ?z_len ?z_list ?z_int ?z_bool ?z_str ?z_tuple ?z_max ?z_min ?z_range ?z_repr ?z_isinstance ?z_type ?z_all ?z_set ?z_zip ?z_enumerate ?z_sorted ?z_abs
    (case a0 => k_is); (case l0 => k_is); (case c0 => k_is); (case k0 => k_is); (case a1 => k_is); (case l1 => k_is); (case c1 => k_is); (case k1 => k_is); (case a2 => k_is); (case l2 => k_is); (case c2 => k_is); (case k2 => k_is); (case a3 => k_is); (case l3 => k_is); (case c3 => k_is); (case k3 => k_is); (case a4 => k_is); (case l4 => k_is); (case c4 => k_is); (case k4 => k_is); (case a5 => k_is); (case l5 => k_is); (case c5 => k_is); (case k5 => k_is); (case a6 => k_is); (case l6 => k_is); (case c6 => k_is); (case k6 => k_is); (case a7 => k_is); (case l7 => k_is); (case c7 => k_is); (case k7 => k_is); (case a8 => k_is); (case l8 => k_is); (case c8 => k_is); (case k8 => k_is); (case a9 => k_is); (case l9 => k_is); (case c9 => k_is); (case k9 => k_is); (case a10 => k_is); (case l10 => k_is); (case c10 => k_is); (case k10 => k_is); (case a11 => k_is); (case l11 => k_is); (case c11 => k_is); (case k11 => k_is); (case a12 => k_is); (case l12 => k_is); (case c12 => k_is); (case k12 => k_is); (case a13 => k_is); (case l13 => k_is); (case c13 => k_is); (case k13 => k_is); (case a14 => k_is); (case l14 => k_is); (case c14 => k_is); (case k14 => k_is); (case a15 => k_is); (case l15 => k_is); (case c15 => k_is); (case k15 => k_is); (case a16 => k_is); (case l16 => k_is); (case c16 => k_is); (case k16 => k_is); (case g_LAST_PATCH => k_is); (case g_MOST_EVENTS => k_is); (case z_len => k_is); (case z_list => k_is); (case z_int => k_is); (case z_bool => k_is); (case z_str => k_is); (case z_tuple => k_is); (case z_max => k_is); (case z_min => k_is); (case z_range => k_is); (case z_repr => k_is); (case z_isinstance => k_is); (case z_type => k_is); (case z_all => k_is); (case z_set => k_is); (case z_zip => k_is); (case z_enumerate => k_is); (case z_sorted => k_is); (case z_abs => k_is)
