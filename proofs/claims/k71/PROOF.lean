import PyProof.Rows.All
import Wide.All
import OpenK.AllK
import Wide.FinOn
import Lean
import HandS.ForMost
import HandS.ForExc
import HandS.Head0
import HandS.Head1
import HandS.Head2
import HandS.HeadEnd
import HandS.HeadHook1
import HandS.HeadHook2
import HandS.WideBits
import HandS.Wide
import HandS.IsInst
import HandS.ExcInit
import HandS.ExcValue
import HandS.Deep
import HandS.Codes
import HandS.Walk
import HandS.Zip
import KE.KExcIs
import HandS.DictTup
import HandS.ListItems
import HandS.SortInts
import HandS.SortRule
import HandS.Keys
import KE.GoesEnum
import HandS.MakeKwOnly
import HandS.Conv
import KE.KDictPairs
import KE.KRevSl
import HandS.OwnEq
import HandS.FStr
import PyProof.InstNe
import PySem.Challenge.RW_crywalks_k71_fractions
import HandS.Small
set_option Elab.async false
set_option linter.all false
set_option maxRecDepth 100000
set_option maxHeartbeats 4000000
/-! Promises of defs that are called where nothing is being shown (no guard stands): for repr of lists. -/
namespace Cw
open PySem PySem.Spec PyProof.Rows L2

/-- as the layer's promise of a def, where no guard is on the stack -/
structure FnG (P : Program) (w : World) (K : PySem.W.Frag) (mg : Str → Option Value) (base : Heap) (CX : CXT) (k : Nat)
    (f : Addr) (fd : FuncData) (ps : List Str) (sp : Sp) : Prop where
  len : ∀ vs H Q E, sp vs H Q E → vs.length = ps.length
  go : ∀ (A : Around) (out : List Env) (s : Shared) (H : Hp) (args : Args) (us : List Value) (vs : List V) (Q : VK) (E : XK),
    A.guards = some [] → Room k A → Env0 P w K mg base A out s H → BindsTo s fd args (ps.zip us) → Vals vs us →
    sp vs H Q E → codeAny (model P w) A (.call (.ref f) args) (CR CX out P w H s Q E) s

section
variable {P : Program} {w : World} {K : PySem.W.Frag} {mg : Str → Option Value} {base : Heap}
theorem FnG.ofOk {CX : CXT} {k : Nat} {f : Addr} {fd : FuncData} {ps : List Str} {sp : Sp}
    (F : FnOk P w K mg base CX k f fd ps sp) : FnG P w K mg base CX k f fd ps sp :=
  ⟨F.len, fun A out s H args us vs Q E _ hr => F.run A out s H args us vs Q E hr⟩
theorem FnG.mono {CX : CXT} {j k : Nat} {f : Addr} {fd : FuncData} {ps : List Str} {sp : Sp}
    (F : FnG P w K mg base CX j f fd ps sp) (h : j ≤ k) : FnG P w K mg base CX k f fd ps sp :=
  ⟨F.len, fun A out s H args us vs Q E hg hr => F.go A out s H args us vs Q E hg (hr.mono h)⟩

/-- a def by its body -/
theorem fnG {CX : CXT} {k : Nat} {f : Addr} {name qual : Str} {params : Arguments} {body : List Stmt} {scope : Scope}
    {dV kV doc pm cdv ct oc : Value} {an od : Option Addr} {osl : Array (Option Value)} {N ps : List Str} {sp : Sp}
    (at_ : K.lookup f = some ⟨oc, od, .func (PySem.W.fnOf name qual params body scope dV kV doc pm an cdv ct), osl⟩)
    (code : PySem.W.codeIn K cdv qual = true) (S : FnScope N ps scope)
    (len : ∀ vs H Q E, sp vs H Q E → vs.length = ps.length)
    (walk : ∀ (A : Around) (out : List Env) (s : Shared) (H : Hp) (vs : List V) (Q : VK) (E : XK), A.guards = some [] →
      Room k (A.deeper (envOfC qual scope s.heap.objs.size f cdv)) → sp vs H Q E →
      ∃ t, PSs (cxOf CX P w K mg base N qual scope f cdv A out s H E) body t ∧
        t { nx := fun _ H' => Q .non H', rt := Q } (start N vs) H) :
    FnG P w K mg base CX (k + 1) f (PySem.W.fnOf name qual params body scope dV kV doc pm an cdv ct) ps sp := by
  refine ⟨len, fun A out s H args us vs Q E hg hr e0 hb rel wish => ?_⟩
  have same : ∀ b o, base.get? b = some o → s.heap.get? b = some o := fun b o e => (e0.bs b o e).1
  have kin : K.In s.heap := e0.mod.kin.keeps same
  have kinds : ∀ y ∈ ps.zip us, scope.names.lookup y.1 = some .local ∨
      (scope.names.lookup y.1 = some .cell ∧ ((cellsFrom (s.heap.objs.size + 1) scope.names []).lookup y.1).isSome = true) := by
    rintro ⟨n, v⟩ hy
    rcases S.par n (List.of_mem_zip hy).1 with q | q
    · exact .inl q
    · exact .inr ⟨q, PySem.W.cellsFrom_some _ _ _ (.inl q)⟩
  refine codeAny_call_function hr.depth (kin _ _ at_) rfl S.co S.gen rfl (PySem.W.codeRec_of kin code) (hb _ _ _ _ ?_)
  refine wpAny_newFunctionEnv_cells S.kind kinds fun env ee s1 ic => ?_
  subst ee
  refine ⟨(e0.mod.nolimit.keeps same).keeps ic.toInCall.keep, codeAny_func ?_⟩
  obtain ⟨t, ht, hq⟩ := walk A out s H vs Q E hg (hr.deeper _) wish
  have I := inv_start (CX := CX) (E := E) S hr.hd e0 (len _ _ _ _ wish) rel ic
  refine wpAny_mono (ht.run [] s1 (start N vs) H _ I hq) (fun fl s' hs => ?_) fun e s' hs => hs
  cases fl with
  | ret u =>
    obtain ⟨v, σ', H', J, rv, q⟩ := hs
    exact ⟨v, H', J.os, J.bare, J.base, J.hok, rv, q⟩
  | next =>
    obtain ⟨σ', H', J, q⟩ := hs
    exact ⟨V.non, H', J.os, J.bare, J.base, J.hok, (rfl : RelV V.non Value.none), q⟩
  | brk => exact hs.elim fun _ z => z.elim fun _ z => z.2.elim
  | cont => exact hs.elim fun _ z => z.elim fun _ z => z.2.elim

/-- the same for a def as the head's facts tell it (no exception leaves it) -/
theorem defG {x qual : Str} {ar : Arguments} {bd : List Stmt} {sc : Scope} {dvs : List V} {kws : List (Str × V)} {f : Addr}
    {fd : FuncData} {N ps : List Str} {k : Nat} {sp : Sp} (F : FunD K x qual ar bd sc dvs kws f fd) (S : FnScope N ps sc)
    (len : ∀ vs H Q E, sp vs H Q E → vs.length = ps.length)
    (walk : ∀ (cdv : Value) (A : Around) (out : List Env) (s : Shared) (H : Hp) (vs : List V) (Q : VK) (E : XK),
      A.guards = some [] → Room k (A.deeper (envOfC qual sc s.heap.objs.size f cdv)) → sp vs H Q E →
      ∃ t, PSs (cxOf CX0 P w K mg base N qual sc f cdv A out s H E).nox bd t ∧
        t { nx := fun _ H' => Q .non H', rt := Q } (start N vs) H) : FnG P w K mg base CX0 (k + 1) f fd ps sp := by
  obtain ⟨oc, od, dV, kV, doc, pm, an, cdv, ct, osl, e, lk, hcd, _⟩ := F.ex
  subst e
  refine fnG lk hcd S len fun A out s H vs Q E hg hr wish => ?_
  obtain ⟨t, h, q⟩ := walk cdv A out s H vs Q E hg hr wish
  exact ⟨t, h.nox, q⟩
end

section
variable {X : Cx} {CX : CXT} {k : Nat} {f : Addr} {fd : FuncData} {ps : List Str} {sp : Sp} {dvs : List V} {ds : List Value} {E : XK}
theorem runG {pins : List (Addr × Obj)} {σ : L2.St} {H : Hp} {s : Shared} {Q : VK} {us : List Value} {vs : List V}
    (F : FnG X.prog X.w X.K X.mg X.base CX k f fd ps sp) (hg : X.A.guards = some []) (hr : Room k X.A) (hb : Binds X.K fd ps ds)
    (hd : Vals dvs ds) (hx : Passes CX X E) (I : Inv X pins σ H s) (r : Vals vs us) (h : sp (vs ++ dvs) H Q E) :
    wpAny (model X.prog X.w) X.A (call (.ref f) us) (EP X pins σ Q) X.xe s := by
  have rel : Vals (vs ++ dvs) (us ++ ds) := r.append hd
  have many : (us ++ ds).length = ps.length := rel.length.symm.trans (F.len _ _ _ _ h)
  have go := F.go X.A X.stack s H ⟨us, []⟩ (us ++ ds) (vs ++ dvs) Q E hg hr I.env0 (hb s us I.kIn many) rel h
  refine wpAny_call (codeAny_mono go fun res s' hq => ?_)
  match res, hq with
  | .error e, hq => exact hx pins σ H s e s' I hq
  | .ok (.ret u), hq => exact I.after hq
  | .ok .next, hq => exact hq.elim
  | .ok .brk, hq => exact hq.elim
  | .ok .cont, hq => exact hq.elim
/-- f(e, ..) -/
theorem pe_callG {x : Str} {p pos : Pos} {e : Expr} {es : List Expr} {t : TA} (F : FnG X.prog X.w X.K X.mg X.base CX k f fd ps sp)
    (hgs : X.A.guards = some []) (hr : Room k X.A) (hg : Gl X x) (hm : X.mg x = some (.ref f)) (hk : PySem.W.keepIn X.K (.ref f) = true)
    (hb : Binds X.K fd ps ds) (hd : Vals dvs ds) (hx : Passes CX X E) (ha : PA X (e :: es) t)
    (hdb : (x == ("__debug__" : Str)) = false := by decide)
    (he : starEach (e :: es) X.env = (false, eval e X.env) :: starEach es X.env := by rfl)
    (hpl : (backTo pos (starEach es X.env)).any (·.1) = false := by rfl) :
    PE X (.Call (.Name x p) (e :: es) [] pos) (tCall sp dvs E t) := by
  constructor
  intro pins s σ H Q I h
  refine wpAny_Call_Name_kw (ld_glob I hg hm ?_ hdb)
  refine PySem.W.callWith_K (h₀ := X.base) I.ok.mod.kin hk ?_ he hpl
  refine thn (ha.run pos pins s σ H _ I h) fun us s1 z => ?_
  obtain ⟨vs, H1, I1, rel, q⟩ := z
  exact ⟨I1.kIn, runG F hgs hr hb hd hx I1 rel q⟩
end

/-! ### the law's own call -/
section
variable {P : Program} {w : World} {K : PySem.W.Frag} {mg mb : Str → Option Value} {k : Nat} {fa a : Addr} {fd : FuncData} {x : Str}
  {sp : Sp} {s1 : Shared} {vs : List Value} {ns : List Int}
theorem lawCore {H : Hp} (kin : K.In s1.heap) (gl : s1.heap.Ns mainGlobals mg) (bl : s1.heap.Ns builtinsNs mb)
    (bb : ∀ y : Str, y ≠ "__name__" → mb y = bootBuiltins y) (lim : s1.heap.NoLimit) (gens : s1.gens = #[])
    (obj : s1.heap.get? a = some { cls := .type "list", data := .seq vs.toArray }) (room : Room k callerA)
    (F : ∀ base : Heap, K.In base → base.Ns mainGlobals mg → FnG P w K mg base CX0 k fa fd [x] sp)
    (bind : ∀ (s : Shared) (u : Value), BindsTo s fd ⟨[u], []⟩ [(x, u)]) (only : Only H)
    (wish : sp [.ref a] H (fun v _ => v = .bl true) fun _ _ _ => False) (hok : HOk P w H s1.heap)
    (hA : ∀ b, H b ≠ none → b = a) (hK : H a ≠ none → K.lookup a = none) :
    codeAny (model P w) callerA (.call (.ref fa) ⟨[.ref a], []⟩)
      (fun r s' => r = .ok (.ret (.bool true)) ∧ OldK s1.heap s'.heap ∧ s'.os = s1.os ∧ AllBare s'.gens) s1 := by
  have hid : ∀ {b : Addr} {o : Obj}, s1.heap.get? b = some o → H b = none → (hidT s1.heap H).get? b = some o :=
    fun e n => hidT_get e n
  have free : ∀ {b : Addr} {o : Obj} {es : Array DictEntry} {ep : Nat}, s1.heap.get? b = some o → o.data = .dict es ep → H b = none := by
    intro b o es ep e d
    by_cases q : H b = none
    · exact q
    · have e' := hA b q
      subst e'
      rw [obj] at e
      cases e
      exact Data.noConfusion d
  have ns' : ∀ {b : Addr} {m : Str → Option Value}, s1.heap.Ns b m → (hidT s1.heap H).Ns b m :=
    fun ⟨o, es, ep, e, d, r⟩ => ⟨o, es, ep, hid e (free e d), d, r⟩
  have kin' : K.In (hidT s1.heap H) := by
    intro b o e
    refine hid (kin b o e) ?_
    by_cases q : H b = none
    · exact q
    · have e' := hA b q
      subst e'
      rw [hK q] at e
      cases e
  obtain ⟨mc, l1, l2⟩ := lim
  have md : Mod K mg (hidT s1.heap H) := ⟨kin', ns' gl, ⟨mb, ns' bl, bb⟩, mc, ns' l1, l2⟩
  have e0 : Env0 P w K mg (hidT s1.heap H) callerA [] s1 H :=
    ⟨rfl, md, fun b o e => of_hidT e, Nat.le_of_eq (hidT_size _ _), trivial, (fun b hb => (List.not_mem_nil (show b ∈ ([] : List Addr) from hb)).elim), hok, AllBare.of_eq gens⟩
  have go := (F _ kin' (ns' gl)).go callerA [] s1 H ⟨[.ref a], []⟩ [.ref a] [.ref a] _ _ rfl room e0 (bind s1 (.ref a)) (.cons rfl .nil) wish
  refine codeAny_mono go fun res s' h => ?_
  match res, h with
  | .error e, h => exact False.elim h
  | .ok .next, h => exact h.elim
  | .ok .brk, h => exact h.elim
  | .ok .cont, h => exact h.elim
  | .ok (.ret u), h =>
    obtain ⟨v, H', os, bare, un, hok', rv, q⟩ := h
    have q' : v = .bl true := q
    subst q'
    have eu : u = Value.bool true := rv
    subst eu
    refine ⟨rfl, OldK.of_keep fun b o e => ?_, os, bare⟩
    rcases only b with z | ⟨ob, xs, z⟩
    · exact un.keep b o e z (fun y => (List.not_mem_nil (show b ∈ ([] : List Addr) from y)).elim) List.not_mem_nil
    · have y1 := (hok b _ z).1
      have y2 := (hok' b _ (un.frzs b ob _ z)).1
      rw [e] at y1
      cases y1
      exact y2
theorem lawG (kin : K.In s1.heap) (gl : s1.heap.Ns mainGlobals mg) (bl : s1.heap.Ns builtinsNs mb)
    (bb : ∀ y : Str, y ≠ "__name__" → mb y = bootBuiltins y) (lim : s1.heap.NoLimit) (gens : s1.gens = #[])
    (obj : s1.heap.get? a = some { cls := .type "list", data := .seq vs.toArray }) (isInts : IntsAre vs ns) (hl : ns.length ≤ sizeLine)
    (room : Room k callerA) (F : ∀ base : Heap, K.In base → base.Ns mainGlobals mg → FnG P w K mg base CX0 k fa fd [x] sp)
    (bind : ∀ (s : Shared) (u : Value), BindsTo s fd ⟨[u], []⟩ [(x, u)])
    (wish : ∀ H : Hp, Only H → SqL K H a (ns.map V.int) → sp [.ref a] H (fun v _ => v = .bl true) fun _ _ _ => False) :
    codeAny (model P w) callerA (.call (.ref fa) ⟨[.ref a], []⟩)
      (fun r s' => r = .ok (.ret (.bool true)) ∧ OldK s1.heap s'.heap ∧ s'.os = s1.os ∧ AllBare s'.gens) s1 := by
  have rel := vals_ints isInts
  cases hk : K.lookup a with
  | some o =>
    have e := kin a o hk
    rw [obj] at e
    cases e
    have on : Only (fun _ => none) := fun _ => .inl rfl
    have sq : SqL K (fun _ => none) a (ns.map V.int) :=
      .inr ⟨_, vs.toArray, _, hk, rfl, rfl, rfl, by rw [List.size_toArray, isInts.length]; exact hl, by simpa using rel⟩
    exact lawCore kin gl bl bb lim gens obj room F bind on (wish _ on sq) (fun b u z => by cases (show (none : Option HO) = some u from z))
      (fun b z => absurd rfl z) (fun z => absurd rfl z)
  | none =>
    let H : Hp := fun b => if b = a then some (.frz { cls := .type "list", data := .seq vs.toArray } (.lst (ns.map V.int))) else none
    have here : H a = some (.frz { cls := .type "list", data := .seq vs.toArray } (.lst (ns.map V.int))) := if_pos rfl
    have other : ∀ b, b ≠ a → H b = none := fun b hb => if_neg hb
    have on : Only H := fun b => by
      by_cases hb : b = a
      · subst hb
        exact .inr ⟨_, _, here⟩
      · exact .inl (other b hb)
    refine lawCore (H := H) kin gl bl bb lim gens obj room F bind on (wish H on (.inl (.inr ⟨_, here⟩))) ?_ ?_ (fun _ => hk)
    · intro b u z
      by_cases hb : b = a
      · subst hb
        rw [here] at z
        cases z
        exact ⟨obj, by rw [List.length_map]; exact hl, vs, _, rel, obj⟩
      · rw [other b hb] at z
        cases z
    · intro b z
      by_cases hb : b = a
      · exact hb
      · exact absurd (other b hb) z
end
/-- the walk of the law's row -/
theorem walkG {l : PySem.W.OpenLaw} {n k : Nat} {q : Program} {loose : List Str} {XP : (Str → Option Value) → Heap → Prop}
    {YP : World → Heap → Prop} {d : DefRec} {x : Str} (hn : l.most = some n) (hn2 : n ≤ sizeLine) (hdf : d.params.defaults = [])
    (room : Room k callerA)
    (F : ∀ (w : World) (mg : Str → Option Value) (fa : Addr) (h : Heap), YP w h → h.Ns mainGlobals mg → mg d.name = some (.ref fa) →
      ∃ (K : PySem.W.Frag) (fd : FuncData) (sp : Sp), K.In h ∧ (∀ (s : Shared) (u : Value), BindsTo s fd ⟨[u], []⟩ [(x, u)]) ∧
        (∀ (H : Hp) (a : Addr) (ns : List Int), ns.length ≤ n → Only H → SqL K H a (ns.map V.int) →
          sp [.ref a] H (fun v _ => v = .bl true) fun _ _ _ => False) ∧
        ∀ base : Heap, K.In base → base.Ns mainGlobals mg → FnG l.prog w K mg base CX0 k fa fd [x] sp) :
    PySem.W.WalkO q loose XP YP l.row.toRowW d [] (fun f vs => PySem.call f vs) := by
  refine Att.attach_call hn hdf ?_
  intro w s0 s1 mg mb fa o pm cd doc a vs ns G Y ho hd hcd hmg hobj hints hlen hg
  obtain ⟨K, fd, sp, kin, bind, wish, hF⟩ := F w mg fa _ Y G.T.g hmg
  exact lawG kin G.T.g G.T.b G.T.builtins G.T.nolimit hg hobj hints (Nat.le_trans hlen hn2) room hF bind
    fun H hO hS => wish H a ns hlen hO hS
end Cw
namespace Cw
open PySem PySem.Spec PyProof.Rows L2
abbrev FnP (K : PySem.W.Frag) (x q : Str) (st : Stmt) (f : Addr) (fd : FuncData) : Prop := FunD K x q (defArgs st) (defBody st) (defScope st) [] [] f fd
/-! ### heaps -/
def But (p : Addr) (H H' : Hp) : Prop := ∀ b o, b ≠ p → H b = some o → H' b = some o
theorem But.trans {p : Addr} {H H1 H2 : Hp} (a : But p H H1) (b : But p H1 H2) : But p H H2 := fun c o n e => b c o n (a c o n e)
theorem But.refl {p : Addr} {H : Hp} : But p H H := fun _ _ _ e => e
theorem Same.but {p : Addr} {H H1 : Hp} (a : Same H H1) : But p H H1 := fun c o _ e => a c o e
theorem same_new {H : Hp} {p : Addr} {o : HO} (h : H p = none) : Same H (upd H p o) := fun b x e => by
  rw [upd_ne (ne_of_none e h)]
  exact e
theorem but_upd {H : Hp} {p : Addr} {o : HO} : But p H (upd H p o) := fun b x n e => by
  rw [upd_ne n]
  exact e
theorem atI_int {xs : List V} {k : Int} {v : V} (h0 : 0 ≤ k) (h : xs[k.toNat]? = some v) : atI xs k = some v := by
  have e : (k.toNat : Int) = k := Int.toNat_of_nonneg h0
  rw [← e]
  exact atI_nat h
/-- a pot: what is left of a cell's digits, and a number that is mixed on -/
def Pot (H : Hp) (p : Addr) : Prop := ∃ m0 m1 : Int, H p = some (.lst [.int m0, .int m1]) ∧ 0 ≤ m0 ∧ 0 ≤ m1 ∧ m1 ≤ 2147483587
theorem Pot.same {H H' : Hp} {p : Addr} (h : Pot H p) (s : Same H H') : Pot H' p := by
  obtain ⟨a, b, e, r⟩ := h
  exact ⟨a, b, s _ _ e, r⟩
theorem Pot.ne {H : Hp} {p q : Addr} (h : Pot H p) (n : H q = none) : p ≠ q := by
  obtain ⟨a, b, e, r⟩ := h
  exact ne_of_none e n
section
variable {X : Cx}
/-- divmod by a divisor of up to nine thousand bits -/
theorem call_divmodL : CallR X (.builtin "divmod") (fun xs H Q => ∃ i j, xs = [.int i, .int j] ∧ CDivW i j ∧
    ∀ p, H p = none → Q (.ref p) (upd H p (.tup [.int (i / j), .int (i % j)]))) := by
  intro pins s σ H xs us Q I r h
  obtain ⟨i, j, e, c, q⟩ := h
  exact call_divmodW pins s σ H xs us Q I r ⟨i, j, e, ⟨c.1, PyProof.noPylong_of_log2 c.2⟩, q⟩
end
/-- what a pot does when something is drawn of it: it is a pot still, and nothing that stood is otherwise -/
def Drew (p : Addr) (H H' : Hp) : Prop := But p H H' ∧ Pot H' p
theorem Drew.trans {p : Addr} {H H1 H2 : Hp} (a : Drew p H H1) (b : Drew p H1 H2) : Drew p H H2 := ⟨a.1.trans b.1, b.2⟩
theorem log_small {m : Int} {n : Nat} (h0 : 0 < m) (h : m ≤ (n : Int)) (hn : n < 2 ^ 200) : m.natAbs.log2 < 9000 := by
  have h1 : m.natAbs < 2 ^ 200 := by omega
  exact Nat.lt_of_lt_of_le (PySem.Flt.log2_lt_of (by decide) h1) (by decide)
def sign (c : Nat) : Str := ⟨#[c]⟩
theorem sum_ones {α : Type} : ∀ cs : List α, (cs.map fun _ => 1).sum = cs.length
  | [] => rfl
  | _ :: r => by
    rw [List.map_cons, List.sum_cons, sum_ones r, List.length_cons]
    omega
theorem joinL_nil : ∀ ps : List (List Nat), TL.joinL [] ps = ps.flatten
  | [] => rfl
  | [p] => by simp [TL.joinL]
  | p :: q :: r => by
    show p ++ ([] ++ TL.joinL [] (q :: r)) = _
    rw [joinL_nil (q :: r), List.nil_append]
    rfl
theorem flat_sign : ∀ cs : List Nat, ((cs.map sign).map TL.tl).flatten = cs
  | [] => rfl
  | c :: r => by
    show [c] ++ ((r.map sign).map TL.tl).flatten = c :: r
    rw [flat_sign r]
    rfl
theorem tl_word (cs : List Nat) : TL.tl (Txt.join (Str.ofString "") (cs.map sign)) = cs := by
  rw [TL.join_eq, TL.tl_join]
  show TL.joinL [] _ = cs
  rw [joinL_nil, flat_sign]
theorem letter_at : ∀ {x : Int}, 0 ≤ x → x.toNat < 26 → atI (Str.ofString "abcdefghijklmnopqrstuvwxyz").cps.toList x = some (97 + x.toNat) := by
  intro x h0 h
  have e : (x.toNat : Int) = x := Int.toNat_of_nonneg h0
  rw [← e]
  refine atI_nat (j := x.toNat) ?_
  have key : ∀ n : Fin 26, (Str.ofString "abcdefghijklmnopqrstuvwxyz").cps.toList[n.val]? = some (97 + n.val) := by decide +kernel
  exact key ⟨x.toNat, h⟩
/-- small letters, so many at most -/
def Small (n : Nat) (z : Str) : Prop := z.length ≤ n ∧ ∀ c ∈ z.cps.toList, 97 ≤ c ∧ c ≤ 122
theorem word_small {cs : List Nat} {n : Nat} (h : ∀ c ∈ cs, 97 ≤ c ∧ c ≤ 122) (hn : cs.length ≤ n) : Small n (Txt.join (Str.ofString "") (cs.map sign)) := by
  have e := tl_word cs
  refine ⟨?_, ?_⟩
  · have e2 := congrArg List.length e
    have e3 : (TL.tl (Txt.join (Str.ofString "") (cs.map sign))).length = (Txt.join (Str.ofString "") (cs.map sign)).length := by
      first | rfl | exact Array.length_toList
    omega
  · show ∀ c ∈ TL.tl (Txt.join (Str.ofString "") (cs.map sign)), _
    rw [e]
    exact h
/-- the heap without the pot -/
def Off (p : Addr) (H : Hp) : Hp := fun b => if b = p then none else H b
theorem Off.at {p b : Addr} {H : Hp} {o : HO} (n : b ≠ p) (e : H b = some o) : Off p H b = some o := by
  unfold Off
  rw [if_neg n]
  exact e
theorem Off.same {p : Addr} {H : Hp} : Same (Off p H) H := fun b o e => by
  unfold Off at e
  by_cases h : b = p
  · rw [if_pos h] at e
    cases e
  · rw [if_neg h] at e
    exact e
theorem Off.but {p : Addr} {H H' : Hp} (k : But p H H') : Same (Off p H) (Off p H') := fun b o e => by
  unfold Off at e
  by_cases h : b = p
  · rw [if_pos h] at e
    cases e
  · rw [if_neg h] at e
    exact Off.at h (k b o h e)
theorem fresh2 {H : Hp} {p : Addr} {o : HO} (n : H p = none) : Same H (upd H p o) ∧ (upd H p o) p = some o := ⟨same_new n, upd_same⟩
/-- what a comprehension's reading asks, its list at D -/
def LcD (J : It) (g : TG) (tt : TT) (te : TE) (vs : List Nat) (σ : L2.St) (H1 : Hp) (D : Addr) (Qd : Hp → Prop) : Prop := ∃ W : Nat → Nat → Hp → Prop, (∃ m, W 0 m (upd H1 D (.lst []))) ∧ ∀ i m H, W i m H →
  (J.stop i H ∧ Qd H) ∨ (J.go i H ∧ ∃ Nx : Hp → Prop, (∀ H', Nx H' → ∃ m', m' < m ∧ W (i + 1) m' H') ∧ ∀ x H', J.yld i H x H' → g x (wipe σ vs) H' fun σ2 H2 => wipe σ2 vs = wipe σ vs ∧ tt σ2 H2 fun b H3 =>
    if b = true then te σ2 H3 fun y H4 => ∃ acc, H4 D = some (.lst acc) ∧ acc.length < sizeLine ∧ Nx (upd H4 D (.lst (acc ++ [y]))) else Nx H3)
end Cw
/-! repr of data in lists (an empty dict among them); own exceptions as values: made, read, asked for their class. -/
namespace Cw
open PySem PySem.Spec PyProof.Rows L2
/-! ### data, tracked -/
/-- all of them are tuples -/
def allTup : List PyData → Bool
  | [] => true
  | .tuple _ :: r => allTup r
  | _ => false
mutual
inductive Dx (H : Hp) : V → PyData → Prop
  | non : Dx H .non .none
  | bl (b : Bool) : Dx H (.bl b) (.bool b)
  | int (i : Int) : Dx H (.int i) (.int i)
  | str (x : Str) : Dx H (.str x) (.str x)
  | lst {a : Addr} {xs : List V} {ds : List PyData} : H a = some (.lst xs) → DxAll H xs ds → Dx H (.ref a) (.list ds)
  | tup {a : Addr} {xs : List V} {ds : List PyData} (e : H a = some (.tup xs)) (r : DxAll H xs ds) (n : allTup ds = false := by rfl) : Dx H (.ref a) (.tuple ds)
  | tupz {a : Addr} {xs : List V} {ds : List PyData} {o : Obj} (e : H a = some (.frz o (.tup xs))) (dn : o.dict = none) (r : DxAll H xs ds) (n : allTup ds = true) : Dx H (.ref a) (.tuple ds)
  | emp {a : Addr} : H a = some (.dK []) → Dx H (.ref a) (.dict [])
inductive DxAll (H : Hp) : List V → List PyData → Prop
  | nil : DxAll H [] []
  | cons {v : V} {vs : List V} {d : PyData} {ds : List PyData} : Dx H v d → DxAll H vs ds → DxAll H (v :: vs) (d :: ds)
end
mutual
theorem Dx.but {p : Addr} {n : List V} {H H' : Hp} (hp : H p = some (.lst n)) (k : ∀ b o, b ≠ p → H b = some o → H' b = some o) (np : ∀ d, ¬ Dx H (.ref p) d) : ∀ (d : PyData) (v : V), Dx H v d → Dx H' v d
  | .none, _, h => by cases h; exact .non
  | .bool b, _, h => by cases h; exact .bl b
  | .int i, _, h => by cases h; exact .int i
  | .str x, _, h => by cases h; exact .str x
  | .list ds, _, h => by
    cases h with
    | @lst a xs _ e r =>
      exact .lst (k a _ (fun z => np _ (z ▸ Dx.lst e r)) e) (Dx.butAll hp k np ds xs r)
  | .tuple ds, _, h => by
    cases h with
    | @tup a xs _ e r n =>
      exact .tup (k a _ (fun z => np _ (z ▸ Dx.tup e r n)) e) (Dx.butAll hp k np ds xs r) n
    | @tupz a xs _ o e dn r n =>
      exact .tupz (k a _ (fun z => np _ (z ▸ Dx.tupz e dn r n)) e) dn (Dx.butAll hp k np ds xs r) n
  | .dict kvs, _, h => by
    cases h with
    | emp e => exact .emp (k _ _ (fun z => np _ (z ▸ Dx.emp e)) e)
theorem Dx.butAll {p : Addr} {n : List V} {H H' : Hp} (hp : H p = some (.lst n)) (k : ∀ b o, b ≠ p → H b = some o → H' b = some o) (np : ∀ d, ¬ Dx H (.ref p) d) : ∀ (ds : List PyData) (vs : List V), DxAll H vs ds → DxAll H' vs ds
  | [], _, h => by cases h; exact .nil
  | d :: ds, _, h => by
    cases h with
    | cons h1 h2 => exact .cons (Dx.but hp k np d _ h1) (Dx.butAll hp k np ds _ h2)
end
mutual
theorem Dx.same {H H' : Hp} (k : Same H H') : ∀ (d : PyData) (v : V), Dx H v d → Dx H' v d
  | .none, _, h => by cases h; exact .non
  | .bool b, _, h => by cases h; exact .bl b
  | .int i, _, h => by cases h; exact .int i
  | .str x, _, h => by cases h; exact .str x
  | .list ds, _, h => by
    cases h with
    | lst e r => exact .lst (k _ _ e) (Dx.sameAll k ds _ r)
  | .tuple ds, _, h => by
    cases h with
    | tup e r n => exact .tup (k _ _ e) (Dx.sameAll k ds _ r) n
    | tupz e dn r n => exact .tupz (k _ _ e) dn (Dx.sameAll k ds _ r) n
  | .dict kvs, _, h => by
    cases h with
    | emp e => exact .emp (k _ _ e)
theorem Dx.sameAll {H H' : Hp} (k : Same H H') : ∀ (ds : List PyData) (vs : List V), DxAll H vs ds → DxAll H' vs ds
  | [], _, h => by cases h; exact .nil
  | d :: ds, _, h => by
    cases h with
    | cons h1 h2 => exact .cons (Dx.same k d _ h1) (Dx.sameAll k ds _ h2)
end
/-- the written part knows the table of modules, which is a dict -/
def HasMods (K : PySem.W.Frag) : Prop := ∃ o, K.lookup sysModules = some o ∧ o.cls = .type "dict"
section
variable {X : Cx} {pins : List (Addr × Obj)} {σ : L2.St} {H : Hp} {s : Shared}
mutual
theorem Dx.reads (I : Inv X pins σ H s) (hm : HasMods X.K) : ∀ (d : PyData) (v : V) (u : Value), Dx H v d → RelV v u → ∃ as, Reads s.heap u d as ∧ sysModules ∉ as
  | .none, _, _, h, r => by
    cases h
    cases r
    exact ⟨_, Reads.none, List.not_mem_nil⟩
  | .bool b, _, _, h, r => by
    cases h
    cases r
    exact ⟨_, Reads.bool b, List.not_mem_nil⟩
  | .int i, _, _, h, r => by
    cases h
    obtain ⟨t, rfl⟩ := r
    exact ⟨_, Reads.int i t, List.not_mem_nil⟩
  | .str x, _, _, h, r => by
    cases h
    obtain ⟨t, rfl⟩ := r
    exact ⟨_, Reads.str x t, List.not_mem_nil⟩
  | .list ds, _, _, h, r => by
    cases h with
    | @lst a xs _ e ra =>
      cases r
      obtain ⟨_, its, n, rv, ho⟩ := (show ObjOk X.prog X.w H s.heap a (.lst xs) from I.hok a _ e)
      obtain ⟨as, q, nm⟩ := Dx.readsAll I hm ds xs its ra rv
      refine ⟨_, Reads.list ho rfl rfl q, fun z => ?_⟩
      rcases List.mem_cons.mp z with z | z
      · obtain ⟨o, l, c⟩ := hm
        have e2 := I.kIn _ _ l
        rw [z, ho] at e2
        cases e2
        exact absurd (Value.type.inj c) (by decide)
      · exact nm z
  | .tuple ds, _, _, h, r => by
    cases h with
    | @tup a xs _ e ra _ =>
      cases r
      obtain ⟨_, its, rv, o, ho, hc, n, hd⟩ := (show ObjOk X.prog X.w H s.heap a (.tup xs) from I.hok a _ e)
      obtain ⟨as, q, nm⟩ := Dx.readsAll I hm ds xs its ra rv
      exact ⟨_, Reads.tuple ho hc hd q, nm⟩
    | @tupz a xs _ ob e dn ra _ =>
      cases r
      obtain ⟨_, _, its, rv, o, ho, hc, n, hd⟩ := (show ObjOk X.prog X.w H s.heap a (.frz ob (.tup xs)) from I.hok a _ e)
      obtain ⟨as, q, nm⟩ := Dx.readsAll I hm ds xs its ra rv
      exact ⟨_, Reads.tuple ho hc hd q, nm⟩
  | .dict kvs, _, _, h, r => by
    cases h with
    | @emp a e =>
      cases r
      obtain ⟨_, ns, vs, kv, o, es, ep, ho, hx, hd, hn⟩ := (show ObjOk X.prog X.w H s.heap a (.dK []) from I.hok a _ e)
      cases kv
      have he : es.toList = [] := by
        have z := hn.2.1
        revert z
        generalize es.toList = l
        intro z
        cases z
        rfl
      have q : Reads s.heap (.ref a) (.dict []) (a :: [] ++ []) := Reads.dict ho hx.1 hd (by rw [he]; exact .nil) (by rw [he]; exact .nil)
      refine ⟨_, q, fun z => ?_⟩
      have z2 : sysModules = a := by simpa using z
      rw [z2] at ns
      simp at ns
theorem Dx.readsAll (I : Inv X pins σ H s) (hm : HasMods X.K) : ∀ (ds : List PyData) (vs : List V) (us : List Value), DxAll H vs ds → Vals vs us → ∃ as, ReadsAll s.heap us ds as ∧ sysModules ∉ as
  | [], _, _, h, r => by
    cases h
    cases r
    exact ⟨_, ReadsAll.nil, List.not_mem_nil⟩
  | d :: ds, _, _, h, r => by
    cases h with
    | cons h1 h2 =>
      cases r with
      | cons r1 r2 =>
        obtain ⟨as, q1, n1⟩ := Dx.reads I hm d _ _ h1 r1
        obtain ⟨bs, q2, n2⟩ := Dx.readsAll I hm ds _ _ h2 r2
        exact ⟨_, ReadsAll.cons q1 q2, fun z => (List.mem_append.mp z).elim n1 n2⟩
end
end
section
variable {X : Cx}
/-- repr of a truth -/
theorem call_reprB : CallR X (.builtin "repr") (fun xs H Q => ∃ b : Bool, xs = [.bl b] ∧ Q (.str (if b then "True" else "False")) H) := by
  intro pins s σ H xs us Q I r h
  obtain ⟨b, rfl, q⟩ := h
  obtain ⟨u, rfl, r1⟩ := vals1 r
  cases r1
  exact PySem.P.repr_of_bool ⟨.str _, H, I.tok _, ⟨_, rfl⟩, q⟩
/-- tuple(xs), the tuple known to have no dict of its own -/
theorem call_tupleZ : CallR X (.type "tuple") (fun xs H Q => ∃ p ys, xs = [.ref p] ∧ SqL X.K H p ys ∧ ∀ (l : Addr) (o : Obj), H l = none → o.dict = none → Q (.ref l) (upd H l (.frz o (.tup ys)))) := by
  intro pins s σ H xs us Q I r h
  obtain ⟨p, ys, rfl, hq, q⟩ := h
  obtain ⟨u, rfl, rx⟩ := vals1 r
  cases rx
  obtain ⟨its, r', pl, hz⟩ := I.list hq
  have many := r'.length
  refine call_tuple_list pl.isList (fun h' kp => ?_) (by simp only [List.size_toArray] <;> omega)
  have J : Inv X pins σ H { s with heap := h' } := I.kept (t' := s.toks) kp
  let ob : Obj := { cls := .type "tuple", data := .seq its.toArray }
  have at_ : (h'.push ob).get? h'.objs.size = some ob := Heap.get?_push_size _ rfl
  refine ⟨.ref h'.objs.size, upd H h'.objs.size (.frz ob (.tup ys)), J.laid (t' := s.toks) (fun b o e => Heap.get?_push_of_some _ e) (Nat.le_refl _) ?_, rfl, q _ ob (J.hok.fresh (Nat.le_refl _)) rfl⟩
  exact ⟨at_, hz, its, r', ⟨_, at_, rfl, _, rfl⟩⟩
/-- the tuple of nothing, likewise -/
def tTupZ : TE := fun _ H Q => ∀ (p : Addr) (o : Obj), H p = none → o.dict = none → Q (.ref p) (upd H p (.frz o (.tup [])))
theorem pe_tupZ {k : Nat} {pos : Pos} : PE X (.Tuple [] k pos) tTupZ := by
  constructor
  intro pins s σ H Q I hq
  refine wpAny_Tuple_spliced (thn ((pa_nil (X := X)).run pos pins s σ H (fun xs H1 => xs = [] ∧ H1 = H) I ⟨rfl, rfl⟩) fun us s1 z => ?_)
  obtain ⟨xs, H1, I1, r, rfl, rfl⟩ := z
  cases r
  let ob : Obj := { cls := .type "tuple", data := .seq #[] }
  have at_ : (s1.heap.push ob).get? s1.heap.objs.size = some ob := Heap.get?_push_size _ rfl
  refine ⟨by show 0 ≤ sizeLine; omega, ⟨.ref s1.heap.objs.size, upd H1 s1.heap.objs.size (.frz ob (.tup [])), I1.laid (t' := s1.toks) (fun b u e => Heap.get?_push_of_some _ e) (Nat.le_refl _) ?_, rfl, hq _ ob (I1.hok.fresh (Nat.le_refl _)) rfl⟩⟩
  exact ⟨at_, by show 0 ≤ sizeLine; omega, [], .nil, ⟨_, at_, rfl, _, rfl⟩⟩
/-- repr of a list, a tuple, an empty dict -/
theorem call_reprX (hg : X.A.guards = some []) (hu : X.A.units + 64 < cLine) (hm : HasMods X.K) : CallR X (.builtin "repr") (fun xs H Q => ∃ (a : Addr) (d : PyData), xs = [.ref a] ∧ Dx H (.ref a) d ∧
    d.showable = true ∧ d.depth ≤ 60 ∧ d.shown.length ≤ sizeLine ∧ Q (.str d.shown) H) := by
  intro pins s σ H xs us Q I r h
  obtain ⟨a, d, rfl, hd, hs, hdp, hz, q⟩ := h
  obtain ⟨u, rfl, r1⟩ := vals1 r
  cases r1
  obtain ⟨as, rd, nm⟩ := Dx.reads I hm d _ _ hd rfl
  exact repr_of_reads' rd hs (fun _ => nm) hg (by omega) (fun _ _ e => e) (fun h' u tk hk => ⟨.str d.shown, H, I.kept (t' := tk) hk, ⟨u, rfl⟩, q⟩) hz
end

end Cw
/-! sorted(d.items()) of a dict from whole numbers to whole numbers -/
namespace Cw
open PySem PySem.Spec PyProof.Rows L2
/-- a dict's pairs -/
def enc (hs : List (Int × Int)) : List (Key × V) := hs.map fun h => (Sum.inl h.1, V.int h.2)
/-- the same body, one unit of C's stack further -/
def Cx.in1 (X : Cx) : Cx := { X with A := X.A.in1 }
section
variable {X : Cx} {pins : List (Addr × Obj)} {σ : L2.St} {H : Hp} {s : Shared}
theorem inv_in1 (I : Inv X pins σ H s) : Inv (Cx.in1 X) pins σ H s := by
  obtain ⟨ok, h1, h2, h3, h4, h5, h6, h7, h8, h9, h10⟩ := I
  obtain ⟨k1, k2, k3, k4, k5, k6, k7, k8, k9, k10, k11, k12, k13, k14, k15, k16, k17, k18⟩ := ok
  exact ⟨⟨k1, k2, k3, k4, k5, k6, k7, k8, k9, k10, k11, k12, k13, k14, k15, k16, k17, k18⟩, h1, h2, h3, h4, h5, h6, h7, h8, h9, h10⟩
theorem in1_inv (I : Inv (Cx.in1 X) pins σ H s) : Inv X pins σ H s := by
  obtain ⟨ok, h1, h2, h3, h4, h5, h6, h7, h8, h9, h10⟩ := I
  obtain ⟨k1, k2, k3, k4, k5, k6, k7, k8, k9, k10, k11, k12, k13, k14, k15, k16, k17, k18⟩ := ok
  exact ⟨⟨k1, k2, k3, k4, k5, k6, k7, k8, k9, k10, k11, k12, k13, k14, k15, k16, k17, k18⟩, h1, h2, h3, h4, h5, h6, h7, h8, h9, h10⟩
end
theorem pairs_at {P : Program} {w : World} {vs : List (Key × Value)} : ∀ {es : List DictEntry} {kvs : List (Key × V)}, PySem.Pairs (mixKind P w) es vs → KV kvs vs → ∀ (j : Nat) (e : DictEntry), es[j]? = some e → ∃ k v, kvs[j]? = some (k, v) ∧ RelV (kV k) e.key ∧ RelV v e.val := by
  intro es kvs h
  induction h generalizing kvs with
  | nil =>
    intro _ j e he
    cases he
  | @cons e0 kv es ks h1 h2 h3 ih =>
    intro hk j e he
    cases hk with
    | @cons q _ qs _ r1 r2 =>
      cases j with
      | zero =>
        have ee : e0 = e := Option.some.inj he
        subst ee
        refine ⟨q.1, q.2, rfl, ?_, ?_⟩
        · have := relV_key (show keyIs kv.1 e0.key = true from h1)
          rw [← r1.1] at this
          exact this
        · rw [h2]
          exact r1.2
      | succ j => exact ih r2 j e he
/-- which pair stands at an address -/
def pairOf (as : List Addr) (hs : List (Int × Int)) : V → Int × Int
  | .ref t => ((as.zip hs).lookup t).getD (0, 0)
  | _ => (0, 0)
theorem pairOf_at : ∀ {as : List Addr} {hs : List (Int × Int)} {j : Nat} {a : Addr} {h : Int × Int}, as.Nodup → as[j]? = some a → hs[j]? = some h → pairOf as hs (.ref a) = h
  | [], _, _, _, _, _, e, _ => by cases e
  | _ :: _, [], _, _, _, _, _, e => by cases e
  | b :: as, g :: hs, 0, a, h, _, e1, e2 => by
    have e1' : b = a := Option.some.inj e1
    have e2' : g = h := Option.some.inj e2
    subst e1' e2'
    show (((b, g) :: as.zip hs).lookup b).getD (0, 0) = g
    simp [List.lookup]
  | b :: as, g :: hs, j + 1, a, h, nd, e1, e2 => by
    have hn := List.nodup_cons.mp nd
    have ne : a ≠ b := fun z => hn.1 (by rw [← z]; exact List.mem_of_getElem? e1)
    have ih := pairOf_at (as := as) (hs := hs) (j := j) (a := a) (h := h) hn.2 e1 e2
    show (((b, g) :: as.zip hs).lookup a).getD (0, 0) = h
    have eb : (a == b) = false := beq_eq_false_iff_ne.mpr ne
    simp only [List.lookup, eb]
    exact ih
theorem map_pairOf {as : List Addr} {hs : List (Int × Int)} (nd : as.Nodup) (hl : as.length = hs.length) : (as.map V.ref).map (pairOf as hs) = hs := by
  refine List.ext_getElem? fun j => ?_
  rw [List.getElem?_map, List.getElem?_map]
  by_cases hj : j < as.length
  · rw [List.getElem?_eq_getElem hj, List.getElem?_eq_getElem (by omega)]
    show some (pairOf as hs (.ref as[j])) = _
    rw [pairOf_at nd (List.getElem?_eq_getElem hj) (List.getElem?_eq_getElem (by omega))]
  · rw [List.getElem?_eq_none (by omega), List.getElem?_eq_none (by omega)]
    rfl
def adr : V → Addr
  | .ref t => t
  | _ => 0
theorem refs_map : ∀ {zs : List V}, (∀ z ∈ zs, ∃ a, z = .ref a) → (zs.map adr).map V.ref = zs
  | [], _ => rfl
  | z :: r, h => by
    obtain ⟨a, rfl⟩ := h z List.mem_cons_self
    rw [List.map_cons, List.map_cons, refs_map fun y hy => h y (List.mem_cons_of_mem _ hy)]
    rfl
theorem paired_refs {G : Addr → Int × Int → Prop} {k : V → Int × Int} : ∀ {zs : List V}, (∀ z ∈ zs, G (adr z) (k z)) → Paired G (zs.map adr) (zs.map k)
  | [], _ => .nil
  | z :: r, h => .cons (h z List.mem_cons_self) (paired_refs fun y hy => h y (List.mem_cons_of_mem _ hy))
theorem pairs_rise {k : V → Int × Int} : ∀ {zs : List V}, zs.Pairwise (fun x y => SrtO.lexB (k y) (k x) = false) → ((zs.map k).map (·.1)).Nodup → (zs.map k).Pairwise (fun a b => a.1 < b.1)
  | [], _, _ => .nil
  | z :: r, h, nd => by
    obtain ⟨h1, h2⟩ := List.pairwise_cons.mp h
    rw [List.map_cons, List.map_cons] at nd
    obtain ⟨n1, n2⟩ := List.nodup_cons.mp nd
    rw [List.map_cons]
    refine List.pairwise_cons.mpr ⟨fun b hb => ?_, pairs_rise h2 n2⟩
    obtain ⟨y, hy, rfl⟩ := List.mem_map.mp hb
    have q := SrtO.lexB_no.mp (h1 y hy)
    have ne : (k z).1 ≠ (k y).1 := fun e => n1 (by rw [e]; exact List.mem_map.mpr ⟨_, List.mem_map.mpr ⟨y, hy, rfl⟩, rfl⟩)
    omega
def rSortK : V → Hp → VK → Prop := fun x H Q => ∃ (d : Addr) (hs : List (Int × Int)), x = .ref d ∧ H d = some (.dK (enc hs)) ∧ hs.length ≤ 1000 ∧ (hs.map (·.1)).Nodup ∧
  ∀ (H' : Hp) (p : Addr) (ts : List Addr) (hs' : List (Int × Int)), Same H H' → H p = none → H' p = some (.lst (ts.map V.ref)) → Paired (fun (t : Addr) (h : Int × Int) => H' t = some (.tup [.int h.1, .int h.2])) ts hs' → hs'.Perm hs → hs'.Pairwise (fun a b => a.1 < b.1) → Q (.ref p) H'
def tSortK (te : TE) : TE := fun σ H Q => te σ H fun x H1 => rSortK x H1 Q
section
variable {X : Cx} {e : Expr} {te : TE} {p apos cpos pos : Pos}
theorem pe_sortedItems (hc : X.calm = true) (he : PE X e te) (hg : Gl X "sorted") (hm : X.mg "sorted" = none) (hbase : attributeBase e "items" X.env (eval e X.env) = eval e X.env := by rfl) (hline : (apos.endLine == cpos.line) = true := by rfl)
    (hs : starEach [.Call (.Attribute e "items" apos) [] [] cpos] X.env = (false, eval (.Call (.Attribute e "items" apos) [] [] cpos) X.env) :: starEach [] X.env := by rfl) :
    PE X (.Call (.Name "sorted" p) [.Call (.Attribute e "items" apos) [] [] cpos] [] pos) (tSortK te) := by
  constructor
  intro pins s σ H Q I hq
  refine wpAny_Call_Name_kw (ld_blt I hg hm (show bootBuiltins "sorted" = some (.builtin "sorted") by decide +kernel) ?_)
  refine PyProof.Rows.callWith_builtin1 ?_ hs rfl
  rw [hs]
  show wpAny _ _ (spliced ((false, eval (.Call (.Attribute e "items" apos) [] [] cpos) X.env) :: backTo pos (starEach [] X.env))) _ _ s
  refine Calls.spliced_cons ?_
  refine wpAny_Call_method (T := "dict") (id := "dict.items") hbase rfl hline F.plainAttrs_dict F.slot_dict_items F.type_dict_items (thn (he.run pins s σ H _ I hq) fun u s1 z => ?_)
  obtain ⟨x, H1, I1, rx, d, hs', ex, hd, hlen, nd, q⟩ := z
  subst ex
  have eu : u = Value.ref d := rx
  subst eu
  obtain ⟨hz, hs0, vs, kv, hdo⟩ := I1.hok d _ hd
  have I2 : Inv X pins σ H1 { s1 with heap := s1.heap.push { cls := .type "dict_items", data := .fields #[.ref d] } } := I1.kept (t' := s1.toks) fun b ob q => Heap.get?_push_of_some _ q
  refine ⟨hdo.typeIs, hdo.mapOf.noDict, ?_⟩
  show wpAny _ _ (callWith cpos (.builtin "dict.items") [.ref d] [] []) _ X.xe s1
  refine method_meetsIn F.slot_dict_items F.entry_dict_items rfl (PySem.evalArgs_none ⟨rfl, hdo.typeIs, F.args_dict_items_1 _, _, meets_dict_items (mixKind X.prog X.w) d hs0, ⟨vs, hdo⟩, ?_⟩)
  refine Calls.spliced_nil ?_
  obtain ⟨o, es, ep, ho, hx, hdat, hko, hpr, hnd⟩ := hdo
  have lk : (enc hs').length = vs.length := Paired.length kv
  have le : es.size = vs.length := by
    have key : ∀ {l : List DictEntry} {ks : List (Key × Value)}, PySem.Pairs (mixKind X.prog X.w) l ks → l.length = ks.length := by
      intro l ks h
      induction h with
      | nil => rfl
      | cons _ _ _ ih => simp [ih]
    have := key hpr
    rw [Array.length_toList] at this
    exact this
  have l0 : (enc hs').length = hs'.length := List.length_map ..
  refine DT.sortedI (A := X.A) (es := es) (ep := ep) (I1.ok.hd hc) ⟨_, Heap.get?_push_size _ rfl, rfl, rfl⟩ ⟨o, Heap.get?_push_of_some _ ho, hx, hdat⟩ (by rw [sizeLine_eq]; omega) fun h' tk as hk hlt hl hG => ?_
  generalize hsI : ({ s1 with heap := s1.heap.push { cls := .type "dict_items", data := .fields #[.ref d] } } : Shared) = sI at I2 hk hlt hG ⊢
  have nda : as.Nodup := List.Pairwise.imp (fun h => Nat.ne_of_lt h) hG.rise
  have J0 : Inv X pins σ H1 { sI with heap := h', toks := tk } := I2.kept (t' := tk) hk
  obtain ⟨H2, J1, k1, k2⟩ := L2.DX.takeT (P := fun a vs => ∃ (j : Nat) (h : Int × Int), as[j]? = some a ∧ hs'[j]? = some h ∧ vs = [.int h.1, .int h.2]) I2 as H1 J0 nda fun a ha => by
    have lo := hG.above a ha
    refine ⟨Nat.le_of_lt lo, I2.hok.fresh (Nat.le_of_lt lo), ?_⟩
    obtain ⟨j, hj⟩ := List.mem_iff_getElem?.mp ha
    obtain ⟨en, he1, he2⟩ := hG.pairs j a hj
    obtain ⟨k, v, e1, e2, e3⟩ := pairs_at hpr kv j en (by rw [Array.getElem?_toList]; exact he1)
    unfold enc at e1
    rw [List.getElem?_map] at e1
    cases hh : hs'[j]? with
    | none =>
      rw [hh] at e1
      cases e1
    | some h =>
      rw [hh] at e1
      have e4 : (Sum.inl h.1, V.int h.2) = (k, v) := Option.some.inj e1
      have e5 : (Sum.inl h.1 : Key) = k := congrArg Prod.fst e4
      have e6 : V.int h.2 = v := congrArg Prod.snd e4
      subst e5 e6
      exact ⟨_, ⟨j, h, hj, hh, rfl⟩, fun H3 => ⟨by show 2 ≤ sizeLine; decide, [en.key, en.val], .cons e2 (.cons e3 .nil), ⟨_, he2, rfl, _, rfl⟩⟩⟩
  have hob : (h'.push { cls := .type "list", data := .seq (as.map Value.ref).toArray }).get? h'.objs.size = some { cls := .type "list", data := .seq (as.map Value.ref).toArray } := Heap.get?_push_size _ rfl
  have J2 : Inv X pins σ (upd H2 h'.objs.size (.lst (as.map V.ref))) { sI with heap := h'.push { cls := .type "list", data := .seq (as.map Value.ref).toArray }, toks := tk } :=
    J1.laid (t' := tk) (fun b u e => Heap.get?_push_of_some _ e) (Nat.le_refl _) ⟨by rw [List.length_map, sizeLine_eq]; omega, _, _, LiI.vals_refs as, hob⟩
  have n1 : H1 h'.objs.size = none := J0.hok.fresh (Nat.le_refl _)
  have n2 : H2 h'.objs.size = none := J1.hok.fresh (Nat.le_refl _)
  have lah : as.length = hs'.length := by omega
  have at_ : ∀ a ∈ as, H2 a = some (.tup [.int (pairOf as hs' (.ref a)).1, .int (pairOf as hs' (.ref a)).2]) := fun a ha => by
    obtain ⟨vs, ⟨j, h, e1, e2, rfl⟩, e3⟩ := k2 a ha
    rw [pairOf_at nda e1 e2]
    exact e3
  refine wpAny_mono (mt_sortPO (X := Cx.in1 X) pins _ σ _ (.ref h'.objs.size) [] (.ref h'.objs.size) [] (fun v H3 => v = .non ∧ Q (.ref h'.objs.size) H3) (inv_in1 J2) rfl .nil ⟨h'.objs.size, as.map V.ref, pairOf as hs', rfl, rfl, upd_same, fun y hy => ?_, fun zs srt stb => ⟨rfl, ?_⟩⟩) (fun u s' z => ?_) fun _ _ z => z
  · obtain ⟨a, ha, rfl⟩ := List.mem_map.mp hy
    refine ⟨a, rfl, ?_⟩
    rw [upd_ne (ne_of_none (at_ a ha) n2)]
    exact at_ a ha
  · have refs : ∀ z ∈ zs, ∃ a ∈ as, z = .ref a := fun z hz => by
      obtain ⟨a, ha, e⟩ := List.mem_map.mp (stb.perm.mem_iff.mp hz)
      exact ⟨a, ha, e.symm⟩
    have ez : (zs.map adr).map V.ref = zs := refs_map fun z hz => by
      obtain ⟨a, _, e⟩ := refs z hz
      exact ⟨a, e⟩
    refine q _ h'.objs.size (zs.map adr) (zs.map (pairOf as hs')) (fun b o e => ?_) n1 (by rw [upd_same, ez]) ?_ ?_ ?_
    · rw [upd_ne (ne_of_none e n1), upd_ne (ne_of_none (k1 b o e) n2)]
      exact k1 b o e
    · refine paired_refs fun z hz => ?_
      obtain ⟨a, ha, rfl⟩ := refs z hz
      have := at_ a ha
      show (upd _ _ _) a = _
      rw [upd_ne (ne_of_none this n2), upd_ne (ne_of_none this n2)]
      exact this
    · have p1 := stb.perm.map (pairOf as hs')
      rw [map_pairOf nda lah] at p1
      exact p1
    · have p1 := stb.perm.map (pairOf as hs')
      rw [map_pairOf nda lah] at p1
      exact pairs_rise srt ((p1.map (·.1)).nodup_iff.mpr nd)
  · obtain ⟨v, H3, J3, r3, ev, q3⟩ := z
    exact ⟨.ref h'.objs.size, H3, in1_inv J3, rfl, q3⟩
end
end Cw
/-! what the rules lacked: blocks that are never come to; list(d.values()); enumerate of a list or of the tuple of nothing; isinstance of a built-in class -/
namespace Cw
open PySem PySem.Spec PyProof.Rows L2
section
variable {X : Cx}
def noS : TS := fun _ _ _ => False
def noE : TE := fun _ _ _ => False
theorem ps_no {st : Stmt} : PS X st noS := ⟨fun _ _ _ _ _ _ h => False.elim h⟩
theorem pss_no {st : List Stmt} : PSs X st noS := ⟨fun _ _ _ _ _ _ h => False.elim h⟩
theorem pe_no {e : Expr} : PE X e noE := ⟨fun _ _ _ _ _ _ h => False.elim h⟩
/-! ### list(d.values()) -/
def tListVals (te : TE) : TE := fun σ H Q => te σ H fun x H1 => ∃ (d : Addr) (kvs : List (Key × V)), x = .ref d ∧ H1 d = some (.dK kvs) ∧ ∀ q, H1 q = none → Q (.ref q) (upd H1 q (.lst (kvs.map (·.2))))
theorem pe_listVals {e : Expr} {te : TE} {p apos cpos pos : Pos} (hc : X.calm = true) (he : PE X e te) (hg : Gl X "list") (hm : X.mg "list" = none) (hv : bootBuiltins "list" = some (.type "list")) (hbase : attributeBase e "values" X.env (eval e X.env) = eval e X.env := by rfl) (hline : (apos.endLine == cpos.line) = true := by rfl)
    (hs : starEach [.Call (.Attribute e "values" apos) [] [] cpos] X.env = (false, eval (.Call (.Attribute e "values" apos) [] [] cpos) X.env) :: starEach [] X.env := by rfl) :
    PE X (.Call (.Name "list" p) [.Call (.Attribute e "values" apos) [] [] cpos] [] pos) (tListVals te) := by
  refine ⟨fun pins s σ H Q I hq => ?_⟩
  refine wpAny_Call_Name_kw (ld_blt I hg hm hv ?_)
  refine PyProof.Rows.callWith_type1 ?_ hs rfl
  rw [hs]
  show wpAny _ _ (spliced ((false, eval (.Call (.Attribute e "values" apos) [] [] cpos) X.env) :: backTo pos (starEach [] X.env))) _ _ s
  refine Calls.spliced_cons ?_
  refine wpAny_Call_method (T := "dict") (id := "dict.values") hbase rfl hline F.plainAttrs_dict F.slot_dict_values F.type_dict_values (thn (he.run pins s σ H _ I hq) fun u s1 ⟨x, H1, I1, rx, d, kvs, ex, hd, q⟩ => ?_)
  subst ex
  obtain rfl : u = Value.ref d := rx
  obtain ⟨hz, hs0, vs, kv, hdo⟩ := I1.hok d _ hd
  obtain ⟨ep, hat⟩ := hdo.dictAt
  have lk : kvs.length = vs.length := Paired.length kv
  have I2 : Inv X pins σ H1 { s1 with heap := s1.heap.push { cls := .type "dict_values", data := .fields #[.ref d] } } := I1.kept (t' := s1.toks) fun b ob q => Heap.get?_push_of_some _ q
  refine ⟨hdo.typeIs, hdo.mapOf.noDict, ?_⟩
  show wpAny _ _ (callWith cpos (.builtin "dict.values") [.ref d] [] []) _ X.xe s1
  refine method_meetsIn F.slot_dict_values F.entry_dict_values rfl (PySem.evalArgs_none ⟨rfl, hdo.typeIs, F.args_dict_values_1 _, _, meets_dict_values (mixKind X.prog X.w) d hs0, ⟨vs, hdo⟩, ?_⟩)
  refine Calls.spliced_nil ?_
  refine PySem.W.kdl_call (PySem.W.kdl_values (knd := mixKind X.prog X.w) (kvs := vs) (ep := ep)) (I1.ok.hd hc) ⟨⟨_, Heap.get?_push_size _ rfl, rfl, rfl⟩, hat.push _⟩ (by rw [← lk]; exact hz) fun h' tk acc' c' hkeep hS hacc => ?_
  refine ⟨.ref _, upd H1 _ (.lst (kvs.map (·.2))), I2.laid hkeep (Nat.le_refl _) (show ObjOk X.prog X.w _ _ _ (.lst (kvs.map (·.2))) from ⟨?_, acc'.toList, c', ?_, ?_⟩), rfl, q _ (I2.hok.fresh (Nat.le_refl _))⟩
  · rw [List.length_map]; exact hz
  · have el : acc'.toList.length = acc'.size := by simp
    refine vals_of_at (by rw [List.length_map, el, hacc.1, lk]) fun j x w h1 h2 => ?_
    obtain ⟨k, hky⟩ := hacc.2 j w (by rw [← Array.getElem?_toList]; exact h2)
    rw [List.getElem?_map] at h1
    cases hj : kvs[j]? with
    | none => rw [hj] at h1; cases h1
    | some y =>
      rw [hj] at h1
      cases h1
      obtain ⟨qv, g1, g2, g3⟩ := LiI.paired_get kv hj
      rw [hky] at g1
      cases g1
      exact g3
  · rw [Array.toArray_toList]; exact hS
/-! ### enumerate(xs), xs a list, or the tuple of nothing -/
def ItNone (K : PySem.W.Frag) (a : Addr) : It := ⟨fun _ _ => False, fun _ _ _ _ => False, fun _ H => SqT K H a []⟩
end
set_option maxHeartbeats 1000000 in
theorem meets_enumerate_newT (l : Addr) (items : Array Value) (n : Nat) (dct : Option Addr) (sl : Array (Option Value)) :
    Meets (Builtin.«enumerate.__new__» ⟨[.type "enumerate", .ref l], []⟩) (fun _ R s => s.heap.get? l = some { cls := .type "tuple", dict := dct, data := .seq items n, slots := sl } ∧
      R (.ok (.ret (.ref (s.heap.push { cls := .type "tuple_iterator", data := .fields #[.ref l, .int 0 0] }).objs.size)))
        { s with heap := (s.heap.push { cls := .type "tuple_iterator", data := .fields #[.ref l, .int 0 0] }).push { cls := .type "enumerate", data := .fields #[.none, .bool false, .ref s.heap.objs.size, rawInt 0, .none, .none] } }) :=
  .of_wp fun prog w A R s h => by
    obtain ⟨hp, g, d, tk, os⟩ := s; obtain ⟨hl, h⟩ := h
    have hsub := sub_enumerate
    have hL : Heap.IsTuple (Shared.heap ⟨hp, g, d, tk, os⟩) l items := ⟨_, hl, rfl, n, rfl⟩
    wp_walk using wpAny_loadPart' hl
    refine wpAny_stack_any fun st => wpAny_pure ?_
    split
    · rename_i c _ _ _ _ _
      cases (c == Value.type "enumerate")
      · wp_walk using wpAny_loadPart' hl, wpAny_pyIter_tuple hL
        exact ⟨_, rfl, h⟩
      · wp_walk using wpAny_loadPart' hl, wpAny_pyIter_tuple hL
        exact ⟨_, rfl, h⟩
    · wp_walk using wpAny_loadPart' hl, wpAny_pyIter_tuple hL
      exact ⟨_, rfl, h⟩
section
variable {prog : Program} {w : World} {A : Around} {E : Value → Shared → Prop} {s : Shared}
theorem call_enumerate_tuple {l : Addr} {items : Array Value} {Q : Value → Shared → Prop} (hL : s.heap.IsTuple l items)
    (h : ∀ h', IsEnum h' (s.heap.objs.size + 1) s.heap.objs.size 0 .none → h'.IsTupleIter s.heap.objs.size l 0 → h'.objs.size = s.heap.objs.size + 2 →
      (∀ b o, s.heap.get? b = some o → h'.get? b = some o) → Q (.ref (s.heap.objs.size + 1)) { s with heap := h' }) :
    wpAny (model prog w) A (call (.type "enumerate") [.ref l]) Q E s := by
  obtain ⟨⟨c, dct, dt, sl⟩, hl, hc, n, hd⟩ := hL
  replace hc : c = .type "tuple" := hc
  replace hd : dt = .seq items n := hd
  subst hc hd
  refine callType_new F.called_enumerate (by decide) (F.typeCall_enumerate_1 _) (F.newCall_enumerate_1 _) (fun obj => F.args_object_init_2 obj _) F.entry_enumerate_new
    (meets_enumerate_newT l items n dct sl) ⟨hl, ?_⟩
  have hz : (s.heap.push { cls := .type "tuple_iterator", data := .fields #[.ref l, .int 0 0] }).objs.size = s.heap.objs.size + 1 := Heap.size_push ..
  show _ ∧ _
  rw [hz]
  have he : IsEnum ((s.heap.push { cls := .type "tuple_iterator", data := .fields #[.ref l, .int 0 0] }).push
      { cls := .type "enumerate", data := .fields #[.none, .bool false, .ref s.heap.objs.size, rawInt 0, .none, .none] }) (s.heap.objs.size + 1) s.heap.objs.size 0 .none := by
    have := Heap.get?_push_size (s.heap.push { cls := .type "tuple_iterator", data := .fields #[.ref l, .int 0 0] })
      (o := { cls := .type "enumerate", data := .fields #[.none, .bool false, .ref s.heap.objs.size, rawInt 0, .none, .none] }) rfl
    rw [hz] at this; exact this
  refine ⟨⟨_, he, rfl⟩, h _ he ⟨_, Heap.get?_push_of_some _ (Heap.get?_push_size _ rfl), rfl, rfl⟩ (by rw [Heap.size_push, hz]) fun b o x => Heap.get?_push_of_some _ (Heap.get?_push_of_some _ x)⟩
end
theorem turn_enum0 {P : Program} {w : World} {K : PySem.W.Frag} {elts : List Expr} {kk : Nat} {tpos : Pos} (a e it : Addr) (hk : a ≠ it) :
    Turn P w K (.Tuple elts kk tpos) (ItNone K a) [e, it] e (fun i h => (∃ old, IsEnum h e it 0 old) ∧ h.IsTupleIter it a 0 ∧ e ≠ it) where
  mem := by simp
  obj := fun i h st b hb => by
    obtain ⟨⟨old, he⟩, ⟨o, ho, hc, hd⟩, _⟩ := st
    have e' : b = e ∨ b = it := by simpa using hb
    rcases e' with z | z
    · rw [z]; exact ⟨_, he, fun v q => nomatch q⟩
    · rw [z]; exact ⟨o, ho, fun v q => by rw [hd] at q; cases q⟩
  keep := fun i h h' st k => let ⟨⟨old, he⟩, hi, hne⟩ := st; ⟨⟨old, k e (by simp) _ he⟩, hi.at fun o q => k it (by simp) o q, hne⟩
  item := fun _ _ _ _ _ _ _ _ _ _ _ _ _ _ hg => False.elim hg
  done := by
    intro X hP hw hK hc i pins s σ H E I hf st hg
    subst hP hw hK
    obtain ⟨⟨old, he⟩, hit, hne⟩ := st
    obtain ⟨its, rv, p, hz⟩ := I.tuple hg
    cases rv
    obtain ⟨f0, f1, f2, f3, f4, f5⟩ := hf it (by simp)
    exact wpAny_pyNext_enum_endD (Draws.tuple (A := X.A.in1) (I.ok.hd hc) it a hk #[]) he ⟨hit, p⟩ fun h' eb => ⟨rfl, I.turned (t' := s.toks) (fun b o hb q => eb b o hb q) f0 f1 f3 f4 f5⟩
  self := fun A i s Q E st h => let ⟨⟨_, he⟩, _⟩ := st; wpAny_pyIter_enum he h
def iEnum2 (K : PySem.W.Frag) (ta : TA) : TI := fun σ H R => ta σ H fun vs H1 => ∃ a, vs = [.ref a] ∧ ((∃ xs, SqL K H1 a xs ∧ R (Ite K a) H1) ∨ (SqT K H1 a [] ∧ R (ItNone K a) H1))
theorem pi_enum2 {X : Cx} {e : Expr} {ta : TA} {p pos tpos : Pos} {elts : List Expr} {kk : Nat} (hg : Gl X "enumerate") (hm : X.mg "enumerate" = none) (ha : PA X [e] ta) (hs : starEach [e] X.env = [(false, eval e X.env)] := by rfl) :
    PI X (.Tuple elts kk tpos) (.Call (.Name "enumerate" p) [e] [] pos) (iEnum2 X.K ta) := by
  refine ⟨fun pins s σ H R I h => ?_⟩
  refine Call_ (ld_blt I hg hm boot_enumerate (PyProof.Rows.callWith_type1 (thn (ha.run pos pins s σ H _ I h) fun us s1 ⟨vs, H1, I1, r1, q1⟩ => ?_) hs rfl))
  obtain ⟨a, ex, q1⟩ := q1
  subst ex
  cases r1 with
  | cons r rr =>
    cases rr
    cases r
    have low : ∀ b, b = s1.heap.objs.size + 1 ∨ b = s1.heap.objs.size → s1.heap.objs.size ≤ b := fun b e' => by
      rcases e' with z | z
      · rw [z]; exact Nat.le_add_right _ _
      · rw [z]; exact Nat.le_refl _
    rcases q1 with ⟨xs, hq, q⟩ | ⟨hq, q⟩
    · obtain ⟨its, rv, p', hz⟩ := I1.list hq
      refine call_enumerate_list p'.isList fun h' he hit hsz hk => wpAny_pyIter_enum he ?_
      have I2 : Inv X pins σ H1 { s1 with heap := h' } := I1.kept (t' := s1.toks) hk
      refine ⟨s1.heap.objs.size + 1, [s1.heap.objs.size + 1, s1.heap.objs.size], _, _, H1, rfl, I2, turn_enum a (s1.heap.objs.size + 1) s1.heap.objs.size, ⟨⟨.none, he⟩, hit, Nat.succ_ne_self _⟩, fun b hb => ?_, q⟩
      have hle := low b (by simpa using hb)
      exact I1.fpOk hle (I1.hok.fresh hle)
    · obtain ⟨its, rv, p', hz⟩ := I1.tuple hq
      have hlt : a < s1.heap.objs.size := by obtain ⟨o, ho, _⟩ := p'; exact Heap.lt_size ho
      refine call_enumerate_tuple p' fun h' he hit hsz hk => wpAny_pyIter_enum he ?_
      have I2 : Inv X pins σ H1 { s1 with heap := h' } := I1.kept (t' := s1.toks) hk
      refine ⟨s1.heap.objs.size + 1, [s1.heap.objs.size + 1, s1.heap.objs.size], _, _, H1, rfl, I2, turn_enum0 a (s1.heap.objs.size + 1) s1.heap.objs.size (Nat.ne_of_lt hlt), ⟨⟨.none, he⟩, hit, Nat.succ_ne_self _⟩, fun b hb => ?_, q⟩
      have hle := low b (by simpa using hb)
      exact I1.fpOk hle (I1.hok.fresh hle)
theorem walk_none {K : PySem.W.Frag} {a : Addr} : Walk (ItNone K a) 0 (fun H => SqT K H a []) (fun _ _ _ _ => False) :=
  ⟨fun _ _ hi _ => absurd hi (Nat.not_lt_zero _), fun _ h => h, fun _ _ _ _ hi _ _ => absurd hi (Nat.not_lt_zero _)⟩
/-! ### isinstance(x, T) -/
theorem isi {K : PySem.W.Frag} {ty t : String} {b : Bool} {x : V} {H : Hp} {Q : VK} (h : TyX K H x (.type t)) (hk : kitB t ty = some b) (q : Q (.bl b) H) : rIsi K [x, .ty ty] H Q := ⟨x, .ty ty, .type t, .type ty, b, rfl, .ty ty, h, kit_ty hk, q⟩
theorem k_int_int : kitB "int" "int" = some true := by decide +kernel
theorem k_int_bool : kitB "int" "bool" = some false := by decide +kernel
theorem k_str_str : kitB "str" "str" = some true := by decide +kernel
theorem k_tup_str : kitB "tuple" "str" = some false := by decide +kernel
theorem k_tup_tup : kitB "tuple" "tuple" = some true := by decide +kernel
theorem k_str_tup : kitB "str" "tuple" = some false := by decide +kernel
theorem k_lst_tup : kitB "list" "tuple" = some false := by decide +kernel
theorem k_lst_lst : kitB "list" "list" = some true := by decide +kernel
theorem k_tup_lst : kitB "tuple" "list" = some false := by decide +kernel
theorem ty_int {K : PySem.W.Frag} {H : Hp} (i : Int) : TyX K H (.int i) (.type "int") := .base (.int i)
theorem ty_str {K : PySem.W.Frag} {H : Hp} (z : Str) : TyX K H (.str z) (.type "str") := .base (.str z)
theorem ty_lst {K : PySem.W.Frag} {H : Hp} {a : Addr} {xs : List V} (h : H a = some (.lst xs)) : TyX K H (.ref a) (.type "list") := .base (.lst h)
theorem ty_tup {K : PySem.W.Frag} {H : Hp} {a : Addr} {xs : List V} (h : SqT K H a xs) : TyX K H (.ref a) (.type "tuple") := by
  rcases h with (h | ⟨o, h⟩) | ⟨o, its, n, h, c, _⟩
  · exact .base (.tup h)
  · exact .fTuple h
  · exact .kTuple h c
end Cw
/-! data that is short to show, and that is laid plainly -/
namespace Cw
open PySem PySem.Spec PyProof.Rows L2
structure Sh (d : PyData) (b p : Nat) : Prop where
  sh : d.showable = true
  lv : d.leavesShort 700 = true
  bk : d.bulk ≤ b
  dp : d.depth ≤ p
  cl : d.canLay0 = true
theorem Sh.mono {d : PyData} {b p b' p' : Nat} (h : Sh d b p) (hb : b ≤ b') (hp : p ≤ p') : Sh d b' p' := ⟨h.sh, h.lv, Nat.le_trans h.bk hb, Nat.le_trans h.dp hp, h.cl⟩
theorem sh_int {i : Int} (h1 : i.natAbs < 10 ^ 60) : Sh (.int i) 0 0 := by
  have l := int_text_length_le10 (k := 60) (by decide) h1
  have h2 : i.natAbs < 2 ^ 200 := by omega
  refine ⟨?_, ?_, Nat.le_refl _, Nat.le_refl _, by simp [PyData.canLay0]⟩
  · show decide (i.natAbs.log2 < 1920) = true
    exact decide_eq_true (Nat.lt_of_lt_of_le (PySem.Flt.log2_lt_of (by decide) h2) (by decide))
  · show decide ((PyData.shown (.int i)).length ≤ 700) = true
    refine decide_eq_true ?_
    show (Str.ofString (toString i)).length ≤ 700
    rw [PySem.ofString_length]
    omega
theorem sh_bool (b : Bool) : Sh (.bool b) 0 0 := ⟨rfl, rfl, Nat.le_refl _, Nat.le_refl _, by simp [PyData.canLay0]⟩
theorem sh_none : Sh .none 0 0 := ⟨rfl, rfl, Nat.le_refl _, Nat.le_refl _, by simp [PyData.canLay0]⟩
theorem sh_str {z : Str} {n : Nat} (h1 : z.length ≤ n) (h : ∀ c ∈ z.cps.toList, c < 0x110000) : Sh (.str z) n 0 := by
  refine ⟨rfl, ?_, ?_, Nat.le_refl _, ?_⟩
  · show (z.cps.toList.all fun c => decide (c < 16 ^ 8)) = true
    rw [List.all_eq_true]
    intro c hc
    have := h c hc
    exact decide_eq_true (by omega)
  · show z.cps.size ≤ n
    exact h1
  · simp only [PyData.canLay0]
    unfold PyData.strOk
    rw [Array.all_eq_true']
    intro c hc
    exact decide_eq_true (h c (Array.mem_toList_iff.mpr hc))
theorem sh_all {b p : Nat} : ∀ ds : List PyData, (∀ d ∈ ds, Sh d b p) → PyData.showableAll ds = true ∧ PyData.depthAll ds ≤ p ∧ PyData.leavesShortAll 700 ds = true ∧ PyData.bulkAll ds ≤ (b + 1) * ds.length ∧ PyData.canLayAll0 ds = true := by
  intro ds
  induction ds with
  | nil => intro _; exact ⟨by simp [PyData.showableAll], by simp [PyData.depthAll], by simp [PyData.leavesShortAll], by simp [PyData.bulkAll], by simp [PyData.canLayAll0]⟩
  | cons d r ih =>
    intro h
    obtain ⟨h1, h2, h3, h4, h5⟩ := ih fun x hx => h x (List.mem_cons_of_mem _ hx)
    have f := h d List.mem_cons_self
    refine ⟨?_, ?_, ?_, ?_, ?_⟩
    · simp only [PyData.showableAll, Bool.and_eq_true]
      exact ⟨f.sh, h1⟩
    · simp only [PyData.depthAll]
      have := f.dp
      omega
    · simp only [PyData.leavesShortAll, Bool.and_eq_true]
      exact ⟨f.lv, h3⟩
    · simp only [PyData.bulkAll, List.length_cons, Nat.mul_add, Nat.mul_one]
      have := f.bk
      omega
    · simp only [PyData.canLayAll0, Bool.and_eq_true]
      exact ⟨f.cl, h5⟩
theorem sh_list {b p n : Nat} {ds : List PyData} (h : ∀ d ∈ ds, Sh d b p) (hn : ds.length ≤ n) : Sh (.list ds) ((b + 1) * n) (p + 1) := by
  obtain ⟨h1, h2, h3, h4, h5⟩ := sh_all ds h
  have hm : (b + 1) * ds.length ≤ (b + 1) * n := Nat.mul_le_mul_left _ hn
  exact ⟨by simp only [PyData.showable]; exact h1, by simp only [PyData.leavesShort]; exact h3, by simp only [PyData.bulk]; omega, by simp only [PyData.depth]; omega, by simp only [PyData.canLay0]; exact h5⟩
theorem sh_tup {b p n : Nat} {ds : List PyData} (h : ∀ d ∈ ds, Sh d b p) (hn : ds.length ≤ n) : Sh (.tuple ds) ((b + 1) * n) (p + 1) := by
  obtain ⟨h1, h2, h3, h4, h5⟩ := sh_all ds h
  have hm : (b + 1) * ds.length ≤ (b + 1) * n := Nat.mul_le_mul_left _ hn
  exact ⟨by simp only [PyData.showable]; exact h1, by simp only [PyData.leavesShort]; exact h3, by simp only [PyData.bulk]; omega, by simp only [PyData.depth]; omega, by simp only [PyData.canLay0]; exact h5⟩
theorem Sh.rep {d : PyData} {b p : Nat} (h : Sh d b p) (hb : b ≤ 20000) (hp : p ≤ 60) : d.showable = true ∧ d.depth ≤ 60 ∧ d.shown.length ≤ sizeLine := by
  refine ⟨h.sh, Nat.le_trans h.dp hp, ?_⟩
  have l := PyData.shown_le_bulk 700 (by decide) d h.lv
  have := h.bk
  rw [sizeLine_eq]
  omega
theorem Sh.shaped {d : PyData} {b p : Nat} (h : Sh d b p) (hp : p ≤ 60) : SeqAt.shaped d = true := by
  unfold SeqAt.shaped
  rw [h.cl, Bool.true_and]
  exact decide_eq_true (Nat.le_trans h.dp (by omega))
/-! ### from tracked data to data that may lie in the written part -/
mutual
theorem Dx.dp {K : PySem.W.Frag} {H : Hp} : ∀ (d : PyData) (v : V), d.canLay0 = true → Dx H v d → Dp K H v d
  | .none, _, _, h => by cases h; exact .non
  | .bool b, _, _, h => by cases h; exact .bl b
  | .int i, _, _, h => by cases h; exact .int i
  | .str x, _, _, h => by cases h; exact .str x
  | .list ds, _, c, h => by
    cases h with
    | lst e r => exact .lst (SqL.of e) (Dx.dpAll ds _ (by simpa only [PyData.canLay0] using c) r)
  | .tuple ds, _, c, h => by
    cases h with
    | tup e r => exact .tup (SqT.of e) (Dx.dpAll ds _ (by simpa only [PyData.canLay0] using c) r)
    | tupz e dn r => exact .tup (.inl (.inr ⟨_, e⟩)) (Dx.dpAll ds _ (by simpa only [PyData.canLay0] using c) r)
  | .dict kvs, _, c, h => by simp [PyData.canLay0] at c
theorem Dx.dpAll {K : PySem.W.Frag} {H : Hp} : ∀ (ds : List PyData) (vs : List V), PyData.canLayAll0 ds = true → DxAll H vs ds → DpAll K H vs ds
  | [], _, _, h => by cases h; exact .nil
  | d :: ds, _, c, h => by
    simp only [PyData.canLayAll0, Bool.and_eq_true] at c
    cases h with
    | cons h1 h2 => exact .cons (Dx.dp d _ c.1 h1) (Dx.dpAll ds _ c.2 h2)
end
mutual
theorem eqv_refl : ∀ d : PyData, d.canLay0 = true → PyData.eqv d d = true
  | .none, _ => by simp [PyData.eqv]
  | .bool b, _ => by simp [PyData.eqv]
  | .int i, _ => by simp [PyData.eqv]
  | .str x, _ => by simp [PyData.eqv]
  | .list ds, c => by
    simp only [PyData.eqv]
    exact eqv_all ds (by simpa only [PyData.canLay0] using c)
  | .tuple ds, c => by
    simp only [PyData.eqv]
    exact eqv_all ds (by simpa only [PyData.canLay0] using c)
  | .dict kvs, c => by simp [PyData.canLay0] at c
theorem eqv_all : ∀ ds : List PyData, PyData.canLayAll0 ds = true → PyData.eqvAll ds ds = true
  | [], _ => by simp [PyData.eqvAll]
  | d :: ds, c => by
    simp only [PyData.canLayAll0, Bool.and_eq_true] at c
    simp only [PyData.eqvAll, Bool.and_eq_true]
    exact ⟨eqv_refl d c.1, eqv_all ds c.2⟩
end
end Cw
/-! dict(t), t a tuple of pairs that has no dict of its own -/
namespace Cw
open PySem PySem.Spec PyProof.Rows L2
section
variable {X : Cx}
theorem pairs2 {pins : List (Addr × Obj)} {σ : L2.St} {H : Hp} {s : Shared} (I : Inv X pins σ H s) : ∀ {ps : List Addr} {kvs : List (Key × V)}, Paired (fun p kv => SqT X.K H p [kV kv.1, kv.2]) ps kvs →
    ∃ (prs : List (Key × Value)) (two : List (Value × Value)), KV kvs prs ∧ prs.length = ps.length ∧ two.length = ps.length ∧
      ∀ (j : Nat) (k v : Value), two[j]? = some (k, v) → ∃ (b : Addr) (key : Key), ps[j]? = some b ∧ s.heap.IsTuple b #[k, v] ∧ prs[j]? = some (key, v) ∧ (mixKind X.prog X.w).is key k = true
  | _, _, .nil => ⟨[], [], .nil, rfl, rfl, fun j k v e => by simp at e⟩
  | _, _, .cons (a := p) (b := kv) h t => by
    obtain ⟨prs, two, r, l1, l2, hp⟩ := pairs2 I t
    obtain ⟨its, rv, ht, _⟩ := I.tuple h
    obtain ⟨u, y, ei, ru, ry⟩ := vals2 rv
    subst ei
    refine ⟨(kv.1, y) :: prs, (u, y) :: two, .cons ⟨rfl, ry⟩ r, by simp [l1], by simp [l2], fun j k v e => ?_⟩
    cases j with
    | zero =>
      cases (Option.some.inj e : (u, y) = (k, v))
      exact ⟨p, kv.1, rfl, ht, rfl, kV_is (P := X.prog) (w := X.w) ru⟩
    | succ j => exact hp j k v (by simpa using e)
/-- dict(t) -/
theorem call_dictT (hcalm : X.calm = true) : CallR X (.type "dict") (fun xs H Q => ∃ (a : Addr) (o : Obj) (ps : List Addr) (kvs : List (Key × V)), xs = [.ref a] ∧ o.dict = none ∧ H a = some (.frz o (.tup (ps.map V.ref))) ∧ Paired (fun p kv => SqT X.K H p [kV kv.1, kv.2]) ps kvs ∧
    ∀ p, H p = none → Q (.ref p) (upd H p (.dK (mergeK [] kvs)))) := by
  intro pins s σ H xs us Q I r q
  obtain ⟨a, o, ps, kvs, rfl, dn, ha, hp, q⟩ := q
  obtain ⟨u, rfl, rx⟩ := vals1 r
  cases rx
  obtain ⟨hg, hz, its, rv, o', ho, hc, n, hd⟩ := (show ObjOk X.prog X.w H s.heap a (.frz o (.tup (ps.map V.ref))) from I.hok a _ ha)
  rw [hg] at ho
  cases ho
  have ei := refs_at rv
  subst ei
  rw [List.length_map] at hz
  obtain ⟨prs, two, rel, l1, l2, hpr⟩ := pairs2 I hp
  have ok : PySem.PlainSeq "tuple" s.heap a (ps.map Value.ref).toArray ∧ PySem.PairItems s.heap (ps.map Value.ref).toArray (fun j => ps.getD j 0) two := by
    refine ⟨⟨o, n, hg, hc, dn, hd⟩, by simp [l2], fun j k v e => ?_⟩
    obtain ⟨b, key, e1, e2, e3, e4⟩ := hpr j k v e
    have eb : ps.getD j 0 = b := by simp [List.getD, e1]
    refine ⟨?_, ?_⟩
    · show (ps.map Value.ref).toArray[j]? = some (.ref (ps.getD j 0))
      rw [eb]
      simp [e1]
    · show PySem.PairAt s.heap (ps.getD j 0) k v
      rw [eb]
      exact .inl e2
  refine PySem.call_dict_pairs (knd := mixKind X.prog X.w) (kvs := prs) (PySem.PairArg.tuple a (ps.map Value.ref).toArray (fun j => ps.getD j 0) two) (I.ok.hd hcalm) ok ⟨by rw [l1, l2], fun j key v e => ?_⟩ (by rw [l2]; exact hz) fun h' tk hd' k => ?_
  · obtain ⟨b, kk, e1, e2, e3, e4⟩ := hpr j key v e
    exact ⟨kk, e3, e4⟩
  · have big : (s.heap.objs.size == sysModules) = false := beq_eq_false_iff_ne.mpr (Nat.ne_of_gt I.big)
    have few : (mergeK [] kvs).length ≤ sizeLine := by
      have z := length_mergeK kvs []
      have z2 := Paired.length rel
      simp only [List.length_nil] at z
      omega
    exact ⟨.ref s.heap.objs.size, upd H s.heap.objs.size (.dK (mergeK [] kvs)), I.laid (t' := tk) (fun b o e => k b o (by simp) e) (Nat.le_refl _) (show ObjOk X.prog X.w _ _ _ (.dK (mergeK [] kvs)) from ⟨few, big, merged [] prs, KV.merge rel .nil, hd'⟩), rfl, q _ (I.hok.fresh (Nat.le_refl _))⟩
end
theorem merge_new : ∀ (kvs acc : List (Key × V)), (acc.map (·.1) ++ kvs.map (·.1)).Nodup → mergeK acc kvs = acc ++ kvs
  | [], acc, _ => by simp [mergeK]
  | p :: r, acc, h => by
    have hn : p.1 ∉ acc.map (·.1) := fun z => (List.nodup_append.mp h).2.2 _ z p.1 (by simp) rfl
    have e : putK acc p.1 p.2 = acc ++ [p] := by
      unfold putK
      have ea : (acc.any fun kv => decide (kv.1 = p.1)) = false := by
        rw [List.any_eq_false]
        intro x hx
        simp only [decide_eq_true_eq]
        exact fun z => hn (by rw [← z]; exact List.mem_map.mpr ⟨x, hx, rfl⟩)
      rw [ea]
      simp
    show mergeK (putK acc p.1 p.2) r = _
    rw [e, merge_new r (acc ++ [p]) (by simpa using h)]
    simp
end Cw
/-! t[::-1], t a tuple -/
namespace HT
open PySem PySem.Spec PyProof.Rows
section
variable {prog : Program} {w : World} {A : Around} {E : Value → Shared → Prop} {s : Shared}
theorem sliceApplied_rev {sl : Addr} {vk : Value} {n : Nat} {Q : Int × Int × Nat → Shared → Prop} (hs : s.heap.IsSliceOf sl .none .none vk) (pk : IsPart vk (some (-1)))
    (h : Q ((n : Int) - 1, -1, n) s) : wpAny (model prog w) A (Builtin.Slice.sliceApplied (.ref sl) (pure (n : Int))) Q E s := by
  obtain ⟨os, hos, hcs, hds⟩ := id hs
  unfold Builtin.Slice.sliceApplied Builtin.Slice.sliceFields
  refine wpAny_bind (wpAny_bind (wpAny_field hos hds (x := .none) rfl (wpAny_bind (wpAny_field hos hds (x := .none) rfl (wpAny_bind (wpAny_field hos hds (x := vk) rfl (wpAny_pure ?_)))))))
  refine wpAny_bind (slicePart_ pk ?_)
  show wpAny _ _ (if ((-1 : Int) == 0) = true then _ else _) _ _ s
  rw [if_neg (by decide)]
  refine wpAny_bind (slicePart_none (wpAny_bind (slicePart_none (wpAny_bind (wpAny_pure ?_)))))
  have e1 : Builtin.Slice.sliceAdjust none none (-1) (n : Int) = ((n : Int) - 1, -1) := by
    unfold Builtin.Slice.sliceAdjust
    simp
  have e2 : Builtin.Slice.slicePlaces ((n : Int) - 1) (-1) (-1) = n := by
    unfold Builtin.Slice.slicePlaces
    have h1 : ¬ ((-1 : Int) > 0) := by omega
    simp only [h1, if_false]
    have h2 : (- -1 : Int) = 1 := by decide
    rw [h2, Int.ediv_one]
    split <;> omega
  show wpAny _ _ (match Builtin.Slice.sliceAdjust none none (-1) (n : Int) with | (lo, hi) => pure (lo, (-1 : Int), Builtin.Slice.slicePlaces lo hi (-1))) _ _ s
  rw [e1]
  show wpAny _ _ (pure ((n : Int) - 1, (-1 : Int), Builtin.Slice.slicePlaces ((n : Int) - 1) (-1) (-1))) _ _ s
  rw [e2]
  exact wpAny_pure h
theorem pick_rev (xs : Array Value) : ((List.range xs.size).filterMap fun (k : Nat) => xs[(((xs.size : Nat) : Int) - 1 + (k : Int) * (-1)).toNat]?).toArray = xs.toList.reverse.toArray := by
  have e : (List.range xs.size).filterMap (fun (k : Nat) => xs[(((xs.size : Nat) : Int) - 1 + (k : Int) * (-1)).toNat]?) = ((List.range xs.size).map fun k => xs.size - 1 - k).filterMap (xs[·]?) := by
    rw [List.filterMap_map]
    have key : ∀ l : List Nat, (∀ k ∈ l, k < xs.size) → l.filterMap (fun (k : Nat) => xs[(((xs.size : Nat) : Int) - 1 + (k : Int) * (-1)).toNat]?) = l.filterMap ((xs[·]?) ∘ fun k => xs.size - 1 - k) := by
      intro l
      induction l with
      | nil => intro _; rfl
      | cons k r ih =>
        intro h
        have hk := h k List.mem_cons_self
        have ek : (((xs.size : Nat) : Int) - 1 + (k : Int) * (-1)).toNat = xs.size - 1 - k := by omega
        rw [List.filterMap_cons, List.filterMap_cons, ih fun y hy => h y (List.mem_cons_of_mem _ hy), ek]
        rfl
    exact key _ fun k hk => List.mem_range.mp hk
  rw [e, PySem.W.krv_range, List.filterMap_reverse, PySem.W.krv_all]
theorem getItem_tuple_rev {t sl : Addr} {items : Array Value} {vk : Value} {Q : Value → Shared → Prop} (ht : IsTup s.heap t items) (hs : s.heap.IsSliceOf sl .none .none vk) (pk : IsPart vk (some (-1)))
    (h : Q (.ref s.heap.objs.size) { s with heap := s.heap.push { cls := .type "tuple", data := .seq items.toList.reverse.toArray } })
    (hsz : items.size ≤ sizeLine) : wpAny (model prog w) A (getItem (.ref t) (.ref sl)) Q E s := by
  have htake : sizeOk (.seq items.toList.reverse.toArray) := by
    show items.toList.reverse.toArray.size ≤ sizeLine
    rw [List.size_toArray, List.length_reverse, Array.length_toList]
    exact hsz
  obtain ⟨os, hos, hcs, hds⟩ := id hs
  have hTs : s.TypeIs (.ref sl) "slice" := ⟨os, hos, hcs⟩
  unfold getItem
  try with_reducible refine wpAny_holding ?_
  first | refine wpAny_bind (wpAny_pure ?_) | skip
  refine wpAny_bind (wpAny_sequenceKey ht.typeIs (by decide) ?_)
  refine wpAny_bind (wpAny_callSpecial?_slot (name := Str.ofString "__getitem__") ht.typeIs PyProof.Rows.slot_tuple_getitem
    (wpAny_call_entry PyProof.Rows.slot_tuple_getitem ht.typeIs entry_tuple_getitem ?_ (args_tuple_getitem _ _)))
  show wpAny _ _ (Builtin.Tuple.tupleItemsOf (.ref t) >>= _) _ _ s
  refine wpAny_bind (tupleItemsOf_ ht ?_)
  refine wpAny_bind (wpAny_typeOf hTs ?_)
  rw [if_pos (by decide)]
  refine wpAny_bind (sliceApplied_rev hs pk ?_)
  have hno : ¬ ((((items.size : Nat) : Int) - 1 == 0 && (-1 : Int) == 1 && items.size == items.size) = true) := by
    intro q
    rw [Bool.and_eq_true, Bool.and_eq_true] at q
    exact absurd (eq_of_beq q.1.2) (by decide)
  show wpAny _ _ (if (((items.size : Nat) : Int) - 1 == 0 && (-1 : Int) == 1 && items.size == items.size) = true then _ else _) _ _ s
  rw [if_neg hno, pick_rev]
  first
    | exact wpAny_bind (m := Builtin.Tuple.tupleExact _) (wpAny_newObj_type (wpAny_pure ⟨_, rfl, wpAny_pure h⟩) htake)
    | exact wpAny_bind (m := Builtin.Tuple.tupleExact _) (wpAny_newObj_type (wpAny_bind (wpAny_pure (wpAny_pure ⟨_, rfl, wpAny_pure h⟩))) htake)
    | exact wpAny_bind (wpAny_bind (m := Builtin.Tuple.tupleExact _) (wpAny_newObj_type (wpAny_pure (wpAny_pure ⟨_, rfl, wpAny_pure h⟩)) htake))
    | exact wpAny_bind (wpAny_bind (m := Builtin.Tuple.tupleExact _) (wpAny_newObj_type (wpAny_pure ⟨_, rfl, wpAny_pure h⟩) htake))
end
end HT
namespace Cw
open PySem PySem.Spec PyProof.Rows L2
section
variable {X : Cx} {e k : Expr} {te : TE} {tk : TO} {pos p2 : Pos}
def tRevT (K : PySem.W.Frag) (te : TE) (tk : TO) : TE := fun σ H Q => te σ H fun x H1 => tk σ H1 fun o H2 => o = some (-1) ∧ ∃ a xs, x = .ref a ∧ SqT K H2 a xs ∧ ∀ p, H2 p = none → Q (.ref p) (upd H2 p (.tup xs.reverse))
theorem vals_reverse : ∀ {xs : List V} {us : List Value}, Vals xs us → Vals xs.reverse us.reverse
  | _, _, .nil => .nil
  | _, _, .cons h r => by
    rw [List.reverse_cons, List.reverse_cons]
    exact (vals_reverse r).append (.cons h .nil)
/-- t[::-1] -/
theorem pe_revT (he : PE X e te) (hk : PO X (some k) tk) : PE X (.Subscript e (.Slice none none (some k) p2) pos) (tRevT X.K te tk) := by
  refine ⟨fun pins s σ H Q I h => ?_⟩
  refine Subscript_ (thn (he.run pins s σ H _ I h) fun v s1 ⟨x, H1, I1, r1, q1⟩ => ?_)
  refine wpAny_Slice ?_
  rw [evalPart_none]
  refine wpAny_pure (wpAny_pure ?_)
  refine thn (hk.run pins s1 σ H1 _ I1 q1) fun vk s3 ⟨o, H3, I3, pk, q3⟩ => ?_
  obtain ⟨rfl, a, xs, rfl, hx, q⟩ := q3
  cases r1
  have I4 : Inv X pins σ H3 { s3 with heap := s3.heap.push { cls := .type "slice", data := .fields #[.none, .none, vk] } } := I3.kept (t' := s3.toks) fun b ob q => Heap.get?_push_of_some _ q
  obtain ⟨its, r, ht, hz⟩ := I4.tuple hx
  have hlen : its.toArray.size = xs.length := by rw [List.size_toArray]; exact r.length.symm
  show wpAny (model X.prog X.w) X.A (subscriptTail e (.Slice none none (some k) p2) (.ref a) (.ref s3.heap.objs.size)) (EP X pins σ Q) X.xe { s3 with heap := s3.heap.push { cls := .type "slice", data := .fields #[.none, .none, vk] } }
  refine tail_any (ops := [.ref a, .ref s3.heap.objs.size]) ht.typeIs PyProof.Rows.slot_tuple_getitem.lookup ?_ (by with_unfolding_all rfl)
  refine HT.getItem_tuple_rev ht (Heap.IsSliceOf.new ..) pk ?_ (by rw [hlen]; exact hz)
  refine ⟨.ref _, _, I4.laid (t' := s3.toks) (o := .tup xs.reverse) (fun b ob q => Heap.get?_push_of_some _ q) (Nat.le_refl _) ?_, rfl, q _ (I4.hok.fresh (Nat.le_refl _))⟩
  exact ⟨by rw [List.length_reverse]; exact hz, its.reverse, vals_reverse r, IsTup.new _ _⟩
end
end Cw
namespace Cw
open PySem PySem.Spec PyProof.Rows L2
section
variable {X : Cx} {T : String} {name : Str} {id : String} {r : V → List V → Hp → VK → Prop} {o e : Expr} {es : List Expr} {to : TE} {t : TA} {apos cpos : Pos}
theorem pe_bmK {K : PySem.W.Frag} (hK : X.K = K) (pa : PlainAttrs T) (slot : Slot T name id) (hty : typeOf (.builtin id) = pure (.type "method_descriptor")) (hm : MtR X id r) (ho : PE X o to) (ha : PA X (e :: es) t)
    (hbase : attributeBase o name X.env (eval o X.env) = eval o X.env := by rfl)
    (hfew : ((backTo cpos (starEach (e :: es) X.env)).all (fun x => !x.1) && (backToKw cpos (keywordEach [] X.env)).all (fun x => x.1.isSome)
      && decide ((e :: es).length + ([] : List Keyword).length + (if ([] : List Keyword).isEmpty then 0 else 1) < 30)) = true := by rfl)
    (hline : (apos.endLine == cpos.line) = true := by rfl) (hs : starEach (e :: es) X.env = (false, eval e X.env) :: starEach es X.env := by rfl) (hplain : (backTo cpos (starEach es X.env)).any (·.1) = false := by rfl) :
    PE X (.Call (.Attribute o name apos) (e :: es) [] cpos) (tBM K T r to t) := by
  subst hK
  exact pe_bm pa slot hty hm ho ha hbase hfew hline hs hplain
theorem pe_bm0K {K : PySem.W.Frag} (hK : X.K = K) (pa : PlainAttrs T) (slot : Slot T name id) (hty : typeOf (.builtin id) = pure (.type "method_descriptor")) (hm : MtR X id r) (ho : PE X o to)
    (hbase : attributeBase o name X.env (eval o X.env) = eval o X.env := by rfl) (hline : (apos.endLine == cpos.line) = true := by rfl) : PE X (.Call (.Attribute o name apos) [] [] cpos) (tBM0 K T r to) := by
  subst hK
  exact pe_bm0 pa slot hty hm ho hbase hline
end
end Cw
/-! == and != by an own __eq__, whatever stands at the right; in a list of one; repr by an own __repr__; data shown in an f-string -/
namespace Cw
open PySem PySem.Spec PyProof.Rows L2
section
variable {prog : Program} {w : World} {A : Around} {E : Value → Shared → Prop} {s : Shared} {K : PySem.W.Frag} {x C L f : Addr} {h₀ : Heap} {m : Str → Option Value} {ox : Obj} {od : Option Obj} {b tb : Value}
theorem ne_slot : Slot "object" "__ne__" "object.__ne__" := PySem.F.cmp_object.ne
theorem ne_body {Q : PySem.Fin → Shared → Prop} (hu : A.units < cLine) (kin : K.In s.heap) (I : PySem.W.InstAt s.heap x ox C od)
    (heq : PySem.W.findIn K (.ref C) "__eq__" = some (some (.ref f))) (hf : PySem.W.isFn K (.ref f) = true)
    (h : wpAny (model prog w) A (call (.ref f) [.ref x, b]) (fun v s' => ∃ c, v = .bool c ∧ Q (.done (.ret (.bool (!c)))) s') E s) :
    wpAny (model prog w) A (Builtin.«object.__ne__» ⟨[.ref x, b], []⟩) Q E s := by
  unfold Builtin.«object.__ne__»
  refine wpAny_bind (m := slotArgs "__ne__" 1 _) (wpAny_pure ?_)
  refine wpAny_bind (wpAny_cRoomFor hu ?_)
  refine wpAny_bind (m := callSpecialIfBound? (.ref x) (Str.ofString "__eq__") [b]) (PySem.W.ifBound_K kin I heq hf (wpAny_mono h (fun r s' hr => ?_) fun _ _ e => e))
  obtain ⟨c, rfl, q⟩ := hr
  show wpAny _ _ (truthy (.bool c) >>= fun t => _) _ _ s'
  refine wpAny_bind (wpAny_truthy_bool ?_)
  exact wpAny_pure q
theorem tryNe_K {Q : Option Value → Shared → Prop} (hu : A.units + 1 < cLine) (kin : K.In s.heap) (I : PySem.W.InstAt s.heap x ox C od) (hne : PySem.W.findIn K (.ref C) "__ne__" = some (some (.builtin "object.__ne__")))
    (hm : PySem.W.mroIn K C (.type "object") = some true) (heq : PySem.W.findIn K (.ref C) "__eq__" = some (some (.ref f))) (hf : PySem.W.isFn K (.ref f) = true)
    (h : wpAny (model prog w) A.in1 (call (.ref f) [.ref x, b]) (fun v s' => ∃ c, v = .bool c ∧ Q (some (.bool (!c))) s') E s) : wpAny (model prog w) A (tryCompare (.ref x) "__ne__" b) Q E s := by
  have inst : PySem.W.Looks (model prog w) s.heap (isInstance (.ref x) (.type "object")) true := I.type.andThen (PySem.W.looks_mroIn kin hm)
  have cl : wpAny (model prog w) A (call (.builtin "object.__ne__") [.ref x, b]) (fun v s' => ∃ c, v = .bool (!c) ∧ Q (some (.bool (!c))) s') E s := by
    refine wpAny_call (codeAny_call_builtin ne_slot.plain PySem.F.cmpEntry_ne ?_)
    refine @PySem.W.check_slot (model prog w) _ _ _ "object.__ne__" "object" "__ne__" (.ref x) [b] [] _ PySem.F.cmpKind_ne PySem.F.cmpSplit_ne inst (PySem.F.cmpArgs_ne _ _) ?_
    refine ne_body (A := A.in1) hu kin I heq hf (wpAny_mono h (fun v s' hv => ?_) fun _ _ e => e)
    obtain ⟨c, rfl, q⟩ := hv
    exact ⟨c, rfl, c, rfl, q⟩
  unfold tryCompare
  refine wpAny_bind ?_
  simp only [callSpecialIfBound?, bindSpecialIfBound?]
  refine wpAny_holding (wpAny_bind (wpAny_bind (wpAny_bind (I.type.here ((PySem.W.looks_findIn kin hne).here ?_)))))
  refine wpAny_bind (wpAny_askSetting (wpAny_ite ?_))
  simp only [show bindSpecial (.builtin "object.__ne__") (.ref x) = pure (.builtin "object.__ne__", [.ref x]) from ne_slot.bind _]
  have fin : wpAny (model prog w) A (call (.builtin "object.__ne__") ([.ref x] ++ [b]) >>= fun v => pure (some v)) (fun a s' => wpAny (model prog w) A (match a with
              | some Value.notImplemented => pure none
              | none => pure none
              | some v => pure (some v)) Q E s') E s :=
    wpAny_bind (wpAny_mono cl (fun v s' hv => by
      obtain ⟨c, rfl, q⟩ := hv
      exact wpAny_pure (wpAny_pure q)) fun _ _ e => e)
  split
  · exact wpAny_bind (wpAny_pure (wpAny_pure fin))
  · exact wpAny_tryCatch (wpAny_bind (wpAny_pure (wpAny_pure fin)))
theorem cmpNe_K {Q : Value → Shared → Prop} (hu : A.units + 1 < cLine) (kin : K.In s.heap) (I : PySem.W.InstAt s.heap x ox C od) (hb : PySem.W.Looks (model prog w) s.heap (typeOf b) tb) (hn : PySem.W.notFirst K C tb = true) (hne : PySem.W.findIn K (.ref C) "__ne__" = some (some (.builtin "object.__ne__")))
    (hm : PySem.W.mroIn K C (.type "object") = some true) (heq : PySem.W.findIn K (.ref C) "__eq__" = some (some (.ref f))) (hf : PySem.W.isFn K (.ref f) = true)
    (h : wpAny (model prog w) A.in1 (call (.ref f) [.ref x, b]) (fun v s' => ∃ c, v = .bool c ∧ Q (.bool (!c)) s') E s) : wpAny (model prog w) A (richCompare .NotEq (.ref x) b) Q E s := by
  have one : wpAny (model prog w) A (tryCompare (.ref x) "__ne__" b) (fun r s' => ∃ v, r = some v ∧ Q v s') E s :=
    tryNe_K hu kin I hne hm heq hf (wpAny_mono h (fun v s' hv => by
      obtain ⟨c, rfl, q⟩ := hv
      exact ⟨c, rfl, _, rfl, q⟩) fun _ _ e => e)
  unfold richCompare
  simp only [oneThing_ref]
  refine wpAny_holding (wpAny_bind (wpAny_cRoomFor (Nat.lt_of_succ_lt hu) ?_))
  rw [cmpInfo_NotEq]
  dsimp only
  refine wpAny_bind (I.type.here (wpAny_bind (hb.here ?_)))
  split
  · rename_i q
    have e : PySem.W.subIn K tb (.ref C) = some false := by
      rcases Bool.or_eq_true_iff.mp hn with e | e
      · rw [beq_iff_eq.mp e] at q; simp at q
      · exact beq_iff_eq.mp e
    refine wpAny_bind ((PySem.W.looks_subIn kin e).here ?_)
    simp only [Bool.false_eq_true, if_false]
    refine wpAny_bind (wpAny_mono one (fun r s' z => ?_) fun _ _ e => e)
    obtain ⟨v, rfl, hq⟩ := z
    exact wpAny_pure hq
  · refine wpAny_bind (wpAny_pure ?_)
    simp only [Bool.false_eq_true, if_false]
    refine wpAny_bind (wpAny_mono one (fun r s' z => ?_) fun _ _ e => e)
    obtain ⟨v, rfl, hq⟩ := z
    exact wpAny_pure hq
end
end Cw
namespace GQ
open PySem PySem.SeqAt
open AutoSeq1 (wpAny_loadPart')
open MeetsSeq MeetsSeq2 MeetsSeq3 SeqRoads2
section
variable {prog : Program} {w : World} {A : Around} {R : Result → Shared → Prop}
theorem contains_none (l : Addr) (items : Array Value) (x : Value) (n i : Nat) {s : Shared} (hl : s.heap.get? l = some { cls := .type "list", data := .seq items n }) (hi : items[((i : Nat) : Int).toNat]? = none) (q : R (.ok (.ret (.bool false))) s) :
    wpAny (model prog w) A.in1 (Builtin.«list.__contains__.loop» ⟨[.ref l, x, rawInt i], []⟩) (FinOf prog w A R) (fun e s' => R (.error e) s') s := by
  obtain ⟨hp, g, d, tk, os⟩ := s
  wp_walk using wpAny_loadPart' hl
  rw [hi]
  wp_walk
  exact q
/-- x in [y]: the list is read anew behind == -/
theorem contains_one (l : Addr) (items : Array Value) (y x : Value) (n i : Nat) (I : Bool → Shared → Prop) {s : Shared} (hl : s.heap.get? l = some { cls := .type "list", data := .seq items n }) (hi : items[((i : Nat) : Int).toNat]? = some y) (hi2 : items[((i + 1 : Nat) : Int).toNat]? = none)
    (hs : ∀ s', I false s' → ∃ (items : Array Value) (n : Nat), s'.heap.get? l = some { cls := .type "list", data := .seq items n } ∧ items[((i + 1 : Nat) : Int).toNat]? = none)
    (he : wpAny (model prog w) A.in1 (eqBool y x) I (fun e s' => R (.error e) s') s) (fin : ∀ b s', I b s' → R (.ok (.ret (.bool b))) s') :
    wpAny (model prog w) A.in1 (Builtin.«list.__contains__.loop» ⟨[.ref l, x, rawInt i], []⟩) (FinOf prog w A R) (fun e s' => R (.error e) s') s := by
  obtain ⟨hp, g, d, tk, os⟩ := s
  wp_walk using wpAny_loadPart' hl
  rw [hi]
  refine wpAny_bind (wpAny_mono he (fun r s2 h2 => ?_) fun _ _ x => x)
  cases r with
  | true =>
    have q := fin true s2 h2
    obtain ⟨hp2, g2, d2, tk2, os2⟩ := s2
    wp_walk
    exact q
  | false =>
    have q := fin false s2 h2
    obtain ⟨its, m, hl2, hn⟩ := hs s2 h2
    have k := contains_none (prog := prog) (w := w) (A := A) (R := R) l its x m (i + 1) hl2 hn q
    have hc : ((i : Int) + 1) = ((i + 1 : Nat) : Int) := by omega
    obtain ⟨hp2, g2, d2, tk2, os2⟩ := s2
    wp_walk
    rw [hc]
    refine ⟨plainId_quiet plain_contains_loop _, codeAny_builtin entry_contains_loop ?_⟩
    rw [Around.under_plainId plain_contains_loop _]
    exact k
theorem contains_head (l : Addr) (x : Value) {s : Shared} (k : wpAny (model prog w) A.in1 (Builtin.«list.__contains__.loop» ⟨[.ref l, x, rawInt 0], []⟩) (FinOf prog w A R) (fun e s' => R (.error e) s') s) :
    wpAny (model prog w) A.in1 (Builtin.«list.__contains__» ⟨[.ref l, x], []⟩) (FinOf prog w A R) (fun e s' => R (.error e) s') s := by
  obtain ⟨hp, g, d, tk, os⟩ := s
  wp_walk
  refine ⟨plainId_quiet plain_contains_loop _, codeAny_builtin entry_contains_loop ?_⟩
  rw [Around.under_plainId plain_contains_loop _]
  exact k
end
section
variable {prog : Program} {w : World} {A : Around} {E : Value → Shared → Prop} {s : Shared}
theorem in_one {l : Addr} {y x : Value} {n : Nat} {Q : Value → Shared → Prop} (I : Bool → Shared → Prop) (hl : s.heap.get? l = some { cls := .type "list", data := .seq #[y] n })
    (hs : ∀ s', I false s' → ∃ (y' : Value) (n : Nat), s'.heap.get? l = some { cls := .type "list", data := .seq #[y'] n })
    (he : wpAny (model prog w) A.in1 (eqBool y x) I E s) (fin : ∀ b s', I b s' → Q (.bool b) s') : wpAny (model prog w) A (compareOp .In x (.ref l)) Q E s := by
  show wpAny _ A (do return .bool (← contains (.ref l) x)) Q E s
  have hT : s.TypeIs (.ref l) "list" := ⟨_, hl, rfl⟩
  refine wpAny_bind (wpAny_contains_slot hT F.slot_list_contains (wpAny_mono (call_here (Q := fun v s' => ∃ b, v = .bool b ∧ Q (.bool b) s') F.slot_list_contains hT F.entry_list_contains (F.args_list_contains_2 _ _) (contains_head l x ?_)) (fun v s' hv => ?_) fun _ _ e => e))
  · refine contains_one l #[y] y x n 0 I hl rfl rfl (fun s' q => ?_) he (fun b s' q => ⟨b, rfl, fin b s' q⟩)
    obtain ⟨y', n', e⟩ := hs s' q
    exact ⟨_, _, e, rfl⟩
  · obtain ⟨b, rfl, hq⟩ := hv
    exact wpAny_truthy_bool (wpAny_pure hq)
end
end GQ
namespace Cw
open PySem PySem.Spec PyProof.Rows L2
section
variable {X : Cx} {C f : Addr} {fd : FuncData} {ps : List Str} {sp : Sp} {k : Nat}
theorem tyX_looks {pins : List (Addr × Obj)} {σ : L2.St} {H : Hp} {s : Shared} {x : V} {u t : Value} (I : Inv X pins σ H s) (rx : RelV x u) (ty : TyX X.K H x t) : PySem.W.Looks (model X.prog X.w) s.heap (typeOf u) t := by
  obtain ⟨P, Z, p, _⟩ := kit_of I rx ty
  exact Z.ty _ _ I.kIn p
/-- what the call of an own method of two leads to -/
theorem run_own2 {A : Around} {pins : List (Addr × Obj)} {σ : L2.St} {H : Hp} {s : Shared} {a : Addr} {y : V} {u : Value} {M : VK} (F : FnOk X.prog X.w X.K X.mg X.base CX0 k f fd ps sp) (hr : Room k A) (fr : A.frames = X.A.frames) (hb : Binds X.K fd ps []) (I : Inv X pins σ H s) (ry : RelV y u)
    (h : sp [.ref a, y] H M E0) : wpAny (model X.prog X.w) A (call (.ref f) [.ref a, u]) (fun v s' => ∃ z H', Inv X pins σ H' s' ∧ RelV z v ∧ M z H') X.xe s := by
  have e0 : Env0 X.prog X.w X.K X.mg X.base A X.stack s H := by
    have e := I.env0
    exact ⟨by rw [fr]; exact e.frames, e.mod, e.bs, e.bsz, e.funs, e.frf, e.hok, e.bare⟩
  have hl := F.len _ _ _ _ h
  have r2 : Vals [V.ref a, y] [Value.ref a, u] := .cons rfl (.cons ry .nil)
  refine wpAny_call (codeAny_mono (F.run A X.stack s H ⟨[.ref a, u], []⟩ [.ref a, u] [.ref a, y] _ E0 hr e0 (by
    have := hb s [.ref a, u] I.kIn (by simpa using hl)
    simpa using this) r2 h) fun r s' hq => ?_)
  cases r with
  | error e => exact pass0 pins σ H s e s' I hq
  | ok fl =>
    cases fl with
    | ret w =>
      obtain ⟨z, H', I', rz, q⟩ := I.after hq
      exact ⟨z, H', I', rz, q⟩
    | next => exact False.elim hq
    | brk => exact False.elim hq
    | cont => exact False.elim hq
/-- the left one an instance of the class, the right one anything that is no instance of a class below it -/
def rOwn (K : PySem.W.Frag) (C : Addr) (sp : Sp) (g : Bool → Bool) : R2 := fun x y H Q => ∃ a dx fs t, x = .ref a ∧ H a = some (.ins C dx fs) ∧ TyX K H y t ∧ PySem.W.notFirst K C t = true ∧ sp [.ref a, y] H (fun v H' => ∃ c, v = .bl c ∧ Q (.bl (g c)) H') E0
theorem rc_own {A : Around} {pins : List (Addr × Obj)} {σ : L2.St} {H : Hp} {s : Shared} {a dx : Addr} {fs : List (Str × V)} {y : V} {u t : Value} {M : Bool → Hp → Prop} (F : FnOk X.prog X.w X.K X.mg X.base CX0 k f fd ps sp) (hr : Room k A) (fr : A.frames = X.A.frames) (m : Meth X.K C "__eq__" f) (hb : Binds X.K fd ps []) (I : Inv X pins σ H s) (ry : RelV y u)
    (ha : H a = some (.ins C dx fs)) (ty : TyX X.K H y t) (nf : PySem.W.notFirst X.K C t = true) (h : sp [.ref a, y] H (fun v H' => ∃ c, v = .bl c ∧ M c H') E0) :
    wpAny (model X.prog X.w) A (richCompare .Eq (.ref a) u) (fun v s' => ∃ c H', v = .bool c ∧ Inv X pins σ H' s' ∧ M c H') X.xe s := by
  obtain ⟨mA, J, _⟩ := ins_get I.hok ha
  obtain ⟨od, J, _⟩ := J.look
  obtain ⟨mm, hF⟩ := I.fr
  refine PySem.W.cmp_K (op := .Eq) hr.units0 hF I.ok.mod.kin J (tyX_looks I ry ty) nf m.at_ m.fn (wpAny_mono (run_own2 F hr fr hb I ry h) (fun v s' hv => ?_) fun _ _ e => e)
  obtain ⟨z, H', I', rz, c, rfl, q⟩ := hv
  cases rz
  exact ⟨c, H', rfl, I', q⟩
theorem op_eqO (F : FnOk X.prog X.w X.K X.mg X.base CX0 k f fd ps sp) (hr : Room k X.A) (m : Meth X.K C "__eq__" f) (hb : Binds X.K fd ps []) : OpR X (compareOp .Eq) (rOwn X.K C sp id) := by
  intro pins s σ H x y v u Q I rx ry h
  obtain ⟨a, dx, fs, t, rfl, ha, ty, nf, h⟩ := h
  cases rx
  show wpAny (model X.prog X.w) X.A (richCompare .Eq (.ref a) u) (EP X pins σ Q) X.xe s
  refine wpAny_mono (rc_own (M := fun c H' => Q (.bl c) H') F hr rfl m hb I ry ha ty nf h) (fun r s' z => ?_) fun _ _ e => e
  obtain ⟨c, H', rfl, I', q⟩ := z
  exact ⟨.bl c, H', I', rfl, q⟩
theorem op_neO (F : FnOk X.prog X.w X.K X.mg X.base CX0 k f fd ps sp) (hr : Room (k + 1) X.A) (m : Meth X.K C "__eq__" f) (hb : Binds X.K fd ps []) (hne : PySem.W.findIn X.K (.ref C) "__ne__" = some (some (.builtin "object.__ne__")))
    (hm : PySem.W.mroIn X.K C (.type "object") = some true) : OpR X (compareOp .NotEq) (rOwn X.K C sp not) := by
  intro pins s σ H x y v u Q I rx ry h
  obtain ⟨a, dx, fs, t, rfl, ha, ty, nf, h⟩ := h
  cases rx
  show wpAny (model X.prog X.w) X.A (richCompare .NotEq (.ref a) u) (EP X pins σ Q) X.xe s
  obtain ⟨mA, J, _⟩ := ins_get I.hok ha
  obtain ⟨od, J, _⟩ := J.look
  refine cmpNe_K (by have := hr.un; omega) I.kIn J (tyX_looks I ry ty) nf hne hm m.at_ m.fn (wpAny_mono (run_own2 F hr.in1 rfl hb I ry h) (fun v s' hv => ?_) fun _ _ e => e)
  obtain ⟨z, H', I', rz, c, rfl, q⟩ := hv
  cases rz
  exact ⟨c, rfl, .bl (!c), H', I', rfl, q⟩
/-- x in [y], both instances of the class -/
def rInO (K : PySem.W.Frag) (C : Addr) (sp : Sp) : R2 := fun x y H Q => ∃ a b l dy gs t, x = .ref a ∧ y = .ref l ∧ H l = some (.lst [.ref b]) ∧ H b = some (.ins C dy gs) ∧ TyX K H (.ref a) t ∧ PySem.W.notFirst K C t = true ∧
  (a = b → Q (.bl true) H) ∧ (a ≠ b → sp [.ref b, .ref a] H (fun v H' => ∃ c, v = .bl c ∧ (H' l = some (.lst [.ref b]) ∧ Q (.bl c) H')) E0)
theorem op_inO (F : FnOk X.prog X.w X.K X.mg X.base CX0 k f fd ps sp) (hr : Room (k + 1) X.A) (m : Meth X.K C "__eq__" f) (hb : Binds X.K fd ps []) : OpR X (compareOp .In) (rInO X.K C sp) := by
  intro pins s σ H x y v u Q I rx ry h
  obtain ⟨a, b, l, dy, gs, t, rfl, rfl, hl, hbb, ty, nf, same, h⟩ := h
  cases rx
  cases ry
  have one : ∀ {H : Hp} {s : Shared}, Inv X pins σ H s → H l = some (.lst [.ref b]) → ∃ n, s.heap.get? l = some { cls := .type "list", data := .seq #[.ref b] n } := fun {H s} I e => by
    obtain ⟨_, its, n, rv, ho⟩ := (show ObjOk X.prog X.w H s.heap l (.lst [.ref b]) from I.hok l _ e)
    cases rv with
    | cons r1 r2 =>
      cases r2
      cases r1
      exact ⟨n, ho⟩
  obtain ⟨n, ho⟩ := one I hl
  by_cases hab : b = a
  · subst hab
    refine GQ.in_one (fun r s' => r = true ∧ s' = s) ho (fun s' z => by cases z.1) (SeqAt.EqAt.same (A := X.A.in1) (s := s) (.ref b) X.prog X.w X.xe _ ⟨rfl, rfl⟩) (fun r s' z => ?_)
    obtain ⟨rfl, rfl⟩ := z
    exact ⟨.bl true, H, I, rfl, same rfl⟩
  · refine GQ.in_one (fun r s' => ∃ H', Inv X pins σ H' s' ∧ H' l = some (.lst [.ref b]) ∧ Q (.bl r) H') ho (fun s' z => ?_) (GQ.eqBool_refG hab (wpAny_mono (rc_own (A := X.A.in1) (y := .ref a) (M := fun c H' => H' l = some (.lst [.ref b]) ∧ Q (.bl c) H') F hr.in1 rfl m hb I rfl hbb ty nf (h fun e => hab e.symm)) (fun r s' z => ?_) fun _ _ e => e)) (fun r s' z => ?_)
    · obtain ⟨H', I', e, _⟩ := z
      obtain ⟨n', ho'⟩ := one I' e
      exact ⟨_, n', ho'⟩
    · obtain ⟨c, H', rfl, I', e, q⟩ := z
      exact ⟨c, rfl, H', I', e, q⟩
    · obtain ⟨H', I', e, q⟩ := z
      exact ⟨.bl r, H', I', rfl, q⟩
/-- repr(o), o of a class with an own __repr__ -/
def rReprO (C : Addr) (sp : Sp) : List V → Hp → VK → Prop := fun xs H Q => ∃ a dx fs, xs = [.ref a] ∧ H a = some (.ins C dx fs) ∧ sp [.ref a] H (fun v H' => ∃ z : Str, v = .str z ∧ Q (.str z) H') E0
theorem call_reprO (F : FnG X.prog X.w X.K X.mg X.base CX0 k f fd ps sp) (hg : X.A.guards = some []) (hr : Room (k + 1) X.A) (m : Meth X.K C "__repr__" f) (hb : Binds X.K fd ps []) : CallR X (.builtin "repr") (rReprO C sp) := by
  intro pins s σ H xs us Q I r h
  obtain ⟨a, dx, fs, rfl, ha, hsp⟩ := h
  obtain ⟨u, rfl, r1⟩ := vals1 r
  cases r1
  obtain ⟨mA, J, _⟩ := ins_get I.hok ha
  obtain ⟨od, J, _⟩ := J.look
  obtain ⟨mm, hF⟩ := I.fr
  have hl := F.len _ _ _ _ hsp
  have r2 : Vals [V.ref a] [Value.ref a] := .cons rfl .nil
  refine PySem.W.repr_K hr.in1.units0 hF I.ok.mod.kin J m.at_ m.fn ?_
  refine wpAny_call (codeAny_mono (F.go X.A.in1 X.stack s H ⟨[.ref a], []⟩ [.ref a] [.ref a] _ E0 hg hr.in1 I.env0.in1 (by
    have := hb s [.ref a] I.kIn (by simpa using hl)
    simpa using this) r2 hsp) fun r s' hq => ?_)
  cases r with
  | error e => exact pass0 pins σ H s e s' I hq
  | ok fl =>
    cases fl with
    | ret w =>
      obtain ⟨z, H', I', rz, zz, ez, q⟩ := I.after hq
      subst ez
      obtain ⟨t, rfl⟩ := rz
      exact ⟨.str zz, H', I', ⟨t, rfl⟩, q⟩
    | next => exact False.elim hq
    | brk => exact False.elim hq
    | cont => exact False.elim hq
/-- {e!r}, e data -/
def tFmtX (te : TE) : TE := fun σ H Q => te σ H fun x H1 => ∃ (a : Addr) (d : PyData), x = .ref a ∧ Dx H1 (.ref a) d ∧ d.showable = true ∧ d.depth ≤ 60 ∧ d.shown.length ≤ sizeLine ∧ Q (.str d.shown) H1
theorem pe_fmtX {e : Expr} {te : TE} {pos : Pos} (hg : X.A.guards = some []) (hu : X.A.units + 64 < cLine) (hm : HasMods X.K) (he : PE X e te) : PE X (.FormattedValue e 114 none pos) (tFmtX te) := by
  refine ⟨fun pins s σ H Q I h => ?_⟩
  refine wpAny_FormattedValue_repr (thn (he.run pins s σ H _ I h) fun v s1 hv => ?_)
  obtain ⟨x, H1, I1, r1, a, d, rfl, hd, hs, hdp, hz, q⟩ := hv
  cases r1
  obtain ⟨as, rd, nm⟩ := Dx.reads I1 hm d _ _ hd rfl
  refine pyReprObj_of_reads rd hs (fun _ => nm) hg (by omega) (fun _ _ e => e) (fun h' u tk hk => ?_) hz
  exact wpAny_formatField_str ⟨.str d.shown, H1, I1.kept (t' := tk) hk, ⟨_, rfl⟩, q⟩ ⟨.str d.shown, H1, I1.kept (t' := tk + 1) hk, ⟨_, rfl⟩, q⟩ hz
end
end Cw
/-! rules by K for comprehensions; tuples known to have no dict of their own; repr of a whole number -/
namespace Cw
open PySem PySem.Spec PyProof.Rows L2
section
variable {X : Cx} {C f : Addr} {fd : FuncData} {ps : List Str} {sp : Sp} {k : Nat}
theorem op_eqOK {K : PySem.W.Frag} (hK : X.K = K) (F : FnOk X.prog X.w X.K X.mg X.base CX0 k f fd ps sp) (hr : Room k X.A) (m : Meth X.K C "__eq__" f) (hb : Binds X.K fd ps []) : OpR X (compareOp .Eq) (rOwn K C sp id) := by
  subst hK
  exact op_eqO F hr m hb
theorem op_neOK {K : PySem.W.Frag} (hK : X.K = K) (F : FnOk X.prog X.w X.K X.mg X.base CX0 k f fd ps sp) (hr : Room (k + 1) X.A) (m : Meth X.K C "__eq__" f) (hb : Binds X.K fd ps []) (hne : PySem.W.findIn X.K (.ref C) "__ne__" = some (some (.builtin "object.__ne__")))
    (hm : PySem.W.mroIn X.K C (.type "object") = some true) : OpR X (compareOp .NotEq) (rOwn K C sp not) := by
  subst hK
  exact op_neO F hr m hb hne hm
theorem call_tupleTK {K : PySem.W.Frag} (hK : X.K = K) : CallR X (.type "tuple") (fun xs H Q => ∃ a ys, xs = [.ref a] ∧ SqT K H a ys ∧ Q (.ref a) H) := by
  subst hK
  exact call_tupleT
/-- repr of a whole number -/
theorem call_reprI : CallR X (.builtin "repr") (fun xs H Q => ∃ i : Int, xs = [.int i] ∧ i.natAbs.log2 < 1920 ∧ Q (.str (toString i)) H) := by
  intro pins s σ H xs us Q I r h
  obtain ⟨i, rfl, hz, q⟩ := h
  obtain ⟨u, rfl, r1⟩ := vals1 r
  obtain ⟨t, rfl⟩ := r1
  exact PySem.P.repr_of_int hz ⟨.str (toString i), H, I.tok _, ⟨_, rfl⟩, q⟩
/-- (e, ..), known to have no dict -/
def tTupF (ta : TA) : TE := fun σ H Q => ta σ H fun xs H1 => xs.length ≤ sizeLine ∧ ∀ (p : Addr) (o : Obj), H1 p = none → o.dict = none → Q (.ref p) (upd H1 p (.frz o (.tup xs)))
theorem pe_tupF {es : List Expr} {x1 : Nat} {t : TA} {pos : Pos} (h : PA X es t) : PE X (.Tuple es x1 pos) (tTupF t) := by
  refine ⟨fun pins s σ H Q I hq => ?_⟩
  refine wpAny_Tuple_spliced (thn (h.run pos pins s σ H _ I hq) fun us s1 ⟨xs, H1, I1, r, z, q⟩ => ⟨by rw [← r.length]; exact z, ?_⟩)
  let ob : Obj := { cls := .type "tuple", data := .seq us.toArray }
  have at_ : (s1.heap.push ob).get? s1.heap.objs.size = some ob := Heap.get?_push_size _ rfl
  refine ⟨.ref s1.heap.objs.size, upd H1 s1.heap.objs.size (.frz ob (.tup xs)), I1.laid (t' := s1.toks) (fun b u e => Heap.get?_push_of_some _ e) (Nat.le_refl _) ?_, rfl, q _ ob (I1.hok.fresh (Nat.le_refl _)) rfl⟩
  exact ⟨at_, z, us, r, ⟨_, at_, rfl, _, rfl⟩⟩
/-- t[lo:hi], not the whole of it, known to have no dict -/
def rSlF (K : PySem.W.Frag) : V → Option Int → Option Int → Hp → VK → Prop := fun x lo hi H Q => ∃ a xs, x = .ref a ∧ SqT K H a xs ∧
  ¬ (HT.sIx xs.length 0 lo = 0 ∧ HT.sIx xs.length xs.length hi = xs.length) ∧ ∀ (p : Addr) (o : Obj), H p = none → o.dict = none → Q (.ref p) (upd H p (.frz o (.tup (cutV xs lo hi))))
theorem sl_tupF : SlR X (rSlF X.K) := by
  intro pins s σ H x v vl vu lo hi sl Q I rx hs pl pu h
  obtain ⟨a, xs, rfl, hx, hw, q⟩ := h
  cases rx
  obtain ⟨its, r, ht, hz⟩ := I.tuple hx
  have hlen : its.toArray.size = xs.length := by rw [List.size_toArray]; exact r.length.symm
  refine ⟨"tuple", _, PyProof.Rows.slot_tuple_getitem.lookup, ht.typeIs, ?_⟩
  refine HT.getItem_tuple_cut ht hs pl pu (by rw [hlen]; exact hw) ?_ (by rw [hlen]; exact hz)
  rw [hlen]
  let ob : Obj := { cls := .type "tuple", data := .seq ((its.toArray.toList.drop (HT.sIx xs.length 0 lo)).take (HT.sIx xs.length xs.length hi - HT.sIx xs.length 0 lo)).toArray }
  have at_ : (s.heap.push ob).get? s.heap.objs.size = some ob := Heap.get?_push_size _ rfl
  refine ⟨.ref s.heap.objs.size, upd H s.heap.objs.size (.frz ob (.tup (cutV xs lo hi))), I.laid (t' := s.toks) (fun b ob q => Heap.get?_push_of_some _ q) (Nat.le_refl _) ?_, rfl, q _ ob (I.hok.fresh (Nat.le_refl _)) rfl⟩
  exact ⟨at_, Nat.le_trans (cutV_length xs lo hi) hz, _, (r.drop (HT.sIx xs.length 0 lo)).take (HT.sIx xs.length xs.length hi - HT.sIx xs.length 0 lo), ⟨_, at_, rfl, _, rfl⟩⟩
end
end Cw
/-! what is shown of data is a text of signs that there are -/
namespace Cw
open PySem PySem.Spec PyProof.Rows L2
def Ok (z : Str) : Prop := ∀ c ∈ z.cps.toList, c < 0x110000
theorem Ok.append {a b : Str} (h1 : Ok a) (h2 : Ok b) : Ok (a ++ b) := fun c hc => by
  have e : (a ++ b).cps.toList = a.cps.toList ++ b.cps.toList := by
    show (a.cps ++ b.cps).toList = _
    simp
  rw [e] at hc
  exact (List.mem_append.mp hc).elim (h1 c) (h2 c)
theorem ok_lit (s : String) : Ok (Str.ofString s) := fun c hc => by
  rw [Str.ofString_eq_toList] at hc
  have hc : c ∈ s.toList.map Char.toNat := hc
  obtain ⟨x, _, rfl⟩ := List.mem_map.mp hc
  have := x.valid
  show x.val.toNat < 0x110000
  rcases this with h | ⟨_, h⟩
  · omega
  · exact h
theorem ok_digits (n : Nat) : ∀ c ∈ (Nat.toDigits 16 n).map Char.toNat, c < 0x110000 := fun c hc => by
  obtain ⟨x, _, rfl⟩ := List.mem_map.mp hc
  have := x.valid
  show x.val.toNat < 0x110000
  rcases this with h | ⟨_, h⟩
  · omega
  · exact h
theorem ok_reprChar {q c : Nat} (hq : q < 0x110000) (hc : c < 0x110000) : ∀ x ∈ Builtin.Str.reprChar q c, x < 0x110000 := by
  have hx : ∀ w, ∀ x ∈ List.replicate w 48 ++ (Nat.toDigits 16 c).map Char.toNat, x < 0x110000 := fun w x hx => by
    rcases List.mem_append.mp hx with h | h
    · rw [(List.mem_replicate.mp h).2]; decide
    · exact ok_digits c x h
  intro x h
  unfold Builtin.Str.reprChar at h
  simp only at h
  split at h
  · simp at h; omega
  · split at h
    · simp at h; omega
    · split at h
      · simp at h; omega
      · split at h
        · simp at h; omega
        · split at h
          · simp at h; omega
          · split at h
            · rcases List.mem_append.mp h with h | h
              · simp at h; omega
              · exact hx _ x h
            · split at h
              · rcases List.mem_append.mp h with h | h
                · simp at h; omega
                · exact hx _ x h
              · rcases List.mem_append.mp h with h | h
                · simp at h; omega
                · exact hx _ x h
theorem ok_fold {q : Nat} (hq : q < 0x110000) : ∀ (l : List Nat) (acc : Array Nat), (∀ c ∈ acc.toList, c < 0x110000) → (∀ c ∈ l, c < 0x110000) → ∀ c ∈ (l.foldl (fun out c => out ++ (Builtin.Str.reprChar q c).toArray) acc).toList, c < 0x110000
  | [], acc, h, _ => h
  | a :: r, acc, h, hl => by
    rw [List.foldl_cons]
    refine ok_fold hq r _ (fun c hc => ?_) fun c hc => hl c (List.mem_cons_of_mem _ hc)
    have e : (acc ++ (Builtin.Str.reprChar q a).toArray).toList = acc.toList ++ Builtin.Str.reprChar q a := by simp
    rw [e] at hc
    exact (List.mem_append.mp hc).elim (h c) (ok_reprChar hq (hl a List.mem_cons_self) c)
theorem ok_repr {x : Str} (h : Ok x) : Ok (reprText x) := by
  have hq : reprQuote x < 0x110000 := by
    unfold reprQuote
    split <;> decide
  intro c hc
  unfold reprText at hc
  simp only [Array.toList_push] at hc
  rcases List.mem_append.mp hc with hc | hc
  · rw [← Array.foldl_toList] at hc
    exact ok_fold hq x.cps.toList #[reprQuote x] (fun c hc => by
      have : c = reprQuote x := by simpa using hc
      rw [this]
      exact hq) h c hc
  · rw [List.mem_singleton.mp hc]
    exact hq
theorem ok_from : ∀ (ts : List Str) (k : Nat) (acc : Str), Ok acc → (∀ t ∈ ts, Ok t) → Ok (textFrom k acc ts)
  | [], _, _, h, _ => h
  | t :: r, k, acc, h, hl => by
    have : textFrom k acc (t :: r) = textFrom (k + 1) (acc ++ Str.ofString (if k > 0 then ", " else "") ++ t) r := rfl
    rw [this]
    exact ok_from r (k + 1) _ ((h.append (ok_lit _)).append (hl t List.mem_cons_self)) fun y hy => hl y (List.mem_cons_of_mem _ hy)
theorem ok_join : ∀ (ts : List Str), (∀ t ∈ ts, Ok t) → Ok (Str.join (Str.ofString ", ") ts)
  | [], _ => ok_lit ""
  | [x], h => h x List.mem_cons_self
  | x :: y :: r, h => by
    show Ok (x ++ Str.ofString ", " ++ Str.join (Str.ofString ", ") (y :: r))
    exact ((h x List.mem_cons_self).append (ok_lit _)).append (ok_join (y :: r) fun z hz => h z (List.mem_cons_of_mem _ hz))
theorem strOk_iff {x : Str} : PyData.strOk x = true ↔ Ok x := by
  unfold PyData.strOk Ok
  rw [Array.all_eq_true']
  constructor
  · intro h c hc
    exact of_decide_eq_true (h c (Array.mem_toList_iff.mp hc))
  · intro h c hc
    exact decide_eq_true (h c (Array.mem_toList_iff.mpr hc))
mutual
theorem ok_shown : ∀ d : PyData, d.canLay0 = true → Ok d.shown
  | .none, _ => ok_lit "None"
  | .bool b, _ => by
    cases b
    · exact ok_lit "False"
    · exact ok_lit "True"
  | .int i, _ => ok_lit (toString i)
  | .str x, h => ok_repr (strOk_iff.mp (by simpa only [PyData.canLay0] using h))
  | .list ds, h => by
    have := ok_shownAll ds (by simpa only [PyData.canLay0] using h)
    exact (ok_from _ 0 _ (ok_lit "[") this).append (ok_lit "]")
  | .tuple ds, h => by
    have := ok_shownAll ds (by simpa only [PyData.canLay0] using h)
    exact ((ok_lit "(").append (ok_join _ this)).append (ok_lit _)
  | .dict kvs, h => by simp [PyData.canLay0] at h
theorem ok_shownAll : ∀ ds : List PyData, PyData.canLayAll0 ds = true → ∀ t ∈ PyData.shownAll ds, Ok t
  | [], _, t, h => by simp [PyData.shownAll] at h
  | d :: ds, c, t, h => by
    simp only [PyData.canLayAll0, Bool.and_eq_true] at c
    simp only [PyData.shownAll] at h
    rcases List.mem_cons.mp h with rfl | h
    · exact ok_shown d c.1
    · exact ok_shownAll ds c.2 t h
end
/-- a text, whatever its length -/
theorem can_str {z : Str} (h : Ok z) : (PyData.str z).canLay0 = true := by
  simp only [PyData.canLay0]
  exact strOk_iff.mpr h
theorem shaped_strs {zs : List Str} (h : ∀ z ∈ zs, Ok z) : SeqAt.shaped (.list (zs.map PyData.str)) = true := by
  have c : ∀ l : List Str, (∀ z ∈ l, Ok z) → PyData.canLayAll0 (l.map PyData.str) = true ∧ PyData.depthAll (l.map PyData.str) ≤ 0 := fun l => by
    induction l with
    | nil => intro _; exact ⟨by simp [PyData.canLayAll0], by simp [PyData.depthAll]⟩
    | cons z r ih =>
      intro h
      obtain ⟨i1, i2⟩ := ih fun y hy => h y (List.mem_cons_of_mem _ hy)
      refine ⟨?_, ?_⟩
      · simp only [List.map_cons, PyData.canLayAll0, Bool.and_eq_true]
        exact ⟨can_str (h z List.mem_cons_self), i1⟩
      · simp only [List.map_cons, PyData.depthAll, PyData.depth]
        omega
  obtain ⟨c1, c2⟩ := c zs h
  unfold SeqAt.shaped
  rw [Bool.and_eq_true]
  refine ⟨by simp only [PyData.canLay0]; exact c1, decide_eq_true ?_⟩
  simp only [PyData.depth]
  omega
end Cw
namespace Cw
open PySem PySem.Spec PyProof.Rows L2
def top (i : Nat) : Stmt := PySem.Challenge.pw_crywalks_k71_fractions.main.body.getD i (.Pass ⟨0, 0, 0, 0⟩)
abbrev S_is_whole : Stmt := top 1
abbrev N_is_whole : List Str := ["thing"]
abbrev P_is_whole : List Str := ["thing"]
theorem sc_is_whole : FnScope N_is_whole P_is_whole (defScope S_is_whole) := ⟨rfl, rfl, rfl, by decide +kernel, rfl, by decide +kernel, by decide +kernel⟩
abbrev S_is_tuple_of : Stmt := top 2
abbrev N_is_tuple_of : List Str := ["thing", "many"]
abbrev P_is_tuple_of : List Str := ["thing", "many"]
theorem sc_is_tuple_of : FnScope N_is_tuple_of P_is_tuple_of (defScope S_is_tuple_of) := ⟨rfl, rfl, rfl, by decide +kernel, rfl, by decide +kernel, by decide +kernel⟩
abbrev S_greatest_divisor : Stmt := top 4
abbrev N_greatest_divisor : List Str := ["one", "other"]
abbrev P_greatest_divisor : List Str := ["one", "other"]
theorem sc_greatest_divisor : FnScope N_greatest_divisor P_greatest_divisor (defScope S_greatest_divisor) := ⟨rfl, rfl, rfl, by decide +kernel, rfl, by decide +kernel, by decide +kernel⟩
abbrev S_fraction : Stmt := top 5
abbrev N_fraction : List Str := ["upper", "lower", "divisor"]
abbrev P_fraction : List Str := ["upper", "lower"]
theorem sc_fraction : FnScope N_fraction P_fraction (defScope S_fraction) := ⟨rfl, rfl, rfl, by decide +kernel, rfl, by decide +kernel, by decide +kernel⟩
abbrev S_plus : Stmt := top 6
abbrev N_plus : List Str := ["one", "other"]
abbrev P_plus : List Str := ["one", "other"]
theorem sc_plus : FnScope N_plus P_plus (defScope S_plus) := ⟨rfl, rfl, rfl, by decide +kernel, rfl, by decide +kernel, by decide +kernel⟩
abbrev S_minus : Stmt := top 7
abbrev N_minus : List Str := ["one", "other"]
abbrev P_minus : List Str := ["one", "other"]
theorem sc_minus : FnScope N_minus P_minus (defScope S_minus) := ⟨rfl, rfl, rfl, by decide +kernel, rfl, by decide +kernel, by decide +kernel⟩
abbrev S_times : Stmt := top 8
abbrev N_times : List Str := ["one", "other"]
abbrev P_times : List Str := ["one", "other"]
theorem sc_times : FnScope N_times P_times (defScope S_times) := ⟨rfl, rfl, rfl, by decide +kernel, rfl, by decide +kernel, by decide +kernel⟩
abbrev S_is_less : Stmt := top 9
abbrev N_is_less : List Str := ["one", "other"]
abbrev P_is_less : List Str := ["one", "other"]
theorem sc_is_less : FnScope N_is_less P_is_less (defScope S_is_less) := ⟨rfl, rfl, rfl, by decide +kernel, rfl, by decide +kernel, by decide +kernel⟩
abbrev S_is_fraction : Stmt := top 10
abbrev N_is_fraction : List Str := ["thing", "upper", "lower"]
abbrev P_is_fraction : List Str := ["thing"]
theorem sc_is_fraction : FnScope N_is_fraction P_is_fraction (defScope S_is_fraction) := ⟨rfl, rfl, rfl, by decide +kernel, rfl, by decide +kernel, by decide +kernel⟩
abbrev S_pot : Stmt := top 12
abbrev N_pot : List Str := ["_law_script", "_law_k", "_law_cell"]
abbrev P_pot : List Str := ["_law_script", "_law_k"]
theorem sc_pot : FnScope N_pot P_pot (defScope S_pot) := ⟨rfl, rfl, rfl, by decide +kernel, rfl, by decide +kernel, by decide +kernel⟩
abbrev S_take : Stmt := top 13
abbrev N_take : List Str := ["_law_pot_here", "_law_many", "_law_digit"]
abbrev P_take : List Str := ["_law_pot_here", "_law_many"]
theorem sc_take : FnScope N_take P_take (defScope S_take) := ⟨rfl, rfl, rfl, by decide +kernel, rfl, by decide +kernel, by decide +kernel⟩
abbrev S_among : Stmt := top 14
abbrev N_among : List Str := ["_law_pot_here", "_law_some"]
abbrev P_among : List Str := ["_law_pot_here", "_law_some"]
theorem sc_among : FnScope N_among P_among (defScope S_among) := ⟨rfl, rfl, rfl, by decide +kernel, rfl, by decide +kernel, by decide +kernel⟩
abbrev S_whole : Stmt := top 15
abbrev N_whole : List Str := ["_law_pot_here", "_law_some"]
abbrev P_whole : List Str := ["_law_pot_here"]
theorem sc_whole : FnScope N_whole P_whole (defScope S_whole) := ⟨rfl, rfl, rfl, by decide +kernel, rfl, by decide +kernel, by decide +kernel⟩
abbrev S_lower : Stmt := top 16
abbrev N_lower : List Str := ["_law_pot_here", "_law_found"]
abbrev P_lower : List Str := ["_law_pot_here"]
theorem sc_lower : FnScope N_lower P_lower (defScope S_lower) := ⟨rfl, rfl, rfl, by decide +kernel, rfl, by decide +kernel, by decide +kernel⟩
abbrev S_share : Stmt := top 17
abbrev N_share : List Str := ["_law_one", "_law_other", "_law_here", "_law_there"]
abbrev P_share : List Str := ["_law_one", "_law_other"]
theorem sc_share : FnScope N_share P_share (defScope S_share) := ⟨rfl, rfl, rfl, by decide +kernel, rfl, by decide +kernel, by decide +kernel⟩
abbrev S_is_lowest : Stmt := top 18
abbrev N_is_lowest : List Str := ["_law_thing", "_law_part"]
abbrev P_is_lowest : List Str := ["_law_thing"]
theorem sc_is_lowest : FnScope N_is_lowest P_is_lowest (defScope S_is_lowest) := ⟨rfl, rfl, rfl, by decide +kernel, rfl, by decide +kernel, by decide +kernel⟩
abbrev S_is : Stmt := top 19
abbrev N_is : List Str := ["_law_told", "_law_upper", "_law_lower_here"]
abbrev P_is : List Str := ["_law_told", "_law_upper", "_law_lower_here"]
theorem sc_is : FnScope N_is P_is (defScope S_is) := ⟨rfl, rfl, rfl, by decide +kernel, rfl, by decide +kernel, by decide +kernel⟩
abbrev S_odd : Stmt := top 20
abbrev N_odd : List Str := ["_law_pot_here", "_law_good", "_law_some"]
abbrev P_odd : List Str := ["_law_pot_here"]
theorem sc_odd : FnScope N_odd P_odd (defScope S_odd) := ⟨rfl, rfl, rfl, by decide +kernel, rfl, by decide +kernel, by decide +kernel⟩
abbrev S_law : Stmt := top 21
abbrev N_law : List Str := ["_law_script", "_law_k", "_law_pot_here", "_law_turn", "_law_a", "_law_b", "_law_c", "_law_d", "_law_one", "_law_other", "_law_due", "_law_thing", "_law_shown"]
abbrev P_law : List Str := ["_law_script"]
theorem sc_law : FnScope N_law P_law (defScope S_law) := ⟨rfl, rfl, rfl, by decide +kernel, rfl, by decide +kernel, by decide +kernel⟩

end Cw
namespace Cw
open PySem PySem.Spec PyProof.Rows L2
section
variable {P : Program} {w : World} {K : PySem.W.Frag} {mg : Str → Option Value} {base : Heap}
def spPot (K : PySem.W.Frag) : Sp := fun vs H Q _ => ∃ (a : Addr) (ns : List Int) (k : Int), vs = [.ref a, .int k] ∧ SqL K H a (ns.map V.int) ∧ 0 ≤ k ∧ k ≤ 1000 ∧
  ∀ p H', Same H H' → H p = none → Pot H' p → Q (.ref p) H'
theorem ok_pot {f : Addr} {fd : FuncData} (F : FnP K "_law_pot" "_law_pot" S_pot f fd) (ml : mg "len" = none) (ma : mg "abs" = none) (mm : mg "max" = none) :
    FnOk P w K mg base CX0 1 f fd P_pot (spPot K) := by
  refine F.ok sc_pot (fun vs H Q E h => ?_) (fun cdv A outer s H vs Q E hr h => ⟨_, PSs.nox (pss_cons (ps_set (i := 2) sc_pot.nd rfl (.inl rfl) pe_int)
    (C8.pss_cut (ps_if (pt_cmpR op_lt (pv 1) (pe_callB call_len_seq (by rfl) ml PySem.boot_len (pa_cons (pv 0) pa_nil)) (nomark _))
      (pss_one (ps_set (i := 2) sc_pot.nd rfl (.inl rfl) (pe_callB call_abs (by rfl) ma (by decide +kernel) (pa_cons (pe_ix ix_list (pv 0) (pv 1) (fun _ _ => rfl)) pa_nil)))) pss_nil)
    (pss_one (ps_ret (pe_lst (pa_cons (pe_callB (call_max2 rfl) (by rfl) mm (by decide +kernel) (pa_cons pe_int (pa_cons (pe_op op_sub (pv 2) (pe_op op_pow pe_int pe_int)) pa_nil)))
      (pa_cons (pe_op op_add (pe_op op_mod (pe_op op_pow (pe_op op_add (pe_op op_add (pe_op op_mod (pv 2) pe_int) (pe_op op_mul pe_int (pv 1))) pe_int) pe_int) pe_int) pe_int) pa_nil))))))), ?_⟩)
  · obtain ⟨a, ns, k, rfl, _⟩ := h
    rfl
  · obtain ⟨a, ns, k, rfl, hS, k0, k1, q⟩ := h
    refine ⟨fun σ H' => ∃ c : Int, σ = [some (.ref a), some (.int k), some (.int c)] ∧ H' = H ∧ 0 ≤ c, ⟨_, rfl, _, rfl, a, _, rfl, .inl hS, _, _, rfl, rfl, _, rfl, ite2 (fun h => ?_) (fun h => ?_)⟩, ?_⟩
    · have hk : k.toNat < ns.length := by
        have h2 := of_decide_eq_true h
        rw [List.length_map] at h2
        omega
      have g : atI (ns.map V.int) k = some (.int ns[k.toNat]) := atI_int k0 (by rw [List.getElem?_map, List.getElem?_eq_getElem hk]; rfl)
      exact ⟨_, rfl, _, rfl, a, _, k, _, rfl, rfl, hS, g, _, rfl, _, rfl, rfl, by split <;> omega⟩
    · exact ⟨0, rfl, rfl, by omega⟩
    · rintro σ H' ⟨c, rfl, rfl, hc⟩
      refine ⟨_, rfl, _, _, rfl, rfl, ⟨by decide, by decide, by decide⟩, _, _, rfl, rfl, _, _, rfl, _, rfl, _, _, rfl, rfl, (by decide : (0 : Int) < 2147483543), _, rfl, _, _, rfl, rfl, .inl ⟨by decide, by decide⟩, _, _, rfl, rfl, _, _, rfl, rfl, ?_⟩
      have b1 := Int.emod_nonneg c (by decide : (2147483543 : Int) ≠ 0)
      have b2 := Int.emod_lt_of_pos c (by decide : (0 : Int) < 2147483543)
      refine ⟨_, _, rfl, rfl, ⟨by decide, by decide, ?_⟩, _, _, rfl, rfl, (by decide : (0 : Int) < 2147483497), _, _, rfl, rfl, by show 2 ≤ sizeLine; decide, fun p hp => ?_⟩
      · show (c % 2147483543 + 101 * k + 5).natAbs < 2 ^ 64
        omega
      · refine q p _ (same_new hp) hp ⟨_, _, upd_same, ?_, ?_, ?_⟩
        · show 0 ≤ if c - 10 ^ Int.toNat 18 > 0 then c - 10 ^ Int.toNat 18 else 0
          split <;> omega
        · have := Int.emod_nonneg ((c % 2147483543 + 101 * k + 5) ^ Int.toNat 2) (by decide : (2147483497 : Int) ≠ 0)
          show 0 ≤ (c % 2147483543 + 101 * k + 5) ^ Int.toNat 2 % 2147483497 + 1
          omega
        · have := Int.emod_lt_of_pos ((c % 2147483543 + 101 * k + 5) ^ Int.toNat 2) (by decide : (0 : Int) < 2147483497)
          show (c % 2147483543 + 101 * k + 5) ^ Int.toNat 2 % 2147483497 + 1 ≤ 2147483587
          omega
def spTake : Sp := fun vs H Q _ => ∃ (p : Addr) (m : Int), vs = [.ref p, .int m] ∧ Pot H p ∧ 0 < m ∧ m.natAbs.log2 < 9000 ∧
  ∀ (d : Int) (H' : Hp), 0 ≤ d → d < m → Drew p H H' → Q (.int d) H'
theorem ok_take {f : Addr} {fd : FuncData} (F : FnP K "_law_take" "_law_take" S_take f fd) (md : mg "divmod" = none) :
    FnOk P w K mg base CX0 1 f fd P_take spTake := by
  refine F.ok sc_take (fun vs H Q E h => ?_) (fun cdv A outer s H vs Q E hr h => ⟨_, PSs.nox (pss_cons (ps_if (pt_cmpR op_gt (pe_ix ix_list (pv 0) pe_int (fun _ _ => rfl)) pe_int (nomark _))
      (pss_cons (ps_asg (pe_callB call_divmodL (by rfl) md (by decide +kernel) (pa_cons (pe_ix ix_list (pv 0) pe_int (fun _ _ => rfl)) (pa_cons (pv 1) pa_nil)))
          (pg_tup (by rfl) (pgs_cons (pg_sub (pv 0) pe_int set_list) (pgs_cons (pg_name (i := 2) sc_take.nd rfl (.inl rfl)) pgs_nil))))
        (pss_one (ps_ret (pv 2)))) pss_nil)
    (pss_cons (ps_asg (pe_op op_mod (pe_op op_add (pe_op op_mul (pe_ix ix_list (pv 0) pe_int (fun _ _ => rfl)) pe_int) pe_int) pe_int) (pg_sub (pv 0) pe_int set_list))
    (pss_one (ps_ret (pe_op op_mod (pe_op op_fdiv (pe_op op_mod (pe_op op_mul (pe_ix ix_list (pv 0) pe_int (fun _ _ => rfl)) (pe_ix ix_list (pv 0) pe_int (fun _ _ => rfl))) pe_int) pe_int) (pv 1)))))), ?_⟩)
  · obtain ⟨p, m, rfl, _⟩ := h
    rfl
  · obtain ⟨p, m, rfl, ⟨m0, m1, hp, h0, h1, h2⟩, hm, hm9, q⟩ := h
    refine ⟨_, rfl, p, _, 0, _, rfl, rfl, SqL.of hp, atI_int (by decide) rfl, _, _, rfl, rfl, _, rfl, ite2 (fun h => ?_) (fun h => ?_)⟩
    · refine ⟨_, rfl, p, _, 0, _, rfl, rfl, SqL.of hp, atI_int (by decide) rfl, _, rfl, _, _, rfl, ⟨hm, hm9⟩, fun t nt => ?_⟩
      have npt : p ≠ t := ne_of_none hp nt
      have hp1 : (upd H t (HO.tup [V.int (m0 / m), V.int (m0 % m)])) p = some (.lst [.int m0, .int m1]) := by rw [upd_ne npt]; exact hp
      refine ⟨t, _, rfl, SqT.of upd_same, rfl, _, _, rfl, _, rfl, p, _, 0, 0, rfl, rfl, hp1, rfl, _, _, rfl, rfl, _, rfl, ?_⟩
      refine q _ _ (Int.emod_nonneg _ (by omega)) (Int.emod_lt_of_pos _ hm) ⟨fun b o n e => ?_, ⟨_, _, upd_same, Int.ediv_nonneg h0 (by omega), h1, h2⟩⟩
      rw [upd_ne n, upd_ne (ne_of_none e nt)]
      exact e
    · refine ⟨_, rfl, p, _, 1, _, rfl, rfl, SqL.of hp, atI_int (by decide) rfl, _, _, rfl, rfl, .inl ⟨by show -(2 ^ 64) < m1; omega, by show m1 < 2 ^ 64; omega⟩, _, _, rfl, rfl, _, _, rfl, rfl, (by decide : (0 : Int) < 2147483587), ?_⟩
      have c0 := Int.emod_nonneg (m1 * 44029 + 10133) (by decide : (2147483587 : Int) ≠ 0)
      have c1 := Int.emod_lt_of_pos (m1 * 44029 + 10133) (by decide : (0 : Int) < 2147483587)
      refine ⟨_, rfl, p, _, 1, 1, rfl, rfl, hp, rfl, ?_⟩
      refine ⟨_, rfl, p, _, 1, _, rfl, rfl, SqL.of upd_same, atI_int (by decide) rfl, _, rfl, p, _, 1, _, rfl, rfl, SqL.of upd_same, atI_int (by decide) rfl, _, _, rfl, rfl, .inl ⟨by show -(2 ^ 64) < (m1 * 44029 + 10133) % 2147483587; omega, by show (m1 * 44029 + 10133) % 2147483587 < 2 ^ 64; omega⟩, _, _, rfl, rfl, (by decide : (0 : Int) < 2147483549), _, _, rfl, rfl, ⟨by decide, by decide⟩, _, rfl, _, _, rfl, rfl, hm, ?_⟩
      exact q _ _ (Int.emod_nonneg _ (by omega)) (Int.emod_lt_of_pos _ hm) ⟨but_upd, ⟨_, _, upd_same, h0, c0, by omega⟩⟩
end
end Cw
namespace Cw
open PySem PySem.Spec PyProof.Rows L2
abbrev TakeOk (P : Program) (w : World) (K : PySem.W.Frag) (mg : Str → Option Value) (base : Heap) : Prop := ∃ (fT : Addr) (fdT : FuncData), FnP K "_law_take" "_law_take" S_take fT fdT ∧ Binds K fdT P_take [] ∧ FnOk P w K mg base CX0 1 fT fdT P_take spTake ∧ mg "_law_take" = some (.ref fT)
structure Blt (mg : Str → Option Value) : Prop where
  isinstance_ : mg "isinstance" = none
  int_ : mg "int" = none
  bool_ : mg "bool" = none
  str_ : mg "str" = none
  list_ : mg "list" = none
  tuple_ : mg "tuple" = none
  dict_ : mg "dict" = none
  len_ : mg "len" = none
  all_ : mg "all" = none
  sum_ : mg "sum" = none
  enumerate_ : mg "enumerate" = none
  range_ : mg "range" = none
  repr_ : mg "repr" = none
  abs_ : mg "abs" = none
  max_ : mg "max" = none
  min_ : mg "min" = none
  divmod_ : mg "divmod" = none
  sorted_ : mg "sorted" = none
theorem qd {p : Prop} [Decidable p] {Q : VK} {H : Hp} (h : p) (q : Q (.bl true) H) : Q (.bl (decide p)) H := by
  rw [decide_eq_true h]
  exact q
def Has (P : Program) (w : World) (K : PySem.W.Frag) (mg : Str → Option Value) (base : Heap) (n : Str) (st : Stmt) (k : Nat) (ps : List Str) (sp : Sp) : Prop := ∃ (fT : Addr) (fdT : FuncData), FnP K n n st fT fdT ∧ Binds K fdT ps [] ∧ FnOk P w K mg base CX0 k fT fdT ps sp ∧ mg n = some (.ref fT)
def HasG (P : Program) (w : World) (K : PySem.W.Frag) (mg : Str → Option Value) (base : Heap) (n : Str) (st : Stmt) (k : Nat) (ps : List Str) (sp : Sp) : Prop := ∃ (fT : Addr) (fdT : FuncData), FnP K n n st fT fdT ∧ Binds K fdT ps [] ∧ FnG P w K mg base CX0 k fT fdT ps sp ∧ mg n = some (.ref fT)
theorem dxall_len {H : Hp} : ∀ {xs : List V} {ds : List PyData}, DxAll H xs ds → xs.length = ds.length
  | [], _, h => by cases h; rfl
  | _ :: _, _, h => by
    cases h with
    | cons _ r => simp [dxall_len r]
theorem dx_tuple {H : Hp} {v : V} {ds : List PyData} (h : Dx H v (.tuple ds)) (n : allTup ds = false := by rfl) : ∃ a xs, v = .ref a ∧ H a = some (.tup xs) ∧ DxAll H xs ds := by
  cases h with
  | tup e r => exact ⟨_, _, rfl, e, r⟩
  | tupz e dn r m => rw [n] at m; cases m
theorem ix_tupK {X : Cx} {K : PySem.W.Frag} (h : X.K = K) : IxR X (rIxT K) := by
  subst h
  exact ix_tup
theorem ix_listK {X : Cx} {K : PySem.W.Frag} (h : X.K = K) : IxR X (rIxL K) := by
  subst h
  exact ix_list
def rLenK (K : PySem.W.Frag) : List V → Hp → VK → Prop := fun xs H Q => ∃ p ys, xs = [.ref p] ∧ (SqL K H p ys ∨ SqT K H p ys) ∧ Q (.int ys.length) H
theorem call_lenK {X : Cx} {K : PySem.W.Frag} (h : X.K = K) : CallR X (.builtin "len") (rLenK K) := by
  subst h
  exact call_len_seq
def Nw (H H' : Hp) : Hp := fun b => match H b with
  | none => H' b
  | some _ => none
theorem Nw.at {H H' : Hp} {b : Addr} {o : HO} (n : H b = none) (e : H' b = some o) : Nw H H' b = some o := by
  unfold Nw
  rw [n]
  exact e
theorem Nw.get {H H' : Hp} {b : Addr} {o : HO} (e : Nw H H' b = some o) : H b = none ∧ H' b = some o := by
  unfold Nw at e
  cases h : H b with
  | none =>
    rw [h] at e
    exact ⟨rfl, e⟩
  | some x =>
    rw [h] at e
    cases e
theorem Nw.same {H H' : Hp} : Same (Nw H H') H' := fun b o e => (Nw.get e).2
theorem dxall_get {H : Hp} : ∀ {xs : List V} {ds : List PyData} {i : Nat} {d : PyData}, DxAll H xs ds → ds[i]? = some d → ∃ x, xs[i]? = some x ∧ Dx H x d
  | _, [], _, _, _, e => by cases e
  | _, _ :: _, 0, _, h, e => by
    cases h with
    | cons a _ => cases e; exact ⟨_, rfl, a⟩
  | _, _ :: _, i + 1, _, h, e => by
    cases h with
    | cons _ r =>
      obtain ⟨x, e1, e2⟩ := dxall_get (i := i) r e
      exact ⟨x, e1, e2⟩
theorem dxall_snoc {H : Hp} : ∀ {xs : List V} {ds : List PyData} {x : V} {d : PyData}, DxAll H xs ds → Dx H x d → DxAll H (xs ++ [x]) (ds ++ [d])
  | [], [], _, _, _, h => .cons h .nil
  | [], _ :: _, _, _, h, _ => by cases h
  | _ :: _, [], _, _, h, _ => by cases h
  | _ :: _, _ :: _, _, _, .cons a r, h => .cons a (dxall_snoc r h)
theorem none_of {H0 H1 : Hp} {b : Addr} (k : Same H0 H1) (n : H1 b = none) : H0 b = none := by
  cases h : H0 b with
  | none => rfl
  | some x => rw [k _ _ h] at n; cases n
theorem off_get {p b : Addr} {H : Hp} {o : HO} (e : Off p H b = some o) : b ≠ p ∧ H b = some o := by
  unfold Off at e
  split at e
  · cases e
  · exact ⟨by assumption, e⟩
theorem dxall_app {H : Hp} : ∀ {xs ys : List V} {ds es : List PyData}, DxAll H xs ds → DxAll H ys es → DxAll H (xs ++ ys) (ds ++ es)
  | _, _, _, _, .nil, h => h
  | _, _, _, _, .cons a r, h => .cons a (dxall_app r h)
theorem lc_map {J : It} {xs ys : List V} {G : Hp → Prop} (w : Walk J xs.length G (YAt xs)) {g : TG} {te : TE} {vs : List Nat} {σ : L2.St} {H1 : Hp} {D : Addr} {Qd : Hp → Prop} (nD : H1 D = none) (hG : ∀ H, Same H1 H → G H) (hl : ys.length = xs.length) (hn : xs.length ≤ 1000)
    (step : ∀ (i : Nat) (x y : V) (H2 : Hp) (k : V → Hp → Prop), xs[i]? = some x → ys[i]? = some y → Same H1 H2 → (∀ H4, Same H2 H4 → k y H4) → g x (wipe σ vs) H2 fun σ2 H3 => wipe σ2 vs = wipe σ vs ∧ te σ2 H3 k)
    (q : ∀ H', Same H1 H' → H' D = some (.lst ys) → Qd H') : LcD J g tYes te vs σ H1 D Qd := by
  refine lc_it w (fun i H2 => Same H1 (Off D H2) ∧ H2 D = some (.lst (ys.take i))) ⟨fun b o e => Off.at (ne_of_none e nD) (same_new nD _ _ e), upd_same⟩ (fun i H2 _ hh => hG H2 (fun b o e => Off.same _ _ (hh.1 b o e))) ?_ ?_
  · rintro i x H2 H2' hi ⟨sm, hD⟩ ⟨rfl, hxi⟩
    have hy : i < ys.length := by omega
    have e := step i x ys[i] H2' (fun y H4 => ∃ acc, H4 D = some (.lst acc) ∧ acc.length < sizeLine ∧ (Same H1 (Off D (upd H4 D (.lst (acc ++ [y])))) ∧ (upd H4 D (.lst (acc ++ [y]))) D = some (.lst (ys.take (i + 1))))) hxi (List.getElem?_eq_getElem hy) (fun b o e => Off.same _ _ (sm b o e)) (fun H4 s4 => ?_)
    · exact e
    · refine ⟨_, s4 _ _ hD, by rw [List.length_take]; exact small1000 (by omega), fun b o e => ?_, ?_⟩
      · have nb : b ≠ D := ne_of_none e nD
        exact Off.at nb (by rw [upd_ne nb]; exact s4 _ _ (Off.same _ _ (sm b o e)))
      · rw [upd_same, List.take_add_one, List.getElem?_eq_getElem hy]
        rfl
  · rintro H2 ⟨sm, hD⟩
    rw [← hl, List.take_length] at hD
    exact q H2 (fun b o e => Off.same _ _ (sm b o e)) hD
theorem dxall_at {H : Hp} {xs : List V} {α : Type} {as : List α} {d : α → PyData} (h : DxAll H xs (as.map d)) {i : Nat} {x : V} (hx : xs[i]? = some x) : ∃ (hi : i < as.length), Dx H x (d as[i]) := by
  have l := dxall_len h
  rw [List.length_map] at l
  have h1 := (List.getElem?_eq_some_iff.mp hx).1
  have hi : i < as.length := by omega
  obtain ⟨y, e1, e2⟩ := dxall_get (i := i) h (by rw [List.getElem?_map, List.getElem?_eq_getElem hi]; rfl)
  have exy : x = y := Option.some.inj (hx.symm.trans e1)
  subst exy
  exact ⟨hi, e2⟩
theorem Off.mono {l : Addr} {A B : Hp} (h : Same A B) : Same (Off l A) (Off l B) := fun b o e => by
  unfold Off at e
  by_cases z : b = l
  · rw [if_pos z] at e
    cases e
  · rw [if_neg z] at e
    exact Off.at z (h b o e)
theorem Off.ne {l b : Addr} {H : Hp} {o : HO} (e : Off l H b = some o) : b ≠ l := fun z => by
  unfold Off at e
  rw [if_pos z] at e
  cases e
/-! whole numbers -/
theorem lg {x : Int} (h : x.natAbs < 10 ^ 240) : x.natAbs.log2 < 900 := by
  by_cases e : x.natAbs = 0
  · rw [e]
    decide
  · exact (Nat.log2_lt e).mpr (Nat.lt_trans h (by decide))
theorem mulB {x y : Int} {i j : Nat} (hx : x.natAbs < 10 ^ i) (hy : y.natAbs < 10 ^ j) : (x * y).natAbs < 10 ^ (i + j) := by
  rw [Int.natAbs_mul, Nat.pow_add]
  exact Nat.mul_lt_mul'' hx hy
theorem addB {x y : Int} {k : Nat} (hx : x.natAbs < 10 ^ k) (hy : y.natAbs < 10 ^ k) : (x + y).natAbs < 10 ^ (k + 1) := by
  have : (x + y).natAbs ≤ x.natAbs + y.natAbs := Int.natAbs_add_le x y
  have e : 10 ^ (k + 1) = 10 * 10 ^ k := by rw [Nat.pow_succ, Nat.mul_comm]
  omega
theorem subB {x y : Int} {k : Nat} (hx : x.natAbs < 10 ^ k) (hy : y.natAbs < 10 ^ k) : (x - y).natAbs < 10 ^ (k + 1) := by
  have : (x - y).natAbs ≤ x.natAbs + y.natAbs := Int.natAbs_sub_le x y
  have e : 10 ^ (k + 1) = 10 * 10 ^ k := by rw [Nat.pow_succ, Nat.mul_comm]
  omega
theorem upB {x : Int} {i j : Nat} (h : x.natAbs < 10 ^ i) (l : i ≤ j) : x.natAbs < 10 ^ j := Nat.lt_of_lt_of_le h (Nat.pow_le_pow_right (by decide) l)
/-- lowest terms of u over l -/
structure Low (u l n d : Int) : Prop where
  pos : 0 < d
  cop : Nat.gcd n.natAbs d.natAbs = 1
  eq : n * l = u * d
  bn : n.natAbs ≤ u.natAbs
  bd : d.natAbs ≤ l.natAbs
def gcdI (a b : Int) : Int := ((Nat.gcd a.natAbs b.natAbs : Nat) : Int)
theorem gcd_step {a b : Int} (ha : 0 ≤ a) (hb : 0 < b) : gcdI b (a % b) = gcdI a b := by
  unfold gcdI
  have e : (a % b).natAbs = a.natAbs % b.natAbs := by
    rw [Int.natAbs_emod a (by omega), if_pos (.inl ha)]
  rw [e, Nat.gcd_comm, ← Nat.gcd_rec, Nat.gcd_comm]
theorem gcd_zero {a : Int} (ha : 0 ≤ a) : gcdI a 0 = a := by
  unfold gcdI
  rw [Int.natAbs_zero, Nat.gcd_zero_right]
  omega
theorem gcd_abs (a b : Int) : gcdI (a.natAbs : Int) (b.natAbs : Int) = gcdI a b := by
  unfold gcdI
  rw [Int.natAbs_natCast, Int.natAbs_natCast]
theorem low_of {u l : Int} (hl : l ≠ 0) {dv : Int} (hd : dv = if l < 0 then - gcdI u l else gcdI u l) : dv ≠ 0 ∧ Low u l (u.fdiv dv) (l.fdiv dv) := by
  have gp : 0 < Nat.gcd u.natAbs l.natAbs := Nat.gcd_pos_of_pos_right _ (by omega)
  obtain ⟨x, hx⟩ : ((Nat.gcd u.natAbs l.natAbs : Nat) : Int) ∣ u := Int.ofNat_dvd_left.mpr (Nat.gcd_dvd_left _ _)
  obtain ⟨y, hy⟩ : ((Nat.gcd u.natAbs l.natAbs : Nat) : Int) ∣ l := Int.ofNat_dvd_left.mpr (Nat.gcd_dvd_right _ _)
  have e1 : u.natAbs = Nat.gcd u.natAbs l.natAbs * x.natAbs := by
    have := congrArg Int.natAbs hx
    rwa [Int.natAbs_mul, Int.natAbs_natCast] at this
  have e2 : l.natAbs = Nat.gcd u.natAbs l.natAbs * y.natAbs := by
    have := congrArg Int.natAbs hy
    rwa [Int.natAbs_mul, Int.natAbs_natCast] at this
  have e3 : Nat.gcd x.natAbs y.natAbs = 1 := by
    have h := Nat.gcd_mul_left (Nat.gcd u.natAbs l.natAbs) x.natAbs y.natAbs
    rw [← e1, ← e2] at h
    exact Nat.eq_of_mul_eq_mul_left gp (by omega)
  unfold gcdI at hd
  generalize Nat.gcd u.natAbs l.natAbs = g at *
  have b1 : x.natAbs ≤ u.natAbs := by
    rw [e1]
    exact Nat.le_mul_of_pos_left _ gp
  have b2 : y.natAbs ≤ l.natAbs := by
    rw [e2]
    exact Nat.le_mul_of_pos_left _ gp
  have gi : (0 : Int) < (g : Int) := by omega
  by_cases c : l < 0
  · rw [if_pos c] at hd
    have dn : dv ≠ 0 := by omega
    have f1 : u.fdiv dv = -x := by
      have : u = dv * (-x) := by rw [hd, Int.neg_mul_neg]; exact hx
      rw [this]
      exact Int.mul_fdiv_cancel_left _ dn
    have f2 : l.fdiv dv = -y := by
      have : l = dv * (-y) := by rw [hd, Int.neg_mul_neg]; exact hy
      rw [this]
      exact Int.mul_fdiv_cancel_left _ dn
    have yn : y < 0 := by
      refine Int.not_le.mp fun h => ?_
      have := Int.mul_nonneg (Int.le_of_lt gi) h
      omega
    rw [f1, f2]
    refine ⟨dn, ⟨by omega, by rw [Int.natAbs_neg, Int.natAbs_neg]; exact e3, ?_, by rw [Int.natAbs_neg]; exact b1, by rw [Int.natAbs_neg]; exact b2⟩⟩
    rw [hx, hy]
    grind
  · rw [if_neg c] at hd
    have dn : dv ≠ 0 := by omega
    have f1 : u.fdiv dv = x := by
      rw [hd, hx]
      exact Int.mul_fdiv_cancel_left _ (by omega)
    have f2 : l.fdiv dv = y := by
      rw [hd, hy]
      exact Int.mul_fdiv_cancel_left _ (by omega)
    have yp : 0 < y := by
      refine Int.not_le.mp fun h => ?_
      have := Int.mul_nonpos_of_nonneg_of_nonpos (Int.le_of_lt gi) h
      omega
    rw [f1, f2]
    refine ⟨dn, ⟨yp, e3, ?_, b1, b2⟩⟩
    rw [hx, hy]
    grind
theorem low_plus {N D n1 d1 n2 d2 a b c d : Int} (h0 : 0 < d1) (h0' : 0 < d2) (h : N * (d1 * d2) = (n1 * d2 + n2 * d1) * D) (h1 : n1 * b = a * d1) (h2 : n2 * d = c * d2) : N * (b * d) = (a * d + c * b) * D := by
  have e : d1 * d2 * (N * (b * d)) = d1 * d2 * ((a * d + c * b) * D) := by grind
  exact Int.eq_of_mul_eq_mul_left (Int.ne_of_gt (Int.mul_pos h0 h0')) e
theorem low_minus {N D n1 d1 n2 d2 a b c d : Int} (h0 : 0 < d1) (h0' : 0 < d2) (h : N * (d1 * d2) = (n1 * d2 - n2 * d1) * D) (h1 : n1 * b = a * d1) (h2 : n2 * d = c * d2) : N * (b * d) = (a * d - c * b) * D := by
  have e : d1 * d2 * (N * (b * d)) = d1 * d2 * ((a * d - c * b) * D) := by grind
  exact Int.eq_of_mul_eq_mul_left (Int.ne_of_gt (Int.mul_pos h0 h0')) e
theorem low_times {N D n1 d1 n2 d2 a b c d : Int} (h0 : 0 < d1) (h0' : 0 < d2) (h : N * (d1 * d2) = (n1 * n2) * D) (h1 : n1 * b = a * d1) (h2 : n2 * d = c * d2) : N * (b * d) = (a * c) * D := by
  have e : d1 * d2 * (N * (b * d)) = d1 * d2 * ((a * c) * D) := by grind
  exact Int.eq_of_mul_eq_mul_left (Int.ne_of_gt (Int.mul_pos h0 h0')) e
theorem low_none {N D n d : Int} (h0 : 0 < d) (L : Low (n * d - n * d) (d * d) N D) : N = 0 ∧ D = 1 := by
  have e := L.eq
  rw [Int.sub_self, Int.zero_mul] at e
  have n0 : N = 0 := by
    rcases Int.mul_eq_zero.mp e with h | h
    · exact h
    · rcases Int.mul_eq_zero.mp h with h | h <;> omega
  have c := L.cop
  have p := L.pos
  rw [n0, Int.natAbs_zero, Nat.gcd_zero_left] at c
  exact ⟨n0, by omega⟩
/-! what is a fraction -/
def isW : PyData → Bool
  | .int _ => true
  | _ => false
def isFrac : PyData → Bool
  | .tuple [.int n, .int d] => decide (1 ≤ d) && decide (Nat.gcd n.natAbs d.natAbs = 1)
  | _ => false
def tyN : PyData → String
  | .none => "NoneType"
  | .bool _ => "bool"
  | .int _ => "int"
  | .str _ => "str"
  | .list _ => "list"
  | .tuple _ => "tuple"
  | .dict _ => "dict"
theorem ty_of {K : PySem.W.Frag} {H : Hp} {v : V} {d : PyData} (h : Dx H v d) : TyX K H v (.type (tyN d)) := by
  cases h with
  | non => exact .base .non
  | bl b => exact .base (.bl b)
  | int i => exact .base (.int i)
  | str x => exact .base (.str x)
  | lst e r => exact .base (.lst e)
  | tup e r n => exact .base (.tup e)
  | tupz e dn r n => exact .fTuple e
  | emp e => exact .base (.dK e)
theorem k_tuple (d : PyData) : kitB (tyN d) "tuple" = some (match d with | .tuple _ => true | _ => false) := by
  cases d <;> first | exact (by decide +kernel : kitB "NoneType" "tuple" = some false) | exact (by decide +kernel : kitB "bool" "tuple" = some false) | exact (by decide +kernel : kitB "int" "tuple" = some false) | exact (by decide +kernel : kitB "str" "tuple" = some false) | exact (by decide +kernel : kitB "list" "tuple" = some false) | exact (by decide +kernel : kitB "tuple" "tuple" = some true) | exact (by decide +kernel : kitB "dict" "tuple" = some false)
theorem k_int (d : PyData) : kitB (tyN d) "int" = some (match d with | .int _ => true | .bool _ => true | _ => false) := by
  cases d <;> first | exact (by decide +kernel : kitB "NoneType" "int" = some false) | exact (by decide +kernel : kitB "bool" "int" = some true) | exact (by decide +kernel : kitB "int" "int" = some true) | exact (by decide +kernel : kitB "str" "int" = some false) | exact (by decide +kernel : kitB "list" "int" = some false) | exact (by decide +kernel : kitB "tuple" "int" = some false) | exact (by decide +kernel : kitB "dict" "int" = some false)
theorem k_bool (d : PyData) : kitB (tyN d) "bool" = some (match d with | .bool _ => true | _ => false) := by
  cases d <;> first | exact (by decide +kernel : kitB "NoneType" "bool" = some false) | exact (by decide +kernel : kitB "bool" "bool" = some true) | exact (by decide +kernel : kitB "int" "bool" = some false) | exact (by decide +kernel : kitB "str" "bool" = some false) | exact (by decide +kernel : kitB "list" "bool" = some false) | exact (by decide +kernel : kitB "tuple" "bool" = some false) | exact (by decide +kernel : kitB "dict" "bool" = some false)
end Cw
namespace Cw
open PySem PySem.Spec PyProof.Rows L2
section
variable {X : Cx} {e : Expr} {es : List Expr} {te t' : TE} {t : TA} {pos : Pos} {d : PyData} {ds : List PyData} {kk : Nat}
/-- // by a divisor of less than nine thousand bits, not 0 -/
theorem op_fdivX : OpR X (binaryOp .FloorDiv) (rI (fun _ j => j ≠ 0 ∧ j.natAbs.log2 < 9000) fun i j => .int (i.fdiv j)) := opI fun _ _ _ _ _ _ _ hc q => floordiv_int hc.1 q (.inl (PyProof.noPylong_of_log2 hc.2))
theorem pe_imp (h : PE X e te) (k : ∀ σ H Q, t' σ H Q → te σ H Q) : PE X e t' := ⟨fun pins s σ H Q I z => h.run pins s σ H Q I (k σ H Q z)⟩
theorem pa_imp {t1 : TA} (h : PA X es t) (k : ∀ σ H Q, t1 σ H Q → t σ H Q) : PA X es t1 := ⟨fun pos pins s σ H Q I z => h.run pos pins s σ H Q I (k σ H Q z)⟩
/-- data told by a literal: all of it new -/
def tDat (d : PyData) : TE := fun _ H Q => ∀ v H', Same H H' → Dx (Nw H H') v d → Q v H'
def tDats (ds : List PyData) : TA := fun _ H Q => ∀ vs H', Same H H' → DxAll (Nw H H') vs ds → Q vs H'
theorem nw_r {A B C : Hp} (s : Same B C) : Same (Nw A B) (Nw A C) := fun b o e => by
  obtain ⟨e1, e2⟩ := Nw.get e
  exact Nw.at e1 (s _ _ e2)
theorem nw_l {A B C : Hp} (s : Same A B) : Same (Nw B C) (Nw A C) := fun b o e => by
  obtain ⟨e1, e2⟩ := Nw.get e
  exact Nw.at (none_of s e1) e2
theorem pe_dint {i : Int} : PE X (.Constant (.int i) kk pos) (tDat (.int i)) := pe_imp pe_int fun σ H Q h => h _ _ (fun _ _ e => e) (.int i)
theorem pe_dnon : PE X (.Constant .none kk pos) (tDat .none) := pe_imp pe_non fun σ H Q h => h _ _ (fun _ _ e => e) .non
theorem pe_dbl {b : Bool} : PE X (.Constant (.bool b) kk pos) (tDat (.bool b)) := pe_imp pe_bl fun σ H Q h => h _ _ (fun _ _ e => e) (.bl b)
theorem pe_dstr {z : Str} : PE X (.Constant (.str z) kk pos) (tDat (.str z)) := pe_imp pe_str fun σ H Q h => h _ _ (fun _ _ e => e) (.str z)
theorem pe_dneg {i : Int} {p2 : Pos} : PE X (.UnaryOp .USub (.Constant (.int i) kk p2) pos) (tDat (.int (-i))) := pe_imp (pe_un un_neg pe_int) fun σ H Q h => ⟨_, rfl, h _ _ (fun _ _ e => e) (.int _)⟩
theorem pe_ddict : PE X (.Dict [] [] pos) (tDat (.dict [])) := pe_imp pe_dnewK fun σ H Q h p n => h _ _ (same_new n) (.emp (Nw.at n upd_same))
theorem pa_dnil : PA X [] (tDats []) := pa_imp pa_nil fun σ H Q h => h _ _ (fun _ _ e => e) .nil
theorem pa_dcons (ha : PE X e (tDat d)) (hr : PA X es (tDats ds)) (hs : starEach (e :: es) X.env = (false, eval e X.env) :: starEach es X.env := by rfl) : PA X (e :: es) (tDats (d :: ds)) :=
  pa_imp (pa_cons ha hr hs) fun σ H Q h v H1 s1 d1 vs H2 s2 d2 => h (v :: vs) H2 (s1.trans s2) (.cons (Dx.same (nw_r s2) _ _ d1) (Dx.sameAll (nw_l s1) _ _ d2))
theorem dlen {H : Hp} {vs : List V} (h : DxAll H vs ds) (l : ds.length ≤ 1000) : vs.length ≤ sizeLine := by
  rw [dxall_len h]
  exact Nat.le_of_lt (small1000 l)
theorem pe_dtup {x1 : Nat} (h : PA X es (tDats ds)) (n : allTup ds = false := by rfl) (l : ds.length ≤ 1000 := by decide) : PE X (.Tuple es x1 pos) (tDat (.tuple ds)) :=
  pe_imp (pe_tup h) fun σ H Q q vs H1 s1 d1 => ⟨dlen d1 l, fun p np => q _ _ (s1.trans (same_new np)) (.tup (Nw.at (none_of s1 np) upd_same) (Dx.sameAll (nw_r (same_new np)) _ _ d1) n)⟩
theorem pe_dtupF {x1 : Nat} (h : PA X es (tDats ds)) (n : allTup ds = true := by rfl) (l : ds.length ≤ 1000 := by decide) : PE X (.Tuple es x1 pos) (tDat (.tuple ds)) :=
  pe_imp (pe_tupF h) fun σ H Q q vs H1 s1 d1 => ⟨dlen d1 l, fun p o np dn => q _ _ (s1.trans (same_new np)) (.tupz (Nw.at (none_of s1 np) upd_same) dn (Dx.sameAll (nw_r (same_new np)) _ _ d1) n)⟩
theorem pe_dtupZ {x1 : Nat} : PE X (.Tuple [] x1 pos) (tDat (.tuple [])) :=
  pe_imp pe_tupZ fun σ H Q q p o np dn => q _ _ (same_new np) (.tupz (Nw.at np upd_same) dn .nil rfl)
theorem pe_dlst (h : PA X es (tDats ds)) (l : ds.length ≤ 1000 := by decide) : PE X (.List es pos) (tDat (.list ds)) :=
  pe_imp (pe_lst h) fun σ H Q q vs H1 s1 d1 => ⟨dlen d1 l, fun p np => q _ _ (s1.trans (same_new np)) (.lst (Nw.at (none_of s1 np) upd_same) (Dx.sameAll (nw_r (same_new np)) _ _ d1))⟩
theorem call_reprN : CallR X (.builtin "repr") (fun xs H Q => xs = [.non] ∧ Q (.str "None") H) := by
  intro pins s σ H xs us Q I r h
  obtain ⟨rfl, q⟩ := h
  obtain ⟨u, rfl, r1⟩ := vals1 r
  cases r1
  exact PySem.P.repr_of_none ⟨.str _, H, I.tok _, ⟨_, rfl⟩, q⟩
/-- repr of any data -/
theorem call_reprA (hg : X.A.guards = some []) (hu : X.A.units + 64 < cLine) (hm : HasMods X.K) : CallR X (.builtin "repr") (fun xs H Q => ∃ (v : V) (d : PyData), xs = [v] ∧ Dx H v d ∧ d.showable = true ∧ d.depth ≤ 60 ∧ d.shown.length ≤ sizeLine ∧ Q (.str d.shown) H) := by
  intro pins s σ H xs us Q I r h
  obtain ⟨v, d, rfl, hd, hs, hdp, hz, q⟩ := h
  cases v with
  | str z =>
    cases hd
    obtain ⟨u, rfl, r1⟩ := vals1 r
    obtain ⟨t, rfl⟩ := r1
    exact PySem.P.repr_of_str ⟨.str (reprText z), H, I.tok _, ⟨_, rfl⟩, q⟩ hz
  | ref a => exact call_reprX hg hu hm pins s σ H [.ref a] us Q I r ⟨a, d, rfl, hd, hs, hdp, hz, q⟩
  | non =>
    cases hd
    exact call_reprN pins s σ H _ us Q I r ⟨rfl, q⟩
  | int i =>
    cases hd
    exact call_reprI pins s σ H _ us Q I r ⟨i, rfl, of_decide_eq_true hs, q⟩
  | bl b =>
    cases hd
    exact call_reprB pins s σ H _ us Q I r ⟨b, rfl, by cases b <;> exact q⟩
  | _ => cases hd
end
section
variable {P : Program} {w : World} {K : PySem.W.Frag} {mg : Str → Option Value} {base : Heap}
def spW : Sp := fun vs H Q _ => ∃ (v : V) (d : PyData), vs = [v] ∧ Dx H v d ∧ Q (.bl (isW d)) H
theorem ok_w {f : Addr} {fd : FuncData} (F : FnP K "is_whole" "is_whole" S_is_whole f fd) (B : Blt mg) : FnOk P w K mg base CX0 1 f fd P_is_whole spW := by
  have nd := sc_is_whole.nd
  refine F.ok sc_is_whole (fun vs H Q E h => ?_) (fun cdv A outer s H vs Q E hr h => ⟨_, PSs.nox (pss_one (ps_ret (pe_and (pe_callB call_isi (by rfl) B.isinstance_ (by decide +kernel) (pa_cons (pv 0) (pa_cons (pe_bltn (v := .ty "int") (u := .type "int") (by rfl) B.int_ (by decide +kernel) rfl) pa_nil))) (pe_one (pe_not (pe_callB call_isi (by rfl) B.isinstance_ (by decide +kernel) (pa_cons (pv 0) (pa_cons (pe_bltn (v := .ty "bool") (u := .type "bool") (by rfl) B.bool_ (by decide +kernel) rfl) pa_nil)))))))), ?_⟩)
  · obtain ⟨v, d, rfl, _⟩ := h
    rfl
  · obtain ⟨v, d, rfl, hd, q⟩ := h
    refine ⟨_, rfl, _, _, _, _, _, rfl, .ty _, ty_of hd, kit_ty (k_int d), _, rfl, ?_⟩
    have hb : ∀ b, (match d with | .bool _ => true | _ => false) = b → isW d = !b → (match d with | .int _ => true | .bool _ => true | _ => false) = true → True := fun _ _ _ _ => trivial
    cases d with
    | int i => exact iteT ⟨_, rfl, _, _, _, _, _, rfl, .ty _, ty_of hd, kit_ty (k_bool (.int i)), false, rfl, q⟩
    | bool b => exact iteT ⟨_, rfl, _, _, _, _, _, rfl, .ty _, ty_of hd, kit_ty (k_bool (.bool b)), true, rfl, q⟩
    | _ => exact iteF q
def tupN : PyData → Option (List PyData)
  | .tuple ds => some ds
  | _ => none
def spT (K : PySem.W.Frag) : Sp := fun vs H Q _ => ∃ (v : V) (d : PyData) (m : Int), vs = [v, .int m] ∧ Dx H v d ∧ Q (.bl (match d with | .tuple ds => decide ((ds.length : Int) = m) | _ => false)) H
theorem sq_of {H : Hp} {v : V} {ds : List PyData} (h : Dx H v (.tuple ds)) : ∃ a xs, v = .ref a ∧ SqT K H a xs ∧ DxAll H xs ds := by
  cases h with
  | tup e r n => exact ⟨_, _, rfl, SqT.of e, r⟩
  | tupz e dn r n => exact ⟨_, _, rfl, .inl (.inr ⟨_, e⟩), r⟩
theorem ok_t {f : Addr} {fd : FuncData} (F : FnP K "is_tuple_of" "is_tuple_of" S_is_tuple_of f fd) (B : Blt mg) : FnOk P w K mg base CX0 1 f fd P_is_tuple_of (spT K) := by
  have nd := sc_is_tuple_of.nd
  refine F.ok sc_is_tuple_of (fun vs H Q E h => ?_) (fun cdv A outer s H vs Q E hr h => ⟨_, PSs.nox (pss_one (ps_ret (pe_and (pe_callB call_isi (by rfl) B.isinstance_ (by decide +kernel) (pa_cons (pv 0) (pa_cons (pe_bltn (v := .ty "tuple") (u := .type "tuple") (by rfl) B.tuple_ (by decide +kernel) rfl) pa_nil))) (pe_one (pe_cmpR op_eq (pe_callB call_len_seq (by rfl) B.len_ PySem.boot_len (pa_cons (pv 0) pa_nil)) (pv 1) (nomark _)))))), ?_⟩)
  · obtain ⟨v, d, m, rfl, _⟩ := h
    rfl
  · obtain ⟨v, d, m, rfl, hd, q⟩ := h
    refine ⟨_, rfl, _, _, _, _, _, rfl, .ty _, ty_of hd, kit_ty (k_tuple d), _, rfl, ?_⟩
    cases d with
    | tuple ds =>
      obtain ⟨a, xs, rfl, hs, hx⟩ := sq_of (K := K) hd
      have l := dxall_len hx
      refine iteT ⟨_, rfl, a, xs, rfl, .inr hs, _, rfl, rfl, ?_⟩
      show Q (.bl (decide (V.int xs.length = V.int m))) H
      rw [l, show decide (V.int (ds.length : Int) = V.int m) = decide ((ds.length : Int) = m) from by simp]
      exact q
    | _ => exact iteF q
end
end Cw
namespace Cw
open PySem PySem.Spec PyProof.Rows L2
section
variable {P : Program} {w : World} {K : PySem.W.Frag} {mg : Str → Option Value} {base : Heap}
theorem abs_abs (x : Int) : (if x < 0 then -x else x).natAbs = x.natAbs := by split <;> omega
theorem gcd_abs2 (u l : Int) : gcdI (if u < 0 then -u else u) (if l < 0 then -l else l) = gcdI u l := by
  unfold gcdI
  rw [abs_abs, abs_abs]
def spG : Sp := fun vs H Q _ => ∃ a b : Int, vs = [.int a, .int b] ∧ 0 ≤ a ∧ 0 ≤ b ∧ Q (.int (gcdI a b)) H
theorem ok_g {f : Addr} {fd : FuncData} (F : FnP K "greatest_divisor" "greatest_divisor" S_greatest_divisor f fd)  : FnOk P w K mg base CX0 1 f fd P_greatest_divisor spG := by
  have nd := sc_greatest_divisor.nd
  refine F.ok sc_greatest_divisor (fun vs H Q E h => ?_) (fun cdv A outer s H vs Q E hr h => ⟨_, PSs.nox (C8.pss_cut (ps_while PassesOwn.never (pt_cmpR op_gt (pv 1) pe_int (nomark _))
      (pss_one (ps_par (i := 0) (j := 1) (by rfl) nd rfl rfl (by decide) rfl rfl (pa_cons (pv 1) (pa_cons (pe_op op_mod (pv 0) (pv 1)) pa_nil)) (by rfl))))
     (pss_one (ps_ret (pv 0)))), ?_⟩)
  · obtain ⟨a, b, rfl, _⟩ := h
    rfl
  · obtain ⟨a, b, rfl, ha, hb, q⟩ := h
    rw [show L2.start N_greatest_divisor [V.int a, V.int b] = [some (.int a), some (.int b)] from rfl]
    refine ⟨fun σ H' => σ = [some (.int (gcdI a b)), some (.int 0)] ∧ H' = H, ?_, ?_⟩
    · refine ⟨fun m σ H' => ∃ x y : Int, σ = [some (.int x), some (.int y)] ∧ H' = H ∧ 0 ≤ x ∧ 0 ≤ y ∧ gcdI x y = gcdI a b ∧ y.toNat = m, ⟨_, a, b, rfl, rfl, ha, hb, rfl, rfl⟩, ?_⟩
      rintro m σ H' ⟨x, y, rfl, rfl, x0, y0, g, rfl⟩
      refine ⟨_, rfl, _, _, rfl, rfl, _, rfl, ite2 (fun e => ?_) (fun e => ?_)⟩
      · have y1 : 0 < y := of_decide_eq_true e
        have r0 := Int.emod_nonneg x (show y ≠ 0 by omega)
        have r1 := Int.emod_lt_of_pos x y1
        refine ⟨fun σ' H'' => σ' = [some (.int y), some (.int (x % y))] ∧ H'' = H', fun σ' H'' ⟨e1, e2⟩ => ⟨(x % y).toNat, by omega, y, x % y, e1, e2, y0, r0, (gcd_step x0 y1).trans g, rfl⟩, ?_⟩
        exact ⟨_, rfl, _, rfl, _, rfl, _, _, rfl, rfl, y1, _, _, rfl, rfl, rfl⟩
      · have y1 : y = 0 := by
          have : ¬ 0 < y := fun h => e (decide_eq_true h)
          omega
        subst y1
        rw [← g, gcd_zero x0]
        exact ⟨rfl, rfl⟩
    · rintro σ H' ⟨rfl, rfl⟩
      exact ⟨_, rfl, q⟩
def spF : Sp := fun vs H Q _ => ∃ u l : Int, vs = [.int u, .int l] ∧ l ≠ 0 ∧ u.natAbs < 10 ^ 240 ∧ l.natAbs < 10 ^ 240 ∧ ∀ n d c, Low u l n d → H c = none → Q (.ref c) (upd H c (.tup [.int n, .int d]))
theorem ok_f {f : Addr} {fd : FuncData} (F : FnP K "fraction" "fraction" S_fraction f fd) (H_greatest_divisor : Has P w K mg base "greatest_divisor" S_greatest_divisor 1 P_greatest_divisor spG) (B : Blt mg) : FnOk P w K mg base CX0 2 f fd P_fraction spF := by
  obtain ⟨f_greatest_divisor, fd_greatest_divisor, F_greatest_divisor, b_greatest_divisor, G_greatest_divisor, g_greatest_divisor⟩ := H_greatest_divisor
  have nd := sc_fraction.nd
  refine F.ok sc_fraction (fun vs H Q E h => ?_) (fun cdv A outer s H vs Q E hr h => ⟨_, PSs.nox (pss_cons (ps_set (i := 2) nd rfl (.inl rfl) (pe_call G_greatest_divisor (hr.mono (by first | decide | omega)) rfl g_greatest_divisor F_greatest_divisor.kp b_greatest_divisor .nil pass0 (pa_cons (pe_callB call_abs (by rfl) B.abs_ (by decide +kernel) (pa_cons (pv 0) pa_nil)) (pa_cons (pe_callB call_abs (by rfl) B.abs_ (by decide +kernel) (pa_cons (pv 1) pa_nil)) pa_nil))))
     (C8.pss_cut (ps_if (pt_cmpR op_lt (pv 1) pe_int (nomark _)) (pss_one (ps_set (i := 2) nd rfl (.inl rfl) (pe_un un_neg (pv 2)))) pss_nil)
     (pss_one (ps_ret (pe_tup (pa_cons (pe_op op_fdivX (pv 0) (pv 2)) (pa_cons (pe_op op_fdivX (pv 1) (pv 2)) pa_nil))))))), ?_⟩)
  · obtain ⟨u, l, rfl, _⟩ := h
    rfl
  · obtain ⟨u, l, rfl, l0, bu, bl, q⟩ := h
    rw [show L2.start N_fraction [V.int u, V.int l] = [some (.int u), some (.int l), none] from rfl]
    refine ⟨_, rfl, _, rfl, _, rfl, _, rfl, _, _, rfl, by omega, by omega, ?_⟩
    rw [gcd_abs2]
    refine ⟨fun σ H' => σ = [some (.int u), some (.int l), some (.int (if l < 0 then - gcdI u l else gcdI u l))] ∧ H' = H, ?_, ?_⟩
    · refine ⟨_, rfl, _, _, rfl, rfl, _, rfl, ite2 (fun e => ?_) (fun e => ?_)⟩
      · have c : l < 0 := of_decide_eq_true e
        rw [if_pos c]
        exact ⟨_, rfl, _, rfl, rfl, rfl⟩
      · have c : ¬ l < 0 := fun h => e (decide_eq_true h)
        rw [if_neg c]
        exact ⟨rfl, rfl⟩
    · rintro σ H' ⟨rfl, rfl⟩
      obtain ⟨dn, L⟩ := low_of (u := u) l0 rfl
      have gl : (gcdI u l).natAbs ≤ l.natAbs := by
        unfold gcdI
        rw [Int.natAbs_natCast]
        exact Nat.gcd_le_right _ (by omega)
      have db : (if l < 0 then - gcdI u l else gcdI u l).natAbs.log2 < 9000 := by
        refine Nat.lt_trans (lg (Nat.lt_of_le_of_lt ?_ bl)) (by decide)
        split
        · rw [Int.natAbs_neg]
          exact gl
        · exact gl
      generalize (if l < 0 then - gcdI u l else gcdI u l) = dv at dn L db ⊢
      exact ⟨_, rfl, _, rfl, _, _, rfl, rfl, ⟨dn, db⟩, _, rfl, _, rfl, _, _, rfl, rfl, ⟨dn, db⟩, by show 2 ≤ sizeLine; decide, fun c nc => q _ _ c L nc⟩
theorem cm {x y : Int} (hx : x.natAbs < 10 ^ 240) (hy : y.natAbs < 10 ^ 240) : CMulW x y := by
  have := lg hx
  have := lg hy
  unfold CMulW
  omega
/-- two fractions, and what is told of them -/
def Fr (H : Hp) (a : Addr) (n d : Int) : Prop := H a = some (.tup [.int n, .int d])
def spPl : Sp := fun vs H Q _ => ∃ (a b : Addr) (n1 d1 n2 d2 : Int), vs = [.ref a, .ref b] ∧ Fr H a n1 d1 ∧ Fr H b n2 d2 ∧ 0 < d1 ∧ 0 < d2 ∧ n1.natAbs < 10 ^ 31 ∧ d1.natAbs < 10 ^ 31 ∧ n2.natAbs < 10 ^ 31 ∧ d2.natAbs < 10 ^ 31 ∧
  ∀ n d c, Low (n1 * d2 + n2 * d1) (d1 * d2) n d → H c = none → Q (.ref c) (upd H c (.tup [.int n, .int d]))
def spMi : Sp := fun vs H Q _ => ∃ (a b : Addr) (n1 d1 n2 d2 : Int), vs = [.ref a, .ref b] ∧ Fr H a n1 d1 ∧ Fr H b n2 d2 ∧ 0 < d1 ∧ 0 < d2 ∧ n1.natAbs < 10 ^ 31 ∧ d1.natAbs < 10 ^ 31 ∧ n2.natAbs < 10 ^ 31 ∧ d2.natAbs < 10 ^ 31 ∧
  ∀ n d c, Low (n1 * d2 - n2 * d1) (d1 * d2) n d → H c = none → Q (.ref c) (upd H c (.tup [.int n, .int d]))
def spTi : Sp := fun vs H Q _ => ∃ (a b : Addr) (n1 d1 n2 d2 : Int), vs = [.ref a, .ref b] ∧ Fr H a n1 d1 ∧ Fr H b n2 d2 ∧ 0 < d1 ∧ 0 < d2 ∧ n1.natAbs < 10 ^ 31 ∧ d1.natAbs < 10 ^ 31 ∧ n2.natAbs < 10 ^ 31 ∧ d2.natAbs < 10 ^ 31 ∧
  ∀ n d c, Low (n1 * n2) (d1 * d2) n d → H c = none → Q (.ref c) (upd H c (.tup [.int n, .int d]))
def spLs : Sp := fun vs H Q _ => ∃ (a b : Addr) (n1 d1 n2 d2 : Int), vs = [.ref a, .ref b] ∧ Fr H a n1 d1 ∧ Fr H b n2 d2 ∧ n1.natAbs < 10 ^ 31 ∧ d1.natAbs < 10 ^ 31 ∧ n2.natAbs < 10 ^ 31 ∧ d2.natAbs < 10 ^ 31 ∧ Q (.bl (decide (n1 * d2 < n2 * d1))) H
theorem pos2 {d1 d2 : Int} (h1 : 0 < d1) (h2 : 0 < d2) : d1 * d2 ≠ 0 := Int.ne_of_gt (Int.mul_pos h1 h2)
theorem ok_pl {f : Addr} {fd : FuncData} (F : FnP K "plus" "plus" S_plus f fd) (H_fraction : Has P w K mg base "fraction" S_fraction 2 P_fraction spF) : FnOk P w K mg base CX0 3 f fd P_plus spPl := by
  obtain ⟨f_fraction, fd_fraction, F_fraction, b_fraction, G_fraction, g_fraction⟩ := H_fraction
  have nd := sc_plus.nd
  refine F.ok sc_plus (fun vs H Q E h => ?_) (fun cdv A outer s H vs Q E hr h => ⟨_, PSs.nox (pss_one (ps_ret (pe_call G_fraction (hr.mono (by first | decide | omega)) rfl g_fraction F_fraction.kp b_fraction .nil pass0 (pa_cons (pe_op op_add (pe_op op_mulW (pe_ix ix_tup (pv 0) pe_int (fun _ _ => rfl)) (pe_ix ix_tup (pv 1) pe_int (fun _ _ => rfl))) (pe_op op_mulW (pe_ix ix_tup (pv 1) pe_int (fun _ _ => rfl)) (pe_ix ix_tup (pv 0) pe_int (fun _ _ => rfl)))) (pa_cons (pe_op op_mulW (pe_ix ix_tup (pv 0) pe_int (fun _ _ => rfl)) (pe_ix ix_tup (pv 1) pe_int (fun _ _ => rfl))) pa_nil))))), ?_⟩)
  · obtain ⟨a, b, n1, d1, n2, d2, rfl, _⟩ := h
    rfl
  · obtain ⟨a, b, n1, d1, n2, d2, rfl, ha, hb, p1, p2, b1, b2, b3, b4, q⟩ := h
    have w : ∀ {x : Int}, x.natAbs < 10 ^ 31 → x.natAbs < 10 ^ 240 := fun h => upB h (by decide)
    refine ⟨_, rfl, a, _, 0, _, rfl, rfl, SqT.of ha, atI_int (by decide) rfl, _, rfl, b, _, 1, _, rfl, rfl, SqT.of hb, atI_int (by decide) rfl, _, _, rfl, rfl, cm (w b1) (w b4), ?_⟩
    refine ⟨_, rfl, b, _, 0, _, rfl, rfl, SqT.of hb, atI_int (by decide) rfl, _, rfl, a, _, 1, _, rfl, rfl, SqT.of ha, atI_int (by decide) rfl, _, _, rfl, rfl, cm (w b3) (w b2), ?_⟩
    refine ⟨_, _, rfl, rfl, ?_⟩
    refine ⟨_, rfl, a, _, 1, _, rfl, rfl, SqT.of ha, atI_int (by decide) rfl, _, rfl, b, _, 1, _, rfl, rfl, SqT.of hb, atI_int (by decide) rfl, _, _, rfl, rfl, cm (w b2) (w b4), ?_⟩
    exact ⟨_, _, rfl, pos2 p1 p2, upB (addB (mulB b1 b4) (mulB b3 b2)) (by decide), upB (mulB b2 b4) (by decide), q⟩
theorem ok_mi {f : Addr} {fd : FuncData} (F : FnP K "minus" "minus" S_minus f fd) (H_fraction : Has P w K mg base "fraction" S_fraction 2 P_fraction spF) : FnOk P w K mg base CX0 3 f fd P_minus spMi := by
  obtain ⟨f_fraction, fd_fraction, F_fraction, b_fraction, G_fraction, g_fraction⟩ := H_fraction
  have nd := sc_minus.nd
  refine F.ok sc_minus (fun vs H Q E h => ?_) (fun cdv A outer s H vs Q E hr h => ⟨_, PSs.nox (pss_one (ps_ret (pe_call G_fraction (hr.mono (by first | decide | omega)) rfl g_fraction F_fraction.kp b_fraction .nil pass0 (pa_cons (pe_op op_sub (pe_op op_mulW (pe_ix ix_tup (pv 0) pe_int (fun _ _ => rfl)) (pe_ix ix_tup (pv 1) pe_int (fun _ _ => rfl))) (pe_op op_mulW (pe_ix ix_tup (pv 1) pe_int (fun _ _ => rfl)) (pe_ix ix_tup (pv 0) pe_int (fun _ _ => rfl)))) (pa_cons (pe_op op_mulW (pe_ix ix_tup (pv 0) pe_int (fun _ _ => rfl)) (pe_ix ix_tup (pv 1) pe_int (fun _ _ => rfl))) pa_nil))))), ?_⟩)
  · obtain ⟨a, b, n1, d1, n2, d2, rfl, _⟩ := h
    rfl
  · obtain ⟨a, b, n1, d1, n2, d2, rfl, ha, hb, p1, p2, b1, b2, b3, b4, q⟩ := h
    have w : ∀ {x : Int}, x.natAbs < 10 ^ 31 → x.natAbs < 10 ^ 240 := fun h => upB h (by decide)
    refine ⟨_, rfl, a, _, 0, _, rfl, rfl, SqT.of ha, atI_int (by decide) rfl, _, rfl, b, _, 1, _, rfl, rfl, SqT.of hb, atI_int (by decide) rfl, _, _, rfl, rfl, cm (w b1) (w b4), ?_⟩
    refine ⟨_, rfl, b, _, 0, _, rfl, rfl, SqT.of hb, atI_int (by decide) rfl, _, rfl, a, _, 1, _, rfl, rfl, SqT.of ha, atI_int (by decide) rfl, _, _, rfl, rfl, cm (w b3) (w b2), ?_⟩
    refine ⟨_, _, rfl, rfl, ?_⟩
    refine ⟨_, rfl, a, _, 1, _, rfl, rfl, SqT.of ha, atI_int (by decide) rfl, _, rfl, b, _, 1, _, rfl, rfl, SqT.of hb, atI_int (by decide) rfl, _, _, rfl, rfl, cm (w b2) (w b4), ?_⟩
    exact ⟨_, _, rfl, pos2 p1 p2, upB (subB (mulB b1 b4) (mulB b3 b2)) (by decide), upB (mulB b2 b4) (by decide), q⟩
theorem ok_ti {f : Addr} {fd : FuncData} (F : FnP K "times" "times" S_times f fd) (H_fraction : Has P w K mg base "fraction" S_fraction 2 P_fraction spF) : FnOk P w K mg base CX0 3 f fd P_times spTi := by
  obtain ⟨f_fraction, fd_fraction, F_fraction, b_fraction, G_fraction, g_fraction⟩ := H_fraction
  have nd := sc_times.nd
  refine F.ok sc_times (fun vs H Q E h => ?_) (fun cdv A outer s H vs Q E hr h => ⟨_, PSs.nox (pss_one (ps_ret (pe_call G_fraction (hr.mono (by first | decide | omega)) rfl g_fraction F_fraction.kp b_fraction .nil pass0 (pa_cons (pe_op op_mulW (pe_ix ix_tup (pv 0) pe_int (fun _ _ => rfl)) (pe_ix ix_tup (pv 1) pe_int (fun _ _ => rfl))) (pa_cons (pe_op op_mulW (pe_ix ix_tup (pv 0) pe_int (fun _ _ => rfl)) (pe_ix ix_tup (pv 1) pe_int (fun _ _ => rfl))) pa_nil))))), ?_⟩)
  · obtain ⟨a, b, n1, d1, n2, d2, rfl, _⟩ := h
    rfl
  · obtain ⟨a, b, n1, d1, n2, d2, rfl, ha, hb, p1, p2, b1, b2, b3, b4, q⟩ := h
    have w : ∀ {x : Int}, x.natAbs < 10 ^ 31 → x.natAbs < 10 ^ 240 := fun h => upB h (by decide)
    refine ⟨_, rfl, a, _, 0, _, rfl, rfl, SqT.of ha, atI_int (by decide) rfl, _, rfl, b, _, 0, _, rfl, rfl, SqT.of hb, atI_int (by decide) rfl, _, _, rfl, rfl, cm (w b1) (w b3), ?_⟩
    refine ⟨_, rfl, a, _, 1, _, rfl, rfl, SqT.of ha, atI_int (by decide) rfl, _, rfl, b, _, 1, _, rfl, rfl, SqT.of hb, atI_int (by decide) rfl, _, _, rfl, rfl, cm (w b2) (w b4), ?_⟩
    exact ⟨_, _, rfl, pos2 p1 p2, upB (mulB b1 b3) (by decide), upB (mulB b2 b4) (by decide), q⟩
theorem ok_ls {f : Addr} {fd : FuncData} (F : FnP K "is_less" "is_less" S_is_less f fd)  : FnOk P w K mg base CX0 1 f fd P_is_less spLs := by
  have nd := sc_is_less.nd
  refine F.ok sc_is_less (fun vs H Q E h => ?_) (fun cdv A outer s H vs Q E hr h => ⟨_, PSs.nox (pss_one (ps_ret (pe_cmpR op_lt (pe_op op_mulW (pe_ix ix_tup (pv 0) pe_int (fun _ _ => rfl)) (pe_ix ix_tup (pv 1) pe_int (fun _ _ => rfl))) (pe_op op_mulW (pe_ix ix_tup (pv 1) pe_int (fun _ _ => rfl)) (pe_ix ix_tup (pv 0) pe_int (fun _ _ => rfl))) (nomark _)))), ?_⟩)
  · obtain ⟨a, b, n1, d1, n2, d2, rfl, _⟩ := h
    rfl
  · obtain ⟨a, b, n1, d1, n2, d2, rfl, ha, hb, b1, b2, b3, b4, q⟩ := h
    have w : ∀ {x : Int}, x.natAbs < 10 ^ 31 → x.natAbs < 10 ^ 240 := fun h => upB h (by decide)
    refine ⟨_, rfl, a, _, 0, _, rfl, rfl, SqT.of ha, atI_int (by decide) rfl, _, rfl, b, _, 1, _, rfl, rfl, SqT.of hb, atI_int (by decide) rfl, _, _, rfl, rfl, cm (w b1) (w b4), ?_⟩
    refine ⟨_, rfl, b, _, 0, _, rfl, rfl, SqT.of hb, atI_int (by decide) rfl, _, rfl, a, _, 1, _, rfl, rfl, SqT.of ha, atI_int (by decide) rfl, _, _, rfl, rfl, cm (w b3) (w b2), ?_⟩
    exact ⟨_, _, rfl, rfl, q⟩
end
end Cw
namespace Cw
open PySem PySem.Spec PyProof.Rows L2
theorem isFrac_no {x y : PyData} (h : isW x = false ∨ isW y = false) : isFrac (.tuple [x, y]) = false := by
  rcases h with h | h
  · cases x <;> first | rfl | (exact absurd h (by simp [isW]))
  · cases x <;> first | rfl | (cases y <;> first | rfl | (exact absurd h (by simp [isW])))
theorem isW_int {x : PyData} (h : isW x = true) : ∃ n, x = .int n := by
  cases x <;> first | exact ⟨_, rfl⟩ | (exact absurd h (by simp [isW]))
theorem isFrac_int (n l : Int) : isFrac (.tuple [.int n, .int l]) = (decide (1 ≤ l) && decide (Nat.gcd n.natAbs l.natAbs = 1)) := rfl
theorem dx2 {H : Hp} {xs : List V} {x y : PyData} (h : DxAll H xs [x, y]) : ∃ u v, xs = [u, v] ∧ Dx H u x ∧ Dx H v y := by
  cases h with
  | cons h1 h =>
    cases h with
    | cons h2 h =>
      cases h
      exact ⟨_, _, rfl, h1, h2⟩
theorem two_of {ds : List PyData} (l : (ds.length : Int) = 2) : ∃ x y, ds = [x, y] := by
  match ds, l with
  | [x, y], _ => exact ⟨x, y, rfl⟩
  | [], l => simp at l
  | [_], l => simp at l
  | _ :: _ :: _ :: _, l => simp only [List.length_cons] at l; omega
theorem isFrac_len {ds : List PyData} (l : ¬ (ds.length : Int) = 2) : isFrac (.tuple ds) = false := by
  match ds, l with
  | [x, y], l => exact absurd rfl l
  | [], _ => simp [isFrac]
  | [x], _ => cases x <;> simp [isFrac]
  | x :: y :: _ :: _, _ => cases x <;> cases y <;> simp [isFrac]
theorem gcd_one (n l : Int) : decide (V.int (gcdI n l) = V.int 1) = decide (Nat.gcd n.natAbs l.natAbs = 1) := by
  unfold gcdI
  refine decide_eq_decide.mpr ⟨fun h => ?_, fun h => ?_⟩
  · have := V.int.inj h
    omega
  · rw [h]
    rfl
theorem SqT.same {K : PySem.W.Frag} {H H' : Hp} {a : Addr} {xs : List V} (h : SqT K H a xs) (k : Same H H') : SqT K H' a xs := by
  rcases h with (h | ⟨o, h⟩) | h
  · exact .inl (.inl (k _ _ h))
  · exact .inl (.inr ⟨o, k _ _ h⟩)
  · exact .inr h
theorem call_isiK {X : Cx} {K : PySem.W.Frag} (h : X.K = K) : CallR X (.builtin "isinstance") (rIsi K) := by
  subst h
  exact call_isi
section
variable {P : Program} {w : World} {K : PySem.W.Frag} {mg : Str → Option Value} {base : Heap}
def spIF : Sp := fun vs H Q _ => ∃ (v : V) (d : PyData), vs = [v] ∧ Dx H v d ∧ Q (.bl (isFrac d)) H
theorem ok_if {f : Addr} {fd : FuncData} (F : FnP K "is_fraction" "is_fraction" S_is_fraction f fd) (H_is_whole : Has P w K mg base "is_whole" S_is_whole 1 P_is_whole spW) (H_is_tuple_of : Has P w K mg base "is_tuple_of" S_is_tuple_of 1 P_is_tuple_of (spT K)) (H_greatest_divisor : Has P w K mg base "greatest_divisor" S_greatest_divisor 1 P_greatest_divisor spG) (B : Blt mg) : FnOk P w K mg base CX0 2 f fd P_is_fraction spIF := by
  obtain ⟨f_is_tuple_of, fd_is_tuple_of, F_is_tuple_of, b_is_tuple_of, G_is_tuple_of, g_is_tuple_of⟩ := H_is_tuple_of
  obtain ⟨f_is_whole, fd_is_whole, F_is_whole, b_is_whole, G_is_whole, g_is_whole⟩ := H_is_whole
  obtain ⟨f_greatest_divisor, fd_greatest_divisor, F_greatest_divisor, b_greatest_divisor, G_greatest_divisor, g_greatest_divisor⟩ := H_greatest_divisor
  have nd := sc_is_fraction.nd
  refine F.ok sc_is_fraction (fun vs H Q E h => ?_) (fun cdv A outer s H vs Q E hr h => ⟨_, PSs.nox (C8.pss_cut (ps_if (pt_not (pt_val (pe_call G_is_tuple_of (hr.mono (by first | decide | omega)) rfl g_is_tuple_of F_is_tuple_of.kp b_is_tuple_of .nil pass0 (pa_cons (pv 0) (pa_cons pe_int pa_nil))))) (pss_one (ps_ret pe_bl)) pss_nil)
     (pss_cons (ps_asg (pv 0) (pg_tup (by rfl) (pgs_cons (pg_name (i := 1) nd rfl (.inl rfl)) (pgs_cons (pg_name (i := 2) nd rfl (.inl rfl)) pgs_nil))))
     (C8.pss_cut (ps_if (PW.pt (pw_or (pt_not (pt_val (pe_call G_is_whole (hr.mono (by first | decide | omega)) rfl g_is_whole F_is_whole.kp b_is_whole .nil pass0 (pa_cons (pv 1) pa_nil)))) (pw_or (pt_not (pt_val (pe_call G_is_whole (hr.mono (by first | decide | omega)) rfl g_is_whole F_is_whole.kp b_is_whole .nil pass0 (pa_cons (pv 2) pa_nil)))) (pw_or1 (pt_cmpR op_lt (pv 2) pe_int (nomark _)))))) (pss_one (ps_ret pe_bl)) pss_nil)
     (pss_one (ps_ret (pe_cmpR op_eq (pe_call G_greatest_divisor (hr.mono (by first | decide | omega)) rfl g_greatest_divisor F_greatest_divisor.kp b_greatest_divisor .nil pass0 (pa_cons (pe_callB call_abs (by rfl) B.abs_ (by decide +kernel) (pa_cons (pv 1) pa_nil)) (pa_cons (pv 2) pa_nil))) pe_int (nomark _))))))), ?_⟩)
  · obtain ⟨v, d, rfl, _⟩ := h
    rfl
  · obtain ⟨v, d, rfl, hd, q⟩ := h
    rw [show L2.start N_is_fraction [v] = [some v, none, none] from rfl]
    refine ⟨fun σ H' => (∃ x y, d = .tuple [x, y]) ∧ σ = [some v, none, none] ∧ H' = H, ?_, ?_⟩
    · refine ⟨_, rfl, v, d, 2, rfl, hd, _, rfl, ?_⟩
      cases d with
      | tuple ds =>
        by_cases l : (ds.length : Int) = 2
        · obtain ⟨x, y, rfl⟩ := two_of l
          exact iteF ⟨⟨x, y, rfl⟩, rfl, rfl⟩
        · rw [isFrac_len l] at q
          show (if (!decide ((ds.length : Int) = 2)) = true then _ else _)
          rw [decide_eq_false l]
          exact iteT q
      | _ => exact iteT q
    · rintro σ H' ⟨⟨x, y, rfl⟩, rfl, rfl⟩
      obtain ⟨a, xs, rfl, hs, hx⟩ := sq_of (K := K) hd
      obtain ⟨u, v, rfl, hu, hv⟩ := dx2 hx
      refine ⟨_, rfl, a, _, rfl, hs, rfl, _, _, rfl, _, _, rfl, rfl, ?_⟩
      refine ⟨fun σ H'' => (∃ n l, x = .int n ∧ y = .int l ∧ 1 ≤ l) ∧ σ = [some (.ref a), some u, some v] ∧ H'' = H', ?_, ?_⟩
      · refine ⟨_, rfl, u, x, rfl, hu, _, rfl, ?_⟩
        cases wx : isW x with
        | false =>
          rw [isFrac_no (.inl wx)] at q
          exact iteT (iteT q)
        | true =>
          obtain ⟨n, rfl⟩ := isW_int wx
          refine iteF ⟨_, rfl, v, y, rfl, hv, _, rfl, ?_⟩
          cases wy : isW y with
          | false =>
            rw [isFrac_no (.inr wy)] at q
            exact iteT (iteT q)
          | true =>
            obtain ⟨l, rfl⟩ := isW_int wy
            cases hv
            refine iteF ⟨_, rfl, _, _, rfl, rfl, _, rfl, ite2 (fun e => ?_) (fun e => ?_)⟩
            · have c : l < 1 := of_decide_eq_true e
              rw [isFrac_int, decide_eq_false (show ¬ 1 ≤ l by omega)] at q
              exact q
            · have c : ¬ l < 1 := fun h => e (decide_eq_true h)
              exact ⟨⟨n, l, rfl, rfl, by omega⟩, rfl, rfl⟩
      · rintro σ H'' ⟨⟨n, l, rfl, rfl, l1⟩, rfl, rfl⟩
        cases hu
        cases hv
        refine ⟨_, rfl, _, rfl, _, rfl, _, _, rfl, by split <;> omega, by omega, rfl, ?_⟩
        rw [isFrac_int, decide_eq_true l1, Bool.true_and, ← gcd_one] at q
        rw [show gcdI (if n < 0 then -n else n) l = gcdI n l from by unfold gcdI; rw [abs_abs]]
        exact q
def spSh : Sp := fun vs H Q _ => ∃ a b : Int, vs = [.int a, .int b] ∧ Q (.int (gcdI a b)) H
theorem ok_sh {f : Addr} {fd : FuncData} (F : FnP K "_law_share" "_law_share" S_share f fd) (B : Blt mg) : FnOk P w K mg base CX0 1 f fd P_share spSh := by
  have nd := sc_share.nd
  refine F.ok sc_share (fun vs H Q E h => ?_) (fun cdv A outer s H vs Q E hr h => ⟨_, PSs.nox (pss_cons (ps_par (i := 2) (j := 3) (by rfl) nd rfl rfl (by decide) rfl rfl (pa_cons (pe_callB call_abs (by rfl) B.abs_ (by decide +kernel) (pa_cons (pv 0) pa_nil)) (pa_cons (pe_callB call_abs (by rfl) B.abs_ (by decide +kernel) (pa_cons (pv 1) pa_nil)) pa_nil)) (by rfl))
     (C8.pss_cut (ps_while PassesOwn.never (pt_cmpR op_gt (pv 3) pe_int (nomark _))
      (pss_one (ps_par (i := 2) (j := 3) (by rfl) nd rfl rfl (by decide) rfl rfl (pa_cons (pv 3) (pa_cons (pe_op op_mod (pv 2) (pv 3)) pa_nil)) (by rfl))))
     (pss_one (ps_ret (pv 2))))), ?_⟩)
  · obtain ⟨a, b, rfl, _⟩ := h
    rfl
  · obtain ⟨a, b, rfl, q⟩ := h
    rw [show L2.start N_share [V.int a, V.int b] = [some (.int a), some (.int b), none, none] from rfl]
    refine ⟨_, rfl, _, rfl, _, rfl, _, rfl, _, _, rfl, ?_⟩
    refine ⟨fun σ H' => σ = [some (.int a), some (.int b), some (.int (gcdI a b)), some (.int 0)] ∧ H' = H, ?_, ?_⟩
    · refine ⟨fun m σ H' => ∃ x y : Int, σ = [some (.int a), some (.int b), some (.int x), some (.int y)] ∧ H' = H ∧ 0 ≤ x ∧ 0 ≤ y ∧ gcdI x y = gcdI a b ∧ y.toNat = m, ⟨_, _, _, rfl, rfl, by split <;> omega, by split <;> omega, gcd_abs2 a b, rfl⟩, ?_⟩
      rintro m σ H' ⟨x, y, rfl, rfl, x0, y0, g, rfl⟩
      refine ⟨_, rfl, _, _, rfl, rfl, _, rfl, ite2 (fun e => ?_) (fun e => ?_)⟩
      · have y1 : 0 < y := of_decide_eq_true e
        have r0 := Int.emod_nonneg x (show y ≠ 0 by omega)
        have r1 := Int.emod_lt_of_pos x y1
        refine ⟨fun σ' H'' => σ' = [some (.int a), some (.int b), some (.int y), some (.int (x % y))] ∧ H'' = H', fun σ' H'' ⟨e1, e2⟩ => ⟨(x % y).toNat, by omega, y, x % y, e1, e2, y0, r0, (gcd_step x0 y1).trans g, rfl⟩, ?_⟩
        exact ⟨_, rfl, _, rfl, _, rfl, _, _, rfl, rfl, y1, _, _, rfl, rfl, rfl⟩
      · have y1 : y = 0 := by
          have : ¬ 0 < y := fun h => e (decide_eq_true h)
          omega
        subst y1
        rw [← g, gcd_zero x0]
        exact ⟨rfl, rfl⟩
    · rintro σ H' ⟨rfl, rfl⟩
      exact ⟨_, rfl, q⟩
def spIL : Sp := fun vs H Q _ => ∃ (v : V) (d : PyData), vs = [v] ∧ Dx H v d ∧ ∀ H', Same H H' → Q (.bl (isFrac d)) H'
theorem ok_il {f : Addr} {fd : FuncData} (F : FnP K "_law_is_lowest" "_law_is_lowest" S_is_lowest f fd) (H_share : Has P w K mg base "_law_share" S_share 1 P_share spSh) (B : Blt mg) : FnOk P w K mg base CX0 2 f fd P_is_lowest spIL := by
  obtain ⟨f_share, fd_share, F_share, b_share, G_share, g_share⟩ := H_share
  have nd := sc_is_lowest.nd
  refine F.ok sc_is_lowest (fun vs H Q E h => ?_) (fun cdv A outer s H vs Q E hr h => ⟨_, PSs.nox (C8.pss_cut (ps_if (PW.pt (pw_or (pt_not (pt_val (pe_callB call_isi (by rfl) B.isinstance_ (by decide +kernel) (pa_cons (pv 0) (pa_cons (pe_bltn (v := .ty "tuple") (u := .type "tuple") (by rfl) B.tuple_ (by decide +kernel) rfl) pa_nil))))) (pw_or1 (pt_cmpR op_ne (pe_callB call_len_seq (by rfl) B.len_ PySem.boot_len (pa_cons (pv 0) pa_nil)) pe_int (nomark _))))) (pss_one (ps_ret pe_bl)) pss_nil)
     (C8.pss_cut (ps_if (pt_not (pt_val (pe_callB (cr_all rfl) (by rfl) B.all_ (by decide +kernel) (pa_cons (pe_lc (own := [("_law_part", 1)]) (g := gName 1) rfl nd (pi_tup (pv 0)) (blkOk_by (own := [("_law_part", 1)]) (N := N_is_lowest) (sc := defScope S_is_lowest) (by decide +kernel)) (fun _ _ _ _ _ => (pg_name (i := 1) nd rfl (.inl rfl))) (fun _ _ _ _ _ => pts_nil) (fun _ _ _ _ _ => (pe_and (pe_callB (call_isiK (K := K) rfl) (by rfl) B.isinstance_ (by decide +kernel) (pa_cons (pv 1) (pa_cons (pe_bltn (v := .ty "int") (u := .type "int") (by rfl) B.int_ (by decide +kernel) rfl) pa_nil))) (pe_one (pe_not (pe_callB (call_isiK (K := K) rfl) (by rfl) B.isinstance_ (by decide +kernel) (pa_cons (pv 1) (pa_cons (pe_bltn (v := .ty "bool") (u := .type "bool") (by rfl) B.bool_ (by decide +kernel) rfl) pa_nil)))))))) pa_nil)))) (pss_one (ps_ret pe_bl)) pss_nil)
     (pss_one (ps_ret (pe_and (pe_cmpR op_gt (pe_ix ix_tup (pv 0) pe_int (fun _ _ => rfl)) pe_int (nomark _)) (pe_one (pe_cmpR op_eq (pe_call G_share (hr.mono (by first | decide | omega)) rfl g_share F_share.kp b_share .nil pass0 (pa_cons (pe_ix ix_tup (pv 0) pe_int (fun _ _ => rfl)) (pa_cons (pe_ix ix_tup (pv 0) pe_int (fun _ _ => rfl)) pa_nil))) pe_int (nomark _)))))))), ?_⟩)
  · obtain ⟨v, d, rfl, _⟩ := h
    rfl
  · obtain ⟨v, d, rfl, hd, q⟩ := h
    rw [show L2.start N_is_lowest [v] = [some v, none] from rfl]
    refine ⟨fun σ H' => (∃ x y, d = .tuple [x, y]) ∧ σ = [some v, none] ∧ H' = H, ?_, ?_⟩
    · refine ⟨_, rfl, _, _, _, _, _, rfl, .ty _, ty_of hd, kit_ty (k_tuple d), _, rfl, ?_⟩
      cases d with
      | tuple ds =>
        obtain ⟨a, xs, rfl, hs, hx⟩ := sq_of (K := K) hd
        have l := dxall_len hx
        refine iteF ⟨_, rfl, a, xs, rfl, .inr hs, rfl, _, rfl, ?_⟩
        rw [l]
        by_cases c : (ds.length : Int) = 2
        · obtain ⟨x, y, rfl⟩ := two_of c
          exact iteF ⟨⟨x, y, rfl⟩, rfl, rfl⟩
        · have q := q H fun _ _ e => e
          rw [isFrac_len c] at q
          rw [decide_eq_false (fun z => c (V.int.inj z))]
          exact iteT q
      | _ => exact iteT (iteT (q H fun _ _ e => e))
    · rintro σ H' ⟨⟨x, y, rfl⟩, rfl, rfl⟩
      obtain ⟨a, xs, rfl, hs, hx⟩ := sq_of (K := K) hd
      obtain ⟨u, v, rfl, hu, hv⟩ := dx2 hx
      refine ⟨fun σ H'' => (∃ n l, x = .int n ∧ y = .int l) ∧ σ = [some (.ref a), none] ∧ Same H' H'', ?_, ?_⟩
      · refine ⟨_, rfl, a, rfl, ⟨_, hs⟩, fun D nD => ?_⟩
        refine lc_map (ys := [.bl (isW x), .bl (isW y)]) (walk_tup (K := K) (a := a) (xs := [u, v])) nD (fun H' s' => SqT.same hs s') rfl (by show 2 ≤ 1000; decide) ?_ ?_
        · have st : ∀ (vv : V) (dd : PyData) (G : Hp) (k : V → Hp → Prop), Dx G vv dd → k (.bl (isW dd)) G → tAndV (tCB (rIsi K) (tCons (tVar 1) (tCons (tC (V.ty "int")) tNil))) (tNotV (tCB (rIsi K) (tCons (tVar 1) (tCons (tC (V.ty "bool")) tNil)))) [some (.ref a), some vv] G k := fun vv dd G k hdd hk => by
            refine ⟨_, rfl, _, _, _, _, _, rfl, .ty _, ty_of hdd, kit_ty (k_int dd), _, rfl, ?_⟩
            cases dd with
            | int i => exact iteT ⟨_, rfl, _, _, _, _, _, rfl, .ty _, ty_of hdd, kit_ty (k_bool (.int i)), false, rfl, hk⟩
            | bool b => exact iteT ⟨_, rfl, _, _, _, _, _, rfl, .ty _, ty_of hdd, kit_ty (k_bool (.bool b)), true, rfl, hk⟩
            | _ => exact iteF hk
          rintro i x' y' H2 k hx' hy' s2 hk
          match i, hx', hy' with
          | 0, hx', hy' =>
            cases hx'
            cases hy'
            exact ⟨rfl, st u x H2 k (Dx.same s2 _ _ hu) (hk H2 fun _ _ e => e)⟩
          | 1, hx', hy' =>
            cases hx'
            cases hy'
            exact ⟨rfl, st v y H2 k (Dx.same s2 _ _ hv) (hk H2 fun _ _ e => e)⟩
          | i + 2, hx', hy' => cases hx'
        · intro H2 s2 hD
          refine ⟨D, [isW x, isW y], rfl, SqL.of hD, ?_⟩
          refine ⟨_, rfl, ?_⟩
          rw [show ([isW x, isW y].all id) = (isW x && isW y) from by simp]
          have q := q _ s2
          cases wx : isW x with
          | false =>
            rw [isFrac_no (.inl wx)] at q
            exact iteT q
          | true =>
            cases wy : isW y with
            | false =>
              rw [isFrac_no (.inr wy)] at q
              exact iteT q
            | true =>
              obtain ⟨n, rfl⟩ := isW_int wx
              obtain ⟨l, rfl⟩ := isW_int wy
              exact iteF ⟨⟨n, l, rfl, rfl⟩, rfl, s2⟩
      · rintro σ H'' ⟨⟨n, l, rfl, rfl⟩, rfl, s2⟩
        cases hu
        cases hv
        have hs2 := SqT.same hs s2
        refine ⟨_, rfl, a, _, 1, _, rfl, rfl, hs2, atI_int (by decide) rfl, _, _, rfl, rfl, _, rfl, ite2 (fun e => ?_) (fun e => ?_)⟩
        · have l0 : 0 < l := of_decide_eq_true e
          refine ⟨_, rfl, a, _, 0, _, rfl, rfl, hs2, atI_int (by decide) rfl, _, rfl, a, _, 1, _, rfl, rfl, hs2, atI_int (by decide) rfl, _, _, rfl, rfl, ?_⟩
          have q := q _ s2
          rw [isFrac_int, decide_eq_true (show 1 ≤ l by omega), Bool.true_and, ← gcd_one] at q
          exact q
        · have c : ¬ 0 < l := fun h => e (decide_eq_true h)
          have q := q _ s2
          rw [isFrac_int, decide_eq_false (show ¬ 1 ≤ l by omega), Bool.false_and] at q
          exact q
end
end Cw
namespace Cw
open PySem PySem.Spec PyProof.Rows L2
section
variable {P : Program} {w : World} {K : PySem.W.Frag} {mg : Str → Option Value} {base : Heap}
/-- a told fraction that is the one of u over l -/
def spIs : Sp := fun vs H Q _ => ∃ (a : Addr) (n d u l : Int), vs = [.ref a, .int u, .int l] ∧ Fr H a n d ∧ 0 < d ∧ Nat.gcd n.natAbs d.natAbs = 1 ∧ n * l = u * d ∧ n.natAbs < 10 ^ 70 ∧ d.natAbs < 10 ^ 70 ∧ u.natAbs < 10 ^ 70 ∧ l.natAbs < 10 ^ 70 ∧ ∀ H', Same H H' → Q (.bl true) H'
theorem ok_is {f : Addr} {fd : FuncData} (F : FnP K "_law_is" "_law_is" S_is f fd) (H_is_lowest : Has P w K mg base "_law_is_lowest" S_is_lowest 2 P_is_lowest spIL) : FnOk P w K mg base CX0 3 f fd P_is spIs := by
  obtain ⟨f_is_lowest, fd_is_lowest, F_is_lowest, b_is_lowest, G_is_lowest, g_is_lowest⟩ := H_is_lowest
  have nd := sc_is.nd
  refine F.ok sc_is (fun vs H Q E h => ?_) (fun cdv A outer s H vs Q E hr h => ⟨_, PSs.nox (pss_one (ps_ret (pe_and (pe_call G_is_lowest (hr.mono (by first | decide | omega)) rfl g_is_lowest F_is_lowest.kp b_is_lowest .nil pass0 (pa_cons (pv 0) pa_nil)) (pe_one (pe_cmpR op_eq (pe_op op_mulW (pe_ix ix_tup (pv 0) pe_int (fun _ _ => rfl)) (pv 2)) (pe_op op_mulW (pv 1) (pe_ix ix_tup (pv 0) pe_int (fun _ _ => rfl))) (nomark _)))))), ?_⟩)
  · obtain ⟨a, n, d, u, l, rfl, _⟩ := h
    rfl
  · obtain ⟨a, n, d, u, l, rfl, ha, d0, g, e, b1, b2, b3, b4, q⟩ := h
    have w : ∀ {x : Int}, x.natAbs < 10 ^ 70 → x.natAbs < 10 ^ 240 := fun h => upB h (by decide)
    refine ⟨_, rfl, _, _, rfl, .tup ha (.cons (.int n) (.cons (.int d) .nil)), fun H' s' => ?_⟩
    rw [isFrac_int, decide_eq_true (show 1 ≤ d by omega), decide_eq_true g]
    refine ⟨_, rfl, iteT ?_⟩
    have ha' : Fr H' a n d := s' _ _ ha
    refine ⟨_, rfl, a, _, 0, _, rfl, rfl, SqT.of ha', atI_int (by decide) rfl, _, rfl, _, _, rfl, rfl, cm (w b1) (w b4), _, rfl, _, rfl, a, _, 1, _, rfl, rfl, SqT.of ha', atI_int (by decide) rfl, _, _, rfl, rfl, cm (w b3) (w b2), rfl, ?_⟩
    show Q (.bl (decide (V.int (n * l) = V.int (u * d)))) _
    rw [e, decide_eq_true rfl]
    exact q _ s'
def spAm : Sp := fun vs H Q _ => ∃ (p l : Addr) (xs : List V), vs = [.ref p, .ref l] ∧ Pot H p ∧ l ≠ p ∧ H l = some (.lst xs) ∧ xs ≠ [] ∧ xs.length ≤ 1000 ∧ ∀ (i : Nat) (x : V), xs[i]? = some x → ∀ H', Drew p H H' → Q x H'
theorem ok_am {f : Addr} {fd : FuncData} (F : FnP K "_law_among" "_law_among" S_among f fd) (H_take : TakeOk P w K mg base) (B : Blt mg) : FnOk P w K mg base CX0 2 f fd P_among spAm := by
  obtain ⟨f_take, fd_take, F_take, b_take, G_take, g_take⟩ := H_take
  have nd := sc_among.nd
  refine F.ok sc_among (fun vs H Q E h => ?_) (fun cdv A outer s H vs Q E hr h => ⟨_, PSs.nox (pss_one (ps_ret (pe_ix ix_list (pv 1) (pe_call G_take (hr.mono (by first | decide | omega)) rfl g_take F_take.kp b_take .nil pass0 (pa_cons (pv 0) (pa_cons (pe_callB call_len_seq (by rfl) B.len_ PySem.boot_len (pa_cons (pv 1) pa_nil)) pa_nil))) (fun _ _ => rfl)))), ?_⟩)
  · obtain ⟨p, l, xs, rfl, _⟩ := h
    rfl
  · obtain ⟨p, l, xs, rfl, hP, lp, hl, ne, ln, q⟩ := h
    rw [show L2.start N_among [V.ref p, V.ref l] = [some (V.ref p), some (.ref l)] from rfl]
    have l1 : 1 ≤ xs.length := by
      cases xs with
      | nil => exact absurd rfl ne
      | cons a r => simp
    refine ⟨_, rfl, _, rfl, _, rfl, l, _, rfl, .inl (SqL.of hl), p, _, rfl, hP, by omega, log_small (n := 1000) (by omega) (by omega) (by decide), fun d H1 d0 d1 dr => ?_⟩
    have hd : d.toNat < xs.length := by omega
    exact ⟨l, xs, d, xs[d.toNat], rfl, rfl, SqL.of (dr.1 _ _ lp hl), atI_int d0 (List.getElem?_eq_getElem hd), q d.toNat _ (List.getElem?_eq_getElem hd) H1 dr⟩
/-- a whole number of the law -/
def spWh : Sp := fun vs H Q _ => ∃ p : Addr, vs = [.ref p] ∧ Pot H p ∧ ∀ (n : Int) (H' : Hp), n.natAbs ≤ 10 ^ 30 → Drew p H H' → Q (.int n) H'
theorem ok_wh {f : Addr} {fd : FuncData} (F : FnP K "_law_whole" "_law_whole" S_whole f fd) (H_take : TakeOk P w K mg base) : FnOk P w K mg base CX0 2 f fd P_whole spWh := by
  obtain ⟨f_take, fd_take, F_take, b_take, G_take, g_take⟩ := H_take
  have nd := sc_whole.nd
  refine F.ok sc_whole (fun vs H Q E h => ?_) (fun cdv A outer s H vs Q E hr h => ⟨_, PSs.nox (pss_cons (ps_set (i := 1) nd rfl (.inl rfl) (pe_lst (pa_cons pe_int (pa_cons pe_int (pa_cons (pe_un un_neg pe_int) (pa_cons (pe_op op_sub (pe_call G_take (hr.mono (by first | decide | omega)) rfl g_take F_take.kp b_take .nil pass0 (pa_cons (pv 0) (pa_cons pe_int pa_nil))) pe_int) (pa_cons (pe_op op_sub (pe_call G_take (hr.mono (by first | decide | omega)) rfl g_take F_take.kp b_take .nil pass0 (pa_cons (pv 0) (pa_cons pe_int pa_nil))) pe_int) (pa_cons (pe_op op_sub (pe_call G_take (hr.mono (by first | decide | omega)) rfl g_take F_take.kp b_take .nil pass0 (pa_cons (pv 0) (pa_cons (pe_op op_mulW pe_int (pe_op op_pow pe_int pe_int)) pa_nil))) (pe_op op_pow pe_int pe_int)) pa_nil))))))))
     (pss_one (ps_ret (pe_ix ix_list (pv 1) (pe_call G_take (hr.mono (by first | decide | omega)) rfl g_take F_take.kp b_take .nil pass0 (pa_cons (pv 0) (pa_cons pe_int pa_nil))) (fun _ _ => rfl))))), ?_⟩)
  · obtain ⟨p, rfl, _⟩ := h
    rfl
  · obtain ⟨p, rfl, hP, q⟩ := h
    rw [show L2.start N_whole [V.ref p] = [some (V.ref p), none] from rfl]
    have bw : ((2 : Int) * 10 ^ Int.toNat 30).natAbs < 10 ^ 240 := by decide
    refine ⟨_, rfl, _, rfl, p, _, rfl, hP, by decide, log_small (n := 30) (by decide) (by decide) (by decide), fun x1 H1 a0 a1 dr1 => ?_⟩
    refine ⟨_, _, rfl, rfl, _, rfl, p, _, rfl, dr1.2, by decide, log_small (n := 400) (by decide) (by decide) (by decide), fun x2 H2 b0 b1 dr2 => ?_⟩
    refine ⟨_, _, rfl, rfl, _, rfl, _, _, rfl, rfl, ⟨by decide, by decide, by decide⟩, _, _, rfl, rfl, cm (by decide) (by decide), p, _, rfl, dr2.2, by decide, Nat.lt_trans (lg bw) (by decide), fun x3 H3 c0 c1 dr3 => ?_⟩
    have d3 := (dr1.trans dr2).trans dr3
    refine ⟨_, _, rfl, rfl, ⟨by decide, by decide, by decide⟩, _, _, rfl, rfl, ?_⟩
    refine ⟨by show 6 ≤ sizeLine; decide, fun l n => ?_⟩
    have lp : l ≠ p := (d3.2.ne n).symm
    have bd : ∀ x ∈ [0, 1, -1, x1 - 15, x2 - 200, x3 - 10 ^ Int.toNat 30], Int.natAbs x ≤ 10 ^ 30 := fun x hx => by
      have e30 : (10 : Int) ^ Int.toNat 30 = 10 ^ 30 := rfl
      rw [e30] at hx c1
      simp only [List.mem_cons, List.not_mem_nil, or_false] at hx
      rcases hx with rfl | rfl | rfl | rfl | rfl | rfl <;> omega
    obtain ⟨s4, m4⟩ := fresh2 (o := .lst ([0, 1, -1, x1 - 15, x2 - 200, x3 - 10 ^ Int.toNat 30].map V.int)) n
    have d4 : Drew p H (upd H3 l (.lst ([0, 1, -1, x1 - 15, x2 - 200, x3 - 10 ^ Int.toNat 30].map V.int))) := ⟨d3.1.trans (Same.but s4), d3.2.same s4⟩
    refine ⟨_, rfl, _, rfl, p, _, rfl, d4.2, by decide, log_small (n := 6) (by decide) (by decide) (by decide), fun i H5 i0 i1 dr5 => ?_⟩
    have hi : i.toNat < [0, 1, -1, x1 - 15, x2 - 200, x3 - 10 ^ Int.toNat 30].length := by
      show i.toNat < 6
      omega
    refine ⟨l, _, i, .int ([0, 1, -1, x1 - 15, x2 - 200, x3 - 10 ^ Int.toNat 30][i.toNat]), rfl, rfl, SqL.of (dr5.1 _ _ lp m4), atI_int i0 ?_, q _ H5 (bd _ (List.getElem_mem hi)) (d4.trans dr5)⟩
    rw [List.getElem?_map, List.getElem?_eq_getElem hi]
    rfl
def spLo : Sp := fun vs H Q _ => ∃ p : Addr, vs = [.ref p] ∧ Pot H p ∧ ∀ (n : Int) (H' : Hp), n ≠ 0 → n.natAbs ≤ 10 ^ 30 → Drew p H H' → Q (.int n) H'
theorem ok_lo {f : Addr} {fd : FuncData} (F : FnP K "_law_lower" "_law_lower" S_lower f fd) (H_take : TakeOk P w K mg base) (H_whole : Has P w K mg base "_law_whole" S_whole 2 P_whole spWh) : FnOk P w K mg base CX0 3 f fd P_lower spLo := by
  obtain ⟨f_whole, fd_whole, F_whole, b_whole, G_whole, g_whole⟩ := H_whole
  obtain ⟨f_take, fd_take, F_take, b_take, G_take, g_take⟩ := H_take
  have nd := sc_lower.nd
  refine F.ok sc_lower (fun vs H Q E h => ?_) (fun cdv A outer s H vs Q E hr h => ⟨_, PSs.nox (pss_cons (ps_set (i := 1) nd rfl (.inl rfl) (pe_call G_whole (hr.mono (by first | decide | omega)) rfl g_whole F_whole.kp b_whole .nil pass0 (pa_cons (pv 0) pa_nil)))
     (pss_one (ps_ret (pe_ifExp (pt_cmpR op_ne (pv 1) pe_int (nomark _)) (pv 1) (pe_op op_add pe_int (pe_call G_take (hr.mono (by first | decide | omega)) rfl g_take F_take.kp b_take .nil pass0 (pa_cons (pv 0) (pa_cons pe_int pa_nil)))))))), ?_⟩)
  · obtain ⟨p, rfl, _⟩ := h
    rfl
  · obtain ⟨p, rfl, hP, q⟩ := h
    rw [show L2.start N_lower [V.ref p] = [some (V.ref p), none] from rfl]
    refine ⟨_, rfl, p, rfl, hP, fun n H1 bn dr => ?_⟩
    refine ⟨_, rfl, rfl, _, rfl, ite2 (fun e => ?_) (fun e => ?_)⟩
    · refine ⟨_, rfl, q n H1 (fun z => ?_) bn dr⟩
      rw [z] at e
      simp at e
    · refine ⟨_, rfl, p, _, rfl, dr.2, by decide, log_small (n := 9) (by decide) (by decide) (by decide), fun d H2 d0 d1 dr2 => ?_⟩
      refine ⟨_, _, rfl, rfl, q _ H2 (by omega) ?_ (dr.trans dr2)⟩
      have : (1 + d).natAbs ≤ 9 := by omega
      exact Nat.le_trans this (by decide)
theorem dx_list {H : Hp} {v : V} {ds : List PyData} (h : Dx H v (.list ds)) : ∃ a xs, v = .ref a ∧ H a = some (.lst xs) ∧ DxAll H xs ds := by
  cases h with
  | lst e r => exact ⟨_, _, rfl, e, r⟩
theorem nw_off {H H' : Hp} {p : Addr} (h : Pot H p) : Same (Nw H H') (Off p H') := fun b o e => by
  obtain ⟨e1, e2⟩ := Nw.get e
  exact Off.at (h.ne e1).symm e2
def odd1 : List PyData := [PyData.none, PyData.int 0, PyData.bool true, PyData.int 1, PyData.str (Str.ofString "1/2"), PyData.str (Str.ofString ""), PyData.tuple [], PyData.tuple [PyData.int 1],
  PyData.tuple [PyData.int 1, PyData.int 2, PyData.int 1], PyData.list [PyData.int 1, PyData.int 2], PyData.tuple [PyData.int 0, PyData.int 2], PyData.tuple [PyData.int 2, PyData.int 4],
  PyData.tuple [PyData.int 1, PyData.int 0], PyData.tuple [PyData.int 0, PyData.int 0], PyData.tuple [PyData.int 1, PyData.int (-2)], PyData.tuple [PyData.int (-3), PyData.int (-1)]]
def odd2 : List PyData := [PyData.tuple [PyData.bool true, PyData.int 2], PyData.tuple [PyData.int 1, PyData.bool true], PyData.tuple [PyData.int 0, PyData.bool true],
  PyData.tuple [PyData.str (Str.ofString "1"), PyData.int 2], PyData.tuple [PyData.int 1, PyData.none], PyData.dict [], PyData.tuple [PyData.tuple [PyData.int 1, PyData.int 2], PyData.int 1],
  PyData.tuple [PyData.bool false, PyData.int 1], PyData.list [], PyData.tuple [PyData.none, PyData.none]]
def odd3 (n d : Int) : List PyData := [.list [.int n, .int d], .tuple [.int n, .int d, .int n, .int d], .tuple [.int n, .int (-d)], .tuple [.int (2 * n), .int (2 * d)], .tuple [.tuple [.int n, .int d]], .tuple [.int 3, .int (10 ^ Int.toNat 30)]]
theorem lf_non : Sh .none 3 0 := ⟨rfl, rfl, Nat.zero_le _, Nat.le_refl _, by simp [PyData.canLay0]⟩
theorem lf_bl (b : Bool) : Sh (.bool b) 3 0 := ⟨rfl, rfl, Nat.zero_le _, Nat.le_refl _, by simp [PyData.canLay0]⟩
theorem lf_int {i : Int} (h : i.natAbs < 10 ^ 60) : Sh (.int i) 3 0 := (sh_int h).mono (by decide) (by decide)
theorem t1_sh {x : PyData} (hx : Sh x 3 0) : Sh (.tuple [x]) 1000 10 := (sh_tup (b := 3) (p := 0) (n := 1) (fun d hd => by rw [List.mem_singleton.mp hd]; exact hx) (Nat.le_refl _)).mono (by decide) (by decide)
theorem t2_sh {x y : PyData} (hx : Sh x 3 0) (hy : Sh y 3 0) : Sh (.tuple [x, y]) 8 1 := sh_tup (b := 3) (p := 0) (n := 2) (fun d hd => by
  simp only [List.mem_cons, List.not_mem_nil, or_false] at hd
  rcases hd with rfl | rfl
  · exact hx
  · exact hy) (Nat.le_refl _)
theorem t2_shw {x y : PyData} (hx : Sh x 3 0) (hy : Sh y 3 0) : Sh (.tuple [x, y]) 1000 10 := (t2_sh hx hy).mono (by decide) (by decide)
theorem odd1_sh : ∀ x ∈ odd1, Sh x 1000 10 := by
  have z : ∀ {x : PyData}, Sh x 3 0 → Sh x 1000 10 := fun h => h.mono (by decide) (by decide)
  intro x hx
  simp only [odd1, List.mem_cons, List.not_mem_nil, or_false] at hx
  rcases hx with rfl | rfl | rfl | rfl | rfl | rfl | rfl | rfl | rfl | rfl | rfl | rfl | rfl | rfl | rfl | rfl
  · exact z lf_non
  · exact z (lf_int (by decide))
  · exact z (lf_bl _)
  · exact z (lf_int (by decide))
  · exact z (sh_str (by decide) (by decide))
  · exact z (sh_str (by decide) (by decide))
  · exact (sh_tup (b := 0) (p := 0) (n := 0) (fun d hd => by cases hd) (Nat.le_refl _)).mono (by decide) (by decide)
  · exact t1_sh (lf_int (by decide))
  · exact (sh_tup (b := 3) (p := 0) (n := 3) (fun d hd => by
      simp only [List.mem_cons, List.not_mem_nil, or_false] at hd
      rcases hd with rfl | rfl | rfl <;> exact lf_int (by decide)) (Nat.le_refl _)).mono (by decide) (by decide)
  · exact (sh_list (b := 3) (p := 0) (n := 2) (fun d hd => by
      simp only [List.mem_cons, List.not_mem_nil, or_false] at hd
      rcases hd with rfl | rfl <;> exact lf_int (by decide)) (Nat.le_refl _)).mono (by decide) (by decide)
  all_goals exact t2_shw (lf_int (by decide)) (lf_int (by decide))
def Rp (d : PyData) : Prop := d.showable = true ∧ d.depth ≤ 60 ∧ d.shown.length ≤ sizeLine
theorem rp_of {x : PyData} (h : Sh x 1000 10) : Rp x := h.rep (by decide) (by decide)
theorem odd2_sh : ∀ x ∈ odd2, Rp x := by
  intro x hx
  simp only [odd2, List.mem_cons, List.not_mem_nil, or_false] at hx
  rcases hx with rfl | rfl | rfl | rfl | rfl | rfl | rfl | rfl | rfl | rfl
  · exact rp_of (t2_shw (lf_bl _) (lf_int (by decide)))
  · exact rp_of (t2_shw (lf_int (by decide)) (lf_bl _))
  · exact rp_of (t2_shw (lf_int (by decide)) (lf_bl _))
  · exact rp_of (t2_shw (sh_str (by decide) (by decide)) (lf_int (by decide)))
  · exact rp_of (t2_shw (lf_int (by decide)) lf_non)
  · exact ⟨by simp [PyData.showable, PyData.showableKv], by simp [PyData.depth, PyData.depthKv], by rw [sizeLine_eq]; decide +kernel⟩
  · exact rp_of <| (sh_tup (b := 8) (p := 1) (n := 2) (fun d hd => by
      simp only [List.mem_cons, List.not_mem_nil, or_false] at hd
      rcases hd with rfl | rfl
      · exact t2_sh (lf_int (by decide)) (lf_int (by decide))
      · exact (lf_int (by decide)).mono (by decide) (by decide)) (Nat.le_refl _)).mono (by decide) (by decide)
  · exact rp_of (t2_shw (lf_bl _) (lf_int (by decide)))
  · exact rp_of <| (sh_list (b := 0) (p := 0) (n := 0) (fun d hd => by cases hd) (Nat.le_refl _)).mono (by decide) (by decide)
  · exact rp_of (t2_shw lf_non lf_non)
theorem sh_ints {l : List Int} {m : Nat} (h : ∀ i ∈ l, i.natAbs < 10 ^ 60) (hl : l.length ≤ 10) : ∀ d ∈ l.map PyData.int, Sh d 0 0 := fun d hd => by
  obtain ⟨i, hi, rfl⟩ := List.mem_map.mp hd
  exact sh_int (h i hi)
theorem sh_odd3 {n d : Int} (hn : n.natAbs < 10 ^ 31) (hd : d.natAbs < 10 ^ 31) : ∀ x ∈ odd3 n d ++ [.tuple [.int n, .int d]], Sh x 1000 10 := by
  have e30 : ((10 : Int) ^ Int.toNat 30).natAbs < 10 ^ 60 := by decide
  have t2 : ∀ {x y : Int}, x.natAbs < 10 ^ 60 → y.natAbs < 10 ^ 60 → Sh (.tuple [.int x, .int y]) 2 1 := fun {x y} hx hy => sh_tup (b := 0) (p := 0) (n := 2) (fun d hd => by
    simp only [List.mem_cons, List.not_mem_nil, or_false] at hd
    rcases hd with rfl | rfl
    · exact sh_int hx
    · exact sh_int hy) (Nat.le_refl _)
  have n6 : n.natAbs < 10 ^ 60 := upB hn (by decide)
  have d6 : d.natAbs < 10 ^ 60 := upB hd (by decide)
  intro x hx
  simp only [odd3, List.cons_append, List.nil_append, List.mem_cons, List.not_mem_nil, or_false] at hx
  rcases hx with rfl | rfl | rfl | rfl | rfl | rfl | rfl
  · exact (sh_list (b := 0) (p := 0) (n := 2) (fun d hd => by
      simp only [List.mem_cons, List.not_mem_nil, or_false] at hd
      rcases hd with rfl | rfl
      · exact sh_int n6
      · exact sh_int d6) (Nat.le_refl _)).mono (by decide) (by decide)
  · exact (sh_tup (b := 0) (p := 0) (n := 4) (fun d hd => by
      simp only [List.mem_cons, List.not_mem_nil, or_false] at hd
      rcases hd with rfl | rfl | rfl | rfl
      · exact sh_int n6
      · exact sh_int d6
      · exact sh_int n6
      · exact sh_int d6) (Nat.le_refl _)).mono (by decide) (by decide)
  · exact (t2 n6 (by rw [Int.natAbs_neg]; exact d6)).mono (by decide) (by decide)
  · exact (t2 (upB (mulB (i := 1) (by decide) hn) (by decide)) (upB (mulB (i := 1) (by decide) hd) (by decide))).mono (by decide) (by decide)
  · exact (sh_tup (b := 2) (p := 1) (n := 1) (fun d hd => by
      rw [List.mem_singleton.mp hd]
      exact t2 n6 d6) (Nat.le_refl _)).mono (by decide) (by decide)
  · exact (t2 (by decide) e30).mono (by decide) (by decide)
  · exact (t2 n6 d6).mono (by decide) (by decide)
def spOd : Sp := fun vs H Q _ => ∃ p : Addr, vs = [.ref p] ∧ Pot H p ∧ ∀ (v : V) (d : PyData) (H' : Hp), Rp d → Dx (Off p H') v d → Drew p H H' → Q v H'
theorem ok_od {f : Addr} {fd : FuncData} (F : FnP K "_law_odd" "_law_odd" S_odd f fd) (H_among : Has P w K mg base "_law_among" S_among 2 P_among spAm) (H_whole : Has P w K mg base "_law_whole" S_whole 2 P_whole spWh) (H_lower : Has P w K mg base "_law_lower" S_lower 3 P_lower spLo) (H_fraction : Has P w K mg base "fraction" S_fraction 2 P_fraction spF) (B : Blt mg) : FnOk P w K mg base CX0 4 f fd P_odd spOd := by
  obtain ⟨f_fraction, fd_fraction, F_fraction, b_fraction, G_fraction, g_fraction⟩ := H_fraction
  obtain ⟨f_whole, fd_whole, F_whole, b_whole, G_whole, g_whole⟩ := H_whole
  obtain ⟨f_lower, fd_lower, F_lower, b_lower, G_lower, g_lower⟩ := H_lower
  obtain ⟨f_among, fd_among, F_among, b_among, G_among, g_among⟩ := H_among
  have nd := sc_odd.nd
  refine F.ok sc_odd (fun vs H Q E h => ?_) (fun cdv A outer s H vs Q E hr h => ⟨_, PSs.nox (pss_cons (ps_set (i := 1) nd rfl (.inl rfl) (pe_call G_fraction (hr.mono (by first | decide | omega)) rfl g_fraction F_fraction.kp b_fraction .nil pass0 (pa_cons (pe_call G_whole (hr.mono (by first | decide | omega)) rfl g_whole F_whole.kp b_whole .nil pass0 (pa_cons (pv 0) pa_nil)) (pa_cons (pe_call G_lower (hr.mono (by first | decide | omega)) rfl g_lower F_lower.kp b_lower .nil pass0 (pa_cons (pv 0) pa_nil)) pa_nil))))
     (pss_cons (ps_set (i := 2) nd rfl (.inl rfl) (pe_dlst (pa_dcons pe_dnon (pa_dcons pe_dint (pa_dcons pe_dbl (pa_dcons pe_dint (pa_dcons pe_dstr (pa_dcons pe_dstr (pa_dcons pe_dtupZ (pa_dcons (pe_dtup (pa_dcons pe_dint pa_dnil)) (pa_dcons (pe_dtup (pa_dcons pe_dint (pa_dcons pe_dint (pa_dcons pe_dint pa_dnil)))) (pa_dcons (pe_dlst (pa_dcons pe_dint (pa_dcons pe_dint pa_dnil))) (pa_dcons (pe_dtup (pa_dcons pe_dint (pa_dcons pe_dint pa_dnil))) (pa_dcons (pe_dtup (pa_dcons pe_dint (pa_dcons pe_dint pa_dnil))) (pa_dcons (pe_dtup (pa_dcons pe_dint (pa_dcons pe_dint pa_dnil))) (pa_dcons (pe_dtup (pa_dcons pe_dint (pa_dcons pe_dint pa_dnil))) (pa_dcons (pe_dtup (pa_dcons pe_dint (pa_dcons pe_dneg pa_dnil))) (pa_dcons (pe_dtup (pa_dcons pe_dneg (pa_dcons pe_dneg pa_dnil))) pa_dnil))))))))))))))))))
     (pss_cons (ps_set (i := 2) nd rfl (.inl rfl) (pe_op op_cat (pv 2) (pe_dlst (pa_dcons (pe_dtup (pa_dcons pe_dbl (pa_dcons pe_dint pa_dnil))) (pa_dcons (pe_dtup (pa_dcons pe_dint (pa_dcons pe_dbl pa_dnil))) (pa_dcons (pe_dtup (pa_dcons pe_dint (pa_dcons pe_dbl pa_dnil))) (pa_dcons (pe_dtup (pa_dcons pe_dstr (pa_dcons pe_dint pa_dnil))) (pa_dcons (pe_dtup (pa_dcons pe_dint (pa_dcons pe_dnon pa_dnil))) (pa_dcons pe_ddict (pa_dcons (pe_dtup (pa_dcons (pe_dtup (pa_dcons pe_dint (pa_dcons pe_dint pa_dnil))) (pa_dcons pe_dint pa_dnil))) (pa_dcons (pe_dtup (pa_dcons pe_dbl (pa_dcons pe_dint pa_dnil))) (pa_dcons (pe_dlst pa_dnil) (pa_dcons (pe_dtup (pa_dcons pe_dnon (pa_dcons pe_dnon pa_dnil))) pa_dnil)))))))))))))
     (pss_cons (ps_set (i := 2) nd rfl (.inl rfl) (pe_op op_cat (pv 2) (pe_lst (pa_cons (pe_callTy call_list_of (by rfl) B.list_ (by decide +kernel) (pa_cons (pv 1) pa_nil)) (pa_cons (pe_op op_catT (pv 1) (pv 1)) (pa_cons (pe_tup (pa_cons (pe_ix ix_tup (pv 1) pe_int (fun _ _ => rfl)) (pa_cons (pe_un un_neg (pe_ix ix_tup (pv 1) pe_int (fun _ _ => rfl))) pa_nil))) (pa_cons (pe_tup (pa_cons (pe_op op_mulW pe_int (pe_ix ix_tup (pv 1) pe_int (fun _ _ => rfl))) (pa_cons (pe_op op_mulW pe_int (pe_ix ix_tup (pv 1) pe_int (fun _ _ => rfl))) pa_nil))) (pa_cons (pe_tupF (pa_cons (pv 1) pa_nil)) (pa_cons (pe_tup (pa_cons pe_int (pa_cons (pe_op op_pow pe_int pe_int) pa_nil))) pa_nil)))))))))
     (pss_one (ps_ret (pe_call G_among (hr.mono (by first | decide | omega)) rfl g_among F_among.kp b_among .nil pass0 (pa_cons (pv 0) (pa_cons (pe_op op_cat (pv 2) (pe_lst (pa_cons (pv 1) pa_nil))) pa_nil))))))))), ?_⟩)
  · obtain ⟨p, rfl, _⟩ := h
    rfl
  · obtain ⟨p, rfl, hP, q⟩ := h
    rw [show L2.start N_odd [V.ref p] = [some (V.ref p), none, none] from rfl]
    refine ⟨_, rfl, p, rfl, hP, fun a H1 ba dr1 => ?_⟩
    refine ⟨_, rfl, p, rfl, dr1.2, fun b H2 b0 bb dr2 => ?_⟩
    have b31 : ∀ {x : Int}, x.natAbs ≤ 10 ^ 30 → x.natAbs < 10 ^ 31 := fun h => Nat.lt_of_le_of_lt h (by decide)
    refine ⟨_, _, rfl, b0, upB (b31 ba) (by decide), upB (b31 bb) (by decide), fun n d c L nc => ?_⟩
    have hn : n.natAbs < 10 ^ 31 := Nat.lt_of_le_of_lt L.bn (b31 ba)
    have hd : d.natAbs < 10 ^ 31 := Nat.lt_of_le_of_lt L.bd (b31 bb)
    have dr2' := dr1.trans dr2
    have cp : c ≠ p := (dr2'.2.ne nc).symm
    obtain ⟨s3, m3⟩ := fresh2 (o := .tup [V.int n, V.int d]) nc
    have dr3 : Drew p H (upd H2 c (.tup [V.int n, V.int d])) := ⟨dr2'.1.trans (Same.but s3), dr2'.2.same s3⟩
    generalize upd H2 c (.tup [V.int n, V.int d]) = H3 at s3 m3 dr3 ⊢
    refine fun v1 H4 s4 d4 => ?_
    have dr4 : Drew p H H4 := ⟨dr3.1.trans (Same.but s4), dr3.2.same s4⟩
    obtain ⟨l1, xs1, rfl, hl1, hx1⟩ := dx_list (Dx.same (nw_off dr3.2) _ _ d4)
    refine ⟨_, rfl, fun v2 H5 s5 d5 => ?_⟩
    have dr5 : Drew p H H5 := ⟨dr4.1.trans (Same.but s5), dr4.2.same s5⟩
    obtain ⟨l2, xs2, rfl, hl2, hx2⟩ := dx_list (Dx.same (nw_off dr4.2) _ _ d5)
    have so5 := Off.mono (l := p) s5
    have len1 := dxall_len hx1
    have len2 := dxall_len hx2
    have q1 : odd1.length = 16 := rfl
    have q2 : odd2.length = 10 := rfl
    have len1 : xs1.length = 16 := len1
    have len2 : xs2.length = 10 := len2
    refine ⟨l1, l2, xs1, xs2, rfl, rfl, Off.same _ _ (so5 _ _ hl1), Off.same _ _ hl2, Nat.le_of_lt (small1000 (by omega)), fun l3 n3 => ?_⟩
    obtain ⟨s6, m6⟩ := fresh2 (o := .lst (xs1 ++ xs2)) n3
    have dr6 : Drew p H (upd H5 l3 (.lst (xs1 ++ xs2))) := ⟨dr5.1.trans (Same.but s6), dr5.2.same s6⟩
    have hx12 : DxAll (Off p (upd H5 l3 (.lst (xs1 ++ xs2)))) (xs1 ++ xs2) (odd1 ++ odd2) := Dx.sameAll (Off.mono s6) _ _ (dxall_app (Dx.sameAll so5 _ _ hx1) hx2)
    have hc6 : (upd H5 l3 (.lst (xs1 ++ xs2))) c = some (.tup [V.int n, V.int d]) := s6 _ _ (s5 _ _ (s4 _ _ m3))
    have len12 : (xs1 ++ xs2).length = 26 := by rw [List.length_append]; omega
    generalize xs1 ++ xs2 = xs at m6 hx12 len12 s6 dr6 hc6 ⊢
    generalize upd H5 l3 (.lst xs) = H6 at s6 m6 dr6 hx12 hc6 ⊢
    have w : ∀ {x : Int}, x.natAbs < 10 ^ 31 → x.natAbs < 10 ^ 240 := fun h => upB h (by decide)
    refine ⟨_, rfl, _, rfl, c, _, rfl, .inr (SqT.of hc6), fun k1 j1 => ?_⟩
    obtain ⟨s7, m7⟩ := fresh2 (o := .lst [V.int n, V.int d]) j1
    have p1 : k1 ≠ p := (dr6.2.ne j1).symm
    generalize upd H6 k1 (.lst [V.int n, V.int d]) = H7 at s7 m7 ⊢
    have hc7 := s7 _ _ hc6
    have P7 := dr6.2.same s7
    refine ⟨_, rfl, _, rfl, c, c, _, _, rfl, rfl, SqT.of hc7, SqT.of hc7, List.cons_ne_nil _ _, by show 4 ≤ sizeLine; decide, fun z => (List.cons_ne_nil _ _ z).elim, fun _ k2 j2 => ?_⟩
    obtain ⟨s8, m8⟩ := fresh2 (o := .tup ([V.int n, V.int d] ++ [V.int n, V.int d])) j2
    have p2 : k2 ≠ p := (P7.ne j2).symm
    generalize upd H7 k2 (.tup ([V.int n, V.int d] ++ [V.int n, V.int d])) = H8 at s8 m8 ⊢
    have hc8 := s8 _ _ hc7
    have P8 := P7.same s8
    refine ⟨_, rfl, c, _, 0, _, rfl, rfl, SqT.of hc8, atI_int (by decide) rfl, _, rfl, c, _, 1, _, rfl, rfl, SqT.of hc8, atI_int (by decide) rfl, _, rfl, by show 2 ≤ sizeLine; decide, fun k3 j3 => ?_⟩
    obtain ⟨s9, m9⟩ := fresh2 (o := .tup [V.int n, V.int (-d)]) j3
    have p3 : k3 ≠ p := (P8.ne j3).symm
    generalize upd H8 k3 (.tup [V.int n, V.int (-d)]) = H9 at s9 m9 ⊢
    have hc9 := s9 _ _ hc8
    have P9 := P8.same s9
    refine ⟨_, rfl, c, _, 0, _, rfl, rfl, SqT.of hc9, atI_int (by decide) rfl, _, _, rfl, rfl, cm (by decide) (w hn), _, rfl, c, _, 1, _, rfl, rfl, SqT.of hc9, atI_int (by decide) rfl, _, _, rfl, rfl, cm (by decide) (w hd), by show 2 ≤ sizeLine; decide, fun k4 j4 => ?_⟩
    obtain ⟨s10, m10⟩ := fresh2 (o := .tup [V.int (2 * n), V.int (2 * d)]) j4
    have p4 : k4 ≠ p := (P9.ne j4).symm
    generalize upd H9 k4 (.tup [V.int (2 * n), V.int (2 * d)]) = H10 at s10 m10 ⊢
    have hc10 := s10 _ _ hc9
    have P10 := P9.same s10
    refine ⟨_, rfl, by show 1 ≤ sizeLine; decide, fun k5 o5 j5 dn => ?_⟩
    obtain ⟨s11, m11⟩ := fresh2 (o := .frz o5 (.tup [V.ref c])) j5
    have p5 : k5 ≠ p := (P10.ne j5).symm
    generalize upd H10 k5 (.frz o5 (.tup [V.ref c])) = H11 at s11 m11 ⊢
    have P11 := P10.same s11
    refine ⟨_, _, rfl, rfl, ⟨by decide, by decide, by decide⟩, by show 2 ≤ sizeLine; decide, fun k6 j6 => ?_⟩
    obtain ⟨s12, m12⟩ := fresh2 (o := .tup [V.int 3, V.int (10 ^ Int.toNat 30)]) j6
    have p6 : k6 ≠ p := (P11.ne j6).symm
    have P12 := P11.same s12
    generalize hH12 : upd H11 k6 (.tup [V.int 3, V.int (10 ^ Int.toNat 30)]) = H12 at s12 m12 P12
    clear hH12
    refine ⟨by show 6 ≤ sizeLine; decide, fun k7 j7 => ?_⟩
    obtain ⟨s13, m13⟩ := fresh2 (o := .lst [V.ref k1, V.ref k2, V.ref k3, V.ref k4, V.ref k5, V.ref k6]) j7
    have P13 := P12.same s13
    generalize upd H12 k7 (.lst [V.ref k1, V.ref k2, V.ref k3, V.ref k4, V.ref k5, V.ref k6]) = H13 at s13 m13 P13 ⊢
    have s613 : Same H6 H13 := (((((s7.trans s8).trans s9).trans s10).trans s11).trans s12).trans s13
    refine ⟨l3, k7, xs, _, rfl, rfl, s613 _ _ m6, m13, by show xs.length + 6 ≤ sizeLine; exact Nat.le_of_lt (small1000 (by omega)), fun l8 j8 => ?_⟩
    obtain ⟨s14, m14⟩ := fresh2 (o := .lst (xs ++ [V.ref k1, V.ref k2, V.ref k3, V.ref k4, V.ref k5, V.ref k6])) j8
    have P14 := P13.same s14
    generalize upd H13 l8 (.lst (xs ++ [V.ref k1, V.ref k2, V.ref k3, V.ref k4, V.ref k5, V.ref k6])) = H14 at s14 m14 P14 ⊢
    refine ⟨_, rfl, _, rfl, _, rfl, by show 1 ≤ sizeLine; decide, fun k9 j9 => ?_⟩
    obtain ⟨s15, m15⟩ := fresh2 (o := .lst [V.ref c]) j9
    have P15 := P14.same s15
    generalize upd H14 k9 (.lst [V.ref c]) = H15 at s15 m15 P15 ⊢
    refine ⟨l8, k9, _, _, rfl, rfl, s15 _ _ m14, m15, by rw [List.length_append]; show xs.length + 6 + 1 ≤ sizeLine; exact Nat.le_of_lt (small1000 (by omega)), fun l10 j10 => ?_⟩
    obtain ⟨s16, m16⟩ := fresh2 (o := .lst ((xs ++ [V.ref k1, V.ref k2, V.ref k3, V.ref k4, V.ref k5, V.ref k6]) ++ [V.ref c])) j10
    have P16 := P15.same s16
    have l10p : l10 ≠ p := (P15.ne j10).symm
    generalize upd H15 l10 (.lst ((xs ++ [V.ref k1, V.ref k2, V.ref k3, V.ref k4, V.ref k5, V.ref k6]) ++ [V.ref c])) = H16 at s16 m16 P16 ⊢
    have s1316 : Same H13 H16 := (s14.trans s15).trans s16
    have s616 := s613.trans s1316
    have dr16 : Drew p H H16 := ⟨dr6.1.trans (Same.but s616), P16⟩
    have t12 := s13.trans s1316
    have t11 := s12.trans t12
    have t10 := s11.trans t11
    have t9 := s10.trans t10
    have t8 := s9.trans t9
    have t7 := s8.trans t8
    have good : Dx (Off p H16) (.ref c) (.tuple [.int n, .int d]) := .tup (Off.at cp (s616 _ _ hc6)) (.cons (.int _) (.cons (.int _) .nil))
    have d3 : DxAll (Off p H16) [V.ref k1, V.ref k2, V.ref k3, V.ref k4, V.ref k5, V.ref k6] (odd3 n d) := by
      refine .cons (.lst (Off.at p1 (t7 _ _ m7)) (.cons (.int _) (.cons (.int _) .nil))) (.cons (.tup (Off.at p2 (t8 _ _ m8)) (.cons (.int _) (.cons (.int _) (.cons (.int _) (.cons (.int _) .nil))))) (.cons (.tup (Off.at p3 (t9 _ _ m9)) (.cons (.int _) (.cons (.int _) .nil))) ?_))
      refine .cons (.tup (Off.at p4 (t10 _ _ m10)) (.cons (.int _) (.cons (.int _) .nil))) (.cons (.tupz (Off.at p5 (t11 _ _ m11)) dn (.cons good .nil) rfl) (.cons (.tup (Off.at p6 (t12 _ _ m12)) (.cons (.int _) (.cons (.int _) .nil))) .nil))
    have dall : DxAll (Off p H16) ((xs ++ [V.ref k1, V.ref k2, V.ref k3, V.ref k4, V.ref k5, V.ref k6]) ++ [V.ref c]) ((odd1 ++ odd2) ++ odd3 n d ++ [.tuple [.int n, .int d]]) := dxall_app (dxall_app (Dx.sameAll (Off.mono s616) _ _ hx12) d3) (.cons good .nil)
    refine ⟨p, l10, _, rfl, P16, l10p, m16, by simp, by rw [List.length_append, List.length_append]; show xs.length + 6 + 1 ≤ 1000; omega, fun i x hx H17 dr17 => ?_⟩
    have hlen := dxall_len dall
    have hi : i < ((odd1 ++ odd2) ++ odd3 n d ++ [PyData.tuple [.int n, .int d]]).length := by
      rw [← hlen]
      exact (List.getElem?_eq_some_iff.mp hx).1
    obtain ⟨y, ey, hy⟩ := dxall_get dall (List.getElem?_eq_getElem hi)
    rw [hx] at ey
    cases ey
    refine q x _ H17 ?_ (Dx.same (Off.but dr17.1) _ _ hy) (dr16.trans dr17)
    have key : ∀ y ∈ odd1 ++ odd2 ++ odd3 n d ++ [PyData.tuple [.int n, .int d]], Rp y := fun y hm => by
      simp only [List.append_assoc] at hm
      rcases List.mem_append.mp hm with h | h
      · exact rp_of (odd1_sh _ h)
      · rcases List.mem_append.mp h with h | h
        · exact odd2_sh _ h
        · exact rp_of (sh_odd3 hn hd _ h)
    exact key _ (List.getElem_mem hi)
end
end Cw
namespace Cw
open PySem PySem.Spec PyProof.Rows L2
theorem SqL.same {K : PySem.W.Frag} {H H' : Hp} {a : Addr} {xs : List V} (h : SqL K H a xs) (k : Same H H') : SqL K H' a xs := by
  rcases h with (h | ⟨o, h⟩) | h
  · exact .inl (.inl (k _ _ h))
  · exact .inl (.inr ⟨o, k _ _ h⟩)
  · exact .inr h
section
variable {P : Program} {w : World} {K : PySem.W.Frag} {mg : Str → Option Value} {base : Heap}
def spLaw (K : PySem.W.Frag) : Sp := fun vs H Q _ => ∃ (a : Addr) (ns : List Int), vs = [.ref a] ∧ SqL K H a (ns.map V.int) ∧ ∀ H', Q (.bl true) H'
theorem ok_law {f : Addr} {fd : FuncData} (F : FnP K "law" "law" S_law f fd) (H_pot : Has P w K mg base "_law_pot" S_pot 1 P_pot (spPot K)) (H_whole : Has P w K mg base "_law_whole" S_whole 2 P_whole spWh) (H_lower : Has P w K mg base "_law_lower" S_lower 3 P_lower spLo) (H_fraction : Has P w K mg base "fraction" S_fraction 2 P_fraction spF) (H_is : Has P w K mg base "_law_is" S_is 3 P_is spIs) (H_is_fraction : Has P w K mg base "is_fraction" S_is_fraction 2 P_is_fraction spIF) (H_plus : Has P w K mg base "plus" S_plus 3 P_plus spPl) (H_times : Has P w K mg base "times" S_times 3 P_times spTi) (H_minus : Has P w K mg base "minus" S_minus 3 P_minus spMi) (H_is_less : Has P w K mg base "is_less" S_is_less 1 P_is_less spLs) (H_odd : Has P w K mg base "_law_odd" S_odd 4 P_odd spOd) (H_is_lowest : Has P w K mg base "_law_is_lowest" S_is_lowest 2 P_is_lowest spIL) (B : Blt mg) (HM : HasMods K) : FnG P w K mg base CX0 5 f fd P_law (spLaw K) := by
  obtain ⟨f_pot, fd_pot, F_pot, b_pot, G_pot, g_pot⟩ := H_pot
  obtain ⟨f_whole, fd_whole, F_whole, b_whole, G_whole, g_whole⟩ := H_whole
  obtain ⟨f_lower, fd_lower, F_lower, b_lower, G_lower, g_lower⟩ := H_lower
  obtain ⟨f_fraction, fd_fraction, F_fraction, b_fraction, G_fraction, g_fraction⟩ := H_fraction
  obtain ⟨f_is, fd_is, F_is, b_is, G_is, g_is⟩ := H_is
  obtain ⟨f_is_fraction, fd_is_fraction, F_is_fraction, b_is_fraction, G_is_fraction, g_is_fraction⟩ := H_is_fraction
  obtain ⟨f_plus, fd_plus, F_plus, b_plus, G_plus, g_plus⟩ := H_plus
  obtain ⟨f_times, fd_times, F_times, b_times, G_times, g_times⟩ := H_times
  obtain ⟨f_minus, fd_minus, F_minus, b_minus, G_minus, g_minus⟩ := H_minus
  obtain ⟨f_is_less, fd_is_less, F_is_less, b_is_less, G_is_less, g_is_less⟩ := H_is_less
  obtain ⟨f_odd, fd_odd, F_odd, b_odd, G_odd, g_odd⟩ := H_odd
  obtain ⟨f_is_lowest, fd_is_lowest, F_is_lowest, b_is_lowest, G_is_lowest, g_is_lowest⟩ := H_is_lowest
  have nd := sc_law.nd
  have cr : bootBuiltins "repr" = some (.builtin "repr") := by decide +kernel
  refine defG F sc_law (fun vs H Q E h => ?_) (fun cdv A outer s H vs Q E hG hr h => ⟨_, PSs.nox (C8.pss_cut (ps_for PassesOwn.never rfl (pi_range1 rfl B.range_ (pa_cons (pe_callB (call_max2 rfl) (by rfl) B.max_ (by decide +kernel) (pa_cons pe_int (pa_cons (pe_callB (call_min2 rfl) (by rfl) B.min_ (by decide +kernel) (pa_cons (pe_callB call_len_seq (by rfl) B.len_ PySem.boot_len (pa_cons (pv 0) pa_nil)) (pa_cons pe_int pa_nil))) pa_nil))) pa_nil)) (pg_name (i := 1) nd rfl (.inl rfl))
      (pss_cons (ps_set (i := 2) nd rfl (.inl rfl) (pe_call G_pot (hr.mono (by first | decide | omega)) rfl g_pot F_pot.kp b_pot .nil pass0 (pa_cons (pv 0) (pa_cons (pv 1) pa_nil))))
     (pss_one (ps_for PassesOwn.never rfl (pi_range1 rfl B.range_ (pa_cons pe_int pa_nil)) (pg_name (i := 3) nd rfl (.inl rfl))
      (pss_cons (ps_par (i := 4) (j := 5) (by rfl) nd rfl rfl (by decide) rfl rfl (pa_cons (pe_call G_whole (hr.mono (by first | decide | omega)) rfl g_whole F_whole.kp b_whole .nil pass0 (pa_cons (pv 2) pa_nil)) (pa_cons (pe_call G_lower (hr.mono (by first | decide | omega)) rfl g_lower F_lower.kp b_lower .nil pass0 (pa_cons (pv 2) pa_nil)) pa_nil)) (by rfl))
     (pss_cons (ps_par (i := 6) (j := 7) (by rfl) nd rfl rfl (by decide) rfl rfl (pa_cons (pe_call G_whole (hr.mono (by first | decide | omega)) rfl g_whole F_whole.kp b_whole .nil pass0 (pa_cons (pv 2) pa_nil)) (pa_cons (pe_call G_lower (hr.mono (by first | decide | omega)) rfl g_lower F_lower.kp b_lower .nil pass0 (pa_cons (pv 2) pa_nil)) pa_nil)) (by rfl))
     (pss_cons (ps_par (i := 8) (j := 9) (by rfl) nd rfl rfl (by decide) rfl rfl (pa_cons (pe_call G_fraction (hr.mono (by first | decide | omega)) rfl g_fraction F_fraction.kp b_fraction .nil pass0 (pa_cons (pv 4) (pa_cons (pv 5) pa_nil))) (pa_cons (pe_call G_fraction (hr.mono (by first | decide | omega)) rfl g_fraction F_fraction.kp b_fraction .nil pass0 (pa_cons (pv 6) (pa_cons (pv 7) pa_nil))) pa_nil)) (by rfl))
     (pss_cons (ps_if (PW.pt (pw_or (pt_not (pt_val (pe_call G_is (hr.mono (by first | decide | omega)) rfl g_is F_is.kp b_is .nil pass0 (pa_cons (pv 8) (pa_cons (pv 4) (pa_cons (pv 5) pa_nil)))))) (pw_or (pt_not (pt_val (pe_call G_is (hr.mono (by first | decide | omega)) rfl g_is F_is.kp b_is .nil pass0 (pa_cons (pv 9) (pa_cons (pv 6) (pa_cons (pv 7) pa_nil)))))) (pw_or1 (pt_not (pt_val (pe_call G_is_fraction (hr.mono (by first | decide | omega)) rfl g_is_fraction F_is_fraction.kp b_is_fraction .nil pass0 (pa_cons (pv 8) pa_nil)))))))) pss_no pss_nil)
     (pss_cons (ps_if (pt_not (pt_val (pe_call G_is (hr.mono (by first | decide | omega)) rfl g_is F_is.kp b_is .nil pass0 (pa_cons (pe_call G_plus (hr.mono (by first | decide | omega)) rfl g_plus F_plus.kp b_plus .nil pass0 (pa_cons (pv 8) (pa_cons (pv 9) pa_nil))) (pa_cons (pe_op op_add (pe_op op_mulW (pv 4) (pv 7)) (pe_op op_mulW (pv 6) (pv 5))) (pa_cons (pe_op op_mulW (pv 5) (pv 7)) pa_nil)))))) pss_no pss_nil)
     (pss_cons (ps_if (pt_not (pt_val (pe_call G_is (hr.mono (by first | decide | omega)) rfl g_is F_is.kp b_is .nil pass0 (pa_cons (pe_call G_times (hr.mono (by first | decide | omega)) rfl g_times F_times.kp b_times .nil pass0 (pa_cons (pv 8) (pa_cons (pv 9) pa_nil))) (pa_cons (pe_op op_mulW (pv 4) (pv 6)) (pa_cons (pe_op op_mulW (pv 5) (pv 7)) pa_nil)))))) pss_no pss_nil)
     (pss_cons (ps_if (PW.pt (pw_or (pt_not (pt_val (pe_call G_is (hr.mono (by first | decide | omega)) rfl g_is F_is.kp b_is .nil pass0 (pa_cons (pe_call G_minus (hr.mono (by first | decide | omega)) rfl g_minus F_minus.kp b_minus .nil pass0 (pa_cons (pv 8) (pa_cons (pv 9) pa_nil))) (pa_cons (pe_op op_sub (pe_op op_mulW (pv 4) (pv 7)) (pe_op op_mulW (pv 6) (pv 5))) (pa_cons (pe_op op_mulW (pv 5) (pv 7)) pa_nil)))))) (pw_or1 (pt_cmpR (op_neD hr.units) (pe_call G_minus (hr.mono (by first | decide | omega)) rfl g_minus F_minus.kp b_minus .nil pass0 (pa_cons (pv 8) (pa_cons (pv 8) pa_nil))) (pe_tup (pa_cons pe_int (pa_cons pe_int pa_nil))) (nomark _))))) pss_no pss_nil)
     (pss_cons (ps_set (i := 10) nd rfl (.inl rfl) (pe_cmpR op_lt (pe_op op_mulW (pe_ix ix_tup (pv 8) pe_int (fun _ _ => rfl)) (pe_ix ix_tup (pv 9) pe_int (fun _ _ => rfl))) (pe_op op_mulW (pe_ix ix_tup (pv 9) pe_int (fun _ _ => rfl)) (pe_ix ix_tup (pv 8) pe_int (fun _ _ => rfl))) (nomark _)))
     (pss_cons (ps_if (pt_cmpR op_ne (pe_callB (call_reprX hG hr.units HM) (by rfl) B.repr_ cr (pa_cons (pe_lst (pa_cons (pe_call G_is_less (hr.mono (by first | decide | omega)) rfl g_is_less F_is_less.kp b_is_less .nil pass0 (pa_cons (pv 8) (pa_cons (pv 9) pa_nil))) (pa_cons (pe_call G_is_less (hr.mono (by first | decide | omega)) rfl g_is_less F_is_less.kp b_is_less .nil pass0 (pa_cons (pv 8) (pa_cons (pv 8) pa_nil))) pa_nil))) pa_nil)) (pe_callB (call_reprX hG hr.units HM) (by rfl) B.repr_ cr (pa_cons (pe_lst (pa_cons (pv 10) (pa_cons pe_bl pa_nil))) pa_nil)) (nomark _)) pss_no pss_nil)
     (pss_cons (ps_set (i := 11) nd rfl (.inl rfl) (pe_call G_odd (hr.mono (by first | decide | omega)) rfl g_odd F_odd.kp b_odd .nil pass0 (pa_cons (pv 2) pa_nil)))
     (pss_cons (ps_set (i := 12) nd rfl (.inl rfl) (pe_callB (call_reprA hG hr.units HM) (by rfl) B.repr_ cr (pa_cons (pv 11) pa_nil)))
     (pss_one (ps_if (PW.pt (pw_or (pt_cmpR op_ne (pe_callB call_reprB (by rfl) B.repr_ cr (pa_cons (pe_call G_is_fraction (hr.mono (by first | decide | omega)) rfl g_is_fraction F_is_fraction.kp b_is_fraction .nil pass0 (pa_cons (pv 11) pa_nil)) pa_nil)) (pe_callB call_reprB (by rfl) B.repr_ cr (pa_cons (pe_call G_is_lowest (hr.mono (by first | decide | omega)) rfl g_is_lowest F_is_lowest.kp b_is_lowest .nil pass0 (pa_cons (pv 11) pa_nil)) pa_nil)) (nomark _)) (pw_or1 (pt_cmpR op_ne (pe_callB (call_reprA hG hr.units HM) (by rfl) B.repr_ cr (pa_cons (pv 11) pa_nil)) (pv 12) (nomark _))))) pss_no pss_nil)))))))))))))))))
     (pss_one (ps_ret pe_bl))), ?_⟩)
  · obtain ⟨a, ns, rfl, _⟩ := h
    rfl
  · obtain ⟨a, ns, rfl, hS, q⟩ := h
    rw [show L2.start N_law [V.ref a] = [some (V.ref a), none, none, none, none, none, none, none, none, none, none, none, none] from rfl]
    have hlen5 : ∀ m : Int, (if (if 5 < m then (5 : Int) else m) > 2 then (if 5 < m then (5 : Int) else m) else 2) ≤ 5 := fun m => by
      split
      · split <;> omega
      · omega
    refine ⟨fun σ H' => True, ?_, fun σ H' _ => q _⟩
    refine ⟨_, rfl, a, _, rfl, .inl hS, _, _, rfl, _, _, rfl, _, rfl, ?_, ?_, ?_⟩
    · split
      · split <;> omega
      · omega
    · have := hlen5 ((ns.map V.int).length : Nat)
      omega
    have hn5 := hlen5 ((ns.map V.int).length : Nat)
    generalize (if (if 5 < (((ns.map V.int).length : Nat) : Int) then (5 : Int) else (((ns.map V.int).length : Nat) : Int)) > 2 then (if 5 < (((ns.map V.int).length : Nat) : Int) then (5 : Int) else (((ns.map V.int).length : Nat) : Int)) else 2) = many at hn5 ⊢
    refine for_it (walk_range (lo := 0) (n := many.toNat)) (fun i σ H2 => Same H H2 ∧ ∃ (x1 x2 x3 x4 x5 x6 x7 x8 x9 x10 x11 x12 : Option V), σ = [some (V.ref a), x1, x2, x3, x4, x5, x6, x7, x8, x9, x10, x11, x12]) ⟨fun _ _ e => e, none, none, none, none, none, none, none, none, none, none, none, none, rfl⟩ (fun _ _ _ _ _ => trivial) ?_ (fun _ _ _ => trivial)
    rintro i x σ H2 H2' hi ⟨s02, x1, x2, x3, x4, x5, x6, x7, x8, x9, x10, x11, x12, rfl⟩ ⟨rfl, rfl⟩
    refine ⟨_, rfl, _, rfl, a, ns, _, rfl, SqL.same hS s02, by omega, by omega, fun p H3 s3 np P3 => ?_⟩
    refine ⟨_, rfl, by decide, by decide, ?_⟩
    refine for_it (walk_range (lo := 0) (n := (6 : Int).toNat)) (fun j σ H4 => Drew p H3 H4 ∧ ∃ (x3 x4 x5 x6 x7 x8 x9 x10 x11 x12 : Option V), σ = [some (V.ref a), some (.int (0 + (i : Int))), some (.ref p), x3, x4, x5, x6, x7, x8, x9, x10, x11, x12]) ⟨⟨Same.but fun _ _ e => e, P3⟩, _, _, _, _, _, _, _, _, _, _, rfl⟩ (fun _ _ _ _ _ => trivial) ?_ ?_
    · rintro j x σ H4 H4' hj ⟨dr4, x3, x4, x5, x6, x7, x8, x9, x10, x11, x12, rfl⟩ ⟨rfl, rfl⟩
      have b31 : ∀ {x : Int}, x.natAbs ≤ 10 ^ 30 → x.natAbs < 10 ^ 31 := fun h => Nat.lt_of_le_of_lt h (by decide)
      refine ⟨_, rfl, p, rfl, dr4.2, fun av H5 ba dr5 => ?_⟩
      refine ⟨_, rfl, p, rfl, dr5.2, fun bv H6 b0 bb dr6 => ?_⟩
      refine ⟨_, _, rfl, _, rfl, p, rfl, dr6.2, fun cv H7 bc dr7 => ?_⟩
      refine ⟨_, rfl, p, rfl, dr7.2, fun dv H8 d0 bd dr8 => ?_⟩
      have dr8' := ((dr4.trans dr5).trans dr6).trans (dr7.trans dr8)
      have w240 : ∀ {x : Int}, x.natAbs ≤ 10 ^ 30 → x.natAbs < 10 ^ 240 := fun h => Nat.lt_of_le_of_lt h (by decide)
      refine ⟨_, _, rfl, _, rfl, _, rfl, av, bv, rfl, b0, w240 ba, w240 bb, fun n1 d1 c1 L1 nc1 => ?_⟩
      obtain ⟨s9, m9⟩ := fresh2 (o := .tup [V.int n1, V.int d1]) nc1
      have P9 := dr8'.2.same s9
      have c1p : c1 ≠ p := (dr8'.2.ne nc1).symm
      generalize upd H8 c1 (.tup [V.int n1, V.int d1]) = H9 at s9 m9 P9 ⊢
      refine ⟨_, rfl, _, rfl, cv, dv, rfl, d0, w240 bc, w240 bd, fun n2 d2 c2 L2' nc2 => ?_⟩
      obtain ⟨s10, m10⟩ := fresh2 (o := .tup [V.int n2, V.int d2]) nc2
      have P10 := P9.same s10
      have c2p : c2 ≠ p := (P9.ne nc2).symm
      have f1 := s10 _ _ m9
      have dr10 : Drew p H3 (upd H9 c2 (.tup [V.int n2, V.int d2])) := ⟨dr8'.1.trans (Same.but (s9.trans s10)), P10⟩
      generalize upd H9 c2 (.tup [V.int n2, V.int d2]) = H10 at s10 m10 P10 f1 dr10 ⊢
      have w70 : ∀ {x : Int}, x.natAbs ≤ 10 ^ 30 → x.natAbs < 10 ^ 70 := fun h => Nat.lt_of_le_of_lt h (by decide)
      have n1b := Nat.le_trans L1.bn ba
      have d1b := Nat.le_trans L1.bd bb
      have n2b := Nat.le_trans L2'.bn bc
      have d2b := Nat.le_trans L2'.bd bd
      have mul61 : ∀ {x y : Int}, x.natAbs ≤ 10 ^ 30 → y.natAbs ≤ 10 ^ 30 → (x * y).natAbs < 10 ^ 62 := fun h1 h2 => mulB (i := 31) (j := 31) (b31 h1) (b31 h2)
      have m70 : ∀ {x : Int}, x.natAbs < 10 ^ 62 → x.natAbs < 10 ^ 70 := fun h => upB h (by decide)
      have s70 : ∀ {x : Int}, x.natAbs < 10 ^ (62 + 1) → x.natAbs < 10 ^ 70 := fun h => upB h (by decide)
      refine ⟨_, _, rfl, ?_⟩
      refine ⟨_, rfl, _, rfl, _, rfl, c1, n1, d1, av, bv, rfl, f1, L1.pos, L1.cop, L1.eq, w70 n1b, w70 d1b, w70 ba, w70 bb, fun H11 s11 => ⟨true, rfl, iteF ?_⟩⟩
      refine ⟨_, rfl, _, rfl, _, rfl, c2, n2, d2, cv, dv, rfl, s11 _ _ m10, L2'.pos, L2'.cop, L2'.eq, w70 n2b, w70 d2b, w70 bc, w70 bd, fun H12 s12 => ⟨true, rfl, iteF ?_⟩⟩
      have s1012 := s11.trans s12
      have g1 := s1012 _ _ f1
      have g2 := s1012 _ _ m10
      have dr12 : Drew p H3 H12 := ⟨dr10.1.trans (Same.but s1012), dr10.2.same s1012⟩
      have e1 : isFrac (.tuple [.int n1, .int d1]) = true := by
        rw [isFrac_int, decide_eq_true (show 1 ≤ d1 from L1.pos), decide_eq_true L1.cop]
        rfl
      refine ⟨_, rfl, .ref c1, .tuple [.int n1, .int d1], rfl, .tup g1 (.cons (.int _) (.cons (.int _) .nil)), true, by rw [e1], iteF ?_⟩
      refine ⟨_, rfl, _, rfl, c1, c2, n1, d1, n2, d2, rfl, g1, g2, L1.pos, L2'.pos, b31 n1b, b31 d1b, b31 n2b, b31 d2b, fun N D e LL ne => ?_⟩
      obtain ⟨s13, m13⟩ := fresh2 (o := .tup [V.int N, V.int D]) ne
      refine ⟨_, rfl, _, rfl, _, _, rfl, rfl, cm (w240 ba) (w240 bd), _, rfl, _, rfl, _, _, rfl, rfl, cm (w240 bc) (w240 bb), _, _, rfl, rfl, _, rfl, _, rfl, _, _, rfl, rfl, cm (w240 bb) (w240 bd), ?_⟩
      refine ⟨e, N, D, av * dv + cv * bv, bv * dv, rfl, m13, LL.pos, LL.cop, low_plus L1.pos L2'.pos LL.eq L1.eq L2'.eq, s70 (Nat.lt_of_le_of_lt LL.bn (addB (mul61 n1b d2b) (mul61 n2b d1b))), m70 (Nat.lt_of_le_of_lt LL.bd (mul61 d1b d2b)), s70 (addB (mul61 ba bd) (mul61 bc bb)), m70 (mul61 bb bd), fun H14 s14 => ⟨true, rfl, iteF ?_⟩⟩
      have s1214 := s13.trans s14
      have h1 := s1214 _ _ g1
      have h2 := s1214 _ _ g2
      refine ⟨_, rfl, _, rfl, c1, c2, n1, d1, n2, d2, rfl, h1, h2, L1.pos, L2'.pos, b31 n1b, b31 d1b, b31 n2b, b31 d2b, fun N D e LL ne => ?_⟩
      obtain ⟨s15, m15⟩ := fresh2 (o := .tup [V.int N, V.int D]) ne
      refine ⟨_, rfl, _, rfl, _, _, rfl, rfl, cm (w240 ba) (w240 bc), _, rfl, _, rfl, _, _, rfl, rfl, cm (w240 bb) (w240 bd), ?_⟩
      refine ⟨e, N, D, av * cv, bv * dv, rfl, m15, LL.pos, LL.cop, low_times L1.pos L2'.pos LL.eq L1.eq L2'.eq, m70 (Nat.lt_of_le_of_lt LL.bn (mul61 n1b n2b)), m70 (Nat.lt_of_le_of_lt LL.bd (mul61 d1b d2b)), m70 (mul61 ba bc), m70 (mul61 bb bd), fun H16 s16 => ⟨true, rfl, iteF ?_⟩⟩
      have s1216 := s1214.trans (s15.trans s16)
      have i1 := s1216 _ _ g1
      have i2 := s1216 _ _ g2
      refine ⟨_, rfl, _, rfl, c1, c2, n1, d1, n2, d2, rfl, i1, i2, L1.pos, L2'.pos, b31 n1b, b31 d1b, b31 n2b, b31 d2b, fun N D e LL ne => ?_⟩
      obtain ⟨s17, m17⟩ := fresh2 (o := .tup [V.int N, V.int D]) ne
      refine ⟨_, rfl, _, rfl, _, _, rfl, rfl, cm (w240 ba) (w240 bd), _, rfl, _, rfl, _, _, rfl, rfl, cm (w240 bc) (w240 bb), _, _, rfl, rfl, _, rfl, _, rfl, _, _, rfl, rfl, cm (w240 bb) (w240 bd), ?_⟩
      refine ⟨e, N, D, av * dv - cv * bv, bv * dv, rfl, m17, LL.pos, LL.cop, low_minus L1.pos L2'.pos LL.eq L1.eq L2'.eq, s70 (Nat.lt_of_le_of_lt LL.bn (subB (mul61 n1b d2b) (mul61 n2b d1b))), m70 (Nat.lt_of_le_of_lt LL.bd (mul61 d1b d2b)), s70 (subB (mul61 ba bd) (mul61 bc bb)), m70 (mul61 bb bd), fun H18 s18 => ⟨true, rfl, iteF ?_⟩⟩
      have s1218 := s1216.trans (s17.trans s18)
      have j1 := s1218 _ _ g1
      have j2 := s1218 _ _ g2
      clear LL ne s17 m17
      refine ⟨_, rfl, _, rfl, c1, c1, n1, d1, n1, d1, rfl, j1, j1, L1.pos, L1.pos, b31 n1b, b31 d1b, b31 n1b, b31 d1b, fun N D e LL ne => ?_⟩
      obtain ⟨s19, m19⟩ := fresh2 (o := .tup [V.int N, V.int D]) ne
      obtain ⟨rfl, rfl⟩ := low_none L1.pos LL
      refine ⟨by show 2 ≤ sizeLine; decide, fun e2 ne2 => ?_⟩
      obtain ⟨s20, m20⟩ := fresh2 (o := .tup [V.int 0, V.int 1]) ne2
      have sh2 : Sh (.tuple [.int 0, .int 1]) 8 1 := t2_sh (lf_int (by decide)) (lf_int (by decide))
      have ev : PyData.eqv (.tuple [.int 0, .int 1]) (.tuple [.int 0, .int 1]) = true := by simp [PyData.eqv, PyData.eqvAll]
      refine ⟨_, _, Dx.dp _ _ sh2.cl (.tup (s20 _ _ m19) (.cons (.int _) (.cons (.int _) .nil))), Dx.dp _ _ sh2.cl (.tup m20 (.cons (.int _) (.cons (.int _) .nil))), sh2.shaped (by decide), sh2.shaped (by decide), false, by rw [ev]; rfl, iteF ?_⟩
      have s1220 := s1218.trans (s19.trans s20)
      clear m19 m20 ne2 LL ne
      generalize upd (upd H18 e (.tup [V.int 0, V.int 1])) e2 (.tup [V.int 0, V.int 1]) = H20 at s20 s1220 ⊢
      have k1 := s1220 _ _ g1
      have k2 := s1220 _ _ g2
      have dr20 : Drew p H3 H20 := ⟨dr12.1.trans (Same.but s1220), dr12.2.same s1220⟩
      refine ⟨_, rfl, c1, _, 0, _, rfl, rfl, SqT.of k1, atI_int (by decide) rfl, _, rfl, c2, _, 1, _, rfl, rfl, SqT.of k2, atI_int (by decide) rfl, _, _, rfl, rfl, cm (w240 n1b) (w240 d2b), _, rfl, c2, _, 0, _, rfl, rfl, SqT.of k2, atI_int (by decide) rfl, _, rfl, c1, _, 1, _, rfl, rfl, SqT.of k1, atI_int (by decide) rfl, _, _, rfl, rfl, cm (w240 n2b) (w240 d1b), _, _, rfl, rfl, ?_⟩
      refine ⟨_, rfl, _, rfl, c1, c2, n1, d1, n2, d2, rfl, k1, k2, b31 n1b, b31 d1b, b31 n2b, b31 d2b, _, rfl, _, rfl, c1, c1, n1, d1, n1, d1, rfl, k1, k1, b31 n1b, b31 d1b, b31 n1b, b31 d1b, by show 2 ≤ sizeLine; decide, fun l1 nl1 => ?_⟩
      obtain ⟨s21, m21⟩ := fresh2 (o := .lst [V.bl (decide (n1 * d2 < n2 * d1)), V.bl (decide (n1 * d1 < n1 * d1))]) nl1
      have shb : ∀ x y : Bool, Sh (.list [.bool x, .bool y]) 8 1 := fun x y => sh_list (b := 3) (p := 0) (n := 2) (fun d hd => by
        simp only [List.mem_cons, List.not_mem_nil, or_false] at hd
        rcases hd with rfl | rfl <;> exact lf_bl _) (Nat.le_refl _)
      have rb := fun x y => (shb x y).rep (by decide) (by decide)
      refine ⟨l1, _, rfl, .lst m21 (.cons (.bl _) (.cons (.bl _) .nil)), (rb _ _).1, (rb _ _).2.1, (rb _ _).2.2, ?_⟩
      refine ⟨_, rfl, by show 2 ≤ sizeLine; decide, fun l2 nl2 => ?_⟩
      obtain ⟨s22, m22⟩ := fresh2 (o := .lst [V.bl (decide (n1 * d2 < n2 * d1)), V.bl false]) nl2
      refine ⟨l2, _, rfl, .lst m22 (.cons (.bl _) (.cons (.bl _) .nil)), (rb _ _).1, (rb _ _).2.1, (rb _ _).2.2, ?_⟩
      rw [show decide (n1 * d1 < n1 * d1) = false from decide_eq_false (Int.lt_irrefl _)] at s21 s22 ⊢
      refine ⟨rfl, false, by simp, iteF ?_⟩
      have s2022 := s21.trans s22
      have dr22 : Drew p H3 _ := ⟨dr20.1.trans (Same.but s2022), dr20.2.same s2022⟩
      refine ⟨_, rfl, p, rfl, dr22.2, fun v d H23 rp dv23 dr23 => ?_⟩
      have dx23 := Dx.same Off.same _ _ dv23
      refine ⟨_, rfl, v, d, rfl, dx23, rp.1, rp.2.1, rp.2.2, ?_⟩
      refine ⟨_, rfl, v, d, rfl, dx23, isFrac d, rfl, _, rfl, v, d, rfl, dx23, fun H24 s24 => ⟨isFrac d, rfl, rfl, false, by simp, iteF ?_⟩⟩
      refine ⟨_, rfl, v, d, rfl, Dx.same s24 _ _ dx23, rp.1, rp.2.1, rp.2.2, _, rfl, rfl, false, by simp, iteF ?_⟩
      have dr24 : Drew p H3 H24 := (dr22.trans dr23).trans ⟨Same.but s24, dr23.2.same s24⟩
      exact ⟨dr24, _, _, _, _, _, _, _, _, _, _, rfl⟩
    · rintro σ H4 ⟨dr4, x3, x4, x5, x6, x7, x8, x9, x10, x11, x12, rfl⟩
      refine ⟨fun b o e => ?_, _, _, _, _, _, _, _, _, _, _, _, _, rfl⟩
      have e2 := s02 _ _ e
      exact dr4.1 b o (ne_of_none e2 np) (s3 _ _ e2)
end
end Cw
namespace Cw
open PySem PySem.Spec PyProof.Rows L2
def exK (K : PySem.W.Frag) : Bool := (match K.lookup sysModules with | some o => decide (o.cls = .type "dict") | none => false)
/-! ### a hook with one Bool more, and the table of modules among its objects -/
def frC (n : Nat) (g : Addr → Option Obj) : PySem.W.Frag := He.frG g (sysModules :: He.asD g n)
abbrev AlC : Type := He.AlD × Bool
def obC (n : Nat) (fa : List He.Fa) (fn : List He.DefD) (ex : PySem.W.Frag → Bool) (g : Addr → Option Obj) : AlC := (He.obsD fa fn (frC n g), ex (frC n g))
def hookC (n : Nat) (fa : List He.Fa) (fn : List He.DefD) (ex : PySem.W.Frag → Bool) : PySem.W.Hook where
  α := AlC
  obs := fun s => obC n fa fn ex s.heap.get?
  val := fun _ => (He.valD fn, true)
  says := fun _ h => ∃ K : PySem.W.Frag, K.In h ∧ He.SaysD fa fn K ∧ ex K = true
  of := fun _ s e => ⟨frC n s.heap.get?, He.frG_in, congrArg Prod.fst e, congrArg Prod.snd e⟩
  keeps := fun _ _ _ z k => by
    obtain ⟨K, kin, a, b⟩ := z
    exact ⟨K, PySem.W.Frag.In.keeps kin k, a, b⟩
theorem obC_eq {n : Nat} {fa : List He.Fa} {fn : List He.DefD} {ex : PySem.W.Frag → Bool} {g : Addr → Option Obj} {s : Shared} (h : ∀ a, g a = s.heap.get? a) : obC n fa fn ex g = (hookC n fa fn ex).obs s := by
  have e : g = s.heap.get? := funext h
  rw [e]
  rfl
def d_pot : He.DefD := ⟨("_law_pot", none), "_law_pot", "_law_pot", defArgs S_pot, defBody S_pot, defScope S_pot, [], []⟩
def d_take : He.DefD := ⟨("_law_take", none), "_law_take", "_law_take", defArgs S_take, defBody S_take, defScope S_take, [], []⟩
def d_among : He.DefD := ⟨("_law_among", none), "_law_among", "_law_among", defArgs S_among, defBody S_among, defScope S_among, [], []⟩
def d_whole : He.DefD := ⟨("_law_whole", none), "_law_whole", "_law_whole", defArgs S_whole, defBody S_whole, defScope S_whole, [], []⟩
def d_lower : He.DefD := ⟨("_law_lower", none), "_law_lower", "_law_lower", defArgs S_lower, defBody S_lower, defScope S_lower, [], []⟩
def d_share : He.DefD := ⟨("_law_share", none), "_law_share", "_law_share", defArgs S_share, defBody S_share, defScope S_share, [], []⟩
def d_is_lowest : He.DefD := ⟨("_law_is_lowest", none), "_law_is_lowest", "_law_is_lowest", defArgs S_is_lowest, defBody S_is_lowest, defScope S_is_lowest, [], []⟩
def d_is : He.DefD := ⟨("_law_is", none), "_law_is", "_law_is", defArgs S_is, defBody S_is, defScope S_is, [], []⟩
def d_odd : He.DefD := ⟨("_law_odd", none), "_law_odd", "_law_odd", defArgs S_odd, defBody S_odd, defScope S_odd, [], []⟩
def d_law : He.DefD := ⟨("law", none), "law", "law", defArgs S_law, defBody S_law, defScope S_law, [], []⟩
def d_p_is_whole : He.DefD := ⟨("is_whole", none), "is_whole", "is_whole", defArgs S_is_whole, defBody S_is_whole, defScope S_is_whole, [], []⟩
def d_p_is_tuple_of : He.DefD := ⟨("is_tuple_of", none), "is_tuple_of", "is_tuple_of", defArgs S_is_tuple_of, defBody S_is_tuple_of, defScope S_is_tuple_of, [], []⟩
def d_p_greatest_divisor : He.DefD := ⟨("greatest_divisor", none), "greatest_divisor", "greatest_divisor", defArgs S_greatest_divisor, defBody S_greatest_divisor, defScope S_greatest_divisor, [], []⟩
def d_p_fraction : He.DefD := ⟨("fraction", none), "fraction", "fraction", defArgs S_fraction, defBody S_fraction, defScope S_fraction, [], []⟩
def d_p_plus : He.DefD := ⟨("plus", none), "plus", "plus", defArgs S_plus, defBody S_plus, defScope S_plus, [], []⟩
def d_p_minus : He.DefD := ⟨("minus", none), "minus", "minus", defArgs S_minus, defBody S_minus, defScope S_minus, [], []⟩
def d_p_times : He.DefD := ⟨("times", none), "times", "times", defArgs S_times, defBody S_times, defScope S_times, [], []⟩
def d_p_is_less : He.DefD := ⟨("is_less", none), "is_less", "is_less", defArgs S_is_less, defBody S_is_less, defScope S_is_less, [], []⟩
def d_p_is_fraction : He.DefD := ⟨("is_fraction", none), "is_fraction", "is_fraction", defArgs S_is_fraction, defBody S_is_fraction, defScope S_is_fraction, [], []⟩
def fn : List He.DefD := [d_pot, d_take, d_among, d_whole, d_lower, d_share, d_is_lowest, d_is, d_odd, d_law, d_p_is_whole, d_p_is_tuple_of, d_p_greatest_divisor, d_p_fraction, d_p_plus, d_p_minus, d_p_times, d_p_is_less, d_p_is_fraction]
def fa : List He.Fa := [.glo "_law_pot", .glo "_law_take", .glo "_law_among", .glo "_law_whole", .glo "_law_lower", .glo "_law_share", .glo "_law_is_lowest", .glo "_law_is", .glo "_law_odd", .glo "law", .glo "is_whole", .glo "is_tuple_of", .glo "greatest_divisor", .glo "fraction", .glo "plus", .glo "minus", .glo "times", .glo "is_less", .glo "is_fraction", .free "isinstance", .free "int", .free "bool", .free "str", .free "list", .free "tuple", .free "dict", .free "len", .free "all", .free "sum", .free "enumerate", .free "range", .free "repr", .free "abs", .free "max", .free "min", .free "divmod", .free "sorted"]
abbrev R : PySem.W.OpenRow := PySem.W.OpenLaw.row PySem.Challenge.rw_crywalks_k71_fractions
abbrev hk : PySem.W.Hook := hookC 5 fa fn exK
def ob (s : PySem.W.SharedT) : AlC := obC 5 fa fn exK (HandSHeadRun.getT s)
theorem ob_eq (s : PySem.W.SharedT) : ob s = hk.obs s.abs := obC_eq (HandSHeadRun.getT_eq s)
def loose : List Str := (["is_whole", "is_tuple_of", "greatest_divisor", "fraction", "plus", "minus", "times", "is_less", "is_fraction", "_law_pot", "_law_take", "_law_among", "_law_whole", "_law_lower", "_law_share", "_law_is_lowest", "_law_is", "_law_odd"] : List Str)
theorem run (w : World) : HandSHeadRun.RunEq R (PySem.W.view R.prog [21]) hk ob 20000 loose w := by
  intro os
  kernel_rfl
end Cw
namespace Cw
open PySem PySem.Spec PyProof.Rows L2
theorem facts {P : Program} {w : World} {K : PySem.W.Frag} {h : Heap} {mg : Str → Option Value} {f : Addr} (X : K.In h) (G : h.Ns mainGlobals mg) (hfa : mg ("law" : Str) = some (.ref f)) (c : He.SaysD fa fn K) (ex : exK K = true) :
    ∃ fd : FuncData, (∀ (s : Shared) (v : Value), BindsTo s fd ⟨[v], []⟩ [("_law_script", v)]) ∧ ∀ base : Heap, K.In base → base.Ns mainGlobals mg → FnG P w K mg base CX0 5 f fd ["_law_script"] (spLaw K) := by
  have hmod := ex
  unfold exK at hmod
  have HM : HasMods K := by
    cases e : K.lookup sysModules with
    | none =>
      rw [e] at hmod
      cases hmod
    | some o =>
      rw [e] at hmod
      exact ⟨o, e, of_decide_eq_true hmod⟩
  obtain ⟨fd_pot, F_pot⟩ := c.def_ 0 (d := d_pot) rfl
  obtain ⟨fd_take, F_take⟩ := c.def_ 1 (d := d_take) rfl
  obtain ⟨fd_among, F_among⟩ := c.def_ 2 (d := d_among) rfl
  obtain ⟨fd_whole, F_whole⟩ := c.def_ 3 (d := d_whole) rfl
  obtain ⟨fd_lower, F_lower⟩ := c.def_ 4 (d := d_lower) rfl
  obtain ⟨fd_share, F_share⟩ := c.def_ 5 (d := d_share) rfl
  obtain ⟨fd_is_lowest, F_is_lowest⟩ := c.def_ 6 (d := d_is_lowest) rfl
  obtain ⟨fd_is, F_is⟩ := c.def_ 7 (d := d_is) rfl
  obtain ⟨fd_odd, F_odd⟩ := c.def_ 8 (d := d_odd) rfl
  obtain ⟨fd_law, F_law⟩ := c.def_ 9 (d := d_law) rfl
  obtain ⟨fd_p_is_whole, F_p_is_whole⟩ := c.def_ 10 (d := d_p_is_whole) rfl
  obtain ⟨fd_p_is_tuple_of, F_p_is_tuple_of⟩ := c.def_ 11 (d := d_p_is_tuple_of) rfl
  obtain ⟨fd_p_greatest_divisor, F_p_greatest_divisor⟩ := c.def_ 12 (d := d_p_greatest_divisor) rfl
  obtain ⟨fd_p_fraction, F_p_fraction⟩ := c.def_ 13 (d := d_p_fraction) rfl
  obtain ⟨fd_p_plus, F_p_plus⟩ := c.def_ 14 (d := d_p_plus) rfl
  obtain ⟨fd_p_minus, F_p_minus⟩ := c.def_ 15 (d := d_p_minus) rfl
  obtain ⟨fd_p_times, F_p_times⟩ := c.def_ 16 (d := d_p_times) rfl
  obtain ⟨fd_p_is_less, F_p_is_less⟩ := c.def_ 17 (d := d_p_is_less) rfl
  obtain ⟨fd_p_is_fraction, F_p_is_fraction⟩ := c.def_ 18 (d := d_p_is_fraction) rfl
  have b_pot := FunD.bindsN (ps := P_pot) F_pot fun _ _ _ _ _ _ us hl => match us, hl with | [_, _], _ => rfl
  have b_take := FunD.bindsN (ps := P_take) F_take fun _ _ _ _ _ _ us hl => match us, hl with | [_, _], _ => rfl
  have b_among := FunD.bindsN (ps := P_among) F_among fun _ _ _ _ _ _ us hl => match us, hl with | [_, _], _ => rfl
  have b_whole := FunD.bindsN (ps := P_whole) F_whole fun _ _ _ _ _ _ us hl => match us, hl with | [_], _ => rfl
  have b_lower := FunD.bindsN (ps := P_lower) F_lower fun _ _ _ _ _ _ us hl => match us, hl with | [_], _ => rfl
  have b_share := FunD.bindsN (ps := P_share) F_share fun _ _ _ _ _ _ us hl => match us, hl with | [_, _], _ => rfl
  have b_is_lowest := FunD.bindsN (ps := P_is_lowest) F_is_lowest fun _ _ _ _ _ _ us hl => match us, hl with | [_], _ => rfl
  have b_is := FunD.bindsN (ps := P_is) F_is fun _ _ _ _ _ _ us hl => match us, hl with | [_, _, _], _ => rfl
  have b_odd := FunD.bindsN (ps := P_odd) F_odd fun _ _ _ _ _ _ us hl => match us, hl with | [_], _ => rfl
  have b_p_is_whole := FunD.bindsN (ps := P_is_whole) F_p_is_whole fun _ _ _ _ _ _ us hl => match us, hl with | [_], _ => rfl
  have b_p_is_tuple_of := FunD.bindsN (ps := P_is_tuple_of) F_p_is_tuple_of fun _ _ _ _ _ _ us hl => match us, hl with | [_, _], _ => rfl
  have b_p_greatest_divisor := FunD.bindsN (ps := P_greatest_divisor) F_p_greatest_divisor fun _ _ _ _ _ _ us hl => match us, hl with | [_, _], _ => rfl
  have b_p_fraction := FunD.bindsN (ps := P_fraction) F_p_fraction fun _ _ _ _ _ _ us hl => match us, hl with | [_, _], _ => rfl
  have b_p_plus := FunD.bindsN (ps := P_plus) F_p_plus fun _ _ _ _ _ _ us hl => match us, hl with | [_, _], _ => rfl
  have b_p_minus := FunD.bindsN (ps := P_minus) F_p_minus fun _ _ _ _ _ _ us hl => match us, hl with | [_, _], _ => rfl
  have b_p_times := FunD.bindsN (ps := P_times) F_p_times fun _ _ _ _ _ _ us hl => match us, hl with | [_, _], _ => rfl
  have b_p_is_less := FunD.bindsN (ps := P_is_less) F_p_is_less fun _ _ _ _ _ _ us hl => match us, hl with | [_, _], _ => rfl
  have b_p_is_fraction := FunD.bindsN (ps := P_is_fraction) F_p_is_fraction fun _ _ _ _ _ _ us hl => match us, hl with | [_], _ => rfl
  have ef : He.ga K "law" = f := by
    have z := (He.glo_ok X G (c.fact 9 (f := .glo "law") rfl)).symm.trans hfa
    exact Value.ref.inj (Option.some.inj z)
  refine ⟨fd_law, fun s v => ?_, fun base hK hN => ?_⟩
  · have z := FunD.bindsA (ps := ["_law_script"]) F_law (fun _ _ _ _ _ _ us hl => match us, hl with | [_], _ => rfl) s [v] rfl
    exact z
  have B : Blt mg := ⟨(He.free_ok X G (c.fact 19 (f := .free "isinstance") rfl)), (He.free_ok X G (c.fact 20 (f := .free "int") rfl)), (He.free_ok X G (c.fact 21 (f := .free "bool") rfl)), (He.free_ok X G (c.fact 22 (f := .free "str") rfl)), (He.free_ok X G (c.fact 23 (f := .free "list") rfl)), (He.free_ok X G (c.fact 24 (f := .free "tuple") rfl)), (He.free_ok X G (c.fact 25 (f := .free "dict") rfl)), (He.free_ok X G (c.fact 26 (f := .free "len") rfl)), (He.free_ok X G (c.fact 27 (f := .free "all") rfl)), (He.free_ok X G (c.fact 28 (f := .free "sum") rfl)), (He.free_ok X G (c.fact 29 (f := .free "enumerate") rfl)), (He.free_ok X G (c.fact 30 (f := .free "range") rfl)), (He.free_ok X G (c.fact 31 (f := .free "repr") rfl)), (He.free_ok X G (c.fact 32 (f := .free "abs") rfl)), (He.free_ok X G (c.fact 33 (f := .free "max") rfl)), (He.free_ok X G (c.fact 34 (f := .free "min") rfl)), (He.free_ok X G (c.fact 35 (f := .free "divmod") rfl)), (He.free_ok X G (c.fact 36 (f := .free "sorted") rfl))⟩
  have TO : TakeOk P w K mg base := ⟨_, _, F_take, b_take, ok_take F_take B.divmod_, (He.glo_ok X G (c.fact 1 (f := .glo "_law_take") rfl))⟩
  have PO : Has P w K mg base "_law_pot" S_pot 1 P_pot (spPot K) := ⟨_, _, F_pot, b_pot, ok_pot F_pot B.len_ B.abs_ B.max_, (He.glo_ok X G (c.fact 0 (f := .glo "_law_pot") rfl))⟩
  have w1 : Has P w K mg base "is_whole" S_is_whole 1 P_is_whole spW := ⟨_, _, F_p_is_whole, b_p_is_whole, ok_w F_p_is_whole B, (He.glo_ok X G (c.fact 10 (f := .glo "is_whole") rfl))⟩
  have w2 : Has P w K mg base "is_tuple_of" S_is_tuple_of 1 P_is_tuple_of (spT K) := ⟨_, _, F_p_is_tuple_of, b_p_is_tuple_of, ok_t F_p_is_tuple_of B, (He.glo_ok X G (c.fact 11 (f := .glo "is_tuple_of") rfl))⟩
  have w3 : Has P w K mg base "greatest_divisor" S_greatest_divisor 1 P_greatest_divisor spG := ⟨_, _, F_p_greatest_divisor, b_p_greatest_divisor, ok_g F_p_greatest_divisor, (He.glo_ok X G (c.fact 12 (f := .glo "greatest_divisor") rfl))⟩
  have w4 : Has P w K mg base "fraction" S_fraction 2 P_fraction spF := ⟨_, _, F_p_fraction, b_p_fraction, ok_f F_p_fraction w3 B, (He.glo_ok X G (c.fact 13 (f := .glo "fraction") rfl))⟩
  have w5 : Has P w K mg base "plus" S_plus 3 P_plus spPl := ⟨_, _, F_p_plus, b_p_plus, ok_pl F_p_plus w4, (He.glo_ok X G (c.fact 14 (f := .glo "plus") rfl))⟩
  have w6 : Has P w K mg base "minus" S_minus 3 P_minus spMi := ⟨_, _, F_p_minus, b_p_minus, ok_mi F_p_minus w4, (He.glo_ok X G (c.fact 15 (f := .glo "minus") rfl))⟩
  have w7 : Has P w K mg base "times" S_times 3 P_times spTi := ⟨_, _, F_p_times, b_p_times, ok_ti F_p_times w4, (He.glo_ok X G (c.fact 16 (f := .glo "times") rfl))⟩
  have w8 : Has P w K mg base "is_less" S_is_less 1 P_is_less spLs := ⟨_, _, F_p_is_less, b_p_is_less, ok_ls F_p_is_less, (He.glo_ok X G (c.fact 17 (f := .glo "is_less") rfl))⟩
  have w9 : Has P w K mg base "is_fraction" S_is_fraction 2 P_is_fraction spIF := ⟨_, _, F_p_is_fraction, b_p_is_fraction, ok_if F_p_is_fraction w1 w2 w3 B, (He.glo_ok X G (c.fact 18 (f := .glo "is_fraction") rfl))⟩
  have r1 : Has P w K mg base "_law_share" S_share 1 P_share spSh := ⟨_, _, F_share, b_share, ok_sh F_share B, (He.glo_ok X G (c.fact 5 (f := .glo "_law_share") rfl))⟩
  have r2 : Has P w K mg base "_law_is_lowest" S_is_lowest 2 P_is_lowest spIL := ⟨_, _, F_is_lowest, b_is_lowest, ok_il F_is_lowest r1 B, (He.glo_ok X G (c.fact 6 (f := .glo "_law_is_lowest") rfl))⟩
  have r3 : Has P w K mg base "_law_is" S_is 3 P_is spIs := ⟨_, _, F_is, b_is, ok_is F_is r2, (He.glo_ok X G (c.fact 7 (f := .glo "_law_is") rfl))⟩
  have r4 : Has P w K mg base "_law_among" S_among 2 P_among spAm := ⟨_, _, F_among, b_among, ok_am F_among TO B, (He.glo_ok X G (c.fact 2 (f := .glo "_law_among") rfl))⟩
  have r5 : Has P w K mg base "_law_whole" S_whole 2 P_whole spWh := ⟨_, _, F_whole, b_whole, ok_wh F_whole TO, (He.glo_ok X G (c.fact 3 (f := .glo "_law_whole") rfl))⟩
  have r6 : Has P w K mg base "_law_lower" S_lower 3 P_lower spLo := ⟨_, _, F_lower, b_lower, ok_lo F_lower TO r5, (He.glo_ok X G (c.fact 4 (f := .glo "_law_lower") rfl))⟩
  have r7 : Has P w K mg base "_law_odd" S_odd 4 P_odd spOd := ⟨_, _, F_odd, b_odd, ok_od F_odd r4 r5 r6 w4 B, (He.glo_ok X G (c.fact 8 (f := .glo "_law_odd") rfl))⟩
  have z := ok_law F_law PO r5 r6 w4 r3 w9 w5 w7 w6 w8 r7 r2 B HM
  rw [show He.fAd K d_law.at_ = f from ef] at z
  exact z
end Cw
open PySem PySem.W PySem.Calls PyProof.Rows
set_option maxRecDepth 100000 in
set_option maxHeartbeats 0 in
theorem PySem.Challenge.cw_crywalks_k71_fractions_holds : PySem.Challenge.rw_crywalks_k71_fractions.Holds := by
  w_on; o_law
  refine HandSHeadRun.head_any (r := Cw.R) (q := view Cw.R.prog [21]) (H := Cw.hk) (ob := Cw.ob) (M := 20000) (loose := Cw.loose) (d := HandSHeadRun.topDef Cw.R.prog 21) (kwd := []) Cw.ob_eq
    (by kernel_rfl) (fun s => by kernel_rfl) Cw.run (by kernel_rfl) (by kernel_rfl) (by kernel_rfl) (by rfl) (by first | assumption | decide +kernel) (by decide +kernel) ⟨rfl, rfl, rfl, rfl, rfl, by decide +kernel⟩ ?hw ?hc
  case hw => w_witness2
  case hc =>
    refine Cw.walkG (l := PySem.Challenge.rw_crywalks_k71_fractions) (n := 63) (k := 5) (x := "_law_script") rfl (by decide) (by kernel_rfl) ⟨rfl, by decide, by decide⟩ ?F
    intro w mg fa h Y G hmg0
    obtain ⟨K, KX, c, ex⟩ := Y
    have hmg : mg ("law" : PySem.Str) = some (.ref fa) := by
      have e : (HandSHeadRun.topDef Cw.R.prog 21).name = ("law" : PySem.Str) := by kernel_rfl
      rw [← e]
      exact hmg0
    obtain ⟨fd, hb, hF⟩ := Cw.facts (P := PySem.Challenge.rw_crywalks_k71_fractions.prog) (w := w) KX G hmg c ex
    exact ⟨K, fd, Cw.spLaw K, KX, hb, fun H a ns hl _ hS => ⟨a, ns, rfl, hS, fun _ => rfl⟩, hF⟩
