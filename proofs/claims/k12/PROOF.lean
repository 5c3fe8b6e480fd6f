import PyProof.Rows.All
import Wide.All
import OpenK.AllK
import Wide.FinOn
import Lean
import HandS.ForMost
import HandS.ForExc
import HandS.Head0
import HandS.Head1
import HandS.Head2
import HandS.HeadEnd
import HandS.HeadHook1
import HandS.HeadHook2
import HandS.WideBits
import HandS.Wide
import HandS.IsInst
import HandS.ExcInit
import HandS.ExcValue
import HandS.Deep
import HandS.Codes
import HandS.Walk
import HandS.Zip
import KE.KExcIs
import HandS.DictTup
import HandS.ListItems
import HandS.SortInts
import HandS.SortRule
import HandS.Keys
import KE.GoesEnum
import HandS.MakeKwOnly
import HandS.Conv
import KE.KDictPairs
import KE.KRevSl
import HandS.OwnEq
import HandS.FStr
import PyProof.InstNe
import HandS.SetFor
import HandS.Strs
import HandS.TryOnly
import HandS.ExcOwn
import HandS.WordsExc
import HandS.DictComp
import HandS.ExcIs
import HandS.ExcField
import PyProof.EqKinds
import PyProof.TupleOfSeq
import PyProof.NeKinds
import PyProof.FactsAll.dict_2
import PySem.Challenge.RW_crywalks_k12_whole_refused_in_order
import HandS.Small
import HandS.TupAny
import PyProof.Rows.IntBool
set_option Elab.async false
set_option linter.all false
set_option maxRecDepth 100000
set_option maxHeartbeats 4000000
/-! Promises of defs that are called where nothing is being shown (no guard stands): for repr of lists. -/
namespace Cw
open PySem PySem.Spec PyProof.Rows L2

/-- as the layer's promise of a def, where no guard is on the stack -/
structure FnG (P : Program) (w : World) (K : PySem.W.Frag) (mg : Str → Option Value) (base : Heap) (CX : CXT) (k : Nat)
    (f : Addr) (fd : FuncData) (ps : List Str) (sp : Sp) : Prop where
  len : ∀ vs H Q E, sp vs H Q E → vs.length = ps.length
  go : ∀ (A : Around) (out : List Env) (s : Shared) (H : Hp) (args : Args) (us : List Value) (vs : List V) (Q : VK) (E : XK),
    A.guards = some [] → Room k A → Env0 P w K mg base A out s H → BindsTo s fd args (ps.zip us) → Vals vs us →
    sp vs H Q E → codeAny (model P w) A (.call (.ref f) args) (CR CX out P w H s Q E) s

section
variable {P : Program} {w : World} {K : PySem.W.Frag} {mg : Str → Option Value} {base : Heap}
theorem FnG.ofOk {CX : CXT} {k : Nat} {f : Addr} {fd : FuncData} {ps : List Str} {sp : Sp}
    (F : FnOk P w K mg base CX k f fd ps sp) : FnG P w K mg base CX k f fd ps sp :=
  ⟨F.len, fun A out s H args us vs Q E _ hr => F.run A out s H args us vs Q E hr⟩
theorem FnG.mono {CX : CXT} {j k : Nat} {f : Addr} {fd : FuncData} {ps : List Str} {sp : Sp}
    (F : FnG P w K mg base CX j f fd ps sp) (h : j ≤ k) : FnG P w K mg base CX k f fd ps sp :=
  ⟨F.len, fun A out s H args us vs Q E hg hr => F.go A out s H args us vs Q E hg (hr.mono h)⟩

/-- a def by its body -/
theorem fnG {CX : CXT} {k : Nat} {f : Addr} {name qual : Str} {params : Arguments} {body : List Stmt} {scope : Scope}
    {dV kV doc pm cdv ct oc : Value} {an od : Option Addr} {osl : Array (Option Value)} {N ps : List Str} {sp : Sp}
    (at_ : K.lookup f = some ⟨oc, od, .func (PySem.W.fnOf name qual params body scope dV kV doc pm an cdv ct), osl⟩)
    (code : PySem.W.codeIn K cdv qual = true) (S : FnScope N ps scope)
    (len : ∀ vs H Q E, sp vs H Q E → vs.length = ps.length)
    (walk : ∀ (A : Around) (out : List Env) (s : Shared) (H : Hp) (vs : List V) (Q : VK) (E : XK), A.guards = some [] →
      Room k (A.deeper (envOfC qual scope s.heap.objs.size f cdv)) → sp vs H Q E →
      ∃ t, PSs (cxOf CX P w K mg base N qual scope f cdv A out s H E) body t ∧
        t { nx := fun _ H' => Q .non H', rt := Q } (start N vs) H) :
    FnG P w K mg base CX (k + 1) f (PySem.W.fnOf name qual params body scope dV kV doc pm an cdv ct) ps sp := by
  refine ⟨len, fun A out s H args us vs Q E hg hr e0 hb rel wish => ?_⟩
  have same : ∀ b o, base.get? b = some o → s.heap.get? b = some o := fun b o e => (e0.bs b o e).1
  have kin : K.In s.heap := e0.mod.kin.keeps same
  have kinds : ∀ y ∈ ps.zip us, scope.names.lookup y.1 = some .local ∨
      (scope.names.lookup y.1 = some .cell ∧ ((cellsFrom (s.heap.objs.size + 1) scope.names []).lookup y.1).isSome = true) := by
    rintro ⟨n, v⟩ hy
    rcases S.par n (List.of_mem_zip hy).1 with q | q
    · exact .inl q
    · exact .inr ⟨q, PySem.W.cellsFrom_some _ _ _ (.inl q)⟩
  refine codeAny_call_function hr.depth (kin _ _ at_) rfl S.co S.gen rfl (PySem.W.codeRec_of kin code) (hb _ _ _ _ ?_)
  refine wpAny_newFunctionEnv_cells S.kind kinds fun env ee s1 ic => ?_
  subst ee
  refine ⟨(e0.mod.nolimit.keeps same).keeps ic.toInCall.keep, codeAny_func ?_⟩
  obtain ⟨t, ht, hq⟩ := walk A out s H vs Q E hg (hr.deeper _) wish
  have I := inv_start (CX := CX) (E := E) S hr.hd e0 (len _ _ _ _ wish) rel ic
  refine wpAny_mono (ht.run [] s1 (start N vs) H _ I hq) (fun fl s' hs => ?_) fun e s' hs => hs
  cases fl with
  | ret u =>
    obtain ⟨v, σ', H', J, rv, q⟩ := hs
    exact ⟨v, H', J.os, J.bare, J.base, J.hok, rv, q⟩
  | next =>
    obtain ⟨σ', H', J, q⟩ := hs
    exact ⟨V.non, H', J.os, J.bare, J.base, J.hok, (rfl : RelV V.non Value.none), q⟩
  | brk => exact hs.elim fun _ z => z.elim fun _ z => z.2.elim
  | cont => exact hs.elim fun _ z => z.elim fun _ z => z.2.elim

/-- the same for a def as the head's facts tell it (no exception leaves it) -/
theorem defG {x qual : Str} {ar : Arguments} {bd : List Stmt} {sc : Scope} {dvs : List V} {kws : List (Str × V)} {f : Addr}
    {fd : FuncData} {N ps : List Str} {k : Nat} {sp : Sp} (F : FunD K x qual ar bd sc dvs kws f fd) (S : FnScope N ps sc)
    (len : ∀ vs H Q E, sp vs H Q E → vs.length = ps.length)
    (walk : ∀ (cdv : Value) (A : Around) (out : List Env) (s : Shared) (H : Hp) (vs : List V) (Q : VK) (E : XK),
      A.guards = some [] → Room k (A.deeper (envOfC qual sc s.heap.objs.size f cdv)) → sp vs H Q E →
      ∃ t, PSs (cxOf CX0 P w K mg base N qual sc f cdv A out s H E).nox bd t ∧
        t { nx := fun _ H' => Q .non H', rt := Q } (start N vs) H) : FnG P w K mg base CX0 (k + 1) f fd ps sp := by
  obtain ⟨oc, od, dV, kV, doc, pm, an, cdv, ct, osl, e, lk, hcd, _⟩ := F.ex
  subst e
  refine fnG lk hcd S len fun A out s H vs Q E hg hr wish => ?_
  obtain ⟨t, h, q⟩ := walk cdv A out s H vs Q E hg hr wish
  exact ⟨t, h.nox, q⟩
end

section
variable {X : Cx} {CX : CXT} {k : Nat} {f : Addr} {fd : FuncData} {ps : List Str} {sp : Sp} {dvs : List V} {ds : List Value} {E : XK}
theorem runG {pins : List (Addr × Obj)} {σ : L2.St} {H : Hp} {s : Shared} {Q : VK} {us : List Value} {vs : List V}
    (F : FnG X.prog X.w X.K X.mg X.base CX k f fd ps sp) (hg : X.A.guards = some []) (hr : Room k X.A) (hb : Binds X.K fd ps ds)
    (hd : Vals dvs ds) (hx : Passes CX X E) (I : Inv X pins σ H s) (r : Vals vs us) (h : sp (vs ++ dvs) H Q E) :
    wpAny (model X.prog X.w) X.A (call (.ref f) us) (EP X pins σ Q) X.xe s := by
  have rel : Vals (vs ++ dvs) (us ++ ds) := r.append hd
  have many : (us ++ ds).length = ps.length := rel.length.symm.trans (F.len _ _ _ _ h)
  have go := F.go X.A X.stack s H ⟨us, []⟩ (us ++ ds) (vs ++ dvs) Q E hg hr I.env0 (hb s us I.kIn many) rel h
  refine wpAny_call (codeAny_mono go fun res s' hq => ?_)
  match res, hq with
  | .error e, hq => exact hx pins σ H s e s' I hq
  | .ok (.ret u), hq => exact I.after hq
  | .ok .next, hq => exact hq.elim
  | .ok .brk, hq => exact hq.elim
  | .ok .cont, hq => exact hq.elim
/-- f(e, ..) -/
theorem pe_callG {x : Str} {p pos : Pos} {e : Expr} {es : List Expr} {t : TA} (F : FnG X.prog X.w X.K X.mg X.base CX k f fd ps sp)
    (hgs : X.A.guards = some []) (hr : Room k X.A) (hg : Gl X x) (hm : X.mg x = some (.ref f)) (hk : PySem.W.keepIn X.K (.ref f) = true)
    (hb : Binds X.K fd ps ds) (hd : Vals dvs ds) (hx : Passes CX X E) (ha : PA X (e :: es) t)
    (hdb : (x == ("__debug__" : Str)) = false := by decide)
    (he : starEach (e :: es) X.env = (false, eval e X.env) :: starEach es X.env := by rfl)
    (hpl : (backTo pos (starEach es X.env)).any (·.1) = false := by rfl) :
    PE X (.Call (.Name x p) (e :: es) [] pos) (tCall sp dvs E t) := by
  constructor
  intro pins s σ H Q I h
  refine wpAny_Call_Name_kw (ld_glob I hg hm ?_ hdb)
  refine PySem.W.callWith_K (h₀ := X.base) I.ok.mod.kin hk ?_ he hpl
  refine thn (ha.run pos pins s σ H _ I h) fun us s1 z => ?_
  obtain ⟨vs, H1, I1, rel, q⟩ := z
  exact ⟨I1.kIn, runG F hgs hr hb hd hx I1 rel q⟩
end

/-! ### the law's own call -/
section
variable {P : Program} {w : World} {K : PySem.W.Frag} {mg mb : Str → Option Value} {k : Nat} {fa a : Addr} {fd : FuncData} {x : Str}
  {sp : Sp} {s1 : Shared} {vs : List Value} {ns : List Int}
theorem lawCore {H : Hp} (kin : K.In s1.heap) (gl : s1.heap.Ns mainGlobals mg) (bl : s1.heap.Ns builtinsNs mb)
    (bb : ∀ y : Str, y ≠ "__name__" → mb y = bootBuiltins y) (lim : s1.heap.NoLimit) (gens : s1.gens = #[])
    (obj : s1.heap.get? a = some { cls := .type "list", data := .seq vs.toArray }) (room : Room k callerA)
    (F : ∀ base : Heap, K.In base → base.Ns mainGlobals mg → FnG P w K mg base CX0 k fa fd [x] sp)
    (bind : ∀ (s : Shared) (u : Value), BindsTo s fd ⟨[u], []⟩ [(x, u)]) (only : Only H)
    (wish : sp [.ref a] H (fun v _ => v = .bl true) fun _ _ _ => False) (hok : HOk P w H s1.heap)
    (hA : ∀ b, H b ≠ none → b = a) (hK : H a ≠ none → K.lookup a = none) :
    codeAny (model P w) callerA (.call (.ref fa) ⟨[.ref a], []⟩)
      (fun r s' => r = .ok (.ret (.bool true)) ∧ OldK s1.heap s'.heap ∧ s'.os = s1.os ∧ AllBare s'.gens) s1 := by
  have hid : ∀ {b : Addr} {o : Obj}, s1.heap.get? b = some o → H b = none → (hidT s1.heap H).get? b = some o :=
    fun e n => hidT_get e n
  have free : ∀ {b : Addr} {o : Obj} {es : Array DictEntry} {ep : Nat}, s1.heap.get? b = some o → o.data = .dict es ep → H b = none := by
    intro b o es ep e d
    by_cases q : H b = none
    · exact q
    · have e' := hA b q
      subst e'
      rw [obj] at e
      cases e
      exact Data.noConfusion d
  have ns' : ∀ {b : Addr} {m : Str → Option Value}, s1.heap.Ns b m → (hidT s1.heap H).Ns b m :=
    fun ⟨o, es, ep, e, d, r⟩ => ⟨o, es, ep, hid e (free e d), d, r⟩
  have kin' : K.In (hidT s1.heap H) := by
    intro b o e
    refine hid (kin b o e) ?_
    by_cases q : H b = none
    · exact q
    · have e' := hA b q
      subst e'
      rw [hK q] at e
      cases e
  obtain ⟨mc, l1, l2⟩ := lim
  have md : Mod K mg (hidT s1.heap H) := ⟨kin', ns' gl, ⟨mb, ns' bl, bb⟩, mc, ns' l1, l2⟩
  have e0 : Env0 P w K mg (hidT s1.heap H) callerA [] s1 H :=
    ⟨rfl, md, fun b o e => of_hidT e, Nat.le_of_eq (hidT_size _ _), trivial, (fun b hb => (List.not_mem_nil (show b ∈ ([] : List Addr) from hb)).elim), hok, AllBare.of_eq gens⟩
  have go := (F _ kin' (ns' gl)).go callerA [] s1 H ⟨[.ref a], []⟩ [.ref a] [.ref a] _ _ rfl room e0 (bind s1 (.ref a)) (.cons rfl .nil) wish
  refine codeAny_mono go fun res s' h => ?_
  match res, h with
  | .error e, h => exact False.elim h
  | .ok .next, h => exact h.elim
  | .ok .brk, h => exact h.elim
  | .ok .cont, h => exact h.elim
  | .ok (.ret u), h =>
    obtain ⟨v, H', os, bare, un, hok', rv, q⟩ := h
    have q' : v = .bl true := q
    subst q'
    have eu : u = Value.bool true := rv
    subst eu
    refine ⟨rfl, OldK.of_keep fun b o e => ?_, os, bare⟩
    rcases only b with z | ⟨ob, xs, z⟩
    · exact un.keep b o e z (fun y => (List.not_mem_nil (show b ∈ ([] : List Addr) from y)).elim) List.not_mem_nil
    · have y1 := (hok b _ z).1
      have y2 := (hok' b _ (un.frzs b ob _ z)).1
      rw [e] at y1
      cases y1
      exact y2
theorem lawG (kin : K.In s1.heap) (gl : s1.heap.Ns mainGlobals mg) (bl : s1.heap.Ns builtinsNs mb)
    (bb : ∀ y : Str, y ≠ "__name__" → mb y = bootBuiltins y) (lim : s1.heap.NoLimit) (gens : s1.gens = #[])
    (obj : s1.heap.get? a = some { cls := .type "list", data := .seq vs.toArray }) (isInts : IntsAre vs ns) (hl : ns.length ≤ sizeLine)
    (room : Room k callerA) (F : ∀ base : Heap, K.In base → base.Ns mainGlobals mg → FnG P w K mg base CX0 k fa fd [x] sp)
    (bind : ∀ (s : Shared) (u : Value), BindsTo s fd ⟨[u], []⟩ [(x, u)])
    (wish : ∀ H : Hp, Only H → SqL K H a (ns.map V.int) → sp [.ref a] H (fun v _ => v = .bl true) fun _ _ _ => False) :
    codeAny (model P w) callerA (.call (.ref fa) ⟨[.ref a], []⟩)
      (fun r s' => r = .ok (.ret (.bool true)) ∧ OldK s1.heap s'.heap ∧ s'.os = s1.os ∧ AllBare s'.gens) s1 := by
  have rel := vals_ints isInts
  cases hk : K.lookup a with
  | some o =>
    have e := kin a o hk
    rw [obj] at e
    cases e
    have on : Only (fun _ => none) := fun _ => .inl rfl
    have sq : SqL K (fun _ => none) a (ns.map V.int) :=
      .inr ⟨_, vs.toArray, _, hk, rfl, rfl, rfl, by rw [List.size_toArray, isInts.length]; exact hl, by simpa using rel⟩
    exact lawCore kin gl bl bb lim gens obj room F bind on (wish _ on sq) (fun b u z => by cases (show (none : Option HO) = some u from z))
      (fun b z => absurd rfl z) (fun z => absurd rfl z)
  | none =>
    let H : Hp := fun b => if b = a then some (.frz { cls := .type "list", data := .seq vs.toArray } (.lst (ns.map V.int))) else none
    have here : H a = some (.frz { cls := .type "list", data := .seq vs.toArray } (.lst (ns.map V.int))) := if_pos rfl
    have other : ∀ b, b ≠ a → H b = none := fun b hb => if_neg hb
    have on : Only H := fun b => by
      by_cases hb : b = a
      · subst hb
        exact .inr ⟨_, _, here⟩
      · exact .inl (other b hb)
    refine lawCore (H := H) kin gl bl bb lim gens obj room F bind on (wish H on (.inl (.inr ⟨_, here⟩))) ?_ ?_ (fun _ => hk)
    · intro b u z
      by_cases hb : b = a
      · subst hb
        rw [here] at z
        cases z
        exact ⟨obj, by rw [List.length_map]; exact hl, vs, _, rel, obj⟩
      · rw [other b hb] at z
        cases z
    · intro b z
      by_cases hb : b = a
      · exact hb
      · exact absurd (other b hb) z
end
/-- the walk of the law's row -/
theorem walkG {l : PySem.W.OpenLaw} {n k : Nat} {q : Program} {loose : List Str} {XP : (Str → Option Value) → Heap → Prop}
    {YP : World → Heap → Prop} {d : DefRec} {x : Str} (hn : l.most = some n) (hn2 : n ≤ sizeLine) (hdf : d.params.defaults = [])
    (room : Room k callerA)
    (F : ∀ (w : World) (mg : Str → Option Value) (fa : Addr) (h : Heap), YP w h → h.Ns mainGlobals mg → mg d.name = some (.ref fa) →
      ∃ (K : PySem.W.Frag) (fd : FuncData) (sp : Sp), K.In h ∧ (∀ (s : Shared) (u : Value), BindsTo s fd ⟨[u], []⟩ [(x, u)]) ∧
        (∀ (H : Hp) (a : Addr) (ns : List Int), ns.length ≤ n → Only H → SqL K H a (ns.map V.int) →
          sp [.ref a] H (fun v _ => v = .bl true) fun _ _ _ => False) ∧
        ∀ base : Heap, K.In base → base.Ns mainGlobals mg → FnG l.prog w K mg base CX0 k fa fd [x] sp) :
    PySem.W.WalkO q loose XP YP l.row.toRowW d [] (fun f vs => PySem.call f vs) := by
  refine Att.attach_call hn hdf ?_
  intro w s0 s1 mg mb fa o pm cd doc a vs ns G Y ho hd hcd hmg hobj hints hlen hg
  obtain ⟨K, fd, sp, kin, bind, wish, hF⟩ := F w mg fa _ Y G.T.g hmg
  exact lawG kin G.T.g G.T.b G.T.builtins G.T.nolimit hg hobj hints (Nat.le_trans hlen hn2) room hF bind
    fun H hO hS => wish H a ns hlen hO hS
end Cw
namespace Cw
open PySem PySem.Spec PyProof.Rows L2
abbrev FnP (K : PySem.W.Frag) (x q : Str) (st : Stmt) (f : Addr) (fd : FuncData) : Prop := FunD K x q (defArgs st) (defBody st) (defScope st) [] [] f fd
/-! ### heaps -/
def But (p : Addr) (H H' : Hp) : Prop := ∀ b o, b ≠ p → H b = some o → H' b = some o
theorem But.trans {p : Addr} {H H1 H2 : Hp} (a : But p H H1) (b : But p H1 H2) : But p H H2 := fun c o n e => b c o n (a c o n e)
theorem But.refl {p : Addr} {H : Hp} : But p H H := fun _ _ _ e => e
theorem Same.but {p : Addr} {H H1 : Hp} (a : Same H H1) : But p H H1 := fun c o _ e => a c o e
theorem same_new {H : Hp} {p : Addr} {o : HO} (h : H p = none) : Same H (upd H p o) := fun b x e => by
  rw [upd_ne (ne_of_none e h)]
  exact e
theorem but_upd {H : Hp} {p : Addr} {o : HO} : But p H (upd H p o) := fun b x n e => by
  rw [upd_ne n]
  exact e
theorem atI_int {xs : List V} {k : Int} {v : V} (h0 : 0 ≤ k) (h : xs[k.toNat]? = some v) : atI xs k = some v := by
  have e : (k.toNat : Int) = k := Int.toNat_of_nonneg h0
  rw [← e]
  exact atI_nat h
/-- a pot: what is left of a cell's digits, and a number that is mixed on -/
def Pot (H : Hp) (p : Addr) : Prop := ∃ m0 m1 : Int, H p = some (.lst [.int m0, .int m1]) ∧ 0 ≤ m0 ∧ 0 ≤ m1 ∧ m1 ≤ 2147483587
theorem Pot.same {H H' : Hp} {p : Addr} (h : Pot H p) (s : Same H H') : Pot H' p := by
  obtain ⟨a, b, e, r⟩ := h
  exact ⟨a, b, s _ _ e, r⟩
theorem Pot.ne {H : Hp} {p q : Addr} (h : Pot H p) (n : H q = none) : p ≠ q := by
  obtain ⟨a, b, e, r⟩ := h
  exact ne_of_none e n
section
variable {X : Cx}
/-- divmod by a divisor of up to nine thousand bits -/
theorem call_divmodL : CallR X (.builtin "divmod") (fun xs H Q => ∃ i j, xs = [.int i, .int j] ∧ CDivW i j ∧
    ∀ p, H p = none → Q (.ref p) (upd H p (.tup [.int (i / j), .int (i % j)]))) := by
  intro pins s σ H xs us Q I r h
  obtain ⟨i, j, e, c, q⟩ := h
  exact call_divmodW pins s σ H xs us Q I r ⟨i, j, e, ⟨c.1, PyProof.noPylong_of_log2 c.2⟩, q⟩
end
/-- what a pot does when something is drawn of it: it is a pot still, and nothing that stood is otherwise -/
def Drew (p : Addr) (H H' : Hp) : Prop := But p H H' ∧ Pot H' p
theorem Drew.trans {p : Addr} {H H1 H2 : Hp} (a : Drew p H H1) (b : Drew p H1 H2) : Drew p H H2 := ⟨a.1.trans b.1, b.2⟩
theorem log_small {m : Int} {n : Nat} (h0 : 0 < m) (h : m ≤ (n : Int)) (hn : n < 2 ^ 200) : m.natAbs.log2 < 9000 := by
  have h1 : m.natAbs < 2 ^ 200 := by omega
  exact Nat.lt_of_lt_of_le (PySem.Flt.log2_lt_of (by decide) h1) (by decide)
def sign (c : Nat) : Str := ⟨#[c]⟩
theorem sum_ones {α : Type} : ∀ cs : List α, (cs.map fun _ => 1).sum = cs.length
  | [] => rfl
  | _ :: r => by
    rw [List.map_cons, List.sum_cons, sum_ones r, List.length_cons]
    omega
theorem joinL_nil : ∀ ps : List (List Nat), TL.joinL [] ps = ps.flatten
  | [] => rfl
  | [p] => by simp [TL.joinL]
  | p :: q :: r => by
    show p ++ ([] ++ TL.joinL [] (q :: r)) = _
    rw [joinL_nil (q :: r), List.nil_append]
    rfl
theorem flat_sign : ∀ cs : List Nat, ((cs.map sign).map TL.tl).flatten = cs
  | [] => rfl
  | c :: r => by
    show [c] ++ ((r.map sign).map TL.tl).flatten = c :: r
    rw [flat_sign r]
    rfl
theorem tl_word (cs : List Nat) : TL.tl (Txt.join (Str.ofString "") (cs.map sign)) = cs := by
  rw [TL.join_eq, TL.tl_join]
  show TL.joinL [] _ = cs
  rw [joinL_nil, flat_sign]
theorem letter_at : ∀ {x : Int}, 0 ≤ x → x.toNat < 26 → atI (Str.ofString "abcdefghijklmnopqrstuvwxyz").cps.toList x = some (97 + x.toNat) := by
  intro x h0 h
  have e : (x.toNat : Int) = x := Int.toNat_of_nonneg h0
  rw [← e]
  refine atI_nat (j := x.toNat) ?_
  have key : ∀ n : Fin 26, (Str.ofString "abcdefghijklmnopqrstuvwxyz").cps.toList[n.val]? = some (97 + n.val) := by decide +kernel
  exact key ⟨x.toNat, h⟩
/-- small letters, so many at most -/
def Small (n : Nat) (z : Str) : Prop := z.length ≤ n ∧ ∀ c ∈ z.cps.toList, 97 ≤ c ∧ c ≤ 122
theorem word_small {cs : List Nat} {n : Nat} (h : ∀ c ∈ cs, 97 ≤ c ∧ c ≤ 122) (hn : cs.length ≤ n) : Small n (Txt.join (Str.ofString "") (cs.map sign)) := by
  have e := tl_word cs
  refine ⟨?_, ?_⟩
  · have e2 := congrArg List.length e
    have e3 : (TL.tl (Txt.join (Str.ofString "") (cs.map sign))).length = (Txt.join (Str.ofString "") (cs.map sign)).length := by
      first | rfl | exact Array.length_toList
    omega
  · show ∀ c ∈ TL.tl (Txt.join (Str.ofString "") (cs.map sign)), _
    rw [e]
    exact h
/-- the heap without the pot -/
def Off (p : Addr) (H : Hp) : Hp := fun b => if b = p then none else H b
theorem Off.at {p b : Addr} {H : Hp} {o : HO} (n : b ≠ p) (e : H b = some o) : Off p H b = some o := by
  unfold Off
  rw [if_neg n]
  exact e
theorem Off.same {p : Addr} {H : Hp} : Same (Off p H) H := fun b o e => by
  unfold Off at e
  by_cases h : b = p
  · rw [if_pos h] at e
    cases e
  · rw [if_neg h] at e
    exact e
theorem Off.but {p : Addr} {H H' : Hp} (k : But p H H') : Same (Off p H) (Off p H') := fun b o e => by
  unfold Off at e
  by_cases h : b = p
  · rw [if_pos h] at e
    cases e
  · rw [if_neg h] at e
    exact Off.at h (k b o h e)
theorem fresh2 {H : Hp} {p : Addr} {o : HO} (n : H p = none) : Same H (upd H p o) ∧ (upd H p o) p = some o := ⟨same_new n, upd_same⟩
/-- what a comprehension's reading asks, its list at D -/
def LcD (J : It) (g : TG) (tt : TT) (te : TE) (vs : List Nat) (σ : L2.St) (H1 : Hp) (D : Addr) (Qd : Hp → Prop) : Prop := ∃ W : Nat → Nat → Hp → Prop, (∃ m, W 0 m (upd H1 D (.lst []))) ∧ ∀ i m H, W i m H →
  (J.stop i H ∧ Qd H) ∨ (J.go i H ∧ ∃ Nx : Hp → Prop, (∀ H', Nx H' → ∃ m', m' < m ∧ W (i + 1) m' H') ∧ ∀ x H', J.yld i H x H' → g x (wipe σ vs) H' fun σ2 H2 => wipe σ2 vs = wipe σ vs ∧ tt σ2 H2 fun b H3 =>
    if b = true then te σ2 H3 fun y H4 => ∃ acc, H4 D = some (.lst acc) ∧ acc.length < sizeLine ∧ Nx (upd H4 D (.lst (acc ++ [y]))) else Nx H3)
end Cw
/-! repr of data in lists (an empty dict among them); own exceptions as values: made, read, asked for their class. -/
namespace Cw
open PySem PySem.Spec PyProof.Rows L2
/-! ### data, tracked -/
/-- all of them are tuples -/
def allTup : List PyData → Bool
  | [] => true
  | .tuple _ :: r => allTup r
  | _ => false
/-- a tuple at a place, however made -/
def TupY (H : Hp) (a : Addr) (xs : List V) : Prop := H a = some (.tup xs) ∨ ∃ o : Obj, o.dict = none ∧ H a = some (.frz o (.tup xs))
theorem TupY.mp {H H' : Hp} {a : Addr} {xs : List V} (h : TupY H a xs) (k : ∀ o, H a = some o → H' a = some o) : TupY H' a xs := h.imp (k _) fun ⟨o, d, e⟩ => ⟨o, d, k _ e⟩
mutual
inductive Dx (H : Hp) : V → PyData → Prop
  | non : Dx H .non .none
  | bl (b : Bool) : Dx H (.bl b) (.bool b)
  | int (i : Int) : Dx H (.int i) (.int i)
  | str (x : Str) : Dx H (.str x) (.str x)
  | lst {a : Addr} {xs : List V} {ds : List PyData} : H a = some (.lst xs) → DxAll H xs ds → Dx H (.ref a) (.list ds)
  | tup {a : Addr} {xs : List V} {ds : List PyData} (e : H a = some (.tup xs)) (r : DxAll H xs ds) (n : allTup ds = false := by rfl) : Dx H (.ref a) (.tuple ds)
  | tupy {a : Addr} {xs : List V} {ds : List PyData} (e : TupY H a xs) (r : DxAll H xs ds) (n : allTup ds = true) : Dx H (.ref a) (.tuple ds)
  | emp {a : Addr} : H a = some (.dK []) → Dx H (.ref a) (.dict [])
inductive DxAll (H : Hp) : List V → List PyData → Prop
  | nil : DxAll H [] []
  | cons {v : V} {vs : List V} {d : PyData} {ds : List PyData} : Dx H v d → DxAll H vs ds → DxAll H (v :: vs) (d :: ds)
end
theorem Dx.tupz {H : Hp} {a : Addr} {xs : List V} {ds : List PyData} {o : Obj} (e : H a = some (.frz o (.tup xs))) (dn : o.dict = none) (r : DxAll H xs ds) (n : allTup ds = true) : Dx H (.ref a) (.tuple ds) := .tupy (.inr ⟨_, dn, e⟩) r n
mutual
theorem Dx.but {p : Addr} {n : List V} {H H' : Hp} (hp : H p = some (.lst n)) (k : ∀ b o, b ≠ p → H b = some o → H' b = some o) (np : ∀ d, ¬ Dx H (.ref p) d) : ∀ (d : PyData) (v : V), Dx H v d → Dx H' v d
  | .none, _, h => by cases h; exact .non
  | .bool b, _, h => by cases h; exact .bl b
  | .int i, _, h => by cases h; exact .int i
  | .str x, _, h => by cases h; exact .str x
  | .list ds, _, h => by
    cases h with
    | @lst a xs _ e r =>
      exact .lst (k a _ (fun z => np _ (z ▸ Dx.lst e r)) e) (Dx.butAll hp k np ds xs r)
  | .tuple ds, _, h => by
    cases h with
    | @tup a xs _ e r n =>
      exact .tup (k a _ (fun z => np _ (z ▸ Dx.tup e r n)) e) (Dx.butAll hp k np ds xs r) n
    | @tupy a xs _ e r n =>
      exact .tupy (e.mp fun o ho => k a o (fun z => np _ (z ▸ Dx.tupy e r n)) ho) (Dx.butAll hp k np ds xs r) n
  | .dict kvs, _, h => by
    cases h with
    | emp e => exact .emp (k _ _ (fun z => np _ (z ▸ Dx.emp e)) e)
theorem Dx.butAll {p : Addr} {n : List V} {H H' : Hp} (hp : H p = some (.lst n)) (k : ∀ b o, b ≠ p → H b = some o → H' b = some o) (np : ∀ d, ¬ Dx H (.ref p) d) : ∀ (ds : List PyData) (vs : List V), DxAll H vs ds → DxAll H' vs ds
  | [], _, h => by cases h; exact .nil
  | d :: ds, _, h => by
    cases h with
    | cons h1 h2 => exact .cons (Dx.but hp k np d _ h1) (Dx.butAll hp k np ds _ h2)
end
mutual
theorem Dx.same {H H' : Hp} (k : Same H H') : ∀ (d : PyData) (v : V), Dx H v d → Dx H' v d
  | .none, _, h => by cases h; exact .non
  | .bool b, _, h => by cases h; exact .bl b
  | .int i, _, h => by cases h; exact .int i
  | .str x, _, h => by cases h; exact .str x
  | .list ds, _, h => by
    cases h with
    | lst e r => exact .lst (k _ _ e) (Dx.sameAll k ds _ r)
  | .tuple ds, _, h => by
    cases h with
    | tup e r n => exact .tup (k _ _ e) (Dx.sameAll k ds _ r) n
    | tupy e r n => exact .tupy (e.mp (k _)) (Dx.sameAll k ds _ r) n
  | .dict kvs, _, h => by
    cases h with
    | emp e => exact .emp (k _ _ e)
theorem Dx.sameAll {H H' : Hp} (k : Same H H') : ∀ (ds : List PyData) (vs : List V), DxAll H vs ds → DxAll H' vs ds
  | [], _, h => by cases h; exact .nil
  | d :: ds, _, h => by
    cases h with
    | cons h1 h2 => exact .cons (Dx.same k d _ h1) (Dx.sameAll k ds _ h2)
end
/-- the written part knows the table of modules, which is a dict -/
def HasMods (K : PySem.W.Frag) : Prop := ∃ o, K.lookup sysModules = some o ∧ o.cls = .type "dict"
section
variable {X : Cx} {pins : List (Addr × Obj)} {σ : L2.St} {H : Hp} {s : Shared}
mutual
theorem Dx.reads (I : Inv X pins σ H s) (hm : HasMods X.K) : ∀ (d : PyData) (v : V) (u : Value), Dx H v d → RelV v u → ∃ as, Reads s.heap u d as ∧ sysModules ∉ as
  | .none, _, _, h, r => by
    cases h
    cases r
    exact ⟨_, Reads.none, List.not_mem_nil⟩
  | .bool b, _, _, h, r => by
    cases h
    cases r
    exact ⟨_, Reads.bool b, List.not_mem_nil⟩
  | .int i, _, _, h, r => by
    cases h
    obtain ⟨t, rfl⟩ := r
    exact ⟨_, Reads.int i t, List.not_mem_nil⟩
  | .str x, _, _, h, r => by
    cases h
    obtain ⟨t, rfl⟩ := r
    exact ⟨_, Reads.str x t, List.not_mem_nil⟩
  | .list ds, _, _, h, r => by
    cases h with
    | @lst a xs _ e ra =>
      cases r
      obtain ⟨_, its, n, rv, ho⟩ := (show ObjOk X.prog X.w H s.heap a (.lst xs) from I.hok a _ e)
      obtain ⟨as, q, nm⟩ := Dx.readsAll I hm ds xs its ra rv
      refine ⟨_, Reads.list ho rfl rfl q, fun z => ?_⟩
      rcases List.mem_cons.mp z with z | z
      · obtain ⟨o, l, c⟩ := hm
        have e2 := I.kIn _ _ l
        rw [z, ho] at e2
        cases e2
        exact absurd (Value.type.inj c) (by decide)
      · exact nm z
  | .tuple ds, _, _, h, r => by
    cases h with
    | @tup a xs _ e ra _ =>
      cases r
      obtain ⟨_, its, rv, o, ho, hc, n, hd⟩ := (show ObjOk X.prog X.w H s.heap a (.tup xs) from I.hok a _ e)
      obtain ⟨as, q, nm⟩ := Dx.readsAll I hm ds xs its ra rv
      exact ⟨_, Reads.tuple ho hc hd q, nm⟩
    | @tupy a xs _ e ra _ =>
      cases r
      rcases e with e | ⟨ob, dn, e⟩
      · obtain ⟨_, its, rv, o, ho, hc, n, hd⟩ := (show ObjOk X.prog X.w H s.heap a (.tup xs) from I.hok a _ e)
        obtain ⟨as, q, nm⟩ := Dx.readsAll I hm ds xs its ra rv
        exact ⟨_, Reads.tuple ho hc hd q, nm⟩
      · obtain ⟨_, _, its, rv, o, ho, hc, n, hd⟩ := (show ObjOk X.prog X.w H s.heap a (.frz ob (.tup xs)) from I.hok a _ e)
        obtain ⟨as, q, nm⟩ := Dx.readsAll I hm ds xs its ra rv
        exact ⟨_, Reads.tuple ho hc hd q, nm⟩
  | .dict kvs, _, _, h, r => by
    cases h with
    | @emp a e =>
      cases r
      obtain ⟨_, ns, vs, kv, o, es, ep, ho, hx, hd, hn⟩ := (show ObjOk X.prog X.w H s.heap a (.dK []) from I.hok a _ e)
      cases kv
      have he : es.toList = [] := by
        have z := hn.2.1
        revert z
        generalize es.toList = l
        intro z
        cases z
        rfl
      have q : Reads s.heap (.ref a) (.dict []) (a :: [] ++ []) := Reads.dict ho hx.1 hd (by rw [he]; exact .nil) (by rw [he]; exact .nil)
      refine ⟨_, q, fun z => ?_⟩
      have z2 : sysModules = a := by simpa using z
      rw [z2] at ns
      simp at ns
theorem Dx.readsAll (I : Inv X pins σ H s) (hm : HasMods X.K) : ∀ (ds : List PyData) (vs : List V) (us : List Value), DxAll H vs ds → Vals vs us → ∃ as, ReadsAll s.heap us ds as ∧ sysModules ∉ as
  | [], _, _, h, r => by
    cases h
    cases r
    exact ⟨_, ReadsAll.nil, List.not_mem_nil⟩
  | d :: ds, _, _, h, r => by
    cases h with
    | cons h1 h2 =>
      cases r with
      | cons r1 r2 =>
        obtain ⟨as, q1, n1⟩ := Dx.reads I hm d _ _ h1 r1
        obtain ⟨bs, q2, n2⟩ := Dx.readsAll I hm ds _ _ h2 r2
        exact ⟨_, ReadsAll.cons q1 q2, fun z => (List.mem_append.mp z).elim n1 n2⟩
end
end
section
variable {X : Cx}
/-- repr of a truth -/
theorem call_reprB : CallR X (.builtin "repr") (fun xs H Q => ∃ b : Bool, xs = [.bl b] ∧ Q (.str (if b then "True" else "False")) H) := by
  intro pins s σ H xs us Q I r h
  obtain ⟨b, rfl, q⟩ := h
  obtain ⟨u, rfl, r1⟩ := vals1 r
  cases r1
  exact PySem.P.repr_of_bool ⟨.str _, H, I.tok _, ⟨_, rfl⟩, q⟩
/-- tuple(xs), the tuple known to have no dict of its own -/
theorem call_tupleZ : CallR X (.type "tuple") (fun xs H Q => ∃ p ys, xs = [.ref p] ∧ SqL X.K H p ys ∧ ∀ (l : Addr) (o : Obj), H l = none → o.dict = none → Q (.ref l) (upd H l (.frz o (.tup ys)))) := by
  intro pins s σ H xs us Q I r h
  obtain ⟨p, ys, rfl, hq, q⟩ := h
  obtain ⟨u, rfl, rx⟩ := vals1 r
  cases rx
  obtain ⟨its, r', pl, hz⟩ := I.list hq
  have many := r'.length
  refine call_tuple_list pl.isList (fun h' kp => ?_) (by simp only [List.size_toArray] <;> omega)
  have J : Inv X pins σ H { s with heap := h' } := I.kept (t' := s.toks) kp
  let ob : Obj := { cls := .type "tuple", data := .seq its.toArray }
  have at_ : (h'.push ob).get? h'.objs.size = some ob := Heap.get?_push_size _ rfl
  refine ⟨.ref h'.objs.size, upd H h'.objs.size (.frz ob (.tup ys)), J.laid (t' := s.toks) (fun b o e => Heap.get?_push_of_some _ e) (Nat.le_refl _) ?_, rfl, q _ ob (J.hok.fresh (Nat.le_refl _)) rfl⟩
  exact ⟨at_, hz, its, r', ⟨_, at_, rfl, _, rfl⟩⟩
/-- the tuple of nothing, likewise -/
def tTupZ : TE := fun _ H Q => ∀ (p : Addr) (o : Obj), H p = none → o.dict = none → Q (.ref p) (upd H p (.frz o (.tup [])))
theorem pe_tupZ {k : Nat} {pos : Pos} : PE X (.Tuple [] k pos) tTupZ := by
  constructor
  intro pins s σ H Q I hq
  refine wpAny_Tuple_spliced (thn ((pa_nil (X := X)).run pos pins s σ H (fun xs H1 => xs = [] ∧ H1 = H) I ⟨rfl, rfl⟩) fun us s1 z => ?_)
  obtain ⟨xs, H1, I1, r, rfl, rfl⟩ := z
  cases r
  let ob : Obj := { cls := .type "tuple", data := .seq #[] }
  have at_ : (s1.heap.push ob).get? s1.heap.objs.size = some ob := Heap.get?_push_size _ rfl
  refine ⟨by show 0 ≤ sizeLine; omega, ⟨.ref s1.heap.objs.size, upd H1 s1.heap.objs.size (.frz ob (.tup [])), I1.laid (t' := s1.toks) (fun b u e => Heap.get?_push_of_some _ e) (Nat.le_refl _) ?_, rfl, hq _ ob (I1.hok.fresh (Nat.le_refl _)) rfl⟩⟩
  exact ⟨at_, by show 0 ≤ sizeLine; omega, [], .nil, ⟨_, at_, rfl, _, rfl⟩⟩
/-- repr of a list, a tuple, an empty dict -/
theorem call_reprX (hg : X.A.guards = some []) (hu : X.A.units + 64 < cLine) (hm : HasMods X.K) : CallR X (.builtin "repr") (fun xs H Q => ∃ (a : Addr) (d : PyData), xs = [.ref a] ∧ Dx H (.ref a) d ∧
    d.showable = true ∧ d.depth ≤ 60 ∧ d.shown.length ≤ sizeLine ∧ Q (.str d.shown) H) := by
  intro pins s σ H xs us Q I r h
  obtain ⟨a, d, rfl, hd, hs, hdp, hz, q⟩ := h
  obtain ⟨u, rfl, r1⟩ := vals1 r
  cases r1
  obtain ⟨as, rd, nm⟩ := Dx.reads I hm d _ _ hd rfl
  exact repr_of_reads' rd hs (fun _ => nm) hg (by omega) (fun _ _ e => e) (fun h' u tk hk => ⟨.str d.shown, H, I.kept (t' := tk) hk, ⟨u, rfl⟩, q⟩) hz
end

end Cw
/-! sorted(d.items()) of a dict from whole numbers to whole numbers -/
namespace Cw
open PySem PySem.Spec PyProof.Rows L2
/-- a dict's pairs -/
def enc (hs : List (Int × Int)) : List (Key × V) := hs.map fun h => (Sum.inl h.1, V.int h.2)
/-- the same body, one unit of C's stack further -/
def Cx.in1 (X : Cx) : Cx := { X with A := X.A.in1 }
section
variable {X : Cx} {pins : List (Addr × Obj)} {σ : L2.St} {H : Hp} {s : Shared}
theorem inv_in1 (I : Inv X pins σ H s) : Inv (Cx.in1 X) pins σ H s := by
  obtain ⟨ok, h1, h2, h3, h4, h5, h6, h7, h8, h9, h10⟩ := I
  obtain ⟨k1, k2, k3, k4, k5, k6, k7, k8, k9, k10, k11, k12, k13, k14, k15, k16, k17, k18⟩ := ok
  exact ⟨⟨k1, k2, k3, k4, k5, k6, k7, k8, k9, k10, k11, k12, k13, k14, k15, k16, k17, k18⟩, h1, h2, h3, h4, h5, h6, h7, h8, h9, h10⟩
theorem in1_inv (I : Inv (Cx.in1 X) pins σ H s) : Inv X pins σ H s := by
  obtain ⟨ok, h1, h2, h3, h4, h5, h6, h7, h8, h9, h10⟩ := I
  obtain ⟨k1, k2, k3, k4, k5, k6, k7, k8, k9, k10, k11, k12, k13, k14, k15, k16, k17, k18⟩ := ok
  exact ⟨⟨k1, k2, k3, k4, k5, k6, k7, k8, k9, k10, k11, k12, k13, k14, k15, k16, k17, k18⟩, h1, h2, h3, h4, h5, h6, h7, h8, h9, h10⟩
end
theorem pairs_at {P : Program} {w : World} {vs : List (Key × Value)} : ∀ {es : List DictEntry} {kvs : List (Key × V)}, PySem.Pairs (mixKind P w) es vs → KV kvs vs → ∀ (j : Nat) (e : DictEntry), es[j]? = some e → ∃ k v, kvs[j]? = some (k, v) ∧ RelV (kV k) e.key ∧ RelV v e.val := by
  intro es kvs h
  induction h generalizing kvs with
  | nil =>
    intro _ j e he
    cases he
  | @cons e0 kv es ks h1 h2 h3 ih =>
    intro hk j e he
    cases hk with
    | @cons q _ qs _ r1 r2 =>
      cases j with
      | zero =>
        have ee : e0 = e := Option.some.inj he
        subst ee
        refine ⟨q.1, q.2, rfl, ?_, ?_⟩
        · have := relV_key (show keyIs kv.1 e0.key = true from h1)
          rw [← r1.1] at this
          exact this
        · rw [h2]
          exact r1.2
      | succ j => exact ih r2 j e he
/-- which pair stands at an address -/
def pairOf (as : List Addr) (hs : List (Int × Int)) : V → Int × Int
  | .ref t => ((as.zip hs).lookup t).getD (0, 0)
  | _ => (0, 0)
theorem pairOf_at : ∀ {as : List Addr} {hs : List (Int × Int)} {j : Nat} {a : Addr} {h : Int × Int}, as.Nodup → as[j]? = some a → hs[j]? = some h → pairOf as hs (.ref a) = h
  | [], _, _, _, _, _, e, _ => by cases e
  | _ :: _, [], _, _, _, _, _, e => by cases e
  | b :: as, g :: hs, 0, a, h, _, e1, e2 => by
    have e1' : b = a := Option.some.inj e1
    have e2' : g = h := Option.some.inj e2
    subst e1' e2'
    show (((b, g) :: as.zip hs).lookup b).getD (0, 0) = g
    simp [List.lookup]
  | b :: as, g :: hs, j + 1, a, h, nd, e1, e2 => by
    have hn := List.nodup_cons.mp nd
    have ne : a ≠ b := fun z => hn.1 (by rw [← z]; exact List.mem_of_getElem? e1)
    have ih := pairOf_at (as := as) (hs := hs) (j := j) (a := a) (h := h) hn.2 e1 e2
    show (((b, g) :: as.zip hs).lookup a).getD (0, 0) = h
    have eb : (a == b) = false := beq_eq_false_iff_ne.mpr ne
    simp only [List.lookup, eb]
    exact ih
theorem map_pairOf {as : List Addr} {hs : List (Int × Int)} (nd : as.Nodup) (hl : as.length = hs.length) : (as.map V.ref).map (pairOf as hs) = hs := by
  refine List.ext_getElem? fun j => ?_
  rw [List.getElem?_map, List.getElem?_map]
  by_cases hj : j < as.length
  · rw [List.getElem?_eq_getElem hj, List.getElem?_eq_getElem (by omega)]
    show some (pairOf as hs (.ref as[j])) = _
    rw [pairOf_at nd (List.getElem?_eq_getElem hj) (List.getElem?_eq_getElem (by omega))]
  · rw [List.getElem?_eq_none (by omega), List.getElem?_eq_none (by omega)]
    rfl
def adr : V → Addr
  | .ref t => t
  | _ => 0
theorem refs_map : ∀ {zs : List V}, (∀ z ∈ zs, ∃ a, z = .ref a) → (zs.map adr).map V.ref = zs
  | [], _ => rfl
  | z :: r, h => by
    obtain ⟨a, rfl⟩ := h z List.mem_cons_self
    rw [List.map_cons, List.map_cons, refs_map fun y hy => h y (List.mem_cons_of_mem _ hy)]
    rfl
theorem paired_refs {G : Addr → Int × Int → Prop} {k : V → Int × Int} : ∀ {zs : List V}, (∀ z ∈ zs, G (adr z) (k z)) → Paired G (zs.map adr) (zs.map k)
  | [], _ => .nil
  | z :: r, h => .cons (h z List.mem_cons_self) (paired_refs fun y hy => h y (List.mem_cons_of_mem _ hy))
theorem pairs_rise {k : V → Int × Int} : ∀ {zs : List V}, zs.Pairwise (fun x y => SrtO.lexB (k y) (k x) = false) → ((zs.map k).map (·.1)).Nodup → (zs.map k).Pairwise (fun a b => a.1 < b.1)
  | [], _, _ => .nil
  | z :: r, h, nd => by
    obtain ⟨h1, h2⟩ := List.pairwise_cons.mp h
    rw [List.map_cons, List.map_cons] at nd
    obtain ⟨n1, n2⟩ := List.nodup_cons.mp nd
    rw [List.map_cons]
    refine List.pairwise_cons.mpr ⟨fun b hb => ?_, pairs_rise h2 n2⟩
    obtain ⟨y, hy, rfl⟩ := List.mem_map.mp hb
    have q := SrtO.lexB_no.mp (h1 y hy)
    have ne : (k z).1 ≠ (k y).1 := fun e => n1 (by rw [e]; exact List.mem_map.mpr ⟨_, List.mem_map.mpr ⟨y, hy, rfl⟩, rfl⟩)
    omega
def rSortK : V → Hp → VK → Prop := fun x H Q => ∃ (d : Addr) (hs : List (Int × Int)), x = .ref d ∧ H d = some (.dK (enc hs)) ∧ hs.length ≤ 1000 ∧ (hs.map (·.1)).Nodup ∧
  ∀ (H' : Hp) (p : Addr) (ts : List Addr) (hs' : List (Int × Int)), Same H H' → H p = none → H' p = some (.lst (ts.map V.ref)) → Paired (fun (t : Addr) (h : Int × Int) => H' t = some (.tup [.int h.1, .int h.2])) ts hs' → hs'.Perm hs → hs'.Pairwise (fun a b => a.1 < b.1) → Q (.ref p) H'
def tSortK (te : TE) : TE := fun σ H Q => te σ H fun x H1 => rSortK x H1 Q
section
variable {X : Cx} {e : Expr} {te : TE} {p apos cpos pos : Pos}
theorem pe_sortedItems (hc : X.calm = true) (he : PE X e te) (hg : Gl X "sorted") (hm : X.mg "sorted" = none) (hbase : attributeBase e "items" X.env (eval e X.env) = eval e X.env := by rfl) (hline : (apos.endLine == cpos.line) = true := by rfl)
    (hs : starEach [.Call (.Attribute e "items" apos) [] [] cpos] X.env = (false, eval (.Call (.Attribute e "items" apos) [] [] cpos) X.env) :: starEach [] X.env := by rfl) :
    PE X (.Call (.Name "sorted" p) [.Call (.Attribute e "items" apos) [] [] cpos] [] pos) (tSortK te) := by
  constructor
  intro pins s σ H Q I hq
  refine wpAny_Call_Name_kw (ld_blt I hg hm (show bootBuiltins "sorted" = some (.builtin "sorted") by decide +kernel) ?_)
  refine PyProof.Rows.callWith_builtin1 ?_ hs rfl
  rw [hs]
  show wpAny _ _ (spliced ((false, eval (.Call (.Attribute e "items" apos) [] [] cpos) X.env) :: backTo pos (starEach [] X.env))) _ _ s
  refine Calls.spliced_cons ?_
  refine wpAny_Call_method (T := "dict") (id := "dict.items") hbase rfl hline F.plainAttrs_dict F.slot_dict_items F.type_dict_items (thn (he.run pins s σ H _ I hq) fun u s1 z => ?_)
  obtain ⟨x, H1, I1, rx, d, hs', ex, hd, hlen, nd, q⟩ := z
  subst ex
  have eu : u = Value.ref d := rx
  subst eu
  obtain ⟨hz, hs0, vs, kv, hdo⟩ := I1.hok d _ hd
  have I2 : Inv X pins σ H1 { s1 with heap := s1.heap.push { cls := .type "dict_items", data := .fields #[.ref d] } } := I1.kept (t' := s1.toks) fun b ob q => Heap.get?_push_of_some _ q
  refine ⟨hdo.typeIs, hdo.mapOf.noDict, ?_⟩
  show wpAny _ _ (callWith cpos (.builtin "dict.items") [.ref d] [] []) _ X.xe s1
  refine method_meetsIn F.slot_dict_items F.entry_dict_items rfl (PySem.evalArgs_none ⟨rfl, hdo.typeIs, F.args_dict_items_1 _, _, meets_dict_items (mixKind X.prog X.w) d hs0, ⟨vs, hdo⟩, ?_⟩)
  refine Calls.spliced_nil ?_
  obtain ⟨o, es, ep, ho, hx, hdat, hko, hpr, hnd⟩ := hdo
  have lk : (enc hs').length = vs.length := Paired.length kv
  have le : es.size = vs.length := by
    have key : ∀ {l : List DictEntry} {ks : List (Key × Value)}, PySem.Pairs (mixKind X.prog X.w) l ks → l.length = ks.length := by
      intro l ks h
      induction h with
      | nil => rfl
      | cons _ _ _ ih => simp [ih]
    have := key hpr
    rw [Array.length_toList] at this
    exact this
  have l0 : (enc hs').length = hs'.length := List.length_map ..
  refine DT.sortedI (A := X.A) (es := es) (ep := ep) (I1.ok.hd hc) ⟨_, Heap.get?_push_size _ rfl, rfl, rfl⟩ ⟨o, Heap.get?_push_of_some _ ho, hx, hdat⟩ (by rw [sizeLine_eq]; omega) fun h' tk as hk hlt hl hG => ?_
  generalize hsI : ({ s1 with heap := s1.heap.push { cls := .type "dict_items", data := .fields #[.ref d] } } : Shared) = sI at I2 hk hlt hG ⊢
  have nda : as.Nodup := List.Pairwise.imp (fun h => Nat.ne_of_lt h) hG.rise
  have J0 : Inv X pins σ H1 { sI with heap := h', toks := tk } := I2.kept (t' := tk) hk
  obtain ⟨H2, J1, k1, k2⟩ := L2.DX.takeT (P := fun a vs => ∃ (j : Nat) (h : Int × Int), as[j]? = some a ∧ hs'[j]? = some h ∧ vs = [.int h.1, .int h.2]) I2 as H1 J0 nda fun a ha => by
    have lo := hG.above a ha
    refine ⟨Nat.le_of_lt lo, I2.hok.fresh (Nat.le_of_lt lo), ?_⟩
    obtain ⟨j, hj⟩ := List.mem_iff_getElem?.mp ha
    obtain ⟨en, he1, he2⟩ := hG.pairs j a hj
    obtain ⟨k, v, e1, e2, e3⟩ := pairs_at hpr kv j en (by rw [Array.getElem?_toList]; exact he1)
    unfold enc at e1
    rw [List.getElem?_map] at e1
    cases hh : hs'[j]? with
    | none =>
      rw [hh] at e1
      cases e1
    | some h =>
      rw [hh] at e1
      have e4 : (Sum.inl h.1, V.int h.2) = (k, v) := Option.some.inj e1
      have e5 : (Sum.inl h.1 : Key) = k := congrArg Prod.fst e4
      have e6 : V.int h.2 = v := congrArg Prod.snd e4
      subst e5 e6
      exact ⟨_, ⟨j, h, hj, hh, rfl⟩, fun H3 => ⟨by show 2 ≤ sizeLine; decide, [en.key, en.val], .cons e2 (.cons e3 .nil), ⟨_, he2, rfl, _, rfl⟩⟩⟩
  have hob : (h'.push { cls := .type "list", data := .seq (as.map Value.ref).toArray }).get? h'.objs.size = some { cls := .type "list", data := .seq (as.map Value.ref).toArray } := Heap.get?_push_size _ rfl
  have J2 : Inv X pins σ (upd H2 h'.objs.size (.lst (as.map V.ref))) { sI with heap := h'.push { cls := .type "list", data := .seq (as.map Value.ref).toArray }, toks := tk } :=
    J1.laid (t' := tk) (fun b u e => Heap.get?_push_of_some _ e) (Nat.le_refl _) ⟨by rw [List.length_map, sizeLine_eq]; omega, _, _, LiI.vals_refs as, hob⟩
  have n1 : H1 h'.objs.size = none := J0.hok.fresh (Nat.le_refl _)
  have n2 : H2 h'.objs.size = none := J1.hok.fresh (Nat.le_refl _)
  have lah : as.length = hs'.length := by omega
  have at_ : ∀ a ∈ as, H2 a = some (.tup [.int (pairOf as hs' (.ref a)).1, .int (pairOf as hs' (.ref a)).2]) := fun a ha => by
    obtain ⟨vs, ⟨j, h, e1, e2, rfl⟩, e3⟩ := k2 a ha
    rw [pairOf_at nda e1 e2]
    exact e3
  refine wpAny_mono (mt_sortPO (X := Cx.in1 X) pins _ σ _ (.ref h'.objs.size) [] (.ref h'.objs.size) [] (fun v H3 => v = .non ∧ Q (.ref h'.objs.size) H3) (inv_in1 J2) rfl .nil ⟨h'.objs.size, as.map V.ref, pairOf as hs', rfl, rfl, upd_same, fun y hy => ?_, fun zs srt stb => ⟨rfl, ?_⟩⟩) (fun u s' z => ?_) fun _ _ z => z
  · obtain ⟨a, ha, rfl⟩ := List.mem_map.mp hy
    refine ⟨a, rfl, ?_⟩
    rw [upd_ne (ne_of_none (at_ a ha) n2)]
    exact at_ a ha
  · have refs : ∀ z ∈ zs, ∃ a ∈ as, z = .ref a := fun z hz => by
      obtain ⟨a, ha, e⟩ := List.mem_map.mp (stb.perm.mem_iff.mp hz)
      exact ⟨a, ha, e.symm⟩
    have ez : (zs.map adr).map V.ref = zs := refs_map fun z hz => by
      obtain ⟨a, _, e⟩ := refs z hz
      exact ⟨a, e⟩
    refine q _ h'.objs.size (zs.map adr) (zs.map (pairOf as hs')) (fun b o e => ?_) n1 (by rw [upd_same, ez]) ?_ ?_ ?_
    · rw [upd_ne (ne_of_none e n1), upd_ne (ne_of_none (k1 b o e) n2)]
      exact k1 b o e
    · refine paired_refs fun z hz => ?_
      obtain ⟨a, ha, rfl⟩ := refs z hz
      have := at_ a ha
      show (upd _ _ _) a = _
      rw [upd_ne (ne_of_none this n2), upd_ne (ne_of_none this n2)]
      exact this
    · have p1 := stb.perm.map (pairOf as hs')
      rw [map_pairOf nda lah] at p1
      exact p1
    · have p1 := stb.perm.map (pairOf as hs')
      rw [map_pairOf nda lah] at p1
      exact pairs_rise srt ((p1.map (·.1)).nodup_iff.mpr nd)
  · obtain ⟨v, H3, J3, r3, ev, q3⟩ := z
    exact ⟨.ref h'.objs.size, H3, in1_inv J3, rfl, q3⟩
end
end Cw
/-! what the rules lacked: blocks that are never come to; list(d.values()); enumerate of a list or of the tuple of nothing; isinstance of a built-in class -/
namespace Cw
open PySem PySem.Spec PyProof.Rows L2
section
variable {X : Cx}
def noS : TS := fun _ _ _ => False
def noE : TE := fun _ _ _ => False
theorem ps_no {st : Stmt} : PS X st noS := ⟨fun _ _ _ _ _ _ h => False.elim h⟩
theorem pss_no {st : List Stmt} : PSs X st noS := ⟨fun _ _ _ _ _ _ h => False.elim h⟩
theorem pe_no {e : Expr} : PE X e noE := ⟨fun _ _ _ _ _ _ h => False.elim h⟩
/-! ### list(d.values()) -/
def tListVals (te : TE) : TE := fun σ H Q => te σ H fun x H1 => ∃ (d : Addr) (kvs : List (Key × V)), x = .ref d ∧ H1 d = some (.dK kvs) ∧ ∀ q, H1 q = none → Q (.ref q) (upd H1 q (.lst (kvs.map (·.2))))
theorem pe_listVals {e : Expr} {te : TE} {p apos cpos pos : Pos} (hc : X.calm = true) (he : PE X e te) (hg : Gl X "list") (hm : X.mg "list" = none) (hv : bootBuiltins "list" = some (.type "list")) (hbase : attributeBase e "values" X.env (eval e X.env) = eval e X.env := by rfl) (hline : (apos.endLine == cpos.line) = true := by rfl)
    (hs : starEach [.Call (.Attribute e "values" apos) [] [] cpos] X.env = (false, eval (.Call (.Attribute e "values" apos) [] [] cpos) X.env) :: starEach [] X.env := by rfl) :
    PE X (.Call (.Name "list" p) [.Call (.Attribute e "values" apos) [] [] cpos] [] pos) (tListVals te) := by
  refine ⟨fun pins s σ H Q I hq => ?_⟩
  refine wpAny_Call_Name_kw (ld_blt I hg hm hv ?_)
  refine PyProof.Rows.callWith_type1 ?_ hs rfl
  rw [hs]
  show wpAny _ _ (spliced ((false, eval (.Call (.Attribute e "values" apos) [] [] cpos) X.env) :: backTo pos (starEach [] X.env))) _ _ s
  refine Calls.spliced_cons ?_
  refine wpAny_Call_method (T := "dict") (id := "dict.values") hbase rfl hline F.plainAttrs_dict F.slot_dict_values F.type_dict_values (thn (he.run pins s σ H _ I hq) fun u s1 ⟨x, H1, I1, rx, d, kvs, ex, hd, q⟩ => ?_)
  subst ex
  obtain rfl : u = Value.ref d := rx
  obtain ⟨hz, hs0, vs, kv, hdo⟩ := I1.hok d _ hd
  obtain ⟨ep, hat⟩ := hdo.dictAt
  have lk : kvs.length = vs.length := Paired.length kv
  have I2 : Inv X pins σ H1 { s1 with heap := s1.heap.push { cls := .type "dict_values", data := .fields #[.ref d] } } := I1.kept (t' := s1.toks) fun b ob q => Heap.get?_push_of_some _ q
  refine ⟨hdo.typeIs, hdo.mapOf.noDict, ?_⟩
  show wpAny _ _ (callWith cpos (.builtin "dict.values") [.ref d] [] []) _ X.xe s1
  refine method_meetsIn F.slot_dict_values F.entry_dict_values rfl (PySem.evalArgs_none ⟨rfl, hdo.typeIs, F.args_dict_values_1 _, _, meets_dict_values (mixKind X.prog X.w) d hs0, ⟨vs, hdo⟩, ?_⟩)
  refine Calls.spliced_nil ?_
  refine PySem.W.kdl_call (PySem.W.kdl_values (knd := mixKind X.prog X.w) (kvs := vs) (ep := ep)) (I1.ok.hd hc) ⟨⟨_, Heap.get?_push_size _ rfl, rfl, rfl⟩, hat.push _⟩ (by rw [← lk]; exact hz) fun h' tk acc' c' hkeep hS hacc => ?_
  refine ⟨.ref _, upd H1 _ (.lst (kvs.map (·.2))), I2.laid hkeep (Nat.le_refl _) (show ObjOk X.prog X.w _ _ _ (.lst (kvs.map (·.2))) from ⟨?_, acc'.toList, c', ?_, ?_⟩), rfl, q _ (I2.hok.fresh (Nat.le_refl _))⟩
  · rw [List.length_map]; exact hz
  · have el : acc'.toList.length = acc'.size := by simp
    refine vals_of_at (by rw [List.length_map, el, hacc.1, lk]) fun j x w h1 h2 => ?_
    obtain ⟨k, hky⟩ := hacc.2 j w (by rw [← Array.getElem?_toList]; exact h2)
    rw [List.getElem?_map] at h1
    cases hj : kvs[j]? with
    | none => rw [hj] at h1; cases h1
    | some y =>
      rw [hj] at h1
      cases h1
      obtain ⟨qv, g1, g2, g3⟩ := LiI.paired_get kv hj
      rw [hky] at g1
      cases g1
      exact g3
  · rw [Array.toArray_toList]; exact hS
/-! ### enumerate(xs), xs a list, or the tuple of nothing -/
def ItNone (K : PySem.W.Frag) (a : Addr) : It := ⟨fun _ _ => False, fun _ _ _ _ => False, fun _ H => SqT K H a []⟩
end
set_option maxHeartbeats 1000000 in
theorem meets_enumerate_newT (l : Addr) (items : Array Value) (n : Nat) (dct : Option Addr) (sl : Array (Option Value)) :
    Meets (Builtin.«enumerate.__new__» ⟨[.type "enumerate", .ref l], []⟩) (fun _ R s => s.heap.get? l = some { cls := .type "tuple", dict := dct, data := .seq items n, slots := sl } ∧
      R (.ok (.ret (.ref (s.heap.push { cls := .type "tuple_iterator", data := .fields #[.ref l, .int 0 0] }).objs.size)))
        { s with heap := (s.heap.push { cls := .type "tuple_iterator", data := .fields #[.ref l, .int 0 0] }).push { cls := .type "enumerate", data := .fields #[.none, .bool false, .ref s.heap.objs.size, rawInt 0, .none, .none] } }) :=
  .of_wp fun prog w A R s h => by
    obtain ⟨hp, g, d, tk, os⟩ := s; obtain ⟨hl, h⟩ := h
    have hsub := sub_enumerate
    have hL : Heap.IsTuple (Shared.heap ⟨hp, g, d, tk, os⟩) l items := ⟨_, hl, rfl, n, rfl⟩
    wp_walk using wpAny_loadPart' hl
    refine wpAny_stack_any fun st => wpAny_pure ?_
    split
    · rename_i c _ _ _ _ _
      cases (c == Value.type "enumerate")
      · wp_walk using wpAny_loadPart' hl, wpAny_pyIter_tuple hL
        exact ⟨_, rfl, h⟩
      · wp_walk using wpAny_loadPart' hl, wpAny_pyIter_tuple hL
        exact ⟨_, rfl, h⟩
    · wp_walk using wpAny_loadPart' hl, wpAny_pyIter_tuple hL
      exact ⟨_, rfl, h⟩
section
variable {prog : Program} {w : World} {A : Around} {E : Value → Shared → Prop} {s : Shared}
theorem call_enumerate_tuple {l : Addr} {items : Array Value} {Q : Value → Shared → Prop} (hL : s.heap.IsTuple l items)
    (h : ∀ h', IsEnum h' (s.heap.objs.size + 1) s.heap.objs.size 0 .none → h'.IsTupleIter s.heap.objs.size l 0 → h'.objs.size = s.heap.objs.size + 2 →
      (∀ b o, s.heap.get? b = some o → h'.get? b = some o) → Q (.ref (s.heap.objs.size + 1)) { s with heap := h' }) :
    wpAny (model prog w) A (call (.type "enumerate") [.ref l]) Q E s := by
  obtain ⟨⟨c, dct, dt, sl⟩, hl, hc, n, hd⟩ := hL
  replace hc : c = .type "tuple" := hc
  replace hd : dt = .seq items n := hd
  subst hc hd
  refine callType_new F.called_enumerate (by decide) (F.typeCall_enumerate_1 _) (F.newCall_enumerate_1 _) (fun obj => F.args_object_init_2 obj _) F.entry_enumerate_new
    (meets_enumerate_newT l items n dct sl) ⟨hl, ?_⟩
  have hz : (s.heap.push { cls := .type "tuple_iterator", data := .fields #[.ref l, .int 0 0] }).objs.size = s.heap.objs.size + 1 := Heap.size_push ..
  show _ ∧ _
  rw [hz]
  have he : IsEnum ((s.heap.push { cls := .type "tuple_iterator", data := .fields #[.ref l, .int 0 0] }).push
      { cls := .type "enumerate", data := .fields #[.none, .bool false, .ref s.heap.objs.size, rawInt 0, .none, .none] }) (s.heap.objs.size + 1) s.heap.objs.size 0 .none := by
    have := Heap.get?_push_size (s.heap.push { cls := .type "tuple_iterator", data := .fields #[.ref l, .int 0 0] })
      (o := { cls := .type "enumerate", data := .fields #[.none, .bool false, .ref s.heap.objs.size, rawInt 0, .none, .none] }) rfl
    rw [hz] at this; exact this
  refine ⟨⟨_, he, rfl⟩, h _ he ⟨_, Heap.get?_push_of_some _ (Heap.get?_push_size _ rfl), rfl, rfl⟩ (by rw [Heap.size_push, hz]) fun b o x => Heap.get?_push_of_some _ (Heap.get?_push_of_some _ x)⟩
end
theorem turn_enum0 {P : Program} {w : World} {K : PySem.W.Frag} {elts : List Expr} {kk : Nat} {tpos : Pos} (a e it : Addr) (hk : a ≠ it) :
    Turn P w K (.Tuple elts kk tpos) (ItNone K a) [e, it] e (fun i h => (∃ old, IsEnum h e it 0 old) ∧ h.IsTupleIter it a 0 ∧ e ≠ it) where
  mem := by simp
  obj := fun i h st b hb => by
    obtain ⟨⟨old, he⟩, ⟨o, ho, hc, hd⟩, _⟩ := st
    have e' : b = e ∨ b = it := by simpa using hb
    rcases e' with z | z
    · rw [z]; exact ⟨_, he, fun v q => nomatch q⟩
    · rw [z]; exact ⟨o, ho, fun v q => by rw [hd] at q; cases q⟩
  keep := fun i h h' st k => let ⟨⟨old, he⟩, hi, hne⟩ := st; ⟨⟨old, k e (by simp) _ he⟩, hi.at fun o q => k it (by simp) o q, hne⟩
  item := fun _ _ _ _ _ _ _ _ _ _ _ _ _ _ hg => False.elim hg
  done := by
    intro X hP hw hK hc i pins s σ H E I hf st hg
    subst hP hw hK
    obtain ⟨⟨old, he⟩, hit, hne⟩ := st
    obtain ⟨its, rv, p, hz⟩ := I.tuple hg
    cases rv
    obtain ⟨f0, f1, f2, f3, f4, f5⟩ := hf it (by simp)
    exact wpAny_pyNext_enum_endD (Draws.tuple (A := X.A.in1) (I.ok.hd hc) it a hk #[]) he ⟨hit, p⟩ fun h' eb => ⟨rfl, I.turned (t' := s.toks) (fun b o hb q => eb b o hb q) f0 f1 f3 f4 f5⟩
  self := fun A i s Q E st h => let ⟨⟨_, he⟩, _⟩ := st; wpAny_pyIter_enum he h
def iEnum2 (K : PySem.W.Frag) (ta : TA) : TI := fun σ H R => ta σ H fun vs H1 => ∃ a, vs = [.ref a] ∧ ((∃ xs, SqL K H1 a xs ∧ R (Ite K a) H1) ∨ (SqT K H1 a [] ∧ R (ItNone K a) H1))
theorem pi_enum2 {X : Cx} {e : Expr} {ta : TA} {p pos tpos : Pos} {elts : List Expr} {kk : Nat} (hg : Gl X "enumerate") (hm : X.mg "enumerate" = none) (ha : PA X [e] ta) (hs : starEach [e] X.env = [(false, eval e X.env)] := by rfl) :
    PI X (.Tuple elts kk tpos) (.Call (.Name "enumerate" p) [e] [] pos) (iEnum2 X.K ta) := by
  refine ⟨fun pins s σ H R I h => ?_⟩
  refine Call_ (ld_blt I hg hm boot_enumerate (PyProof.Rows.callWith_type1 (thn (ha.run pos pins s σ H _ I h) fun us s1 ⟨vs, H1, I1, r1, q1⟩ => ?_) hs rfl))
  obtain ⟨a, ex, q1⟩ := q1
  subst ex
  cases r1 with
  | cons r rr =>
    cases rr
    cases r
    have low : ∀ b, b = s1.heap.objs.size + 1 ∨ b = s1.heap.objs.size → s1.heap.objs.size ≤ b := fun b e' => by
      rcases e' with z | z
      · rw [z]; exact Nat.le_add_right _ _
      · rw [z]; exact Nat.le_refl _
    rcases q1 with ⟨xs, hq, q⟩ | ⟨hq, q⟩
    · obtain ⟨its, rv, p', hz⟩ := I1.list hq
      refine call_enumerate_list p'.isList fun h' he hit hsz hk => wpAny_pyIter_enum he ?_
      have I2 : Inv X pins σ H1 { s1 with heap := h' } := I1.kept (t' := s1.toks) hk
      refine ⟨s1.heap.objs.size + 1, [s1.heap.objs.size + 1, s1.heap.objs.size], _, _, H1, rfl, I2, turn_enum a (s1.heap.objs.size + 1) s1.heap.objs.size, ⟨⟨.none, he⟩, hit, Nat.succ_ne_self _⟩, fun b hb => ?_, q⟩
      have hle := low b (by simpa using hb)
      exact I1.fpOk hle (I1.hok.fresh hle)
    · obtain ⟨its, rv, p', hz⟩ := I1.tuple hq
      have hlt : a < s1.heap.objs.size := by obtain ⟨o, ho, _⟩ := p'; exact Heap.lt_size ho
      refine call_enumerate_tuple p' fun h' he hit hsz hk => wpAny_pyIter_enum he ?_
      have I2 : Inv X pins σ H1 { s1 with heap := h' } := I1.kept (t' := s1.toks) hk
      refine ⟨s1.heap.objs.size + 1, [s1.heap.objs.size + 1, s1.heap.objs.size], _, _, H1, rfl, I2, turn_enum0 a (s1.heap.objs.size + 1) s1.heap.objs.size (Nat.ne_of_lt hlt), ⟨⟨.none, he⟩, hit, Nat.succ_ne_self _⟩, fun b hb => ?_, q⟩
      have hle := low b (by simpa using hb)
      exact I1.fpOk hle (I1.hok.fresh hle)
theorem walk_none {K : PySem.W.Frag} {a : Addr} : Walk (ItNone K a) 0 (fun H => SqT K H a []) (fun _ _ _ _ => False) :=
  ⟨fun _ _ hi _ => absurd hi (Nat.not_lt_zero _), fun _ h => h, fun _ _ _ _ hi _ _ => absurd hi (Nat.not_lt_zero _)⟩
/-! ### isinstance(x, T) -/
theorem isi {K : PySem.W.Frag} {ty t : String} {b : Bool} {x : V} {H : Hp} {Q : VK} (h : TyX K H x (.type t)) (hk : kitB t ty = some b) (q : Q (.bl b) H) : rIsi K [x, .ty ty] H Q := ⟨x, .ty ty, .type t, .type ty, b, rfl, .ty ty, h, kit_ty hk, q⟩
theorem k_int_int : kitB "int" "int" = some true := by decide +kernel
theorem k_int_bool : kitB "int" "bool" = some false := by decide +kernel
theorem k_str_str : kitB "str" "str" = some true := by decide +kernel
theorem k_tup_str : kitB "tuple" "str" = some false := by decide +kernel
theorem k_tup_tup : kitB "tuple" "tuple" = some true := by decide +kernel
theorem k_str_tup : kitB "str" "tuple" = some false := by decide +kernel
theorem k_lst_tup : kitB "list" "tuple" = some false := by decide +kernel
theorem k_lst_lst : kitB "list" "list" = some true := by decide +kernel
theorem k_tup_lst : kitB "tuple" "list" = some false := by decide +kernel
theorem ty_int {K : PySem.W.Frag} {H : Hp} (i : Int) : TyX K H (.int i) (.type "int") := .base (.int i)
theorem ty_str {K : PySem.W.Frag} {H : Hp} (z : Str) : TyX K H (.str z) (.type "str") := .base (.str z)
theorem ty_lst {K : PySem.W.Frag} {H : Hp} {a : Addr} {xs : List V} (h : H a = some (.lst xs)) : TyX K H (.ref a) (.type "list") := .base (.lst h)
theorem ty_tup {K : PySem.W.Frag} {H : Hp} {a : Addr} {xs : List V} (h : SqT K H a xs) : TyX K H (.ref a) (.type "tuple") := by
  rcases h with (h | ⟨o, h⟩) | ⟨o, its, n, h, c, _⟩
  · exact .base (.tup h)
  · exact .fTuple h
  · exact .kTuple h c
end Cw
/-! data that is short to show, and that is laid plainly -/
namespace Cw
open PySem PySem.Spec PyProof.Rows L2
structure Sh (d : PyData) (b p : Nat) : Prop where
  sh : d.showable = true
  lv : d.leavesShort 700 = true
  bk : d.bulk ≤ b
  dp : d.depth ≤ p
  cl : d.canLay0 = true
theorem Sh.mono {d : PyData} {b p b' p' : Nat} (h : Sh d b p) (hb : b ≤ b') (hp : p ≤ p') : Sh d b' p' := ⟨h.sh, h.lv, Nat.le_trans h.bk hb, Nat.le_trans h.dp hp, h.cl⟩
theorem sh_int {i : Int} (h1 : i.natAbs < 10 ^ 60) : Sh (.int i) 0 0 := by
  have l := int_text_length_le10 (k := 60) (by decide) h1
  have h2 : i.natAbs < 2 ^ 200 := by omega
  refine ⟨?_, ?_, Nat.le_refl _, Nat.le_refl _, by simp [PyData.canLay0]⟩
  · show decide (i.natAbs.log2 < 1920) = true
    exact decide_eq_true (Nat.lt_of_lt_of_le (PySem.Flt.log2_lt_of (by decide) h2) (by decide))
  · show decide ((PyData.shown (.int i)).length ≤ 700) = true
    refine decide_eq_true ?_
    show (Str.ofString (toString i)).length ≤ 700
    rw [PySem.ofString_length]
    omega
theorem sh_bool (b : Bool) : Sh (.bool b) 0 0 := ⟨rfl, rfl, Nat.le_refl _, Nat.le_refl _, by simp [PyData.canLay0]⟩
theorem sh_none : Sh .none 0 0 := ⟨rfl, rfl, Nat.le_refl _, Nat.le_refl _, by simp [PyData.canLay0]⟩
theorem sh_str {z : Str} {n : Nat} (h1 : z.length ≤ n) (h : ∀ c ∈ z.cps.toList, c < 0x110000) : Sh (.str z) n 0 := by
  refine ⟨rfl, ?_, ?_, Nat.le_refl _, ?_⟩
  · show (z.cps.toList.all fun c => decide (c < 16 ^ 8)) = true
    rw [List.all_eq_true]
    intro c hc
    have := h c hc
    exact decide_eq_true (by omega)
  · show z.cps.size ≤ n
    exact h1
  · simp only [PyData.canLay0]
    unfold PyData.strOk
    rw [Array.all_eq_true']
    intro c hc
    exact decide_eq_true (h c (Array.mem_toList_iff.mpr hc))
theorem sh_all {b p : Nat} : ∀ ds : List PyData, (∀ d ∈ ds, Sh d b p) → PyData.showableAll ds = true ∧ PyData.depthAll ds ≤ p ∧ PyData.leavesShortAll 700 ds = true ∧ PyData.bulkAll ds ≤ (b + 1) * ds.length ∧ PyData.canLayAll0 ds = true := by
  intro ds
  induction ds with
  | nil => intro _; exact ⟨by simp [PyData.showableAll], by simp [PyData.depthAll], by simp [PyData.leavesShortAll], by simp [PyData.bulkAll], by simp [PyData.canLayAll0]⟩
  | cons d r ih =>
    intro h
    obtain ⟨h1, h2, h3, h4, h5⟩ := ih fun x hx => h x (List.mem_cons_of_mem _ hx)
    have f := h d List.mem_cons_self
    refine ⟨?_, ?_, ?_, ?_, ?_⟩
    · simp only [PyData.showableAll, Bool.and_eq_true]
      exact ⟨f.sh, h1⟩
    · simp only [PyData.depthAll]
      have := f.dp
      omega
    · simp only [PyData.leavesShortAll, Bool.and_eq_true]
      exact ⟨f.lv, h3⟩
    · simp only [PyData.bulkAll, List.length_cons, Nat.mul_add, Nat.mul_one]
      have := f.bk
      omega
    · simp only [PyData.canLayAll0, Bool.and_eq_true]
      exact ⟨f.cl, h5⟩
theorem sh_list {b p n : Nat} {ds : List PyData} (h : ∀ d ∈ ds, Sh d b p) (hn : ds.length ≤ n) : Sh (.list ds) ((b + 1) * n) (p + 1) := by
  obtain ⟨h1, h2, h3, h4, h5⟩ := sh_all ds h
  have hm : (b + 1) * ds.length ≤ (b + 1) * n := Nat.mul_le_mul_left _ hn
  exact ⟨by simp only [PyData.showable]; exact h1, by simp only [PyData.leavesShort]; exact h3, by simp only [PyData.bulk]; omega, by simp only [PyData.depth]; omega, by simp only [PyData.canLay0]; exact h5⟩
theorem sh_tup {b p n : Nat} {ds : List PyData} (h : ∀ d ∈ ds, Sh d b p) (hn : ds.length ≤ n) : Sh (.tuple ds) ((b + 1) * n) (p + 1) := by
  obtain ⟨h1, h2, h3, h4, h5⟩ := sh_all ds h
  have hm : (b + 1) * ds.length ≤ (b + 1) * n := Nat.mul_le_mul_left _ hn
  exact ⟨by simp only [PyData.showable]; exact h1, by simp only [PyData.leavesShort]; exact h3, by simp only [PyData.bulk]; omega, by simp only [PyData.depth]; omega, by simp only [PyData.canLay0]; exact h5⟩
theorem Sh.rep {d : PyData} {b p : Nat} (h : Sh d b p) (hb : b ≤ 20000) (hp : p ≤ 60) : d.showable = true ∧ d.depth ≤ 60 ∧ d.shown.length ≤ sizeLine := by
  refine ⟨h.sh, Nat.le_trans h.dp hp, ?_⟩
  have l := PyData.shown_le_bulk 700 (by decide) d h.lv
  have := h.bk
  rw [sizeLine_eq]
  omega
theorem Sh.shaped {d : PyData} {b p : Nat} (h : Sh d b p) (hp : p ≤ 60) : SeqAt.shaped d = true := by
  unfold SeqAt.shaped
  rw [h.cl, Bool.true_and]
  exact decide_eq_true (Nat.le_trans h.dp (by omega))
/-! ### from tracked data to data that may lie in the written part -/
mutual
theorem Dx.dp {K : PySem.W.Frag} {H : Hp} : ∀ (d : PyData) (v : V), d.canLay0 = true → Dx H v d → Dp K H v d
  | .none, _, _, h => by cases h; exact .non
  | .bool b, _, _, h => by cases h; exact .bl b
  | .int i, _, _, h => by cases h; exact .int i
  | .str x, _, _, h => by cases h; exact .str x
  | .list ds, _, c, h => by
    cases h with
    | lst e r => exact .lst (SqL.of e) (Dx.dpAll ds _ (by simpa only [PyData.canLay0] using c) r)
  | .tuple ds, _, c, h => by
    cases h with
    | tup e r => exact .tup (SqT.of e) (Dx.dpAll ds _ (by simpa only [PyData.canLay0] using c) r)
    | tupy e r => exact .tup (e.elim (fun e => .inl (.inl e)) fun ⟨o, _, e⟩ => .inl (.inr ⟨o, e⟩)) (Dx.dpAll ds _ (by simpa only [PyData.canLay0] using c) r)
  | .dict kvs, _, c, h => by simp [PyData.canLay0] at c
theorem Dx.dpAll {K : PySem.W.Frag} {H : Hp} : ∀ (ds : List PyData) (vs : List V), PyData.canLayAll0 ds = true → DxAll H vs ds → DpAll K H vs ds
  | [], _, _, h => by cases h; exact .nil
  | d :: ds, _, c, h => by
    simp only [PyData.canLayAll0, Bool.and_eq_true] at c
    cases h with
    | cons h1 h2 => exact .cons (Dx.dp d _ c.1 h1) (Dx.dpAll ds _ c.2 h2)
end
mutual
theorem eqv_refl : ∀ d : PyData, d.canLay0 = true → PyData.eqv d d = true
  | .none, _ => by simp [PyData.eqv]
  | .bool b, _ => by simp [PyData.eqv]
  | .int i, _ => by simp [PyData.eqv]
  | .str x, _ => by simp [PyData.eqv]
  | .list ds, c => by
    simp only [PyData.eqv]
    exact eqv_all ds (by simpa only [PyData.canLay0] using c)
  | .tuple ds, c => by
    simp only [PyData.eqv]
    exact eqv_all ds (by simpa only [PyData.canLay0] using c)
  | .dict kvs, c => by simp [PyData.canLay0] at c
theorem eqv_all : ∀ ds : List PyData, PyData.canLayAll0 ds = true → PyData.eqvAll ds ds = true
  | [], _ => by simp [PyData.eqvAll]
  | d :: ds, c => by
    simp only [PyData.canLayAll0, Bool.and_eq_true] at c
    simp only [PyData.eqvAll, Bool.and_eq_true]
    exact ⟨eqv_refl d c.1, eqv_all ds c.2⟩
end
end Cw
/-! dict(t), t a tuple of pairs that has no dict of its own -/
namespace Cw
open PySem PySem.Spec PyProof.Rows L2
section
variable {X : Cx}
theorem pairs2 {pins : List (Addr × Obj)} {σ : L2.St} {H : Hp} {s : Shared} (I : Inv X pins σ H s) : ∀ {ps : List Addr} {kvs : List (Key × V)}, Paired (fun p kv => SqT X.K H p [kV kv.1, kv.2]) ps kvs →
    ∃ (prs : List (Key × Value)) (two : List (Value × Value)), KV kvs prs ∧ prs.length = ps.length ∧ two.length = ps.length ∧
      ∀ (j : Nat) (k v : Value), two[j]? = some (k, v) → ∃ (b : Addr) (key : Key), ps[j]? = some b ∧ s.heap.IsTuple b #[k, v] ∧ prs[j]? = some (key, v) ∧ (mixKind X.prog X.w).is key k = true
  | _, _, .nil => ⟨[], [], .nil, rfl, rfl, fun j k v e => by simp at e⟩
  | _, _, .cons (a := p) (b := kv) h t => by
    obtain ⟨prs, two, r, l1, l2, hp⟩ := pairs2 I t
    obtain ⟨its, rv, ht, _⟩ := I.tuple h
    obtain ⟨u, y, ei, ru, ry⟩ := vals2 rv
    subst ei
    refine ⟨(kv.1, y) :: prs, (u, y) :: two, .cons ⟨rfl, ry⟩ r, by simp [l1], by simp [l2], fun j k v e => ?_⟩
    cases j with
    | zero =>
      cases (Option.some.inj e : (u, y) = (k, v))
      exact ⟨p, kv.1, rfl, ht, rfl, kV_is (P := X.prog) (w := X.w) ru⟩
    | succ j => exact hp j k v (by simpa using e)
/-- dict(t) -/
theorem call_dictT (hcalm : X.calm = true) : CallR X (.type "dict") (fun xs H Q => ∃ (a : Addr) (o : Obj) (ps : List Addr) (kvs : List (Key × V)), xs = [.ref a] ∧ o.dict = none ∧ H a = some (.frz o (.tup (ps.map V.ref))) ∧ Paired (fun p kv => SqT X.K H p [kV kv.1, kv.2]) ps kvs ∧
    ∀ p, H p = none → Q (.ref p) (upd H p (.dK (mergeK [] kvs)))) := by
  intro pins s σ H xs us Q I r q
  obtain ⟨a, o, ps, kvs, rfl, dn, ha, hp, q⟩ := q
  obtain ⟨u, rfl, rx⟩ := vals1 r
  cases rx
  obtain ⟨hg, hz, its, rv, o', ho, hc, n, hd⟩ := (show ObjOk X.prog X.w H s.heap a (.frz o (.tup (ps.map V.ref))) from I.hok a _ ha)
  rw [hg] at ho
  cases ho
  have ei := refs_at rv
  subst ei
  rw [List.length_map] at hz
  obtain ⟨prs, two, rel, l1, l2, hpr⟩ := pairs2 I hp
  have ok : PySem.PlainSeq "tuple" s.heap a (ps.map Value.ref).toArray ∧ PySem.PairItems s.heap (ps.map Value.ref).toArray (fun j => ps.getD j 0) two := by
    refine ⟨⟨o, n, hg, hc, dn, hd⟩, by simp [l2], fun j k v e => ?_⟩
    obtain ⟨b, key, e1, e2, e3, e4⟩ := hpr j k v e
    have eb : ps.getD j 0 = b := by simp [List.getD, e1]
    refine ⟨?_, ?_⟩
    · show (ps.map Value.ref).toArray[j]? = some (.ref (ps.getD j 0))
      rw [eb]
      simp [e1]
    · show PySem.PairAt s.heap (ps.getD j 0) k v
      rw [eb]
      exact .inl e2
  refine PySem.call_dict_pairs (knd := mixKind X.prog X.w) (kvs := prs) (PySem.PairArg.tuple a (ps.map Value.ref).toArray (fun j => ps.getD j 0) two) (I.ok.hd hcalm) ok ⟨by rw [l1, l2], fun j key v e => ?_⟩ (by rw [l2]; exact hz) fun h' tk hd' k => ?_
  · obtain ⟨b, kk, e1, e2, e3, e4⟩ := hpr j key v e
    exact ⟨kk, e3, e4⟩
  · have big : (s.heap.objs.size == sysModules) = false := beq_eq_false_iff_ne.mpr (Nat.ne_of_gt I.big)
    have few : (mergeK [] kvs).length ≤ sizeLine := by
      have z := length_mergeK kvs []
      have z2 := Paired.length rel
      simp only [List.length_nil] at z
      omega
    exact ⟨.ref s.heap.objs.size, upd H s.heap.objs.size (.dK (mergeK [] kvs)), I.laid (t' := tk) (fun b o e => k b o (by simp) e) (Nat.le_refl _) (show ObjOk X.prog X.w _ _ _ (.dK (mergeK [] kvs)) from ⟨few, big, merged [] prs, KV.merge rel .nil, hd'⟩), rfl, q _ (I.hok.fresh (Nat.le_refl _))⟩
end
theorem merge_new : ∀ (kvs acc : List (Key × V)), (acc.map (·.1) ++ kvs.map (·.1)).Nodup → mergeK acc kvs = acc ++ kvs
  | [], acc, _ => by simp [mergeK]
  | p :: r, acc, h => by
    have hn : p.1 ∉ acc.map (·.1) := fun z => (List.nodup_append.mp h).2.2 _ z p.1 (by simp) rfl
    have e : putK acc p.1 p.2 = acc ++ [p] := by
      unfold putK
      have ea : (acc.any fun kv => decide (kv.1 = p.1)) = false := by
        rw [List.any_eq_false]
        intro x hx
        simp only [decide_eq_true_eq]
        exact fun z => hn (by rw [← z]; exact List.mem_map.mpr ⟨x, hx, rfl⟩)
      rw [ea]
      simp
    show mergeK (putK acc p.1 p.2) r = _
    rw [e, merge_new r (acc ++ [p]) (by simpa using h)]
    simp
end Cw
/-! t[::-1], t a tuple -/
namespace HT
open PySem PySem.Spec PyProof.Rows
section
variable {prog : Program} {w : World} {A : Around} {E : Value → Shared → Prop} {s : Shared}
theorem sliceApplied_rev {sl : Addr} {vk : Value} {n : Nat} {Q : Int × Int × Nat → Shared → Prop} (hs : s.heap.IsSliceOf sl .none .none vk) (pk : IsPart vk (some (-1)))
    (h : Q ((n : Int) - 1, -1, n) s) : wpAny (model prog w) A (Builtin.Slice.sliceApplied (.ref sl) (pure (n : Int))) Q E s := by
  obtain ⟨os, hos, hcs, hds⟩ := id hs
  unfold Builtin.Slice.sliceApplied Builtin.Slice.sliceFields
  refine wpAny_bind (wpAny_bind (wpAny_field hos hds (x := .none) rfl (wpAny_bind (wpAny_field hos hds (x := .none) rfl (wpAny_bind (wpAny_field hos hds (x := vk) rfl (wpAny_pure ?_)))))))
  refine wpAny_bind (slicePart_ pk ?_)
  show wpAny _ _ (if ((-1 : Int) == 0) = true then _ else _) _ _ s
  rw [if_neg (by decide)]
  refine wpAny_bind (slicePart_none (wpAny_bind (slicePart_none (wpAny_bind (wpAny_pure ?_)))))
  have e1 : Builtin.Slice.sliceAdjust none none (-1) (n : Int) = ((n : Int) - 1, -1) := by
    unfold Builtin.Slice.sliceAdjust
    simp
  have e2 : Builtin.Slice.slicePlaces ((n : Int) - 1) (-1) (-1) = n := by
    unfold Builtin.Slice.slicePlaces
    have h1 : ¬ ((-1 : Int) > 0) := by omega
    simp only [h1, if_false]
    have h2 : (- -1 : Int) = 1 := by decide
    rw [h2, Int.ediv_one]
    split <;> omega
  show wpAny _ _ (match Builtin.Slice.sliceAdjust none none (-1) (n : Int) with | (lo, hi) => pure (lo, (-1 : Int), Builtin.Slice.slicePlaces lo hi (-1))) _ _ s
  rw [e1]
  show wpAny _ _ (pure ((n : Int) - 1, (-1 : Int), Builtin.Slice.slicePlaces ((n : Int) - 1) (-1) (-1))) _ _ s
  rw [e2]
  exact wpAny_pure h
theorem pick_rev (xs : Array Value) : ((List.range xs.size).filterMap fun (k : Nat) => xs[(((xs.size : Nat) : Int) - 1 + (k : Int) * (-1)).toNat]?).toArray = xs.toList.reverse.toArray := by
  have e : (List.range xs.size).filterMap (fun (k : Nat) => xs[(((xs.size : Nat) : Int) - 1 + (k : Int) * (-1)).toNat]?) = ((List.range xs.size).map fun k => xs.size - 1 - k).filterMap (xs[·]?) := by
    rw [List.filterMap_map]
    have key : ∀ l : List Nat, (∀ k ∈ l, k < xs.size) → l.filterMap (fun (k : Nat) => xs[(((xs.size : Nat) : Int) - 1 + (k : Int) * (-1)).toNat]?) = l.filterMap ((xs[·]?) ∘ fun k => xs.size - 1 - k) := by
      intro l
      induction l with
      | nil => intro _; rfl
      | cons k r ih =>
        intro h
        have hk := h k List.mem_cons_self
        have ek : (((xs.size : Nat) : Int) - 1 + (k : Int) * (-1)).toNat = xs.size - 1 - k := by omega
        rw [List.filterMap_cons, List.filterMap_cons, ih fun y hy => h y (List.mem_cons_of_mem _ hy), ek]
        rfl
    exact key _ fun k hk => List.mem_range.mp hk
  rw [e, PySem.W.krv_range, List.filterMap_reverse, PySem.W.krv_all]
theorem getItem_tuple_rev {t sl : Addr} {items : Array Value} {vk : Value} {Q : Value → Shared → Prop} (ht : IsTup s.heap t items) (hs : s.heap.IsSliceOf sl .none .none vk) (pk : IsPart vk (some (-1)))
    (h : Q (.ref s.heap.objs.size) { s with heap := s.heap.push { cls := .type "tuple", data := .seq items.toList.reverse.toArray } })
    (hsz : items.size ≤ sizeLine) : wpAny (model prog w) A (getItem (.ref t) (.ref sl)) Q E s := by
  have htake : sizeOk (.seq items.toList.reverse.toArray) := by
    show items.toList.reverse.toArray.size ≤ sizeLine
    rw [List.size_toArray, List.length_reverse, Array.length_toList]
    exact hsz
  obtain ⟨os, hos, hcs, hds⟩ := id hs
  have hTs : s.TypeIs (.ref sl) "slice" := ⟨os, hos, hcs⟩
  unfold getItem
  try with_reducible refine wpAny_holding ?_
  first | refine wpAny_bind (wpAny_pure ?_) | skip
  refine wpAny_bind (wpAny_sequenceKey ht.typeIs (by decide) ?_)
  refine wpAny_bind (wpAny_callSpecial?_slot (name := Str.ofString "__getitem__") ht.typeIs PyProof.Rows.slot_tuple_getitem
    (wpAny_call_entry PyProof.Rows.slot_tuple_getitem ht.typeIs entry_tuple_getitem ?_ (args_tuple_getitem _ _)))
  show wpAny _ _ (Builtin.Tuple.tupleItemsOf (.ref t) >>= _) _ _ s
  refine wpAny_bind (tupleItemsOf_ ht ?_)
  refine wpAny_bind (wpAny_typeOf hTs ?_)
  rw [if_pos (by decide)]
  refine wpAny_bind (sliceApplied_rev hs pk ?_)
  have hno : ¬ ((((items.size : Nat) : Int) - 1 == 0 && (-1 : Int) == 1 && items.size == items.size) = true) := by
    intro q
    rw [Bool.and_eq_true, Bool.and_eq_true] at q
    exact absurd (eq_of_beq q.1.2) (by decide)
  show wpAny _ _ (if (((items.size : Nat) : Int) - 1 == 0 && (-1 : Int) == 1 && items.size == items.size) = true then _ else _) _ _ s
  rw [if_neg hno, pick_rev]
  first
    | exact wpAny_bind (m := Builtin.Tuple.tupleExact _) (wpAny_newObj_type (wpAny_pure ⟨_, rfl, wpAny_pure h⟩) htake)
    | exact wpAny_bind (m := Builtin.Tuple.tupleExact _) (wpAny_newObj_type (wpAny_bind (wpAny_pure (wpAny_pure ⟨_, rfl, wpAny_pure h⟩))) htake)
    | exact wpAny_bind (wpAny_bind (m := Builtin.Tuple.tupleExact _) (wpAny_newObj_type (wpAny_pure (wpAny_pure ⟨_, rfl, wpAny_pure h⟩)) htake))
    | exact wpAny_bind (wpAny_bind (m := Builtin.Tuple.tupleExact _) (wpAny_newObj_type (wpAny_pure ⟨_, rfl, wpAny_pure h⟩) htake))
end
end HT
namespace Cw
open PySem PySem.Spec PyProof.Rows L2
section
variable {X : Cx} {e k : Expr} {te : TE} {tk : TO} {pos p2 : Pos}
def tRevT (K : PySem.W.Frag) (te : TE) (tk : TO) : TE := fun σ H Q => te σ H fun x H1 => tk σ H1 fun o H2 => o = some (-1) ∧ ∃ a xs, x = .ref a ∧ SqT K H2 a xs ∧ ∀ p, H2 p = none → Q (.ref p) (upd H2 p (.tup xs.reverse))
theorem vals_reverse : ∀ {xs : List V} {us : List Value}, Vals xs us → Vals xs.reverse us.reverse
  | _, _, .nil => .nil
  | _, _, .cons h r => by
    rw [List.reverse_cons, List.reverse_cons]
    exact (vals_reverse r).append (.cons h .nil)
/-- t[::-1] -/
theorem pe_revT (he : PE X e te) (hk : PO X (some k) tk) : PE X (.Subscript e (.Slice none none (some k) p2) pos) (tRevT X.K te tk) := by
  refine ⟨fun pins s σ H Q I h => ?_⟩
  refine Subscript_ (thn (he.run pins s σ H _ I h) fun v s1 ⟨x, H1, I1, r1, q1⟩ => ?_)
  refine wpAny_Slice ?_
  rw [evalPart_none]
  refine wpAny_pure (wpAny_pure ?_)
  refine thn (hk.run pins s1 σ H1 _ I1 q1) fun vk s3 ⟨o, H3, I3, pk, q3⟩ => ?_
  obtain ⟨rfl, a, xs, rfl, hx, q⟩ := q3
  cases r1
  have I4 : Inv X pins σ H3 { s3 with heap := s3.heap.push { cls := .type "slice", data := .fields #[.none, .none, vk] } } := I3.kept (t' := s3.toks) fun b ob q => Heap.get?_push_of_some _ q
  obtain ⟨its, r, ht, hz⟩ := I4.tuple hx
  have hlen : its.toArray.size = xs.length := by rw [List.size_toArray]; exact r.length.symm
  show wpAny (model X.prog X.w) X.A (subscriptTail e (.Slice none none (some k) p2) (.ref a) (.ref s3.heap.objs.size)) (EP X pins σ Q) X.xe { s3 with heap := s3.heap.push { cls := .type "slice", data := .fields #[.none, .none, vk] } }
  refine tail_any (ops := [.ref a, .ref s3.heap.objs.size]) ht.typeIs PyProof.Rows.slot_tuple_getitem.lookup ?_ (by with_unfolding_all rfl)
  refine HT.getItem_tuple_rev ht (Heap.IsSliceOf.new ..) pk ?_ (by rw [hlen]; exact hz)
  refine ⟨.ref _, _, I4.laid (t' := s3.toks) (o := .tup xs.reverse) (fun b ob q => Heap.get?_push_of_some _ q) (Nat.le_refl _) ?_, rfl, q _ (I4.hok.fresh (Nat.le_refl _))⟩
  exact ⟨by rw [List.length_reverse]; exact hz, its.reverse, vals_reverse r, IsTup.new _ _⟩
end
end Cw
namespace Cw
open PySem PySem.Spec PyProof.Rows L2
section
variable {X : Cx} {T : String} {name : Str} {id : String} {r : V → List V → Hp → VK → Prop} {o e : Expr} {es : List Expr} {to : TE} {t : TA} {apos cpos : Pos}
theorem pe_bmK {K : PySem.W.Frag} (hK : X.K = K) (pa : PlainAttrs T) (slot : Slot T name id) (hty : typeOf (.builtin id) = pure (.type "method_descriptor")) (hm : MtR X id r) (ho : PE X o to) (ha : PA X (e :: es) t)
    (hbase : attributeBase o name X.env (eval o X.env) = eval o X.env := by rfl)
    (hfew : ((backTo cpos (starEach (e :: es) X.env)).all (fun x => !x.1) && (backToKw cpos (keywordEach [] X.env)).all (fun x => x.1.isSome)
      && decide ((e :: es).length + ([] : List Keyword).length + (if ([] : List Keyword).isEmpty then 0 else 1) < 30)) = true := by rfl)
    (hline : (apos.endLine == cpos.line) = true := by rfl) (hs : starEach (e :: es) X.env = (false, eval e X.env) :: starEach es X.env := by rfl) (hplain : (backTo cpos (starEach es X.env)).any (·.1) = false := by rfl) :
    PE X (.Call (.Attribute o name apos) (e :: es) [] cpos) (tBM K T r to t) := by
  subst hK
  exact pe_bm pa slot hty hm ho ha hbase hfew hline hs hplain
theorem pe_bm0K {K : PySem.W.Frag} (hK : X.K = K) (pa : PlainAttrs T) (slot : Slot T name id) (hty : typeOf (.builtin id) = pure (.type "method_descriptor")) (hm : MtR X id r) (ho : PE X o to)
    (hbase : attributeBase o name X.env (eval o X.env) = eval o X.env := by rfl) (hline : (apos.endLine == cpos.line) = true := by rfl) : PE X (.Call (.Attribute o name apos) [] [] cpos) (tBM0 K T r to) := by
  subst hK
  exact pe_bm0 pa slot hty hm ho hbase hline
end
end Cw
/-! Hanging together along edges, whatever the points are. -/
namespace Pa
open scoped Classical
variable {α : Type}
abbrev Es (α : Type) := List (α × α)
def Adj (es : Es α) (y z : α) : Prop := (y, z) ∈ es ∨ (z, y) ∈ es
inductive Conn (es : Es α) : α → α → Prop
  | refl (y : α) : Conn es y y
  | step {x y z : α} : Conn es x y → Adj es y z → Conn es x z
theorem Adj.symm {es : Es α} {y z : α} (h : Adj es y z) : Adj es z y := Or.symm h
theorem Conn.trans {es : Es α} {x y z : α} (a : Conn es x y) (b : Conn es y z) : Conn es x z := by
  induction b with
  | refl => exact a
  | step _ h ih => exact .step ih h
theorem Conn.one {es : Es α} {x y : α} (h : Adj es x y) : Conn es x y := .step (.refl x) h
theorem Conn.symm {es : Es α} {x y : α} (a : Conn es x y) : Conn es y x := by
  induction a with
  | refl => exact .refl _
  | step _ h ih => exact (Conn.one h.symm).trans ih
theorem Conn.mono {es fs : Es α} (k : ∀ e ∈ es, e ∈ fs) {x y : α} (a : Conn es x y) : Conn fs x y := by
  induction a with
  | refl => exact .refl _
  | step _ h ih => exact .step ih (h.elim (fun z => .inl (k _ z)) (fun z => .inr (k _ z)))
theorem Conn.nil {x y : α} (a : Conn ([] : Es α) x y) : x = y := by
  induction a with
  | refl => rfl
  | step _ h _ => rcases h with h | h <;> cases h
theorem conn_snoc {es : Es α} {u v x y : α} : Conn (es ++ [(u, v)]) x y ↔ Conn es x y ∨ (Conn es x u ∧ Conn es v y) ∨ (Conn es x v ∧ Conn es u y) := by
  have up : ∀ {p q : α}, Conn es p q → Conn (es ++ [(u, v)]) p q := Conn.mono fun e h => List.mem_append_left _ h
  have uv : Conn (es ++ [(u, v)]) u v := .one (.inl (by simp))
  constructor
  · intro a
    induction a with
    | refl => exact .inl (.refl _)
    | @step p q _ h ih =>
      have key : Adj es p q ∨ (p = u ∧ q = v) ∨ (p = v ∧ q = u) := by
        rcases h with h | h <;> rcases List.mem_append.mp h with h | h
        · exact .inl (.inl h)
        · have e := List.mem_singleton.mp h
          cases e
          exact .inr (.inl ⟨rfl, rfl⟩)
        · exact .inl (.inr h)
        · have e := List.mem_singleton.mp h
          cases e
          exact .inr (.inr ⟨rfl, rfl⟩)
      rcases key with k | ⟨rfl, rfl⟩ | ⟨rfl, rfl⟩
      · rcases ih with a | ⟨a, b⟩ | ⟨a, b⟩
        · exact .inl (.step a k)
        · exact .inr (.inl ⟨a, .step b k⟩)
        · exact .inr (.inr ⟨a, .step b k⟩)
      · rcases ih with a | ⟨a, b⟩ | ⟨a, b⟩
        · exact .inr (.inl ⟨a, .refl _⟩)
        · exact .inr (.inl ⟨a, .refl _⟩)
        · exact .inl a
      · rcases ih with a | ⟨a, b⟩ | ⟨a, b⟩
        · exact .inr (.inr ⟨a, .refl _⟩)
        · exact .inl a
        · exact .inr (.inr ⟨a, .refl _⟩)
  · rintro (a | ⟨a, b⟩ | ⟨a, b⟩)
    · exact up a
    · exact ((up a).trans uv).trans (up b)
    · exact ((up a).trans uv.symm).trans (up b)
/-- what is closed holds all that hangs together with one of it -/
theorem Conn.closed {es : Es α} {R : α → Prop} (hc : ∀ y z, R y → Adj es y z → R z) {x y : α} (hx : R x) (a : Conn es x y) : R y := by
  induction a with
  | refl => exact hx
  | step _ h ih => exact hc _ _ ih h
/-- those of the list that hang together with x -/
noncomputable def comp (es : Es α) (ns : List α) (x : α) : List α := ns.filter fun z => decide (Conn es x z)
theorem mem_comp {es : Es α} {ns : List α} {x z : α} : z ∈ comp es ns x ↔ z ∈ ns ∧ Conn es x z := by
  unfold comp
  rw [List.mem_filter, decide_eq_true_iff]
theorem comp_eq {es : Es α} {ns : List α} {x : α} {f : α → Bool} (h : ∀ z ∈ ns, f z = true ↔ Conn es x z) : ns.filter f = comp es ns x := by
  unfold comp
  refine List.filter_congr fun z hz => ?_
  have k := h z hz
  by_cases c : Conn es x z
  · rw [k.mpr c, decide_eq_true c]
  · rw [decide_eq_false c]
    cases e : f z with
    | false => rfl
    | true => exact absurd (k.mp e) c
theorem comp_conn {es : Es α} {ns : List α} {x y : α} (h : Conn es x y) : comp es ns x = comp es ns y := by
  refine (comp_eq fun z hz => ?_).symm.symm
  constructor
  · intro k
    exact h.symm.trans (of_decide_eq_true k)
  · intro k
    exact decide_eq_true (h.trans k)
/-- is the first of its part -/
def First (es : Es α) (ns : List α) (z : α) : Prop := (comp es ns z).head? = some z
theorem first_iff {es : Es α} {ns : List α} (nd : ns.Nodup) {i : Nat} (hi : i < ns.length) : First es ns ns[i] ↔ ∀ x ∈ ns.take i, ¬ Conn es x ns[i] := by
  have split : ns = ns.take i ++ ns[i] :: ns.drop (i + 1) := by rw [List.getElem_cons_drop, List.take_append_drop]
  have cs : comp es ns ns[i] = (ns.take i).filter (fun z => decide (Conn es ns[i] z)) ++ (ns[i] :: (ns.drop (i + 1)).filter (fun z => decide (Conn es ns[i] z))) := by
    unfold comp
    have e := congrArg (List.filter (fun z => decide (Conn es ns[i] z))) split
    rw [List.filter_append, List.filter_cons, if_pos (decide_eq_true (Conn.refl _))] at e
    simpa using e
  constructor
  · intro h x hx c
    unfold First at h
    rw [cs] at h
    have mem : x ∈ (ns.take i).filter (fun z => decide (Conn es ns[i] z)) := List.mem_filter.mpr ⟨hx, decide_eq_true c.symm⟩
    cases e : (ns.take i).filter (fun z => decide (Conn es ns[i] z)) with
    | nil => rw [e] at mem; cases mem
    | cons y r =>
      rw [e] at h
      have ey : y = ns[i] := by simpa using h
      have my : y ∈ ns.take i := (List.mem_filter.mp (by rw [e]; exact List.mem_cons_self)).1
      rw [split] at nd
      exact (List.nodup_append.mp nd).2.2 y my ns[i] List.mem_cons_self ey
  · intro h
    unfold First
    rw [cs]
    have e : (ns.take i).filter (fun z => decide (Conn es ns[i] z)) = [] := by
      rw [List.filter_eq_nil_iff]
      intro x hx k
      exact h x hx (of_decide_eq_true k).symm
    rw [e]
    rfl
/-- the parts of the first i: by their first ones -/
noncomputable def parts (es : Es α) (ns ms : List α) : List (List α) := (ms.filter fun z => decide (First es ns z)).map (comp es ns)
theorem parts_snoc_pos {es : Es α} {ns ms : List α} {z : α} (h : First es ns z) : parts es ns (ms ++ [z]) = parts es ns ms ++ [comp es ns z] := by
  unfold parts
  simp [List.filter_append, h]
theorem parts_snoc_neg {es : Es α} {ns ms : List α} {z : α} (h : ¬ First es ns z) : parts es ns (ms ++ [z]) = parts es ns ms := by
  unfold parts
  simp [List.filter_append, h]
theorem mem_parts {es : Es α} {ns ms : List α} {c : List α} (h : c ∈ parts es ns ms) : ∃ z ∈ ms, First es ns z ∧ c = comp es ns z := by
  unfold parts at h
  obtain ⟨z, hz, rfl⟩ := List.mem_map.mp h
  obtain ⟨h1, h2⟩ := List.mem_filter.mp hz
  exact ⟨z, h1, of_decide_eq_true h2, rfl⟩
/-! ### marks: joined edge by edge -/
theorem marks_step {es : Es α} {u v : α} {ns : List α} {m : α → Int} {lo hi : Int} (hu : u ∈ ns) (hv : v ∈ ns) (hm : ∀ x ∈ ns, ∀ y ∈ ns, m x = m y ↔ Conn es x y)
    (hlh : (lo = m u ∧ hi = m v) ∨ (lo = m v ∧ hi = m u)) : ∀ x ∈ ns, ∀ y ∈ ns, (if m x = hi then lo else m x) = (if m y = hi then lo else m y) ↔ Conn (es ++ [(u, v)]) x y := by
  intro x hx y hy
  rw [conn_snoc, ← hm x hx y hy, ← hm x hx u hu, ← hm v hv y hy, ← hm x hx v hv, ← hm u hu y hy]
  rcases hlh with ⟨rfl, rfl⟩ | ⟨rfl, rfl⟩
  · by_cases h1 : m x = m v
    · by_cases h2 : m y = m v
      · rw [if_pos h1, if_pos h2]
        exact ⟨fun _ => .inl (h1.trans h2.symm), fun _ => rfl⟩
      · rw [if_pos h1, if_neg h2]
        constructor
        · intro e
          exact .inr (.inr ⟨h1, e⟩)
        · rintro (e | ⟨_, e⟩ | ⟨_, e⟩)
          · exact absurd (e.symm.trans h1) h2
          · exact absurd e.symm h2
          · exact e
    · by_cases h2 : m y = m v
      · rw [if_neg h1, if_pos h2]
        constructor
        · intro e
          exact .inr (.inl ⟨e, h2.symm⟩)
        · rintro (e | ⟨e, _⟩ | ⟨e, _⟩)
          · exact absurd (e.trans h2) h1
          · exact e
          · exact absurd e h1
      · rw [if_neg h1, if_neg h2]
        constructor
        · intro e
          exact .inl e
        · rintro (e | ⟨_, e⟩ | ⟨e, _⟩)
          · exact e
          · exact absurd e.symm h2
          · exact absurd e h1
  · by_cases h1 : m x = m u
    · by_cases h2 : m y = m u
      · rw [if_pos h1, if_pos h2]
        exact ⟨fun _ => .inl (h1.trans h2.symm), fun _ => rfl⟩
      · rw [if_pos h1, if_neg h2]
        constructor
        · intro e
          exact .inr (.inl ⟨h1, e⟩)
        · rintro (e | ⟨_, e⟩ | ⟨_, e⟩)
          · exact absurd (e.symm.trans h1) h2
          · exact e
          · exact absurd e.symm h2
    · by_cases h2 : m y = m u
      · rw [if_neg h1, if_pos h2]
        constructor
        · intro e
          exact .inr (.inr ⟨e, h2.symm⟩)
        · rintro (e | ⟨e, _⟩ | ⟨e, _⟩)
          · exact absurd (e.trans h2) h1
          · exact absurd e h1
          · exact e
      · rw [if_neg h1, if_neg h2]
        constructor
        · intro e
          exact .inl e
        · rintro (e | ⟨e, _⟩ | ⟨_, e⟩)
          · exact e
          · exact absurd e h1
          · exact absurd e.symm h2
end Pa
namespace Pa
variable {α : Type}
/-- the search: R reached, W waiting, all else of R looked at but those that ex names -/
structure PInv (es : Es α) (ns : List α) (z : α) (ex : α → Prop) (R W : List α) : Prop where
  nd : R.Nodup
  sub : ∀ y ∈ R, y ∈ ns
  con : ∀ y ∈ R, Conn es z y
  hz : z ∈ R
  hw : ∀ y ∈ W, y ∈ R
  cl : ∀ y ∈ R, y ∉ W → ¬ ex y → ∀ u, Adj es y u → u ∈ R
  le : W.length ≤ R.length
theorem PInv.start {es : Es α} {ns : List α} {z : α} (h : z ∈ ns) : PInv es ns z (fun _ => False) [z] [z] where
  nd := by simp
  sub := fun y hy => by rw [List.mem_singleton.mp hy]; exact h
  con := fun y hy => by rw [List.mem_singleton.mp hy]; exact .refl _
  hz := by simp
  hw := fun y hy => hy
  cl := fun y hy hn => absurd hy hn
  le := Nat.le_refl _
theorem PInv.few {es : Es α} {ns : List α} {z : α} {ex : α → Prop} {R W : List α} (h : PInv es ns z ex R W) : R.length ≤ ns.length := h.nd.length_le_of_subset h.sub
theorem PInv.pop {es : Es α} {ns : List α} {z y0 : α} {R W : List α} (h : PInv es ns z (fun _ => False) R (W ++ [y0])) : PInv es ns z (· = y0) R W where
  nd := h.nd
  sub := h.sub
  con := h.con
  hz := h.hz
  hw := fun y hy => h.hw y (List.mem_append_left _ hy)
  cl := fun y hy hn he => h.cl y hy (fun z => (List.mem_append.mp z).elim hn fun k => he (List.mem_singleton.mp k)) (fun z => z)
  le := by have := h.le; rw [List.length_append] at this; omega
theorem PInv.push {es : Es α} {ns : List α} {z u : α} {ex : α → Prop} {R W : List α} (h : PInv es ns z ex R W) (hn : u ∉ R) (hu : u ∈ ns) (hc : Conn es z u) : PInv es ns z ex (R ++ [u]) (W ++ [u]) where
  nd := List.nodup_append.mpr ⟨h.nd, by simp, fun a ha b hb e => hn (by rw [← List.mem_singleton.mp hb, ← e]; exact ha)⟩
  sub := fun y hy => (List.mem_append.mp hy).elim (h.sub y) fun k => by rw [List.mem_singleton.mp k]; exact hu
  con := fun y hy => (List.mem_append.mp hy).elim (h.con y) fun k => by rw [List.mem_singleton.mp k]; exact hc
  hz := List.mem_append_left _ h.hz
  hw := fun y hy => (List.mem_append.mp hy).elim (fun k => List.mem_append_left _ (h.hw y k)) fun k => List.mem_append_right _ k
  cl := fun y hy hw he v hv => by
    rcases List.mem_append.mp hy with k | k
    · exact List.mem_append_left _ (h.cl y k (fun q => hw (List.mem_append_left _ q)) he v hv)
    · exact absurd (List.mem_append_right _ k) hw
  le := by rw [List.length_append, List.length_append]; have := h.le; omega
theorem PInv.done {es : Es α} {ns : List α} {z y0 : α} {R W : List α} (h : PInv es ns z (· = y0) R W) (hc : ∀ u, Adj es y0 u → u ∈ R) : PInv es ns z (fun _ => False) R W where
  nd := h.nd
  sub := h.sub
  con := h.con
  hz := h.hz
  hw := h.hw
  cl := fun y hy hn _ u hu => by
    by_cases e : y = y0
    · subst e
      exact hc u hu
    · exact h.cl y hy hn e u hu
  le := h.le
theorem PInv.all {es : Es α} {ns : List α} {z : α} {R : List α} (h : PInv es ns z (fun _ => False) R []) : ∀ y, y ∈ R ↔ Conn es z y := fun y =>
  ⟨h.con y, fun c => c.closed (R := (· ∈ R)) (fun _ u ha hu => h.cl _ ha (by simp) (fun z => z) u hu) h.hz⟩
end Pa
namespace Pa
variable {α : Type}
theorem comp_nodup {es : Es α} {ns : List α} {x : α} (h : ns.Nodup) : (comp es ns x).Nodup := by
  unfold comp
  exact h.filter _
theorem comp_len {es : Es α} {ns : List α} {x : α} : (comp es ns x).length ≤ ns.length := by
  unfold comp
  exact List.length_filter_le _ _
/-- those who were seen, of the first i -/
def Seen (es : Es α) (ns : List α) (i : Nat) (S : List α) : Prop := S.Nodup ∧ ∀ y, y ∈ S ↔ y ∈ ns ∧ ∃ x ∈ ns.take i, Conn es x y
theorem Seen.few {es : Es α} {ns : List α} {i : Nat} {S : List α} (h : Seen es ns i S) : S.length ≤ ns.length := h.1.length_le_of_subset fun y hy => ((h.2 y).mp hy).1
theorem Seen.first {es : Es α} {ns : List α} {i : Nat} {S : List α} (h : Seen es ns i S) (nd : ns.Nodup) (hi : i < ns.length) : ns[i] ∉ S ↔ First es ns ns[i] := by
  rw [first_iff nd hi, h.2]
  constructor
  · intro k x hx c
    exact k ⟨List.getElem_mem hi, x, hx, c⟩
  · rintro k ⟨_, x, hx, c⟩
    exact k x hx c
theorem take_snoc {ns : List α} {i : Nat} (hi : i < ns.length) : ns.take (i + 1) = ns.take i ++ [ns[i]] := by
  rw [List.take_add_one, List.getElem?_eq_getElem hi]
  rfl
theorem Seen.old {es : Es α} {ns : List α} {i : Nat} {S : List α} (h : Seen es ns i S) (hi : i < ns.length) (hs : ns[i] ∈ S) : Seen es ns (i + 1) S := by
  refine ⟨h.1, fun y => ?_⟩
  rw [h.2, take_snoc hi]
  obtain ⟨_, x0, hx0, c0⟩ := (h.2 _).mp hs
  constructor
  · rintro ⟨hy, x, hx, c⟩
    exact ⟨hy, x, List.mem_append_left _ hx, c⟩
  · rintro ⟨hy, x, hx, c⟩
    rcases List.mem_append.mp hx with hx | hx
    · exact ⟨hy, x, hx, c⟩
    · rw [List.mem_singleton.mp hx] at c
      exact ⟨hy, x0, hx0, c0.trans c⟩
theorem Seen.apart {es : Es α} {ns : List α} {i : Nat} {S : List α} (h : Seen es ns i S) (hi : i < ns.length) (hs : ns[i] ∉ S) : ∀ y ∈ comp es ns ns[i], y ∉ S := by
  intro y hy k
  obtain ⟨_, x, hx, c⟩ := (h.2 _).mp k
  exact hs ((h.2 _).mpr ⟨List.getElem_mem hi, x, hx, c.trans (mem_comp.mp hy).2.symm⟩)
theorem Seen.new {es : Es α} {ns : List α} {i : Nat} {S : List α} (h : Seen es ns i S) (nd : ns.Nodup) (hi : i < ns.length) (hs : ns[i] ∉ S) : Seen es ns (i + 1) (S ++ comp es ns ns[i]) := by
  refine ⟨List.nodup_append.mpr ⟨h.1, comp_nodup nd, fun a ha b hb e => h.apart hi hs b hb (e ▸ ha)⟩, fun y => ?_⟩
  rw [List.mem_append, h.2, mem_comp, take_snoc hi]
  constructor
  · rintro (⟨hy, x, hx, c⟩ | ⟨hy, c⟩)
    · exact ⟨hy, x, List.mem_append_left _ hx, c⟩
    · exact ⟨hy, ns[i], List.mem_append_right _ (by simp), c⟩
  · rintro ⟨hy, x, hx, c⟩
    rcases List.mem_append.mp hx with hx | hx
    · exact .inl ⟨hy, x, hx, c⟩
    · rw [List.mem_singleton.mp hx] at c
      exact .inr ⟨hy, c⟩
end Pa
namespace Pa
open scoped Classical in
theorem parts_mem {α : Type} {es : Es α} {ns ms : List α} {z : α} (h : z ∈ ms) (hf : First es ns z) : comp es ns z ∈ parts es ns ms := by
  unfold parts
  exact List.mem_map.mpr ⟨z, List.mem_filter.mpr ⟨h, decide_eq_true hf⟩, rfl⟩
end Pa
/-! == and != by an own __eq__, whatever stands at the right; in a list of one; repr by an own __repr__; data shown in an f-string -/
namespace Cw
open PySem PySem.Spec PyProof.Rows L2
section
variable {prog : Program} {w : World} {A : Around} {E : Value → Shared → Prop} {s : Shared} {K : PySem.W.Frag} {x C L f : Addr} {h₀ : Heap} {m : Str → Option Value} {ox : Obj} {od : Option Obj} {b tb : Value}
theorem ne_slot : Slot "object" "__ne__" "object.__ne__" := PySem.F.cmp_object.ne
theorem ne_body {Q : PySem.Fin → Shared → Prop} (hu : A.units < cLine) (kin : K.In s.heap) (I : PySem.W.InstAt s.heap x ox C od)
    (heq : PySem.W.findIn K (.ref C) "__eq__" = some (some (.ref f))) (hf : PySem.W.isFn K (.ref f) = true)
    (h : wpAny (model prog w) A (call (.ref f) [.ref x, b]) (fun v s' => ∃ c, v = .bool c ∧ Q (.done (.ret (.bool (!c)))) s') E s) :
    wpAny (model prog w) A (Builtin.«object.__ne__» ⟨[.ref x, b], []⟩) Q E s := by
  unfold Builtin.«object.__ne__»
  refine wpAny_bind (m := slotArgs "__ne__" 1 _) (wpAny_pure ?_)
  refine wpAny_bind (wpAny_cRoomFor hu ?_)
  refine wpAny_bind (m := callSpecialIfBound? (.ref x) (Str.ofString "__eq__") [b]) (PySem.W.ifBound_K kin I heq hf (wpAny_mono h (fun r s' hr => ?_) fun _ _ e => e))
  obtain ⟨c, rfl, q⟩ := hr
  show wpAny _ _ (truthy (.bool c) >>= fun t => _) _ _ s'
  refine wpAny_bind (wpAny_truthy_bool ?_)
  exact wpAny_pure q
theorem tryNe_K {Q : Option Value → Shared → Prop} (hu : A.units + 1 < cLine) (kin : K.In s.heap) (I : PySem.W.InstAt s.heap x ox C od) (hne : PySem.W.findIn K (.ref C) "__ne__" = some (some (.builtin "object.__ne__")))
    (hm : PySem.W.mroIn K C (.type "object") = some true) (heq : PySem.W.findIn K (.ref C) "__eq__" = some (some (.ref f))) (hf : PySem.W.isFn K (.ref f) = true)
    (h : wpAny (model prog w) A.in1 (call (.ref f) [.ref x, b]) (fun v s' => ∃ c, v = .bool c ∧ Q (some (.bool (!c))) s') E s) : wpAny (model prog w) A (tryCompare (.ref x) "__ne__" b) Q E s := by
  have inst : PySem.W.Looks (model prog w) s.heap (isInstance (.ref x) (.type "object")) true := I.type.andThen (PySem.W.looks_mroIn kin hm)
  have cl : wpAny (model prog w) A (call (.builtin "object.__ne__") [.ref x, b]) (fun v s' => ∃ c, v = .bool (!c) ∧ Q (some (.bool (!c))) s') E s := by
    refine wpAny_call (codeAny_call_builtin ne_slot.plain PySem.F.cmpEntry_ne ?_)
    refine @PySem.W.check_slot (model prog w) _ _ _ "object.__ne__" "object" "__ne__" (.ref x) [b] [] _ PySem.F.cmpKind_ne PySem.F.cmpSplit_ne inst (PySem.F.cmpArgs_ne _ _) ?_
    refine ne_body (A := A.in1) hu kin I heq hf (wpAny_mono h (fun v s' hv => ?_) fun _ _ e => e)
    obtain ⟨c, rfl, q⟩ := hv
    exact ⟨c, rfl, c, rfl, q⟩
  unfold tryCompare
  refine wpAny_bind ?_
  simp only [callSpecialIfBound?, bindSpecialIfBound?]
  refine wpAny_holding (wpAny_bind (wpAny_bind (wpAny_bind (I.type.here ((PySem.W.looks_findIn kin hne).here ?_)))))
  refine wpAny_bind (wpAny_askSetting (wpAny_ite ?_))
  simp only [show bindSpecial (.builtin "object.__ne__") (.ref x) = pure (.builtin "object.__ne__", [.ref x]) from ne_slot.bind _]
  have fin : wpAny (model prog w) A (call (.builtin "object.__ne__") ([.ref x] ++ [b]) >>= fun v => pure (some v)) (fun a s' => wpAny (model prog w) A (match a with
              | some Value.notImplemented => pure none
              | none => pure none
              | some v => pure (some v)) Q E s') E s :=
    wpAny_bind (wpAny_mono cl (fun v s' hv => by
      obtain ⟨c, rfl, q⟩ := hv
      exact wpAny_pure (wpAny_pure q)) fun _ _ e => e)
  split
  · exact wpAny_bind (wpAny_pure (wpAny_pure fin))
  · exact wpAny_tryCatch (wpAny_bind (wpAny_pure (wpAny_pure fin)))
theorem cmpNe_K {Q : Value → Shared → Prop} (hu : A.units + 1 < cLine) (kin : K.In s.heap) (I : PySem.W.InstAt s.heap x ox C od) (hb : PySem.W.Looks (model prog w) s.heap (typeOf b) tb) (hn : PySem.W.notFirst K C tb = true) (hne : PySem.W.findIn K (.ref C) "__ne__" = some (some (.builtin "object.__ne__")))
    (hm : PySem.W.mroIn K C (.type "object") = some true) (heq : PySem.W.findIn K (.ref C) "__eq__" = some (some (.ref f))) (hf : PySem.W.isFn K (.ref f) = true)
    (h : wpAny (model prog w) A.in1 (call (.ref f) [.ref x, b]) (fun v s' => ∃ c, v = .bool c ∧ Q (.bool (!c)) s') E s) : wpAny (model prog w) A (richCompare .NotEq (.ref x) b) Q E s := by
  have one : wpAny (model prog w) A (tryCompare (.ref x) "__ne__" b) (fun r s' => ∃ v, r = some v ∧ Q v s') E s :=
    tryNe_K hu kin I hne hm heq hf (wpAny_mono h (fun v s' hv => by
      obtain ⟨c, rfl, q⟩ := hv
      exact ⟨c, rfl, _, rfl, q⟩) fun _ _ e => e)
  unfold richCompare
  simp only [oneThing_ref]
  refine wpAny_holding (wpAny_bind (wpAny_cRoomFor (Nat.lt_of_succ_lt hu) ?_))
  rw [cmpInfo_NotEq]
  dsimp only
  refine wpAny_bind (I.type.here (wpAny_bind (hb.here ?_)))
  split
  · rename_i q
    have e : PySem.W.subIn K tb (.ref C) = some false := by
      rcases Bool.or_eq_true_iff.mp hn with e | e
      · rw [beq_iff_eq.mp e] at q; simp at q
      · exact beq_iff_eq.mp e
    refine wpAny_bind ((PySem.W.looks_subIn kin e).here ?_)
    simp only [Bool.false_eq_true, if_false]
    refine wpAny_bind (wpAny_mono one (fun r s' z => ?_) fun _ _ e => e)
    obtain ⟨v, rfl, hq⟩ := z
    exact wpAny_pure hq
  · refine wpAny_bind (wpAny_pure ?_)
    simp only [Bool.false_eq_true, if_false]
    refine wpAny_bind (wpAny_mono one (fun r s' z => ?_) fun _ _ e => e)
    obtain ⟨v, rfl, hq⟩ := z
    exact wpAny_pure hq
end
end Cw
namespace GQ
open PySem PySem.SeqAt
open AutoSeq1 (wpAny_loadPart')
open MeetsSeq MeetsSeq2 MeetsSeq3 SeqRoads2
section
variable {prog : Program} {w : World} {A : Around} {R : Result → Shared → Prop}
theorem contains_none (l : Addr) (items : Array Value) (x : Value) (n i : Nat) {s : Shared} (hl : s.heap.get? l = some { cls := .type "list", data := .seq items n }) (hi : items[((i : Nat) : Int).toNat]? = none) (q : R (.ok (.ret (.bool false))) s) :
    wpAny (model prog w) A.in1 (Builtin.«list.__contains__.loop» ⟨[.ref l, x, rawInt i], []⟩) (FinOf prog w A R) (fun e s' => R (.error e) s') s := by
  obtain ⟨hp, g, d, tk, os⟩ := s
  wp_walk using wpAny_loadPart' hl
  rw [hi]
  wp_walk
  exact q
/-- x in [y]: the list is read anew behind == -/
theorem contains_one (l : Addr) (items : Array Value) (y x : Value) (n i : Nat) (I : Bool → Shared → Prop) {s : Shared} (hl : s.heap.get? l = some { cls := .type "list", data := .seq items n }) (hi : items[((i : Nat) : Int).toNat]? = some y) (hi2 : items[((i + 1 : Nat) : Int).toNat]? = none)
    (hs : ∀ s', I false s' → ∃ (items : Array Value) (n : Nat), s'.heap.get? l = some { cls := .type "list", data := .seq items n } ∧ items[((i + 1 : Nat) : Int).toNat]? = none)
    (he : wpAny (model prog w) A.in1 (eqBool y x) I (fun e s' => R (.error e) s') s) (fin : ∀ b s', I b s' → R (.ok (.ret (.bool b))) s') :
    wpAny (model prog w) A.in1 (Builtin.«list.__contains__.loop» ⟨[.ref l, x, rawInt i], []⟩) (FinOf prog w A R) (fun e s' => R (.error e) s') s := by
  obtain ⟨hp, g, d, tk, os⟩ := s
  wp_walk using wpAny_loadPart' hl
  rw [hi]
  refine wpAny_bind (wpAny_mono he (fun r s2 h2 => ?_) fun _ _ x => x)
  cases r with
  | true =>
    have q := fin true s2 h2
    obtain ⟨hp2, g2, d2, tk2, os2⟩ := s2
    wp_walk
    exact q
  | false =>
    have q := fin false s2 h2
    obtain ⟨its, m, hl2, hn⟩ := hs s2 h2
    have k := contains_none (prog := prog) (w := w) (A := A) (R := R) l its x m (i + 1) hl2 hn q
    have hc : ((i : Int) + 1) = ((i + 1 : Nat) : Int) := by omega
    obtain ⟨hp2, g2, d2, tk2, os2⟩ := s2
    wp_walk
    rw [hc]
    refine ⟨plainId_quiet plain_contains_loop _, codeAny_builtin entry_contains_loop ?_⟩
    rw [Around.under_plainId plain_contains_loop _]
    exact k
theorem contains_head (l : Addr) (x : Value) {s : Shared} (k : wpAny (model prog w) A.in1 (Builtin.«list.__contains__.loop» ⟨[.ref l, x, rawInt 0], []⟩) (FinOf prog w A R) (fun e s' => R (.error e) s') s) :
    wpAny (model prog w) A.in1 (Builtin.«list.__contains__» ⟨[.ref l, x], []⟩) (FinOf prog w A R) (fun e s' => R (.error e) s') s := by
  obtain ⟨hp, g, d, tk, os⟩ := s
  wp_walk
  refine ⟨plainId_quiet plain_contains_loop _, codeAny_builtin entry_contains_loop ?_⟩
  rw [Around.under_plainId plain_contains_loop _]
  exact k
end
section
variable {prog : Program} {w : World} {A : Around} {E : Value → Shared → Prop} {s : Shared}
theorem in_one {l : Addr} {y x : Value} {n : Nat} {Q : Value → Shared → Prop} (I : Bool → Shared → Prop) (hl : s.heap.get? l = some { cls := .type "list", data := .seq #[y] n })
    (hs : ∀ s', I false s' → ∃ (y' : Value) (n : Nat), s'.heap.get? l = some { cls := .type "list", data := .seq #[y'] n })
    (he : wpAny (model prog w) A.in1 (eqBool y x) I E s) (fin : ∀ b s', I b s' → Q (.bool b) s') : wpAny (model prog w) A (compareOp .In x (.ref l)) Q E s := by
  show wpAny _ A (do return .bool (← contains (.ref l) x)) Q E s
  have hT : s.TypeIs (.ref l) "list" := ⟨_, hl, rfl⟩
  refine wpAny_bind (wpAny_contains_slot hT F.slot_list_contains (wpAny_mono (call_here (Q := fun v s' => ∃ b, v = .bool b ∧ Q (.bool b) s') F.slot_list_contains hT F.entry_list_contains (F.args_list_contains_2 _ _) (contains_head l x ?_)) (fun v s' hv => ?_) fun _ _ e => e))
  · refine contains_one l #[y] y x n 0 I hl rfl rfl (fun s' q => ?_) he (fun b s' q => ⟨b, rfl, fin b s' q⟩)
    obtain ⟨y', n', e⟩ := hs s' q
    exact ⟨_, _, e, rfl⟩
  · obtain ⟨b, rfl, hq⟩ := hv
    exact wpAny_truthy_bool (wpAny_pure hq)
end
end GQ
namespace Cw
open PySem PySem.Spec PyProof.Rows L2
section
variable {X : Cx} {C f : Addr} {fd : FuncData} {ps : List Str} {sp : Sp} {k : Nat}
theorem tyX_looks {pins : List (Addr × Obj)} {σ : L2.St} {H : Hp} {s : Shared} {x : V} {u t : Value} (I : Inv X pins σ H s) (rx : RelV x u) (ty : TyX X.K H x t) : PySem.W.Looks (model X.prog X.w) s.heap (typeOf u) t := by
  obtain ⟨P, Z, p, _⟩ := kit_of I rx ty
  exact Z.ty _ _ I.kIn p
/-- what the call of an own method of two leads to -/
theorem run_own2 {A : Around} {pins : List (Addr × Obj)} {σ : L2.St} {H : Hp} {s : Shared} {a : Addr} {y : V} {u : Value} {M : VK} (F : FnOk X.prog X.w X.K X.mg X.base CX0 k f fd ps sp) (hr : Room k A) (fr : A.frames = X.A.frames) (hb : Binds X.K fd ps []) (I : Inv X pins σ H s) (ry : RelV y u)
    (h : sp [.ref a, y] H M E0) : wpAny (model X.prog X.w) A (call (.ref f) [.ref a, u]) (fun v s' => ∃ z H', Inv X pins σ H' s' ∧ RelV z v ∧ M z H') X.xe s := by
  have e0 : Env0 X.prog X.w X.K X.mg X.base A X.stack s H := by
    have e := I.env0
    exact ⟨by rw [fr]; exact e.frames, e.mod, e.bs, e.bsz, e.funs, e.frf, e.hok, e.bare⟩
  have hl := F.len _ _ _ _ h
  have r2 : Vals [V.ref a, y] [Value.ref a, u] := .cons rfl (.cons ry .nil)
  refine wpAny_call (codeAny_mono (F.run A X.stack s H ⟨[.ref a, u], []⟩ [.ref a, u] [.ref a, y] _ E0 hr e0 (by
    have := hb s [.ref a, u] I.kIn (by simpa using hl)
    simpa using this) r2 h) fun r s' hq => ?_)
  cases r with
  | error e => exact pass0 pins σ H s e s' I hq
  | ok fl =>
    cases fl with
    | ret w =>
      obtain ⟨z, H', I', rz, q⟩ := I.after hq
      exact ⟨z, H', I', rz, q⟩
    | next => exact False.elim hq
    | brk => exact False.elim hq
    | cont => exact False.elim hq
/-- the left one an instance of the class, the right one anything that is no instance of a class below it -/
def rOwn (K : PySem.W.Frag) (C : Addr) (sp : Sp) (g : Bool → Bool) : R2 := fun x y H Q => ∃ a dx fs t, x = .ref a ∧ H a = some (.ins C dx fs) ∧ TyX K H y t ∧ PySem.W.notFirst K C t = true ∧ sp [.ref a, y] H (fun v H' => ∃ c, v = .bl c ∧ Q (.bl (g c)) H') E0
theorem rc_own {A : Around} {pins : List (Addr × Obj)} {σ : L2.St} {H : Hp} {s : Shared} {a dx : Addr} {fs : List (Str × V)} {y : V} {u t : Value} {M : Bool → Hp → Prop} (F : FnOk X.prog X.w X.K X.mg X.base CX0 k f fd ps sp) (hr : Room k A) (fr : A.frames = X.A.frames) (m : Meth X.K C "__eq__" f) (hb : Binds X.K fd ps []) (I : Inv X pins σ H s) (ry : RelV y u)
    (ha : H a = some (.ins C dx fs)) (ty : TyX X.K H y t) (nf : PySem.W.notFirst X.K C t = true) (h : sp [.ref a, y] H (fun v H' => ∃ c, v = .bl c ∧ M c H') E0) :
    wpAny (model X.prog X.w) A (richCompare .Eq (.ref a) u) (fun v s' => ∃ c H', v = .bool c ∧ Inv X pins σ H' s' ∧ M c H') X.xe s := by
  obtain ⟨mA, J, _⟩ := ins_get I.hok ha
  obtain ⟨od, J, _⟩ := J.look
  obtain ⟨mm, hF⟩ := I.fr
  refine PySem.W.cmp_K (op := .Eq) hr.units0 hF I.ok.mod.kin J (tyX_looks I ry ty) nf m.at_ m.fn (wpAny_mono (run_own2 F hr fr hb I ry h) (fun v s' hv => ?_) fun _ _ e => e)
  obtain ⟨z, H', I', rz, c, rfl, q⟩ := hv
  cases rz
  exact ⟨c, H', rfl, I', q⟩
theorem op_eqO (F : FnOk X.prog X.w X.K X.mg X.base CX0 k f fd ps sp) (hr : Room k X.A) (m : Meth X.K C "__eq__" f) (hb : Binds X.K fd ps []) : OpR X (compareOp .Eq) (rOwn X.K C sp id) := by
  intro pins s σ H x y v u Q I rx ry h
  obtain ⟨a, dx, fs, t, rfl, ha, ty, nf, h⟩ := h
  cases rx
  show wpAny (model X.prog X.w) X.A (richCompare .Eq (.ref a) u) (EP X pins σ Q) X.xe s
  refine wpAny_mono (rc_own (M := fun c H' => Q (.bl c) H') F hr rfl m hb I ry ha ty nf h) (fun r s' z => ?_) fun _ _ e => e
  obtain ⟨c, H', rfl, I', q⟩ := z
  exact ⟨.bl c, H', I', rfl, q⟩
theorem op_neO (F : FnOk X.prog X.w X.K X.mg X.base CX0 k f fd ps sp) (hr : Room (k + 1) X.A) (m : Meth X.K C "__eq__" f) (hb : Binds X.K fd ps []) (hne : PySem.W.findIn X.K (.ref C) "__ne__" = some (some (.builtin "object.__ne__")))
    (hm : PySem.W.mroIn X.K C (.type "object") = some true) : OpR X (compareOp .NotEq) (rOwn X.K C sp not) := by
  intro pins s σ H x y v u Q I rx ry h
  obtain ⟨a, dx, fs, t, rfl, ha, ty, nf, h⟩ := h
  cases rx
  show wpAny (model X.prog X.w) X.A (richCompare .NotEq (.ref a) u) (EP X pins σ Q) X.xe s
  obtain ⟨mA, J, _⟩ := ins_get I.hok ha
  obtain ⟨od, J, _⟩ := J.look
  refine cmpNe_K (by have := hr.un; omega) I.kIn J (tyX_looks I ry ty) nf hne hm m.at_ m.fn (wpAny_mono (run_own2 F hr.in1 rfl hb I ry h) (fun v s' hv => ?_) fun _ _ e => e)
  obtain ⟨z, H', I', rz, c, rfl, q⟩ := hv
  cases rz
  exact ⟨c, rfl, .bl (!c), H', I', rfl, q⟩
/-- x in [y], both instances of the class -/
def rInO (K : PySem.W.Frag) (C : Addr) (sp : Sp) : R2 := fun x y H Q => ∃ a b l dy gs t, x = .ref a ∧ y = .ref l ∧ H l = some (.lst [.ref b]) ∧ H b = some (.ins C dy gs) ∧ TyX K H (.ref a) t ∧ PySem.W.notFirst K C t = true ∧
  (a = b → Q (.bl true) H) ∧ (a ≠ b → sp [.ref b, .ref a] H (fun v H' => ∃ c, v = .bl c ∧ (H' l = some (.lst [.ref b]) ∧ Q (.bl c) H')) E0)
theorem op_inO (F : FnOk X.prog X.w X.K X.mg X.base CX0 k f fd ps sp) (hr : Room (k + 1) X.A) (m : Meth X.K C "__eq__" f) (hb : Binds X.K fd ps []) : OpR X (compareOp .In) (rInO X.K C sp) := by
  intro pins s σ H x y v u Q I rx ry h
  obtain ⟨a, b, l, dy, gs, t, rfl, rfl, hl, hbb, ty, nf, same, h⟩ := h
  cases rx
  cases ry
  have one : ∀ {H : Hp} {s : Shared}, Inv X pins σ H s → H l = some (.lst [.ref b]) → ∃ n, s.heap.get? l = some { cls := .type "list", data := .seq #[.ref b] n } := fun {H s} I e => by
    obtain ⟨_, its, n, rv, ho⟩ := (show ObjOk X.prog X.w H s.heap l (.lst [.ref b]) from I.hok l _ e)
    cases rv with
    | cons r1 r2 =>
      cases r2
      cases r1
      exact ⟨n, ho⟩
  obtain ⟨n, ho⟩ := one I hl
  by_cases hab : b = a
  · subst hab
    refine GQ.in_one (fun r s' => r = true ∧ s' = s) ho (fun s' z => by cases z.1) (SeqAt.EqAt.same (A := X.A.in1) (s := s) (.ref b) X.prog X.w X.xe _ ⟨rfl, rfl⟩) (fun r s' z => ?_)
    obtain ⟨rfl, rfl⟩ := z
    exact ⟨.bl true, H, I, rfl, same rfl⟩
  · refine GQ.in_one (fun r s' => ∃ H', Inv X pins σ H' s' ∧ H' l = some (.lst [.ref b]) ∧ Q (.bl r) H') ho (fun s' z => ?_) (GQ.eqBool_refG hab (wpAny_mono (rc_own (A := X.A.in1) (y := .ref a) (M := fun c H' => H' l = some (.lst [.ref b]) ∧ Q (.bl c) H') F hr.in1 rfl m hb I rfl hbb ty nf (h fun e => hab e.symm)) (fun r s' z => ?_) fun _ _ e => e)) (fun r s' z => ?_)
    · obtain ⟨H', I', e, _⟩ := z
      obtain ⟨n', ho'⟩ := one I' e
      exact ⟨_, n', ho'⟩
    · obtain ⟨c, H', rfl, I', e, q⟩ := z
      exact ⟨c, rfl, H', I', e, q⟩
    · obtain ⟨H', I', e, q⟩ := z
      exact ⟨.bl r, H', I', rfl, q⟩
/-- repr(o), o of a class with an own __repr__ -/
def rReprO (C : Addr) (sp : Sp) : List V → Hp → VK → Prop := fun xs H Q => ∃ a dx fs, xs = [.ref a] ∧ H a = some (.ins C dx fs) ∧ sp [.ref a] H (fun v H' => ∃ z : Str, v = .str z ∧ Q (.str z) H') E0
theorem call_reprO (F : FnG X.prog X.w X.K X.mg X.base CX0 k f fd ps sp) (hg : X.A.guards = some []) (hr : Room (k + 1) X.A) (m : Meth X.K C "__repr__" f) (hb : Binds X.K fd ps []) : CallR X (.builtin "repr") (rReprO C sp) := by
  intro pins s σ H xs us Q I r h
  obtain ⟨a, dx, fs, rfl, ha, hsp⟩ := h
  obtain ⟨u, rfl, r1⟩ := vals1 r
  cases r1
  obtain ⟨mA, J, _⟩ := ins_get I.hok ha
  obtain ⟨od, J, _⟩ := J.look
  obtain ⟨mm, hF⟩ := I.fr
  have hl := F.len _ _ _ _ hsp
  have r2 : Vals [V.ref a] [Value.ref a] := .cons rfl .nil
  refine PySem.W.repr_K hr.in1.units0 hF I.ok.mod.kin J m.at_ m.fn ?_
  refine wpAny_call (codeAny_mono (F.go X.A.in1 X.stack s H ⟨[.ref a], []⟩ [.ref a] [.ref a] _ E0 hg hr.in1 I.env0.in1 (by
    have := hb s [.ref a] I.kIn (by simpa using hl)
    simpa using this) r2 hsp) fun r s' hq => ?_)
  cases r with
  | error e => exact pass0 pins σ H s e s' I hq
  | ok fl =>
    cases fl with
    | ret w =>
      obtain ⟨z, H', I', rz, zz, ez, q⟩ := I.after hq
      subst ez
      obtain ⟨t, rfl⟩ := rz
      exact ⟨.str zz, H', I', ⟨t, rfl⟩, q⟩
    | next => exact False.elim hq
    | brk => exact False.elim hq
    | cont => exact False.elim hq
/-- {e!r}, e data -/
def tFmtX (te : TE) : TE := fun σ H Q => te σ H fun x H1 => ∃ (a : Addr) (d : PyData), x = .ref a ∧ Dx H1 (.ref a) d ∧ d.showable = true ∧ d.depth ≤ 60 ∧ d.shown.length ≤ sizeLine ∧ Q (.str d.shown) H1
theorem pe_fmtX {e : Expr} {te : TE} {pos : Pos} (hg : X.A.guards = some []) (hu : X.A.units + 64 < cLine) (hm : HasMods X.K) (he : PE X e te) : PE X (.FormattedValue e 114 none pos) (tFmtX te) := by
  refine ⟨fun pins s σ H Q I h => ?_⟩
  refine wpAny_FormattedValue_repr (thn (he.run pins s σ H _ I h) fun v s1 hv => ?_)
  obtain ⟨x, H1, I1, r1, a, d, rfl, hd, hs, hdp, hz, q⟩ := hv
  cases r1
  obtain ⟨as, rd, nm⟩ := Dx.reads I1 hm d _ _ hd rfl
  refine pyReprObj_of_reads rd hs (fun _ => nm) hg (by omega) (fun _ _ e => e) (fun h' u tk hk => ?_) hz
  exact wpAny_formatField_str ⟨.str d.shown, H1, I1.kept (t' := tk) hk, ⟨_, rfl⟩, q⟩ ⟨.str d.shown, H1, I1.kept (t' := tk + 1) hk, ⟨_, rfl⟩, q⟩ hz
end
end Cw
/-! rules by K for comprehensions; tuples known to have no dict of their own; repr of a whole number -/
namespace Cw
open PySem PySem.Spec PyProof.Rows L2
section
variable {X : Cx} {C f : Addr} {fd : FuncData} {ps : List Str} {sp : Sp} {k : Nat}
theorem op_eqOK {K : PySem.W.Frag} (hK : X.K = K) (F : FnOk X.prog X.w X.K X.mg X.base CX0 k f fd ps sp) (hr : Room k X.A) (m : Meth X.K C "__eq__" f) (hb : Binds X.K fd ps []) : OpR X (compareOp .Eq) (rOwn K C sp id) := by
  subst hK
  exact op_eqO F hr m hb
theorem op_neOK {K : PySem.W.Frag} (hK : X.K = K) (F : FnOk X.prog X.w X.K X.mg X.base CX0 k f fd ps sp) (hr : Room (k + 1) X.A) (m : Meth X.K C "__eq__" f) (hb : Binds X.K fd ps []) (hne : PySem.W.findIn X.K (.ref C) "__ne__" = some (some (.builtin "object.__ne__")))
    (hm : PySem.W.mroIn X.K C (.type "object") = some true) : OpR X (compareOp .NotEq) (rOwn K C sp not) := by
  subst hK
  exact op_neO F hr m hb hne hm
theorem call_tupleTK {K : PySem.W.Frag} (hK : X.K = K) : CallR X (.type "tuple") (fun xs H Q => ∃ a ys, xs = [.ref a] ∧ SqT K H a ys ∧ Q (.ref a) H) := by
  subst hK
  exact call_tupleT
/-- repr of a whole number -/
theorem call_reprI : CallR X (.builtin "repr") (fun xs H Q => ∃ i : Int, xs = [.int i] ∧ i.natAbs.log2 < 1920 ∧ Q (.str (toString i)) H) := by
  intro pins s σ H xs us Q I r h
  obtain ⟨i, rfl, hz, q⟩ := h
  obtain ⟨u, rfl, r1⟩ := vals1 r
  obtain ⟨t, rfl⟩ := r1
  exact PySem.P.repr_of_int hz ⟨.str (toString i), H, I.tok _, ⟨_, rfl⟩, q⟩
/-- (e, ..), known to have no dict -/
def tTupF (ta : TA) : TE := fun σ H Q => ta σ H fun xs H1 => xs.length ≤ sizeLine ∧ ∀ (p : Addr) (o : Obj), H1 p = none → o.dict = none → Q (.ref p) (upd H1 p (.frz o (.tup xs)))
theorem pe_tupF {es : List Expr} {x1 : Nat} {t : TA} {pos : Pos} (h : PA X es t) : PE X (.Tuple es x1 pos) (tTupF t) := by
  refine ⟨fun pins s σ H Q I hq => ?_⟩
  refine wpAny_Tuple_spliced (thn (h.run pos pins s σ H _ I hq) fun us s1 ⟨xs, H1, I1, r, z, q⟩ => ⟨by rw [← r.length]; exact z, ?_⟩)
  let ob : Obj := { cls := .type "tuple", data := .seq us.toArray }
  have at_ : (s1.heap.push ob).get? s1.heap.objs.size = some ob := Heap.get?_push_size _ rfl
  refine ⟨.ref s1.heap.objs.size, upd H1 s1.heap.objs.size (.frz ob (.tup xs)), I1.laid (t' := s1.toks) (fun b u e => Heap.get?_push_of_some _ e) (Nat.le_refl _) ?_, rfl, q _ ob (I1.hok.fresh (Nat.le_refl _)) rfl⟩
  exact ⟨at_, z, us, r, ⟨_, at_, rfl, _, rfl⟩⟩
/-- t[lo:hi], not the whole of it, known to have no dict -/
def rSlF (K : PySem.W.Frag) : V → Option Int → Option Int → Hp → VK → Prop := fun x lo hi H Q => ∃ a xs, x = .ref a ∧ SqT K H a xs ∧
  ¬ (HT.sIx xs.length 0 lo = 0 ∧ HT.sIx xs.length xs.length hi = xs.length) ∧ ∀ (p : Addr) (o : Obj), H p = none → o.dict = none → Q (.ref p) (upd H p (.frz o (.tup (cutV xs lo hi))))
theorem sl_tupF : SlR X (rSlF X.K) := by
  intro pins s σ H x v vl vu lo hi sl Q I rx hs pl pu h
  obtain ⟨a, xs, rfl, hx, hw, q⟩ := h
  cases rx
  obtain ⟨its, r, ht, hz⟩ := I.tuple hx
  have hlen : its.toArray.size = xs.length := by rw [List.size_toArray]; exact r.length.symm
  refine ⟨"tuple", _, PyProof.Rows.slot_tuple_getitem.lookup, ht.typeIs, ?_⟩
  refine HT.getItem_tuple_cut ht hs pl pu (by rw [hlen]; exact hw) ?_ (by rw [hlen]; exact hz)
  rw [hlen]
  let ob : Obj := { cls := .type "tuple", data := .seq ((its.toArray.toList.drop (HT.sIx xs.length 0 lo)).take (HT.sIx xs.length xs.length hi - HT.sIx xs.length 0 lo)).toArray }
  have at_ : (s.heap.push ob).get? s.heap.objs.size = some ob := Heap.get?_push_size _ rfl
  refine ⟨.ref s.heap.objs.size, upd H s.heap.objs.size (.frz ob (.tup (cutV xs lo hi))), I.laid (t' := s.toks) (fun b ob q => Heap.get?_push_of_some _ q) (Nat.le_refl _) ?_, rfl, q _ ob (I.hok.fresh (Nat.le_refl _)) rfl⟩
  exact ⟨at_, Nat.le_trans (cutV_length xs lo hi) hz, _, (r.drop (HT.sIx xs.length 0 lo)).take (HT.sIx xs.length xs.length hi - HT.sIx xs.length 0 lo), ⟨_, at_, rfl, _, rfl⟩⟩
end
end Cw
/-! set(xs), xs a list of whole numbers; sorted of it -/
namespace Cw
open PySem PySem.Spec PyProof.Rows L2
section
variable {prog : Program} {w : World} {A : Around}
def newI (w : World) : Obj := { cls := .type "set", dict := none, data := .set #[] 0 (.fresh 0 0 (!w.params.followText "set-order")) }
theorem intsAt {us : List Value} {ns : List Int} (h : IntsAre us ns) {i : Nat} {v : Value} (e : us[i]? = some v) : ∃ k t, ns[i]? = some k ∧ v = .int k t := by
  obtain ⟨t, q⟩ := IntsAre.int_at h i v e
  have l := IntsAre.length h
  have hi : i < ns.length := by
    have := (List.getElem?_eq_some_iff.mp e).1
    omega
  refine ⟨ns[i], t, List.getElem?_eq_getElem hi, ?_⟩
  rw [q, List.getD_eq_getElem?_getD, List.getElem?_eq_getElem hi]
  rfl
/-- set.__init__ of a new set with a list of whole numbers -/
theorem initI {s : Shared} {E : Value → Shared → Prop} {l S : Addr} {items : Array Value} {ns : List Int} {R : PySem.Fin → Shared → Prop} (hh : A.handled = none) (hl : s.heap.IsList l items) (hi : IntsAre items.toList ns) (hn : ns.length ≤ 1000)
    (hS : s.heap.get? S = some (newI w)) (ne : l ≠ S)
    (h : ∀ (h' : Heap) (tk c : Nat), SetR w h' S (fun j => decide (j ∈ ns)) c → c ≤ ns.length → (∀ b o, b ≠ S → s.heap.get? b = some o → h'.get? b = some o) → R (.done (.ret .none)) { s with heap := h', toks := tk }) :
    wpAny (model prog w) A (Builtin.«set.__init__» ⟨[.ref S, .ref l], []⟩) R E s := by
  have h1 := hl
  obtain ⟨⟨c, d, da, sl⟩, ho, hc, nl, hd⟩ := hl
  simp only at hc hd
  subst hc
  subst hd
  have hT : s.TypeIs (.ref S) "set" := ⟨_, hS, rfl⟩
  have k1 := PySem.F.sub_list_set
  have k2 := PySem.F.sub_list_frozenset
  have k3 : (Value.type "list" == Value.type "dict") = false := by decide
  unfold Builtin.«set.__init__» noKeywords Builtin.Frozenset.updateFrom newI at *
  generalize hPI : pyIter = PI
  wp_walk
  subst hPI
  refine wpAny_pyIter_list h1 (wpAny_bind (wpAny_runValue ?_))
  have lS : S < s.heap.objs.size := Heap.lt_size hS
  have ll : l < s.heap.objs.size := Heap.lt_size ho
  have sz : items.size = ns.length := by rw [← Array.length_toList, IntsAre.length hi]
  refine set_update_ints ((Walks.list (by simp [hh]) _ l (Nat.ne_of_lt ll) items).toS) S ?_ ns sz (by unfold scanBound; omega) (fun i v hv => intsAt hi (by rw [Array.getElem?_toList]; exact hv)) (items.size - 0) 0 _ (by omega) (Nat.zero_le _)
    ⟨⟨_, Heap.get?_push_size _ rfl, rfl, rfl⟩, h1.push _⟩ ?_ ?_
  · simp only [List.mem_cons, List.mem_singleton, List.not_mem_nil, or_false, not_or]
    exact ⟨Nat.ne_of_lt lS, fun e => ne e.symm⟩
  · have g := Heap.get?_push_of_some (h := s.heap) { cls := .type "list_iterator", data := .fields #[.ref l, .int 0 0] } hS
    exact ⟨0, Nat.le_refl 0, setR_new_at g⟩
  · rintro ⟨h2, g2, d2, t2, o2⟩ c mv hc sO
    obtain rfl : g2 = s.gens := mv.gens
    obtain rfl : d2 = s.drawn := mv.drawn
    obtain rfl : o2 = s.os := mv.os
    refine wpAny_pure (wpAny_pure (h h2 t2 c sO (by omega) fun b o nb e => ?_))
    refine mv.heap b o ?_ (Heap.get?_push_of_some _ e)
    simp only [List.mem_cons, List.mem_singleton, List.not_mem_nil, or_false, not_or]
    exact ⟨nb, Nat.ne_of_lt (Heap.lt_size e)⟩
set_option maxHeartbeats 3200000 in
theorem setOfI {s : Shared} {E : Value → Shared → Prop} {l : Addr} {items : Array Value} {ns : List Int} {Q : Value → Shared → Prop} (hh : A.handled = none) (hl : s.heap.IsList l items) (hi : IntsAre items.toList ns) (hn : ns.length ≤ 1000)
    (h : ∀ (h' : Heap) (tk c : Nat), SetR w h' s.heap.objs.size (fun j => decide (j ∈ ns)) c → c ≤ ns.length → (∀ b o, s.heap.get? b = some o → h'.get? b = some o) → Q (.ref s.heap.objs.size) { s with heap := h', toks := tk }) :
    wpAny (model prog w) A (call (.type "set") [.ref l]) Q E s := by
  obtain ⟨c, tl, m1⟩ := PySem.F.called_set.mro
  have m2 := PySem.F.called_set.made
  have m3 := PySem.F.called_set.sub
  have m4 := PySem.F.called_set.notType
  have m5 := PySem.F.called_set.canCreate
  have m6 := PySem.F.typeCall_set_1 (.ref l)
  refine wpAny_call (codeAny_of_tree ?_)
  refine wpAny_pure ⟨Code.quiet_builtin _ (by decide +kernel), codeAny_builtin PySem.F.entry_type_call ?_⟩
  rw [Around.under_plain (weight_type_call_type "set" [.ref l] []) rfl]
  repeat (any_goals (first | assumption | wp_step))
  refine codeAny_mono (code_set_led1 (.ref l) (E := E) (Q₁ := fun v s1 => v = .ref s.heap.objs.size ∧ s1 = { s with heap := s.heap.push (newI w) }) ⟨rfl, rfl⟩) fun r s1 hr => ?_
  cases r with
  | error e => exact hr
  | ok f =>
    cases f with
    | ret v =>
      obtain ⟨rfl, rfl⟩ := hr
      have g : (s.heap.push (newI w)).get? s.heap.objs.size = some (newI w) := Heap.get?_push_size _ rfl
      have ty : Shared.TypeIs { s with heap := s.heap.push (newI w) } (.ref s.heap.objs.size) "set" := ⟨_, g, rfl⟩
      have i1 := PySem.F.called_set.init.lookup
      have i2 := PySem.F.called_set.init.bind (.ref s.heap.objs.size)
      have ll : l < s.heap.objs.size := by
        obtain ⟨o, ho, _⟩ := hl
        exact Heap.lt_size ho
      repeat (any_goals (first | assumption | wp_step))
      refine codeAny_mono (codeAny_call_builtin (R := wants (fun r s2 => r = .none ∧ Q (.ref s.heap.objs.size) s2) E) PySem.F.called_set.init.plain PySem.F.entry_set_init (check_set_init_1 ty ?_)) fun r2 s2 hr2 => ?_
      · refine initI (by simp [hh]) (hl.push _) hi hn g (Nat.ne_of_lt ll) fun h2 t2 c sO hc k => ⟨rfl, h h2 t2 c sO hc fun b o e => ?_⟩
        exact k b o (Nat.ne_of_lt (Heap.lt_size e)) (Heap.get?_push_of_some _ e)
      · cases r2 with
        | error e => exact hr2
        | ok f2 =>
          cases f2 with
          | ret u =>
            obtain ⟨rfl, q⟩ := hr2
            repeat (any_goals (first | assumption | wp_step))
          | _ => exact hr2.elim
    | _ => exact hr.elim
end
theorem intsOf {ns : List Int} {us : List Value} (h : Vals (ns.map V.int) us) : IntsAre us ns := by
  induction ns generalizing us with
  | nil =>
    cases h
    exact .nil
  | cons z r ih =>
    cases h with
    | cons a b =>
      obtain ⟨k, rfl⟩ := a
      exact .cons z k (ih b)
/-- set(l) -/
def rSetI (K : PySem.W.Frag) (w : World) : List V → Hp → VK → Prop := fun xs H Q => ∃ (l : Addr) (ns : List Int), xs = [.ref l] ∧ SqL K H l (ns.map V.int) ∧ ns.length ≤ 1000 ∧ ∀ (p : Addr) (c : Nat), c ≤ ns.length → H p = none → Q (.ref p) (upd H p (SetO w p (fun j => decide (j ∈ ns)) c))
theorem call_setI {X : Cx} (hc : X.calm = true) : CallR X (.type "set") (rSetI X.K X.w) := by
  intro pins s σ H xs us Q I r h
  obtain ⟨l, ns, rfl, hl, hn, q⟩ := h
  rw [Vals.ref1 r]
  obtain ⟨its, rv, pl, hz⟩ := I.list hl
  refine setOfI (I.ok.hd hc) pl.isList (by simpa using intsOf rv) hn fun h2 tk c sO hc k => ?_
  exact ⟨.ref _, upd H s.heap.objs.size (SetO X.w s.heap.objs.size (fun j => decide (j ∈ ns)) c), I.laid (t' := tk) k (Nat.le_refl _) (setO_new sO), rfl, q _ c hc (I.hok.fresh (Nat.le_refl _))⟩
end Cw
/-! own exceptions over any base: their __init__, raised, caught -/
namespace Cw
open PySem PySem.Spec PyProof.Rows L2
/-! ### own exceptions as values -/
/-- what the written part says of an own exception class, over the built-in one B -/
structure ExT (K : PySem.W.Frag) (C : Addr) (B newId initId : String) (bmB : List Value) : Prop where
  base : ExcBaseFacts B newId initId bmB
  store : StoreFacts B bmB "object.__setattr__" "object"
  isI : PySem.W.excInitIn K C bmB newId = true
  over : PySem.W.excOver K C bmB = true
  sa : PySem.W.findIn K (.ref C) "__setattr__" = some (some (.builtin "object.__setattr__"))
  ga : PySem.W.findIn K (.ref C) "__getattribute__" = some (some (.builtin "BaseException.__getattribute__"))
  gg : PySem.W.findIn K (.ref C) "__getattr__" = some none
  isB : PySem.W.subIn K (.ref C) (.type "BaseException") = some true
  hasD : PySem.W.hasDictIn K C = true
  kp : PySem.W.keepIn K (.ref C) = true
  cl : PySem.W.findIn K (.ref C) "__class__" = some (some (.builtin "object.__class__"))
  cg : PySem.W.specialIn K (.builtin "object.__class__") "__get__" = some (some (.builtin "getset_descriptor.__get__"))
  ct : PySem.W.takesIn K (.builtin "object.__class__") = some true
  cm : PySem.W.mroIn K C (.type "object") = some true
/-- the same as a Bool -/
def exB (K : PySem.W.Frag) (C : Addr) (bmB : List Value) (newId : String) : Bool :=
  PySem.W.excInitIn K C bmB newId && (PySem.W.excOver K C bmB && (decide (PySem.W.findIn K (.ref C) "__setattr__" = some (some (.builtin "object.__setattr__"))) &&
  (decide (PySem.W.findIn K (.ref C) "__getattribute__" = some (some (.builtin "BaseException.__getattribute__"))) && (decide (PySem.W.findIn K (.ref C) "__getattr__" = some none) &&
  (decide (PySem.W.subIn K (.ref C) (.type "BaseException") = some true) && (PySem.W.hasDictIn K C && (PySem.W.keepIn K (.ref C) &&
  (decide (PySem.W.findIn K (.ref C) "__class__" = some (some (.builtin "object.__class__"))) && (decide (PySem.W.specialIn K (.builtin "object.__class__") "__get__" = some (some (.builtin "getset_descriptor.__get__"))) &&
  (decide (PySem.W.takesIn K (.builtin "object.__class__") = some true) && decide (PySem.W.mroIn K C (.type "object") = some true)))))))))))
theorem exB_ok {K : PySem.W.Frag} {C : Addr} {B newId initId : String} {bmB : List Value} (F : ExcBaseFacts B newId initId bmB) (S : StoreFacts B bmB "object.__setattr__" "object") (h : exB K C bmB newId = true) : ExT K C B newId initId bmB := by
  unfold exB at h
  simp only [Bool.and_eq_true, decide_eq_true_eq] at h
  obtain ⟨h1, h2, h3, h4, h5, h6, h7, h8, h9, h10, h11, h12⟩ := h
  exact ⟨F, S, h1, h2, h3, h4, h5, h6, h7, h8, h9, h10, h11, h12⟩
section
variable {X : Cx} {pins : List (Addr × Obj)} {σ : L2.St} {H : Hp} {s : Shared} {a C dx : Addr} {f : Str} {y : V} {u : Value} {fs : List (Str × V)} {B newId initId : String} {bmB : List Value}
open Builtin Builtin.ObjectAttr in
/-- object.__setattr__ of an exception that has no dict yet -/
theorem xsa_new {prog : Program} {w : World} {A : Around} {R : Result → Shared → Prop} {hp : Heap} {g : Array GenState} {d : Drawn} {t : Nat} {os : OsState} {K : PySem.W.Frag} {name : Str} {tk : Tok} {v : Value} {x : Addr} {fv : Array Value}
    (T : ExT K C B newId initId bmB) (kin : K.In hp) (hx : hp.get? x = some { cls := .ref C, data := .fields fv }) (ht : PySem.W.takerIn K C name = some none)
    (hq : ∀ h' tk' dx, (∀ b o, b ≠ x → hp.get? b = some o → h'.get? b = some o) → hp.objs.size ≤ dx → dx ≠ x → h'.get? x = some { cls := .ref C, dict := some dx, data := .fields fv } →
      h'.Ns1 dx (fun y => if y = name then some v else none) → R (.ok (.ret .none)) ⟨h', g, d, tk', os⟩) :
    codeAny (model prog w) A (.call (.builtin "object.__setattr__") ⟨[.ref x, .str name tk, v], []⟩) R ⟨hp, g, d, t, os⟩ := by
  have I : PySem.W.InstAt hp x { cls := .ref C, data := .fields fv } C none := ⟨hx, rfl, rfl, trivial⟩
  refine PySem.W.osa_openX T.store kin I T.over ht fun b => ?_
  have hxs : x ≠ hp.objs.size := Nat.ne_of_lt (Heap.lt_size hx)
  obtain ⟨cd, hcd, hh⟩ := PySem.W.any_some T.hasD
  have hcls : PySem.W.Looks (model prog w) hp (classData C) cd := PySem.W.looks_clsIn kin hcd
  obtain ⟨nm, bs, mro, ns, qn, hd, sn, sb, ab, col, del⟩ := cd
  dsimp only at hh
  subst hh
  unfold storeInOwnDict ownDictForStores
  repeat (first | with_reducible refine PySem.HandSPX.store_in_new ?_ ?_ | with_reducible refine wpAny_loadPart_at hx ?_ | with_reducible refine hcls.at ?_ | wp_step)
  · refine ⟨_, #[], _, (Heap.get?_update_ne _ _ _ _ hxs.symm).trans (Heap.get?_push_at rfl rfl), rfl, ?_, fun _ => rfl⟩
    intro e he
    exact absurd he (by simp)
  · intro h' tk' named same
    have here : (hp.push { cls := .type "dict", data := .dict #[] }).get? x = _ := Heap.get?_push_of_some _ hx
    refine hq h' tk' hp.objs.size ?_ (Nat.le_refl _) hxs.symm ?_ named
    · intro b o hb ho
      refine (same.2 b (Nat.ne_of_lt (Heap.lt_size ho))).trans ?_
      rw [Heap.get?_update_ne _ _ _ _ hb]
      exact Heap.get?_push_of_some _ ho
    · exact (same.2 x hxs).trans (Heap.get?_update_self _ here rfl)
open Builtin Builtin.ObjectAttr in
/-- .. of one that has its dict -/
theorem xsa_old {prog : Program} {w : World} {A : Around} {R : Result → Shared → Prop} {hp : Heap} {g : Array GenState} {d : Drawn} {t : Nat} {os : OsState} {K : PySem.W.Frag} {name : Str} {tk : Tok} {v : Value} {x : Addr} {fv : Array Value} {m0 : Str → Option Value} {nl : List Str}
    (T : ExT K C B newId initId bmB) (kin : K.In hp) (hx : hp.get? x = some { cls := .ref C, dict := some dx, data := .fields fv }) (named : hp.Ns1 dx m0) (wi : Within m0 nl) (hz : nl.length ≤ 1000) (ht : PySem.W.takerIn K C name = some none)
    (hq : ∀ h' tk', (∀ b o, b ≠ dx → hp.get? b = some o → h'.get? b = some o) → h'.Ns1 dx (fun y => if y = name then some v else m0 y) → R (.ok (.ret .none)) ⟨h', g, d, tk', os⟩) :
    codeAny (model prog w) A (.call (.builtin "object.__setattr__") ⟨[.ref x, .str name tk, v], []⟩) R ⟨hp, g, d, t, os⟩ := by
  obtain ⟨oD, _, _, hoD, _, _⟩ := named.count wi
  have I : PySem.W.InstAt hp x { cls := .ref C, dict := some dx, data := .fields fv } C (some oD) := ⟨hx, rfl, rfl, hoD⟩
  refine PySem.W.osa_openX T.store kin I T.over ht fun b => ?_
  obtain ⟨cd, hcd, hh⟩ := PySem.W.any_some T.hasD
  have hcls : PySem.W.Looks (model prog w) hp (classData C) cd := PySem.W.looks_clsIn kin hcd
  obtain ⟨nm, bs, mro, ns, qn, hd, sn, sb, ab, col, del⟩ := cd
  dsimp only at hh
  subst hh
  unfold storeInOwnDict ownDictForStores
  repeat (first | with_reducible refine PySem.OEX.store_in_old named wi hz ?_ | with_reducible refine wpAny_loadPart_at hx ?_ | with_reducible refine hcls.at ?_ | wp_step)
  intro h' tk' n' same
  exact hq h' tk' (fun b o hb ho => (same.2 b hb).trans ho) n'
/-- self.f = y, the first field -/
theorem xset_new {A : Around} {Q : Unit → Shared → Prop} {E : Value → Shared → Prop} (T : ExT X.K C B newId initId bmB) (I : Inv X pins σ H s) (e : H a = some (exo a C none)) (ht : PySem.W.takerIn X.K C f = some none) (ry : RelV y u)
    (h : ∀ dx s', H dx = none → dx ≠ a → Inv X pins σ (upd (upd H dx (exd dx [(f, y)])) a (exo a C (some dx))) s' → Q () s') : wpAny (model X.prog X.w) A (setAttr (.ref a) f u) Q E s := by
  obtain ⟨t1, ho⟩ := exo_at I.hok e
  obtain ⟨hp, g, d, t, os⟩ := s
  refine PySem.W.set_plain I.kIn (ox := { cls := .ref C, dict := none, data := .fields #[.ref t1, .none, .none, .none, .bool false, .none] }) (od := none) ⟨ho, rfl, rfl, trivial⟩ T.sa ?_
  refine xsa_new T I.kIn ho ht fun h' tk' dx k dn dne hx hn => ?_
  have nod : H dx = none := I.hok.fresh dn
  have nd : ∀ {b : Addr} {o : Obj}, hp.get? b = some o → b ≠ dx := fun q => Nat.ne_of_lt (Nat.lt_of_lt_of_le (Heap.lt_size q) dn)
  have na : ∀ {b : Addr}, H b = none → b ≠ a := fun n z => by
    rw [z, e] at n
    cases n
  have U : Un X.fs [] H (upd (upd H dx (exd dx [(f, y)])) a (exo a C (some dx))) hp h' := by
    constructor
    · exact fun b o q n _ _ => k b o (na n) q
    · exact fun b o q n _ _ => ⟨o.slots, k b o (na n) q⟩
    · intro b o q n _
      rw [upd_ne (na n), upd_ne (nd q)]
      exact n
    · intro b o q _
      by_cases hb : b = a
      · exact ⟨_, by rw [hb]; exact hx⟩
      · exact ⟨o, k b o hb q⟩
    · intro b xs q
      rw [upd_ne (at_ne e q exo_tup), upd_ne (ne_of_none q nod)]
      exact q
    · intro b o v q
      rw [upd_ne (at_ne e q exo_frz), upd_ne (ne_of_none q nod)]
      exact q
    · intro b ps q
      refine ⟨#[], ?_⟩
      rw [upd_ne (at_ne e q exo_tbl), upd_ne (ne_of_none q nod), q]
      simp
  refine h dx _ nod dne (I.un (t' := tk') U fun b o q => ?_)
  by_cases hb : b = a
  · subst hb
    rw [upd_same] at q
    cases q
    exact exo_ok hx
  · rw [upd_ne hb] at q
    by_cases hd : b = dx
    · subst hd
      rw [upd_same] at q
      cases q
      exact exd_ok hn (relO_put (fs := []) ry fun g => True.intro)
    · rw [upd_ne hd] at q
      refine (I.hok b o q).stay (fun c v hc z => k c v ?_ z) (fun c hc => ?_) (fun c xs hc => ?_)
      · rcases hc with hc | hc
        · rw [hc]
          exact hb
        · exact at_ne e hc exo_own
      · rw [upd_ne (at_ne e hc exo_own), upd_ne (ne_of_none hc nod)]
        exact hc
      · rw [upd_ne (at_ne e hc exo_tup), upd_ne (ne_of_none hc nod)]
        exact hc
/-- self.f = y, a further field -/
theorem xset_old {A : Around} {Q : Unit → Shared → Prop} {E : Value → Shared → Prop} (T : ExT X.K C B newId initId bmB) (I : Inv X pins σ H s) (e : H a = some (exo a C (some dx))) (ed : H dx = some (exd dx fs)) (hl : fs.length ≤ 900) (ht : PySem.W.takerIn X.K C f = some none) (ry : RelV y u)
    (h : ∀ s', Inv X pins σ (upd H dx (exd dx ((f, y) :: fs))) s' → Q () s') : wpAny (model X.prog X.w) A (setAttr (.ref a) f u) Q E s := by
  obtain ⟨t1, ho⟩ := exo_at I.hok e
  obtain ⟨mA, hns, rel⟩ := exd_at I.hok ed
  have wi := within_of rel
  obtain ⟨hp, g, d, t, os⟩ := s
  obtain ⟨oD, _, _, hoD, _, _⟩ := hns.count wi
  refine PySem.W.set_plain I.kIn (ox := { cls := .ref C, dict := some dx, data := .fields #[.ref t1, .none, .none, .none, .bool false, .none] }) (od := some oD) ⟨ho, rfl, rfl, hoD⟩ T.sa ?_
  refine xsa_old T I.kIn ho hns wi (by rw [List.length_map]; omega) ht fun h' tk' k hn => ?_
  have there : ∃ o, h'.get? dx = some o := by
    obtain ⟨o, _, _, e', _⟩ := hn
    exact ⟨o, e'⟩
  have ok : ObjOk X.prog X.w (upd H dx (exd dx ((f, y) :: fs))) h' dx (exd dx ((f, y) :: fs)) := exd_ok hn (relO_put ry rel)
  exact h _ (I.write (t' := tk') (x := dx) (e := dx) (by rw [ed]; exact True.intro) (.inl rfl) k there ok)
end
/-! ### rules -/
/-- self.f = e of an exception that is being made -/
def tXst (K : PySem.W.Frag) (f : Str) (to te : TE) : TS := fun D σ H => te σ H fun y H1 => to σ H1 fun x H2 => ∃ (a C : Addr) (B newId initId : String) (bmB : List Value), x = .ref a ∧ ExT K C B newId initId bmB ∧ PySem.W.takerIn K C f = some none ∧
  ((H2 a = some (exo a C none) ∧ ∀ dx, H2 dx = none → dx ≠ a → D.nx σ (upd (upd H2 dx (exd dx [(f, y)])) a (exo a C (some dx)))) ∨
    ∃ (dx : Addr) (fs : List (Str × V)), H2 a = some (exo a C (some dx)) ∧ H2 dx = some (exd dx fs) ∧ fs.length ≤ 900 ∧ D.nx σ (upd H2 dx (exd dx ((f, y) :: fs))))
section
variable {X : Cx} {o e : Expr} {es : List Expr} {to te : TE} {ta : TA} {f : Str} {p p' pos : Pos}
theorem ps_xst (ho : PE X o to) (he : PE X e te) (hs : swapsWith e (some (.Attribute o f p')) pos.line X.env = pure false := by rfl) : PS X (.Assign [.Attribute o f p'] e pos) (tXst X.K f to te) := by
  constructor
  intro pins s σ H D I h
  refine plainObj_wpAny_Assign_Attribute (thn (he.run pins s σ H _ I h) fun v s1 z => ?_) hs
  obtain ⟨y, H1, I1, r1, q1⟩ := z
  refine thn (ho.run pins s1 σ H1 _ I1 q1) fun u s2 z => ?_
  obtain ⟨x, H2, I2, r2, a, C, B, nI, iI, bm, ex, T, ht, q⟩ := z
  subst ex
  have eu : u = Value.ref a := r2
  subst eu
  rcases q with ⟨ea, q⟩ | ⟨dx, fs, ea, ed, hl, q⟩
  · exact xset_new T I2 ea ht r1 fun dx s' n ne J => ⟨σ, _, J, q dx n ne⟩
  · exact xset_old T I2 ea ed hl ht r1 fun s' J => ⟨σ, _, J, q⟩
end
/-- __init__ with one field -/
def spI1 (C : Addr) (f : Str) : Sp := fun vs H Q _ => ∃ (a : Addr) (v : V), vs = [.ref a, v] ∧ H a = some (exo a C none) ∧ ∀ dx, H dx = none → dx ≠ a → Q .non (upd (upd H dx (exd dx [(f, v)])) a (exo a C (some dx)))
/-- __init__ with two fields -/
def spI2 (C : Addr) (f g : Str) : Sp := fun vs H Q _ => ∃ (a : Addr) (v u : V), vs = [.ref a, v, u] ∧ H a = some (exo a C none) ∧
  ∀ dx, H dx = none → dx ≠ a → Q .non (upd (upd (upd H dx (exd dx [(f, v)])) a (exo a C (some dx))) dx (exd dx [(g, u), (f, v)]))
section
variable {P : Program} {w : World} {K : PySem.W.Frag} {mg : Str → Option Value} {base : Heap} {B newId initId : String} {bmB : List Value} {C fI : Addr} {fd : FuncData}
theorem ok_init1 {f q : Str} {ar : Arguments} {sc : Scope} {q1 q2 q3 q4 : Pos} (F : FunD K "__init__" q ar [.Assign [.Attribute (.Name "self" q1) f q2] (.Name f q3) q4] sc [] [] fI fd) (S : FnScope ["self", f] ["self", f] sc)
    (T : ExT K C B newId initId bmB) (ht : PySem.W.takerIn K C f = some none) (f1 : (f == ("__debug__" : Str)) = false) (f2 : (f == ("__classdict__" : Str)) = false) : FnOk P w K mg base CX0 1 fI fd ["self", f] (spI1 C f) := by
  refine F.ok S (fun vs H Q E h => ?_) (fun cdv A outer s H vs Q E hr h => ⟨_, PSs.nox (pss_one (ps_xst (pe_var (i := 0) rfl ?_) (pe_var (i := 1) rfl ?_ f1 f2))), ?_⟩)
  · obtain ⟨a, v, rfl, _⟩ := h
    rfl
  · rcases S.par "self" (by simp) with z | z
    · exact .inl z
    · exact .inr (.inl z)
  · rcases S.par f (by simp) with z | z
    · exact .inl z
    · exact .inr (.inl z)
  · obtain ⟨a, v, rfl, ha, q⟩ := h
    exact ⟨_, rfl, _, rfl, a, C, B, newId, initId, bmB, rfl, T, ht, .inl ⟨ha, q⟩⟩
theorem ok_init2 {f g q : Str} {ar : Arguments} {sc : Scope} {q1 q2 q3 q4 q5 q6 q7 q8 : Pos}
    (F : FunD K "__init__" q ar [.Assign [.Attribute (.Name "self" q1) f q2] (.Name f q3) q4, .Assign [.Attribute (.Name "self" q5) g q6] (.Name g q7) q8] sc [] [] fI fd) (S : FnScope ["self", f, g] ["self", f, g] sc)
    (T : ExT K C B newId initId bmB) (ht : PySem.W.takerIn K C f = some none) (hu : PySem.W.takerIn K C g = some none)
    (f1 : (f == ("__debug__" : Str)) = false) (f2 : (f == ("__classdict__" : Str)) = false) (g1 : (g == ("__debug__" : Str)) = false) (g2 : (g == ("__classdict__" : Str)) = false) : FnOk P w K mg base CX0 1 fI fd ["self", f, g] (spI2 C f g) := by
  have vis : ∀ x ∈ (["self", f, g] : List Str), Vis sc x := fun x hx => by
    rcases S.par x hx with z | z
    · exact .inl z
    · exact .inr (.inl z)
  refine F.ok S (fun vs H Q E h => ?_) (fun cdv A outer s H vs Q E hr h => ⟨_, PSs.nox (pss_cons (ps_xst (pe_var (i := 0) rfl (vis _ (by simp))) (pe_var (i := 1) rfl (vis _ (by simp)) f1 f2))
    (pss_one (ps_xst (pe_var (i := 0) rfl (vis _ (by simp))) (pe_var (i := 2) rfl (vis _ (by simp)) g1 g2)))), ?_⟩)
  · obtain ⟨a, v, u, rfl, _⟩ := h
    rfl
  · obtain ⟨a, v, u, rfl, ha, q⟩ := h
    refine ⟨_, rfl, _, rfl, a, C, B, newId, initId, bmB, rfl, T, ht, .inl ⟨ha, fun dx nd nda => ?_⟩⟩
    have e2 : (upd (upd H dx (exd dx [(f, v)])) a (exo a C (some dx))) dx = some (exd dx [(f, v)]) := by rw [upd_ne nda, upd_same]
    exact ⟨_, rfl, _, rfl, a, C, B, newId, initId, bmB, rfl, T, hu, .inr ⟨dx, [(f, v)], upd_same, e2, by show 1 ≤ 900; decide, q dx nd nda⟩⟩
end

section
variable {X : Cx} {e : Expr} {es : List Expr} {ta : TA} {p pos : Pos}
/-- C(e, ..), raised: an own class over any base, by its own __init__ -/
theorem pmk_x {CX : CXT} {x : Str} {C fI : Addr} {k : Nat} {fd : FuncData} {ps : List Str} {sp : Sp} {B newId initId : String} {bmB : List Value} (T : ExT X.K C B newId initId bmB) (tyC : PySem.W.typeIn X.K (.ref C) = some (.type "type"))
    (iC : PySem.W.findIn X.K (.ref C) "__init__" = some (some (.ref fI))) (tI : PySem.W.typeIn X.K (.ref fI) = some (.type "function")) (F1 : FnOk X.prog X.w X.K X.mg X.base CX k fI fd ps sp) (hr : Room (k + 1) X.A) (hb : Binds X.K fd ps [])
    (hx : Passes CX X (fun _ _ _ => False)) (hg : Gl X x) (hm : X.mg x = some (.ref C)) (ha : PA X (e :: es) ta)
    (hdb : (x == ("__debug__" : Str)) = false := by decide) (he : starEach (e :: es) X.env = (false, eval e X.env) :: starEach es X.env := by rfl) (hpl : (backTo pos (starEach es X.env)).any (·.1) = false := by rfl) :
    PMk X (.Call (.Name x p) (e :: es) [] pos) (tMkO C sp [] ta) := by
  intro pins s σ H Q I h
  refine wpAny_Call_Name_kw (ld_glob I hg hm ?_ hdb)
  refine PySem.W.callWith_K (h₀ := X.base) I.ok.mod.kin T.kp (thn (ha.run pos pins s σ H _ I h) fun us s1 z => ?_) he hpl
  obtain ⟨vs, H1, I1, r1, hz, q1⟩ := z
  refine ⟨I1.kIn, ?_⟩
  obtain ⟨nm, N', qn, bs, bm, hdct, sn, sub, ab, col, dd, k0, k1, k2, k3, k5, hC, hT⟩ := PySem.W.excInit_of I1.kIn T.isI
  obtain ⟨hp, g, dr, tk, os⟩ := s1
  have hsz : hp.objs.size ≤ hp.objs.size + 1 := Nat.le_succ _
  have hq := q1 (hp.objs.size + 1) (I1.hok.fresh hsz)
  rw [List.append_nil] at hq
  have kk : ∀ b o, hp.get? b = some o → ((hp.push (PySem.W.kdv_tup us)).push (PySem.HandSPX.excO C hp.objs.size)).get? b = some o := fun b o e => Heap.get?_push_of_some _ (Heap.get?_push_of_some _ e)
  have hget : ((hp.push (PySem.W.kdv_tup us)).push (PySem.HandSPX.excO C hp.objs.size)).get? (hp.objs.size + 1) = some (PySem.HandSPX.excO C hp.objs.size) := by heap_get
  have I2 : Inv X pins σ (upd H1 (hp.objs.size + 1) (exo (hp.objs.size + 1) C none)) ⟨(hp.push (PySem.W.kdv_tup us)).push (PySem.HandSPX.excO C hp.objs.size), g, dr, tk, os⟩ := I1.laid (t' := tk) kk hsz (exo_ok hget)
  have r2 : Vals (V.ref (hp.objs.size + 1) :: vs) (Value.ref (hp.objs.size + 1) :: us) := .cons rfl r1
  have many : (Value.ref (hp.objs.size + 1) :: us ++ []).length = ps.length := by
    rw [List.append_nil, ← r2.length]
    exact F1.len _ _ _ _ hq
  have hus : us.length ≤ sizeLine := by
    rw [← Paired.length r1, sizeLine_eq]
    omega
  have bnd := hb _ (Value.ref (hp.objs.size + 1) :: us) I2.kIn many
  rw [List.append_nil] at bnd
  have go := F1.run _ X.stack _ _ ⟨Value.ref (hp.objs.size + 1) :: us, []⟩ (Value.ref (hp.objs.size + 1) :: us) _ _ (fun _ _ _ => False) (hr.make C us []) (I2.env0.make C us []) bnd r2 hq
  refine wpAny_call (PySem.HandSPX.call_own T.base hT hC (PySem.W.looks_findIn I1.kIn iC) (fun self => PySem.W.bind_fn I1.kIn self tI) hus (codeAny_mono go fun res s' hq' => ?_))
  match res, hq' with
  | .error er, hq' => exact hx pins σ _ _ er s' I2 hq'
  | .ok .next, hq' => exact hq'.elim
  | .ok .brk, hq' => exact hq'.elim
  | .ok .cont, hq' => exact hq'.elim
  | .ok (.ret u), hq' =>
    obtain ⟨v, H2, os2, bare2, un2, hok2, rv, ev, d, fs, ea, ed, hd1, q2⟩ := hq'
    subst ev
    obtain ⟨h2, g2, d2, t2, os'⟩ := s'
    exact ⟨rv, mk_end (raises_own T.isB tyC) I1 hsz kk un2 hok2 os2 bare2 ea ed hd1 q2⟩
theorem PS.nox {st : Stmt} {t : TS} (h : PS X.nox st t) : PS X st t := ⟨fun pins s σ H D I hw =>
  wpAny_mono (h.run pins s σ H D (I.wish _) hw) (fun _ _ q => q.unwish) fun _ _ z => False.elim z⟩
end
/-- an own class with one field, raised -/
structure Rz (P : Program) (w : World) (K : PySem.W.Frag) (mg : Str → Option Value) (base : Heap) (x f : Str) (C : Addr) : Prop where
  g : mg x = some (.ref C)
  how : ∃ (fI : Addr) (fd : FuncData) (B newId initId : String) (bmB : List Value), ExT K C B newId initId bmB ∧ PySem.W.findIn K (.ref C) "__init__" = some (some (.ref fI)) ∧ PySem.W.typeIn K (.ref fI) = some (.type "function") ∧
    FnOk P w K mg base CX0 1 fI fd ["self", f] (spI1 C f) ∧ Binds K fd ["self", f] []
  ty : PySem.W.typeIn K (.ref C) = some (.type "type")
  ex : PySem.W.exmOne K (.ref C) (.ref C) = some true
/-- the heap behind x(v), raised: the exception's dict is new -/
def NewX (f : Str) (v : V) (H : Hp) (d : Addr) (H' : Hp) : Prop := H d = none ∧ H' d = some (.xd [(f, v)]) ∧ Same H H'
def tRz (C : Addr) (f : Str) (W : WX) (te : TE) : TS := fun _ σ H => te σ H fun v H1 => ∀ d H2, NewX f v H1 d H2 → W (.ref C) (some d) σ H2
theorem pe_imp {X : Cx} {e : Expr} {t : TE} (h : PE X e t) : PE X e (fun σ H Q => ∃ Q0 : VK, t σ H Q0 ∧ ∀ v H1, Q0 v H1 → Q v H1) := ⟨fun pins s σ H Q I hw => by
  obtain ⟨Q0, h0, hq⟩ := hw
  exact wpAny_mono (h.run pins s σ H Q0 I h0) (fun _ _ ⟨v, H', I', r, q⟩ => ⟨v, H', I', r, hq _ _ q⟩) fun _ _ z => z⟩
theorem ps_raise1 {X : Cx} {W : WX} {x f : Str} {C : Addr} {e : Expr} {te : TE} {p pos pos2 : Pos} (hc : X.calm = true) (tk : Takes X W) (R : Rz X.prog X.w X.K X.mg X.base x f C) (hr : Room 2 X.A) (hg : Gl X x) (he : PE X e te)
    (hdb : (x == ("__debug__" : Str)) = false := by decide) (hs : starEach [e] X.env = (false, eval e X.env) :: starEach [] X.env := by rfl) : PS X (.Raise (some (.Call (.Name x p) [e] [] pos)) none pos2) (tRz C f W te) := by
  obtain ⟨fI, fd, B, nI, iI, bm, T, iC, tI, G, b⟩ := R.how
  have h := ps_raise (pos := pos2) hc tk (pmk_x (pos := pos) (p := p) (es := []) T R.ty iC tI G hr b pass0 hg R.g (pa_cons (pe_imp he) pa_nil hs) hdb hs (by rfl))
  refine ⟨fun pins s σ H D I hw => h.run pins s σ H D I ?_⟩
  refine ⟨_, hw, fun v H1 q => ⟨by show 1 ≤ 1000; decide, fun a na => ⟨a, v, rfl, upd_same, fun dx ndx hne => ⟨rfl, dx, [(f, v)], upd_same, ?_, ?_, q dx _ ⟨?_, upd_same, fun b o e => ?_⟩⟩⟩⟩⟩
  · rw [upd_ne hne, upd_same]
  · rw [upd_ne hne] at ndx
    exact ndx
  · rw [upd_ne hne] at ndx
    exact ndx
  · rw [upd_ne hne] at ndx
    have nb : b ≠ dx := ne_of_none e ndx
    have na2 : b ≠ a := ne_of_none e na
    rw [upd_ne nb, del_ne na2, upd_ne na2, upd_ne nb, upd_ne na2]
    exact e
/-- what the head shows of an own class with one field -/
def rzB (K : PySem.W.Frag) (C : Addr) (B : String) (f : Str) : Bool := exB K C [.type B, .type "Exception", .type "BaseException", .type "object"] (B ++ ".__new__") && (decide (PySem.W.typeIn K (.ref C) = some (.type "type")) &&
  (decide (PySem.W.exmOne K (.ref C) (.ref C) = some true) && decide (PySem.W.takerIn K C f = some none)))
end Cw
/-! x = {k: v for ..}, x a local -/
namespace Cw
open PySem PySem.Spec PyProof.Rows L2
section
variable {X : Cx}
theorem ps_setDc {i : Nat} {y : Str} {py : Pos} {kx vx tg iter : Expr} {ifs : List Expr} {scope : Scope} {own : List (Str × Nat)} {pos spos : Pos} {wi : TI} {g : TG} {tt : TT} {tk tv : TE} (hc : X.calm = true) (hN : X.N.Nodup) (hy : X.N[i]? = some y) (hyl : X.env.scope.names.lookup y = some .local)
    (hsw : swapsWith (.DictComp kx vx [⟨tg, iter, ifs, 0⟩] scope pos) (some (.Name y py)) spos.line X.env = pure true) (hi : PI X tg iter wi) (ok : BlkOk X.N X.env.scope scope own)
    (hg : ∀ (s : Shared) (H : Hp) (C : Addr) (cl : List (Str × Addr)) (fp : List Addr), PG (X.blk s H scope (compEnvC scope cl C X.env) fp) tg g) (ht : ∀ (s : Shared) (H : Hp) (C : Addr) (cl : List (Str × Addr)) (fp : List Addr), PTs (X.blk s H scope (compEnvC scope cl C X.env) fp) ifs tt)
    (hk : ∀ (s : Shared) (H : Hp) (C : Addr) (cl : List (Str × Addr)) (fp : List Addr), PE (X.blk s H scope (compEnvC scope cl C X.env) fp) kx tk)
    (he : ∀ (s : Shared) (H : Hp) (C : Addr) (cl : List (Str × Addr)) (fp : List Addr), PE (X.blk s H scope (compEnvC scope cl C X.env) fp) vx tv) (hs : ∀ x, foldedSetIterable iter X.env x = pure x := by intro _; rfl) :
    PS X (.Assign [.Name y py] (.DictComp kx vx [⟨tg, iter, ifs, 0⟩] scope pos) spos) (tAsg (tDc wi g tt tk tv (own.map (·.2))) (gName i)) := by
  refine ⟨fun pins s σ H D I h => ?_⟩
  rw [exec_Assign_Name_used _ _ _ _ hsw]
  refine wpAny_bind (wpAny_standAt (wpAny_bind ?_))
  show wpAny _ X.A (do let _ ← comprehension (.DictComp kx vx [⟨tg, iter, ifs, 0⟩] scope pos) scope X.env (firstIterPos [⟨tg, iter, ifs, 0⟩] pos) newDict false (eval iter X.env) (some (assign (.Name y py) X.env))) _ _ s
  have h : tDc wi g tt tk tv (own.map (·.2)) σ H (fun x H1 => gName i x σ H1 D.nx) := h
  refine wpAny_bind (thn (dc_core (Qf := fun _ s' => SP X pins D .next s') hc hN I hi ok hg ht hk he hs h fun L C s' m H' I' q hn f => ?_) fun _ s' hq => wpAny_pure (wpAny_pure hq))
  show wpAny _ _ (assign (.Name y py) X.env (.ref L)) _ _ _
  refine wpAny_assign_Name (store_ok2 (v := V.ref L) I' hN hy (.inl hyl) rfl (fun s2 I2 z => ?_) (.inr hyl))
  obtain ⟨a, sb, ha⟩ := z
  obtain ⟨f0, f1, f2, f3, f4, f5⟩ := f
  have haC : C ≠ a := by
    rcases ha with z | z
    · rw [z]; exact f1
    · exact fun e => f4 y a z e.symm
  refine ⟨m, hn.sameBut sb haC, fun h3 sb3 => ?_⟩
  exact ⟨_, H', I2.turned (t' := s2.toks) (fun b o hb e => (sb3.2 b hb).trans e) f0 f1 f3 f4 f5, q⟩
/-- a test, with what is known behind it said -/
theorem pt_cut {e : Expr} {t : TT} (h : PT X e t) : PT X e (fun σ H Q => ∃ Q0 : Bool → Hp → Prop, t σ H Q0 ∧ ∀ b H1, Q0 b H1 → Q b H1) := ⟨fun pins s σ H Q I hw => by
  obtain ⟨Q0, h0, hq⟩ := hw
  exact wpAny_mono (h.run pins s σ H Q0 I h0) (fun _ _ ⟨H', I', q⟩ => ⟨H', I', hq _ _ q⟩) fun _ _ z => z⟩
theorem sw_trueD {kx vx : Expr} {gs : List Comprehension} {scope : Scope} {pos py : Pos} {y : Str} {l : Nat} {env : Env} (hk : env.scope.kind = .function) (hy : env.scope.names.lookup y = some .local) (hl : (py.line == pos.line) = true)
    (ha : (scope.names.any fun (n, k) => n == y && (k == .local || k == .cell)) = false) : swapsWith (.DictComp kx vx gs scope pos) (some (.Name y py)) l env = pure true := by
  have ky : env.kindOf y = some .local := hy
  have hb : env.blockKind = .function := by unfold Env.blockKind; rw [hk]; rfl
  unfold swapsWith
  simp only [hb, ky, ha, Expr.pos, hl]
  rfl
end
end Cw
/-! isinstance of a caught exception of an own class that has its dict -/
namespace Cw
open PySem PySem.Spec PySem.Calls PyProof.Rows
section
variable {P : Program} {w : World} {A : Around} {E : Value → Shared → Prop} {s : Shared} {K : PySem.W.Frag} {e D : Addr} {oe : Obj} {od : Option Obj}
theorem cls_found {name : Str} {a g : Value} (hc : (PySem.W.clsIn K D).isSome = true) (ha : PySem.W.findIn K (.ref D) name = some (some a)) (hg : PySem.W.specialIn K a "__get__" = some (some g)) (ht : PySem.W.takesIn K a = some true) : PySem.W.findObj K D od name = some (.bind g a) := by
  obtain ⟨cd, z⟩ := Option.isSome_iff_exists.mp hc
  unfold PySem.W.findObj
  rw [z, Option.bind_some, ha, Option.bind_some]
  simp [hg, ht]
theorem own_class {Q : Option Value → Shared → Prop} (T : L2.ExcC K D) (kin : K.In s.heap) (J : PySem.W.InstAt s.heap e oe D od) (q : Q (some (.ref D)) { s with toks := s.toks + 1 }) : wpAny (model P w) A (getAttr? (.ref e) "__class__") Q E s := by
  have some_ : (PySem.W.clsIn K D).isSome = true := by
    obtain ⟨cd, z, _⟩ := PySem.W.any_some T.hd
    rw [z]
    rfl
  have found : PySem.W.findObj K D od "__class__" = some (.bind (.builtin "getset_descriptor.__get__") (.builtin "object.__class__")) := cls_found some_ T.ha T.hn T.ht
  obtain ⟨heap, gens, drawn, tks, os⟩ := s
  have a1 := J.type (M := model P w)
  have a2 := PySem.W.looks_findIn (M := model P w) kin T.hg
  have a3 := PySem.W.looks_findIn (M := model P w) kin T.hk
  have a4 := PySem.W.looks_find (M := model P w) kin J found
  have isExc : PySem.W.Looks (model P w) heap (isInstance (.ref e) (.type "BaseException")) true := a1.andThen (PySem.W.looks_subIn kin T.hs)
  have ne1 : (Value.builtin "BaseException.__getattribute__" == Value.builtin "object.__getattribute__") = false := by decide +kernel
  have ne2 : ¬ (onTheHeap (Value.ref D) && Value.builtin "BaseException.__getattribute__" == Value.builtin "object.__getattribute__") = true := by
    rw [ne1, Bool.and_false]
    exact Bool.false_ne_true
  have ne3 : ¬ (false && onTheHeap (Value.builtin "BaseException.__getattribute__")) = true := fun z => nomatch z
  unfold getAttr? getAttrBy? getAttrBy
  refine wpAny_bind (wpAny_mkText (wpAny_bind (wpAny_attempt (wpAny_holding (wpAny_bind (a1.at (wpAny_bind (a2.at ?_))))))))
  show wpAny _ _ (if (onTheHeap (.ref D) && Value.builtin "BaseException.__getattribute__" == Value.builtin "object.__getattribute__") = true then _ else _) _ _ _
  rw [if_neg ne2]
  unfold getAttrByItsOwn hookBefore
  refine wpAny_bind ?_
  have hp : onTheHeap (Value.ref D) = true := rfl
  rw [if_pos hp]
  refine a3.at (wpAny_bind (wpAny_attempt (wpAny_holding ?_)))
  unfold callGetattribute
  rw [if_neg ne3]
  unfold boundAndCalled
  rw [PySem.F.excAttr_ValueError.ga.bind (.ref e)]
  refine wpAny_bind (wpAny_pure ?_)
  show wpAny _ _ (call (.builtin "BaseException.__getattribute__") [.ref e, .str "__class__" tks]) _ _ _
  refine wpAny_call (codeAny_call_builtin PySem.F.excAttr_ValueError.ga.plain PySem.F.entry_bexc_ga ?_)
  refine @PySem.W.check_slot (model P w) _ _ ⟨heap, gens, drawn, tks + 1, os⟩ "BaseException.__getattribute__" "BaseException" "__getattribute__" (.ref e) [.str "__class__" tks] [] _ (by decide +kernel) (by decide +kernel) isExc (PySem.F.args_bexc_ga (.ref e) (.str "__class__" tks)) ?_
  unfold Builtin.«object.__getattribute__»
  refine wpAny_bind (PySem.wpAny_of_eq (a := ((Value.ref e : Value), [Value.str "__class__" tks])) (by first | rfl | (simp only [slotArgs]; rfl)) ?_)
  refine wpAny_bind (wpAny_pure (wpAny_bind (a1.at (wpAny_bind (a4.at ?_)))))
  show wpAny _ _ (holding [Value.builtin "object.__class__"] (call (.builtin "getset_descriptor.__get__") [.builtin "object.__class__", .ref e, .ref D]) >>= ret) _ _ _
  refine wpAny_bind (wpAny_holding (wpAny_call (PySem.W.class_get (s := ⟨heap, gens, drawn, tks + 1, os⟩) (ox := oe) (od := od) kin J T.hm ?_)))
  refine wpAny_pure ?_
  show wpAny _ _ (handedOut (.ref D)) _ _ _
  rw [PySem.W.handedOut_of (v := .ref D) rfl]
  first
    | exact wpAny_pure (wpAny_pure q)
    | exact wpAny_pure q
    | exact wpAny_pure (wpAny_bind (wpAny_pure (wpAny_pure q)))
/-- what isinstance asks of the exception at e -/
theorem kit_own (T : L2.ExcC K D) : PySem.W.KitX K (.ref e) (.ref D) (fun h => PySem.W.InstAt h e oe D od) := by
  obtain ⟨cd, there, _⟩ := PySem.W.any_some T.hd
  unfold PySem.W.clsIn at there
  refine ⟨fun _ _ _ J => J.type, fun _ h kin _ => ?_, fun h tp dd its n sl kin htp => ?_, fun kin J q => own_class T kin J q⟩
  · split at there
    · rename_i cls dct cdt sls hl
      intro A' Q' E' s' k q
      unfold isType loadHead
      exact wpAny_bind (PySem.wpAny_loadPart (k _ _ (kin _ _ hl)) (wpAny_pure q))
    · cases there
  · split at there
    · rename_i cls dct cdt sls hl
      refine Bool.eq_false_iff.mpr fun z => ?_
      have z := Value.ref.inj (beq_iff_eq.mp z)
      subst z
      have y := (kin _ _ hl).symm.trans htp
      cases y
    · cases there
end
end Cw
namespace Cw
open PySem PySem.Spec PyProof.Rows L2
/-- isinstance(e, c), e the exception that the suite holds, of the class D, its dict at d -/
def rIsD (K : PySem.W.Frag) (a : Addr) (cls : Value) (d : Option Addr) : List V → Hp → VK → Prop := fun xs H Q => ∃ (D dd : Addr) (fs : List (Str × V)) (c : V) (cv : Value) (b : Bool), cls = .ref D ∧ d = some dd ∧ H dd = some (.xd fs) ∧ ExcC K D ∧ xs = [.ref a, c] ∧ ClsV c cv ∧ PySem.W.kitOne K (.ref D) cv = some b ∧ Q (.bl b) H
def rIsDT (K : PySem.W.Frag) (a : Addr) (cls : Value) (d : Option Addr) : List V → Hp → VK → Prop := fun xs H Q => ∃ (D dd : Addr) (fs : List (Str × V)) (tp : Addr) (cs : List V) (us : List Value) (b : Bool), cls = .ref D ∧ d = some dd ∧ H dd = some (.xd fs) ∧ ExcC K D ∧ xs = [.ref a, .ref tp] ∧ H tp = some (.tup cs) ∧ Paired ClsV cs us ∧ PySem.W.kitAny K (.ref D) us = some b ∧ Q (.bl b) H
section
variable {X : Cx} {a : Addr} {cls : Value} {d : Option Addr} {oe : Obj} {pn : List (Addr × Obj)}
theorem zc_at {pins : List (Addr × Obj)} {σ : L2.St} {H : Hp} {s : Shared} {D dd : Addr} {fs : List (Str × V)} (hz : Zc cls d oe) (hf : ∃ vs, oe.data = .fields vs) (e1 : cls = .ref D) (e2 : d = some dd) (hd : H dd = some (.xd fs)) (I : Inv (X.suite a ((a, oe) :: pn)) pins σ H s) : ∃ od, PySem.W.InstAt s.heap a oe D od := by
  obtain ⟨hget, _⟩ := I.pin (a, oe) (List.mem_append.mpr (.inl List.mem_cons_self))
  obtain ⟨vs, hv⟩ := hf
  obtain ⟨mA, ⟨o, es, ep, ho, _⟩, _⟩ := I.hok dd _ hd
  obtain ⟨oc, od, oda, osl⟩ := oe
  obtain ⟨h1, h2⟩ := hz
  dsimp only at h1 h2 hv
  subst h1 h2 hv e1 e2
  exact ⟨some o, hget, rfl, rfl, ho⟩
theorem call_isD (hz : Zc cls d oe) (hf : ∃ vs, oe.data = .fields vs) : CallR (X.suite a ((a, oe) :: pn)) (.builtin "isinstance") (rIsD X.K a cls d) := by
  intro pins s σ H xs us Q I r h
  obtain ⟨D, dd, fs, c, cv, b, e1, e2, hd, T, rfl, k, e, q⟩ := h
  obtain ⟨od, J⟩ := zc_at hz hf e1 e2 hd I
  obtain ⟨u1, u2, rfl, r1, r2⟩ := vals2 r
  have e3 := k.eq r2
  subst e3
  cases r1
  exact PySem.W.kia_one (kit_own (oe := oe) (od := od) T) I.kIn J e (fun z => nomatch z) fun tk => ⟨.bl b, H, I.tok tk, rfl, q⟩
theorem call_isDT (hz : Zc cls d oe) (hf : ∃ vs, oe.data = .fields vs) : CallR (X.suite a ((a, oe) :: pn)) (.builtin "isinstance") (rIsDT X.K a cls d) := by
  intro pins s σ H xs us Q I r h
  obtain ⟨D, dd, fs, tp, cs, ws, b, e1, e2, hd, T, rfl, hT, k, e, q⟩ := h
  obtain ⟨od, J⟩ := zc_at hz hf e1 e2 hd I
  obtain ⟨u1, u2, rfl, r1, r2⟩ := vals2 r
  cases r1
  cases r2
  obtain ⟨_, its, rv, o, h1, h2, n, h3⟩ := (show ObjOk X.prog X.w H s.heap tp (.tup cs) from I.hok tp _ hT)
  have e3 := ClsV.all k rv
  subst e3
  obtain ⟨oc, ox, dt, sl⟩ := o
  dsimp only at h2 h3
  subst h2 h3
  exact PySem.W.kia_tup (kit_own (oe := oe) (od := od) T) I.kIn J h1 e (fun z => nomatch z) fun tk => ⟨.bl b, H, I.tok tk, rfl, q⟩
end
/-- the class is asked rightly -/
def excB (K : PySem.W.Frag) (D : Addr) : Bool := decide (PySem.W.findIn K (.ref D) "__getattribute__" = some (some (.builtin "BaseException.__getattribute__"))) && (decide (PySem.W.findIn K (.ref D) "__getattr__" = some none) && (decide (PySem.W.subIn K (.ref D) (.type "BaseException") = some true) && (PySem.W.hasDictIn K D &&
  (decide (PySem.W.findIn K (.ref D) "__class__" = some (some (.builtin "object.__class__"))) && (decide (PySem.W.specialIn K (.builtin "object.__class__") "__get__" = some (some (.builtin "getset_descriptor.__get__"))) && (decide (PySem.W.takesIn K (.builtin "object.__class__") = some true) && decide (PySem.W.mroIn K D (.type "object") = some true)))))))
theorem excB_ok {K : PySem.W.Frag} {D : Addr} (h : excB K D = true) : ExcC K D := by
  unfold excB at h
  simp only [Bool.and_eq_true, decide_eq_true_eq] at h
  obtain ⟨h1, h2, h3, h4, h5, h6, h7, h8⟩ := h
  exact ⟨h1, h2, h3, h4, h5, h6, h7, h8⟩
end Cw
/-! things of any kind: data, a dict of one text; their types; not in a list of texts -/
namespace Cw
open PySem PySem.Spec PyProof.Rows L2
/-- a thing of any kind -/
inductive Th (H : Hp) : V → PyData → Prop
  | dx {v : V} {d : PyData} : Dx H v d → Th H v d
  | one {a : Addr} {x : Str} {n : Int} : H a = some (.dK [(Sum.inr x, .int n)]) → Th H (.ref a) (.dict [(.str x, .int n)])
theorem Th.same {H H' : Hp} {v : V} {d : PyData} (k : Same H H') : Th H v d → Th H' v d
  | .dx h => .dx (Dx.same k _ _ h)
  | .one h => .one (k _ _ h)
inductive ThAll (H : Hp) : List V → List PyData → Prop
  | nil : ThAll H [] []
  | cons {v : V} {vs : List V} {d : PyData} {ds : List PyData} : Th H v d → ThAll H vs ds → ThAll H (v :: vs) (d :: ds)
theorem ThAll.same {H H' : Hp} (k : Same H H') : ∀ {vs : List V} {ds : List PyData}, ThAll H vs ds → ThAll H' vs ds
  | _, _, .nil => .nil
  | _, _, .cons a b => .cons (a.same k) (b.same k)
theorem ThAll.len {H : Hp} : ∀ {vs : List V} {ds : List PyData}, ThAll H vs ds → vs.length = ds.length
  | _, _, .nil => rfl
  | _, _, .cons _ b => congrArg (· + 1) b.len
theorem ThAll.get {H : Hp} : ∀ {vs : List V} {ds : List PyData}, ThAll H vs ds → ∀ {i : Nat} {v : V}, vs[i]? = some v → ∃ d, ds[i]? = some d ∧ Th H v d
  | _, _, .nil, i, v, h => by simp at h
  | _, _, .cons a b, 0, v, h => by
    cases h
    exact ⟨_, rfl, a⟩
  | _, _, .cons a b, i + 1, v, h => b.get (i := i) h
theorem ThAll.append {H : Hp} : ∀ {vs ws : List V} {ds es : List PyData}, ThAll H vs ds → ThAll H ws es → ThAll H (vs ++ ws) (ds ++ es)
  | _, _, _, _, .nil, h => h
  | _, _, _, _, .cons a b, h => .cons a (b.append h)
theorem thAll_dx {H : Hp} : ∀ {vs : List V} {ds : List PyData}, DxAll H vs ds → ThAll H vs ds
  | _, _, .nil => .nil
  | _, _, .cons a b => .cons (.dx a) (thAll_dx b)
/-- the built-in type's name -/
def tyOf : PyData → String
  | .none => "NoneType"
  | .bool _ => "bool"
  | .int _ => "int"
  | .str _ => "str"
  | .list _ => "list"
  | .tuple _ => "tuple"
  | .dict _ => "dict"
theorem th_ty {K : PySem.W.Frag} {H : Hp} {v : V} {d : PyData} : Th H v d → TyX K H v (.type (tyOf d))
  | .one h => .base (.dK h)
  | .dx h => by
    cases h with
    | non => exact .base .non
    | bl b => exact .base (.bl b)
    | int i => exact .base (.int i)
    | str z => exact .base (.str z)
    | lst e r => exact .base (.lst e)
    | tup e r n => exact .base (.tup e)
    | tupy e r n => exact e.elim (fun e => .base (.tup e)) fun ⟨_, _, e⟩ => .fTuple e
    | emp e => exact .base (.dK e)
def isTup : PyData → Bool | .tuple _ => true | _ => false
def isStr : PyData → Bool | .str _ => true | _ => false
def isIntD : PyData → Bool | .int _ => true | _ => false
def isBoolD : PyData → Bool | .bool _ => true | _ => false
theorem kt_tup (d : PyData) : kitB (tyOf d) "tuple" = some (isTup d) := by cases d <;> (simp only [tyOf, isTup, isStr, isIntD, isBoolD, Bool.or_false, Bool.false_or, Bool.or_self]; decide +kernel)
theorem kt_str (d : PyData) : kitB (tyOf d) "str" = some (isStr d) := by cases d <;> (simp only [tyOf, isTup, isStr, isIntD, isBoolD, Bool.or_false, Bool.false_or, Bool.or_self]; decide +kernel)
theorem kt_int (d : PyData) : kitB (tyOf d) "int" = some (isIntD d || isBoolD d) := by cases d <;> (simp only [tyOf, isTup, isStr, isIntD, isBoolD, Bool.or_false, Bool.false_or, Bool.or_self]; decide +kernel)
theorem kt_bool (d : PyData) : kitB (tyOf d) "bool" = some (isBoolD d) := by cases d <;> (simp only [tyOf, isTup, isStr, isIntD, isBoolD, Bool.or_false, Bool.false_or, Bool.or_self]; decide +kernel)
/-! ### a text is unlike a dict -/
section
variable {A : Around} {s : Shared}
theorem str_eq_dict (b : Str) (u : Tok) (l : Addr) (o : Obj) : Meets (Builtin.«str.__eq__» ⟨[.str b u, .ref l], []⟩) (fun _ R s => s.heap.get? l = some o ∧ o.cls = .type "dict" ∧ (∃ es ep, o.data = .dict es ep) ∧ R (.ok (.ret .notImplemented)) s) :=
  .of_wp fun prog w A R s h => by
    obtain ⟨hp, g, d, tk, os⟩ := s
    obtain ⟨hl, hc, ⟨es, ep, hd⟩, h⟩ := h
    obtain ⟨cls, dd, data, sl⟩ := o
    cases hc
    cases hd
    wp_walk using wpAny_loadPart' hl, wpAny_load hl
    exact ⟨_, rfl, h⟩
theorem dict_eq_str (b : Str) (u : Tok) (l : Addr) (o : Obj) : Meets (Builtin.«dict.__eq__» ⟨[.ref l, .str b u], []⟩) (fun _ R s => s.heap.get? l = some o ∧ o.cls = .type "dict" ∧ (∃ es ep, o.data = .dict es ep) ∧ R (.ok (.ret .notImplemented)) s) :=
  .of_wp fun prog w A R s h => by
    obtain ⟨hp, g, d, tk, os⟩ := s
    obtain ⟨hl, hc, ⟨es, ep, hd⟩, h⟩ := h
    obtain ⟨cls, dd, data, sl⟩ := o
    cases hc
    cases hd
    have f1 := PySem.F.sub_str_dict
    wp_walk using wpAny_loadPart' hl, wpAny_load hl
    exact ⟨_, rfl, h⟩
theorem eqAt_str_dict {l : Addr} {o : Obj} (b : Str) (u : Tok) (ho : s.heap.get? l = some o) (hc : o.cls = .type "dict") (hd : ∃ es ep, o.data = .dict es ep) (hu : A.units < cLine) : SeqAt.EqAt A s (.str b u) (.ref l) false := fun prog w E Q h => by
  have rc : ∀ (Q : Value → Shared → Prop), Q (.bool false) s → wpAny (model prog w) A (richCompare .Eq (.str b u) (.ref l)) Q E s := fun Q hq =>
    SeqAt.rc_eq_decline_or (k := false) (typeIs_str s b u) ⟨_, ho, hc⟩ (by decide) PySem.F.sub_dict_str PySem.F.slot_str_eq PySem.F.slot_dict_eq_refl
      (fun _ hq => call_meets PySem.F.slot_str_eq (typeIs_str s b u) PySem.F.entry_str_eq (PySem.F.args_str_eq_2 _ _) (str_eq_dict b u l o) ⟨ho, hc, hd, hq⟩)
      (fun _ hq => call_meets PySem.F.slot_dict_eq_refl ⟨_, ho, hc⟩ PySem.F.entry_dict_eq (PySem.F.args_dict_eq_2 _ _) (dict_eq_str b u l o) ⟨ho, hc, hd, hq⟩)
      (fun _ hq => wpAny_of_eq (rfl : isSame (.str b u) (.ref l) = pure false) hq) (.inr hu) hq
  unfold eqBool
  refine wpAny_holding ?_
  refine wpAny_ite_split (fun hab => absurd (eq_of_beq hab) nofun) (fun _ => ?_)
  exact wpAny_bind (rc _ (wpAny_truthy_bool h))
end
/-- it is one of these texts -/
def isIn (d : PyData) (ns : List Str) : Bool := match d with | .str z => decide (z ∈ ns) | _ => false
def strIs (d : PyData) (u : Value) : Bool := match d, u with | .str z, .str y _ => y == z | _, _ => false
section
variable {X : Cx} {pins : List (Addr × Obj)} {σ : L2.St} {H : Hp} {s : Shared}
theorem eqAt_th {A : Around} (I : Inv X pins σ H s) (hu : A.units < cLine) {v : V} {d : PyData} {u : Value} (h : Th H v d) (r : RelV v u) (y : Str) (t : Tok) : SeqAt.EqAt A s (.str y t) u (strIs d (.str y t)) := by
  cases h with
  | one e =>
    cases r
    obtain ⟨_, ns, vs, kv, o, es, ep, ho, hx, hd, hn⟩ := I.hok _ _ e
    exact eqAt_str_dict y t ho hx.1 ⟨_, _, hd⟩ hu
  | dx h =>
    cases h with
    | non => cases r; exact SeqAt.EqAt.str_none y t
    | bl b => cases r; exact SeqAt.EqAt.str_bool y t b
    | int i => obtain ⟨t', rfl⟩ := r; exact SeqAt.EqAt.str_int y t i t'
    | str z => obtain ⟨t', rfl⟩ := r; exact SeqAt.EqAt.str_str y t z t'
    | lst e ra =>
      cases r
      obtain ⟨_, its, n, rv, ho⟩ := I.hok _ _ e
      exact SeqAt.EqAt.str_list y t (items := its.toArray) ⟨_, ho, rfl, n, rfl⟩ hu
    | tup e ra n =>
      cases r
      obtain ⟨_, its, rv, o, ho, hc, n, hd⟩ := I.hok _ _ e
      exact SeqAt.EqAt.str_tuple y t (items := its.toArray) ⟨_, ho, hc, n, hd⟩ hu
    | tupy e ra n =>
      cases r
      rcases e with e | ⟨_, _, e⟩
      · obtain ⟨_, its, rv, o, ho, hc, n, hd⟩ := I.hok _ _ e
        exact SeqAt.EqAt.str_tuple y t (items := its.toArray) ⟨_, ho, hc, n, hd⟩ hu
      · obtain ⟨_, _, its, rv, o, ho, hc, n, hd⟩ := I.hok _ _ e
        exact SeqAt.EqAt.str_tuple y t (items := its.toArray) ⟨_, ho, hc, n, hd⟩ hu
    | emp e =>
      cases r
      obtain ⟨_, ns, vs, kv, o, es, ep, ho, hx, hd, hn⟩ := I.hok _ _ e
      exact eqAt_str_dict y t ho hx.1 ⟨_, _, hd⟩ hu
theorem any_strIs {d : PyData} : ∀ {ns : List Str} {us : List Value}, Vals (ns.map V.str) us → us.any (strIs d) = isIn d ns
  | [], us, r => by
    cases r
    cases d <;> simp [isIn]
  | z :: ns, us, r => by
    cases r with
    | cons r1 r2 =>
      obtain ⟨t, rfl⟩ := r1
      rw [List.any_cons, any_strIs r2]
      cases d <;> simp [isIn, strIs]
      rename_i y
      by_cases h : z = y
      · simp [h]
      · have h2 : ¬ y = z := fun w => h w.symm
        simp [h, h2]
theorem strs_eqAt {A : Around} (I : Inv X pins σ H s) (hu : A.units < cLine) {v : V} {d : PyData} {u : Value} (h : Th H v d) (r : RelV v u) : ∀ {ns : List Str} {us : List Value}, Vals (ns.map V.str) us → ∀ w ∈ us, SeqAt.EqAt A s w u (strIs d w)
  | [], us, r' => by
    cases r'
    exact fun w hw => by cases hw
  | z :: ns, us, r' => by
    cases r' with
    | cons r1 r2 =>
      obtain ⟨t, rfl⟩ := r1
      intro w hw
      rcases List.mem_cons.mp hw with rfl | hw
      · exact eqAt_th I hu h r z t
      · exact strs_eqAt I hu h r r2 w hw
end
def rNotInT (K : PySem.W.Frag) : R2 := fun x y H Q => ∃ (d : PyData) (p : Addr) (ns : List Str), y = .ref p ∧ SqL K H p (ns.map V.str) ∧ Th H x d ∧ Q (.bl (!isIn d ns)) H
theorem op_notInT {X : Cx} (hu : X.A.units + 1 < cLine) : OpR X (compareOp .NotIn) (rNotInT X.K) := by
  intro pins s σ H x y v u Q I rx ry h
  obtain ⟨d, p, ns, rfl, hq, hd, q⟩ := h
  cases ry
  obtain ⟨its, r, pl, hz⟩ := I.list hq
  refine SeqAt.notIn_listAt (strIs d) pl.isList (fun w hw => strs_eqAt I hu hd rx r w (by simpa using hw)) ⟨.bl _, H, I, rfl, ?_⟩
  rw [show its.toArray.any (strIs d) = its.any (strIs d) by simp, any_strIs r]
  exact q
end Cw
/-! repr of a tuple of things; a method that may raise -/
namespace Cw
open PySem PySem.Spec PyProof.Rows L2
section
variable {X : Cx} {pins : List (Addr × Obj)} {σ : L2.St} {H : Hp} {s : Shared}
theorem th_reads (I : Inv X pins σ H s) (hm : HasMods X.K) {d : PyData} {v : V} {u : Value} (h : Th H v d) (r : RelV v u) : ∃ as, Reads s.heap u d as ∧ sysModules ∉ as := by
  cases h with
  | dx h => exact Dx.reads I hm _ _ _ h r
  | @one a x n e =>
    cases r
    obtain ⟨_, ns, vs, kv, o, es, ep, ho, hx, hd, hk, hp, hn⟩ := I.hok _ _ e
    cases kv with
    | @cons q q' _ _ kv1 kv2 =>
      cases kv2
      obtain ⟨k1, v1⟩ := q'
      obtain ⟨e1, r1⟩ := kv1
      dsimp only at e1 r1
      subst e1
      obtain ⟨t, rfl⟩ := r1
      revert hp
      generalize hes : es.toList = l
      intro hp
      cases hp with
      | @cons en kv' es' kvs' h1 h2 h3 =>
        cases h3
        dsimp only at h1 h2
        have h1' : keyIs (Sum.inr x) en.key = true := h1
        rcases keyIs_shape h1' with ⟨i, t1, z, _⟩ | ⟨y, t1, z, e3⟩
        · cases z
        · cases z
          have q1 : ReadsAll s.heap (es.toList.map (·.key)) ([(PyData.str x, PyData.int n)].map (·.1)) ([] ++ []) := by
            rw [hes]
            show ReadsAll s.heap [en.key] [PyData.str x] ([] ++ [])
            rw [e3]
            exact .cons (.str x t1) .nil
          have q2 : ReadsAll s.heap (es.toList.map (·.val)) ([(PyData.str x, PyData.int n)].map (·.2)) ([] ++ []) := by
            rw [hes]
            show ReadsAll s.heap [en.val] [PyData.int n] ([] ++ [])
            rw [h2]
            exact .cons (.int n t) .nil
          refine ⟨_, Reads.dict ho hx.1 hd q1 q2, fun z => ?_⟩
          have z2 : sysModules = a := by simpa using z
          rw [z2] at ns
          simp at ns
theorem thAll_reads (I : Inv X pins σ H s) (hm : HasMods X.K) : ∀ {ds : List PyData} {vs : List V} {us : List Value}, ThAll H vs ds → Vals vs us → ∃ as, ReadsAll s.heap us ds as ∧ sysModules ∉ as
  | [], _, _, h, r => by
    cases h
    cases r
    exact ⟨_, ReadsAll.nil, List.not_mem_nil⟩
  | d :: ds, _, _, h, r => by
    cases h with
    | cons h1 h2 =>
      cases r with
      | cons r1 r2 =>
        obtain ⟨as, q1, n1⟩ := th_reads I hm h1 r1
        obtain ⟨bs, q2, n2⟩ := thAll_reads I hm h2 r2
        exact ⟨_, ReadsAll.cons q1 q2, fun z => (List.mem_append.mp z).elim n1 n2⟩
end
section
variable {X : Cx}
/-- repr of a tuple of things -/
def rReprT : List V → Hp → VK → Prop := fun xs H Q => ∃ (a : Addr) (vs : List V) (ds : List PyData), xs = [.ref a] ∧ H a = some (.tup vs) ∧ ThAll H vs ds ∧
    (PyData.tuple ds).showable = true ∧ (PyData.tuple ds).depth ≤ 60 ∧ (PyData.tuple ds).shown.length ≤ sizeLine ∧ Q (.str (PyData.tuple ds).shown) H
theorem call_reprT (hg : X.A.guards = some []) (hu : X.A.units + 64 < cLine) (hm : HasMods X.K) : CallR X (.builtin "repr") rReprT := by
  intro pins s σ H xs us Q I r h
  obtain ⟨a, vs, ds, rfl, e, hd, hs, hdp, hz, q⟩ := h
  obtain ⟨u, rfl, r1⟩ := vals1 r
  cases r1
  obtain ⟨_, its, rv, o, ho, hc, n, hdt⟩ := I.hok _ _ e
  obtain ⟨as, rd, nm⟩ := thAll_reads I hm hd rv
  exact repr_of_reads' (Reads.tuple ho hc hdt rd) hs (fun _ => nm) hg (by omega) (fun _ _ e => e) (fun h' u tk hk => ⟨.str _, H, I.kept (t' := tk) hk, ⟨u, rfl⟩, q⟩) hz
end
section
variable {X : Cx} {CX : CXT} {k : Nat} {f C : Addr} {fd : FuncData} {ps : List Str} {sp : Sp} {E : L2.St → XK} {x m : Str} {p pos apos : Pos} {e o : Expr} {es : List Expr} {ta : TE} {t : TA}
/-- o.m(e, ..), which may raise -/
def tMethE (C : Addr) (m : Str) (sp : Sp) (E : L2.St → XK) (ta : TE) (t : TA) : TE := fun σ H Q => tMeth C m sp [] (E σ) ta t σ H Q
theorem pe_methE {pl : Sem Bool} (he : PE X o ta) (c : Cls X.K C) (hm : Meth X.K C m f) (F : FnOk X.prog X.w X.K X.mg X.base CX k f fd ps sp) (hr : Room k X.A) (hb : Binds X.K fd ps []) (hx : ∀ σ, PassesAt CX X σ (E σ)) (ha : PA X (e :: es) t)
    (hst : starEach (e :: es) X.env = (false, eval e X.env) :: starEach es X.env := by rfl) (hpl : (backTo pos (starEach es X.env)).any (·.1) = false := by rfl)
    (ht : eval (.Call (.Attribute o m apos) (e :: es) [] pos) X.env = (do
      let ov ← eval o X.env
      standAt apos.atName
      let (f, first) ← holding [ov] (getMethod ov m pl)
      callWith pos f first (backTo pos (starEach (e :: es) X.env)) (backToKw pos (keywordEach [] X.env))) := by rfl) :
    PE X (.Call (.Attribute o m apos) (e :: es) [] pos) (tMethE C m sp E ta t) := by
  refine ⟨fun pins s σ H Q I h => ?_⟩
  refine PySem.W.methodCall_KW (pl := pl) (thn (he.run pins s σ H _ I h) fun u s1 z => ?_) ht
  obtain ⟨x, H1, I1, rx, a, dx, fs, ex, ea, l, q⟩ := z
  subst ex
  obtain rfl : u = Value.ref a := rx
  refine getmeth_ok I1 ea c hm l ?_
  refine PySem.W.callWith_K (first := [.ref a]) (h₀ := X.base) I.ok.mod.kin hm.kp (thn (ha.run pos pins s1 σ H1 _ I1 q) fun us s2 z => ?_) hst hpl
  obtain ⟨vs, H2, I2, r, q2⟩ := z
  refine ⟨I2.kIn, ?_⟩
  refine run_fnS (us := .ref a :: us) (vs := .ref a :: vs) F hr hb (hx σ) I2 (.cons rfl r) ?_
  have e := q2
  rw [List.append_nil] at e
  exact e
end
theorem op_notInTK {X : Cx} {K : PySem.W.Frag} (hK : X.K = K) (hu : X.A.units + 1 < cLine) : OpR X (compareOp .NotIn) (rNotInT K) := hK ▸ op_notInT hu
end Cw
/-! an own class with no __init__ of its own, raised with a message -/
namespace Cw
open PySem PySem.Spec PyProof.Rows L2
structure RzM (K : PySem.W.Frag) (mg : Str → Option Value) (x : Str) (C : Addr) : Prop where
  g : mg x = some (.ref C)
  how : ∃ (B newId initId : String) (bmB : List Value), ExcBaseFacts B newId initId bmB ∧ PySem.W.excIn K C bmB newId = true
  kp : PySem.W.keepIn K (.ref C) = true
  isB : PySem.W.subIn K (.ref C) (.type "BaseException") = some true
  ty : PySem.W.typeIn K (.ref C) = some (.type "type")
  ex : PySem.W.exmOne K (.ref C) (.ref C) = some true
def tRzM (C : Addr) (W : WX) : TS := fun _ σ H => W (.ref C) none σ H
theorem ps_raiseM {X : Cx} {W : WX} {x m : Str} {C : Addr} {j : Nat} {p p2 pos pos2 : Pos} (hc : X.calm = true) (tk : Takes X W) (R : RzM X.K X.mg x C) (hg : Gl X x)
    (hdb : (x == ("__debug__" : Str)) = false := by decide) : PS X (.Raise (some (.Call (.Name x p) [.Constant (.str m) j p2] [] pos)) none pos2) (tRzM C W) := by
  obtain ⟨B, nI, iI, bm, F, q⟩ := R.how
  exact ps_raise (pos := pos2) hc tk (pmk_own (m := m) (j := j) (p := p) (p2 := p2) (pos := pos) F q R.g R.kp (raises_own R.isB R.ty) hg hdb)
/-- what the head shows of such a class -/
def rzmB (K : PySem.W.Frag) (C : Addr) (B : String) : Bool := PySem.W.excIn K C [.type B, .type "Exception", .type "BaseException", .type "object"] (B ++ ".__new__") && (PySem.W.keepIn K (.ref C) && (decide (PySem.W.subIn K (.ref C) (.type "BaseException") = some true) &&
  (decide (PySem.W.typeIn K (.ref C) = some (.type "type")) && decide (PySem.W.exmOne K (.ref C) (.ref C) = some true))))
end Cw
/-! a list == [], whatever stands in it; sorted of a tuple of whole numbers; two clauses with names; isinstance of a caught own exception, its dict there or not -/
namespace Cw
open PySem PySem.Spec PySem.Calls PyProof.Rows L2
section
variable {X : Cx}
def rEqNil (K : PySem.W.Frag) : R2 := fun x y H Q => ∃ (p q : Addr) (xs : List V), x = .ref p ∧ y = .ref q ∧ SqL K H p xs ∧ SqL K H q [] ∧ Q (.bl xs.isEmpty) H
theorem op_eqNil (hu : X.A.units + 1 < cLine) : OpR X (compareOp .Eq) (rEqNil X.K) := by
  intro pins s σ H x y v u Q I rx ry h
  obtain ⟨p, q, xs, rfl, rfl, hp, hq, k⟩ := h
  cases rx
  cases ry
  obtain ⟨its, r1, l1, _⟩ := I.list hp
  obtain ⟨jts, r2, l2, _⟩ := I.list hq
  cases r2
  have room : X.A.units < cLine := by omega
  cases xs with
  | nil =>
    cases r1
    refine SeqAt.eq_listAt (e := fun _ => true) l1.isList l2.isList rfl room (fun j h1 _ => absurd h1 (by simp)) ?_
    exact ⟨.bl _, H, I, rfl, k⟩
  | cons a r =>
    cases r1
    refine SeqAt.eq_list_lengthsAt l1.isList l2.isList ?_ room ⟨.bl _, H, I, rfl, k⟩
    simp
/-- sorted(t), t a tuple of whole numbers -/
def rSortedTi (K : PySem.W.Frag) : List V → Hp → VK → Prop := fun vs H Q => ∃ (a : Addr) (ns : List Int), vs = [V.ref a] ∧ SqT K H a (ns.map V.int) ∧ ns.length < 64 ∧
  ∀ (ms : List Int) (p : Addr), ms.Perm ns → ms.Pairwise (· ≤ ·) → H p = none → Q (.ref p) (upd H p (.lst (ms.map V.int)))
theorem cr_sortedTi : CallR X (.builtin "sorted") (rSortedTi X.K) := by
  intro pins s σ H vs us Q I r h
  obtain ⟨a, ns, rfl, ht, few, q⟩ := h
  obtain ⟨its, rv, hl, _⟩ := I.tuple ht
  rw [Vals.ref1 r]
  have hi := rv.ints
  have hlen : its.length < 64 := by rw [hi.length]; exact few
  obtain ⟨o, ho, hc, n, hd⟩ := hl
  refine call_function_entry kind_sorted plain_sorted entry_sorted (args_sorted1 _) ?_
  unfold Builtin.«sorted»
  refine wpAny_bind (m := checkCount "sorted" 1 1 _) (wpAny_pure ?_)
  refine wpAny_bind (wpAny_collect_seq a (.inr rfl) ho hc hd (fun h1 keep => ?_) (by have := small64 hlen; simpa using this))
  refine wpAny_bind (wpAny_newList ?_ (by have := small64 hlen; simpa using this))
  have new : (h1.push (seqObj "list" its.toArray 0)).get? h1.objs.size = some (seqObj "list" its.toArray 0) := Heap.get?_push_size _ rfl
  have J : Inv X pins σ H { s with heap := h1 } := I.kept (t' := s.toks) keep
  refine wpAny_bind (wpAny_holding (wpAny_call_entry slot_list_sort ⟨_, new, rfl⟩ entry_list_sort (list_sort_tree new hi hlen fun out ms m1 m2 m3 => ⟨_, rfl, wpAny_pure ⟨_, rfl, ?_⟩⟩) (args_list_sort _)))
  obtain ⟨ep, at_⟩ := sortedHeap_at (vs := its) (out := out) new
  have size : (ms.map V.int).length ≤ sizeLine := by
    have := small64 few
    rw [List.length_map, m2.length_eq]
    exact this
  have old : ∀ b ob, h1.get? b = some ob → (sortedHeap (h1.push (seqObj "list" its.toArray 0)) h1.objs.size its out).get? b = some ob := fun b ob e => by
    have lt := Heap.lt_size e
    rw [sortedHeap_old (Nat.ne_of_lt lt) (by rw [size_push']; exact Nat.lt_succ_of_lt lt)]
    exact Heap.get?_push_of_some _ e
  exact ⟨.ref h1.objs.size, upd H h1.objs.size (.lst (ms.map V.int)), J.laid (t' := s.toks) old (Nat.le_refl _) ⟨size, out.toList, ep, vals_of_ints m1, at_⟩, rfl, q ms _ m2 m3 (J.hok.fresh (Nat.le_refl _))⟩
end
section
variable {X : Cx} {a : Addr} {cls : Value} {d : Option Addr} {oe : Obj} {pn : List (Addr × Obj)}
/-- the exception's dict is there, or it has none -/
def DOk (d : Option Addr) (H : Hp) : Prop := d = none ∨ ∃ dd fs, d = some dd ∧ H dd = some (.xd fs)
theorem zc_any {pins : List (Addr × Obj)} {σ : L2.St} {H : Hp} {s : Shared} {D : Addr} (hz : Zc cls d oe) (hf : ∃ vs, oe.data = .fields vs) (e1 : cls = .ref D) (hd : DOk d H) (I : Inv (X.suite a ((a, oe) :: pn)) pins σ H s) : ∃ od, PySem.W.InstAt s.heap a oe D od := by
  rcases hd with e2 | ⟨dd, fs, e2, hd⟩
  · obtain ⟨hget, _⟩ := I.pin (a, oe) (List.mem_append.mpr (.inl List.mem_cons_self))
    obtain ⟨vs, hv⟩ := hf
    obtain ⟨oc, od, oda, osl⟩ := oe
    obtain ⟨h1, h2⟩ := hz
    dsimp only at h1 h2 hv
    subst h1 h2 hv e1 e2
    exact ⟨none, hget, rfl, rfl, trivial⟩
  · exact zc_at hz hf e1 e2 hd I
def rIsG (K : PySem.W.Frag) (a : Addr) (cls : Value) (d : Option Addr) : List V → Hp → VK → Prop := fun xs H Q => ∃ (D : Addr) (c : V) (cv : Value) (b : Bool), cls = .ref D ∧ DOk d H ∧ ExcC K D ∧ xs = [.ref a, c] ∧ ClsV c cv ∧ PySem.W.kitOne K (.ref D) cv = some b ∧ Q (.bl b) H
def rIsGT (K : PySem.W.Frag) (a : Addr) (cls : Value) (d : Option Addr) : List V → Hp → VK → Prop := fun xs H Q => ∃ (D tp : Addr) (cs : List V) (us : List Value) (b : Bool), cls = .ref D ∧ DOk d H ∧ ExcC K D ∧ xs = [.ref a, .ref tp] ∧ H tp = some (.tup cs) ∧ Paired ClsV cs us ∧ PySem.W.kitAny K (.ref D) us = some b ∧ Q (.bl b) H
theorem call_isG (hz : Zc cls d oe) (hf : ∃ vs, oe.data = .fields vs) : CallR (X.suite a ((a, oe) :: pn)) (.builtin "isinstance") (rIsG X.K a cls d) := by
  intro pins s σ H xs us Q I r h
  obtain ⟨D, c, cv, b, e1, hd, T, rfl, k, e, q⟩ := h
  obtain ⟨od, J⟩ := zc_any hz hf e1 hd I
  obtain ⟨u1, u2, rfl, r1, r2⟩ := vals2 r
  obtain rfl := k.eq r2
  cases r1
  exact PySem.W.kia_one (kit_own (oe := oe) (od := od) T) I.kIn J e (fun z => nomatch z) fun tk => ⟨.bl b, H, I.tok tk, rfl, q⟩
theorem call_isGT (hz : Zc cls d oe) (hf : ∃ vs, oe.data = .fields vs) : CallR (X.suite a ((a, oe) :: pn)) (.builtin "isinstance") (rIsGT X.K a cls d) := by
  intro pins s σ H xs us Q I r h
  obtain ⟨D, tp, cs, ws, b, e1, hd, T, rfl, hT, k, e, q⟩ := h
  obtain ⟨od, J⟩ := zc_any hz hf e1 hd I
  obtain ⟨u1, u2, rfl, r1, r2⟩ := vals2 r
  cases r1
  cases r2
  obtain ⟨_, its, rv, o, h1, h2, n, h3⟩ := (show ObjOk X.prog X.w H s.heap tp (.tup cs) from I.hok tp _ hT)
  obtain rfl := ClsV.all k rv
  obtain ⟨oc, ox, dt, sl⟩ := o
  dsimp only at h2 h3
  subst h2 h3
  exact PySem.W.kia_tup (kit_own (oe := oe) (od := od) T) I.kIn J h1 e (fun z => nomatch z) fun tk => ⟨.bl b, H, I.tok tk, rfl, q⟩
end
section
variable {X : Cx} {pins : List (Addr × Obj)} {a : Addr} {cls : Value} {d : Option Addr} {σ : L2.St} {H : Hp} {D : Ends} {more : List ExceptHandler} {s : Shared}
/-- an exception of the class cls has come down to this def's own clauses -/
def Fallen (X : Cx) (pins : List (Addr × Obj)) (a : Addr) (cls : Value) (d : Option Addr) (σ : L2.St) (H : Hp) (s : Shared) : Prop := ∃ (B : Heap) (s1 : Shared), Inv X pins σ H s1 ∧ (∀ b o, s1.heap.get? b = some o → b ∉ frs X.stack → B.get? b = some o) ∧
  s1.heap.UpToSlots s.heap ∧ HandSPX.FlyingZ B (X.env :: X.outer) a (Zc cls d) s.heap ∧ H a = none ∧ s.os = s1.os ∧ AllBare s.gens
theorem Fallen.inv (F : Fallen X pins a cls d σ H s) : Inv X pins σ H s ∧ (H a = none ∧ ∃ oe vs, s.heap.get? a = some oe ∧ Zc cls d oe ∧ oe.data = .fields vs) := by
  obtain ⟨B, s1, I, nb, up, fl, na, os, ag⟩ := F
  obtain ⟨oe, vs, e1, e2, e3⟩ := fl.there
  exact ⟨I.landed nb fl.1 up os ag, na, oe, vs, e1, e2, e3⟩
theorem Fallen.off (F : Fallen X pins a cls d σ H s) (hf : X.env.frame = some X.env.locals) : a ≠ X.env.locals ∧ a ∉ X.fs := by
  obtain ⟨B, s1, I, nb, up, fl, na, os, ag⟩ := F
  obtain ⟨oe, vs, e1, e2, e3⟩ := fl.there
  have no : a ∉ frs (X.env :: X.outer) := fun hm => by
    obtain ⟨_, o, e, hnf⟩ := fl.2.2.1.mem hm
    rw [e1] at e
    cases e
    exact hnf _ e3
  refine ⟨fun z => no (List.mem_filterMap.mpr ⟨X.env, List.mem_cons_self, by rw [hf, z]⟩), fun hm => ?_⟩
  obtain ⟨e, he, q⟩ := List.mem_filterMap.mp hm
  exact no (List.mem_filterMap.mpr ⟨e, List.mem_cons_of_mem _ he, q⟩)
/-- none of the clauses was its own -/
theorem fallen_on {Wo : WX} (F : Fallen X pins a cls d σ H s) (hs : X.stack = X.env :: X.outer) (hf : X.env.frame = some X.env.locals) (tk : Takes X Wo) (w : Wo cls d σ H) :
    wpAny (model X.prog X.w) X.A (handleBy (.ref a) X.env []) (SP X pins D) X.xe s := by
  obtain ⟨B, s1, I, nb, up, fl, na, os, ag⟩ := F
  obtain ⟨_, _, _, oe, vs, T, oT, ts', he, hz, hd, h1, hr⟩ := id fl
  have up_ : wpAny (model X.prog X.w) X.A (setFlight (.ref a) X.env.frame) (fun _ s4 => wpAny (model X.prog X.w) X.A (throw (.ref a) : Sem Flow) (SP X pins D) X.xe s4) X.xe s := by
    rw [hf]
    refine HandSPX.setFlight_upZ fl fun h4 hh4 up4 => wpAny_throw (tk _ _ ⟨a, B, s1, pins, σ, H, cls, d, rfl, I, nb, up.trans up4, .inr (.inr ?_), na, os, ag, w⟩)
    rw [hs]
    exact hh4
  refine wpAny_handleBy_nil ?_
  unfold PySem.passOn
  refine wpAny_bind (wpAny_field he hd h1 ?_)
  rw [if_neg (show ¬ ((Value.ref T == Value.none) = true) from by simp)]
  first
    | exact wpAny_bind (wpAny_pure (wpAny_bind up_))
    | exact wpAny_bind up_
/-- 'except x as n: ..': its own, or the next clause's -/
theorem fallen_as {Wo : WX} {x n : Str} {c : Value} {i : Nat} {b0 : Stmt} {suite : List Stmt} {np pc : Pos} {ts : Addr → Value → Option Addr → TS} (F : Fallen X pins a cls d σ H s) (hf : X.env.frame = some X.env.locals) (hN : X.N.Nodup) (hi : X.N[i]? = some n) (hln : X.env.kindOf n = some .local)
    (hc : Names X x c) (hsu : ∀ (a : Addr) (oe : Obj) (cls : Value) (d : Option Addr) (pn : List (Addr × Obj)), Zc cls d oe → (∃ vs, oe.data = .fields vs) → PSs (X.suite a ((a, oe) :: pn)) (b0 :: suite) (ts a cls d))
    (w : wAs X.K c i ts Wo D cls d σ H) (rest : Wo cls d σ H → wpAny (model X.prog X.w) X.A (handleBy (.ref a) X.env more) (SP X pins D) X.xe s) :
    wpAny (model X.prog X.w) X.A (handleBy (.ref a) X.env (.ExceptHandler (some (.Name x np)) (some n) (b0 :: suite) pc :: more)) (SP X pins D) X.xe s := by
  obtain ⟨nL, nF⟩ := F.off hf
  obtain ⟨J, na, oe3, vs3, e3, z3, d3⟩ := F.inv
  obtain ⟨b, hb, yes, no⟩ := w
  have S3 := J.suite e3 d3 na nL nF
  have its : PySem.W.Looks (model X.prog X.w) s.heap (typeOf (.ref a)) cls := fun A Q E s' k q => wpAny_typeOf_ref (k _ _ e3) (by rw [z3.1]; exact q)
  have asks := PySem.W.exm_one (M := model X.prog X.w) J.kIn its hb
  refine wpAny_handleBy_cons (codeAny_handlers_test ?_) (by intro q; cases q)
  have named : ∀ {Q : Value → Shared → Prop} {E : Value → Shared → Prop}, Q c s → wpAny (model X.prog X.w) (X.A.mark (some (.ref a))) (eval (.Name x np) X.env) Q E s := fun {Q E} q => by
    obtain ⟨g1, g2, g3 | ⟨g3, g4, g5⟩⟩ := hc
    · exact ld_glob (X := X.suite a ((a, oe3) :: (X.pn ++ pins))) S3 g1 g3 q g2
    · exact ld_blt (X := X.suite a ((a, oe3) :: (X.pn ++ pins))) S3 g1 g3 g4 q g5 g2
  refine named (asks.here ?_)
  cases b with
  | false => exact rest (no rfl)
  | true =>
    obtain ⟨B, s1, I, nb, up, fl, _, os, ag⟩ := F
    refine codeAny_handlers_suite_as (HandSPX.lands_againZ fl fun h4 fl4 up4 => ?_)
    have F4 : Fallen X pins a cls d σ H { s with heap := h4 } := ⟨B, s1, I, nb, up.trans up4, fl4, na, os, ag⟩
    obtain ⟨J4, _, oe4, vs4, e4, z4, d4⟩ := F4.inv
    have S4 := J4.suite e4 d4 na nL nF
    refine store_ok (X := X.suite a ((a, oe4) :: (X.pn ++ pins))) (v := .ref a) S4 hN hi (.inl hln) rfl (fun s5 S5 => ?_) (.inr hln)
    refine wpAny_mono ((hsu a oe4 cls d (X.pn ++ pins) z4 ⟨_, d4⟩).run [] s5 _ H _ S5 (yes rfl a na)) (fun f s6 out => ?_) fun _ _ z => False.elim z
    have ends : ∀ {σ6 : L2.St} {H6 : Hp} {Q : Shared → Prop}, Inv (X.suite a ((a, oe4) :: (X.pn ++ pins))) [] σ6 H6 s6 → (∀ s7, Inv X pins (σ6.set i none) H6 s7 → Q s7) →
        wpAny (model X.prog X.w) X.A (do bindName X.env n .none; unbindBehindTheSuite X.env n pc) (fun _ s7 => Q s7) X.xe s6 := fun S6 hq => gone_ok (S6.unsuite I.ok) hN hi hln hq
    cases f with
    | next =>
      obtain ⟨σ6, H6, S6, q⟩ := out
      exact ends S6 fun s7 J7 => ⟨_, _, J7, q⟩
    | brk =>
      obtain ⟨σ6, H6, S6, q⟩ := out
      exact ends S6 fun s7 J7 => ⟨_, _, J7, q⟩
    | cont =>
      obtain ⟨σ6, H6, S6, q⟩ := out
      exact ends S6 fun s7 J7 => ⟨_, _, J7, q⟩
    | ret u =>
      obtain ⟨v6, σ6, H6, S6, r6, q⟩ := out
      exact ends S6 fun s7 J7 => ⟨_, _, _, J7, r6, q⟩
/-- try: .. except x as n: .. except y as n: .. -/
theorem ps_try_as2 {x y n m : Str} {c1 c2 : Value} {i j : Nat} {body su1 su2 : List Stmt} {b1 b2 : Stmt} {np1 np2 pc1 pc2 pos : Pos} {tb : WX → TS} {t1 t2 : Addr → Value → Option Addr → TS} {Wo : WX}
    (hs : X.stack = X.env :: X.outer) (hf : X.env.frame = some X.env.locals) (hN : X.N.Nodup) (hi : X.N[i]? = some n) (hj : X.N[j]? = some m) (hl1 : X.env.kindOf n = some .local) (hl2 : X.env.kindOf m = some .local) (hc1 : Names X x c1) (hc2 : Names X y c2) (tk : Takes X Wo)
    (hb : ∀ (W : WX) (pn : List (Addr × Obj)) (xe : Value → Shared → Prop), Takes (X.tr pn xe) W → PassesOwn (model X.prog X.w) X.A X.env xe → PSs (X.tr pn xe) body (tb W))
    (h1 : ∀ (a : Addr) (oe : Obj) (cls : Value) (d : Option Addr) (pn : List (Addr × Obj)), Zc cls d oe → (∃ vs, oe.data = .fields vs) → PSs (X.suite a ((a, oe) :: pn)) (b1 :: su1) (t1 a cls d))
    (h2 : ∀ (a : Addr) (oe : Obj) (cls : Value) (d : Option Addr) (pn : List (Addr × Obj)), Zc cls d oe → (∃ vs, oe.data = .fields vs) → PSs (X.suite a ((a, oe) :: pn)) (b2 :: su2) (t2 a cls d)) :
    PS X (.Try body [.ExceptHandler (some (.Name x np1)) (some n) (b1 :: su1) pc1, .ExceptHandler (some (.Name y np2)) (some m) (b2 :: su2) pc2] [] [] pos) (fun D σ H => tb (wAs X.K c1 i t1 (wAs X.K c2 j t2 Wo D) D) D σ H) := by
  constructor
  intro pins s σ H D I h
  have ok := I.ok
  have hfr : X.A.frames = some (X.env :: X.outer) := ok.frames.trans (congrArg some hs)
  refine wpAny_Try_except (wpAny_mono ((hb (wAs X.K c1 i t1 (wAs X.K c2 j t2 Wo D) D) (X.pn ++ pins) _ (fun u s' xx => ?_) PassesOwn.looking).run [] s σ H D (I.toTry _) h) (fun f s1 out => ?_) fun e s1 he => he)
  · obtain ⟨a, B, s1, pins', σ', H', cls, d, rfl, J', nb, up, sky, na, os, ag, w⟩ := xx
    have sky' : Sky B (X.env :: X.outer) a (Zc cls d) X.env.locals s'.heap := hs ▸ sky
    show wpAny (model X.prog X.w) X.A (noteFrame (.ref a) X.env) _ _ _
    refine Sky.land Zc.steady hfr hf sky' fun h3 fl3 up3 => ?_
    have F : Fallen X pins a cls d σ' H' { s' with heap := h3 } := ⟨B, s1, J'.ofTry ok, nb, up.trans up3, fl3, na, os, ag⟩
    exact fallen_as F hf hN hi hl1 hc1 h1 w fun w => fallen_as F hf hN hj hl2 hc2 h2 w fun w => fallen_on F hs hf tk w
  · cases f with
    | next =>
      obtain ⟨σ6, H6, J, q⟩ := out
      exact wpAny_execs_nil ⟨σ6, H6, J.ofTry ok, q⟩
    | brk =>
      obtain ⟨σ6, H6, J, q⟩ := out
      exact ⟨σ6, H6, J.ofTry ok, q⟩
    | cont =>
      obtain ⟨σ6, H6, J, q⟩ := out
      exact ⟨σ6, H6, J.ofTry ok, q⟩
    | ret u =>
      obtain ⟨v6, σ6, H6, J, r, q⟩ := out
      exact ⟨v6, σ6, H6, J.ofTry ok, r, q⟩
end
section
variable {X : Cx}
theorem call_reprN : CallR X (.builtin "repr") (fun xs H Q => xs = [.non] ∧ Q (.str "None") H) := by
  intro pins s σ H xs us Q I r h
  obtain ⟨rfl, q⟩ := h
  obtain ⟨u, rfl, r1⟩ := vals1 r
  cases r1
  exact PySem.P.repr_of_none ⟨.str _, H, I.tok _, ⟨_, rfl⟩, q⟩
/-- repr of any data -/
theorem call_reprA (hg : X.A.guards = some []) (hu : X.A.units + 64 < cLine) (hm : HasMods X.K) : CallR X (.builtin "repr") (fun xs H Q => ∃ (v : V) (d : PyData), xs = [v] ∧ Dx H v d ∧ d.showable = true ∧ d.depth ≤ 60 ∧ d.shown.length ≤ sizeLine ∧ Q (.str d.shown) H) := by
  intro pins s σ H xs us Q I r h
  obtain ⟨v, d, rfl, hd, hs, hdp, hz, q⟩ := h
  cases v with
  | str z =>
    cases hd
    obtain ⟨u, rfl, r1⟩ := vals1 r
    obtain ⟨t, rfl⟩ := r1
    exact PySem.P.repr_of_str ⟨.str (reprText z), H, I.tok _, ⟨_, rfl⟩, q⟩ hz
  | ref a => exact call_reprX hg hu hm pins s σ H [.ref a] us Q I r ⟨a, d, rfl, hd, hs, hdp, hz, q⟩
  | non =>
    cases hd
    exact call_reprN pins s σ H _ us Q I r ⟨rfl, q⟩
  | int i =>
    cases hd
    exact call_reprI pins s σ H _ us Q I r ⟨i, rfl, of_decide_eq_true hs, q⟩
  | bl b =>
    cases hd
    exact call_reprB pins s σ H _ us Q I r ⟨b, rfl, by cases b <;> exact q⟩
  | _ => cases hd
end
section
variable {X : Cx}
/-- lists of pairs of texts, alike item by item -/
def rEqTS (K : PySem.W.Frag) : R2 := fun x y H Q => ∃ (p q : Addr) (xs ys : List V), x = .ref p ∧ y = .ref q ∧ SqL K H p xs ∧ SqL K H q ys ∧ xs.length = ys.length ∧
  (∀ (j : Nat) (v u : V), xs[j]? = some v → ys[j]? = some u → ∃ a b z1 z2, v = .ref a ∧ u = .ref b ∧ a ≠ b ∧ H a = some (.tup [.str z1, .str z2]) ∧ H b = some (.tup [.str z1, .str z2])) ∧ Q (.bl true) H
theorem vals_at {xs : List V} {us : List Value} (r : Vals xs us) {j : Nat} {u : Value} (h : us[j]? = some u) : ∃ v, xs[j]? = some v ∧ RelV v u := by
  induction r generalizing j with
  | nil => simp at h
  | cons a b ih =>
    cases j with
    | zero => cases h; exact ⟨_, rfl, a⟩
    | succ j => exact ih h
theorem op_eqTS (hu : X.A.units + 64 < cLine) : OpR X (compareOp .Eq) (rEqTS X.K) := by
  intro pins s σ H x y v u Q I rx ry h
  obtain ⟨p, q, xs, ys, rfl, rfl, hp, hq, hl, same, k⟩ := h
  cases rx
  cases ry
  obtain ⟨its, r1, l1, _⟩ := I.list hp
  obtain ⟨jts, r2, l2, _⟩ := I.list hq
  have n1 := r1.length
  have n2 := r2.length
  have pair : ∀ {a : Addr} {z1 z2 : Str}, H a = some (.tup [.str z1, .str z2]) → ∃ t1 t2, s.heap.IsTuple a #[.str z1 t1, .str z2 t2] := fun {a z1 z2} e => by
    obtain ⟨ks, rk, tk, _⟩ := I.tuple (SqT.of e)
    cases rk with
    | cons k1 rk =>
      cases rk with
      | cons k2 rk =>
        cases rk
        obtain ⟨t1, rfl⟩ := k1
        obtain ⟨t2, rfl⟩ := k2
        exact ⟨t1, t2, tk⟩
  refine SeqAt.eq_listAt (e := fun _ => true) l1.isList l2.isList (by simp only [List.size_toArray]; omega) (by omega) (fun j h1 h2 => ?_) ?_
  · simp only [List.size_toArray] at h1 h2
    obtain ⟨v, hv, rv⟩ := vals_at r1 (List.getElem?_eq_getElem h1)
    obtain ⟨u, hw, ru⟩ := vals_at r2 (List.getElem?_eq_getElem h2)
    obtain ⟨a, b, z1, z2, rfl, rfl, ne, ha, hb⟩ := same j v u hv hw
    obtain ⟨t1, t2, ka⟩ := pair ha
    obtain ⟨u1, u2, kb⟩ := pair hb
    simp only [List.getElem_toArray]
    rw [show its[j] = Value.ref a from rv, show jts[j] = Value.ref b from ru]
    have go := SeqAt.RcAt.tuples (A := X.A.in1) (s := s) (e := fun _ => true) ka kb (by show X.A.units + 1 < cLine; omega) (fun i g1 g2 => by
      have e : ∀ (z : Str) (t u : Tok), SeqAt.EqAt X.A.in1.in1 s (.str z t) (.str z u) true := fun z t u => by
        have := SeqAt.EqAt.str_str (A := X.A.in1.in1) (s := s) z t z u
        rw [beq_self_eq_true] at this
        exact this
      match i, g1 with
      | 0, _ => exact e z1 t1 u1
      | 1, _ => exact e z2 t2 u2)
    exact SeqAt.EqAt.of_refs ne go
  · have al : (List.range its.toArray.size).all (fun _ => true) = true := by simp
    rw [al]
    exact ⟨.bl _, H, I, rfl, k⟩
end
end Cw
/-! an own class with two fields, raised; an instance made by an __init__ that may raise -/
namespace Cw
open PySem PySem.Spec PyProof.Rows L2
/-- an own class with two fields, raised -/
structure Rz2 (P : Program) (w : World) (K : PySem.W.Frag) (mg : Str → Option Value) (base : Heap) (x f f2 : Str) (C : Addr) : Prop where
  g : mg x = some (.ref C)
  how : ∃ (fI : Addr) (fd : FuncData) (B newId initId : String) (bmB : List Value), ExT K C B newId initId bmB ∧ PySem.W.findIn K (.ref C) "__init__" = some (some (.ref fI)) ∧ PySem.W.typeIn K (.ref fI) = some (.type "function") ∧
    FnOk P w K mg base CX0 1 fI fd ["self", f, f2] (spI2 C f f2) ∧ Binds K fd ["self", f, f2] []
  ty : PySem.W.typeIn K (.ref C) = some (.type "type")
  ex : PySem.W.exmOne K (.ref C) (.ref C) = some true
def NewX2 (f g : Str) (v u : V) (H : Hp) (d : Addr) (H' : Hp) : Prop := H d = none ∧ H' d = some (.xd [(g, u), (f, v)]) ∧ Same H H'
def tRz2 (C : Addr) (f g : Str) (W : WX) (ta tb : TE) : TS := fun _ σ H => ta σ H fun v H1 => tb σ H1 fun u H2 => ∀ d H3, NewX2 f g v u H2 d H3 → W (.ref C) (some d) σ H3
theorem ps_raise2 {X : Cx} {W : WX} {x f g : Str} {C : Addr} {e1 e2 : Expr} {ta tb : TE} {p pos pos2 : Pos} (hc : X.calm = true) (tk : Takes X W) (R : Rz2 X.prog X.w X.K X.mg X.base x f g C) (hr : Room 2 X.A) (hg : Gl X x) (h1 : PE X e1 ta) (h2 : PE X e2 tb)
    (hdb : (x == ("__debug__" : Str)) = false := by decide) (hs1 : starEach [e1, e2] X.env = (false, eval e1 X.env) :: starEach [e2] X.env := by rfl) (hs2 : starEach [e2] X.env = (false, eval e2 X.env) :: starEach [] X.env := by rfl)
    (hpl : (backTo pos (starEach [e2] X.env)).any (·.1) = false := by rfl) : PS X (.Raise (some (.Call (.Name x p) [e1, e2] [] pos)) none pos2) (tRz2 C f g W ta tb) := by
  obtain ⟨fI, fd, B, nI, iI, bm, T, iC, tI, G, b⟩ := R.how
  have h := ps_raise (pos := pos2) hc tk (pmk_x (pos := pos) (p := p) (es := [e2]) T R.ty iC tI G hr b pass0 hg R.g (pa_cons (pe_imp h1) (pa_cons (pe_imp h2) pa_nil hs2) hs1) hdb hs1 hpl)
  refine ⟨fun pins s σ H D I hw => h.run pins s σ H D I ?_⟩
  refine ⟨_, hw, fun v H1 q => ⟨_, q, fun u H2 q2 => ⟨by show 2 ≤ 1000; decide, fun a na => ⟨a, v, u, rfl, upd_same, fun dx ndx hne => ?_⟩⟩⟩⟩
  rw [upd_ne hne] at ndx
  have ad : a ≠ dx := fun z => hne z.symm
  refine ⟨rfl, dx, [(g, u), (f, v)], ?_, upd_same, ndx, q2 dx _ ⟨ndx, ?_, fun b o e => ?_⟩⟩
  · rw [upd_ne ad, upd_same]
  · rw [upd_same]
  · have nb : b ≠ dx := ne_of_none e ndx
    have na2 : b ≠ a := ne_of_none e na
    rw [upd_ne nb, del_ne na2, upd_ne nb, upd_ne na2, upd_ne nb, upd_ne na2]
    exact e
section
variable {X : Cx} {CX : CXT} {k n : Nat} {f C : Addr} {fd : FuncData} {ps ks : List Str} {sp : Sp} {E : L2.St → XK} {x : Str} {p pos : Pos} {e : Expr} {es : List Expr} {kws : List Keyword} {t tk : TA} {g : List Value → List Value → List Value} {gV : List V → List V → List V}
/-- C(e, .., k = v, ..), whose __init__ may raise -/
theorem pe_makeKS (M : Mk X.K C f) (F : FnOk X.prog X.w X.K X.mg X.base CX k f fd ps sp) (hr : Room (k + 1) X.A) (hg : Gl X x) (hm : X.mg x = some (.ref C)) (hb : KBn X.K fd ps (n + 1) ks g gV) (hx : ∀ σ, PassesAt CX X σ (E σ)) (ha : PA X (e :: es) t) (hkw : PK X kws tk)
    (hall : (backToKw pos (keywordEach kws X.env)).all (·.1.isSome) = true := by rfl) (hks : (backToKw pos (keywordEach kws X.env)).filterMap (·.1) = ks := by rfl) (hdb : (x == ("__debug__" : Str)) = false := by decide)
    (he : starEach (e :: es) X.env = (false, eval e X.env) :: starEach es X.env := by rfl) (hpl : ((backTo pos (starEach (e :: es) X.env)).any (·.1) || (backToKw pos (keywordEach kws X.env)).any (·.1.isNone)) = false := by rfl) :
    PE X (.Call (.Name x p) (e :: es) kws pos) (fun σ H Q => tMakeK C n ks.length sp gV (E σ) t tk σ H Q) := by
  refine ⟨fun pins s σ H Q I h => wpAny_Call_Name_kw (ld_glob I hg hm ?_ hdb)⟩
  refine PySem.W.callWith_KW (h₀ := X.base) I.ok.mod.kin M.kp hall (thn (ha.run pos pins s σ H _ I h) fun us s1 z => ?_) hpl he
  obtain ⟨vs, H1, I1, r, q⟩ := z
  refine thn (hkw.run pos pins s1 σ H1 _ I1 q) fun ws s2 z => ?_
  obtain ⟨zs, H2, I2, rz, l1, l2, q2⟩ := z
  refine ⟨I2.kIn, ?_⟩
  rw [hks]
  have sizes := q2 (s2.heap.objs.size + 1) s2.heap.objs.size (I2.hok.fresh (Nat.le_succ _)) (I2.hok.fresh (Nat.le_refl _)) (Nat.ne_of_lt (Nat.lt_succ_self _))
  have J := Inv.made (C := C) I2
  have me : Vals (V.ref (s2.heap.objs.size + 1) :: vs) (Value.ref (s2.heap.objs.size + 1) :: us) := .cons rfl r
  have len : (Value.ref (s2.heap.objs.size + 1) :: us).length = n + 1 := congrArg (· + 1) (r.length.symm.trans l1)
  have ran := F.run _ X.stack _ _ ⟨Value.ref (s2.heap.objs.size + 1) :: us, ks.zip ws⟩ (g (Value.ref (s2.heap.objs.size + 1) :: us) ws) _ _ (E σ) (hr.make C us (ks.zip ws)) (J.env0.make C us (ks.zip ws))
    (hb.to _ (Value.ref (s2.heap.objs.size + 1) :: us) ws J.kIn len (rz.length.symm.trans l2)) (hb.rel me rz) sizes
  refine wpAny_call (make_map (f := f) I2.kIn M.makes M.init (beq_iff_eq.mp M.fn) (codeAny_mono ran fun res s' out => ?_))
  match res, out with
  | .error er, out => exact hx σ pins _ _ er s' J out
  | .ok .next, out => exact out.elim
  | .ok .brk, out => exact out.elim
  | .ok .cont, out => exact out.elim
  | .ok (.ret u), out =>
    obtain ⟨v, H', J', rv, ev, q3⟩ := J.after out
    subst ev
    exact ⟨rv, ⟨V.ref (s2.heap.objs.size + 1), H', J', rfl, q3⟩⟩
end
end Cw
/-! anything but a list != (), a tuple == () -/
namespace Cw
open PySem PySem.Spec PySem.Calls PyProof.Rows L2
section
variable {A : Around} {s : Shared}
theorem tuple_ne_dict (l b : Addr) (items : Array Value) (n : Nat) (dd : Option Addr) (sl : Array (Option Value)) (o : Obj) : Meets (Builtin.«tuple.__ne__» ⟨[.ref l, .ref b], []⟩) (fun _ R s => s.heap.get? l = some { cls := .type "tuple", dict := dd, data := .seq items n, slots := sl } ∧ s.heap.get? b = some o ∧ o.cls = .type "dict" ∧ R (.ok (.ret .notImplemented)) s) :=
  .of_wp fun prog w A R s h => by
    obtain ⟨hp, g, d, tk, os⟩ := s
    obtain ⟨hl, hb, hc, h⟩ := h
    obtain ⟨cls, d2, data, s2⟩ := o
    cases hc
    have f1 := PySem.F.sub_dict_tuple
    wp_walk using wpAny_loadPart' hl, wpAny_loadPart' hb, wpAny_load hb
    exact ⟨_, rfl, h⟩
theorem dict_ne_tuple (l b : Addr) (items : Array Value) (n : Nat) (dd : Option Addr) (sl : Array (Option Value)) (o : Obj) : Meets (Builtin.«dict.__ne__» ⟨[.ref b, .ref l], []⟩) (fun _ R s => s.heap.get? l = some { cls := .type "tuple", dict := dd, data := .seq items n, slots := sl } ∧ s.heap.get? b = some o ∧ o.cls = .type "dict" ∧ (∃ es ep, o.data = .dict es ep) ∧ R (.ok (.ret .notImplemented)) s) :=
  .of_wp fun prog w A R s h => by
    obtain ⟨hp, g, d, tk, os⟩ := s
    obtain ⟨hl, hb, hc, ⟨es, ep, hd⟩, h⟩ := h
    obtain ⟨cls, d2, data, s2⟩ := o
    cases hc
    cases hd
    have f1 := PySem.F.sub_tuple_dict
    wp_walk using wpAny_loadPart' hl, wpAny_loadPart' hb, wpAny_load hb, wpAny_load hl
    exact ⟨_, rfl, h⟩
theorem rcNe_dict_tuple {l b : Addr} {items : Array Value} {o : Obj} (hl : s.heap.IsTuple l items) (ho2 : s.heap.get? b = some o) (hc2 : o.cls = .type "dict") (hd2 : ∃ es ep, o.data = .dict es ep) (hu : A.units < cLine) : SeqAt.RcNeAt A s (.ref b) (.ref l) true := fun prog w E Q h => by
  obtain ⟨⟨cls, dd, data, sl⟩, ho, hc, n, hd⟩ := id hl
  simp only at hc hd
  subst hc hd
  have hne : b ≠ l := fun z => by
    rw [z, ho] at ho2
    rw [← Option.some.inj ho2] at hc2
    exact absurd hc2 (by simp)
  exact (SeqAt.rc_ne_decline_or (k := false) ⟨_, ho2, hc2⟩ ⟨_, ho, rfl⟩ (by decide) PySem.F.sub_tuple_dict PySem.F.slot_dict_ne PySem.F.slot_tuple_ne_refl
    (fun _ hq => call_meets PySem.F.slot_dict_ne ⟨_, ho2, hc2⟩ PySem.F.entry_dict_ne (PySem.F.args_dict_ne_2 _ _) (dict_ne_tuple l b items n dd sl o) ⟨ho, ho2, hc2, hd2, hq⟩)
    (fun _ hq => call_meets PySem.F.slot_tuple_ne_refl ⟨_, ho, rfl⟩ PySem.F.entry_tuple_ne (PySem.F.args_tuple_ne_2 _ _) (tuple_ne_dict l b items n dd sl o) ⟨ho, ho2, hc2, hq⟩)
    (fun _ hq => wpAny_isSame_ref_other hne ho2 ho (by rw [hc2]; decide) hq) (.inr hu) h)
end
def isNilT : PyData → Bool | .tuple [] => true | _ => false
/-- is it other than the empty tuple -/
def rNeNilT (K : PySem.W.Frag) : R2 := fun x y H Q => ∃ (d : PyData) (q : Addr), y = .ref q ∧ SqT K H q [] ∧ Dx H x d ∧ Q (.bl (!isNilT d)) H
section
variable {X : Cx}
theorem op_neNilT (hu : X.A.units + 1 < cLine) : OpR X (compareOp .NotEq) (rNeNilT X.K) := by
  intro pins s σ H x y v u Q I rx ry h
  obtain ⟨d, q, rfl, hq, hd, k⟩ := h
  cases ry
  obtain ⟨jts, r2, l2, _⟩ := I.tuple hq
  cases r2
  have room : X.A.units < cLine := by omega
  have fin : ∀ {b : Bool}, SeqAt.RcNeAt X.A s v (.ref q) b → b = (!isNilT d) → wpAny (model X.prog X.w) X.A (compareOp .NotEq v (.ref q)) (EP X pins σ Q) X.xe s := fun {b} hb e => hb X.prog X.w _ _ ⟨.bl _, H, I, congrArg Value.bool e, k⟩
  cases hd with
  | non => cases rx; exact fin (SeqAt.RcNeAt.none_tuple l2 room) rfl
  | bl b => cases rx; exact fin (SeqAt.RcNeAt.bool_tuple b l2 room) rfl
  | int i => obtain ⟨t, rfl⟩ := rx; exact fin (SeqAt.RcNeAt.int_tuple i t l2 room) rfl
  | str z => obtain ⟨t, rfl⟩ := rx; exact fin (SeqAt.RcNeAt.str_tuple z t l2 room) rfl
  | lst e ra =>
    cases rx
    obtain ⟨_, its, n, rv, ho⟩ := I.hok _ _ e
    exact fin (SeqAt.RcNeAt.list_tuple (items := its.toArray) ⟨_, ho, rfl, n, rfl⟩ l2 room) rfl
  | @tup a xs ds e ra n =>
    cases rx
    obtain ⟨_, its, rv, o, ho, hc, n', hd⟩ := I.hok _ _ e
    refine fin (SeqAt.RcNeAt.tuples (items := its.toArray) (e := fun _ => true) ⟨_, ho, hc, n', hd⟩ l2 room (fun j _ h2 => absurd h2 (by simp))) ?_
    cases ds with
    | nil => cases n
    | cons a b => 
      cases ra
      cases rv
      simp [isNilT]
  | @tupy a xs ds e ra n =>
    cases rx
    have gen : ∀ its, Vals xs its → s.heap.IsTuple a its.toArray → wpAny (model X.prog X.w) X.A (compareOp .NotEq (.ref a) (.ref q)) (EP X pins σ Q) X.xe s := fun its rv hi => by
      refine fin (SeqAt.RcNeAt.tuples (items := its.toArray) (e := fun _ => true) hi l2 room (fun j _ h2 => absurd h2 (by simp))) ?_
      cases ds with
      | nil => cases ra; cases rv; rfl
      | cons a b =>
        cases ra
        cases rv
        simp [isNilT]
    rcases e with e | ⟨o, dn, e⟩
    · obtain ⟨_, its, rv, o, ho, hc, n', hd⟩ := I.hok _ _ e
      exact gen its rv ⟨_, ho, hc, n', hd⟩
    · obtain ⟨_, _, its, rv, o, ho, hc, n', hd⟩ := I.hok _ _ e
      exact gen its rv ⟨_, ho, hc, n', hd⟩
  | emp e =>
    cases rx
    obtain ⟨_, ns, vs, kv, o, es, ep, ho, hx, hd, hn⟩ := I.hok _ _ e
    exact fin (rcNe_dict_tuple l2 ho hx.1 ⟨_, _, hd⟩ room) rfl
/-- a tuple, is it empty -/
def rEqNilT (K : PySem.W.Frag) : R2 := fun x y H Q => ∃ (p q : Addr) (xs : List V), x = .ref p ∧ y = .ref q ∧ SqT K H p xs ∧ SqT K H q [] ∧ Q (.bl xs.isEmpty) H
theorem op_eqNilT (hu : X.A.units + 1 < cLine) : OpR X (compareOp .Eq) (rEqNilT X.K) := by
  intro pins s σ H x y v u Q I rx ry h
  obtain ⟨p, q, xs, rfl, rfl, hp, hq, k⟩ := h
  cases rx
  cases ry
  obtain ⟨its, r1, l1, _⟩ := I.tuple hp
  obtain ⟨jts, r2, l2, _⟩ := I.tuple hq
  cases r2
  have room : X.A.units < cLine := by omega
  refine SeqAt.RcAt.tuples (items := its.toArray) (e := fun _ => true) l1 l2 room (fun j _ h2 => absurd h2 (by simp)) X.prog X.w _ _ ⟨.bl _, H, I, congrArg Value.bool ?_, k⟩
  cases xs with
  | nil => cases r1; rfl
  | cons a r => cases r1; simp
end
end Cw
namespace Cw
open PySem PySem.Spec PyProof.Rows L2
def top (i : Nat) : Stmt := PySem.Challenge.pw_crywalks_k12_whole_refused_in_order.main.body.getD i (.Pass ⟨0, 0, 0, 0⟩)
abbrev S__wall : Stmt := top 0
abbrev N__wall : List Str := ["k"]
abbrev P__wall : List Str := ["k"]
theorem sc__wall : FnScope N__wall P__wall (defScope S__wall) := ⟨rfl, rfl, rfl, by decide +kernel, rfl, by decide +kernel, by decide +kernel⟩
abbrev S_NoWeb_init : Stmt := inClass (top 3) 0
abbrev N_NoWeb_init : List Str := ["self", "what", "who"]
abbrev P_NoWeb_init : List Str := ["self", "what", "who"]
theorem sc_NoWeb_init : FnScope N_NoWeb_init P_NoWeb_init (defScope S_NoWeb_init) := ⟨rfl, rfl, rfl, by decide +kernel, rfl, by decide +kernel, by decide +kernel⟩
abbrev S_NoText_init : Stmt := inClass (top 4) 0
abbrev N_NoText_init : List Str := ["self", "row"]
abbrev P_NoText_init : List Str := ["self", "row"]
theorem sc_NoText_init : FnScope N_NoText_init P_NoText_init (defScope S_NoText_init) := ⟨rfl, rfl, rfl, by decide +kernel, rfl, by decide +kernel, by decide +kernel⟩
abbrev S_NoSuch_init : Stmt := inClass (top 5) 0
abbrev N_NoSuch_init : List Str := ["self", "who"]
abbrev P_NoSuch_init : List Str := ["self", "who"]
theorem sc_NoSuch_init : FnScope N_NoSuch_init P_NoSuch_init (defScope S_NoSuch_init) := ⟨rfl, rfl, rfl, by decide +kernel, rfl, by decide +kernel, by decide +kernel⟩
abbrev S_is_whole : Stmt := top 12
abbrev N_is_whole : List Str := ["thing"]
abbrev P_is_whole : List Str := ["thing"]
theorem sc_is_whole : FnScope N_is_whole P_is_whole (defScope S_is_whole) := ⟨rfl, rfl, rfl, by decide +kernel, rfl, by decide +kernel, by decide +kernel⟩
abbrev S_is_name : Stmt := top 13
abbrev N_is_name : List Str := ["thing", "letter"]
abbrev P_is_name : List Str := ["thing"]
theorem sc_is_name : FnScope N_is_name P_is_name (defScope S_is_name) := ⟨rfl, rfl, rfl, by decide +kernel, rfl, by decide +kernel, by decide +kernel⟩
abbrev S_is_state : Stmt := top 14
abbrev N_is_state : List Str := ["thing"]
abbrev P_is_state : List Str := ["thing"]
theorem sc_is_state : FnScope N_is_state P_is_state (defScope S_is_state) := ⟨rfl, rfl, rfl, by decide +kernel, rfl, by decide +kernel, by decide +kernel⟩
abbrev S_is_length : Stmt := top 15
abbrev N_is_length : List Str := ["thing", "rounds"]
abbrev P_is_length : List Str := ["thing", "rounds"]
theorem sc_is_length : FnScope N_is_length P_is_length (defScope S_is_length) := ⟨rfl, rfl, rfl, by decide +kernel, rfl, by decide +kernel, by decide +kernel⟩
abbrev S_is_tuple_of : Stmt := top 16
abbrev N_is_tuple_of : List Str := ["thing", "many"]
abbrev P_is_tuple_of : List Str := ["thing", "many"]
theorem sc_is_tuple_of : FnScope N_is_tuple_of P_is_tuple_of (defScope S_is_tuple_of) := ⟨rfl, rfl, rfl, by decide +kernel, rfl, by decide +kernel, by decide +kernel⟩
abbrev S_are_ends : Stmt := top 17
abbrev N_are_ends : List Str := ["one", "other", "states"]
abbrev P_are_ends : List Str := ["one", "other", "states"]
theorem sc_are_ends : FnScope N_are_ends P_are_ends (defScope S_are_ends) := ⟨rfl, rfl, rfl, by decide +kernel, rfl, by decide +kernel, by decide +kernel⟩
abbrev S_are_hearers : Stmt := top 18
abbrev N_are_hearers : List Str := ["thing", "length", "ahead", "hearer", "place", "state"]
abbrev P_are_hearers : List Str := ["thing", "length"]
theorem sc_are_hearers : FnScope N_are_hearers P_are_hearers (defScope S_are_hearers) := ⟨rfl, rfl, rfl, by decide +kernel, rfl, by decide +kernel, by decide +kernel⟩
abbrev S_checked_persons : Stmt := top 19
abbrev N_checked_persons : List Str := ["persons", "states", "number", "person", "name", "state"]
abbrev P_checked_persons : List Str := ["persons"]
theorem sc_checked_persons : FnScope N_checked_persons P_checked_persons (defScope S_checked_persons) := ⟨rfl, rfl, rfl, by decide +kernel, rfl, by decide +kernel, by decide +kernel⟩
abbrev S_checked_ties : Stmt := top 20
abbrev N_checked_ties : List Str := ["ties", "states", "rounds", "laid", "number", "tie", "name", "one", "other", "length", "hearers", "row", "place", "state"]
abbrev P_checked_ties : List Str := ["ties", "states", "rounds"]
theorem sc_checked_ties : FnScope N_checked_ties P_checked_ties (defScope S_checked_ties) := ⟨rfl, rfl, rfl, by decide +kernel, rfl, by decide +kernel, by decide +kernel⟩
abbrev S_Web_init : Stmt := inClass (top 21) 0
abbrev N_Web_init : List Str := ["self", "persons", "ties", "rounds"]
abbrev P_Web_init : List Str := ["self", "persons", "ties", "rounds"]
theorem sc_Web_init : FnScope N_Web_init P_Web_init (defScope S_Web_init) := ⟨rfl, rfl, rfl, by decide +kernel, rfl, by decide +kernel, by decide +kernel⟩
abbrev S_Web_rounds : Stmt := inClass (top 21) 1
abbrev N_Web_rounds : List Str := ["self"]
abbrev P_Web_rounds : List Str := ["self"]
theorem sc_Web_rounds : FnScope N_Web_rounds P_Web_rounds (defScope S_Web_rounds) := ⟨rfl, rfl, rfl, by decide +kernel, rfl, by decide +kernel, by decide +kernel⟩
abbrev S_Web_persons : Stmt := inClass (top 21) 2
abbrev N_Web_persons : List Str := ["self"]
abbrev P_Web_persons : List Str := ["self"]
theorem sc_Web_persons : FnScope N_Web_persons P_Web_persons (defScope S_Web_persons) := ⟨rfl, rfl, rfl, by decide +kernel, rfl, by decide +kernel, by decide +kernel⟩
abbrev S_Web_ties : Stmt := inClass (top 21) 3
abbrev N_Web_ties : List Str := ["self"]
abbrev P_Web_ties : List Str := ["self"]
theorem sc_Web_ties : FnScope N_Web_ties P_Web_ties (defScope S_Web_ties) := ⟨rfl, rfl, rfl, by decide +kernel, rfl, by decide +kernel, by decide +kernel⟩
abbrev S_Web_has_person : Stmt := inClass (top 21) 4
abbrev N_Web_has_person : List Str := ["self", "thing"]
abbrev P_Web_has_person : List Str := ["self", "thing"]
theorem sc_Web_has_person : FnScope N_Web_has_person P_Web_has_person (defScope S_Web_has_person) := ⟨rfl, rfl, rfl, by decide +kernel, rfl, by decide +kernel, by decide +kernel⟩
abbrev S_Web_has_tie : Stmt := inClass (top 21) 5
abbrev N_Web_has_tie : List Str := ["self", "thing"]
abbrev P_Web_has_tie : List Str := ["self", "thing"]
theorem sc_Web_has_tie : FnScope N_Web_has_tie P_Web_has_tie (defScope S_Web_has_tie) := ⟨rfl, rfl, rfl, by decide +kernel, rfl, by decide +kernel, by decide +kernel⟩
abbrev S_Web_has_hearer : Stmt := inClass (top 21) 6
abbrev N_Web_has_hearer : List Str := ["self", "thing", "tie", "place"]
abbrev P_Web_has_hearer : List Str := ["self", "thing"]
theorem sc_Web_has_hearer : FnScope N_Web_has_hearer P_Web_has_hearer (defScope S_Web_has_hearer) := ⟨rfl, rfl, rfl, by decide +kernel, rfl, by decide +kernel, by decide +kernel⟩
abbrev S_Web_has_spot : Stmt := inClass (top 21) 7
abbrev N_Web_has_spot : List Str := ["self", "thing"]
abbrev P_Web_has_spot : List Str := ["self", "thing"]
theorem sc_Web_has_spot : FnScope N_Web_has_spot P_Web_has_spot (defScope S_Web_has_spot) := ⟨rfl, rfl, rfl, by decide +kernel, rfl, by decide +kernel, by decide +kernel⟩
abbrev S_Web_state : Stmt := inClass (top 21) 8
abbrev N_Web_state : List Str := ["self", "spot", "tie", "place", "told", "state"]
abbrev P_Web_state : List Str := ["self", "spot"]
theorem sc_Web_state : FnScope N_Web_state P_Web_state (defScope S_Web_state) := ⟨rfl, rfl, rfl, by decide +kernel, rfl, by decide +kernel, by decide +kernel⟩
abbrev S_Web_tie_row : Stmt := inClass (top 21) 9
abbrev N_Web_tie_row : List Str := ["self", "tie"]
abbrev P_Web_tie_row : List Str := ["self", "tie"]
theorem sc_Web_tie_row : FnScope N_Web_tie_row P_Web_tie_row (defScope S_Web_tie_row) := ⟨rfl, rfl, rfl, by decide +kernel, rfl, by decide +kernel, by decide +kernel⟩
abbrev S_Web_ends : Stmt := inClass (top 21) 10
abbrev N_Web_ends : List Str := ["self", "tie", "row"]
abbrev P_Web_ends : List Str := ["self", "tie"]
theorem sc_Web_ends : FnScope N_Web_ends P_Web_ends (defScope S_Web_ends) := ⟨rfl, rfl, rfl, by decide +kernel, rfl, by decide +kernel, by decide +kernel⟩
abbrev S_Web_length : Stmt := inClass (top 21) 11
abbrev N_Web_length : List Str := ["self", "tie"]
abbrev P_Web_length : List Str := ["self", "tie"]
theorem sc_Web_length : FnScope N_Web_length P_Web_length (defScope S_Web_length) := ⟨rfl, rfl, rfl, by decide +kernel, rfl, by decide +kernel, by decide +kernel⟩
abbrev S_Web_hearers : Stmt := inClass (top 21) 12
abbrev N_Web_hearers : List Str := ["self", "tie"]
abbrev P_Web_hearers : List Str := ["self", "tie"]
theorem sc_Web_hearers : FnScope N_Web_hearers P_Web_hearers (defScope S_Web_hearers) := ⟨rfl, rfl, rfl, by decide +kernel, rfl, by decide +kernel, by decide +kernel⟩
abbrev S_Web_beside : Stmt := inClass (top 21) 13
abbrev N_Web_beside : List Str := ["self", "person"]
abbrev P_Web_beside : List Str := ["self", "person"]
theorem sc_Web_beside : FnScope N_Web_beside P_Web_beside (defScope S_Web_beside) := ⟨rfl, rfl, rfl, by decide +kernel, rfl, by decide +kernel, by decide +kernel⟩
abbrev S_Web_parts : Stmt := inClass (top 21) 14
abbrev N_Web_parts : List Str := ["self"]
abbrev P_Web_parts : List Str := ["self"]
theorem sc_Web_parts : FnScope N_Web_parts P_Web_parts (defScope S_Web_parts) := ⟨rfl, rfl, rfl, by decide +kernel, rfl, by decide +kernel, by decide +kernel⟩
abbrev S_Web_part : Stmt := inClass (top 21) 15
abbrev N_Web_part : List Str := ["self", "person"]
abbrev P_Web_part : List Str := ["self", "person"]
theorem sc_Web_part : FnScope N_Web_part P_Web_part (defScope S_Web_part) := ⟨rfl, rfl, rfl, by decide +kernel, rfl, by decide +kernel, by decide +kernel⟩
abbrev S_Web_eq : Stmt := inClass (top 21) 16
abbrev N_Web_eq : List Str := ["self", "other"]
abbrev P_Web_eq : List Str := ["self", "other"]
theorem sc_Web_eq : FnScope N_Web_eq P_Web_eq (defScope S_Web_eq) := ⟨rfl, rfl, rfl, by decide +kernel, rfl, by decide +kernel, by decide +kernel⟩
abbrev S_Web_len : Stmt := inClass (top 21) 17
abbrev N_Web_len : List Str := ["self"]
abbrev P_Web_len : List Str := ["self"]
theorem sc_Web_len : FnScope N_Web_len P_Web_len (defScope S_Web_len) := ⟨rfl, rfl, rfl, by decide +kernel, rfl, by decide +kernel, by decide +kernel⟩
abbrev S_Web_repr : Stmt := inClass (top 21) 18
abbrev N_Web_repr : List Str := ["self"]
abbrev P_Web_repr : List Str := ["self"]
theorem sc_Web_repr : FnScope N_Web_repr P_Web_repr (defScope S_Web_repr) := ⟨rfl, rfl, rfl, by decide +kernel, rfl, by decide +kernel, by decide +kernel⟩
abbrev S_pot : Stmt := top 23
abbrev N_pot : List Str := ["_law_script", "_law_k", "_law_cell"]
abbrev P_pot : List Str := ["_law_script", "_law_k"]
theorem sc_pot : FnScope N_pot P_pot (defScope S_pot) := ⟨rfl, rfl, rfl, by decide +kernel, rfl, by decide +kernel, by decide +kernel⟩
abbrev S_take : Stmt := top 24
abbrev N_take : List Str := ["_law_pot_here", "_law_many", "_law_digit"]
abbrev P_take : List Str := ["_law_pot_here", "_law_many"]
theorem sc_take : FnScope N_take P_take (defScope S_take) := ⟨rfl, rfl, rfl, by decide +kernel, rfl, by decide +kernel, by decide +kernel⟩
abbrev S_among : Stmt := top 25
abbrev N_among : List Str := ["_law_pot_here", "_law_some"]
abbrev P_among : List Str := ["_law_pot_here", "_law_some"]
theorem sc_among : FnScope N_among P_among (defScope S_among) := ⟨rfl, rfl, rfl, by decide +kernel, rfl, by decide +kernel, by decide +kernel⟩
abbrev S_name : Stmt := top 26
abbrev N_name : List Str := ["_law_pot_here", "_law_taken", "_law_letters", "_law_name_here", "_law_k", "_law_one", "_law_letter"]
abbrev P_name : List Str := ["_law_pot_here", "_law_taken"]
theorem sc_name : FnScope N_name P_name (defScope S_name) := ⟨rfl, rfl, rfl, by decide +kernel, rfl, by decide +kernel, by decide +kernel⟩
abbrev S_length : Stmt := top 27
abbrev N_length : List Str := ["_law_pot_here", "_law_way", "_law_far", "_law_some"]
abbrev P_length : List Str := ["_law_pot_here", "_law_way"]
theorem sc_length : FnScope N_length P_length (defScope S_length) := ⟨rfl, rfl, rfl, by decide +kernel, rfl, by decide +kernel, by decide +kernel⟩
abbrev S_hearers : Stmt := top 28
abbrev N_hearers : List Str := ["_law_pot_here", "_law_length_here", "_law_many", "_law_found", "_law_way", "_law_k", "_law_place", "_law_onward"]
abbrev P_hearers : List Str := ["_law_pot_here", "_law_length_here", "_law_many"]
theorem sc_hearers : FnScope N_hearers P_hearers (defScope S_hearers) := ⟨rfl, rfl, rfl, by decide +kernel, rfl, by decide +kernel, by decide +kernel⟩
abbrev S_persons : Stmt := top 29
abbrev N_persons : List Str := ["_law_pot_here", "_law_many", "_law_names", "_law_k", "_law_name_here"]
abbrev P_persons : List Str := ["_law_pot_here", "_law_many"]
theorem sc_persons : FnScope N_persons P_persons (defScope S_persons) := ⟨rfl, rfl, rfl, by decide +kernel, rfl, by decide +kernel, by decide +kernel⟩
abbrev S_tie : Stmt := top 30
abbrev N_tie : List Str := ["_law_pot_here", "_law_persons_here", "_law_taken", "_law_way", "_law_left", "_law_one", "_law_other", "_law_length_here"]
abbrev P_tie : List Str := ["_law_pot_here", "_law_persons_here", "_law_taken", "_law_way", "_law_left"]
theorem sc_tie : FnScope N_tie P_tie (defScope S_tie) := ⟨rfl, rfl, rfl, by decide +kernel, rfl, by decide +kernel, by decide +kernel⟩
abbrev S_web : Stmt := top 31
abbrev N_web : List Str := ["_law_pot_here", "_law_most_persons", "_law_most_ties", "_law_way", "_law_told_here", "_law_persons_here", "_law_ties", "_law_left", "_law_k", "_law_taken", "_law_name_here", "_law_state", "_law_tie_here"]
abbrev P_web : List Str := ["_law_pot_here", "_law_most_persons", "_law_most_ties", "_law_way", "_law_told_here"]
theorem sc_web : FnScope N_web P_web (defScope S_web) := ⟨rfl, rfl, rfl, by decide +kernel, rfl, by decide +kernel, by decide +kernel⟩
abbrev S_rounds : Stmt := top 32
abbrev N_rounds : List Str := ["_law_pot_here", "_law_most_persons", "_law_most_ties", "_law_persons_here", "_law_ties", "_law_name_here", "_law_one", "_law_other", "_law_length_here", "_law_hearers_here"]
abbrev P_rounds : List Str := ["_law_pot_here", "_law_most_persons", "_law_most_ties"]
theorem sc_rounds : FnScope N_rounds P_rounds (defScope S_rounds) := ⟨rfl, rfl, rfl, by decide +kernel, rfl, by decide +kernel, by decide +kernel⟩
abbrev S_l_is_whole : Stmt := top 33
abbrev N_l_is_whole : List Str := ["_law_thing", "_law_low", "_law_high"]
abbrev P_l_is_whole : List Str := ["_law_thing", "_law_low", "_law_high"]
theorem sc_l_is_whole : FnScope N_l_is_whole P_l_is_whole (defScope S_l_is_whole) := ⟨rfl, rfl, rfl, by decide +kernel, rfl, by decide +kernel, by decide +kernel⟩
abbrev S_l_is_name : Stmt := top 34
abbrev N_l_is_name : List Str := ["_law_thing", "_law_sign"]
abbrev P_l_is_name : List Str := ["_law_thing"]
theorem sc_l_is_name : FnScope N_l_is_name P_l_is_name (defScope S_l_is_name) := ⟨rfl, rfl, rfl, by decide +kernel, rfl, by decide +kernel, by decide +kernel⟩
abbrev S_person_due : Stmt := top 35
abbrev N_person_due : List Str := ["_law_number", "_law_thing", "_law_names"]
abbrev P_person_due : List Str := ["_law_number", "_law_thing", "_law_names"]
theorem sc_person_due : FnScope N_person_due P_person_due (defScope S_person_due) := ⟨rfl, rfl, rfl, by decide +kernel, rfl, by decide +kernel, by decide +kernel⟩
abbrev S_l_are_hearers : Stmt := top 36
abbrev N_l_are_hearers : List Str := ["_law_thing", "_law_length_here", "_law_is_rounds", "_law_ahead", "_law_pair"]
abbrev P_l_are_hearers : List Str := ["_law_thing", "_law_length_here", "_law_is_rounds"]
theorem sc_l_are_hearers : FnScope N_l_are_hearers P_l_are_hearers (defScope S_l_are_hearers) := ⟨rfl, rfl, rfl, by decide +kernel, rfl, by decide +kernel, by decide +kernel⟩
abbrev S_tie_due : Stmt := top 37
abbrev N_tie_due : List Str := ["_law_number", "_law_thing", "_law_names", "_law_taken", "_law_is_rounds", "_law_low", "_law_high", "_law_end"]
abbrev P_tie_due : List Str := ["_law_number", "_law_thing", "_law_names", "_law_taken", "_law_is_rounds"]
theorem sc_tie_due : FnScope N_tie_due P_tie_due (defScope S_tie_due) := ⟨rfl, rfl, rfl, by decide +kernel, rfl, by decide +kernel, by decide +kernel⟩
abbrev S_due : Stmt := top 38
abbrev N_due : List Str := ["_law_persons_here", "_law_ties", "_law_is_rounds", "_law_names", "_law_number", "_law_thing", "_law_due_here", "_law_taken", "_law_tie_here"]
abbrev P_due : List Str := ["_law_persons_here", "_law_ties", "_law_is_rounds"]
theorem sc_due : FnScope N_due P_due (defScope S_due) := ⟨rfl, rfl, rfl, by decide +kernel, rfl, by decide +kernel, by decide +kernel⟩
abbrev S_odd : Stmt := top 39
abbrev N_odd : List Str := ["_law_pot_here", "_law_some"]
abbrev P_odd : List Str := ["_law_pot_here"]
theorem sc_odd : FnScope N_odd P_odd (defScope S_odd) := ⟨rfl, rfl, rfl, by decide +kernel, rfl, by decide +kernel, by decide +kernel⟩
abbrev S_part_put : Stmt := top 40
abbrev N_part_put : List Str := ["_law_pot_here", "_law_thing", "_law_way", "_law_at"]
abbrev P_part_put : List Str := ["_law_pot_here", "_law_thing"]
theorem sc_part_put : FnScope N_part_put P_part_put (defScope S_part_put) := ⟨rfl, rfl, rfl, by decide +kernel, rfl, by decide +kernel, by decide +kernel⟩
abbrev S_name_put : Stmt := top 41
abbrev N_name_put : List Str := ["_law_pot_here", "_law_spec", "_law_thing", "_law_names", "_law_row"]
abbrev P_name_put : List Str := ["_law_pot_here", "_law_spec", "_law_thing"]
theorem sc_name_put : FnScope N_name_put P_name_put (defScope S_name_put) := ⟨rfl, rfl, rfl, by decide +kernel, rfl, by decide +kernel, by decide +kernel⟩
abbrev S_ends_put : Stmt := top 42
abbrev N_ends_put : List Str := ["_law_pot_here", "_law_spec", "_law_thing", "_law_names", "_law_at", "_law_row"]
abbrev P_ends_put : List Str := ["_law_pot_here", "_law_spec", "_law_thing"]
theorem sc_ends_put : FnScope N_ends_put P_ends_put (defScope S_ends_put) := ⟨rfl, rfl, rfl, by decide +kernel, rfl, by decide +kernel, by decide +kernel⟩
abbrev S_hearers_put : Stmt := top 43
abbrev N_hearers_put : List Str := ["_law_pot_here", "_law_thing", "_law_far", "_law_some"]
abbrev P_hearers_put : List Str := ["_law_pot_here", "_law_thing"]
theorem sc_hearers_put : FnScope N_hearers_put P_hearers_put (defScope S_hearers_put) := ⟨rfl, rfl, rfl, by decide +kernel, rfl, by decide +kernel, by decide +kernel⟩
abbrev S_many_put : Stmt := top 44
abbrev N_many_put : List Str := ["_law_pot_here", "_law_spec", "_law_found", "_law_way", "_law_persons_here", "_law_ties", "_law_first", "_law_second", "_law_far", "_law_told_here", "_law_letter", "_law_place"]
abbrev P_many_put : List Str := ["_law_pot_here", "_law_spec", "_law_found", "_law_way"]
theorem sc_many_put : FnScope N_many_put P_many_put (defScope S_many_put) := ⟨rfl, rfl, rfl, by decide +kernel, rfl, by decide +kernel, by decide +kernel⟩
abbrev S_spoilt : Stmt := top 45
abbrev N_spoilt : List Str := ["_law_pot_here", "_law_spec", "_law_found", "_law_persons_here", "_law_ties", "_law_way", "_law_at", "_law_rows", "_law_spot"]
abbrev P_spoilt : List Str := ["_law_pot_here", "_law_spec", "_law_found"]
theorem sc_spoilt : FnScope N_spoilt P_spoilt (defScope S_spoilt) := ⟨rfl, rfl, rfl, by decide +kernel, rfl, by decide +kernel, by decide +kernel⟩
abbrev S_told : Stmt := top 46
abbrev N_told : List Str := ["_law_persons_here", "_law_ties", "_law_is_rounds", "_law_told_here", "_law_web_here", "e", "_law_is_so"]
abbrev P_told : List Str := ["_law_persons_here", "_law_ties", "_law_is_rounds"]
theorem sc_told : FnScope N_told P_told (defScope S_told) := ⟨rfl, rfl, rfl, by decide +kernel, rfl, by decide +kernel, by decide +kernel⟩
abbrev S_law : Stmt := top 47
abbrev N_law : List Str := ["_law_script", "_law_k", "_law_pot_here", "_law_is_rounds", "_law_spec", "_law_found", "_law_turn", "_law_persons_here", "_law_ties", "_law_kept", "_law_due_here", "_law_row"]
abbrev P_law : List Str := ["_law_script"]
theorem sc_law : FnScope N_law P_law (defScope S_law) := ⟨rfl, rfl, rfl, by decide +kernel, rfl, by decide +kernel, by decide +kernel⟩

end Cw
namespace Cw
open PySem PySem.Spec PyProof.Rows L2
section
variable {P : Program} {w : World} {K : PySem.W.Frag} {mg : Str → Option Value} {base : Heap}
def spPot (K : PySem.W.Frag) : Sp := fun vs H Q _ => ∃ (a : Addr) (ns : List Int) (k : Int), vs = [.ref a, .int k] ∧ SqL K H a (ns.map V.int) ∧ 0 ≤ k ∧ k ≤ 1000 ∧
  ∀ p H', Same H H' → H p = none → Pot H' p → Q (.ref p) H'
theorem ok_pot {f : Addr} {fd : FuncData} (F : FnP K "_law_pot" "_law_pot" S_pot f fd) (ml : mg "len" = none) (ma : mg "abs" = none) (mm : mg "max" = none) :
    FnOk P w K mg base CX0 1 f fd P_pot (spPot K) := by
  refine F.ok sc_pot (fun vs H Q E h => ?_) (fun cdv A outer s H vs Q E hr h => ⟨_, PSs.nox (pss_cons (ps_set (i := 2) sc_pot.nd rfl (.inl rfl) pe_int)
    (C8.pss_cut (ps_if (pt_cmpR op_lt (pv 1) (pe_callB call_len_seq (by rfl) ml PySem.boot_len (pa_cons (pv 0) pa_nil)) (nomark _))
      (pss_one (ps_set (i := 2) sc_pot.nd rfl (.inl rfl) (pe_callB call_abs (by rfl) ma (by decide +kernel) (pa_cons (pe_ix ix_list (pv 0) (pv 1) (fun _ _ => rfl)) pa_nil)))) pss_nil)
    (pss_one (ps_ret (pe_lst (pa_cons (pe_callB (call_max2 rfl) (by rfl) mm (by decide +kernel) (pa_cons pe_int (pa_cons (pe_op op_sub (pv 2) (pe_op op_pow pe_int pe_int)) pa_nil)))
      (pa_cons (pe_op op_add (pe_op op_mod (pe_op op_pow (pe_op op_add (pe_op op_add (pe_op op_mod (pv 2) pe_int) (pe_op op_mul pe_int (pv 1))) pe_int) pe_int) pe_int) pe_int) pa_nil))))))), ?_⟩)
  · obtain ⟨a, ns, k, rfl, _⟩ := h
    rfl
  · obtain ⟨a, ns, k, rfl, hS, k0, k1, q⟩ := h
    refine ⟨fun σ H' => ∃ c : Int, σ = [some (.ref a), some (.int k), some (.int c)] ∧ H' = H ∧ 0 ≤ c, ⟨_, rfl, _, rfl, a, _, rfl, .inl hS, _, _, rfl, rfl, _, rfl, ite2 (fun h => ?_) (fun h => ?_)⟩, ?_⟩
    · have hk : k.toNat < ns.length := by
        have h2 := of_decide_eq_true h
        rw [List.length_map] at h2
        omega
      have g : atI (ns.map V.int) k = some (.int ns[k.toNat]) := atI_int k0 (by rw [List.getElem?_map, List.getElem?_eq_getElem hk]; rfl)
      exact ⟨_, rfl, _, rfl, a, _, k, _, rfl, rfl, hS, g, _, rfl, _, rfl, rfl, by split <;> omega⟩
    · exact ⟨0, rfl, rfl, by omega⟩
    · rintro σ H' ⟨c, rfl, rfl, hc⟩
      refine ⟨_, rfl, _, _, rfl, rfl, ⟨by decide, by decide, by decide⟩, _, _, rfl, rfl, _, _, rfl, _, rfl, _, _, rfl, rfl, (by decide : (0 : Int) < 2147483543), _, rfl, _, _, rfl, rfl, .inl ⟨by decide, by decide⟩, _, _, rfl, rfl, _, _, rfl, rfl, ?_⟩
      have b1 := Int.emod_nonneg c (by decide : (2147483543 : Int) ≠ 0)
      have b2 := Int.emod_lt_of_pos c (by decide : (0 : Int) < 2147483543)
      refine ⟨_, _, rfl, rfl, ⟨by decide, by decide, ?_⟩, _, _, rfl, rfl, (by decide : (0 : Int) < 2147483497), _, _, rfl, rfl, by show 2 ≤ sizeLine; decide, fun p hp => ?_⟩
      · show (c % 2147483543 + 101 * k + 5).natAbs < 2 ^ 64
        omega
      · refine q p _ (same_new hp) hp ⟨_, _, upd_same, ?_, ?_, ?_⟩
        · show 0 ≤ if c - 10 ^ Int.toNat 18 > 0 then c - 10 ^ Int.toNat 18 else 0
          split <;> omega
        · have := Int.emod_nonneg ((c % 2147483543 + 101 * k + 5) ^ Int.toNat 2) (by decide : (2147483497 : Int) ≠ 0)
          show 0 ≤ (c % 2147483543 + 101 * k + 5) ^ Int.toNat 2 % 2147483497 + 1
          omega
        · have := Int.emod_lt_of_pos ((c % 2147483543 + 101 * k + 5) ^ Int.toNat 2) (by decide : (0 : Int) < 2147483497)
          show (c % 2147483543 + 101 * k + 5) ^ Int.toNat 2 % 2147483497 + 1 ≤ 2147483587
          omega
def spTake : Sp := fun vs H Q _ => ∃ (p : Addr) (m : Int), vs = [.ref p, .int m] ∧ Pot H p ∧ 0 < m ∧ m.natAbs.log2 < 9000 ∧
  ∀ (d : Int) (H' : Hp), 0 ≤ d → d < m → Drew p H H' → Q (.int d) H'
theorem ok_take {f : Addr} {fd : FuncData} (F : FnP K "_law_take" "_law_take" S_take f fd) (md : mg "divmod" = none) :
    FnOk P w K mg base CX0 1 f fd P_take spTake := by
  refine F.ok sc_take (fun vs H Q E h => ?_) (fun cdv A outer s H vs Q E hr h => ⟨_, PSs.nox (pss_cons (ps_if (pt_cmpR op_gt (pe_ix ix_list (pv 0) pe_int (fun _ _ => rfl)) pe_int (nomark _))
      (pss_cons (ps_asg (pe_callB call_divmodL (by rfl) md (by decide +kernel) (pa_cons (pe_ix ix_list (pv 0) pe_int (fun _ _ => rfl)) (pa_cons (pv 1) pa_nil)))
          (pg_tup (by rfl) (pgs_cons (pg_sub (pv 0) pe_int set_list) (pgs_cons (pg_name (i := 2) sc_take.nd rfl (.inl rfl)) pgs_nil))))
        (pss_one (ps_ret (pv 2)))) pss_nil)
    (pss_cons (ps_asg (pe_op op_mod (pe_op op_add (pe_op op_mul (pe_ix ix_list (pv 0) pe_int (fun _ _ => rfl)) pe_int) pe_int) pe_int) (pg_sub (pv 0) pe_int set_list))
    (pss_one (ps_ret (pe_op op_mod (pe_op op_fdiv (pe_op op_mod (pe_op op_mul (pe_ix ix_list (pv 0) pe_int (fun _ _ => rfl)) (pe_ix ix_list (pv 0) pe_int (fun _ _ => rfl))) pe_int) pe_int) (pv 1)))))), ?_⟩)
  · obtain ⟨p, m, rfl, _⟩ := h
    rfl
  · obtain ⟨p, m, rfl, ⟨m0, m1, hp, h0, h1, h2⟩, hm, hm9, q⟩ := h
    refine ⟨_, rfl, p, _, 0, _, rfl, rfl, SqL.of hp, atI_int (by decide) rfl, _, _, rfl, rfl, _, rfl, ite2 (fun h => ?_) (fun h => ?_)⟩
    · refine ⟨_, rfl, p, _, 0, _, rfl, rfl, SqL.of hp, atI_int (by decide) rfl, _, rfl, _, _, rfl, ⟨hm, hm9⟩, fun t nt => ?_⟩
      have npt : p ≠ t := ne_of_none hp nt
      have hp1 : (upd H t (HO.tup [V.int (m0 / m), V.int (m0 % m)])) p = some (.lst [.int m0, .int m1]) := by rw [upd_ne npt]; exact hp
      refine ⟨t, _, rfl, SqT.of upd_same, rfl, _, _, rfl, _, rfl, p, _, 0, 0, rfl, rfl, hp1, rfl, _, _, rfl, rfl, _, rfl, ?_⟩
      refine q _ _ (Int.emod_nonneg _ (by omega)) (Int.emod_lt_of_pos _ hm) ⟨fun b o n e => ?_, ⟨_, _, upd_same, Int.ediv_nonneg h0 (by omega), h1, h2⟩⟩
      rw [upd_ne n, upd_ne (ne_of_none e nt)]
      exact e
    · refine ⟨_, rfl, p, _, 1, _, rfl, rfl, SqL.of hp, atI_int (by decide) rfl, _, _, rfl, rfl, .inl ⟨by show -(2 ^ 64) < m1; omega, by show m1 < 2 ^ 64; omega⟩, _, _, rfl, rfl, _, _, rfl, rfl, (by decide : (0 : Int) < 2147483587), ?_⟩
      have c0 := Int.emod_nonneg (m1 * 44029 + 10133) (by decide : (2147483587 : Int) ≠ 0)
      have c1 := Int.emod_lt_of_pos (m1 * 44029 + 10133) (by decide : (0 : Int) < 2147483587)
      refine ⟨_, rfl, p, _, 1, 1, rfl, rfl, hp, rfl, ?_⟩
      refine ⟨_, rfl, p, _, 1, _, rfl, rfl, SqL.of upd_same, atI_int (by decide) rfl, _, rfl, p, _, 1, _, rfl, rfl, SqL.of upd_same, atI_int (by decide) rfl, _, _, rfl, rfl, .inl ⟨by show -(2 ^ 64) < (m1 * 44029 + 10133) % 2147483587; omega, by show (m1 * 44029 + 10133) % 2147483587 < 2 ^ 64; omega⟩, _, _, rfl, rfl, (by decide : (0 : Int) < 2147483549), _, _, rfl, rfl, ⟨by decide, by decide⟩, _, rfl, _, _, rfl, rfl, hm, ?_⟩
      exact q _ _ (Int.emod_nonneg _ (by omega)) (Int.emod_lt_of_pos _ hm) ⟨but_upd, ⟨_, _, upd_same, h0, c0, by omega⟩⟩
end
end Cw
namespace Cw
open PySem PySem.Spec PyProof.Rows L2
/-- a name: one to eight small letters -/
def IsName (z : Str) : Prop := 1 ≤ z.length ∧ z.length ≤ 8 ∧ ∀ c ∈ TL.tl z, 97 ≤ c ∧ c ≤ 122
theorem tl_len (z : Str) : (TL.tl z).length = z.length := by first | rfl | exact Array.length_toList
abbrev letters : Str := Str.ofString "abcdefghijklmnopqrstuvwxyz"
theorem keepD {p D : Addr} {H H1 H2 : Hp} (k : But p H H1) (nD : H1 D = none) (sm : Same H1 (Off D H2)) : True := trivial
/-- signs drawn one by one -/
theorem signs_end {x3 x4 x5 x6 : Option V} {p l : Addr} {H H1 : Hp} {n : Nat} {D : Addr} {Qd : Hp → Prop} (dr : Drew p H H1) (nD : H1 D = none) (hn : n ≤ 8)
    (q : ∀ (cs : List Nat) (H2 : Hp), cs.length = n → (∀ c ∈ cs, 97 ≤ c ∧ c ≤ 122) → H2 D = some (.lst ((cs.map sign).map V.str)) → Drew p H H2 → Qd H2) :
    LcD (Itr 0 n) (gName 4) tYes (tOp rIxS (tVar 2) (tCall spTake [] E0 (tCons (tVar 0) (tCons (tC (.int 26)) tNil)))) [4] [some (.ref p), some (.ref l), some (.str letters), x3, x4, x5, x6] H1 D Qd := by
  have nDp : D ≠ p := (dr.2.ne nD).symm
  refine lc_range (lo := 0) (n := n) (fun i H2 => ∃ cs : List Nat, H2 D = some (.lst ((cs.map sign).map V.str)) ∧ cs.length = i ∧ (∀ c ∈ cs, 97 ≤ c ∧ c ≤ 122) ∧ Drew p H H2) ?_ ?_ ?_
  · exact ⟨[], upd_same, rfl, (fun c h => by cases h), fun b o n e => same_new nD _ _ (dr.1 b o n e), dr.2.same (same_new nD)⟩
  · rintro i H2 hi ⟨cs, hD, hl, hc, dr2⟩
    refine ⟨rfl, ?_⟩
    dsimp only [tYes]
    rw [if_pos rfl]
    refine ⟨_, rfl, _, rfl, p, _, rfl, dr2.2, by decide, log_small (n := 26) (by decide) (by decide) (by decide), fun x H3 x0 x1 dr3 => ?_⟩
    have hx : x.toNat < 26 := by omega
    refine ⟨_, x, 97 + x.toNat, rfl, rfl, by decide, letter_at x0 hx, ?_⟩
    have hD3 : H3 D = some (.lst ((cs.map sign).map V.str)) := dr3.1 _ _ nDp hD
    refine ⟨_, hD3, by rw [List.length_map, List.length_map, hl]; exact small1000 (by omega), cs ++ [97 + x.toNat], ?_, ?_, ?_, ?_⟩
    · rw [upd_same, List.map_append, List.map_append]
      rfl
    · rw [List.length_append, hl]
      rfl
    · intro c h
      rcases List.mem_append.mp h with h | h
      · exact hc c h
      · rw [List.mem_singleton.mp h]
        omega
    · refine ⟨fun b o n e => ?_, ?_⟩
      · have hb : b ≠ D := fun z => by
          subst z
          have := dr.1 _ _ n e
          rw [nD] at this
          cases this
        rw [upd_ne hb]
        exact dr3.1 b o n (dr2.1 b o n e)
      · obtain ⟨u0, u1, e, r⟩ := dr3.2
        exact ⟨u0, u1, by rw [upd_ne nDp.symm]; exact e, r⟩
  · rintro H2 ⟨cs, hD, hl, hc, dr2⟩
    exact q cs H2 hl hc hD dr2
theorem join_small (cs : List Nat) (h : cs.length ≤ 1000) : (((cs.map sign).map fun x : Str => x.length).sum + (cs.map sign).length * (Str.ofString "").length) ≤ 16777216 := by
  rw [List.map_map, List.length_map]
  have e : ((fun x : Str => x.length) ∘ sign) = fun _ => 1 := rfl
  rw [e, sum_ones]
  show cs.length + cs.length * 0 ≤ 16777216
  omega
theorem word_name {cs : List Nat} (h : ∀ c ∈ cs, 97 ≤ c ∧ c ≤ 122) (h1 : 1 ≤ cs.length) (h2 : cs.length ≤ 8) : IsName (Txt.join (Str.ofString "") (cs.map sign)) := by
  have e := tl_word cs
  have e2 := congrArg List.length e
  rw [tl_len] at e2
  exact ⟨by omega, by omega, by rw [e]; exact h⟩
/-- the names that are taken where all else is -/
def cand (i : Nat) : Str := ⟨#[97 + i, 113]⟩
theorem cand_name (i : Nat) (h : i < 26) : IsName (cand i) := by
  refine ⟨by show 1 ≤ 2; decide, by show 2 ≤ 8; decide, fun c hc => ?_⟩
  have hc2 : c ∈ [97 + i, 113] := hc
  simp only [List.mem_cons, List.not_mem_nil, or_false] at hc2
  omega
theorem cand_inj {i j : Nat} (h : cand i = cand j) : i = j := by
  have e := congrArg TL.tl h
  have e2 : [97 + i, 113] = [97 + j, 113] := e
  simp only [List.cons.injEq] at e2
  omega
theorem cand_free {ys : List Str} (h : ys.length ≤ 24) : ((List.range 26).map cand).filter (fun z => decide (z ∉ ys)) ≠ [] := by
  intro e
  have sub : (List.range 26).map cand ⊆ ys := by
    intro z hz
    by_cases hy : z ∈ ys
    · exact hy
    · have : z ∈ ((List.range 26).map cand).filter (fun z => decide (z ∉ ys)) := List.mem_filter.mpr ⟨hz, decide_eq_true hy⟩
      rw [e] at this
      cases this
  have nd : ((List.range 26).map cand).Nodup := by
    exact List.Pairwise.map cand (fun a b h e => h (cand_inj e)) List.nodup_range
  have := nd.length_le_of_subset sub
  rw [List.length_map, List.length_range] at this
  omega
theorem op_notIn_seqK {X : Cx} {K : PySem.W.Frag} (h : X.K = K) : OpR X (compareOp .NotIn) (rIn K true) := by
  subst h
  exact op_notIn_seq
theorem strOk_name {z : Str} (h : IsName z) : PyData.strOk z = true := by
  unfold PyData.strOk
  rw [Array.all_eq_true']
  intro c hc
  have := h.2.2 c (by show c ∈ z.cps.toList; exact Array.mem_toList_iff.mpr hc)
  exact decide_eq_true (by omega)
theorem can_names : ∀ {ys : List Str}, (∀ y ∈ ys, IsName y) → PyData.canLayAll0 (ys.map PyData.str) = true
  | [], _ => by simp [PyData.canLayAll0]
  | y :: r, h => by
    rw [List.map_cons]
    simp only [PyData.canLayAll0, Bool.and_eq_true]
    exact ⟨by simp only [PyData.canLay0]; exact strOk_name (h y List.mem_cons_self), can_names fun z hz => h z (List.mem_cons_of_mem _ hz)⟩
theorem deep_names : ∀ ys : List Str, PyData.depthAll (ys.map PyData.str) = 0
  | [] => by simp [PyData.depthAll]
  | y :: r => by
    rw [List.map_cons]
    simp only [PyData.depthAll, deep_names r]
    simp [PyData.depth]
theorem shaped_names {ys : List Str} (h : ∀ y ∈ ys, IsName y) : SeqAt.shaped (.list (ys.map PyData.str)) = true := by
  unfold SeqAt.shaped
  have e : (PyData.list (ys.map PyData.str)).canLay0 = true := by
    simp only [PyData.canLay0]
    exact can_names h
  rw [e, Bool.true_and]
  refine decide_eq_true ?_
  simp only [PyData.depth, deep_names]
  omega
theorem dp_strs {K : PySem.W.Frag} {H : Hp} {l : Addr} {ys : List Str} (h : H l = some (.lst (ys.map V.str))) : Dp K H (.ref l) (.list (ys.map PyData.str)) := by
  refine .lst (SqL.of h) ?_
  clear h
  induction ys with
  | nil => exact .nil
  | cons n r ih => exact .cons (.str n) ih
theorem eqv_empty (ys : List Str) : PyData.eqv (.list (ys.map PyData.str)) (.list []) = ys.isEmpty := by
  cases ys with
  | nil => simp [PyData.eqv, PyData.eqvAll]
  | cons y r => simp [PyData.eqv, PyData.eqvAll]
theorem inV_strs (z : Str) (ys : List Str) : inV (.str z) (ys.map V.str) = decide (z ∈ ys) := by
  unfold inV
  induction ys with
  | nil => simp
  | cons y r ih =>
    rw [List.map_cons, List.any_cons, ih]
    show (y == z || decide (z ∈ r)) = decide (z ∈ y :: r)
    by_cases e : y = z
    · subst e
      simp
    · have e1 : (y == z) = false := beq_eq_false_iff_ne.mpr e
      have e2 : ¬ z = y := fun w => e w.symm
      rw [e1, Bool.false_or]
      simp [e2]
theorem flat_strs (ys : List Str) : (ys.map V.str).all flatV = true := by
  rw [List.all_map]
  exact List.all_eq_true.mpr fun _ _ => rfl
theorem tl_cut8 (z : Str) : TL.tl (cutS z none (some 8)) = (TL.tl z).take 8 := by
  unfold cutS
  show (List.take (HT.sIx z.length z.length (some ((8 : Nat) : Int)) - HT.sIx z.length 0 none) (List.drop (HT.sIx z.length 0 none) z.cps.toList)) = _
  rw [HT.sIx_nat, HT.sIx_none, List.drop_zero, Nat.sub_zero]
  show List.take (min 8 z.length) (TL.tl z) = List.take 8 (TL.tl z)
  by_cases h : 8 ≤ z.length
  · rw [Nat.min_eq_left h]
  · have h1 : z.length ≤ 8 := by omega
    rw [Nat.min_eq_right h1, List.take_of_length_le (by rw [tl_len]; exact Nat.le_refl _), List.take_of_length_le (by rw [tl_len]; exact h1)]
theorem cut_name {y z : Str} (hy : IsName y) (hz : IsName z) : IsName (cutS (y ++ z) none (some 8)) := by
  have e := tl_cut8 (y ++ z)
  rw [TL.tl_append] at e
  have l := congrArg List.length e
  rw [tl_len, List.length_take, List.length_append, tl_len, tl_len] at l
  refine ⟨?_, by omega, ?_⟩
  · have := hy.1
    omega
  · rw [e]
    intro c hc
    rcases List.mem_append.mp (List.mem_of_mem_take hc) with h | h
    · exact hy.2.2 c h
    · exact hz.2.2 c h
section
variable {P : Program} {w : World} {K : PySem.W.Frag} {mg : Str → Option Value} {base : Heap}
def spName : Sp := fun vs H Q _ => ∃ (p l : Addr) (ys : List Str), vs = [.ref p, .ref l] ∧ Pot H p ∧ l ≠ p ∧ H l = some (.lst (ys.map V.str)) ∧ (∀ y ∈ ys, IsName y) ∧ ys.length ≤ 24 ∧
  ∀ (z : Str) (H' : Hp), IsName z → z ∉ ys → Drew p H H' → Q (.str z) H'
abbrev TakeOk (P : Program) (w : World) (K : PySem.W.Frag) (mg : Str → Option Value) (base : Heap) : Prop := ∃ (fT : Addr) (fdT : FuncData), FnP K "_law_take" "_law_take" S_take fT fdT ∧ Binds K fdT P_take [] ∧ FnOk P w K mg base CX0 1 fT fdT P_take spTake ∧ mg "_law_take" = some (.ref fT)
theorem ok_name {f : Addr} {fd : FuncData} (F : FnP K "_law_name" "_law_name" S_name f fd) (TK : TakeOk P w K mg base) (mr : mg "range" = none) :
    FnOk P w K mg base CX0 2 f fd P_name spName := by
  obtain ⟨fT, fdT, FT, bT, GT, gT⟩ := TK
  refine F.ok sc_name (fun vs H Q E h => ?_) (fun cdv A outer s H vs Q E hr h => ⟨_, PSs.nox (pss_cons (ps_set (i := 2) sc_name.nd rfl (.inr rfl) pe_str)
    (pss_cons (ps_set (i := 3) sc_name.nd rfl (.inl rfl) (pe_join pe_str (pe_lc (own := [("_law_k", 4)]) (g := gName 4) rfl sc_name.nd
        (pi_range1 rfl mr (pa_cons (pe_ix ix_list (pe_lst (pa_cons pe_int (pa_cons pe_int (pa_cons pe_int (pa_cons pe_int pa_nil))))) (pe_call GT hr rfl gT FT.kp bT .nil pass0 (pa_cons (pv 0) (pa_cons pe_int pa_nil))) (fun _ _ => rfl)) pa_nil))
        (blkOk_by (own := [("_law_k", 4)]) (N := N_name) (sc := defScope S_name) (by decide +kernel)) (fun _ _ _ _ _ => pg_name (i := 4) sc_name.nd rfl (Or.inl rfl)) (fun _ _ _ _ _ => pts_nil)
        (fun _ _ _ _ _ => pe_ix ix_str (pv 2) (pe_call GT hr rfl gT FT.kp bT .nil pass0 (pa_cons (pv 0) (pa_cons pe_int pa_nil))) (fun _ _ => rfl)))))
    (C8.pss_cut (ps_if (PW.pt (pw_and (pt_cmpR (op_neD hr.units) (pv 1) (pe_lst pa_nil) (nomark _)) (pw_and1 (pt_cmpR op_eq (pe_call GT hr rfl gT FT.kp bT .nil pass0 (pa_cons (pv 0) (pa_cons pe_int pa_nil))) pe_int (nomark _)))))
        (pss_one (ps_set (i := 3) sc_name.nd rfl (.inl rfl) (pe_slice sl_str (pe_op op_add_str (pe_ix ix_list (pv 1) (pe_un un_neg pe_int) (fun _ _ => rfl)) (pv 3)) po_none (po_some pe_int)))) pss_nil)
    (C8.pss_cut (ps_if (pt_cmpR op_in_seq (pv 3) (pv 1) (by rfl))
        (pss_one (ps_set (i := 3) sc_name.nd rfl (.inl rfl) (pe_ix ix_list (pe_lc (own := [("_law_one", 5)]) (g := gName 5) rfl sc_name.nd (pi_list (pe_lc (own := [("_law_letter", 6)]) (g := gName 6) rfl sc_name.nd (pi_str (pv 2))
            (blkOk_by (own := [("_law_letter", 6)]) (N := N_name) (sc := defScope S_name) (by decide +kernel)) (fun _ _ _ _ _ => pg_name (i := 6) sc_name.nd rfl (Or.inl rfl)) (fun _ _ _ _ _ => pts_nil) (fun _ _ _ _ _ => pe_op op_add_str (pv 6) pe_str)))
          (blkOk_by (own := [("_law_one", 5)]) (N := N_name) (sc := defScope S_name) (by decide +kernel)) (fun _ _ _ _ _ => pg_name (i := 5) sc_name.nd rfl (Or.inl rfl))
          (fun _ _ _ _ _ => pts_one (pt_cmpR (op_notIn_seqK (K := K) rfl) (pv 5) (pv 1) (by rfl))) (fun _ _ _ _ _ => pv 5)) pe_int (fun _ _ => rfl)))) pss_nil)
    (pss_one (ps_ret (pv 3))))))), ?_⟩)
  · obtain ⟨p, l, ys, rfl, _⟩ := h
    rfl
  · obtain ⟨p, l, ys, rfl, hP, nlp, hl, hN, hlen, q⟩ := h
    refine ⟨⟨_, rfl⟩, by show 4 ≤ sizeLine; decide, fun m nm => ?_⟩
    obtain ⟨s0, m0⟩ := fresh2 (o := .lst [.int 1, .int 2, .int 3, .int 8]) nm
    have P0 := hP.same s0
    refine ⟨_, rfl, p, _, rfl, P0, by decide, log_small (n := 4) (by decide) (by decide) (by decide), fun d H1 d0 d1 dr => ?_⟩
    have nmp : m ≠ p := (hP.ne nm).symm
    have hm1 := dr.1 _ _ nmp m0
    obtain ⟨j, hj, j1, j2⟩ : ∃ j : Int, ([.int 1, .int 2, .int 3, .int 8] : List V)[d.toNat]? = some (.int j) ∧ 1 ≤ j ∧ j ≤ 8 := by
      have h4 : d.toNat < 4 := by omega
      match d.toNat, h4 with
      | 0, _ => exact ⟨1, rfl, by decide, by decide⟩
      | 1, _ => exact ⟨2, rfl, by decide, by decide⟩
      | 2, _ => exact ⟨3, rfl, by decide, by decide⟩
      | 3, _ => exact ⟨8, rfl, by decide, by decide⟩
    refine ⟨m, _, d, _, rfl, rfl, SqL.of hm1, atI_int d0 hj, _, rfl, by omega, by omega, fun D nD => ?_⟩
    have dr0 : Drew p H H1 := ⟨(Same.but s0).trans dr.1, dr.2⟩
    refine signs_end (l := l) dr0 nD (by omega) fun cs H2 lcs hcs hD dr2 => ?_
    refine ⟨_, D, cs.map sign, rfl, rfl, .inl (SqL.of hD), join_small cs (by omega), ?_⟩
    have nz := word_name hcs (by omega) (by omega)
    generalize Txt.join (Str.ofString "") (cs.map sign) = z0 at nz
    refine ⟨fun σ H' => ∃ z, σ = [some (.ref p), some (.ref l), some (.str letters), some (.str z), none, none, none] ∧ IsName z ∧ Drew p H H', ?_, ?_⟩
    · refine ⟨_, rfl, by show 0 ≤ sizeLine; omega, fun e ne => ?_⟩
      obtain ⟨s3, m3⟩ := fresh2 (o := .lst []) ne
      have hl2 := dr2.1 _ _ nlp hl
      have dr3 : Drew p H (upd H2 e (.lst [])) := ⟨dr2.1.trans (Same.but s3), dr2.2.same s3⟩
      refine ⟨_, _, dp_strs (s3 _ _ hl2), dp_strs (ys := []) m3, shaped_names hN, shaped_names (ys := []) (fun _ h => by cases h), ?_⟩
      rw [show (([] : List Str).map PyData.str) = [] from rfl, eqv_empty]
      refine ⟨_, rfl, ?_⟩
      cases ys with
      | nil => exact iteF ⟨z0, rfl, nz, dr3⟩
      | cons y r =>
        refine iteT ?_
        refine ⟨_, rfl, p, _, rfl, dr3.2, by decide, log_small (n := 4) (by decide) (by decide) (by decide), fun x H4 x0 x1 dr4 => ?_⟩
        refine ⟨rfl, _, rfl, ite2 (fun _ => ?_) (fun _ => ?_)⟩
        · have hl4 : H4 l = some (.lst ((y :: r).map V.str)) := dr4.1 _ _ nlp (s3 _ _ hl2)
          have hz : (y :: r).map V.str = (y :: r).dropLast.map V.str ++ [.str ((y :: r).getLast (List.cons_ne_nil _ _))] := by
            rw [← List.map_singleton, ← List.map_append, List.dropLast_concat_getLast]
          have ny : IsName ((y :: r).getLast (List.cons_ne_nil _ _)) := hN _ (List.getLast_mem _)
          refine ⟨_, rfl, _, rfl, l, _, -1, _, rfl, rfl, SqL.of hl4, by rw [hz]; exact atI_last _ _, _, rfl, _, _, rfl, rfl, ?_, ?_⟩
          · have := ny.2.1
            have := nz.2.1
            rw [sizeLine_eq]
            omega
          · refine ⟨_, rfl, _, rfl, ?_, _, rfl, cut_name ny nz, dr3.trans dr4⟩
            rw [Str.length_append]
            have := ny.2.1
            have := nz.2.1
            rw [sizeLine_eq]
            omega
        · exact ⟨z0, rfl, nz, dr3.trans dr4⟩
    · -- the second if
      rintro σ H3 ⟨z, rfl, nz, dr3⟩
      have hl3 := dr3.1 _ _ nlp hl
      refine ⟨fun σ H' => ∃ z, σ = [some (.ref p), some (.ref l), some (.str letters), some (.str z), none, none, none] ∧ IsName z ∧ z ∉ ys ∧ Drew p H H', ?_, ?_⟩
      · refine ⟨_, rfl, _, rfl, l, _, rfl, .inl (SqL.of hl3), rfl, flat_strs ys, _, rfl, ?_⟩
        rw [if_neg Bool.false_ne_true, inV_strs]
        refine ite2 (fun hin => ?_) (fun hin => ⟨z, rfl, nz, fun w => hin (decide_eq_true w), dr3⟩)
        refine ⟨_, rfl, _, rfl, fun D1 n1 => ?_⟩
        refine lc_it (walk_str (z := letters)) (fun i H4 => Same H3 (Off D1 H4) ∧ H4 D1 = some (.lst (((List.range i).map cand).map V.str))) ⟨fun b o e => Off.at (ne_of_none e n1) (same_new n1 _ _ e), upd_same⟩ (fun _ _ _ _ => trivial) ?_ ?_
        · rintro i x H4 H5 hi ⟨sm, hD1⟩ ⟨rfl, c, hc, rfl⟩
          refine ⟨rfl, ?_⟩
          dsimp only [tYes]
          rw [if_pos rfl]
          have hi2 : i < 26 := hi
          have ec : c = 97 + i := by
            have key : ∀ n : Fin 26, letters.cps[n.val]? = some (97 + n.val) := by decide +kernel
            have := key ⟨i, hi2⟩
            rw [this] at hc
            exact (Option.some.inj hc).symm
          subst ec
          refine ⟨_, rfl, _, _, rfl, rfl, by show 1 + 1 ≤ sizeLine; decide, _, hD1, by rw [List.length_map, List.length_map, List.length_range]; exact small1000 (by omega), fun b o e => ?_, ?_⟩
          · have nb : b ≠ D1 := ne_of_none e n1
            exact Off.at nb (by rw [upd_ne nb]; exact Off.same _ _ (sm b o e))
          · rw [upd_same, List.range_succ, List.map_append, List.map_append]
            rfl
        · rintro H4 ⟨sm, hD1⟩
          have s34 : Same H3 H4 := fun b o e => Off.same _ _ (sm b o e)
          refine ⟨D1, rfl, ⟨_, SqL.of hD1⟩, fun D2 n2 => ?_⟩
          have nD12 : D1 ≠ D2 := ne_of_none hD1 n2
          refine lc_list (K := K) (a := D1) (xs := ((List.range 26).map cand).map V.str) (fun i H5 => Same H4 (Off D2 H5) ∧ H5 D2 = some (.lst (((((List.range 26).map cand).take i).filter (fun z => decide (z ∉ ys))).map V.str))) ⟨fun b o e => Off.at (ne_of_none e n2) (same_new n2 _ _ e), upd_same⟩ (fun i H5 _ hh => SqL.of (Off.same _ _ (hh.1 _ _ hD1))) ?_ ?_
          · rintro i x H5 hx ⟨sm5, hD2⟩
            have hi : i < ((List.range 26).map cand).length := by
              have := (List.getElem?_eq_some_iff.mp hx).1
              rw [List.length_map] at this
              exact this
            have ex : x = .str ((List.range 26).map cand)[i] := by
              rw [List.getElem?_map, List.getElem?_eq_getElem hi] at hx
              exact (Option.some.inj hx).symm
            subst ex
            have tk : ((List.range 26).map cand).take (i + 1) = ((List.range 26).map cand).take i ++ [((List.range 26).map cand)[i]] := by rw [List.take_add_one, List.getElem?_eq_getElem hi]; rfl
            have hl5 : H5 l = some (.lst (ys.map V.str)) := Off.same _ _ (sm5 _ _ (s34 _ _ hl3))
            refine ⟨rfl, _, rfl, _, rfl, l, _, rfl, .inl (SqL.of hl5), rfl, flat_strs ys, _, rfl, ?_⟩
            rw [if_pos rfl, inV_strs]
            by_cases hm : ((List.range 26).map cand)[i] ∈ ys
            · rw [decide_eq_true hm]
              refine iteF ⟨sm5, ?_⟩
              rw [hD2, tk, List.filter_append]
              have : [((List.range 26).map cand)[i]].filter (fun z => decide (z ∉ ys)) = [] := by
                rw [List.filter_cons, if_neg (by simpa using hm)]
                rfl
              rw [this, List.append_nil]
            · rw [decide_eq_false hm]
              refine iteT ⟨_, rfl, _, hD2, ?_, fun b o e => ?_, ?_⟩
              · rw [List.length_map]
                refine Nat.lt_of_le_of_lt (List.length_filter_le _ _) ?_
                rw [List.length_take]
                exact Nat.lt_of_le_of_lt (Nat.min_le_right _ _) (by rw [List.length_map, List.length_range]; exact small1000 (by omega))
              · have nb : b ≠ D2 := ne_of_none e n2
                exact Off.at nb (by rw [upd_ne nb]; exact Off.same _ _ (sm5 b o e))
              · rw [upd_same, tk, List.filter_append]
                have : [((List.range 26).map cand)[i]].filter (fun z => decide (z ∉ ys)) = [((List.range 26).map cand)[i]] := by
                  rw [List.filter_cons, if_pos (by simpa using hm)]
                  rfl
                rw [this, List.map_append]
                rfl
          · rintro H5 ⟨sm5, hD2⟩
            rw [List.length_map, List.take_length] at hD2
            have ne := cand_free hlen
            cases ef : ((List.range 26).map cand).filter (fun z => decide (z ∉ ys)) with
            | nil => exact absurd ef ne
            | cons z1 zr =>
              have hz1 : z1 ∈ ((List.range 26).map cand).filter (fun z => decide (z ∉ ys)) := by rw [ef]; exact List.mem_cons_self
              obtain ⟨h1, h2⟩ := List.mem_filter.mp hz1
              obtain ⟨k, hk, rfl⟩ := List.mem_map.mp h1
              rw [ef] at hD2
              have s35 : Same H3 H5 := s34.trans fun b o e => Off.same _ _ (sm5 b o e)
              exact ⟨D2, _, 0, _, rfl, rfl, SqL.of hD2, atI_int (by decide) rfl, _, rfl, cand_name k (List.mem_range.mp hk), of_decide_eq_true h2, dr3.1.trans (Same.but s35), dr3.2.same s35⟩
      · rintro σ H4 ⟨z, rfl, nz, nin, dr4⟩
        exact ⟨_, rfl, q z H4 nz nin dr4⟩
end
end Cw
namespace Cw
open PySem PySem.Spec PyProof.Rows L2
theorem log_long {m : Int} (h0 : 0 < m) (h : m ≤ 10 ^ 30) : m.natAbs.log2 < 9000 := by
  have h1 : m.natAbs < 2 ^ 200 := by omega
  exact Nat.lt_of_lt_of_le (PySem.Flt.log2_lt_of (by decide) h1) (by decide)
section
variable {P : Program} {w : World} {K : PySem.W.Frag} {mg : Str → Option Value} {base : Heap}
def spLen : Sp := fun vs H Q _ => ∃ (p : Addr) (y : Int), vs = [.ref p, .int y] ∧ Pot H p ∧ 0 ≤ y ∧ ∀ (L : Int) (H' : Hp), 2 ≤ L → L ≤ 10 ^ 30 → Drew p H H' → Q (.int L) H'
theorem ok_length {f : Addr} {fd : FuncData} (F : FnP K "_law_length" "_law_length" S_length f fd) (TK : TakeOk P w K mg base) : FnOk P w K mg base CX0 2 f fd P_length spLen := by
  obtain ⟨fT, fdT, FT, bT, GT, gT⟩ := TK
  refine F.ok sc_length (fun vs H Q E h => ?_) (fun cdv A outer s H vs Q E hr h => ⟨_, PSs.nox (pss_cons (ps_if (pt_cmpR op_lt (pv 1) pe_int (nomark _))
      (pss_one (ps_ret (pe_op op_add pe_int (pe_call GT hr rfl gT FT.kp bT .nil pass0 (pa_cons (pv 0) (pa_cons (pe_ix ix_list (pe_lst (pa_cons pe_int (pa_cons pe_int (pa_cons pe_int pa_nil)))) (pv 1) (fun _ _ => rfl)) pa_nil)))))) pss_nil)
    (pss_cons (ps_set (i := 2) sc_length.nd rfl (.inl rfl) (pe_op op_add pe_int (pe_call GT hr rfl gT FT.kp bT .nil pass0 (pa_cons (pv 0) (pa_cons (pe_op op_sub (pe_op op_pow pe_int pe_int) pe_int) pa_nil)))))
    (pss_cons (ps_set (i := 3) sc_length.nd rfl (.inl rfl) (pe_lst (pa_cons (pv 2) (pa_cons (pe_op op_sub (pe_op op_pow pe_int pe_int) (pe_call GT hr rfl gT FT.kp bT .nil pass0 (pa_cons (pv 0) (pa_cons pe_int pa_nil))))
        (pa_cons (pe_op op_add (pe_op op_mul pe_int (pe_op op_pow pe_int pe_int)) (pe_call GT hr rfl gT FT.kp bT .nil pass0 (pa_cons (pv 0) (pa_cons pe_int pa_nil)))) (pa_cons (pe_op op_add pe_int (pe_call GT hr rfl gT FT.kp bT .nil pass0 (pa_cons (pv 0) (pa_cons pe_int pa_nil)))) pa_nil))))))
    (pss_one (ps_ret (pe_ix ix_list (pv 3) (pe_call GT hr rfl gT FT.kp bT .nil pass0 (pa_cons (pv 0) (pa_cons pe_int pa_nil))) (fun _ _ => rfl))))))), ?_⟩)
  · obtain ⟨p, y, rfl, _⟩ := h
    rfl
  · obtain ⟨p, y, rfl, hP, y0, q⟩ := h
    refine ⟨_, rfl, _, _, rfl, rfl, _, rfl, ite2 (fun h => ?_) (fun h => ?_)⟩
    · have hy : y < 3 := of_decide_eq_true h
      refine ⟨_, rfl, by show 3 ≤ sizeLine; decide, fun m nm => ?_⟩
      obtain ⟨s0, m0⟩ := fresh2 (o := .lst [.int 4, .int 11, .int 39]) nm
      obtain ⟨j, hj, j1, j2⟩ : ∃ j : Int, ([.int 4, .int 11, .int 39] : List V)[y.toNat]? = some (.int j) ∧ 0 < j ∧ j ≤ 39 := by
        have h4 : y.toNat < 3 := by omega
        match y.toNat, h4 with
        | 0, _ => exact ⟨4, rfl, by decide, by decide⟩
        | 1, _ => exact ⟨11, rfl, by decide, by decide⟩
        | 2, _ => exact ⟨39, rfl, by decide, by decide⟩
      refine ⟨_, rfl, m, _, y, _, rfl, rfl, SqL.of m0, atI_int y0 hj, p, j, rfl, hP.same s0, j1, log_small (n := 39) j1 (by omega) (by decide), fun d H1 d0 d1 dr => ⟨_, _, rfl, rfl, ?_⟩⟩
      exact q _ _ (by omega) (by omega) ⟨(Same.but s0).trans dr.1, dr.2⟩
    · refine ⟨_, rfl, _, _, rfl, rfl, ⟨by decide, by decide, by decide⟩, _, _, rfl, rfl, p, 10 ^ 30 - 1, rfl, hP, by decide, by decide +kernel, fun d1 H1 a1 b1 dr1 => ⟨_, _, rfl, rfl, ?_⟩⟩
      refine ⟨_, rfl, _, _, rfl, rfl, ⟨by decide, by decide, by decide⟩, _, rfl, p, 3, rfl, dr1.2, by decide, by decide +kernel, fun d2 H2 a2 b2 dr2 => ⟨_, _, rfl, rfl, ?_⟩⟩
      refine ⟨_, _, rfl, rfl, ⟨by decide, by decide, by decide⟩, _, _, rfl, rfl, .inl ⟨by decide, by decide⟩, _, rfl, p, 3, rfl, dr2.2, by decide, by decide +kernel, fun d3 H3 a3 b3 dr3 => ⟨_, _, rfl, rfl, ?_⟩⟩
      refine ⟨_, rfl, p, 9, rfl, dr3.2, by decide, by decide +kernel, fun d4 H4 a4 b4 dr4 => ⟨_, _, rfl, rfl, ?_⟩⟩
      refine ⟨by show 4 ≤ sizeLine; decide, fun m nm => ?_⟩
      have drA := ((dr1.trans dr2).trans dr3).trans dr4
      obtain ⟨s0, m0⟩ := fresh2 (o := .lst [.int (2 + d1), .int (10 ^ 30 - d2), .int (5 * 10 ^ 29 + d3), .int (2 + d4)]) nm
      have P4 := drA.2.same s0
      refine ⟨_, rfl, _, rfl, p, 4, rfl, P4, by decide, by decide +kernel, fun d5 H5 a5 b5 dr5 => ?_⟩
      have nmp : m ≠ p := (drA.2.ne nm).symm
      have hm5 := dr5.1 _ _ nmp m0
      obtain ⟨j, hj, j1, j2⟩ : ∃ j : Int, ([.int (2 + d1), .int (10 ^ 30 - d2), .int (5 * 10 ^ 29 + d3), .int (2 + d4)] : List V)[d5.toNat]? = some (.int j) ∧ 2 ≤ j ∧ j ≤ 10 ^ 30 := by
        have h4 : d5.toNat < 4 := by omega
        match d5.toNat, h4 with
        | 0, _ => exact ⟨_, rfl, by omega, by omega⟩
        | 1, _ => exact ⟨_, rfl, by omega, by omega⟩
        | 2, _ => exact ⟨_, rfl, by omega, by omega⟩
        | 3, _ => exact ⟨_, rfl, by omega, by omega⟩
      exact ⟨m, _, d5, _, rfl, rfl, SqL.of hm5, atI_int a5 hj, q j H5 j1 j2 ⟨(drA.1.trans (Same.but s0)).trans dr5.1, dr5.2⟩⟩
end
end Cw
namespace Cw
open PySem PySem.Spec PyProof.Rows L2
/-- what may be found along a tie of length L: places between its ends, states 1 and 2 -/
structure Found (L : Int) (hs : List (Int × Int)) : Prop where
  nd : (hs.map (·.1)).Nodup
  at_ : ∀ h ∈ hs, 1 ≤ h.1 ∧ h.1 < L ∧ 1 ≤ h.2 ∧ h.2 ≤ 2
/-- the same, places rising -/
structure Hear (L : Int) (hs : List (Int × Int)) : Prop where
  up : hs.Pairwise (fun a b => a.1 < b.1)
  at_ : ∀ h ∈ hs, 1 ≤ h.1 ∧ h.1 < L ∧ 1 ≤ h.2 ∧ h.2 ≤ 2
theorem found_nil {L : Int} : Found L [] := ⟨List.nodup_nil, fun _ h => by cases h⟩
theorem put_found {L k v : Int} {hs : List (Int × Int)} (F : Found L hs) (k1 : 1 ≤ k) (k2 : k < L) (v1 : 1 ≤ v) (v2 : v ≤ 2) : ∃ hs', putK (enc hs) (Sum.inl k) (.int v) = enc hs' ∧ Found L hs' ∧ hs'.length ≤ hs.length + 1 := by
  unfold putK
  by_cases h : ((enc hs).any fun kv => decide (kv.1 = Sum.inl k)) = true
  · rw [if_pos h]
    refine ⟨hs.map fun x => if x.1 = k then (x.1, v) else x, ?_, ⟨?_, ?_⟩, by rw [List.length_map]; omega⟩
    · unfold enc
      rw [List.map_map, List.map_map]
      refine List.map_congr_left fun x _ => ?_
      show (if (Sum.inl x.1 : Key) = Sum.inl k then ((Sum.inl x.1 : Key), V.int v) else (Sum.inl x.1, V.int x.2)) = _
      by_cases e : x.1 = k
      · rw [if_pos (congrArg Sum.inl e)]
        show _ = ((Sum.inl (if x.1 = k then (x.1, v) else x).1 : Key), V.int (if x.1 = k then (x.1, v) else x).2)
        rw [if_pos e]
      · rw [if_neg fun z => e (Sum.inl.inj z)]
        show _ = ((Sum.inl (if x.1 = k then (x.1, v) else x).1 : Key), V.int (if x.1 = k then (x.1, v) else x).2)
        rw [if_neg e]
    · have e : (hs.map fun x => if x.1 = k then (x.1, v) else x).map (·.1) = hs.map (·.1) := by
        rw [List.map_map]
        refine List.map_congr_left fun x _ => ?_
        show (if x.1 = k then (x.1, v) else x).1 = x.1
        split <;> rfl
      rw [e]
      exact F.nd
    · intro x hx
      obtain ⟨y, hy, rfl⟩ := List.mem_map.mp hx
      have := F.at_ y hy
      split
      · exact ⟨this.1, this.2.1, v1, v2⟩
      · exact this
  · rw [if_neg h]
    have nk : k ∉ hs.map (·.1) := fun z => h (by
      obtain ⟨y, hy, e⟩ := List.mem_map.mp z
      refine List.any_eq_true.mpr ⟨(Sum.inl y.1, V.int y.2), List.mem_map.mpr ⟨y, hy, rfl⟩, ?_⟩
      exact decide_eq_true (congrArg Sum.inl e))
    refine ⟨hs ++ [(k, v)], ?_, ⟨?_, ?_⟩, by rw [List.length_append]; exact Nat.le_refl _⟩
    · unfold enc
      rw [List.map_append]
      rfl
    · rw [List.map_append]
      exact nd_snoc F.nd nk
    · intro x hx
      rcases List.mem_append.mp hx with hx | hx
      · exact F.at_ x hx
      · rw [List.mem_singleton.mp hx]
        exact ⟨k1, k2, v1, v2⟩
theorem hear_of {L : Int} {hs hs' : List (Int × Int)} (F : Found L hs) (p : hs'.Perm hs) (u : hs'.Pairwise (fun a b => a.1 < b.1)) : Hear L hs' := ⟨u, fun h hh => F.at_ h (p.mem_iff.mp hh)⟩
theorem paired_imp {α β : Type} {F G : α → β → Prop} : ∀ {xs : List α} {ys : List β}, Paired F xs ys → (∀ x y, x ∈ xs → F x y → G x y) → Paired G xs ys
  | _, _, .nil, _ => .nil
  | _, _, .cons h r, k => .cons (k _ _ List.mem_cons_self h) (paired_imp r fun x y hx => k x y (List.mem_cons_of_mem _ hx))
/-- hearers as data -/
def dHear (h : Int × Int) : PyData := .tuple [.int h.1, .int h.2]
def dHs (hs : List (Int × Int)) : PyData := .tuple (hs.map dHear)
theorem all_hears : ∀ hs : List (Int × Int), allTup (hs.map dHear) = true
  | [] => rfl
  | _ :: r => all_hears r
theorem dx_hears {H : Hp} : ∀ {ts : List Addr} {hs : List (Int × Int)}, Paired (fun (t : Addr) (h : Int × Int) => H t = some (.tup [.int h.1, .int h.2])) ts hs → DxAll H (ts.map V.ref) (hs.map dHear)
  | _, _, .nil => .nil
  | _, _, .cons h r => .cons (.tup h (.cons (.int _) (.cons (.int _) .nil))) (dx_hears r)
section
variable {P : Program} {w : World} {K : PySem.W.Frag} {mg : Str → Option Value} {base : Heap}
def spHear : Sp := fun vs H Q _ => ∃ (p : Addr) (L n : Int), vs = [.ref p, .int L, .int n] ∧ Pot H p ∧ 2 ≤ L ∧ L ≤ 10 ^ 30 ∧ 0 ≤ n ∧ n ≤ 12 ∧
  ∀ (v : V) (hs : List (Int × Int)) (H' : Hp), Dx (Off p H') v (dHs hs) → Hear L hs → (hs.length : Int) ≤ n → Drew p H H' → Q v H'
theorem ok_hearers {f : Addr} {fd : FuncData} (F : FnP K "_law_hearers" "_law_hearers" S_hearers f fd) (TK : TakeOk P w K mg base) (mr : mg "range" = none) (ml : mg "len" = none) (mt : mg "tuple" = none) (ms : mg "sorted" = none) : FnOk P w K mg base CX0 2 f fd P_hearers spHear := by
  obtain ⟨fT, fdT, FT, bT, GT, gT⟩ := TK
  refine F.ok sc_hearers (fun vs H Q E h => ?_) (fun cdv A outer s H vs Q E hr h => ⟨_, PSs.nox (pss_cons (ps_set (i := 3) sc_hearers.nd rfl (.inl rfl) pe_dnewK)
    (pss_cons (ps_set (i := 4) sc_hearers.nd rfl (.inl rfl) (pe_call GT hr rfl gT FT.kp bT .nil pass0 (pa_cons (pv 0) (pa_cons pe_int pa_nil))))
    (C8.pss_cut (ps_if (pt_cmpR op_in_seq (pv 4) (pe_tup (pa_cons pe_int (pa_cons pe_int pa_nil))) (by rfl))
      (pss_one (ps_for PassesOwn.never rfl (pi_range1 rfl mr (pa_cons (pe_call GT hr rfl gT FT.kp bT .nil pass0 (pa_cons (pv 0) (pa_cons (pe_op op_add (pv 2) pe_int) pa_nil))) pa_nil)) (pg_name (i := 5) sc_hearers.nd rfl (Or.inl rfl))
        (pss_one (ps_dput (hu_of hr) (pv 3) (pe_op op_add pe_int (pe_call GT hr rfl gT FT.kp bT .nil pass0 (pa_cons (pv 0) (pa_cons (pe_op op_sub (pv 1) pe_int) pa_nil)))) (pe_op op_add pe_int (pe_call GT hr rfl gT FT.kp bT .nil pass0 (pa_cons (pv 0) (pa_cons pe_int pa_nil)))) rfl)))) pss_nil)
    (C8.pss_cut (ps_if (PW.pt (pw_and (pt_cmpR op_eq (pv 4) pe_int (nomark _)) (pw_and1 (pt_cmpR op_gt (pv 2) pe_int (nomark _)))))
      (pss_one (ps_dput (hu_of hr) (pv 3) (pe_ix ix_list (pe_lst (pa_cons pe_int (pa_cons (pe_op op_sub (pv 1) pe_int) pa_nil))) (pe_call GT hr rfl gT FT.kp bT .nil pass0 (pa_cons (pv 0) (pa_cons pe_int pa_nil))) (fun _ _ => rfl)) (pe_op op_add pe_int (pe_call GT hr rfl gT FT.kp bT .nil pass0 (pa_cons (pv 0) (pa_cons pe_int pa_nil)))) rfl)) pss_nil)
    (C8.pss_cut (ps_if (pt_cmpR op_eq (pv 4) pe_int (nomark _))
      (pss_cons (ps_par (i := 6) (j := 7) (by rfl) sc_hearers.nd rfl rfl (by decide) rfl rfl (pa_cons (pe_op op_add pe_int (pe_call GT hr rfl gT FT.kp bT .nil pass0 (pa_cons (pv 0) (pa_cons (pe_op op_sub (pv 1) pe_int) pa_nil))))
          (pa_cons (pe_ix ix_list (pe_lst (pa_cons pe_int (pa_cons (pe_un un_neg pe_int) pa_nil))) (pe_call GT hr rfl gT FT.kp bT .nil pass0 (pa_cons (pv 0) (pa_cons pe_int pa_nil))) (fun _ _ => rfl)) pa_nil)) (by rfl))
      (pss_one (ps_while PassesOwn.never (PW.pt (pw_and (pt_cmpR op_lt (pe_op op_add (pe_callB call_lenD (by rfl) ml PySem.boot_len (pa_cons (pv 3) pa_nil)) pe_int) (pv 2) (nomark _))
          (pw_and (pt_chain op_lt op_lt pe_int (pv 6) (pv 1)) (pw_and1 (pt_chain op_lt op_lt pe_int (pe_op op_sub (pv 6) (pv 7)) (pv 1))))))
        (pss_cons (ps_asg (pe_tup (pa_cons pe_int (pa_cons pe_int pa_nil))) (pg_tup (by rfl) (pgs_cons (pg_sub (pv 3) (pv 6) (set_dict (hu_of hr))) (pgs_cons (pg_sub (pv 3) (pe_op op_sub (pv 6) (pv 7)) (set_dict (hu_of hr))) pgs_nil))))
        (pss_one (ps_set (i := 6) sc_hearers.nd rfl (.inl rfl) (pe_op op_sub (pv 6) (pe_op op_mul pe_int (pv 7))))))))) pss_nil)
    (pss_one (ps_ret (pe_callTy call_tupleZ (by rfl) mt (by decide +kernel) (pa_cons (pe_sortedItems rfl (pv 3) rfl ms) pa_nil)))))))))  , ?_⟩)
  · obtain ⟨p, L, n, rfl, _⟩ := h
    rfl
  · obtain ⟨p, L, n, rfl, hP, hL2, hL3, n0, n12, q⟩ := h
    intro fa nfa
    obtain ⟨s0, m0⟩ := fresh2 (o := .dK []) nfa
    have nfp : fa ≠ p := (hP.ne nfa).symm
    refine ⟨_, rfl, p, 5, rfl, hP.same s0, by decide, by decide +kernel, fun way H1 w0 w5 dr1 => ?_⟩
    have d1 : Drew p H H1 := ⟨(Same.but s0).trans dr1.1, dr1.2⟩
    have f1 : H1 fa = some (.dK (enc [])) := dr1.1 _ _ nfp m0
    have nH : ∀ b o, H b = some o → b ≠ fa := fun b o e => ne_of_none e nfa
    have step : ∀ {H2 : Hp} {hs : List (Int × Int)} {k v : Int}, H2 fa = some (.dK (enc hs)) → Found L hs → hs.length < 1000 → 1 ≤ k → k < L → 1 ≤ v → v ≤ 2 → Drew p H H2 →
        ∃ hs', DPut H2 fa (.int k) (.int v) (upd H2 fa (.dK (enc hs'))) ∧ Found L hs' ∧ hs'.length ≤ hs.length + 1 ∧ Drew p H (upd H2 fa (.dK (enc hs'))) := by
      intro H2 hs k v e F hl k1 k2 v1 v2 dr
      obtain ⟨hs', e1, F', l'⟩ := put_found F k1 k2 v1 v2
      have le : (enc hs).length = hs.length := List.length_map ..
      refine ⟨hs', ?_, F', l', fun b o n z => ?_, ?_⟩
      · have := DPut.k (k := (Sum.inl k : Key)) (v := .int v) e (small1000 (by omega))
        rw [e1] at this
        exact this
      · rw [upd_ne (nH b o z)]
        exact dr.1 b o n z
      · obtain ⟨u0, u1, z, r⟩ := dr.2
        exact ⟨u0, u1, by rw [upd_ne nfp.symm]; exact z, r⟩
    refine ⟨fun σ H' => ∃ (hs : List (Int × Int)) (vk : Option V), σ = [some (.ref p), some (.int L), some (.int n), some (.ref fa), some (.int way), vk, none, none] ∧ H' fa = some (.dK (enc hs)) ∧ Found L hs ∧ (hs.length : Int) ≤ n ∧ Drew p H H' ∧ (way = 3 ∨ way = 4 → hs = []), ?_, ?_⟩
    · refine ⟨_, rfl, by show 2 ≤ sizeLine; decide, fun tw ntw => ?_⟩
      obtain ⟨s2, m2⟩ := fresh2 (o := .tup [.int 1, .int 2]) ntw
      have d2 : Drew p H (upd H1 tw (.tup [.int 1, .int 2])) := ⟨d1.1.trans (Same.but s2), d1.2.same s2⟩
      refine ⟨tw, _, rfl, .inr (SqT.of m2), rfl, rfl, _, rfl, ?_⟩
      rw [if_neg Bool.false_ne_true]
      refine ite2 (fun h => ?_) (fun h => ⟨[], none, rfl, s2 _ _ f1, found_nil, by simpa using n0, d2, fun _ => rfl⟩)
      have hw : way = 1 ∨ way = 2 := by
        have h' : ((1 : Int) == way || ((2 : Int) == way || false)) = true := h
        simp only [Bool.or_false, Bool.or_eq_true, beq_iff_eq] at h'
        omega
      refine ⟨_, rfl, _, rfl, _, _, rfl, rfl, p, n + 1, rfl, d2.2, by omega, log_small (n := 13) (by omega) (by omega) (by decide), fun m H3 m0' m1' dr3 => ?_⟩
      refine ⟨m, rfl, by omega, by omega, ?_⟩
      have d3 := d2.trans dr3
      refine for_it walk_range (fun i σ H' => ∃ (hs : List (Int × Int)) (vk : Option V), σ = [some (.ref p), some (.int L), some (.int n), some (.ref fa), some (.int way), vk, none, none] ∧ H' fa = some (.dK (enc hs)) ∧ Found L hs ∧ hs.length ≤ i ∧ Drew p H H') ⟨[], none, rfl, dr3.1 _ _ nfp (s2 _ _ f1), found_nil, Nat.le_refl _, d3⟩ (fun _ _ _ _ _ => trivial) ?_ ?_
      · rintro i x σ H4 H4' hi ⟨hs, vk, rfl, e4, F4, l4, d4⟩ ⟨rfl, rfl⟩
        refine ⟨_, rfl, p, 2, rfl, d4.2, by decide, by decide +kernel, fun v H5 v0 v1 dr5 => ⟨_, _, rfl, rfl, _, rfl, _, rfl, _, rfl, _, _, rfl, rfl, p, L - 1, rfl, dr5.2, by omega, log_long (by omega) (by omega), fun k H6 k0 k1 dr6 => ⟨_, _, rfl, rfl, ?_⟩⟩⟩
        have d6 := (d4.trans dr5).trans dr6
        obtain ⟨hs', e1, F', l', d'⟩ := step (dr6.1 _ _ nfp (dr5.1 _ _ nfp e4)) F4 (by omega) (k := 1 + k) (v := 1 + v) (by omega) (by omega) (by omega) (by omega) d6
        exact ⟨fa, _, rfl, e1, hs', _, rfl, upd_same, F', by omega, d'⟩
      · rintro σ H4 ⟨hs, vk, rfl, e4, F4, l4, d4⟩
        exact ⟨hs, vk, rfl, e4, F4, by omega, d4, fun z => by omega⟩
    · rintro σ H2 ⟨hs, vk, rfl, e2, F2, l2, d2, z2⟩
      refine ⟨fun σ H' => ∃ (hs : List (Int × Int)) (vk : Option V), σ = [some (.ref p), some (.int L), some (.int n), some (.ref fa), some (.int way), vk, none, none] ∧ H' fa = some (.dK (enc hs)) ∧ Found L hs ∧ (hs.length : Int) ≤ n ∧ Drew p H H' ∧ (way = 4 → hs = []), ?_, ?_⟩
      · refine ⟨_, rfl, rfl, _, rfl, ite2 (fun h => ?_) (fun h => ⟨hs, vk, rfl, e2, F2, l2, d2, fun z => z2 (.inr z)⟩)⟩
        have hw : way = 3 := V.int.inj (of_decide_eq_true h)
        have hs0 := z2 (.inl hw)
        subst hs0
        refine ⟨_, rfl, _, _, rfl, rfl, _, rfl, ite2 (fun h2 => ?_) (fun h2 => ⟨[], vk, rfl, e2, F2, l2, d2, fun _ => rfl⟩)⟩
        have hn : 0 < n := of_decide_eq_true h2
        refine ⟨_, rfl, p, 2, rfl, d2.2, by decide, by decide +kernel, fun v H3 v0 v1 dr3 => ⟨_, _, rfl, rfl, _, rfl, _, rfl, _, _, rfl, rfl, by show 2 ≤ sizeLine; decide, fun lm nlm => ?_⟩⟩
        obtain ⟨s3, m3⟩ := fresh2 (o := .lst [.int 1, .int (L - 1)]) nlm
        have nlp : lm ≠ p := (dr3.2.ne nlm).symm
        refine ⟨_, rfl, p, 2, rfl, dr3.2.same s3, by decide, by decide +kernel, fun j H4 j0 j1 dr4 => ?_⟩
        have d4 : Drew p H H4 := (d2.trans dr3).trans ⟨(Same.but s3).trans dr4.1, dr4.2⟩
        obtain ⟨k, hk, k1, k2⟩ : ∃ k : Int, ([.int 1, .int (L - 1)] : List V)[j.toNat]? = some (.int k) ∧ 1 ≤ k ∧ k < L := by
          have h4 : j.toNat < 2 := by omega
          match j.toNat, h4 with
          | 0, _ => exact ⟨_, rfl, by omega, by omega⟩
          | 1, _ => exact ⟨_, rfl, by omega, by omega⟩
        obtain ⟨hs', e1, F', l', d'⟩ := step (dr4.1 _ _ nfp (s3 _ _ (dr3.1 _ _ nfp e2))) F2 (by show 0 < 1000; decide) (k := k) (v := 1 + v) k1 k2 (by omega) (by omega) d4
        refine ⟨lm, _, j, _, rfl, rfl, SqL.of (dr4.1 _ _ nlp m3), atI_int j0 hk, fa, _, rfl, e1, hs', _, rfl, upd_same, F', ?_, d', fun z => by omega⟩
        have l'' : hs'.length ≤ 1 := l'
        omega
      · rintro σ H3 ⟨hs, vk, rfl, e3, F3, l3, d3, z3⟩
        refine ⟨fun σ H' => ∃ (hs : List (Int × Int)) (v5 v6 v7 : Option V), σ = [some (.ref p), some (.int L), some (.int n), some (.ref fa), some (.int way), v5, v6, v7] ∧ H' fa = some (.dK (enc hs)) ∧ Found L hs ∧ (hs.length : Int) ≤ n ∧ Drew p H H', ?_, ?_⟩
        · refine ⟨_, rfl, rfl, _, rfl, ite2 (fun h => ?_) (fun h => ⟨hs, vk, none, none, rfl, e3, F3, l3, d3⟩)⟩
          have hw : way = 4 := V.int.inj (of_decide_eq_true h)
          have hs0 := z3 hw
          subst hs0
          refine ⟨_, rfl, _, rfl, _, _, rfl, rfl, p, L - 1, rfl, d3.2, by omega, log_long (by omega) (by omega), fun k H4 k0 k1 dr4 => ⟨_, _, rfl, rfl, _, rfl, by show 2 ≤ sizeLine; decide, fun lm nlm => ?_⟩⟩
          obtain ⟨s4, m4⟩ := fresh2 (o := .lst [.int 1, .int (-1)]) nlm
          have nlp : lm ≠ p := (dr4.2.ne nlm).symm
          refine ⟨_, rfl, p, 2, rfl, dr4.2.same s4, by decide, by decide +kernel, fun j H5 j0 j1 dr5 => ?_⟩
          have d5 : Drew p H H5 := (d3.trans dr4).trans ⟨(Same.but s4).trans dr5.1, dr5.2⟩
          obtain ⟨on, hon, on1⟩ : ∃ on : Int, ([.int 1, .int (-1)] : List V)[j.toNat]? = some (.int on) ∧ (on = 1 ∨ on = -1) := by
            have h4 : j.toNat < 2 := by omega
            match j.toNat, h4 with
            | 0, _ => exact ⟨_, rfl, .inl rfl⟩
            | 1, _ => exact ⟨_, rfl, .inr rfl⟩
          refine ⟨lm, _, j, _, rfl, rfl, SqL.of (dr5.1 _ _ nlp m4), atI_int j0 hon, _, _, rfl, ?_⟩
          refine ⟨fun m σ H' => ∃ (hs : List (Int × Int)) (pl : Int), σ = [some (.ref p), some (.int L), some (.int n), some (.ref fa), some (.int way), vk, some (.int pl), some (.int on)] ∧ H' fa = some (.dK (enc hs)) ∧ Found L hs ∧ (hs.length : Int) ≤ n ∧ Drew p H H' ∧ m = (if on = 1 then pl.toNat else (L - pl).toNat), ⟨_, [], 1 + k, rfl, dr5.1 _ _ nfp (s4 _ _ (dr4.1 _ _ nfp e3)), found_nil, by simpa using n0, d5, rfl⟩, ?_⟩
          rintro m σ H6 ⟨hs, pl, rfl, e6, F6, l6, d6, rfl⟩
          have le : (enc hs).length = hs.length := List.length_map ..
          refine ⟨_, rfl, fa, _, rfl, e6, _, _, rfl, rfl, _, rfl, _, _, rfl, rfl, _, rfl, ite2 (fun h1 => ?_) (fun h1 => ?_)⟩
          · have hlen : (hs.length : Int) + 1 < n := by
              have := of_decide_eq_true h1
              rw [le] at this
              exact this
            refine ⟨_, rfl, _, _, rfl, rfl, _, rfl, ite2 (fun a1 => ?_) (fun a1 => ⟨false, rfl, iteF (iteF ⟨hs, _, _, _, rfl, e6, F6, l6, d6⟩)⟩)⟩
            refine ⟨_, rfl, _, _, rfl, rfl, _, rfl, ite2 (fun a2 => ?_) (fun a2 => iteF ⟨hs, _, _, _, rfl, e6, F6, l6, d6⟩)⟩
            refine ⟨_, rfl, _, rfl, _, _, rfl, rfl, _, _, rfl, rfl, _, rfl, ite2 (fun a3 => ?_) (fun a3 => ⟨false, rfl, iteF ⟨hs, _, _, _, rfl, e6, F6, l6, d6⟩⟩)⟩
            refine ⟨_, rfl, _, _, rfl, rfl, _, rfl, ite2 (fun a4 => ?_) (fun a4 => ⟨hs, _, _, _, rfl, e6, F6, l6, d6⟩)⟩
            have c1 : 0 < pl := of_decide_eq_true a1
            have c2 : pl < L := of_decide_eq_true a2
            have c3 : 0 < pl - on := of_decide_eq_true a3
            have c4 : pl - on < L := of_decide_eq_true a4
            refine ⟨fun σ' H' => ∃ (hs : List (Int × Int)) (pl' : Int), σ' = [some (.ref p), some (.int L), some (.int n), some (.ref fa), some (.int way), vk, some (.int pl'), some (.int on)] ∧ H' fa = some (.dK (enc hs)) ∧ Found L hs ∧ (hs.length : Int) ≤ n ∧ Drew p H H' ∧ (if on = 1 then pl'.toNat else (L - pl').toNat) < (if on = 1 then pl.toNat else (L - pl).toNat), fun σ' H' z => ?_, ?_⟩
            · obtain ⟨hs2, pl2, e1, e2', e3', e4', e5', e6'⟩ := z
              exact ⟨_, e6', hs2, pl2, e1, e2', e3', e4', e5', rfl⟩
            · refine ⟨by show 2 ≤ sizeLine; decide, fun tt ntt => ?_⟩
              obtain ⟨s7, m7⟩ := fresh2 (o := .tup [.int 1, .int 2]) ntt
              have d7 : Drew p H (upd H6 tt (.tup [.int 1, .int 2])) := ⟨d6.1.trans (Same.but s7), d6.2.same s7⟩
              obtain ⟨hs1, g1, F1', l1', d8⟩ := step (s7 _ _ e6) F6 (by omega) (k := pl) (v := 1) (by omega) c2 (by decide) (by decide) d7
              obtain ⟨hs2, g2, F2', l2', d9⟩ := step upd_same F1' (by omega) (k := pl - on) (v := 2) (by omega) c4 (by decide) (by decide) d8
              refine ⟨tt, _, rfl, SqT.of m7, rfl, _, _, rfl, _, rfl, _, rfl, fa, _, rfl, g1, _, _, rfl, _, rfl, _, rfl, _, rfl, _, _, rfl, rfl, fa, _, rfl, g2, rfl, ?_⟩
              refine ⟨_, rfl, _, rfl, _, _, rfl, rfl, .inl ⟨by decide, by decide⟩, _, _, rfl, rfl, hs2, _, rfl, upd_same, F2', by omega, d9, ?_⟩
              rcases on1 with rfl | rfl
              · rw [if_pos rfl, if_pos rfl]
                omega
              · rw [if_neg (by decide), if_neg (by decide)]
                omega
          · exact iteF ⟨hs, _, _, _, rfl, e6, F6, l6, d6⟩
        · rintro σ H4 ⟨hs, v5, v6, v7, rfl, e4, F4, l4, d4⟩
          have le : (enc hs).length = hs.length := List.length_map ..
          refine ⟨_, rfl, fa, hs, rfl, e4, by omega, F4.nd, fun H5 l ts hs' sm nl hl pr pm up => ?_⟩
          refine ⟨l, _, rfl, SqL.of hl, fun t ob nt dn => ?_⟩
          obtain ⟨s6, m6⟩ := fresh2 (o := .frz ob (.tup (ts.map V.ref))) nt
          have ntp : t ≠ p := ((d4.2.same sm).ne nt).symm
          have d6 : Drew p H (upd H5 t (.frz ob (.tup (ts.map V.ref)))) := ⟨(d4.1.trans (Same.but sm)).trans (Same.but s6), (d4.2.same sm).same s6⟩
          have H4p : ∀ a, a ∈ ts → a ≠ p := fun a ha e => by
            obtain ⟨j, h, _, _, z⟩ := LiI.paired_ix pr ha
            obtain ⟨u0, u1, z2, _⟩ := d4.2.same sm
            rw [e, z2] at z
            cases z
          have pr2 : Paired (fun (a : Addr) (h : Int × Int) => Off p (upd H5 t (.frz ob (.tup (ts.map V.ref)))) a = some (.tup [.int h.1, .int h.2])) ts hs' := by
            refine paired_imp pr fun a h ha e => ?_
            exact Off.at (H4p a ha) (s6 _ _ e)
          refine q _ hs' _ (.tupz (Off.at ntp m6) dn (dx_hears pr2) (all_hears hs')) (hear_of F4 pm up) ?_ d6
          rw [pm.length_eq]
          exact l4
end
end Cw
namespace Cw
open PySem PySem.Spec PyProof.Rows L2
/-- a tuple, locked or not -/
def IsT : HO → Prop
  | .tup _ => True
  | .frz _ (.tup _) => True
  | _ => False
/-- tuples stay -/
def TK (H H' : Hp) : Prop := ∀ b o, IsT o → H b = some o → H' b = some o
theorem TK.trans {H H1 H2 : Hp} (a : TK H H1) (b : TK H1 H2) : TK H H2 := fun c o t e => b c o t (a c o t e)
theorem Same.tk {H H' : Hp} (a : Same H H') : TK H H' := fun c o _ e => a c o e
theorem Drew.tk {p : Addr} {H H' : Hp} (hP : Pot H p) (d : Drew p H H') : TK H H' := fun c o t e => d.1 c _ (fun z => by
  obtain ⟨_, _, e2, _⟩ := hP
  rw [z, e2] at e
  cases e
  exact t) e
theorem upd_tk {H : Hp} {D : Addr} {ys : List V} {o : HO} (h : H D = some (.lst ys)) : TK H (upd H D o) := fun c u t e => by
  have n : c ≠ D := fun z => by
    rw [z, h] at e
    cases e
    exact t
  rw [upd_ne n]
  exact e
theorem pot_not_tup {p t : Addr} {H : Hp} {xs : List V} (hP : Pot H p) (e : H t = some (.tup xs)) : t ≠ p := fun z => by
  obtain ⟨_, _, e2, _⟩ := hP
  rw [z, e2] at e
  cases e
/-- persons as data -/
def dPer (f : Str × Int) : PyData := .tuple [.str f.1, .int f.2]
def dFolk (folk : List (Str × Int)) : PyData := .list (folk.map dPer)
abbrev PerAt (H : Hp) (t : Addr) (f : Str × Int) : Prop := H t = some (.tup [.str f.1, .int f.2])
theorem dx_folk {H : Hp} : ∀ {ts : List Addr} {fs : List (Str × Int)}, Paired (PerAt H) ts fs → DxAll H (ts.map V.ref) (fs.map dPer)
  | _, _, .nil => .nil
  | _, _, .cons h r => .cons (.tup h (.cons (.str _) (.cons (.int _) .nil))) (dx_folk r)
theorem paired_tk {H H' : Hp} {ts : List Addr} {fs : List (Str × Int)} (h : Paired (PerAt H) ts fs) (k : TK H H') : Paired (PerAt H') ts fs := paired_imp h fun t f _ e => k _ _ trivial e
theorem paired_snoc {α β : Type} {F : α → β → Prop} : ∀ {xs : List α} {ys : List β} {x : α} {y : β}, Paired F xs ys → F x y → Paired F (xs ++ [x]) (ys ++ [y])
  | _, _, _, _, .nil, h => .cons h .nil
  | _, _, _, _, .cons a r, h => .cons a (paired_snoc r h)
/-- names that are unlike, states that are some -/
structure Folk (fs : List (Str × Int)) : Prop where
  nd : (fs.map (·.1)).Nodup
  nm : ∀ f ∈ fs, IsName f.1
  st : ∀ f ∈ fs, 0 ≤ f.2 ∧ f.2 ≤ 2
theorem ix_listK {X : Cx} {K : PySem.W.Frag} (h : X.K = K) : IxR X (rIxL K) := by
  subst h
  exact ix_list
section
variable {P : Program} {w : World} {K : PySem.W.Frag} {mg : Str → Option Value} {base : Heap}
abbrev NameOk (P : Program) (w : World) (K : PySem.W.Frag) (mg : Str → Option Value) (base : Heap) : Prop := ∃ (fT : Addr) (fdT : FuncData), FnP K "_law_name" "_law_name" S_name fT fdT ∧ Binds K fdT P_name [] ∧ FnOk P w K mg base CX0 2 fT fdT P_name spName ∧ mg "_law_name" = some (.ref fT)
def spPersons : Sp := fun vs H Q _ => ∃ (p : Addr) (m : Int), vs = [.ref p, .int m] ∧ Pot H p ∧ 0 ≤ m ∧ m ≤ 8 ∧
  ∀ (v : V) (fs : List (Str × Int)) (H' : Hp), Dx (Off p H') v (dFolk fs) → Folk fs → (fs.length : Int) = m → Drew p H H' → Q v H'
theorem ok_persons {f : Addr} {fd : FuncData} (F : FnP K "_law_persons" "_law_persons" S_persons f fd) (TK' : TakeOk P w K mg base) (NK : NameOk P w K mg base) (mr : mg "range" = none) : FnOk P w K mg base CX0 3 f fd P_persons spPersons := by
  obtain ⟨fT, fdT, FT, bT, GT, gT⟩ := TK'
  obtain ⟨fN, fdN, FN, bN, GN, gN⟩ := NK
  refine F.ok sc_persons (fun vs H Q E h => ?_) (fun cdv A outer s H vs Q E hr h => ⟨_, PSs.nox (pss_cons (ps_set (i := 2) sc_persons.nd rfl (.inl rfl) (pe_lst pa_nil))
    (C8.pss_cut (ps_for PassesOwn.never rfl (pi_range1 rfl mr (pa_cons (pv 1) pa_nil)) (pg_name (i := 3) sc_persons.nd rfl (Or.inl rfl))
      (pss_one (ps_expr (pe_bm PySem.F.plainAttrs_list PySem.F.slot_list_append PySem.F.type_list_append mt_append (pv 2) (pa_cons (pe_call GN hr rfl gN FN.kp bN .nil pass0 (pa_cons (pv 0) (pa_cons (pv 2) pa_nil))) pa_nil)))))
    (pss_one (ps_ret (pe_lc (own := [("_law_name_here", 4)]) (g := gName 4) rfl sc_persons.nd (pi_list (pv 2)) (blkOk_by (own := [("_law_name_here", 4)]) (N := N_persons) (sc := defScope S_persons) (by decide +kernel))
      (fun _ _ _ _ _ => pg_name (i := 4) sc_persons.nd rfl (Or.inl rfl)) (fun _ _ _ _ _ => pts_nil)
      (fun _ _ _ _ _ => pe_tup (pa_cons (pv 4) (pa_cons (pe_ix (ix_listK (K := K) rfl) (pe_lst (pa_cons pe_int (pa_cons pe_int (pa_cons pe_int (pa_cons pe_int pa_nil))))) (pe_call GT (hr.mono (by decide)) rfl gT FT.kp bT .nil pass0 (pa_cons (pv 0) (pa_cons pe_int pa_nil))) (fun _ _ => rfl)) pa_nil)))))))), ?_⟩)
  · obtain ⟨p, m, rfl, _⟩ := h
    rfl
  · obtain ⟨p, m, rfl, hP, m0, m8, q⟩ := h
    refine ⟨by show 0 ≤ sizeLine; omega, fun ln nln => ?_⟩
    obtain ⟨s0, e0⟩ := fresh2 (o := .lst []) nln
    have nlp : ln ≠ p := (hP.ne nln).symm
    have nH : ∀ b o, H b = some o → b ≠ ln := fun b o e => ne_of_none e nln
    refine ⟨fun σ H' => ∃ (ys : List Str) (v3 : Option V), σ = [some (.ref p), some (.int m), some (.ref ln), v3, none] ∧ H' ln = some (.lst (ys.map V.str)) ∧ (∀ y ∈ ys, IsName y) ∧ ys.Nodup ∧ (ys.length : Int) = m ∧ Drew p H H', ?_, ?_⟩
    · refine ⟨_, rfl, m, rfl, by omega, by omega, ?_⟩
      refine for_it walk_range (fun i σ H' => ∃ (ys : List Str) (v3 : Option V), σ = [some (.ref p), some (.int m), some (.ref ln), v3, none] ∧ H' ln = some (.lst (ys.map V.str)) ∧ (∀ y ∈ ys, IsName y) ∧ ys.Nodup ∧ ys.length = i ∧ Drew p H H') ⟨[], none, rfl, e0, (fun _ h => by cases h), List.nodup_nil, rfl, Same.but s0, hP.same s0⟩ (fun _ _ _ _ _ => trivial) ?_ ?_
      · rintro i x σ H2 H2' hi ⟨ys, v3, rfl, e2, hN, nd, l2, d2⟩ ⟨rfl, rfl⟩
        refine ⟨_, rfl, .inl ⟨rfl, _, SqL.of e2⟩, _, rfl, _, rfl, p, ln, ys, rfl, d2.2, nlp, e2, hN, by omega, fun z H3 nz nin dr3 => ?_⟩
        have e3 := dr3.1 _ _ nlp e2
        refine ⟨ln, _, _, rfl, rfl, e3, by rw [List.length_map]; exact small1000 (by omega), ys ++ [z], _, rfl, ?_, ?_, nd_snoc nd nin, ?_, ?_⟩
        · rw [upd_same, List.map_append]
          rfl
        · intro y hy
          rcases List.mem_append.mp hy with hy | hy
          · exact hN y hy
          · rw [List.mem_singleton.mp hy]
            exact nz
        · rw [List.length_append, l2]
          rfl
        · have d3 := d2.trans dr3
          refine ⟨fun b o n e => ?_, ?_⟩
          · rw [upd_ne (nH b o e)]
            exact d3.1 b o n e
          · obtain ⟨u0, u1, z2, r⟩ := d3.2
            exact ⟨u0, u1, by rw [upd_ne nlp.symm]; exact z2, r⟩
      · rintro σ H2 ⟨ys, v3, rfl, e2, hN, nd, l2, d2⟩
        exact ⟨ys, v3, rfl, e2, hN, nd, by omega, d2⟩
    · rintro σ H2 ⟨ys, v3, rfl, e2, hN, nd, l2, d2⟩
      refine ⟨_, rfl, ln, rfl, ⟨_, SqL.of e2⟩, fun D nD => ?_⟩
      have nDp : D ≠ p := (d2.2.ne nD).symm
      have nDl : ln ≠ D := ne_of_none e2 nD
      have nHD : ∀ b o, b ≠ p → H b = some o → b ≠ D := fun b o n e => ne_of_none (d2.1 b o n e) nD
      refine lc_list (K := K) (a := ln) (xs := ys.map V.str) (fun i H3 => ∃ (ts : List Addr) (fs : List (Str × Int)), H3 D = some (.lst (ts.map V.ref)) ∧ Paired (PerAt H3) ts fs ∧ fs.map (·.1) = ys.take i ∧ (∀ f ∈ fs, 0 ≤ f.2 ∧ f.2 ≤ 2) ∧ H3 ln = some (.lst (ys.map V.str)) ∧ Drew p H H3) ?_ ?_ ?_ ?_
      · refine ⟨[], [], upd_same, .nil, rfl, (fun _ h => by cases h), ?_, fun b o n e => ?_, ?_⟩
        · rw [upd_ne nDl]
          exact e2
        · exact same_new nD _ _ (d2.1 b o n e)
        · exact d2.2.same (same_new nD)
      · rintro i H3 _ ⟨ts, fs, _, _, _, _, e, _⟩
        exact SqL.of e
      · rintro i x H3 hx ⟨ts, fs, hD, pr, en, hst, el, d3⟩
        have hi : i < ys.length := by
          have := (List.getElem?_eq_some_iff.mp hx).1
          rw [List.length_map] at this
          exact this
        have ex : x = .str ys[i] := by
          rw [List.getElem?_map, List.getElem?_eq_getElem hi] at hx
          exact (Option.some.inj hx).symm
        subst ex
        refine ⟨rfl, ?_⟩
        dsimp only [tYes]
        rw [if_pos rfl]
        refine ⟨_, rfl, by show 4 ≤ sizeLine; decide, fun lm nlm => ?_⟩
        obtain ⟨s4, e4⟩ := fresh2 (o := .lst [.int 0, .int 0, .int 1, .int 2]) nlm
        have nmp : lm ≠ p := (d3.2.ne nlm).symm
        refine ⟨_, rfl, p, 4, rfl, d3.2.same s4, by decide, by decide +kernel, fun d H5 d0 d1 dr5 => ?_⟩
        obtain ⟨j, hj, j1, j2⟩ : ∃ j : Int, ([.int 0, .int 0, .int 1, .int 2] : List V)[d.toNat]? = some (.int j) ∧ 0 ≤ j ∧ j ≤ 2 := by
          have h4 : d.toNat < 4 := by omega
          match d.toNat, h4 with
          | 0, _ => exact ⟨_, rfl, by decide, by decide⟩
          | 1, _ => exact ⟨_, rfl, by decide, by decide⟩
          | 2, _ => exact ⟨_, rfl, by decide, by decide⟩
          | 3, _ => exact ⟨_, rfl, by decide, by decide⟩
        refine ⟨lm, _, d, _, rfl, rfl, SqL.of (dr5.1 _ _ nmp e4), atI_int d0 hj, by show 2 ≤ sizeLine; decide, fun t nt => ?_⟩
        obtain ⟨s6, e6⟩ := fresh2 (o := .tup [.str ys[i], .int j]) nt
        have k35 : TK H3 H5 := (Same.tk s4).trans (dr5.tk (d3.2.same s4))
        have hD5 : H5 D = some (.lst (ts.map V.ref)) := dr5.1 _ _ nDp (s4 _ _ hD)
        have hl5 : H5 ln = some (.lst (ys.map V.str)) := dr5.1 _ _ nlp (s4 _ _ el)
        have d5 : Drew p H H5 := d3.trans ⟨(Same.but s4).trans dr5.1, dr5.2⟩
        have lts : ts.length = fs.length := pr.length
        have lfs : fs.length ≤ 8 := by
          have := congrArg List.length en
          rw [List.length_map, List.length_take] at this
          omega
        refine ⟨_, s6 _ _ hD5, by rw [List.length_map]; exact small1000 (by omega), ts ++ [t], fs ++ [(ys[i], j)], ?_, ?_, ?_, ?_, ?_, fun b o n e => ?_, ?_⟩
        · rw [upd_same, List.map_append]
          rfl
        · exact paired_snoc (paired_tk pr (k35.trans ((Same.tk s6).trans (upd_tk (s6 _ _ hD5))))) (upd_tk (s6 _ _ hD5) _ _ trivial e6)
        · rw [List.map_append, en, List.take_add_one, List.getElem?_eq_getElem hi]
          rfl
        · intro f hf
          rcases List.mem_append.mp hf with hf | hf
          · exact hst f hf
          · rw [List.mem_singleton.mp hf]
            exact ⟨j1, j2⟩
        · rw [upd_ne nDl]
          exact s6 _ _ hl5
        · rw [upd_ne (nHD b o n e)]
          exact s6 _ _ (d5.1 b o n e)
        · obtain ⟨u0, u1, z2, r⟩ := d5.2
          exact ⟨u0, u1, by rw [upd_ne nDp.symm]; exact s6 _ _ z2, r⟩
      · rintro H3 ⟨ts, fs, hD, pr, en, hst, el, d3⟩
        rw [List.length_map, List.take_length] at en
        have lf := congrArg List.length en
        rw [List.length_map] at lf
        refine q _ fs H3 (.lst (Off.at nDp hD) (dx_folk (paired_imp pr fun t f _ e => Off.at (pot_not_tup d3.2 e) e))) ⟨by rw [en]; exact nd, fun f hf => ?_, hst⟩ (by omega) d3
        exact hN f.1 (by rw [← en]; exact List.mem_map.mpr ⟨f, hf, rfl⟩)
end
end Cw
namespace Cw
open PySem PySem.Spec PyProof.Rows L2
theorem dxall_len {H : Hp} : ∀ {xs : List V} {ds : List PyData}, DxAll H xs ds → xs.length = ds.length
  | [], _, h => by cases h; rfl
  | _ :: _, _, h => by
    cases h with
    | cons _ r => simp [dxall_len r]
theorem dxall_get {H : Hp} : ∀ {xs : List V} {ds : List PyData} {i : Nat} {d : PyData}, DxAll H xs ds → ds[i]? = some d → ∃ x, xs[i]? = some x ∧ Dx H x d
  | _, [], _, _, _, e => by cases e
  | _, _ :: _, 0, _, h, e => by
    cases h with
    | cons a _ => cases e; exact ⟨_, rfl, a⟩
  | _, _ :: _, i + 1, _, h, e => by
    cases h with
    | cons _ r =>
      obtain ⟨x, e1, e2⟩ := dxall_get (i := i) r e
      exact ⟨x, e1, e2⟩
theorem dx_list {H : Hp} {v : V} {ds : List PyData} (h : Dx H v (.list ds)) : ∃ a xs, v = .ref a ∧ H a = some (.lst xs) ∧ DxAll H xs ds := by
  cases h with
  | lst e r => exact ⟨_, _, rfl, e, r⟩
theorem dx_tuple {H : Hp} {v : V} {ds : List PyData} (h : Dx H v (.tuple ds)) (n : allTup ds = false := by rfl) : ∃ a xs, v = .ref a ∧ H a = some (.tup xs) ∧ DxAll H xs ds := by
  cases h with
  | tup e r => exact ⟨_, _, rfl, e, r⟩
  | tupy e r m => rw [n] at m; cases m
theorem TupY.sq {K : PySem.W.Frag} {H : Hp} {a : Addr} {xs : List V} (h : TupY H a xs) : SqT K H a xs := h.elim (fun e => .inl (.inl e)) fun ⟨o, _, e⟩ => .inl (.inr ⟨o, e⟩)
theorem TupY.same {H H' : Hp} {a : Addr} {xs : List V} (h : TupY H a xs) (k : Same H H') : TupY H' a xs := h.mp (k _)
theorem dx_hs {H : Hp} {v : V} {hs : List (Int × Int)} (h : Dx H v (dHs hs)) : ∃ a xs, v = .ref a ∧ TupY H a xs ∧ DxAll H xs (hs.map dHear) := by
  have al := all_hears hs
  revert h al
  unfold dHs
  generalize hs.map dHear = ds
  intro h al
  cases h with
  | tup e r n => rw [al] at n; cases n
  | tupy e r m => exact ⟨_, _, rfl, e, r⟩
theorem dx_str {H : Hp} {v : V} {z : Str} (h : Dx H v (.str z)) : v = .str z := by cases h; rfl
theorem dx_int {H : Hp} {v : V} {z : Int} (h : Dx H v (.int z)) : v = .int z := by cases h; rfl
/-- a person's tuple -/
theorem dx_per {H : Hp} {v : V} {f : Str × Int} (h : Dx H v (dPer f)) : ∃ a, v = .ref a ∧ H a = some (.tup [.str f.1, .int f.2]) := by
  obtain ⟨a, xs, rfl, e, r⟩ := dx_tuple h
  cases r with
  | cons h1 r =>
    cases r with
    | cons h2 r =>
      cases r
      have e1 := dx_str h1
      have e2 := dx_int h2
      subst e1 e2
      exact ⟨a, rfl, e⟩
/-- a tie, as it is handed in -/
structure Tie where
  nm : Str
  one : Str
  other : Str
  len : Int
  hs : List (Int × Int)
def dTie (t : Tie) : PyData := .tuple [.str t.nm, .str t.one, .str t.other, .int t.len, dHs t.hs]
structure GoodTie (ns : List Str) (t : Tie) : Prop where
  nm : IsName t.nm
  h1 : t.one ∈ ns
  h2 : t.other ∈ ns
  ne : t.one ≠ t.other
  lo : 2 ≤ t.len
  hi : t.len ≤ 10 ^ 30
  hr : Hear t.len t.hs
theorem other_ne {a d n : Int} (a0 : 0 ≤ a) (a1 : a < n) (d0 : 0 ≤ d) (d1 : d < n - 1) : 0 ≤ (a + 1 + d) % n ∧ (a + 1 + d) % n < n ∧ (a + 1 + d) % n ≠ a := by
  refine ⟨Int.emod_nonneg _ (by omega), Int.emod_lt_of_pos _ (by omega), ?_⟩
  by_cases h : a + 1 + d < n
  · rw [Int.emod_eq_of_lt (by omega) h]
    omega
  · have e : a + 1 + d = (a + 1 + d - n) + n := by omega
    rw [e, Int.add_emod_right, Int.emod_eq_of_lt (by omega) (by omega)]
    omega
theorem folk_ne {fs : List (Str × Int)} (F : Folk fs) {i j : Nat} (hi : i < fs.length) (hj : j < fs.length) (ne : i ≠ j) : fs[i].1 ≠ fs[j].1 := by
  intro e
  have h := List.getElem_inj (i := i) (j := j) (h₀ := by rw [List.length_map]; exact hi) (h₁ := by rw [List.length_map]; exact hj) F.nd
  rw [List.getElem_map, List.getElem_map] at h
  exact ne (h.mp e)
section
variable {P : Program} {w : World} {K : PySem.W.Frag} {mg : Str → Option Value} {base : Heap}
abbrev LenOk (P : Program) (w : World) (K : PySem.W.Frag) (mg : Str → Option Value) (base : Heap) : Prop := ∃ (fT : Addr) (fdT : FuncData), FnP K "_law_length" "_law_length" S_length fT fdT ∧ Binds K fdT P_length [] ∧ FnOk P w K mg base CX0 2 fT fdT P_length spLen ∧ mg "_law_length" = some (.ref fT)
abbrev HearOk (P : Program) (w : World) (K : PySem.W.Frag) (mg : Str → Option Value) (base : Heap) : Prop := ∃ (fT : Addr) (fdT : FuncData), FnP K "_law_hearers" "_law_hearers" S_hearers fT fdT ∧ Binds K fdT P_hearers [] ∧ FnOk P w K mg base CX0 2 fT fdT P_hearers spHear ∧ mg "_law_hearers" = some (.ref fT)
def spTie : Sp := fun vs H Q _ => ∃ (p lt : Addr) (vf : V) (fs : List (Str × Int)) (ys : List Str) (way left : Int), vs = [.ref p, vf, .ref lt, .int way, .int left] ∧ Pot H p ∧ Dx (Off p H) vf (dFolk fs) ∧ Folk fs ∧ 2 ≤ fs.length ∧ fs.length ≤ 8 ∧
  lt ≠ p ∧ H lt = some (.lst (ys.map V.str)) ∧ (∀ y ∈ ys, IsName y) ∧ ys.length ≤ 24 ∧ 0 ≤ way ∧ 0 ≤ left ∧ left ≤ 12 ∧
  ∀ (v : V) (t : Tie) (H' : Hp), Dx (Off p H') v (dTie t) → GoodTie (fs.map (·.1)) t → t.nm ∉ ys → (t.hs.length : Int) ≤ left → Drew p H H' → Q v H'
theorem ok_tie {f : Addr} {fd : FuncData} (F : FnP K "_law_tie" "_law_tie" S_tie f fd) (TO : TakeOk P w K mg base) (NO : NameOk P w K mg base) (LO : LenOk P w K mg base) (HO' : HearOk P w K mg base) (ml : mg "len" = none) : FnOk P w K mg base CX0 3 f fd P_tie spTie := by
  obtain ⟨fT, fdT, FT, bT, GT, gT⟩ := TO
  obtain ⟨fN, fdN, FN, bN, GN, gN⟩ := NO
  obtain ⟨fL, fdL, FL, bL, GL, gL⟩ := LO
  obtain ⟨fH, fdH, FH, bH, GH, gH⟩ := HO'
  refine F.ok sc_tie (fun vs H Q E h => ?_) (fun cdv A outer s H vs Q E hr h => ⟨_, PSs.nox (pss_cons (ps_set (i := 5) sc_tie.nd rfl (.inl rfl) (pe_call GT (hr.mono (by decide)) rfl gT FT.kp bT .nil pass0 (pa_cons (pv 0) (pa_cons (pe_callB call_len_seq (by rfl) ml PySem.boot_len (pa_cons (pv 1) pa_nil)) pa_nil))))
    (pss_cons (ps_set (i := 6) sc_tie.nd rfl (.inl rfl) (pe_op op_mod (pe_op op_add (pe_op op_add (pv 5) pe_int) (pe_call GT (hr.mono (by decide)) rfl gT FT.kp bT .nil pass0 (pa_cons (pv 0) (pa_cons (pe_op op_sub (pe_callB call_len_seq (by rfl) ml PySem.boot_len (pa_cons (pv 1) pa_nil)) pe_int) pa_nil)))) (pe_callB call_len_seq (by rfl) ml PySem.boot_len (pa_cons (pv 1) pa_nil))))
    (pss_cons (ps_set (i := 7) sc_tie.nd rfl (.inl rfl) (pe_call GL hr rfl gL FL.kp bL .nil pass0 (pa_cons (pv 0) (pa_cons (pv 3) pa_nil))))
    (pss_one (ps_ret (pe_tup (pa_cons (pe_call GN hr rfl gN FN.kp bN .nil pass0 (pa_cons (pv 0) (pa_cons (pv 2) pa_nil)))
      (pa_cons (pe_ix ix_tup (pe_ix ix_list (pv 1) (pv 5) (fun _ _ => rfl)) pe_int (fun _ _ => rfl)) (pa_cons (pe_ix ix_tup (pe_ix ix_list (pv 1) (pv 6) (fun _ _ => rfl)) pe_int (fun _ _ => rfl)) (pa_cons (pv 7)
      (pa_cons (pe_call GH hr rfl gH FH.kp bH .nil pass0 (pa_cons (pv 0) (pa_cons (pv 7) (pa_cons (pv 4) pa_nil)))) pa_nil))))))))))), ?_⟩)
  · obtain ⟨p, lt, vf, fs, ys, way, left, rfl, _⟩ := h
    rfl
  · obtain ⟨p, lt, vf, fs, ys, way, left, rfl, hP, hf, FO, l2, l8, nlt, hlt, hN, hys, w0, e0, e12, q⟩ := h
    obtain ⟨lf, xs, rfl, hlf, hxs⟩ := dx_list hf
    have lx : xs.length = fs.length := by
      have := dxall_len hxs
      rw [List.length_map] at this
      exact this
    have nfp : lf ≠ p := fun z => by
      unfold Off at hlf
      rw [if_pos z] at hlf
      cases hlf
    have hlf' := Off.same _ _ hlf
    refine ⟨_, rfl, _, rfl, lf, _, rfl, .inl (SqL.of hlf'), p, _, rfl, hP, by omega, log_small (n := 8) (by omega) (by omega) (by decide), fun a H1 a0 a1 dr1 => ?_⟩
    have h1 := dr1.1 _ _ nfp hlf'
    refine ⟨_, rfl, _, _, rfl, rfl, _, rfl, _, rfl, lf, _, rfl, .inl (SqL.of h1), _, _, rfl, rfl, p, _, rfl, dr1.2, by omega, log_small (n := 8) (by omega) (by omega) (by decide), fun d H2 d0 d1 dr2 => ?_⟩
    have h2 := dr2.1 _ _ nfp h1
    refine ⟨_, _, rfl, rfl, _, rfl, lf, _, rfl, .inl (SqL.of h2), _, _, rfl, rfl, by show (0 : Int) < (xs.length : Int); omega, ?_⟩
    obtain ⟨o0, o1, one⟩ := other_ne a0 a1 d0 d1
    generalize hb : (a + 1 + d) % (xs.length : Int) = b at o0 o1 one
    refine ⟨_, rfl, _, rfl, p, way, rfl, dr2.2, w0, fun L H3 L2 L30 dr3 => ?_⟩
    have d3 := (dr1.trans dr2).trans dr3
    refine ⟨_, rfl, _, rfl, p, lt, ys, rfl, dr3.2, nlt, d3.1 _ _ nlt hlt, hN, hys, fun z H4 nz nin dr4 => ?_⟩
    have d4 := d3.trans dr4
    have x4 := Dx.sameAll (Off.but d4.1) _ _ hxs
    have h4 := d4.1 _ _ nfp hlf'
    have ha : a.toNat < fs.length := by omega
    have hb' : b.toNat < fs.length := by omega
    obtain ⟨v1, g1, e1⟩ := dxall_get (i := a.toNat) x4 (by rw [List.getElem?_map, List.getElem?_eq_getElem ha]; rfl)
    obtain ⟨v2, g2, e2⟩ := dxall_get (i := b.toNat) x4 (by rw [List.getElem?_map, List.getElem?_eq_getElem hb']; rfl)
    obtain ⟨t1, rfl, k1⟩ := dx_per e1
    obtain ⟨t2, rfl, k2⟩ := dx_per e2
    refine ⟨_, rfl, _, rfl, lf, _, a, _, rfl, rfl, SqL.of h4, atI_int a0 g1, t1, _, 0, _, rfl, rfl, SqT.of (Off.same _ _ k1), atI_int (by decide) rfl, _, rfl, _, rfl, lf, _, b, _, rfl, ?_, SqL.of h4, atI_int o0 g2, t2, _, 0, _, rfl, rfl, SqT.of (Off.same _ _ k2), atI_int (by decide) rfl, _, rfl, ?_⟩
    · show V.int ((a + 1 + d) % (xs.length : Int)) = .int b
      rw [hb]
    refine ⟨_, rfl, _, rfl, _, rfl, p, L, left, rfl, dr4.2, L2, L30, e0, e12, fun vh hs H5 xh hh lh dr5 => ?_⟩
    refine ⟨by show 5 ≤ sizeLine; decide, fun t nt => ?_⟩
    obtain ⟨s6, m6⟩ := fresh2 (o := .tup [.str z, .str fs[a.toNat].1, .str fs[b.toNat].1, .int L, vh]) nt
    have ntp : t ≠ p := (dr5.2.ne nt).symm
    have d5 := d4.trans dr5
    refine q _ ⟨z, fs[a.toNat].1, fs[b.toNat].1, L, hs⟩ _ (.tup (Off.at ntp m6) (.cons (.str _) (.cons (.str _) (.cons (.str _) (.cons (.int _) (.cons (Dx.same (Off.but (Same.but s6)) _ _ xh) .nil)))))) ⟨nz, ?_, ?_, ?_, L2, L30, hh⟩ nin lh ⟨d5.1.trans (Same.but s6), d5.2.same s6⟩
    · exact List.mem_map.mpr ⟨_, List.getElem_mem ha, rfl⟩
    · exact List.mem_map.mpr ⟨_, List.getElem_mem hb', rfl⟩
    · exact folk_ne FO ha hb' (by omega)
end
end Cw
namespace Cw
open PySem PySem.Spec PyProof.Rows L2
theorem ix_tupK {X : Cx} {K : PySem.W.Frag} (h : X.K = K) : IxR X (rIxT K) := by
  subst h
  exact ix_tup
theorem Off.mono {l : Addr} {A B : Hp} (h : Same A B) : Same (Off l A) (Off l B) := fun b o e => by
  unfold Off at e
  by_cases z : b = l
  · rw [if_pos z] at e
    cases e
  · rw [if_neg z] at e
    exact Off.at z (h b o e)
theorem Off.ne {l b : Addr} {H : Hp} {o : HO} (e : Off l H b = some o) : b ≠ l := fun z => by
  unfold Off at e
  rw [if_pos z] at e
  cases e
theorem Off.upd2 {p l : Addr} {H : Hp} {o : HO} : Same (Off l (Off p H)) (Off l (Off p (upd H l o))) := fun b u e => by
  have n1 := Off.ne e
  have n2 := Off.ne (Off.same _ _ e)
  exact Off.at n1 (Off.at n2 (by rw [upd_ne n1]; exact Off.same _ _ (Off.same _ _ e)))
mutual
/-- data without lists and dicts -/
def noL : PyData → Bool
  | .list _ | .dict _ => false
  | .tuple xs => noLs xs
  | _ => true
def noLs : List PyData → Bool
  | [] => true
  | x :: r => noL x && noLs r
end
mutual
theorem Dx.tk {H H' : Hp} (k : TK H H') : ∀ (d : PyData) (v : V), noL d = true → Dx H v d → Dx H' v d
  | .none, _, _, h => by cases h; exact .non
  | .bool b, _, _, h => by cases h; exact .bl b
  | .int i, _, _, h => by cases h; exact .int i
  | .str x, _, _, h => by cases h; exact .str x
  | .list ds, _, n, h => by simp [noL] at n
  | .tuple ds, _, n, h => by
    cases h with
    | tup e r m => exact .tup (k _ _ trivial e) (Dx.tkAll k ds _ (by simpa [noL] using n) r) m
    | tupy e r m => exact .tupy (e.imp (k _ _ trivial) fun ⟨o, d, e⟩ => ⟨o, d, k _ _ trivial e⟩) (Dx.tkAll k ds _ (by simpa [noL] using n) r) m
  | .dict kvs, _, n, h => by simp [noL] at n
theorem Dx.tkAll {H H' : Hp} (k : TK H H') : ∀ (ds : List PyData) (vs : List V), noLs ds = true → DxAll H vs ds → DxAll H' vs ds
  | [], _, _, h => by cases h; exact .nil
  | d :: ds, _, n, h => by
    cases h with
    | cons h1 h2 =>
      have n' : noL d = true ∧ noLs ds = true := by simpa [noLs] using n
      exact .cons (Dx.tk k d _ n'.1 h1) (Dx.tkAll k ds _ n'.2 h2)
end
theorem TupY.tk {H H' : Hp} {a : Addr} {xs : List V} (h : TupY H a xs) (k : TK H H') : TupY H' a xs := h.imp (k _ _ trivial) fun ⟨o, d, e⟩ => ⟨o, d, k _ _ trivial e⟩
theorem noL_hs : ∀ hs : List (Int × Int), noLs (hs.map dHear) = true
  | [] => by simp [noLs]
  | h :: r => by simp [noLs, noL, dHear, noL_hs r]
theorem noL_tie (t : Tie) : noL (dTie t) = true := by
  simp [dTie, dHs, noL, noLs, noL_hs]
theorem off_tk {l : Addr} {H : Hp} {xs : List V} (h : H l = some (.lst xs)) : TK H (Off l H) := fun b o t e => Off.at (fun z => by
  rw [z, h] at e
  cases e
  exact t) e
theorem dxall_snoc {H : Hp} : ∀ {xs : List V} {ds : List PyData} {x : V} {d : PyData}, DxAll H xs ds → Dx H x d → DxAll H (xs ++ [x]) (ds ++ [d])
  | [], [], _, _, _, h => .cons h .nil
  | [], _ :: _, _, _, h, _ => by cases h
  | _ :: _, [], _, _, h, _ => by cases h
  | _ :: _, _ :: _, _, _, .cons a r, h => .cons a (dxall_snoc r h)
/-- all told hearers of some ties -/
def told : List Tie → Nat
  | [] => 0
  | t :: r => t.hs.length + told r
theorem told_snoc (t : Tie) : ∀ ts : List Tie, told (ts ++ [t]) = told ts + t.hs.length
  | [] => by simp [told]
  | x :: r => by
    show x.hs.length + told (r ++ [t]) = x.hs.length + told r + t.hs.length
    rw [told_snoc t r]
    omega
/-- what a web is made of -/
structure Spec (fs : List (Str × Int)) (ts : List Tie) : Prop where
  fo : Folk fs
  ti : ∀ t ∈ ts, GoodTie (fs.map (·.1)) t
  nd : (fs.map (·.1) ++ ts.map (·.nm)).Nodup
def dSpec (fs : List (Str × Int)) (ts : List Tie) : PyData := .tuple [dFolk fs, .list (ts.map dTie)]
theorem Spec.names {fs : List (Str × Int)} {ts : List Tie} (S : Spec fs ts) : ∀ y ∈ fs.map (·.1) ++ ts.map (·.nm), IsName y := fun y hy => by
  rcases List.mem_append.mp hy with h | h
  · obtain ⟨f, hf, rfl⟩ := List.mem_map.mp h
    exact S.fo.nm f hf
  · obtain ⟨t, ht, rfl⟩ := List.mem_map.mp h
    exact (S.ti t ht).nm
theorem Spec.snoc {fs : List (Str × Int)} {ts : List Tie} {t : Tie} (S : Spec fs ts) (g : GoodTie (fs.map (·.1)) t) (n : t.nm ∉ fs.map (·.1) ++ ts.map (·.nm)) : Spec fs (ts ++ [t]) := by
  refine ⟨S.fo, fun x hx => ?_, ?_⟩
  · rcases List.mem_append.mp hx with h | h
    · exact S.ti x h
    · rw [List.mem_singleton.mp h]
      exact g
  · rw [List.map_append, ← List.append_assoc]
    exact nd_snoc S.nd n
/-- [name for name, state in folk] -/
theorem names_end {K : PySem.W.Frag} {x0 x1 x2 x3 x4 x5 x6 x7 x8 x9 x10 x11 x12 : Option V} {H1 : Hp} {lf D : Addr} {xs : List V} {fs : List (Str × Int)} {Qd : Hp → Prop} (nD : H1 D = none) (hl : H1 lf = some (.lst xs)) (hx : DxAll H1 xs (fs.map dPer)) (hn : fs.length ≤ 1000)
    (q : ∀ H', Same H1 H' → H' D = some (.lst ((fs.map (·.1)).map V.str)) → Qd H') :
    LcD (Itl K lf) (gTup K 2 (gCons (gName 10) (gCons (gName 11) gNil))) tYes (tVar 10) [10, 11] [x0, x1, x2, x3, x4, x5, x6, x7, x8, x9, x10, x11, x12] H1 D Qd := by
  have lx : xs.length = fs.length := by
    have := dxall_len hx
    rw [List.length_map] at this
    exact this
  refine lc_list (K := K) (a := lf) (xs := xs) (fun i H2 => Same H1 (Off D H2) ∧ H2 D = some (.lst (((fs.take i).map (·.1)).map V.str))) ⟨fun b o e => Off.at (ne_of_none e nD) (same_new nD _ _ e), upd_same⟩ (fun i H2 _ hh => SqL.of (Off.same _ _ (hh.1 _ _ hl))) ?_ ?_
  · rintro i x H2 hxi ⟨sm, hD⟩
    have hi : i < fs.length := by
      have := (List.getElem?_eq_some_iff.mp hxi).1
      omega
    obtain ⟨y, e1, e2⟩ := dxall_get (i := i) hx (by rw [List.getElem?_map, List.getElem?_eq_getElem hi]; rfl)
    have exy : x = y := Option.some.inj (hxi.symm.trans e1)
    subst exy
    obtain ⟨t, rfl, ht⟩ := dx_per e2
    refine ⟨t, _, rfl, SqT.of (Off.same _ _ (sm _ _ ht)), rfl, _, _, rfl, _, _, rfl, rfl, rfl, ?_⟩
    dsimp only [tYes]
    rw [if_pos rfl]
    refine ⟨_, rfl, _, hD, ?_, fun b o e => ?_, ?_⟩
    · rw [List.length_map, List.length_map, List.length_take]
      exact Nat.lt_of_le_of_lt (Nat.min_le_right _ _) (small1000 (by omega))
    · have nb : b ≠ D := ne_of_none e nD
      exact Off.at nb (by rw [upd_ne nb]; exact Off.same _ _ (sm b o e))
    · rw [upd_same, List.take_add_one, List.getElem?_eq_getElem hi, List.map_append, List.map_append]
      rfl
  · rintro H2 ⟨sm, hD⟩
    rw [lx, List.take_length] at hD
    exact q H2 (fun b o e => Off.same _ _ (sm b o e)) hD
theorem dx_tie {H : Hp} {v : V} {t : Tie} (h : Dx H v (dTie t)) : ∃ (a : Addr) (vh : V), v = .ref a ∧ H a = some (.tup [.str t.nm, .str t.one, .str t.other, .int t.len, vh]) ∧ Dx H vh (dHs t.hs) := by
  obtain ⟨a, xs, rfl, e, r⟩ := dx_tuple h
  cases r with
  | cons h1 r =>
    cases r with
    | cons h2 r =>
      cases r with
      | cons h3 r =>
        cases r with
        | cons h4 r =>
          cases r with
          | cons h5 r =>
            cases r
            have e1 := dx_str h1
            have e2 := dx_str h2
            have e3 := dx_str h3
            have e4 := dx_int h4
            subst e1 e2 e3 e4
            exact ⟨a, _, rfl, e, h5⟩
/-- [tie[0] for tie in joins] -/
theorem tienames_end {K : PySem.W.Frag} {x0 x1 x2 x3 x4 x5 x6 x7 x8 x9 x10 x11 x12 : Option V} {H1 : Hp} {lj D : Addr} {xs : List V} {ts : List Tie} {Qd : Hp → Prop} (nD : H1 D = none) (hl : H1 lj = some (.lst xs)) (hx : DxAll H1 xs (ts.map dTie)) (hn : ts.length ≤ 1000)
    (q : ∀ H', Same H1 H' → H' D = some (.lst ((ts.map (·.nm)).map V.str)) → Qd H') :
    LcD (Itl K lj) (gName 12) tYes (tOp (rIxT K) (tVar 12) (tC (.int 0))) [12] [x0, x1, x2, x3, x4, x5, x6, x7, x8, x9, x10, x11, x12] H1 D Qd := by
  have lx : xs.length = ts.length := by
    have := dxall_len hx
    rw [List.length_map] at this
    exact this
  refine lc_list (K := K) (a := lj) (xs := xs) (fun i H2 => Same H1 (Off D H2) ∧ H2 D = some (.lst (((ts.take i).map (·.nm)).map V.str))) ⟨fun b o e => Off.at (ne_of_none e nD) (same_new nD _ _ e), upd_same⟩ (fun i H2 _ hh => SqL.of (Off.same _ _ (hh.1 _ _ hl))) ?_ ?_
  · rintro i x H2 hxi ⟨sm, hD⟩
    have hi : i < ts.length := by
      have := (List.getElem?_eq_some_iff.mp hxi).1
      omega
    obtain ⟨y, e1, e2⟩ := dxall_get (i := i) hx (by rw [List.getElem?_map, List.getElem?_eq_getElem hi]; rfl)
    have exy : x = y := Option.some.inj (hxi.symm.trans e1)
    subst exy
    obtain ⟨t, vh, rfl, ht, _⟩ := dx_tie e2
    refine ⟨rfl, ?_⟩
    dsimp only [tYes]
    rw [if_pos rfl]
    refine ⟨_, rfl, t, _, 0, _, rfl, rfl, SqT.of (Off.same _ _ (sm _ _ ht)), atI_int (by decide) rfl, _, hD, ?_, fun b o e => ?_, ?_⟩
    · rw [List.length_map, List.length_map, List.length_take]
      exact Nat.lt_of_le_of_lt (Nat.min_le_right _ _) (small1000 (by omega))
    · have nb : b ≠ D := ne_of_none e nD
      exact Off.at nb (by rw [upd_ne nb]; exact Off.same _ _ (sm b o e))
    · rw [upd_same, List.take_add_one, List.getElem?_eq_getElem hi, List.map_append, List.map_append]
      rfl
  · rintro H2 ⟨sm, hD⟩
    rw [lx, List.take_length] at hD
    exact q H2 (fun b o e => Off.same _ _ (sm b o e)) hD
section
variable {P : Program} {w : World} {K : PySem.W.Frag} {mg : Str → Option Value} {base : Heap}
abbrev PersOk (P : Program) (w : World) (K : PySem.W.Frag) (mg : Str → Option Value) (base : Heap) : Prop := ∃ (fT : Addr) (fdT : FuncData), FnP K "_law_persons" "_law_persons" S_persons fT fdT ∧ Binds K fdT P_persons [] ∧ FnOk P w K mg base CX0 3 fT fdT P_persons spPersons ∧ mg "_law_persons" = some (.ref fT)
abbrev TieOk (P : Program) (w : World) (K : PySem.W.Frag) (mg : Str → Option Value) (base : Heap) : Prop := ∃ (fT : Addr) (fdT : FuncData), FnP K "_law_tie" "_law_tie" S_tie fT fdT ∧ Binds K fdT P_tie [] ∧ FnOk P w K mg base CX0 3 fT fdT P_tie spTie ∧ mg "_law_tie" = some (.ref fT)
def spWeb : Sp := fun vs H Q _ => ∃ (p : Addr) (mp mt way tl : Int), vs = [.ref p, .int mp, .int mt, .int way, .int tl] ∧ Pot H p ∧ 1 ≤ mp ∧ mp ≤ 8 ∧ 0 ≤ mt ∧ mt ≤ 12 ∧ 0 ≤ way ∧ 0 ≤ tl ∧ tl ≤ 12 ∧
  ∀ (v : V) (fs : List (Str × Int)) (ts : List Tie) (H' : Hp), Dx (Off p H') v (dSpec fs ts) → Spec fs ts → 1 ≤ fs.length → fs.length ≤ 8 → ts.length ≤ 12 → (told ts : Int) ≤ tl → Drew p H H' → Q v H'
theorem ok_web {f : Addr} {fd : FuncData} (F : FnP K "_law_web" "_law_web" S_web f fd) (TO : TakeOk P w K mg base) (PO : PersOk P w K mg base) (IO : TieOk P w K mg base) (mr : mg "range" = none) (ml : mg "len" = none) (mi : mg "int" = none) : FnOk P w K mg base CX0 4 f fd P_web spWeb := by
  obtain ⟨fT, fdT, FT, bT, GT, gT⟩ := TO
  obtain ⟨fE, fdE, FE, bE, GE, gE⟩ := PO
  obtain ⟨fI, fdI, FI, bI, GI, gI⟩ := IO
  refine F.ok sc_web (fun vs H Q E h => ?_) (fun cdv A outer s H vs Q E hr h => ⟨_, PSs.nox (pss_cons (ps_set (i := 5) sc_web.nd rfl (.inl rfl) (pe_call GE hr rfl gE FE.kp bE .nil pass0 (pa_cons (pv 0) (pa_cons (pe_ix ix_list (pe_lst (pa_cons (pv 1)
        (pa_cons (pe_op op_add pe_int (pe_call GT (hr.mono (by decide)) rfl gT FT.kp bT .nil pass0 (pa_cons (pv 0) (pa_cons (pv 1) pa_nil)))) pa_nil))) (pe_call GT (hr.mono (by decide)) rfl gT FT.kp bT .nil pass0 (pa_cons (pv 0) (pa_cons pe_int pa_nil))) (fun _ _ => rfl)) pa_nil))))
    (pss_cons (ps_set (i := 6) sc_web.nd rfl (.inl rfl) (pe_lst pa_nil))
    (pss_cons (ps_set (i := 7) sc_web.nd rfl (.inl rfl) (pv 4))
    (C8.pss_cut (ps_for PassesOwn.never rfl (pi_range1 rfl mr (pa_cons (pe_op op_mul (pe_call GT (hr.mono (by decide)) rfl gT FT.kp bT .nil pass0 (pa_cons (pv 0) (pa_cons (pe_op op_add (pv 2) pe_int) pa_nil)))
        (pe_callTy call_int1 (by rfl) mi (by decide +kernel) (pa_cons (pe_cmpR op_gt (pe_callB call_len_seq (by rfl) ml PySem.boot_len (pa_cons (pv 5) pa_nil)) pe_int (nomark _)) pa_nil))) pa_nil)) (pg_name (i := 8) sc_web.nd rfl (Or.inl rfl))
      (pss_cons (ps_set (i := 9) sc_web.nd rfl (.inl rfl) (pe_op op_cat (pe_lc (own := [("_law_name_here", 10), ("_law_state", 11)]) (g := gTup K 2 (gCons (gName 10) (gCons (gName 11) gNil))) rfl sc_web.nd (pi_list (pv 5))
          (blkOk_by (own := [("_law_name_here", 10), ("_law_state", 11)]) (N := N_web) (sc := defScope S_web) (by decide +kernel)) (fun _ _ _ _ _ => pg_tup rfl (pgs_cons (pg_name (i := 10) sc_web.nd rfl (.inl rfl)) (pgs_cons (pg_name (i := 11) sc_web.nd rfl (.inl rfl)) pgs_nil)))
          (fun _ _ _ _ _ => pts_nil) (fun _ _ _ _ _ => pv 10))
        (pe_lc (own := [("_law_tie_here", 12)]) (g := gName 12) rfl sc_web.nd (pi_list (pv 6)) (blkOk_by (own := [("_law_tie_here", 12)]) (N := N_web) (sc := defScope S_web) (by decide +kernel)) (fun _ _ _ _ _ => pg_name (i := 12) sc_web.nd rfl (Or.inl rfl))
          (fun _ _ _ _ _ => pts_nil) (fun _ _ _ _ _ => pe_ix (ix_tupK (K := K) rfl) (pv 12) pe_int (fun _ _ => rfl)))))
      (pss_cons (ps_expr (pe_bm PySem.F.plainAttrs_list PySem.F.slot_list_append PySem.F.type_list_append mt_append (pv 6) (pa_cons (pe_call GI hr rfl gI FI.kp bI .nil pass0 (pa_cons (pv 0) (pa_cons (pv 5) (pa_cons (pv 9) (pa_cons (pv 3) (pa_cons (pv 7) pa_nil)))))) pa_nil)))
      (pss_one (ps_set (i := 7) sc_web.nd rfl (.inl rfl) (pe_op op_sub (pv 7) (pe_callB call_len_seq (by rfl) ml PySem.boot_len (pa_cons (pe_ix ix_tup (pe_ix ix_list (pv 6) (pe_un un_neg pe_int) (fun _ _ => rfl)) pe_int (fun _ _ => rfl)) pa_nil))))))))
    (pss_one (ps_ret (pe_tup (pa_cons (pv 5) (pa_cons (pv 6) pa_nil))))))))), ?_⟩)
  · obtain ⟨p, mp, mt, way, tl, rfl, _⟩ := h
    rfl
  · obtain ⟨p, mp, mt, way, tl, rfl, hP, mp1, mp8, mt0, mt12, w0, tl0, tl12, q⟩ := h
    refine ⟨_, rfl, _, rfl, _, rfl, _, rfl, p, mp, rfl, hP, by omega, log_small (n := 8) (by omega) (by omega) (by decide), fun d H1 d0 d1 dr1 => ⟨_, _, rfl, rfl, by show 2 ≤ sizeLine; decide, fun lm nlm => ?_⟩⟩
    obtain ⟨s1, m1⟩ := fresh2 (o := .lst [.int mp, .int (1 + d)]) nlm
    have nmp : lm ≠ p := (dr1.2.ne nlm).symm
    refine ⟨_, rfl, p, 2, rfl, dr1.2.same s1, by decide, by decide +kernel, fun j H2 j0 j1 dr2 => ?_⟩
    obtain ⟨k, hk, k1, k8⟩ : ∃ k : Int, ([.int mp, .int (1 + d)] : List V)[j.toNat]? = some (.int k) ∧ 1 ≤ k ∧ k ≤ 8 := by
      have h4 : j.toNat < 2 := by omega
      match j.toNat, h4 with
      | 0, _ => exact ⟨_, rfl, by omega, by omega⟩
      | 1, _ => exact ⟨_, rfl, by omega, by omega⟩
    have d2 : Drew p H H2 := dr1.trans ⟨(Same.but s1).trans dr2.1, dr2.2⟩
    refine ⟨lm, _, j, _, rfl, rfl, SqL.of (dr2.1 _ _ nmp m1), atI_int j0 hk, p, k, rfl, d2.2, by omega, k8, fun vf fs H3 xf FO lf8 dr3 => ?_⟩
    have d3 := d2.trans dr3
    obtain ⟨lf, xs, rfl, hlf, hxs⟩ := dx_list xf
    have nfp : lf ≠ p := Off.ne hlf
    have lx : xs.length = fs.length := by
      have := dxall_len hxs
      rw [List.length_map] at this
      exact this
    refine ⟨by show 0 ≤ sizeLine; omega, fun lj nlj => ?_⟩
    obtain ⟨s4, m4⟩ := fresh2 (o := .lst []) nlj
    have njp : lj ≠ p := (d3.2.ne nlj).symm
    have nfj : lf ≠ lj := ne_of_none (Off.same _ _ hlf) nlj
    have zf : Dx (Off lj (Off p (upd H3 lj (.lst [])))) (.ref lf) (dFolk fs) := by
      refine Dx.same (fun b o e => ?_) _ _ xf
      have nb : b ≠ lj := ne_of_none (Off.same _ _ e) nlj
      exact Off.at nb (Off.at (Off.ne e) (s4 _ _ (Off.same _ _ e)))
    have d4 : Drew p H (upd H3 lj (.lst [])) := ⟨d3.1.trans (Same.but s4), d3.2.same s4⟩
    have nHj : ∀ b o, b ≠ p → H b = some o → b ≠ lj := fun b o n e => ne_of_none (d3.1 b o n e) nlj
    refine ⟨_, rfl, ?_⟩
    refine ⟨fun σ H' => ∃ (ts : List Tie) (js : List V) (v7 v8 v9 : Option V), σ = [some (.ref p), some (.int mp), some (.int mt), some (.int way), some (.int tl), some (.ref lf), some (.ref lj), v7, v8, v9, none, none, none] ∧ H' lj = some (.lst js) ∧ DxAll (Off lj (Off p H')) js (ts.map dTie) ∧ Dx (Off lj (Off p H')) (.ref lf) (dFolk fs) ∧ Spec fs ts ∧ ts.length ≤ 12 ∧ (told ts : Int) ≤ tl ∧ Drew p H H', ?_, ?_⟩
    · refine ⟨_, rfl, _, rfl, _, _, rfl, rfl, p, mt + 1, rfl, d4.2, by omega, log_small (n := 13) (by omega) (by omega) (by decide), fun c H5 c0 c1 dr5 => ?_⟩
      have hlf5 : H5 lf = some (.lst xs) := dr5.1 _ _ nfp (s4 _ _ (Off.same _ _ hlf))
      refine ⟨_, rfl, lf, _, rfl, .inl (SqL.of hlf5), _, _, rfl, rfl, .inr ⟨_, rfl, _, _, rfl, rfl, .inl ⟨by omega, by omega⟩, ?_⟩⟩
      have bnd : c * (if decide (1 < (xs.length : Int)) = true then 1 else 0) ≤ 12 ∧ 0 ≤ c * (if decide (1 < (xs.length : Int)) = true then 1 else 0) ∧ (0 < c * (if decide (1 < (xs.length : Int)) = true then 1 else 0) → 2 ≤ fs.length) := by
        by_cases h1 : 1 < (xs.length : Int)
        · rw [decide_eq_true h1, if_pos rfl, Int.mul_one]
          omega
        · rw [decide_eq_false h1, if_neg Bool.false_ne_true, Int.mul_zero]
          omega
      obtain ⟨n, hn⟩ : ∃ n : Int, n = c * (if decide (1 < (xs.length : Int)) = true then 1 else 0) := ⟨_, rfl⟩
      rw [← hn] at bnd
      refine ⟨n, by rw [hn], by omega, by omega, ?_⟩
      refine for_it walk_range (fun i σ H' => ∃ (ts : List Tie) (js : List V) (v8 v9 : Option V), σ = [some (.ref p), some (.int mp), some (.int mt), some (.int way), some (.int tl), some (.ref lf), some (.ref lj), some (.int (tl - (told ts : Int))), v8, v9, none, none, none] ∧ H' lj = some (.lst js) ∧ DxAll (Off lj (Off p H')) js (ts.map dTie) ∧ Dx (Off lj (Off p H')) (.ref lf) (dFolk fs) ∧ Spec fs ts ∧ ts.length = i ∧ (told ts : Int) ≤ tl ∧ Drew p H H') ⟨[], [], none, none, ?_, dr5.1 _ _ njp m4, .nil, Dx.same (Off.mono (Off.but dr5.1)) _ _ zf, ⟨FO, (fun _ h => by cases h), by simpa using FO.nd⟩, rfl, by simpa [told] using tl0, d4.trans dr5⟩ (fun _ _ _ _ _ => trivial) ?_ ?_
      · have e : tl - ((told [] : Nat) : Int) = tl := by simp [told]
        rw [e]
        rfl
      · rintro i x σ H6a H6 hi ⟨ts, js, v8, v9, rfl, hj, hjs, hfo, SP, lt, le, d6⟩ ⟨rfl, rfl⟩
        have f2 : 2 ≤ fs.length := bnd.2.2 (by omega)
        obtain ⟨lf', xs', e1, hlf6, hxs6⟩ := dx_list hfo
        cases e1
        have hlf6' := Off.same _ _ (Off.same _ _ hlf6)
        have toH : Same (Off lj (Off p H6)) H6 := fun b o e => Off.same _ _ (Off.same _ _ e)
        refine ⟨_, rfl, lf, rfl, ⟨_, SqL.of hlf6'⟩, fun D nD => ?_⟩
        refine names_end nD hlf6' (Dx.sameAll toH _ _ hxs6) (by omega) fun H7 s7 h7 => ?_
        refine ⟨_, rfl, lj, rfl, ⟨_, SqL.of (s7 _ _ hj)⟩, fun D2 nD2 => ?_⟩
        refine tienames_end nD2 (s7 _ _ hj) (Dx.sameAll (fun b o e => s7 _ _ (toH b o e)) _ _ hjs) (by omega) fun H8 s8 h8 => ?_
        refine ⟨D, D2, _, _, rfl, rfl, s8 _ _ h7, h8, ?_, fun ln nln => ?_⟩
        · rw [List.length_map, List.length_map, List.length_map, List.length_map, sizeLine_eq]
          omega
        have es : (fs.map (·.1)).map V.str ++ (ts.map (·.nm)).map V.str = (fs.map (·.1) ++ ts.map (·.nm)).map V.str := by rw [List.map_append]
        rw [es]
        obtain ⟨s9, m9⟩ := fresh2 (o := .lst ((fs.map (·.1) ++ ts.map (·.nm)).map V.str)) nln
        have s69 := (s7.trans s8).trans s9
        have P9 := d6.2.same s69
        have nlnp : ln ≠ p := ((d6.2.same (s7.trans s8)).ne nln).symm
        have nDj : lj ≠ D := ne_of_none hj nD
        refine ⟨_, rfl, .inl ⟨rfl, _, SqL.of (s69 _ _ hj)⟩, _, rfl, _, rfl, _, rfl, _, rfl, _, rfl, p, ln, .ref lf, fs, _, way, _, rfl, P9, Dx.same (fun b o e => ?_) _ _ hfo, FO, f2, by omega, nlnp, m9, SP.names, ?_, w0, by omega, by omega, fun v t HA xt gt nin lh drA => ?_⟩
        · have n1 := Off.ne (Off.same _ _ e)
          exact Off.at n1 (s69 _ _ (toH b o e))
        · rw [List.length_append, List.length_map, List.length_map]
          omega
        have hjA : HA lj = some (.lst js) := drA.1 _ _ njp (s69 _ _ hj)
        have dA : Drew p H HA := d6.trans ⟨(Same.but s69).trans drA.1, drA.2⟩
        have ljs : js.length = ts.length := by
          have := dxall_len hjs
          rw [List.length_map] at this
          exact this
        refine ⟨lj, _, _, rfl, rfl, hjA, by rw [ljs]; exact small1000 (by omega), ?_⟩
        obtain ⟨ta, vh, rfl, hta, xh⟩ := dx_tie xt
        obtain ⟨th, hvs, rfl, hth, hhs⟩ := dx_hs xh
        have lhv : hvs.length = t.hs.length := by
          have := dxall_len hhs
          rw [List.length_map] at this
          exact this
        have kA : TK HA (upd HA lj (.lst (js ++ [.ref ta]))) := upd_tk hjA
        refine ⟨_, rfl, _, rfl, _, rfl, lj, _, -1, _, rfl, rfl, SqL.of upd_same, atI_last _ _, ta, _, 4, _, rfl, rfl, SqT.of (kA _ _ trivial (Off.same _ _ hta)), atI_int (by decide) rfl, th, _, rfl, .inr (TupY.tk hth (Same.tk Off.same |>.trans kA)).sq, _, _, rfl, rfl, ?_⟩
        have zz : Same (Off lj (Off p H6)) (Off lj (Off p (upd HA lj (.lst (js ++ [.ref ta]))))) := fun b o e => Off.upd2 b o (Off.mono (Off.but ((Same.but s69).trans drA.1)) b o e)
        have hjO : (Off p HA) lj = some (.lst js) := Off.at njp hjA
        refine ⟨ts ++ [t], js ++ [.ref ta], some (.int (0 + (i : Nat))), some (.ref ln), ?_, upd_same, ?_, Dx.same zz _ _ hfo, SP.snoc gt nin, ?_, ?_, fun b o n e => ?_, ?_⟩
        · have e2 : tl - (told ts : Int) - (hvs.length : Int) = tl - ((told (ts ++ [t]) : Nat) : Int) := by rw [told_snoc, lhv]; omega
          rw [← e2]
          rfl
        · rw [List.map_append]
          exact dxall_snoc (Dx.sameAll zz _ _ hjs) (Dx.same Off.upd2 _ _ (Dx.tk (off_tk hjO) _ _ (noL_tie t) xt))
        · rw [List.length_append, lt]
          rfl
        · rw [told_snoc]
          omega
        · rw [upd_ne (nHj b o n e)]
          exact dA.1 b o n e
        · obtain ⟨u0, u1, z2, r⟩ := dA.2
          exact ⟨u0, u1, by rw [upd_ne njp.symm]; exact z2, r⟩
      · rintro σ H6 ⟨ts, js, v8, v9, rfl, hj, hjs, hfo, SP, lt, le, d6⟩
        exact ⟨ts, js, _, v8, v9, rfl, hj, hjs, hfo, SP, by omega, le, d6⟩
    · rintro σ H6 ⟨ts, js, v7, v8, v9, rfl, hj, hjs, hfo, SP, lt, le, d6⟩
      refine ⟨_, rfl, _, rfl, by show 2 ≤ sizeLine; decide, fun t nt => ?_⟩
      obtain ⟨s7, m7⟩ := fresh2 (o := .tup [.ref lf, .ref lj]) nt
      have ntp : t ≠ p := (d6.2.ne nt).symm
      have up : Same (Off lj (Off p H6)) (Off p (upd H6 t (.tup [.ref lf, .ref lj]))) := fun b o e => by
        have n1 := Off.ne (Off.same _ _ e)
        exact Off.at n1 (s7 _ _ (Off.same _ _ (Off.same _ _ e)))
      refine q _ fs ts _ (.tup (Off.at ntp m7) (.cons (Dx.same up _ _ hfo) (.cons (.lst (Off.at njp (s7 _ _ hj)) (Dx.sameAll up _ _ hjs)) .nil))) SP (by omega) (by omega) lt le ⟨d6.1.trans (Same.but s7), d6.2.same s7⟩
end
end Cw
namespace Cw
open PySem PySem.Spec PyProof.Rows L2
/-- a length that a tie may have, in rounds or in cries -/
def LenR (r : Bool) (n : Int) : Prop := if r = true then n = 1 else 2 ≤ n ∧ n ≤ 10 ^ 30
structure Good (r : Bool) (ns : List Str) (t : Tie) : Prop where
  nm : IsName t.nm
  h1 : t.one ∈ ns
  h2 : t.other ∈ ns
  ne : t.one ≠ t.other
  ln : LenR r t.len
  hr : Hear t.len t.hs
structure Specs (r : Bool) (fs : List (Str × Int)) (ts : List Tie) : Prop where
  fo : Folk fs
  ti : ∀ t ∈ ts, Good r (fs.map (·.1)) t
  nd : (fs.map (·.1) ++ ts.map (·.nm)).Nodup
  f1 : 1 ≤ fs.length
  f8 : fs.length ≤ 8
  t12 : ts.length ≤ 12
  h12 : told ts ≤ 12
theorem Spec.cries {fs : List (Str × Int)} {ts : List Tie} (S : Spec fs ts) (f1 : 1 ≤ fs.length) (f8 : fs.length ≤ 8) (t12 : ts.length ≤ 12) (h : (told ts : Int) ≤ 12) : Specs false fs ts :=
  ⟨S.fo, fun t ht => let g := S.ti t ht; ⟨g.nm, g.h1, g.h2, g.ne, by unfold LenR; rw [if_neg Bool.false_ne_true]; exact ⟨g.lo, g.hi⟩, g.hr⟩, S.nd, f1, f8, t12, by omega⟩
/-- the same tie in rounds -/
def inRounds (t : Tie) : Tie := ⟨t.nm, t.one, t.other, 1, []⟩
theorem told_rounds : ∀ ts : List Tie, told (ts.map inRounds) = 0
  | [] => rfl
  | t :: r => by
    show 0 + told (r.map inRounds) = 0
    rw [told_rounds r]
theorem Spec.rounds {fs : List (Str × Int)} {ts : List Tie} (S : Spec fs ts) (f1 : 1 ≤ fs.length) (f8 : fs.length ≤ 8) (t12 : ts.length ≤ 12) : Specs true fs (ts.map inRounds) := by
  refine ⟨S.fo, fun t ht => ?_, ?_, f1, f8, by rw [List.length_map]; exact t12, by rw [told_rounds]; omega⟩
  · obtain ⟨u, hu, rfl⟩ := List.mem_map.mp ht
    have g := S.ti u hu
    exact ⟨g.nm, g.h1, g.h2, g.ne, rfl, .nil, fun _ h => by cases h⟩
  · have e : (ts.map inRounds).map (·.nm) = ts.map (·.nm) := by
      rw [List.map_map]
      rfl
    rw [e]
    exact S.nd
theorem paired_ties {H : Hp} : ∀ {xs : List V} {ts : List Tie}, Paired (fun (x : V) (t : Tie) => Dx H x (dTie t)) xs ts → DxAll H xs (ts.map dTie)
  | _, _, .nil => .nil
  | _, _, .cons h r => .cons h (paired_ties r)
section
variable {P : Program} {w : World} {K : PySem.W.Frag} {mg : Str → Option Value} {base : Heap}
abbrev WebOk (P : Program) (w : World) (K : PySem.W.Frag) (mg : Str → Option Value) (base : Heap) : Prop := ∃ (fT : Addr) (fdT : FuncData), FnP K "_law_web" "_law_web" S_web fT fdT ∧ Binds K fdT P_web [] ∧ FnOk P w K mg base CX0 4 fT fdT P_web spWeb ∧ mg "_law_web" = some (.ref fT)
def spRounds : Sp := fun vs H Q _ => ∃ (p : Addr) (mp mt : Int), vs = [.ref p, .int mp, .int mt] ∧ Pot H p ∧ 1 ≤ mp ∧ mp ≤ 8 ∧ 0 ≤ mt ∧ mt ≤ 12 ∧
  ∀ (v : V) (fs : List (Str × Int)) (ts : List Tie) (H' : Hp), Dx (Off p H') v (dSpec fs ts) → Specs true fs ts → Drew p H H' → Q v H'
theorem ok_rounds {f : Addr} {fd : FuncData} (F : FnP K "_law_rounds" "_law_rounds" S_rounds f fd) (WO : WebOk P w K mg base) : FnOk P w K mg base CX0 5 f fd P_rounds spRounds := by
  obtain ⟨fT, fdT, FT, bT, GT, gT⟩ := WO
  refine F.ok sc_rounds (fun vs H Q E h => ?_) (fun cdv A outer s H vs Q E hr h => ⟨_, PSs.nox (pss_cons (ps_asg (pe_call GT hr rfl gT FT.kp bT .nil pass0 (pa_cons (pv 0) (pa_cons (pv 1) (pa_cons (pv 2) (pa_cons pe_int (pa_cons pe_int pa_nil))))))
      (pg_tup (by rfl) (pgs_cons (pg_name (i := 3) sc_rounds.nd rfl (.inl rfl)) (pgs_cons (pg_name (i := 4) sc_rounds.nd rfl (.inl rfl)) pgs_nil))))
    (pss_one (ps_ret (pe_tup (pa_cons (pv 3) (pa_cons (pe_lc (own := [("_law_name_here", 5), ("_law_one", 6), ("_law_other", 7), ("_law_length_here", 8), ("_law_hearers_here", 9)]) (g := gTup K 5 (gCons (gName 5) (gCons (gName 6) (gCons (gName 7) (gCons (gName 8) (gCons (gName 9) gNil)))))) rfl sc_rounds.nd (pi_list (pv 4))
      (blkOk_by (own := [("_law_name_here", 5), ("_law_one", 6), ("_law_other", 7), ("_law_length_here", 8), ("_law_hearers_here", 9)]) (N := N_rounds) (sc := defScope S_rounds) (by decide +kernel))
      (fun _ _ _ _ _ => pg_tup rfl (pgs_cons (pg_name (i := 5) sc_rounds.nd rfl (.inl rfl)) (pgs_cons (pg_name (i := 6) sc_rounds.nd rfl (.inl rfl)) (pgs_cons (pg_name (i := 7) sc_rounds.nd rfl (.inl rfl)) (pgs_cons (pg_name (i := 8) sc_rounds.nd rfl (.inl rfl)) (pgs_cons (pg_name (i := 9) sc_rounds.nd rfl (.inl rfl)) pgs_nil))))))
      (fun _ _ _ _ _ => pts_nil) (fun _ _ _ _ _ => pe_tup (pa_cons (pv 5) (pa_cons (pv 6) (pa_cons (pv 7) (pa_cons pe_int (pa_cons pe_tupZ pa_nil))))))) pa_nil)))))), ?_⟩)
  · obtain ⟨p, mp, mt, rfl, _⟩ := h
    rfl
  · obtain ⟨p, mp, mt, rfl, hP, mp1, mp8, mt0, mt12, q⟩ := h
    rw [show L2.start N_rounds [V.ref p, V.int mp, V.int mt] = [some (V.ref p), some (.int mp), some (.int mt), none, none, none, none, none, none, none] from rfl]
    refine ⟨_, rfl, _, rfl, _, rfl, p, mp, mt, 0, 0, rfl, hP, mp1, mp8, mt0, mt12, by decide, by decide, by decide, fun v fs ts H1 xs SP f1 f8 t12 th dr1 => ?_⟩
    obtain ⟨t, ys, rfl, ht, hy⟩ := dx_tuple xs
    cases hy with
    | @cons vf _ _ _ hf hy =>
      cases hy with
      | @cons vj _ _ _ hj hy =>
        cases hy
        refine ⟨t, _, rfl, SqT.of (Off.same _ _ ht), rfl, _, _, rfl, _, _, rfl, rfl, ?_⟩
        obtain ⟨lj, js, rfl, hlj, hjs⟩ := dx_list hj
        have njp : lj ≠ p := Off.ne hlj
        have lx : js.length = ts.length := by
          have := dxall_len hjs
          rw [List.length_map] at this
          exact this
        refine ⟨_, rfl, _, rfl, lj, rfl, ⟨_, SqL.of (Off.same _ _ hlj)⟩, fun D nD => ?_⟩
        have nDp : D ≠ p := (dr1.2.ne nD).symm
        refine lc_list (K := K) (a := lj) (xs := js) (fun i H2 => Same H1 (Off D H2) ∧ ∃ us : List V, H2 D = some (.lst us) ∧ DxAll (Off D (Off p H2)) us ((ts.take i).map fun t => dTie (inRounds t))) ⟨fun b o e => Off.at (ne_of_none e nD) (same_new nD _ _ e), [], upd_same, .nil⟩ (fun i H2 _ hh => SqL.of (Off.same _ _ (hh.1 _ _ (Off.same _ _ hlj)))) ?_ ?_
        · rintro i x H2 hxi ⟨sm, us, hD, hus⟩
          have hi : i < ts.length := by
            have := (List.getElem?_eq_some_iff.mp hxi).1
            omega
          obtain ⟨y, e1, e2⟩ := dxall_get (i := i) hjs (by rw [List.getElem?_map, List.getElem?_eq_getElem hi]; rfl)
          have exy : x = y := Option.some.inj (hxi.symm.trans e1)
          subst exy
          obtain ⟨ta, vh, rfl, hta, _⟩ := dx_tie e2
          have P2 : Pot H2 p := by
            obtain ⟨u0, u1, z2, r⟩ := dr1.2
            exact ⟨u0, u1, Off.same _ _ (sm _ _ z2), r⟩
          refine ⟨ta, [.str ts[i].nm, .str ts[i].one, .str ts[i].other, .int ts[i].len, vh], rfl, SqT.of (Off.same _ _ (sm _ _ (Off.same _ _ hta))), rfl, .str ts[i].nm, [.str ts[i].one, .str ts[i].other, .int ts[i].len, vh], rfl, .str ts[i].one, [.str ts[i].other, .int ts[i].len, vh], rfl, .str ts[i].other, [.int ts[i].len, vh], rfl, .int ts[i].len, [vh], rfl, vh, [], rfl, rfl, by simp only [List.map, wipe, List.set], ?_⟩
          dsimp only [tYes]
          rw [if_pos rfl]
          refine ⟨_, rfl, _, rfl, _, rfl, fun t0 ob nt0 dn => ⟨by show 5 ≤ sizeLine; decide, fun t1 nt1 => ?_⟩⟩
          obtain ⟨s3, m3⟩ := fresh2 (o := .frz ob (.tup [])) nt0
          obtain ⟨s4, m4⟩ := fresh2 (o := .tup [.str ts[i].nm, .str ts[i].one, .str ts[i].other, .int 1, .ref t0]) nt1
          have hD4 := s4 _ _ (s3 _ _ hD)
          have lus : us.length = i := by
            have := dxall_len hus
            rw [List.length_map, List.length_take] at this
            omega
          have n0p : t0 ≠ p := (P2.ne nt0).symm
          have n1p : t1 ≠ p := ((P2.same s3).ne nt1).symm
          have n0D : t0 ≠ D := (ne_of_none hD nt0).symm
          have n1D : t1 ≠ D := (ne_of_none (s3 _ _ hD) nt1).symm
          have up : Same (Off D (Off p H2)) (Off D (Off p (upd (upd (upd H2 t0 (.frz ob (.tup []))) t1 (.tup [.str ts[i].nm, .str ts[i].one, .str ts[i].other, .int 1, .ref t0])) D (.lst (us ++ [.ref t1]))))) := fun b o e => by
            have a1 := Off.ne e
            have a2 := Off.ne (Off.same _ _ e)
            exact Off.at a1 (Off.at a2 (by rw [upd_ne a1]; exact s4 _ _ (s3 _ _ (Off.same _ _ (Off.same _ _ e)))))
          refine ⟨_, hD4, by rw [lus]; exact small1000 (by omega), fun b o e => ?_, us ++ [.ref t1], upd_same, ?_⟩
          · have nb : b ≠ D := ne_of_none e nD
            exact Off.at nb (by rw [upd_ne nb]; exact s4 _ _ (s3 _ _ (Off.same _ _ (sm b o e))))
          · rw [List.take_add_one, List.getElem?_eq_getElem hi, List.map_append]
            refine dxall_snoc (Dx.sameAll up _ _ hus) ?_
            refine .tup (Off.at n1D (Off.at n1p (by rw [upd_ne n1D]; exact m4))) (.cons (.str _) (.cons (.str _) (.cons (.str _) (.cons (.int _) (.cons (.tupz (xs := []) (Off.at n0D (Off.at n0p (by rw [upd_ne n0D]; exact s4 _ _ m3))) dn .nil rfl) .nil)))))
        · rintro H2 ⟨sm, us, hD, hus⟩
          rw [lx, List.take_length] at hus
          have s12 : Same H1 H2 := fun b o e => Off.same _ _ (sm b o e)
          refine ⟨by show 2 ≤ sizeLine; decide, fun tt ntt => ?_⟩
          obtain ⟨s3, m3⟩ := fresh2 (o := .tup [vf, .ref D]) ntt
          have ntp : tt ≠ p := ((dr1.2.same s12).ne ntt).symm
          have s13 := s12.trans s3
          refine q _ fs (ts.map inRounds) _ (.tup (Off.at ntp m3) (.cons (Dx.same (Off.but (Same.but s13)) _ _ hf) (.cons (.lst (Off.at nDp (s3 _ _ hD)) ?_) .nil))) (SP.rounds f1 f8 t12) ⟨dr1.1.trans (Same.but s13), dr1.2.same s13⟩
          rw [List.map_map]
          exact Dx.sameAll (fun b o e => Off.at (Off.ne (Off.same _ _ e)) (s3 _ _ (Off.same _ _ (Off.same _ _ e)))) _ _ hus
end
end Cw
namespace Cw
open PySem PySem.Spec PyProof.Rows L2
/-- the built-in names are as they were -/
structure Blt (mg : Str → Option Value) : Prop where
  isinstance_ : mg "isinstance" = none
  int_ : mg "int" = none
  bool_ : mg "bool" = none
  str_ : mg "str" = none
  list_ : mg "list" = none
  tuple_ : mg "tuple" = none
  dict_ : mg "dict" = none
  len_ : mg "len" = none
  all_ : mg "all" = none
  sum_ : mg "sum" = none
  enumerate_ : mg "enumerate" = none
  range_ : mg "range" = none
  repr_ : mg "repr" = none
  abs_ : mg "abs" = none
  max_ : mg "max" = none
  min_ : mg "min" = none
  divmod_ : mg "divmod" = none
  sorted_ : mg "sorted" = none
theorem qd {p : Prop} [Decidable p] {Q : VK} {H : Hp} (h : p) (q : Q (.bl true) H) : Q (.bl (decide p)) H := by
  rw [decide_eq_true h]
  exact q
section
variable {P : Program} {w : World} {K : PySem.W.Frag} {mg : Str → Option Value} {base : Heap}
/-- a def of the program that keeps its promise, as callers need it -/
def Has (P : Program) (w : World) (K : PySem.W.Frag) (mg : Str → Option Value) (base : Heap) (n : Str) (st : Stmt) (k : Nat) (ps : List Str) (sp : Sp) : Prop := ∃ (fT : Addr) (fdT : FuncData), FnP K n n st fT fdT ∧ Binds K fdT ps [] ∧ FnOk P w K mg base CX0 k fT fdT ps sp ∧ mg n = some (.ref fT)
def spWhole : Sp := fun vs H Q _ => ∃ n : Int, vs = [.int n] ∧ Q (.bl true) H
theorem ok_whole {f : Addr} {fd : FuncData} (F : FnP K "is_whole" "is_whole" S_is_whole f fd) (B : Blt mg) : FnOk P w K mg base CX0 1 f fd P_is_whole spWhole := by
  refine F.ok sc_is_whole (fun vs H Q E h => ?_) (fun cdv A outer s H vs Q E hr h => ⟨_, PSs.nox (pss_one (ps_ret (pe_and (pe_callB call_isi (by rfl) B.isinstance_ (by decide +kernel) (pa_cons (pv 0) (pa_cons (pe_bltn (v := .ty "int") (u := .type "int") (by rfl) B.int_ (by decide +kernel) rfl) pa_nil))) (pe_one (pe_not (pe_callB call_isi (by rfl) B.isinstance_ (by decide +kernel) (pa_cons (pv 0) (pa_cons (pe_bltn (v := .ty "bool") (u := .type "bool") (by rfl) B.bool_ (by decide +kernel) rfl) pa_nil)))))))), ?_⟩)
  · obtain ⟨n, rfl, _⟩ := h
    rfl
  · obtain ⟨n, rfl, q⟩ := h
    exact ⟨_, rfl, _, _, _, _, _, rfl, .ty _, ty_int _, kit_ty k_int_int, true, rfl, iteT ⟨_, rfl, _, _, _, _, _, rfl, .ty _, ty_int _, kit_ty k_int_bool, false, rfl, q⟩⟩
def spState : Sp := fun vs H Q _ => ∃ n : Int, vs = [.int n] ∧ 0 ≤ n ∧ n ≤ 2 ∧ Q (.bl true) H
theorem ok_state {f : Addr} {fd : FuncData} (F : FnP K "is_state" "is_state" S_is_state f fd) (W : Has P w K mg base "is_whole" S_is_whole 1 P_is_whole spWhole) : FnOk P w K mg base CX0 2 f fd P_is_state spState := by
  obtain ⟨fW, fdW, FW, bW, GW, gW⟩ := W
  refine F.ok sc_is_state (fun vs H Q E h => ?_) (fun cdv A outer s H vs Q E hr h => ⟨_, PSs.nox (pss_one (ps_ret (pe_and (pe_call GW hr rfl gW FW.kp bW .nil pass0 (pa_cons (pv 0) pa_nil)) (pe_one (pe_chain op_le op_le pe_int (pv 0) pe_int))))), ?_⟩)
  · obtain ⟨n, rfl, _⟩ := h
    rfl
  · obtain ⟨n, rfl, n0, n2, q⟩ := h
    refine ⟨_, rfl, n, rfl, true, rfl, iteT ⟨_, rfl, _, _, rfl, rfl, _, rfl, ?_⟩⟩
    rw [if_pos (decide_eq_true n0)]
    refine ⟨_, _, rfl, rfl, ?_⟩
    exact qd n2 q
def spLength : Sp := fun vs H Q _ => ∃ (n : Int) (r : Bool), vs = [.int n, .bl r] ∧ LenR r n ∧ Q (.bl true) H
theorem ok_islen {f : Addr} {fd : FuncData} (F : FnP K "is_length" "is_length" S_is_length f fd) (W : Has P w K mg base "is_whole" S_is_whole 1 P_is_whole spWhole) (mL : ∃ t, mg "LONGEST" = some (.int (10 ^ 30) t)) : FnOk P w K mg base CX0 2 f fd P_is_length spLength := by
  obtain ⟨fW, fdW, FW, bW, GW, gW⟩ := W
  obtain ⟨tL, mL⟩ := mL
  refine F.ok sc_is_length (fun vs H Q E h => ?_) (fun cdv A outer s H vs Q E hr h => ⟨_, PSs.nox (pss_cons (ps_if (pt_val (pv 1)) (pss_one (ps_ret (pe_and (pe_call GW hr rfl gW FW.kp bW .nil pass0 (pa_cons (pv 0) pa_nil)) (pe_one (pe_cmpR op_eq (pv 0) pe_int (nomark _)))))) pss_nil)
     (pss_one (ps_ret (pe_and (pe_call GW hr rfl gW FW.kp bW .nil pass0 (pa_cons (pv 0) pa_nil)) (pe_one (pe_chain op_le op_le pe_int (pv 0) (pe_glob (v := .int (10 ^ 30)) rfl mL ⟨_, rfl⟩))))))), ?_⟩)
  · obtain ⟨n, r, rfl, _⟩ := h
    rfl
  · obtain ⟨n, r, rfl, L, q⟩ := h
    cases r with
    | true =>
      have e : n = 1 := L
      subst e
      exact ⟨_, rfl, true, rfl, iteT ⟨_, rfl, 1, rfl, true, rfl, iteT ⟨_, rfl, rfl, q⟩⟩⟩
    | false =>
      obtain ⟨n0, n2⟩ := (show 2 ≤ n ∧ n ≤ 10 ^ 30 from L)
      refine ⟨_, rfl, false, rfl, iteF ⟨_, rfl, n, rfl, true, rfl, iteT ⟨_, rfl, _, _, rfl, rfl, _, rfl, ?_⟩⟩⟩
      rw [if_pos (decide_eq_true n0)]
      refine ⟨_, _, rfl, rfl, ?_⟩
      exact qd n2 q
/-- a tuple of so many, or something that is no tuple -/
def spTupOf (K : PySem.W.Frag) : Sp := fun vs H Q _ => ∃ (v : V) (m : Int), vs = [v, .int m] ∧ ((∃ a xs, v = .ref a ∧ SqT K H a xs ∧ Q (.bl (decide ((xs.length : Int) = m))) H) ∨ ((∃ t, TyX K H v (.type t) ∧ kitB t "tuple" = some false) ∧ Q (.bl false) H))
theorem ok_tupof {f : Addr} {fd : FuncData} (F : FnP K "is_tuple_of" "is_tuple_of" S_is_tuple_of f fd) (B : Blt mg) : FnOk P w K mg base CX0 1 f fd P_is_tuple_of (spTupOf K) := by
  refine F.ok sc_is_tuple_of (fun vs H Q E h => ?_) (fun cdv A outer s H vs Q E hr h => ⟨_, PSs.nox (pss_one (ps_ret (pe_and (pe_callB call_isi (by rfl) B.isinstance_ (by decide +kernel) (pa_cons (pv 0) (pa_cons (pe_bltn (v := .ty "tuple") (u := .type "tuple") (by rfl) B.tuple_ (by decide +kernel) rfl) pa_nil))) (pe_one (pe_cmpR op_eq (pe_callB call_len_seq (by rfl) B.len_ PySem.boot_len (pa_cons (pv 0) pa_nil)) (pv 1) (nomark _)))))), ?_⟩)
  · obtain ⟨v, m, rfl, _⟩ := h
    rfl
  · obtain ⟨v, m, rfl, h⟩ := h
    rcases h with ⟨a, xs, rfl, hx, q⟩ | ⟨⟨t, ht, hk⟩, q⟩
    · refine ⟨_, rfl, _, _, _, _, _, rfl, .ty _, ty_tup hx, kit_ty k_tup_tup, true, rfl, iteT ⟨_, rfl, a, xs, rfl, .inr hx, _, rfl, rfl, ?_⟩⟩
      simpa using q
    · exact ⟨_, rfl, _, _, _, _, _, rfl, .ty _, ht, kit_ty hk, false, rfl, iteF q⟩
/-- states by names -/
def kvF (fs : List (Str × Int)) : List (Key × V) := fs.map fun f => (Sum.inr f.1, .int f.2)
theorem valF : ∀ (fs : List (Str × Int)) (z : Str), (valV (kvF fs) (Sum.inr z)).isSome = decide (z ∈ fs.map (·.1)) := by
  intro fs z
  induction fs with
  | nil => rfl
  | cons f r ih =>
    unfold valV kvF at *
    rw [List.map_cons, List.find?_cons]
    by_cases h : f.1 = z
    · subst h
      simp
    · have h2 : ¬ (z = f.1) := fun e => h e.symm
      have e1 : decide (((Sum.inr f.1 : Key), V.int f.2).1 = Sum.inr z) = false := by
        simp [h]
      rw [e1]
      simp only [List.map_cons, List.mem_cons, h2, false_or]
      exact ih
def spEnds : Sp := fun vs H Q _ => ∃ (a : Addr) (y z : Str) (fs : List (Str × Int)), vs = [.str y, .str z, .ref a] ∧ H a = some (.dK (kvF fs)) ∧ y ∈ fs.map (·.1) ∧ z ∈ fs.map (·.1) ∧ y ≠ z ∧ Q (.bl true) H
theorem ok_ends {f : Addr} {fd : FuncData} (F : FnP K "are_ends" "are_ends" S_are_ends f fd) (B : Blt mg) : FnOk P w K mg base CX0 1 f fd P_are_ends spEnds := by
  refine F.ok sc_are_ends (fun vs H Q E h => ?_) (fun cdv A outer s H vs Q E hr h => ⟨_, PSs.nox (pss_cons (ps_if (PW.pt (pw_or (pt_not (pt_val (pe_callB call_isi (by rfl) B.isinstance_ (by decide +kernel) (pa_cons (pv 0) (pa_cons (pe_bltn (v := .ty "str") (u := .type "str") (by rfl) B.str_ (by decide +kernel) rfl) pa_nil))))) (pw_or1 (pt_not (pt_val (pe_callB call_isi (by rfl) B.isinstance_ (by decide +kernel) (pa_cons (pv 1) (pa_cons (pe_bltn (v := .ty "str") (u := .type "str") (by rfl) B.str_ (by decide +kernel) rfl) pa_nil)))))))) pss_no pss_nil)
     (pss_one (ps_ret (pe_and (pe_cmp (pc_din (hu_of hr) (pv 0) (pv 2))) (pe_and (pe_cmp (pc_din (hu_of hr) (pv 1) (pv 2))) (pe_one (pe_cmpR op_ne (pv 0) (pv 1) (nomark _)))))))), ?_⟩)
  · obtain ⟨a, y, z, fs, rfl, _⟩ := h
    rfl
  · obtain ⟨a, y, z, fs, rfl, ha, hy, hz, ne, q⟩ := h
    refine ⟨_, rfl, _, _, _, _, _, rfl, .ty _, ty_str _, kit_ty k_str_str, true, rfl, iteF ⟨_, rfl, _, _, _, _, _, rfl, .ty _, ty_str _, kit_ty k_str_str, true, rfl, iteF ?_⟩⟩
    refine ⟨_, rfl, _, rfl, a, _, rfl, DGet.k (k := Sum.inr y) ha, _, rfl, ?_⟩
    rw [valF, decide_eq_true hy]
    refine iteT ⟨_, rfl, _, rfl, a, _, rfl, DGet.k (k := Sum.inr z) ha, _, rfl, ?_⟩
    rw [valF, decide_eq_true hz]
    refine iteT ⟨_, rfl, _, rfl, rfl, ?_⟩
    have e : (!decide (V.str y = V.str z)) = true := by
      simp [ne]
    rw [e]
    exact q
end
end Cw
namespace Cw
open PySem PySem.Spec PyProof.Rows L2
theorem le_a {c : Nat} (h : 97 ≤ c) : (!decide ((⟨#[c]⟩ : Str).cps.toList < (Str.ofString "a").cps.toList)) = true := by
  have e : (Str.ofString "a").cps.toList = [97] := by decide +kernel
  rw [e]
  show (!decide (([c] : List Nat) < [97])) = true
  have : ¬ (([c] : List Nat) < [97]) := by
    intro z
    rcases List.cons_lt_cons_iff.mp z with z | ⟨_, z⟩
    · omega
    · exact absurd z (by simp)
  rw [decide_eq_false this]
  rfl
theorem le_z {c : Nat} (h : c ≤ 122) : (!decide ((Str.ofString "z").cps.toList < (⟨#[c]⟩ : Str).cps.toList)) = true := by
  have e : (Str.ofString "z").cps.toList = [122] := by decide +kernel
  rw [e]
  show (!decide (([122] : List Nat) < [c])) = true
  have : ¬ (([122] : List Nat) < [c]) := by
    intro z
    rcases List.cons_lt_cons_iff.mp z with z | ⟨_, z⟩
    · omega
    · exact absurd z (by simp)
  rw [decide_eq_false this]
  rfl
theorem qb {p : Prop} [Decidable p] (h : p) : V.bl (decide p) = V.bl true := by rw [decide_eq_true h]
def ahead (hs : List (Int × Int)) : Nat → Int
  | 0 => 0
  | n + 1 => ((hs[n]?).map (·.1)).getD 0
theorem ahead_lt {L : Int} {hs : List (Int × Int)} (h : Hear L hs) {i : Nat} (hi : i < hs.length) : ahead hs i < hs[i].1 := by
  cases i with
  | zero => exact (h.at_ _ (List.getElem_mem hi)).1
  | succ n =>
    have hn : n < hs.length := Nat.lt_of_succ_lt hi
    show ((hs[n]?).map (·.1)).getD 0 < _
    rw [List.getElem?_eq_getElem hn]
    exact List.pairwise_iff_getElem.mp h.up n (n + 1) hn hi (Nat.lt_succ_self n)
theorem dx_hear {H : Hp} {v : V} {h : Int × Int} (x : Dx H v (dHear h)) : ∃ a, v = .ref a ∧ H a = some (.tup [.int h.1, .int h.2]) := by
  obtain ⟨a, ys, rfl, e, r⟩ := dx_tuple x
  cases r with
  | cons h1 r =>
    cases r with
    | cons h2 r =>
      cases r
      cases dx_int h1
      cases dx_int h2
      exact ⟨a, rfl, e⟩
section
variable {P : Program} {w : World} {K : PySem.W.Frag} {mg : Str → Option Value} {base : Heap}
def spIsName : Sp := fun vs H Q _ => ∃ z : Str, vs = [.str z] ∧ IsName z ∧ ∀ H', Same H H' → Q (.bl true) H'
theorem ok_isname {f : Addr} {fd : FuncData} (F : FnP K "is_name" "is_name" S_is_name f fd) (B : Blt mg) (mL : ∃ t, mg "LONGEST_NAME" = some (.int 8 t)) : FnOk P w K mg base CX0 1 f fd P_is_name spIsName := by
  obtain ⟨tL, mL⟩ := mL
  refine F.ok sc_is_name (fun vs H Q E h => ?_) (fun cdv A outer s H vs Q E hr h => ⟨_, PSs.nox (pss_cons (ps_if (PW.pt (pw_or (pt_not (pt_val (pe_callB call_isi (by rfl) B.isinstance_ (by decide +kernel) (pa_cons (pv 0) (pa_cons (pe_bltn (v := .ty "str") (u := .type "str") (by rfl) B.str_ (by decide +kernel) rfl) pa_nil))))) (pw_or1 (pt_not (pt_chain op_le op_le pe_int (pe_callB call_len_str (by rfl) B.len_ PySem.boot_len (pa_cons (pv 0) pa_nil)) (pe_glob (v := .int 8) rfl mL ⟨_, rfl⟩)))))) pss_no pss_nil)
     (pss_one (ps_ret (pe_callB (cr_all rfl) (by rfl) B.all_ (by decide +kernel) (pa_cons (pe_lc (own := [("letter", 1)]) (g := gName 1) rfl sc_is_name.nd (pi_str (pv 0))
        (blkOk_by (own := [("letter", 1)]) (N := N_is_name) (sc := defScope S_is_name) (by decide +kernel)) (fun _ _ _ _ _ => pg_name (i := 1) sc_is_name.nd rfl (Or.inl rfl)) (fun _ _ _ _ _ => pts_nil) (fun _ _ _ _ _ => pe_chain op_le_str op_le_str pe_str (pv 1) pe_str)) pa_nil))))), ?_⟩)
  · obtain ⟨z, rfl, _⟩ := h
    rfl
  · obtain ⟨z, rfl, ⟨z1, z8, zc⟩, q⟩ := h
    refine ⟨_, rfl, _, _, _, _, _, rfl, .ty _, ty_str _, kit_ty k_str_str, true, rfl, iteF ⟨_, rfl, z, rfl, by rw [sizeLine_eq]; omega, _, _, rfl, rfl, _, rfl, ?_⟩⟩
    rw [if_pos (decide_eq_true (show (1 : Int) ≤ (z.length : Int) by omega))]
    refine ⟨_, _, rfl, rfl, _, rfl, ?_⟩
    rw [decide_eq_true (show (z.length : Int) ≤ 8 by omega)]
    refine iteF ⟨_, rfl, _, rfl, fun D nD => ?_⟩
    refine lc_it (walk_str (z := z)) (fun i H2 => Same H (Off D H2) ∧ H2 D = some (.lst ((List.replicate i true).map V.bl))) ⟨fun b o e => Off.at (ne_of_none e nD) (same_new nD _ _ e), upd_same⟩ (fun _ _ _ _ => trivial) ?_ ?_
    · rintro i x H4 H5 hi ⟨sm, hD⟩ ⟨rfl, c, hc, rfl⟩
      refine ⟨rfl, ?_⟩
      dsimp only [tYes]
      rw [if_pos rfl]
      have cm : c ∈ TL.tl z := by
        show c ∈ z.cps.toList
        exact Array.mem_toList_iff.mpr (Array.mem_of_getElem? hc)
      obtain ⟨c1, c2⟩ := zc c cm
      refine ⟨_, rfl, _, _, rfl, rfl, true, by rw [le_a c1], iteT ⟨_, _, rfl, rfl, ?_⟩⟩
      rw [le_z c2]
      have hi2 : i < z.length := hi
      refine ⟨_, hD, by rw [List.length_map, List.length_replicate]; exact small1000 (by omega), fun b o e => ?_, ?_⟩
      · have nb : b ≠ D := ne_of_none e nD
        exact Off.at nb (by rw [upd_ne nb]; exact Off.same _ _ (sm b o e))
      · rw [upd_same, List.replicate_succ', List.map_append]
        rfl
    · rintro H2 ⟨sm, hD⟩
      refine ⟨D, List.replicate _ true, rfl, SqL.of hD, ?_⟩
      rw [show (List.replicate z.cps.size true).all id = true from by simp]
      exact q _ fun b o e => Off.same _ _ (sm b o e)
def spHearers (K : PySem.W.Frag) : Sp := fun vs H Q _ => ∃ (v : V) (L : Int) (hs : List (Int × Int)), vs = [v, .int L] ∧ Dx H v (dHs hs) ∧ Hear L hs ∧ Q (.bl true) H
theorem ok_arehear {f : Addr} {fd : FuncData} (F : FnP K "are_hearers" "are_hearers" S_are_hearers f fd) (B : Blt mg) (W : Has P w K mg base "is_whole" S_is_whole 1 P_is_whole spWhole) (S : Has P w K mg base "is_state" S_is_state 2 P_is_state spState)
    (T : Has P w K mg base "is_tuple_of" S_is_tuple_of 1 P_is_tuple_of (spTupOf K)) : FnOk P w K mg base CX0 3 f fd P_are_hearers (spHearers K) := by
  obtain ⟨fW, fdW, FW, bW, GW, gW⟩ := W
  obtain ⟨fS, fdS, FS, bS, GS, gS⟩ := S
  obtain ⟨fT, fdT, FT, bT, GT, gT⟩ := T
  refine F.ok sc_are_hearers (fun vs H Q E h => ?_) (fun cdv A outer s H vs Q E hr h => ⟨_, PSs.nox (pss_cons (ps_if (pt_not (pt_val (pe_callB call_isi (by rfl) B.isinstance_ (by decide +kernel) (pa_cons (pv 0) (pa_cons (pe_bltn (v := .ty "tuple") (u := .type "tuple") (by rfl) B.tuple_ (by decide +kernel) rfl) pa_nil))))) pss_no pss_nil)
     (pss_cons (ps_set (i := 2) sc_are_hearers.nd rfl (.inl rfl) pe_int)
     (pss_cons (ps_for PassesOwn.never rfl (pi_tup (pv 0)) (pg_name (i := 3) sc_are_hearers.nd rfl (Or.inl rfl))
        (pss_cons (ps_if (pt_not (pt_val (pe_call GT (hr.mono (by decide)) rfl gT FT.kp bT .nil pass0 (pa_cons (pv 3) (pa_cons pe_int pa_nil))))) pss_no pss_nil)
        (pss_cons (ps_asg (pv 3) (pg_tup (by rfl) (pgs_cons (pg_name (i := 4) sc_are_hearers.nd rfl (.inl rfl)) (pgs_cons (pg_name (i := 5) sc_are_hearers.nd rfl (.inl rfl)) pgs_nil))))
        (pss_cons (ps_if (PW.pt (pw_or (pt_not (pt_val (pe_call GW (hr.mono (by decide)) rfl gW FW.kp bW .nil pass0 (pa_cons (pv 4) pa_nil)))) (pw_or1 (pt_not (pt_chain op_lt op_lt (pv 2) (pv 4) (pv 1)))))) pss_no pss_nil)
        (pss_cons (ps_if (PW.pt (pw_or (pt_not (pt_val (pe_call GS hr rfl gS FS.kp bS .nil pass0 (pa_cons (pv 5) pa_nil)))) (pw_or1 (pt_cmpR op_eq (pv 5) pe_int (nomark _))))) pss_no pss_nil)
        (pss_one (ps_set (i := 2) sc_are_hearers.nd rfl (.inl rfl) (pv 4))))))))
     (pss_one (ps_ret pe_bl))))), ?_⟩)
  · obtain ⟨v, L, hs, rfl, _⟩ := h
    rfl
  · obtain ⟨v, L, hs, rfl, hv, hh, q⟩ := h
    obtain ⟨a, xs, rfl, ha, hx⟩ := dx_hs hv
    have lx : xs.length = hs.length := by
      have := dxall_len hx
      rw [List.length_map] at this
      exact this
    refine ⟨_, rfl, _, _, _, _, _, rfl, .ty _, ty_tup (ha.sq), kit_ty k_tup_tup, true, rfl, iteF ?_⟩
    rw [show L2.start N_are_hearers [V.ref a, V.int L] = [some (V.ref a), some (.int L), none, none, none, none] from rfl]
    refine ⟨_, rfl, a, rfl, ⟨_, ha.sq⟩, ?_⟩
    refine for_it (walk_tup (xs := xs)) (fun i σ H2 => H2 = H ∧ ∃ x3 x4 x5, σ = [some (V.ref a), some (.int L), some (.int (ahead hs i)), x3, x4, x5]) ⟨rfl, none, none, none, rfl⟩ (fun i σ H2 _ h => by rw [h.1]; exact ha.sq) ?_ ?_
    · rintro i x σ H2 H3 hi ⟨rfl, x3, x4, x5, rfl⟩ ⟨rfl, hxi⟩
      have hi2 : i < hs.length := by omega
      obtain ⟨y, e1, e2⟩ := dxall_get (i := i) hx (by rw [List.getElem?_map, List.getElem?_eq_getElem hi2]; rfl)
      have exy : x = y := Option.some.inj (hxi.symm.trans e1)
      subst exy
      obtain ⟨t, rfl, ht⟩ := dx_hear e2
      obtain ⟨b1, b2, b3, b4⟩ := hh.at_ _ (List.getElem_mem hi2)
      have al := ahead_lt hh hi2
      refine ⟨_, rfl, _, 2, rfl, .inl ⟨t, _, rfl, SqT.of ht, true, rfl, iteF ?_⟩⟩
      refine ⟨_, rfl, t, _, rfl, SqT.of ht, rfl, _, _, rfl, _, _, rfl, rfl, ?_⟩
      refine ⟨_, rfl, _, rfl, true, rfl, iteF ⟨_, rfl, _, rfl, _, _, rfl, rfl, _, rfl, ?_⟩⟩
      rw [if_pos (decide_eq_true al)]
      refine ⟨_, rfl, _, _, rfl, rfl, true, qb b2, iteF ?_⟩
      refine ⟨_, rfl, _, rfl, by omega, by omega, true, rfl, iteF ⟨_, rfl, rfl, _, rfl, ?_⟩⟩
      have e0 : decide (V.int hs[i].2 = V.int 0) = false := decide_eq_false fun z => by
        have := V.int.inj z
        omega
      rw [e0]
      have e1 : ahead hs (i + 1) = hs[i].1 := by
        show ((hs[i]?).map (·.1)).getD 0 = _
        rw [List.getElem?_eq_getElem hi2]
        rfl
      rw [e1]
      exact iteF ⟨_, rfl, rfl, some (V.ref t), some (V.int hs[i].1), some (V.int hs[i].2), rfl⟩
    · rintro σ H2 ⟨rfl, x3, x4, x5, rfl⟩
      exact q
end
end Cw
namespace Cw
open PySem PySem.Spec PyProof.Rows L2
theorem valF_none {fs : List (Str × Int)} {z : Str} (h : z ∉ fs.map (·.1)) : valV (kvF fs) (Sum.inr z) = none := by
  have e := valF fs z
  rw [decide_eq_false h] at e
  cases hv : valV (kvF fs) (Sum.inr z) with
  | none => rfl
  | some v => rw [hv] at e; cases e
theorem put_new {kvs : List (Key × V)} {k : Key} {v : V} (h : valV kvs k = none) : putK kvs k v = kvs ++ [(k, v)] := by
  have e : (kvs.any fun kv => decide (kv.1 = k)) = false := by
    unfold valV at h
    have h1 : kvs.find? (fun kv => decide (kv.1 = k)) = none := by
      cases hf : kvs.find? (fun kv => decide (kv.1 = k)) with
      | none => rfl
      | some x => rw [hf] at h; cases h
    rw [List.find?_eq_none] at h1
    rw [List.any_eq_false]
    exact h1
  unfold putK
  rw [e]
  simp
section
variable {P : Program} {w : World} {K : PySem.W.Frag} {mg : Str → Option Value} {base : Heap}
def spChP : Sp := fun vs H Q _ => ∃ (v : V) (fs : List (Str × Int)), vs = [v] ∧ Dx H v (dFolk fs) ∧ Folk fs ∧ 1 ≤ fs.length ∧ fs.length ≤ 8 ∧ ∀ (d : Addr) (H' : Hp), Same H H' → H d = none → H' d = some (.dK (kvF fs)) → Q (.ref d) H'
theorem ok_chp {f : Addr} {fd : FuncData} (F : FnP K "checked_persons" "checked_persons" S_checked_persons f fd) (B : Blt mg) (mP : ∃ t, mg "MOST_PERSONS" = some (.int 8 t)) (N : Has P w K mg base "is_name" S_is_name 1 P_is_name spIsName) (S : Has P w K mg base "is_state" S_is_state 2 P_is_state spState)
    (T : Has P w K mg base "is_tuple_of" S_is_tuple_of 1 P_is_tuple_of (spTupOf K)) : FnOk P w K mg base CX0 3 f fd P_checked_persons spChP := by
  obtain ⟨tP, mP⟩ := mP
  obtain ⟨fN, fdN, FN, bN, GN, gN⟩ := N
  obtain ⟨fS, fdS, FS, bS, GS, gS⟩ := S
  obtain ⟨fT, fdT, FT, bT, GT, gT⟩ := T
  refine F.ok sc_checked_persons (fun vs H Q E h => ?_) (fun cdv A outer s H vs Q E hr h => ⟨_, PSs.nox (pss_cons (ps_if (pt_not (pt_val (pe_callB call_isi (by rfl) B.isinstance_ (by decide +kernel) (pa_cons (pv 0) (pa_cons (pe_bltn (v := .ty "list") (u := .type "list") (by rfl) B.list_ (by decide +kernel) rfl) pa_nil))))) pss_no pss_nil)
     (pss_cons (ps_set (i := 1) sc_checked_persons.nd rfl (.inl rfl) pe_dnewK)
     (pss_cons (ps_for PassesOwn.never rfl (pi_enum (by rfl) B.enumerate_ (pa_cons (pv 0) pa_nil)) (pg_tup (by rfl) (pgs_cons (pg_name (i := 2) sc_checked_persons.nd rfl (.inl rfl)) (pgs_cons (pg_name (i := 3) sc_checked_persons.nd rfl (.inl rfl)) pgs_nil)))
        (pss_cons (ps_if (pt_not (pt_val (pe_call GT (hr.mono (by decide)) rfl gT FT.kp bT .nil pass0 (pa_cons (pv 3) (pa_cons pe_int pa_nil))))) pss_no pss_nil)
        (pss_cons (ps_asg (pv 3) (pg_tup (by rfl) (pgs_cons (pg_name (i := 4) sc_checked_persons.nd rfl (.inl rfl)) (pgs_cons (pg_name (i := 5) sc_checked_persons.nd rfl (.inl rfl)) pgs_nil))))
        (pss_cons (ps_if (pt_not (pt_val (pe_call GN (hr.mono (by decide)) rfl gN FN.kp bN .nil pass0 (pa_cons (pv 4) pa_nil)))) pss_no pss_nil)
        (pss_cons (ps_if (pt_cmp (pc_din (hu_of hr) (pv 4) (pv 1))) pss_no pss_nil)
        (pss_cons (ps_if (pt_not (pt_val (pe_call GS hr rfl gS FS.kp bS .nil pass0 (pa_cons (pv 5) pa_nil)))) pss_no pss_nil)
        (pss_one (ps_dput (hu_of hr) (pv 1) (pv 4) (pv 5) rfl))))))))
     (pss_cons (ps_if (pt_not (pt_chain op_le op_le pe_int (pe_callB call_lenD (by rfl) B.len_ PySem.boot_len (pa_cons (pv 1) pa_nil)) (pe_glob (v := .int 8) rfl mP ⟨_, rfl⟩))) pss_no pss_nil)
     (pss_one (ps_ret (pv 1))))))), ?_⟩)
  · obtain ⟨v, fs, rfl, _⟩ := h
    rfl
  · obtain ⟨v, fs, rfl, hv, fo, f1, f8, q⟩ := h
    obtain ⟨a, xs, rfl, ha, hx⟩ := dx_list hv
    have lx : xs.length = fs.length := by
      have := dxall_len hx
      rw [List.length_map] at this
      exact this
    refine ⟨_, rfl, _, _, _, _, _, rfl, .ty _, ty_lst ha, kit_ty k_lst_lst, true, rfl, iteF ?_⟩
    rw [show L2.start N_checked_persons [V.ref a] = [some (V.ref a), none, none, none, none, none] from rfl]
    intro d nd
    refine ⟨_, rfl, a, xs, rfl, SqL.of (same_new nd _ _ ha), ?_⟩
    refine for_it (walk_enum (xs := xs)) (fun i σ H2 => Same H (Off d H2) ∧ H2 d = some (.dK (kvF (fs.take i))) ∧ ∃ x2 x3 x4 x5, σ = [some (V.ref a), some (.ref d), x2, x3, x4, x5]) ⟨fun b o e => Off.at (ne_of_none e nd) (same_new nd _ _ e), upd_same, none, none, none, none, rfl⟩ (fun i σ H2 _ h => SqL.of (Off.same _ _ (h.1 _ _ ha))) ?_ ?_
    · rintro i x σ H2 H3 hi ⟨sm, hd, x2, x3, x4, x5, rfl⟩ ⟨tt, u, y, rfl, nt, rfl, hu1, hxi⟩
      cases hu1
      have hi2 : i < fs.length := by omega
      obtain ⟨y', e1, e2⟩ := dxall_get (i := i) hx (by rw [List.getElem?_map, List.getElem?_eq_getElem hi2]; rfl)
      have exy : y = y' := Option.some.inj (hxi.symm.trans e1)
      subst exy
      obtain ⟨t, rfl, ht⟩ := dx_per e2
      obtain ⟨s3, m3⟩ := fresh2 (o := .tup [V.int (i : Int), V.ref t]) nt
      have ht3 := s3 _ _ (Off.same _ _ (sm _ _ ht))
      have hd3 := s3 _ _ hd
      have hf := List.getElem_mem hi2
      refine ⟨tt, _, rfl, SqT.of m3, rfl, _, _, rfl, _, _, rfl, rfl, ?_⟩
      refine ⟨_, rfl, _, 2, rfl, .inl ⟨t, _, rfl, SqT.of ht3, true, rfl, iteF ?_⟩⟩
      refine ⟨_, rfl, t, _, rfl, SqT.of ht3, rfl, _, _, rfl, _, _, rfl, rfl, ?_⟩
      refine ⟨_, rfl, _, rfl, fo.nm _ hf, fun H4 s4 => ⟨true, rfl, iteF ?_⟩⟩
      have hd4 := s4 _ _ hd3
      have fresh : fs[i].1 ∉ (fs.take i).map (·.1) := by
        intro z
        have e : fs.map (·.1) = (fs.take i).map (·.1) ++ (fs.drop i).map (·.1) := by rw [← List.map_append, List.take_append_drop]
        have nd := fo.nd
        rw [e] at nd
        refine (List.nodup_append.mp nd).2.2 _ z fs[i].1 ?_ rfl
        rw [List.drop_eq_getElem_cons hi2]
        exact List.mem_cons_self
      refine ⟨_, rfl, _, rfl, d, _, rfl, DGet.k (k := Sum.inr fs[i].1) hd4, _, rfl, ?_⟩
      rw [valF_none fresh]
      refine iteF ⟨_, rfl, _, rfl, (fo.st _ hf).1, (fo.st _ hf).2, true, rfl, iteF ?_⟩
      refine ⟨_, rfl, _, rfl, _, rfl, d, _, rfl, DPut.k (k := Sum.inr fs[i].1) hd4 ?_, fun b o e => ?_, ?_, some (.int (i : Int)), some (.ref t), some (.str fs[i].1), some (.int fs[i].2), rfl⟩
      · unfold kvF
        rw [List.length_map, List.length_take]
        exact small1000 (by omega)
      · have nb : b ≠ d := ne_of_none e nd
        exact Off.at nb (by rw [upd_ne nb]; exact s4 _ _ (s3 _ _ (Off.same _ _ (sm b o e))))
      · rw [upd_same, put_new (valF_none fresh), List.take_add_one, List.getElem?_eq_getElem hi2]
        unfold kvF
        rw [List.map_append]
        rfl
    · rintro σ H2 ⟨sm, hd, x2, x3, x4, x5, rfl⟩
      rw [lx, List.take_length] at hd
      have lk : ((kvF fs).length : Int) = fs.length := by
        unfold kvF
        rw [List.length_map]
      refine ⟨_, rfl, d, _, rfl, hd, _, _, rfl, rfl, _, rfl, ?_⟩
      rw [lk, if_pos (decide_eq_true (show (1 : Int) ≤ (fs.length : Int) by omega))]
      refine ⟨_, _, rfl, rfl, true, qb (by omega), iteF ⟨_, rfl, ?_⟩⟩
      exact q d H2 (fun b o e => Off.same _ _ (sm b o e)) nd hd
end
end Cw
namespace Cw
open PySem PySem.Spec PyProof.Rows L2
def rLenK (K : PySem.W.Frag) : List V → Hp → VK → Prop := fun xs H Q => ∃ p ys, xs = [.ref p] ∧ (SqL K H p ys ∨ SqT K H p ys) ∧ Q (.int ys.length) H
theorem call_lenK {X : Cx} {K : PySem.W.Frag} (h : X.K = K) : CallR X (.builtin "len") (rLenK K) := by
  subst h
  exact call_len_seq
/-- what is new in H', ahead of which was H -/
def Nw (H H' : Hp) : Hp := fun b => match H b with
  | none => H' b
  | some _ => none
theorem Nw.at {H H' : Hp} {b : Addr} {o : HO} (n : H b = none) (e : H' b = some o) : Nw H H' b = some o := by
  unfold Nw
  rw [n]
  exact e
theorem Nw.get {H H' : Hp} {b : Addr} {o : HO} (e : Nw H H' b = some o) : H b = none ∧ H' b = some o := by
  unfold Nw at e
  cases h : H b with
  | none =>
    rw [h] at e
    exact ⟨rfl, e⟩
  | some x =>
    rw [h] at e
    cases e
theorem Nw.same {H H' : Hp} : Same (Nw H H') H' := fun b o e => (Nw.get e).2
theorem Nw.mono {H H1 H2 : Hp} (k : Same H1 H2) : Same (Nw H H1) (Nw H H2) := fun b o e => Nw.at (Nw.get e).1 (k _ _ (Nw.get e).2)
theorem Nw.base {H0 H1 H2 : Hp} (k : Same H0 H1) : Same (Nw H1 H2) (Nw H0 H2) := fun b o e => by
  obtain ⟨n, e⟩ := Nw.get e
  refine Nw.at ?_ e
  cases h : H0 b with
  | none => rfl
  | some x => rw [k _ _ h] at n; cases n
theorem none_of {H0 H1 : Hp} {b : Addr} (k : Same H0 H1) (n : H1 b = none) : H0 b = none := by
  cases h : H0 b with
  | none => rfl
  | some x => rw [k _ _ h] at n; cases n
/-- [(place, state) for place, state in hearers] -/
theorem hears_end {K : PySem.W.Frag} {x0 x1 x2 x3 x4 x5 x6 x7 x8 x9 x10 x11 x12 x13 : Option V} {H1 : Hp} {a D : Addr} {xs : List V} {hs : List (Int × Int)} {Qd : Hp → Prop} (nD : H1 D = none) (hl : TupY H1 a xs) (hx : DxAll H1 xs (hs.map dHear)) (hn : hs.length ≤ 1000)
    (q : ∀ H' us, Same H1 H' → H' D = some (.lst us) → DxAll (Off D (Nw H1 H')) us (hs.map dHear) → Qd H') :
    LcD (Itt K a) (gTup K 2 (gCons (gName 12) (gCons (gName 13) gNil))) tYes (tTup (tCons (tVar 12) (tCons (tVar 13) tNil))) [12, 13] [x0, x1, x2, x3, x4, x5, x6, x7, x8, x9, x10, x11, x12, x13] H1 D Qd := by
  have lx : xs.length = hs.length := by
    have := dxall_len hx
    rw [List.length_map] at this
    exact this
  refine lc_it (walk_tup (K := K) (a := a) (xs := xs)) (fun i H2 => Same H1 (Off D H2) ∧ ∃ us, H2 D = some (.lst us) ∧ DxAll (Off D (Nw H1 H2)) us ((hs.take i).map dHear)) ⟨fun b o e => Off.at (ne_of_none e nD) (same_new nD _ _ e), [], upd_same, .nil⟩ (fun i H2 _ hh => (hl.same (fun b o e => Off.same _ _ (hh.1 b o e))).sq) ?_ ?_
  · rintro i x H2 H2' hi0 ⟨sm, us, hD, hus⟩ ⟨rfl, hxi⟩
    have hi : i < hs.length := by omega
    obtain ⟨y, e1, e2⟩ := dxall_get (i := i) hx (by rw [List.getElem?_map, List.getElem?_eq_getElem hi]; rfl)
    have exy : x = y := Option.some.inj (hxi.symm.trans e1)
    subst exy
    obtain ⟨t, rfl, ht⟩ := dx_hear e2
    refine ⟨t, [.int hs[i].1, .int hs[i].2], rfl, SqT.of (Off.same _ _ (sm _ _ ht)), rfl, .int hs[i].1, [.int hs[i].2], rfl, .int hs[i].2, [], rfl, rfl, by simp only [wipe, List.set], ?_⟩
    dsimp only [tYes]
    rw [if_pos rfl]
    refine ⟨_, rfl, _, rfl, by show 2 ≤ sizeLine; decide, fun p np => ?_⟩
    obtain ⟨s3, m3⟩ := fresh2 (o := .tup [.int hs[i].1, .int hs[i].2]) np
    have npD : p ≠ D := (ne_of_none hD np).symm
    have lus : us.length = i := by
      have := dxall_len hus
      rw [List.length_map, List.length_take] at this
      omega
    refine ⟨_, s3 _ _ hD, by rw [lus]; exact small1000 (by omega), fun b o e => ?_, us ++ [.ref p], upd_same, ?_⟩
    · have nb : b ≠ D := ne_of_none e nD
      exact Off.at nb (by rw [upd_ne nb]; exact s3 _ _ (Off.same _ _ (sm b o e)))
    · rw [List.take_add_one, List.getElem?_eq_getElem hi, List.map_append]
      have n1 : H1 p = none := none_of (fun b o e => Off.same _ _ (sm b o e)) np
      refine dxall_snoc (Dx.sameAll (fun b o e => ?_) _ _ hus) (.tup (Off.at npD (Nw.at n1 (by rw [upd_ne npD]; exact m3))) (.cons (.int _) (.cons (.int _) .nil)))
      have nb := Off.ne e
      obtain ⟨e1, e2⟩ := Nw.get (Off.same _ _ e)
      exact Off.at nb (Nw.at e1 (by rw [upd_ne nb]; exact s3 _ _ e2))
  · rintro H2 ⟨sm, us, hD, hus⟩
    rw [lx, List.take_length] at hus
    exact q H2 us (fun b o e => Off.same _ _ (sm b o e)) hD hus
/-- [len(row[4]) for row in laid.values()] -/
theorem lens_end {K : PySem.W.Frag} {x0 x1 x2 x3 x4 x5 x6 x7 x8 x9 x10 x11 x12 x13 : Option V} {H1 : Hp} {d D : Addr} {o : Obj} {kvs : List (Key × V)} {ts : List Tie} {Qd : Hp → Prop} (nD : H1 D = none) (hl : H1 d = some (.frz o (.dK kvs))) (hx : DxAll H1 (kvs.map (·.2)) (ts.map dTie)) (hn : ts.length ≤ 1000)
    (q : ∀ H', Same H1 H' → H' D = some (.lst ((ts.map fun t => (t.hs.length : Int)).map V.int)) → Qd H') :
    LcD (Itd d o kvs) (gName 11) tYes (tCB (rLenK K) (tCons (tOp (rIxT K) (tVar 11) (tC (.int 4))) tNil)) [11] [x0, x1, x2, x3, x4, x5, x6, x7, x8, x9, x10, x11, x12, x13] H1 D Qd := by
  have lx : kvs.length = ts.length := by
    have := dxall_len hx
    rw [List.length_map, List.length_map] at this
    exact this
  refine lc_it (walk_values (d := d) (o := o) (kvs := kvs)) (fun i H2 => Same H1 (Off D H2) ∧ H2 D = some (.lst (((ts.take i).map fun t => (t.hs.length : Int)).map V.int))) ⟨fun b o e => Off.at (ne_of_none e nD) (same_new nD _ _ e), upd_same⟩ (fun i H2 _ hh => Off.same _ _ (hh.1 _ _ hl)) ?_ ?_
  · rintro i x H2 H2' hi0 ⟨sm, hD⟩ ⟨rfl, k, hxi⟩
    have hi : i < ts.length := by omega
    obtain ⟨y, e1, e2⟩ := dxall_get (i := i) hx (by rw [List.getElem?_map, List.getElem?_eq_getElem hi]; rfl)
    rw [List.getElem?_map, hxi] at e1
    have exy : x = y := Option.some.inj e1
    subst exy
    obtain ⟨t, vh, rfl, ht, hvh⟩ := dx_tie e2
    obtain ⟨b, ys, rfl, hb, hys⟩ := dx_hs hvh
    refine ⟨rfl, ?_⟩
    dsimp only [tYes]
    rw [if_pos rfl]
    refine ⟨_, rfl, t, _, 4, _, rfl, rfl, SqT.of (Off.same _ _ (sm _ _ ht)), atI_int (by decide) rfl, b, ys, rfl, .inr (hb.same (fun b o e => Off.same _ _ (sm b o e))).sq, _, hD, ?_, fun b o e => ?_, ?_⟩
    · rw [List.length_map, List.length_map, List.length_take]
      exact Nat.lt_of_le_of_lt (Nat.min_le_right _ _) (small1000 (by omega))
    · have nb : b ≠ D := ne_of_none e nD
      exact Off.at nb (by rw [upd_ne nb]; exact Off.same _ _ (sm b o e))
    · have ly : ys.length = ts[i].hs.length := by
        have := dxall_len hys
        rw [List.length_map] at this
        exact this
      rw [upd_same, List.take_add_one, List.getElem?_eq_getElem hi, List.map_append, List.map_append, ly]
      rfl
  · rintro H2 ⟨sm, hD⟩
    rw [lx, List.take_length] at hD
    exact q H2 (fun b o e => Off.same _ _ (sm b o e)) hD
theorem sum_told : ∀ ts : List Tie, (ts.map fun t => (t.hs.length : Int)).sum = (told ts : Int)
  | [] => rfl
  | t :: r => by
    rw [List.map_cons, List.sum_cons, sum_told r]
    show _ = ((t.hs.length + told r : Nat) : Int)
    omega
/-- ties by names -/
def kvT (ts : List Tie) (xs : List V) : List (Key × V) := (ts.zip xs).map fun p => (Sum.inr p.1.nm, p.2)
theorem kvT_snd : ∀ {ts : List Tie} {xs : List V}, ts.length = xs.length → (kvT ts xs).map (·.2) = xs
  | [], [], _ => rfl
  | [], _ :: _, h => by cases h
  | _ :: _, [], h => by cases h
  | t :: ts, x :: xs, h => by
    show x :: (kvT ts xs).map (·.2) = x :: xs
    rw [kvT_snd (by simpa using h)]
theorem kvT_snoc {t : Tie} {x : V} : ∀ {ts : List Tie} {xs : List V}, ts.length = xs.length → kvT (ts ++ [t]) (xs ++ [x]) = kvT ts xs ++ [(Sum.inr t.nm, x)]
  | [], [], _ => rfl
  | [], _ :: _, h => by cases h
  | _ :: _, [], h => by cases h
  | u :: ts, y :: xs, h => by
    show _ :: kvT (ts ++ [t]) (xs ++ [x]) = _ :: (kvT ts xs ++ _)
    rw [kvT_snoc (by simpa using h)]
theorem kvT_none {z : Str} : ∀ {ts : List Tie} {xs : List V}, z ∉ ts.map (·.nm) → valV (kvT ts xs) (Sum.inr z) = none
  | [], _, _ => rfl
  | _ :: _, [], _ => rfl
  | t :: ts, x :: xs, h => by
    have h1 : ¬ (z = t.nm) := fun e => h (by rw [e]; exact List.mem_cons_self)
    have h2 : z ∉ ts.map (·.nm) := fun e => h (List.mem_cons_of_mem _ e)
    show valV ((Sum.inr t.nm, x) :: kvT ts xs) (Sum.inr z) = none
    rw [valV_neg (fun e => h1 (Sum.inr.inj e).symm)]
    exact kvT_none h2
theorem kvT_get : ∀ {ts : List Tie} {xs : List V}, ts.length = xs.length → (ts.map (·.nm)).Nodup → ∀ {i : Nat} {t : Tie} {x : V}, ts[i]? = some t → xs[i]? = some x → valV (kvT ts xs) (Sum.inr t.nm) = some x
  | [], _, _, _, i, t, x, h, _ => by simp at h
  | _ :: _, [], h, _, _, _, _, _, _ => by cases h
  | u :: ts, y :: xs, hl, nd, i, t, x, h1, h2 => by
    show valV ((Sum.inr u.nm, y) :: kvT ts xs) (Sum.inr t.nm) = some x
    cases i with
    | zero =>
      cases h1
      cases h2
      exact valV_pos rfl
    | succ j =>
      have nd' := List.nodup_cons.mp nd
      have hm : t.nm ∈ ts.map (·.nm) := List.mem_map.mpr ⟨t, List.mem_of_getElem? h1, rfl⟩
      rw [valV_neg (fun e => nd'.1 (by show u.nm ∈ _; rw [show u.nm = t.nm from Sum.inr.inj e]; exact hm))]
      exact kvT_get (by simpa using hl) nd'.2 h1 h2
theorem kvT_len {ts : List Tie} {xs : List V} (h : ts.length = xs.length) : (kvT ts xs).length = ts.length := by
  unfold kvT
  rw [List.length_map, List.length_zip]
  omega
end Cw
namespace Cw
open PySem PySem.Spec PyProof.Rows L2
theorem SqT.same {K : PySem.W.Frag} {H H' : Hp} {a : Addr} {xs : List V} (h : SqT K H a xs) (k : Same H H') : SqT K H' a xs := by
  rcases h with (h | ⟨o, h⟩) | h
  · exact .inl (.inl (k _ _ h))
  · exact .inl (.inr ⟨o, k _ _ h⟩)
  · exact .inr h
theorem qf {p : Prop} [Decidable p] (h : ¬ p) : V.bl (decide p) = V.bl false := by rw [decide_eq_false h]
theorem told_mem : ∀ {ts : List Tie} {t : Tie}, t ∈ ts → t.hs.length ≤ told ts
  | u :: r, t, h => by
    show t.hs.length ≤ u.hs.length + told r
    rcases List.mem_cons.mp h with e | h
    · subst e
      omega
    · have := told_mem h
      omega
section
variable {P : Program} {w : World} {K : PySem.W.Frag} {mg : Str → Option Value} {base : Heap}
/-- the list of ties that is handed in, or the tuple of nothing -/
def TiesIn (K : PySem.W.Frag) (H : Hp) (v : V) (ts : List Tie) : Prop := Dx H v (.list (ts.map dTie)) ∨ ∃ a, v = .ref a ∧ SqT K H a [] ∧ ts = []
def spChT (K : PySem.W.Frag) : Sp := fun vs H Q _ => ∃ (v : V) (ds : Addr) (r : Bool) (fs : List (Str × Int)) (ts : List Tie), vs = [v, .ref ds, .bl r] ∧ TiesIn K H v ts ∧ H ds = some (.dK (kvF fs)) ∧ Specs r fs ts ∧
  ∀ (d : Addr) (xs : List V) (H' : Hp), Same H H' → H d = none → H' d = some (.dK (kvT ts xs)) → DxAll (Off d (Nw H H')) xs (ts.map dTie) → Q (.ref d) H'
theorem ok_cht {f : Addr} {fd : FuncData} (F : FnP K "checked_ties" "checked_ties" S_checked_ties f fd) (B : Blt mg) (mT : ∃ t, mg "MOST_TIES" = some (.int 12 t)) (mH : ∃ t, mg "MOST_HEARERS" = some (.int 12 t)) (N : Has P w K mg base "is_name" S_is_name 1 P_is_name spIsName)
    (T : Has P w K mg base "is_tuple_of" S_is_tuple_of 1 P_is_tuple_of (spTupOf K)) (E' : Has P w K mg base "are_ends" S_are_ends 1 P_are_ends spEnds) (L : Has P w K mg base "is_length" S_is_length 2 P_is_length spLength) (R : Has P w K mg base "are_hearers" S_are_hearers 3 P_are_hearers (spHearers K)) : FnOk P w K mg base CX0 4 f fd P_checked_ties (spChT K) := by
  obtain ⟨tT, mT⟩ := mT
  obtain ⟨tH, mH⟩ := mH
  obtain ⟨fN, fdN, FN, bN, GN, gN⟩ := N
  obtain ⟨fT, fdT, FT, bT, GT, gT⟩ := T
  obtain ⟨fE, fdE, FE, bE, GE, gE⟩ := E'
  obtain ⟨fL, fdL, FL, bL, GL, gL⟩ := L
  obtain ⟨fR, fdR, FR, bR, GR, gR⟩ := R
  have nd := sc_checked_ties.nd
  refine F.ok sc_checked_ties (fun vs H Q E h => ?_) (fun cdv A outer s H vs Q E hr h => ⟨_, PSs.nox (C8.pss_cut (ps_if (PW.pt (pw_and (pt_not (pt_val (pe_callB call_isi (by rfl) B.isinstance_ (by decide +kernel) (pa_cons (pv 0) (pa_cons (pe_bltn (v := .ty "list") (u := .type "list") (by rfl) B.list_ (by decide +kernel) rfl) pa_nil))))) (pw_and1 (pt_not (pt_val (pe_call GT (hr.mono (by decide)) rfl gT FT.kp bT .nil pass0 (pa_cons (pv 0) (pa_cons pe_int pa_nil)))))))) pss_no pss_nil)
     (pss_cons (ps_set (i := 3) nd rfl (.inl rfl) pe_dnewK)
     (C8.pss_cut (ps_for PassesOwn.never rfl (pi_enum2 (by rfl) B.enumerate_ (pa_cons (pv 0) pa_nil)) (pg_tup (by rfl) (pgs_cons (pg_name (i := 4) nd rfl (.inl rfl)) (pgs_cons (pg_name (i := 5) nd rfl (.inl rfl)) pgs_nil)))
        (pss_cons (ps_if (pt_not (pt_val (pe_call GT (hr.mono (by decide)) rfl gT FT.kp bT .nil pass0 (pa_cons (pv 5) (pa_cons pe_int pa_nil))))) pss_no pss_nil)
        (pss_cons (ps_asg (pv 5) (pg_tup (by rfl) (pgs_cons (pg_name (i := 6) nd rfl (.inl rfl)) (pgs_cons (pg_name (i := 7) nd rfl (.inl rfl)) (pgs_cons (pg_name (i := 8) nd rfl (.inl rfl)) (pgs_cons (pg_name (i := 9) nd rfl (.inl rfl)) (pgs_cons (pg_name (i := 10) nd rfl (.inl rfl)) pgs_nil)))))))
        (pss_cons (ps_if (pt_not (pt_val (pe_call GN (hr.mono (by decide)) rfl gN FN.kp bN .nil pass0 (pa_cons (pv 6) pa_nil)))) pss_no pss_nil)
        (pss_cons (ps_if (PW.pt (pw_or (pt_cmp (pc_din (hu_of hr) (pv 6) (pv 1))) (pw_or1 (pt_cmp (pc_din (hu_of hr) (pv 6) (pv 3)))))) pss_no pss_nil)
        (pss_cons (ps_if (pt_not (pt_val (pe_call GE (hr.mono (by decide)) rfl gE FE.kp bE .nil pass0 (pa_cons (pv 7) (pa_cons (pv 8) (pa_cons (pv 1) pa_nil)))))) pss_no pss_nil)
        (pss_cons (ps_if (pt_not (pt_val (pe_call GL (hr.mono (by decide)) rfl gL FL.kp bL .nil pass0 (pa_cons (pv 9) (pa_cons (pv 2) pa_nil))))) pss_no pss_nil)
        (pss_cons (ps_if (pt_not (pt_val (pe_call GR hr rfl gR FR.kp bR .nil pass0 (pa_cons (pv 10) (pa_cons (pv 9) pa_nil))))) pss_no pss_nil)
        (pss_one (ps_dput (hu_of hr) (pv 3) (pv 6) (pe_tup (pa_cons (pv 6) (pa_cons (pv 7) (pa_cons (pv 8) (pa_cons (pv 9) (pa_cons (pe_callTy call_tupleZ (by rfl) B.tuple_ (by decide +kernel) (pa_cons (pe_lc (own := [("place", 12), ("state", 13)]) (g := gTup K 2 (gCons (gName 12) (gCons (gName 13) gNil))) rfl nd (pi_tup (pv 10))
            (blkOk_by (own := [("place", 12), ("state", 13)]) (N := N_checked_ties) (sc := defScope S_checked_ties) (by decide +kernel))
            (fun _ _ _ _ _ => pg_tup rfl (pgs_cons (pg_name (i := 12) nd rfl (.inl rfl)) (pgs_cons (pg_name (i := 13) nd rfl (.inl rfl)) pgs_nil)))
            (fun _ _ _ _ _ => pts_nil) (fun _ _ _ _ _ => pe_tup (pa_cons (pv 12) (pa_cons (pv 13) pa_nil)))) pa_nil)) pa_nil)))))) rfl))))))))))
     (pss_cons (ps_if (pt_cmpR op_gt (pe_callB call_lenD (by rfl) B.len_ PySem.boot_len (pa_cons (pv 3) pa_nil)) (pe_glob (v := .int 12) rfl mT ⟨_, rfl⟩) (nomark _)) pss_no pss_nil)
     (pss_cons (ps_if (pt_cmpR op_gt (pe_callB (cr_sum rfl) (by rfl) B.sum_ (by decide +kernel) (pa_cons (pe_lock (pe_lc (own := [("row", 11)]) (g := gName 11) rfl nd (pi_values (pv 3))
            (blkOk_by (own := [("row", 11)]) (N := N_checked_ties) (sc := defScope S_checked_ties) (by decide +kernel)) (fun _ _ _ _ _ => pg_name (i := 11) nd rfl (Or.inl rfl)) (fun _ _ _ _ _ => pts_nil)
            (fun _ _ _ _ _ => pe_callB (call_lenK (K := K) rfl) (by rfl) B.len_ PySem.boot_len (pa_cons (pe_ix (ix_tupK (K := K) rfl) (pv 11) pe_int (fun _ _ => rfl)) pa_nil)))) pa_nil)) (pe_glob (v := .int 12) rfl mH ⟨_, rfl⟩) (nomark _)) pss_no pss_nil)
     (pss_one (ps_ret (pv 3)))))))), ?_⟩)
  · obtain ⟨v, ds, r, fs, ts, rfl, _⟩ := h
    rfl
  · obtain ⟨v, ds, r, fs, ts, rfl, hv, hds, SP, q⟩ := h
    rw [show L2.start N_checked_ties [v, V.ref ds, V.bl r] = [some v, some (.ref ds), some (.bl r), none, none, none, none, none, none, none, none, none, none, none] from rfl]
    refine ⟨fun σ H' => σ = [some v, some (.ref ds), some (.bl r), none, none, none, none, none, none, none, none, none, none, none] ∧ H' = H, ?_, ?_⟩
    · rcases hv with hv | ⟨a, rfl, ha, rfl⟩
      · obtain ⟨a, xs, rfl, ha, hx⟩ := dx_list hv
        exact ⟨_, rfl, _, _, _, _, _, rfl, .ty _, ty_lst ha, kit_ty k_lst_lst, true, rfl, iteF ⟨rfl, rfl⟩⟩
      · exact ⟨_, rfl, _, _, _, _, _, rfl, .ty _, ty_tup ha, kit_ty k_tup_lst, false, rfl, iteT ⟨_, rfl, _, 0, rfl, .inl ⟨a, _, rfl, ha, true, rfl, iteF ⟨rfl, rfl⟩⟩⟩⟩
    rintro σ H' ⟨rfl, rfl⟩
    intro d ndd
    refine ⟨fun σ H2 => ∃ xs x4 x5 x6 x7 x8 x9 x10 x11 x12 x13, σ = [some v, some (.ref ds), some (.bl r), some (.ref d), x4, x5, x6, x7, x8, x9, x10, x11, x12, x13] ∧ Same H' (Off d H2) ∧ H2 d = some (.dK (kvT ts xs)) ∧ DxAll (Off d (Nw H' H2)) xs (ts.map dTie), ?_, ?_⟩
    · rcases hv with hv | ⟨a, rfl, ha, rfl⟩
      · obtain ⟨a, ys, rfl, ha, hx⟩ := dx_list hv
        have lx : ys.length = ts.length := by
          have := dxall_len hx
          rw [List.length_map] at this
          exact this
        refine ⟨_, rfl, a, rfl, .inl ⟨ys, SqL.of (same_new ndd _ _ ha), ?_⟩⟩
        refine for_it (walk_enum (xs := ys)) (fun i σ H2 => ∃ xs x4 x5 x6 x7 x8 x9 x10 x11 x12 x13, σ = [some (V.ref a), some (.ref ds), some (.bl r), some (.ref d), x4, x5, x6, x7, x8, x9, x10, x11, x12, x13] ∧ Same H' (Off d H2) ∧ H2 d = some (.dK (kvT (ts.take i) xs)) ∧ DxAll (Off d (Nw H' H2)) xs ((ts.take i).map dTie))
          ⟨[], none, none, none, none, none, none, none, none, none, none, rfl, fun b o e => Off.at (ne_of_none e ndd) (same_new ndd _ _ e), upd_same, .nil⟩ (fun i σ H2 _ h => by obtain ⟨xs, x4, x5, x6, x7, x8, x9, x10, x11, x12, x13, _, sm, _⟩ := h; exact SqL.of (Off.same _ _ (sm _ _ ha))) ?_ ?_
        · rintro i x σ H2 H3 hi ⟨xs, x4, x5, x6, x7, x8, x9, x10, x11, x12, x13, rfl, sm, hd, hxs⟩ ⟨tt, u, y, rfl, nt, rfl, hu1, hxi⟩
          cases hu1
          have hi2 : i < ts.length := by omega
          obtain ⟨y', e1, e2⟩ := dxall_get (i := i) hx (by rw [List.getElem?_map, List.getElem?_eq_getElem hi2]; rfl)
          have exy : y = y' := Option.some.inj (hxi.symm.trans e1)
          subst exy
          obtain ⟨t, vh, rfl, ht, hvh⟩ := dx_tie e2
          obtain ⟨s3, m3⟩ := fresh2 (o := .tup [V.int (i : Int), V.ref t]) nt
          have ht3 := s3 _ _ (Off.same _ _ (sm _ _ ht))
          have hd3 := s3 _ _ hd
          have hds3 := s3 _ _ (Off.same _ _ (sm _ _ hds))
          have hf := List.getElem_mem hi2
          have G := SP.ti _ hf
          refine ⟨tt, _, rfl, SqT.of m3, rfl, _, _, rfl, _, _, rfl, rfl, ?_⟩
          refine ⟨_, rfl, _, 5, rfl, .inl ⟨t, _, rfl, SqT.of ht3, true, rfl, iteF ?_⟩⟩
          refine ⟨_, rfl, t, [.str ts[i].nm, .str ts[i].one, .str ts[i].other, .int ts[i].len, vh], rfl, SqT.of ht3, rfl, .str ts[i].nm, [.str ts[i].one, .str ts[i].other, .int ts[i].len, vh], rfl, .str ts[i].one, [.str ts[i].other, .int ts[i].len, vh], rfl, .str ts[i].other, [.int ts[i].len, vh], rfl, .int ts[i].len, [vh], rfl, vh, [], rfl, rfl, ?_⟩
          simp only [List.set]
          refine ⟨_, rfl, _, rfl, G.nm, fun H4 s4 => ⟨true, rfl, iteF ?_⟩⟩
          have nd2 : (fs.map (·.1) ++ ts.map (·.nm)).Nodup := SP.nd
          have tn : ts[i].nm ∈ ts.map (·.nm) := List.mem_map.mpr ⟨_, hf, rfl⟩
          have f1 : ts[i].nm ∉ fs.map (·.1) := fun z => (List.nodup_append.mp nd2).2.2 _ z _ tn rfl
          have f2 : ts[i].nm ∉ (ts.take i).map (·.nm) := by
            intro z
            have e : ts.map (·.nm) = (ts.take i).map (·.nm) ++ (ts.drop i).map (·.nm) := by rw [← List.map_append, List.take_append_drop]
            have nd3 := (List.nodup_append.mp nd2).2.1
            rw [e] at nd3
            refine (List.nodup_append.mp nd3).2.2 _ z ts[i].nm ?_ rfl
            rw [List.drop_eq_getElem_cons hi2]
            exact List.mem_cons_self
          refine ⟨_, rfl, _, rfl, ds, _, rfl, DGet.k (k := Sum.inr ts[i].nm) (s4 _ _ hds3), _, rfl, ?_⟩
          rw [valF_none f1]
          refine iteF ⟨_, rfl, _, rfl, d, _, rfl, DGet.k (k := Sum.inr ts[i].nm) (s4 _ _ hd3), _, rfl, ?_⟩
          rw [kvT_none f2]
          refine iteF ?_
          refine ⟨_, rfl, _, rfl, _, rfl, ds, _, _, fs, rfl, s4 _ _ hds3, G.h1, G.h2, G.ne, true, rfl, iteF ?_⟩
          refine ⟨_, rfl, _, rfl, _, _, rfl, G.ln, true, rfl, iteF ?_⟩
          have s04 : Same H' H4 := fun b o e => s4 _ _ (s3 _ _ (Off.same _ _ (sm b o e)))
          have hvh4 := Dx.same s04 _ _ hvh
          refine ⟨_, rfl, _, rfl, _, _, _, rfl, hvh4, G.hr, true, rfl, iteF ?_⟩
          obtain ⟨ah, zs, rfl, hah, hzs⟩ := dx_hs hvh4
          have lh : ts[i].hs.length ≤ 1000 := by
            have h1 := SP.h12
            have h2 : ts[i].hs.length ≤ told ts := told_mem hf
            omega
          refine ⟨_, rfl, _, rfl, _, rfl, _, rfl, _, rfl, ah, rfl, ⟨_, hah.sq⟩, fun D nD => ?_⟩
          refine hears_end nD hah hzs lh fun H5 us s5 hD hus => ?_
          refine ⟨D, us, rfl, SqL.of hD, fun l ob nl dn => ?_⟩
          obtain ⟨s6, m6⟩ := fresh2 (o := .frz ob (.tup us)) nl
          refine ⟨by show 5 ≤ sizeLine; decide, fun p np => ?_⟩
          obtain ⟨s7, m7⟩ := fresh2 (o := .tup [.str ts[i].nm, .str ts[i].one, .str ts[i].other, .int ts[i].len, .ref l]) np
          have s37 := (s5.trans s6).trans s7
          have hd7 := s37 _ _ (s4 _ _ hd3)
          have dD : D ≠ d := (ne_of_none (s4 _ _ hd3) nD).symm
          have dl : l ≠ d := (ne_of_none (s5 _ _ (s4 _ _ hd3)) nl).symm
          have dp : p ≠ d := (ne_of_none (s6 _ _ (s5 _ _ (s4 _ _ hd3))) np).symm
          have lus : us.length = ts[i].hs.length := by
            have := dxall_len hus
            rw [List.length_map] at this
            exact this
          have lxs : (ts.take i).length = xs.length := by
            have := dxall_len hxs
            rw [List.length_map] at this
            exact this.symm
          have up : Same (Off d (Nw H' H2)) (Off d (Nw H' (upd (upd (upd H5 l (.frz ob (.tup us))) p (.tup [.str ts[i].nm, .str ts[i].one, .str ts[i].other, .int ts[i].len, .ref l])) d (.dK (kvT (ts.take i) xs ++ [(Sum.inr ts[i].nm, .ref p)]))))) := fun b o e => by
            have nb := Off.ne e
            obtain ⟨e1, e2⟩ := Nw.get (Off.same _ _ e)
            exact Off.at nb (Nw.at e1 (by rw [upd_ne nb]; exact s37 _ _ (s4 _ _ (s3 _ _ e2))))
          have hus2 : DxAll (Off d (Nw H' (upd (upd (upd H5 l (.frz ob (.tup us))) p (.tup [.str ts[i].nm, .str ts[i].one, .str ts[i].other, .int ts[i].len, .ref l])) d (.dK (kvT (ts.take i) xs ++ [(Sum.inr ts[i].nm, .ref p)]))))) us (ts[i].hs.map dHear) := by
            refine Dx.tkAll (fun b zz tz e => ?_) _ _ (noL_hs _) hus
            obtain ⟨e0, e'⟩ := Nw.get (Off.same _ _ e)
            have nb : b ≠ d := fun z => by
              subst z
              rw [s5 _ _ (s4 _ _ hd3)] at e'
              cases e'
              exact tz
            exact Off.at nb (Nw.at (none_of s04 e0) (by rw [upd_ne nb]; exact s7 _ _ (s6 _ _ e')))
          refine ⟨_, rfl, _, rfl, d, _, rfl, DPut.k (k := Sum.inr ts[i].nm) hd7 ?_, xs ++ [.ref p], some (.int (i : Int)), some (.ref t), some (.str ts[i].nm), some (.str ts[i].one), some (.str ts[i].other), some (.int ts[i].len), some (.ref ah), x11, x12, x13, rfl, fun b o e => ?_, ?_, ?_⟩
          · rw [kvT_len lxs, List.length_take]
            have := SP.t12
            exact small1000 (by omega)
          · have nb : b ≠ d := ne_of_none e ndd
            exact Off.at nb (by rw [upd_ne nb]; exact s37 _ _ (s04 b o e))
          · rw [upd_same, put_new (kvT_none f2), List.take_add_one, List.getElem?_eq_getElem hi2]
            show _ = some (HO.dK (kvT (ts.take i ++ [ts[i]]) (xs ++ [V.ref p])))
            rw [kvT_snoc lxs]
          · rw [put_new (kvT_none f2), List.take_add_one, List.getElem?_eq_getElem hi2, List.map_append]
            have n1 : H' l = none := none_of (s04.trans s5) nl
            have n2 : H' p = none := none_of (s04.trans (s5.trans s6)) np
            refine dxall_snoc (Dx.sameAll up _ _ hxs) (.tup (Off.at dp (Nw.at n2 (by rw [upd_ne dp]; exact m7))) (.cons (.str _) (.cons (.str _) (.cons (.str _) (.cons (.int _) (.cons (.tupz (Off.at dl (Nw.at n1 (by rw [upd_ne dl]; exact s7 _ _ m6))) dn hus2 (all_hears _)) .nil))))))
        · rintro σ H2 ⟨xs, x4, x5, x6, x7, x8, x9, x10, x11, x12, x13, rfl, sm, hd, hxs⟩
          rw [lx, List.take_length] at hd hxs
          exact ⟨xs, x4, x5, x6, x7, x8, x9, x10, x11, x12, x13, rfl, sm, hd, hxs⟩
      · refine ⟨_, rfl, a, rfl, .inr ⟨?_, ?_⟩⟩
        · exact SqT.same ha (same_new ndd)
        · refine for_it walk_none (fun i σ H2 => σ = [some (V.ref a), some (.ref ds), some (.bl r), some (.ref d), none, none, none, none, none, none, none, none, none, none] ∧ H2 = upd H' d (.dK [])) ⟨rfl, rfl⟩ (fun i σ H2 _ h => ?_) (fun i x σ H2 H3 hi => absurd hi (Nat.not_lt_zero _)) ?_
          · rw [h.2]
            exact SqT.same ha (same_new ndd)
          · rintro σ H2 ⟨rfl, rfl⟩
            exact ⟨[], none, none, none, none, none, none, none, none, none, none, rfl, fun b o e => Off.at (ne_of_none e ndd) (same_new ndd _ _ e), upd_same, .nil⟩
    · rintro σ H2 ⟨xs, x4, x5, x6, x7, x8, x9, x10, x11, x12, x13, rfl, sm, hd, hxs⟩
      have lxs : ts.length = xs.length := by
        have := dxall_len hxs
        rw [List.length_map] at this
        exact this.symm
      have s02 : Same H' H2 := fun b o e => Off.same _ _ (sm b o e)
      refine ⟨_, rfl, d, _, rfl, hd, _, _, rfl, rfl, false, qf (by rw [kvT_len lxs]; have := SP.t12; omega), iteF ?_⟩
      refine ⟨d, _, hd, trivial, fun od => ?_⟩
      have lk : Same (Off d (Nw H' H2)) (upd H2 d (.frz od (.dK (kvT ts xs)))) := fun b o e => by rw [upd_ne (Off.ne e)]; exact Nw.same _ _ (Off.same _ _ e)
      refine ⟨_, rfl, d, od, _, rfl, upd_same, fun D nD => ?_⟩
      refine lens_end nD upd_same (by rw [kvT_snd lxs]; exact Dx.sameAll lk _ _ hxs) (by have := SP.t12; omega) fun H3 s3 hD => ?_
      have hd3 := s3 _ _ (upd_same (H := H2) (a := d))
      have nDd : D ≠ d := fun z => by
        subst z
        rw [upd_same] at nD
        cases nD
      refine ⟨hd3, D, _, rfl, SqL.of (by rw [upd_ne nDd]; exact hD), ?_⟩
      rw [sum_told]
      refine ⟨_, _, rfl, rfl, false, qf (by have := SP.h12; omega), iteF ?_⟩
      have s23 : Same H2 (upd H3 d (.dK (kvT ts xs))) := fun b o e => by
        by_cases hb : b = d
        · subst hb
          rw [hd] at e
          cases e
          exact upd_same
        · rw [upd_ne hb]
          exact s3 _ _ (by rw [upd_ne hb]; exact e)
      exact ⟨_, rfl, q d xs _ (s02.trans s23) ndd upd_same (Dx.sameAll (Off.mono (Nw.mono s23)) _ _ hxs)⟩
end
end Cw
namespace Cw
open PySem PySem.Spec PyProof.Rows L2
abbrev webFs (r : Bool) (ds dl pr tr : Addr) : List (Str × V) := [("in_rounds", .bl r), ("states", .ref ds), ("laid", .ref dl), ("person_rows", .ref pr), ("tie_rows", .ref tr)]
/-- a web as it stands in the heap -/
def WebAt (C : Addr) (H : Hp) (a : Addr) (r : Bool) (fs : List (Str × Int)) (ts : List Tie) : Prop := ∃ (dx ds dl pr tr : Addr) (xs : List V), H a = some (.ins C dx (webFs r ds dl pr tr)) ∧ H ds = some (.dK (kvF fs)) ∧ H dl = some (.dK (kvT ts xs)) ∧ DxAll H xs (ts.map dTie) ∧ Dx H (.ref pr) (dFolk fs) ∧ Dx H (.ref tr) (.list (ts.map dTie))
theorem WebAt.same {C : Addr} {H H' : Hp} {a : Addr} {r : Bool} {fs : List (Str × Int)} {ts : List Tie} (h : WebAt C H a r fs ts) (k : Same H H') : WebAt C H' a r fs ts := by
  obtain ⟨dx, ds, dl, pr, tr, xs, h1, h2, h3, h4, h5, h6⟩ := h
  exact ⟨dx, ds, dl, pr, tr, xs, k _ _ h1, k _ _ h2, k _ _ h3, Dx.sameAll k _ _ h4, Dx.same k _ _ h5, Dx.same k _ _ h6⟩
/-- what is known of the class -/
structure WebCls (K : PySem.W.Frag) (C : Addr) : Prop where
  cl : Cls K C
  n1 : NoAttr K C "in_rounds"
  n2 : NoAttr K C "states"
  n3 : NoAttr K C "laid"
  n4 : NoAttr K C "person_rows"
  n5 : NoAttr K C "tie_rows"
theorem paired_folk {H : Hp} : ∀ {as : List Addr} {fs : List (Str × Int)}, Paired (fun (t : Addr) (q : Key × V) => H t = some (.tup [kV q.1, q.2])) as (kvF fs) → Paired (PerAt H) as fs
  | [], [], .nil => .nil
  | _ :: _, _ :: _, .cons h t => .cons h (paired_folk t)
theorem putF_ne {f g : Str} {v x : V} {r : List (Str × V)} (h : g ≠ f) : putF f v ((g, x) :: r) = (g, x) :: putF f v r := by
  show (if g = f then _ else _) = _
  rw [if_neg h]
abbrev fs1 (r : V) : List (Str × V) := [("in_rounds", r)]
abbrev fs2 (r v : V) : List (Str × V) := [("in_rounds", r), ("states", v)]
abbrev fs3 (r v u : V) : List (Str × V) := [("in_rounds", r), ("states", v), ("laid", u)]
abbrev fs4 (r v u x : V) : List (Str × V) := [("in_rounds", r), ("states", v), ("laid", u), ("person_rows", x)]
abbrev fs5 (r v u x y : V) : List (Str × V) := [("in_rounds", r), ("states", v), ("laid", u), ("person_rows", x), ("tie_rows", y)]
theorem putF_1 (r : V) : putF "in_rounds" r [] = fs1 r := rfl
theorem putF_2 {r : V} (v : V) : putF "states" v (fs1 r) = fs2 r v := by rw [putF_ne (by decide)]; rfl
theorem putF_3 {r v : V} (u : V) : putF "laid" u (fs2 r v) = fs3 r v u := by rw [putF_ne (by decide), putF_ne (by decide)]; rfl
theorem putF_4 {r v u : V} (x : V) : putF "person_rows" x (fs3 r v u) = fs4 r v u x := by rw [putF_ne (by decide), putF_ne (by decide), putF_ne (by decide)]; rfl
theorem putF_5 {r v u x : V} (y : V) : putF "tie_rows" y (fs4 r v u x) = fs5 r v u x y := by rw [putF_ne (by decide), putF_ne (by decide), putF_ne (by decide), putF_ne (by decide)]; rfl
theorem off_upd {a : Addr} {H : Hp} {o : HO} : Same (Off a H) (upd H a o) := fun b x e => by rw [upd_ne (Off.ne e)]; exact Off.same _ _ e
theorem off_upd2 {a : Addr} {H : Hp} {o : HO} : Same (Off a H) (Off a (upd H a o)) := fun b x e => Off.at (Off.ne e) (off_upd _ _ e)
theorem TiesIn.same {K : PySem.W.Frag} {H H' : Hp} {v : V} {ts : List Tie} (h : TiesIn K H v ts) (k : Same H H') : TiesIn K H' v ts := by
  rcases h with h | ⟨a, e1, e2, e3⟩
  · exact .inl (Dx.same k _ _ h)
  · exact .inr ⟨a, e1, SqT.same e2 k, e3⟩
theorem noL_ties : ∀ ts : List Tie, noLs (ts.map dTie) = true
  | [] => rfl
  | t :: r => by
    show (noL (dTie t) && noLs (r.map dTie)) = true
    rw [noL_tie, noL_ties r]
    rfl
section
variable {P : Program} {w : World} {K : PySem.W.Frag} {mg : Str → Option Value} {base : Heap}
def spInit (K : PySem.W.Frag) (C : Addr) : Sp := fun vs H Q _ => ∃ (a dx : Addr) (v u : V) (r : Bool) (fs : List (Str × Int)) (ts : List Tie), vs = [.ref a, v, u, .bl r] ∧ H a = some (.ins C dx []) ∧ Dx (Off a H) v (dFolk fs) ∧ TiesIn K (Off a H) u ts ∧ Specs r fs ts ∧ ∀ H', Same (Off a H) (Off a H') → WebAt C (Nw (Off a H) H') a r fs ts → Q .non H'
abbrev FnI (K : PySem.W.Frag) (f : Addr) (fd : FuncData) (e : Addr) : Prop := FunD K "__init__" "Web.__init__" (defArgs S_Web_init) (defBody S_Web_init) (defScope S_Web_init) [.ref e] [("rounds", .bl false)] f fd
theorem ok_init {f e : Addr} {fd : FuncData} {C : Addr} (F : FnI K f fd e) (WC : WebCls K C) (B : Blt mg) (p' : Has P w K mg base "checked_persons" S_checked_persons 3 P_checked_persons spChP) (T : Has P w K mg base "checked_ties" S_checked_ties 4 P_checked_ties (spChT K)) : FnOk P w K mg base CX0 5 f fd P_Web_init (spInit K C) := by
  obtain ⟨fP, fdP, FP, bP, GP, gP⟩ := p'
  obtain ⟨fT, fdT, FT, bT, GT, gT⟩ := T
  refine F.ok sc_Web_init (fun vs H Q E h => ?_) (fun cdv A outer s H vs Q E hr h => ⟨_, PSs.nox (pss_cons (ps_fld (pv 0) (pe_callTy call_bool1 (by rfl) B.bool_ (by decide +kernel) (pa_cons (pv 3) pa_nil)) rfl)
     (pss_cons (ps_fld (pv 0) (pe_call GP (hr.mono (by decide)) rfl gP FP.kp bP .nil pass0 (pa_cons (pv 1) pa_nil)) rfl)
     (pss_cons (ps_fld (pv 0) (pe_call GT hr rfl gT FT.kp bT .nil pass0 (pa_cons (pv 2) (pa_cons (pe_fld (pv 0) rfl) (pa_cons (pe_fld (pv 0) rfl) pa_nil)))) rfl)
     (pss_cons (ps_fld (pv 0) (LiI.pe_listItems rfl (pe_fld (pv 0) rfl) (by rfl) B.list_ (by decide +kernel)) rfl)
     (pss_one (ps_fld (pv 0) (pe_listVals rfl (pe_fld (pv 0) rfl) (by rfl) B.list_ (by decide +kernel)) rfl)))))), ?_⟩)
  · obtain ⟨a, dx, v, u, r, fs, ts, rfl, _⟩ := h
    rfl
  · obtain ⟨a, dx, v, u, r, fs, ts, rfl, ha, hv, hu, SP, q⟩ := h
    rw [show L2.start N_Web_init [V.ref a, v, u, V.bl r] = [some (V.ref a), some v, some u, some (.bl r)] from rfl]
    refine ⟨_, rfl, .inr ⟨r, rfl, ?_⟩⟩
    refine ⟨_, rfl, a, C, dx, _, rfl, ha, WC.cl, WC.n1, by show 0 < 1000; decide, ?_⟩
    rw [putF_1]
    have k1 : Same (Off a H) (Off a (upd H a (HO.ins C dx (fs1 (.bl r))))) := off_upd2
    refine ⟨_, rfl, _, fs, rfl, Dx.same off_upd _ _ hv, SP.fo, SP.f1, SP.f8, fun ds H2 s2 n2 hds => ?_⟩
    have ha2 := s2 _ _ (upd_same (H := H) (a := a))
    have k2 := k1.trans (Off.mono s2)
    have nsa : ds ≠ a := (ne_of_none (upd_same (H := H) (a := a)) n2).symm
    refine ⟨_, rfl, a, C, dx, _, rfl, ha2, WC.cl, WC.n2, by show 1 < 1000; decide, ?_⟩
    rw [putF_2]
    have k3 : Same (Off a H) (Off a (upd H2 a (HO.ins C dx (fs2 (.bl r) (.ref ds))))) := k2.trans off_upd2
    have hds3 : (upd H2 a (HO.ins C dx (fs2 (.bl r) (.ref ds)))) ds = some (.dK (kvF fs)) := by rw [upd_ne nsa]; exact hds
    refine ⟨_, rfl, _, rfl, a, C, dx, _, _, rfl, upd_same, WC.cl, WC.n2, rfl, ?_⟩
    refine ⟨_, rfl, a, C, dx, _, _, rfl, upd_same, WC.cl, WC.n1, rfl, ?_⟩
    refine ⟨u, ds, r, fs, ts, rfl, TiesIn.same hu (k3.trans Off.same), hds3, SP, fun dl xs H4 s4 n4 hdl hxs => ?_⟩
    have ha4 := s4 _ _ (upd_same (H := H2) (a := a))
    have k4 := k3.trans (Off.mono s4)
    have nla : dl ≠ a := (ne_of_none (upd_same (H := H2) (a := a)) n4).symm
    have hds4 := s4 _ _ hds3
    have lxs : ts.length = xs.length := by
      have := dxall_len hxs
      rw [List.length_map] at this
      exact this.symm
    refine ⟨_, rfl, a, C, dx, _, rfl, ha4, WC.cl, WC.n3, by show 2 < 1000; decide, ?_⟩
    rw [putF_3]
    have k5 : Same (Off a H) (Off a (upd H4 a (HO.ins C dx (fs3 (.bl r) (.ref ds) (.ref dl))))) := k4.trans off_upd2
    have hds5 : (upd H4 a (HO.ins C dx (fs3 (.bl r) (.ref ds) (.ref dl)))) ds = some (.dK (kvF fs)) := by rw [upd_ne nsa]; exact hds4
    have hdl5 : (upd H4 a (HO.ins C dx (fs3 (.bl r) (.ref ds) (.ref dl)))) dl = some (.dK (kvT ts xs)) := by rw [upd_ne nla]; exact hdl
    refine ⟨_, rfl, a, C, dx, _, _, rfl, upd_same, WC.cl, WC.n2, rfl, ds, _, rfl, hds5, fun H6 pr as s6 n6 n6t _ hpr hpa => ?_⟩
    have ha6 := s6 _ _ (upd_same (H := H4) (a := a))
    have k6 := k5.trans (Off.mono s6)
    have npa : pr ≠ a := (ne_of_none (upd_same (H := H4) (a := a)) n6).symm
    refine ⟨_, rfl, a, C, dx, _, rfl, ha6, WC.cl, WC.n4, by show 3 < 1000; decide, ?_⟩
    rw [putF_4]
    have hdl7 : (upd H6 a (HO.ins C dx (fs4 (.bl r) (.ref ds) (.ref dl) (.ref pr)))) dl = some (.dK (kvT ts xs)) := by rw [upd_ne nla]; exact s6 _ _ hdl5
    refine ⟨_, rfl, a, C, dx, _, _, rfl, upd_same, WC.cl, WC.n3, rfl, dl, _, rfl, hdl7, fun tr ntr => ?_⟩
    rw [kvT_snd lxs]
    obtain ⟨s8, m8⟩ := fresh2 (o := .lst xs) ntr
    have ha8 := s8 _ _ (upd_same (H := H6) (a := a))
    have nta : tr ≠ a := (ne_of_none (upd_same (H := H6) (a := a)) ntr).symm
    refine ⟨_, rfl, a, C, dx, _, rfl, ha8, WC.cl, WC.n5, by show 4 < 1000; decide, ?_⟩
    rw [putF_5]
    have k8 := (k6.trans off_upd2).trans ((Off.mono s8).trans (off_upd2 (o := HO.ins C dx (fs5 (.bl r) (.ref ds) (.ref dl) (.ref pr) (.ref tr)))))
    have z6 : Same (Off a H6) (Off a (upd (upd (upd H6 a (HO.ins C dx (fs4 (.bl r) (.ref ds) (.ref dl) (.ref pr)))) tr (.lst xs)) a (HO.ins C dx (fs5 (.bl r) (.ref ds) (.ref dl) (.ref pr) (.ref tr))))) := off_upd2.trans ((Off.mono s8).trans off_upd2)
    have z4 := (off_upd2 (a := a) (H := H4) (o := HO.ins C dx (fs3 (.bl r) (.ref ds) (.ref dl)))).trans ((Off.mono s6).trans z6)
    have y6 : Same (Off a H6) _ := z6.trans Off.same
    have y4 : Same (Off a H4) _ := z4.trans Off.same
    have a0 : Off a H a = none := by
      unfold Off
      rw [if_pos rfl]
    have b3 : Same (Off a H) (upd H2 a (HO.ins C dx (fs2 (.bl r) (.ref ds)))) := k3.trans Off.same
    have b5 : Same (Off a H) (upd H4 a (HO.ins C dx (fs3 (.bl r) (.ref ds) (.ref dl)))) := k5.trans Off.same
    have b7 : Same (Off a H) (upd H6 a (HO.ins C dx (fs4 (.bl r) (.ref ds) (.ref dl) (.ref pr)))) := (k6.trans off_upd2).trans Off.same
    have cx : Same (Off dl (Nw (upd H2 a (HO.ins C dx (fs2 (.bl r) (.ref ds)))) H4)) (Nw (Off a H) (upd (upd (upd H6 a (HO.ins C dx (fs4 (.bl r) (.ref ds) (.ref dl) (.ref pr)))) tr (.lst xs)) a (HO.ins C dx (fs5 (.bl r) (.ref ds) (.ref dl) (.ref pr) (.ref tr))))) := fun b o e => by
      obtain ⟨e1, e2⟩ := Nw.get (Off.same _ _ e)
      have nb : b ≠ a := (ne_of_none (upd_same (H := H2) (a := a)) e1).symm
      exact Nw.at (none_of b3 e1) (y4 _ _ (Off.at nb e2))
    refine q _ k8 ⟨dx, ds, dl, pr, tr, xs, Nw.at a0 upd_same, Nw.at (none_of off_upd n2) (y4 _ _ (Off.at nsa hds4)), Nw.at (none_of b3 n4) (y4 _ _ (Off.at nla hdl)), Dx.sameAll cx _ _ hxs, ?_, .lst (Nw.at (none_of b7 ntr) (by rw [upd_ne nta]; exact m8)) (Dx.sameAll cx _ _ hxs)⟩
    refine .lst (Nw.at (none_of b5 n6) (y6 _ _ (Off.at npa hpr))) ?_
    have pf := paired_folk hpa
    refine dx_folk (paired_imp pf fun t f ht e => Nw.at (none_of b5 (n6t t ht)) (y6 _ _ (Off.at (fun z => ?_) e)))
    subst z
    have e' := ha6.symm.trans e
    cases e'
end
end Cw
namespace Cw
open PySem PySem.Spec PyProof.Rows L2
/-- len(o), o of a class with an own __len__ -/
def rLenOwn (C : Addr) (sp : Sp) : List V → Hp → VK → Prop := fun xs H Q => ∃ a dx fs, xs = [.ref a] ∧ H a = some (.ins C dx fs) ∧ sp [.ref a] H (fun v H' => ∃ n : Nat, v = .int n ∧ n ≤ 1000 ∧ Q (.int n) H') E0
theorem call_lenOwn {X : Cx} {C f : Addr} {fd : FuncData} {ps : List Str} {sp : Sp} {k : Nat} (F : FnOk X.prog X.w X.K X.mg X.base CX0 k f fd ps sp) (hr : Room (k + 1) X.A) (hs : PySem.W.findIn X.K (.ref C) "__len__" = some (some (.ref f))) (hf : PySem.W.isFn X.K (.ref f) = true) (hb : Binds X.K fd ps []) :
    CallR X (.builtin "len") (rLenOwn C sp) := by
  intro pins s σ H xs us Q I r h
  obtain ⟨a, dx, fs, rfl, ha, hsp⟩ := h
  obtain ⟨u, rfl, r1⟩ := vals1 r
  cases r1
  obtain ⟨mA, J, _⟩ := ins_get I.hok ha
  obtain ⟨od, J, _⟩ := J.look
  obtain ⟨m, hF⟩ := I.fr
  have hl := F.len _ _ _ _ hsp
  have r2 : Vals [V.ref a] [Value.ref a] := .cons rfl .nil
  refine PySem.W.len_K hF I.ok.mod.kin J hs hf ?_
  refine wpAny_call (codeAny_mono (F.run X.A.in1 X.stack s H ⟨[.ref a], []⟩ [.ref a] [.ref a] _ E0 hr.in1 I.env0.in1 (by
    have := hb s [.ref a] I.kIn (by simpa using hl)
    simpa using this) r2 hsp) fun r s' hq => ?_)
  cases r with
  | error e => exact pass0 pins σ H s e s' I hq
  | ok fl =>
    cases fl with
    | ret w =>
      obtain ⟨z, H', I', rz, n, ez, hn, q⟩ := I.after hq
      subst ez
      obtain ⟨t, rfl⟩ := rz
      exact ⟨⟨by omega, by omega⟩, ⟨.int n, H', I'.tok _, ⟨_, rfl⟩, q⟩⟩
    | next => exact False.elim hq
    | brk => exact False.elim hq
    | cont => exact False.elim hq
section
variable {P : Program} {w : World} {K : PySem.W.Frag} {mg : Str → Option Value} {base : Heap} {C : Addr}
/-- a method, as callers need it -/
def HasM (P : Program) (w : World) (K : PySem.W.Frag) (mg : Str → Option Value) (base : Heap) (C : Addr) (n q : Str) (st : Stmt) (k : Nat) (ps : List Str) (sp : Sp) : Prop := ∃ (fT : Addr) (fdT : FuncData), FnP K n q st fT fdT ∧ Binds K fdT ps [] ∧ FnOk P w K mg base CX0 k fT fdT ps sp ∧ Meth K C n fT
def spMRounds (C : Addr) : Sp := fun vs H Q _ => ∃ (a : Addr) (r : Bool) (fs : List (Str × Int)) (ts : List Tie), vs = [.ref a] ∧ WebAt C H a r fs ts ∧ Q (.bl r) H
theorem ok_mrounds {f : Addr} {fd : FuncData} (F : FnP K "rounds" "Web.rounds" S_Web_rounds f fd) (WC : WebCls K C) : FnOk P w K mg base CX0 1 f fd P_Web_rounds (spMRounds C) := by
  refine F.ok sc_Web_rounds (fun vs H Q E h => ?_) (fun cdv A outer s H vs Q E hr h => ⟨_, PSs.nox (pss_one (ps_ret (pe_fld (pv 0) rfl))), ?_⟩)
  · obtain ⟨a, r, fs, ts, rfl, _⟩ := h
    rfl
  · obtain ⟨a, r, fs, ts, rfl, ⟨dx, ds, dl, pr, tr, xs, h1, h2, h3, h4, h5, h6⟩, q⟩ := h
    exact ⟨_, rfl, a, C, dx, _, _, rfl, h1, WC.cl, WC.n1, rfl, q⟩
def spMPersons (C : Addr) : Sp := fun vs H Q _ => ∃ (a : Addr) (r : Bool) (fs : List (Str × Int)) (ts : List Tie), vs = [.ref a] ∧ WebAt C H a r fs ts ∧ ∀ l, H l = none → Q (.ref l) (upd H l (.lst ((fs.map (·.1)).map V.str)))
theorem keysF : ∀ fs : List (Str × Int), (kvF fs).map (fun kv => kV kv.1) = (fs.map (·.1)).map V.str
  | [] => rfl
  | f :: r => by
    show kV (Sum.inr f.1) :: (kvF r).map (fun kv => kV kv.1) = _
    rw [keysF r]
    rfl
theorem keysT : ∀ {ts : List Tie} {xs : List V}, ts.length = xs.length → (kvT ts xs).map (fun kv => kV kv.1) = (ts.map (·.nm)).map V.str
  | [], [], _ => rfl
  | [], _ :: _, h => by cases h
  | _ :: _, [], h => by cases h
  | t :: ts, x :: xs, h => by
    show kV (Sum.inr t.nm) :: (kvT ts xs).map (fun kv => kV kv.1) = _
    rw [keysT (by simpa using h)]
    rfl
theorem ok_mpersons {f : Addr} {fd : FuncData} (F : FnP K "persons" "Web.persons" S_Web_persons f fd) (WC : WebCls K C) (B : Blt mg) : FnOk P w K mg base CX0 1 f fd P_Web_persons (spMPersons C) := by
  refine F.ok sc_Web_persons (fun vs H Q E h => ?_) (fun cdv A outer s H vs Q E hr h => ⟨_, PSs.nox (pss_one (ps_ret (pe_callTy (call_list_dK rfl) (by rfl) B.list_ (by decide +kernel) (pa_cons (pe_fld (pv 0) rfl) pa_nil)))), ?_⟩)
  · obtain ⟨a, r, fs, ts, rfl, _⟩ := h
    rfl
  · obtain ⟨a, r, fs, ts, rfl, ⟨dx, ds, dl, pr, tr, xs, h1, h2, h3, h4, h5, h6⟩, q⟩ := h
    refine ⟨_, rfl, a, C, dx, _, _, rfl, h1, WC.cl, WC.n2, rfl, ds, _, rfl, h2, fun l nl => ?_⟩
    rw [keysF]
    exact q l nl
def spMTies (C : Addr) : Sp := fun vs H Q _ => ∃ (a : Addr) (r : Bool) (fs : List (Str × Int)) (ts : List Tie), vs = [.ref a] ∧ WebAt C H a r fs ts ∧ ∀ l, H l = none → Q (.ref l) (upd H l (.lst ((ts.map (·.nm)).map V.str)))
theorem ok_mties {f : Addr} {fd : FuncData} (F : FnP K "ties" "Web.ties" S_Web_ties f fd) (WC : WebCls K C) (B : Blt mg) : FnOk P w K mg base CX0 1 f fd P_Web_ties (spMTies C) := by
  refine F.ok sc_Web_ties (fun vs H Q E h => ?_) (fun cdv A outer s H vs Q E hr h => ⟨_, PSs.nox (pss_one (ps_ret (pe_callTy (call_list_dK rfl) (by rfl) B.list_ (by decide +kernel) (pa_cons (pe_fld (pv 0) rfl) pa_nil)))), ?_⟩)
  · obtain ⟨a, r, fs, ts, rfl, _⟩ := h
    rfl
  · obtain ⟨a, r, fs, ts, rfl, ⟨dx, ds, dl, pr, tr, xs, h1, h2, h3, h4, h5, h6⟩, q⟩ := h
    refine ⟨_, rfl, a, C, dx, _, _, rfl, h1, WC.cl, WC.n3, rfl, dl, _, rfl, h3, fun l nl => ?_⟩
    have lxs : ts.length = xs.length := by
      have := dxall_len h4
      rw [List.length_map] at this
      exact this.symm
    rw [keysT lxs]
    exact q l nl
def spMLen (C : Addr) : Sp := fun vs H Q _ => ∃ (a : Addr) (r : Bool) (fs : List (Str × Int)) (ts : List Tie), vs = [.ref a] ∧ WebAt C H a r fs ts ∧ Q (.int (fs.length : Nat)) H
theorem ok_mlen {f : Addr} {fd : FuncData} (F : FnP K "__len__" "Web.__len__" S_Web_len f fd) (WC : WebCls K C) (B : Blt mg) : FnOk P w K mg base CX0 1 f fd P_Web_len (spMLen C) := by
  refine F.ok sc_Web_len (fun vs H Q E h => ?_) (fun cdv A outer s H vs Q E hr h => ⟨_, PSs.nox (pss_one (ps_ret (pe_callB call_len_seq (by rfl) B.len_ PySem.boot_len (pa_cons (pe_fld (pv 0) rfl) pa_nil)))), ?_⟩)
  · obtain ⟨a, r, fs, ts, rfl, _⟩ := h
    rfl
  · obtain ⟨a, r, fs, ts, rfl, ⟨dx, ds, dl, pr, tr, xs, h1, h2, h3, h4, h5, h6⟩, q⟩ := h
    obtain ⟨_, ys, e, hp, hy⟩ := dx_list h5
    cases e
    refine ⟨_, rfl, a, C, dx, _, _, rfl, h1, WC.cl, WC.n4, rfl, pr, ys, rfl, .inl (SqL.of hp), ?_⟩
    have ly : ys.length = fs.length := by
      have := dxall_len hy
      rw [List.length_map] at this
      exact this
    rw [ly]
    exact q
/-- a thing that is no text, by its type -/
def NoStr (K : PySem.W.Frag) (H : Hp) (v : V) : Prop := ∃ t, TyX K H v (.type t) ∧ kitB t "str" = some false
def spMHasP (K : PySem.W.Frag) (C : Addr) : Sp := fun vs H Q _ => ∃ (a : Addr) (v : V) (r : Bool) (fs : List (Str × Int)) (ts : List Tie), vs = [.ref a, v] ∧ WebAt C H a r fs ts ∧ ((∃ z, v = .str z ∧ Q (.bl (decide (z ∈ fs.map (·.1)))) H) ∨ (NoStr K H v ∧ Q (.bl false) H))
theorem ok_mhasp {f : Addr} {fd : FuncData} (F : FnP K "has_person" "Web.has_person" S_Web_has_person f fd) (WC : WebCls K C) (B : Blt mg) : FnOk P w K mg base CX0 1 f fd P_Web_has_person (spMHasP K C) := by
  refine F.ok sc_Web_has_person (fun vs H Q E h => ?_) (fun cdv A outer s H vs Q E hr h => ⟨_, PSs.nox (pss_one (ps_ret (pe_and (pe_callB call_isi (by rfl) B.isinstance_ (by decide +kernel) (pa_cons (pv 1) (pa_cons (pe_bltn (v := .ty "str") (u := .type "str") (by rfl) B.str_ (by decide +kernel) rfl) pa_nil))) (pe_one (pe_cmp (pc_din (hu_of hr) (pv 1) (pe_fld (pv 0) rfl))))))), ?_⟩)
  · obtain ⟨a, v, r, fs, ts, rfl, _⟩ := h
    rfl
  · obtain ⟨a, v, r, fs, ts, rfl, ⟨dx, ds, dl, pr, tr, xs, h1, h2, h3, h4, h5, h6⟩, q⟩ := h
    rcases q with ⟨z, rfl, q⟩ | ⟨⟨t, ht, hk⟩, q⟩
    · refine ⟨_, rfl, _, _, _, _, _, rfl, .ty _, ty_str _, kit_ty k_str_str, true, rfl, iteT ⟨_, rfl, _, rfl, a, C, dx, _, _, rfl, h1, WC.cl, WC.n2, rfl, ds, _, rfl, DGet.k (k := Sum.inr z) h2, ?_⟩⟩
      rw [valF]
      exact q
    · exact ⟨_, rfl, _, _, _, _, _, rfl, .ty _, ht, kit_ty hk, false, rfl, iteF q⟩
theorem valT (ts : List Tie) (xs : List V) (hl : ts.length = xs.length) (z : Str) : (valV (kvT ts xs) (Sum.inr z)).isSome = decide (z ∈ ts.map (·.nm)) := by
  induction ts generalizing xs with
  | nil => rfl
  | cons t r ih =>
    cases xs with
    | nil => cases hl
    | cons x xs =>
      show (valV ((Sum.inr t.nm, x) :: kvT r xs) (Sum.inr z)).isSome = _
      by_cases h : t.nm = z
      · rw [valV_pos (by rw [h])]
        subst h
        simp
      · rw [valV_neg (fun e => h (Sum.inr.inj e)), ih xs (by simpa using hl)]
        have h2 : ¬ (z = t.nm) := fun e => h e.symm
        simp [h2]
def spMHasT (K : PySem.W.Frag) (C : Addr) : Sp := fun vs H Q _ => ∃ (a : Addr) (v : V) (r : Bool) (fs : List (Str × Int)) (ts : List Tie), vs = [.ref a, v] ∧ WebAt C H a r fs ts ∧ ((∃ z, v = .str z ∧ Q (.bl (decide (z ∈ ts.map (·.nm)))) H) ∨ (NoStr K H v ∧ Q (.bl false) H))
theorem ok_mhast {f : Addr} {fd : FuncData} (F : FnP K "has_tie" "Web.has_tie" S_Web_has_tie f fd) (WC : WebCls K C) (B : Blt mg) : FnOk P w K mg base CX0 1 f fd P_Web_has_tie (spMHasT K C) := by
  refine F.ok sc_Web_has_tie (fun vs H Q E h => ?_) (fun cdv A outer s H vs Q E hr h => ⟨_, PSs.nox (pss_one (ps_ret (pe_and (pe_callB call_isi (by rfl) B.isinstance_ (by decide +kernel) (pa_cons (pv 1) (pa_cons (pe_bltn (v := .ty "str") (u := .type "str") (by rfl) B.str_ (by decide +kernel) rfl) pa_nil))) (pe_one (pe_cmp (pc_din (hu_of hr) (pv 1) (pe_fld (pv 0) rfl))))))), ?_⟩)
  · obtain ⟨a, v, r, fs, ts, rfl, _⟩ := h
    rfl
  · obtain ⟨a, v, r, fs, ts, rfl, ⟨dx, ds, dl, pr, tr, xs, h1, h2, h3, h4, h5, h6⟩, q⟩ := h
    have lxs : ts.length = xs.length := by
      have := dxall_len h4
      rw [List.length_map] at this
      exact this.symm
    rcases q with ⟨z, rfl, q⟩ | ⟨⟨t, ht, hk⟩, q⟩
    · refine ⟨_, rfl, _, _, _, _, _, rfl, .ty _, ty_str _, kit_ty k_str_str, true, rfl, iteT ⟨_, rfl, _, rfl, a, C, dx, _, _, rfl, h1, WC.cl, WC.n3, rfl, dl, _, rfl, DGet.k (k := Sum.inr z) h3, ?_⟩⟩
      rw [valT ts xs lxs]
      exact q
    · exact ⟨_, rfl, _, _, _, _, _, rfl, .ty _, ht, kit_ty hk, false, rfl, iteF q⟩
def spMRow (C : Addr) : Sp := fun vs H Q _ => ∃ (a : Addr) (r : Bool) (fs : List (Str × Int)) (ts : List Tie) (t : Tie), vs = [.ref a, .str t.nm] ∧ WebAt C H a r fs ts ∧ t ∈ ts ∧ (ts.map (·.nm)).Nodup ∧ ∀ x, Dx H x (dTie t) → Q x H
theorem ok_mrow {f : Addr} {fd : FuncData} (F : FnP K "tie_row" "Web.tie_row" S_Web_tie_row f fd) (WC : WebCls K C) (HT : HasM P w K mg base C "has_tie" "Web.has_tie" S_Web_has_tie 1 P_Web_has_tie (spMHasT K C)) : FnOk P w K mg base CX0 2 f fd P_Web_tie_row (spMRow C) := by
  obtain ⟨fT, fdT, FT, bT, GT, mT⟩ := HT
  refine F.ok sc_Web_tie_row (fun vs H Q E h => ?_) (fun cdv A outer s H vs Q E hr h => ⟨_, PSs.nox (pss_cons (ps_if (pt_not (pt_val (pe_meth (pv 0) WC.cl mT GT hr bT .nil pass0 (pa_cons (pv 1) pa_nil)))) pss_no pss_nil)
     (pss_one (ps_ret (pe_dget (hu_of hr) (pe_fld (pv 0) rfl) (pv 1) (fun _ _ => rfl))))), ?_⟩)
  · obtain ⟨a, r, fs, ts, t, rfl, _⟩ := h
    rfl
  · obtain ⟨a, r, fs, ts, t, rfl, W0, ht, nd, q⟩ := h
    have W := W0
    obtain ⟨dx, ds, dl, pr, tr, xs, h1, h2, h3, h4, h5, h6⟩ := W0
    have lxs : ts.length = xs.length := by
      have := dxall_len h4
      rw [List.length_map] at this
      exact this.symm
    obtain ⟨i, hi, rfl⟩ := List.getElem_of_mem ht
    obtain ⟨x, e1, e2⟩ := dxall_get (i := i) h4 (by rw [List.getElem?_map, List.getElem?_eq_getElem hi]; rfl)
    refine ⟨_, rfl, a, dx, _, rfl, h1, rfl, _, rfl, a, _, r, fs, ts, rfl, W, .inl ⟨_, rfl, true, qb (List.mem_map.mpr ⟨_, ht, rfl⟩), iteF ?_⟩⟩
    refine ⟨_, rfl, a, C, dx, _, _, rfl, h1, WC.cl, WC.n3, rfl, _, rfl, dl, x, rfl, ?_, q x e2⟩
    have g := kvT_get lxs nd (List.getElem?_eq_getElem hi) e1
    have d := DGet.k (k := Sum.inr ts[i].nm) h3
    rw [g] at d
    exact d
end
end Cw
namespace Cw
open PySem PySem.Spec PyProof.Rows L2
theorem valF_at : ∀ {fs : List (Str × Int)} {g : Str × Int}, (fs.map (·.1)).Nodup → g ∈ fs → valV (kvF fs) (Sum.inr g.1) = some (.int g.2)
  | [], _, _, h => by cases h
  | f :: r, g, nd, h => by
    have nd' := List.nodup_cons.mp nd
    show valV ((Sum.inr f.1, V.int f.2) :: kvF r) (Sum.inr g.1) = _
    rcases List.mem_cons.mp h with e | h
    · subst e
      exact valV_pos rfl
    · rw [valV_neg (fun e => nd'.1 (by show f.1 ∈ _; rw [show f.1 = g.1 from Sum.inr.inj e]; exact List.mem_map.mpr ⟨_, h, rfl⟩))]
      exact valF_at nd'.2 h
/-- the state of who stands at a place -/
def look (hs : List (Int × Int)) (n : Int) : Int := ((hs.find? fun h => decide (h.1 = n)).map (·.2)).getD 0
theorem look_none {hs : List (Int × Int)} {n : Int} (h : ∀ x ∈ hs, x.1 ≠ n) : look hs n = 0 := by
  unfold look
  rw [List.find?_eq_none.mpr fun x hx => by simpa using h x hx]
  rfl
theorem look_at {hs : List (Int × Int)} {n : Int} {i : Nat} (hi : i < hs.length) (e : hs[i].1 = n) (no : ∀ x ∈ hs.take i, x.1 ≠ n) : look hs n = hs[i].2 := by
  unfold look
  have es : hs = hs.take i ++ hs[i] :: hs.drop (i + 1) := by rw [List.getElem_cons_drop, List.take_append_drop]
  have ef : hs.find? (fun h => decide (h.1 = n)) = some hs[i] := by
    have e2 := congrArg (List.find? (fun h : Int × Int => decide (h.1 = n))) es
    rw [e2, List.find?_append, List.find?_eq_none.mpr fun x hx => by simpa using no x hx]
    rw [List.find?_cons, show decide (hs[i].1 = n) = true from decide_eq_true e]
    rfl
  rw [ef]
  rfl
section
variable {P : Program} {w : World} {K : PySem.W.Frag} {mg : Str → Option Value} {base : Heap} {C : Addr}
abbrev RowM (P : Program) (w : World) (K : PySem.W.Frag) (mg : Str → Option Value) (base : Heap) (C : Addr) : Prop := HasM P w K mg base C "tie_row" "Web.tie_row" S_Web_tie_row 2 P_Web_tie_row (spMRow C)
def spMEnds (C : Addr) : Sp := fun vs H Q _ => ∃ (a : Addr) (r : Bool) (fs : List (Str × Int)) (ts : List Tie) (t : Tie), vs = [.ref a, .str t.nm] ∧ WebAt C H a r fs ts ∧ t ∈ ts ∧ (ts.map (·.nm)).Nodup ∧ ∀ p, H p = none → Q (.ref p) (upd H p (.tup [.str t.one, .str t.other]))
theorem ok_mends {f : Addr} {fd : FuncData} (F : FnP K "ends" "Web.ends" S_Web_ends f fd) (WC : WebCls K C) (R : RowM P w K mg base C) : FnOk P w K mg base CX0 3 f fd P_Web_ends (spMEnds C) := by
  obtain ⟨fR, fdR, FR, bR, GR, mR⟩ := R
  refine F.ok sc_Web_ends (fun vs H Q E h => ?_) (fun cdv A outer s H vs Q E hr h => ⟨_, PSs.nox (pss_cons (ps_set (i := 2) sc_Web_ends.nd rfl (.inl rfl) (pe_meth (pv 0) WC.cl mR GR hr bR .nil pass0 (pa_cons (pv 1) pa_nil)))
     (pss_one (ps_ret (pe_tup (pa_cons (pe_ix ix_tup (pv 2) pe_int (fun _ _ => rfl)) (pa_cons (pe_ix ix_tup (pv 2) pe_int (fun _ _ => rfl)) pa_nil)))))), ?_⟩)
  · obtain ⟨a, r, fs, ts, t, rfl, _⟩ := h
    rfl
  · obtain ⟨a, r, fs, ts, t, rfl, W, ht, nd, q⟩ := h
    obtain ⟨dx, ds, dl, pr, tr, xs, h1, _⟩ := W
    refine ⟨_, rfl, a, dx, _, rfl, h1, rfl, _, rfl, a, r, fs, ts, t, rfl, ⟨dx, ds, dl, pr, tr, xs, h1, ‹_›⟩, ht, nd, fun x hx => ?_⟩
    obtain ⟨p, vh, rfl, hp, _⟩ := dx_tie hx
    refine ⟨_, rfl, p, _, 1, _, rfl, rfl, SqT.of hp, atI_int (by decide) rfl, _, rfl, p, _, 2, _, rfl, rfl, SqT.of hp, atI_int (by decide) rfl, by show 2 ≤ sizeLine; decide, fun l nl => q l nl⟩
def spMLength (C : Addr) : Sp := fun vs H Q _ => ∃ (a : Addr) (r : Bool) (fs : List (Str × Int)) (ts : List Tie) (t : Tie), vs = [.ref a, .str t.nm] ∧ WebAt C H a r fs ts ∧ t ∈ ts ∧ (ts.map (·.nm)).Nodup ∧ Q (.int t.len) H
theorem ok_mlength {f : Addr} {fd : FuncData} (F : FnP K "length" "Web.length" S_Web_length f fd) (WC : WebCls K C) (R : RowM P w K mg base C) : FnOk P w K mg base CX0 3 f fd P_Web_length (spMLength C) := by
  obtain ⟨fR, fdR, FR, bR, GR, mR⟩ := R
  refine F.ok sc_Web_length (fun vs H Q E h => ?_) (fun cdv A outer s H vs Q E hr h => ⟨_, PSs.nox (pss_one (ps_ret (pe_ix ix_tup (pe_meth (pv 0) WC.cl mR GR hr bR .nil pass0 (pa_cons (pv 1) pa_nil)) pe_int (fun _ _ => rfl)))), ?_⟩)
  · obtain ⟨a, r, fs, ts, t, rfl, _⟩ := h
    rfl
  · obtain ⟨a, r, fs, ts, t, rfl, W, ht, nd, q⟩ := h
    obtain ⟨dx, ds, dl, pr, tr, xs, h1, _⟩ := W
    refine ⟨_, rfl, a, dx, _, rfl, h1, rfl, _, rfl, a, r, fs, ts, t, rfl, ⟨dx, ds, dl, pr, tr, xs, h1, ‹_›⟩, ht, nd, fun x hx => ?_⟩
    obtain ⟨p, vh, rfl, hp, _⟩ := dx_tie hx
    exact ⟨p, _, 3, _, rfl, rfl, SqT.of hp, atI_int (by decide) rfl, q⟩
def spMHear (C : Addr) : Sp := fun vs H Q _ => ∃ (a : Addr) (r : Bool) (fs : List (Str × Int)) (ts : List Tie) (t : Tie), vs = [.ref a, .str t.nm] ∧ WebAt C H a r fs ts ∧ t ∈ ts ∧ (ts.map (·.nm)).Nodup ∧ ∀ x, Dx H x (dHs t.hs) → Q x H
theorem ok_mhear {f : Addr} {fd : FuncData} (F : FnP K "hearers" "Web.hearers" S_Web_hearers f fd) (WC : WebCls K C) (R : RowM P w K mg base C) : FnOk P w K mg base CX0 3 f fd P_Web_hearers (spMHear C) := by
  obtain ⟨fR, fdR, FR, bR, GR, mR⟩ := R
  refine F.ok sc_Web_hearers (fun vs H Q E h => ?_) (fun cdv A outer s H vs Q E hr h => ⟨_, PSs.nox (pss_one (ps_ret (pe_ix ix_tup (pe_meth (pv 0) WC.cl mR GR hr bR .nil pass0 (pa_cons (pv 1) pa_nil)) pe_int (fun _ _ => rfl)))), ?_⟩)
  · obtain ⟨a, r, fs, ts, t, rfl, _⟩ := h
    rfl
  · obtain ⟨a, r, fs, ts, t, rfl, W, ht, nd, q⟩ := h
    obtain ⟨dx, ds, dl, pr, tr, xs, h1, _⟩ := W
    refine ⟨_, rfl, a, dx, _, rfl, h1, rfl, _, rfl, a, r, fs, ts, t, rfl, ⟨dx, ds, dl, pr, tr, xs, h1, ‹_›⟩, ht, nd, fun x hx => ?_⟩
    obtain ⟨p, vh, rfl, hp, hh⟩ := dx_tie hx
    exact ⟨p, _, 4, _, rfl, rfl, SqT.of hp, atI_int (by decide) rfl, q vh hh⟩
abbrev HasTM (P : Program) (w : World) (K : PySem.W.Frag) (mg : Str → Option Value) (base : Heap) (C : Addr) : Prop := HasM P w K mg base C "has_tie" "Web.has_tie" S_Web_has_tie 1 P_Web_has_tie (spMHasT K C)
/-- a person's or somebody's name, or a hearer's tuple of a tie that there is -/
def spMHasH (K : PySem.W.Frag) (C : Addr) : Sp := fun vs H Q _ => ∃ (a : Addr) (v : V) (r : Bool) (fs : List (Str × Int)) (ts : List Tie), vs = [.ref a, v] ∧ WebAt C H a r fs ts ∧ (ts.map (·.nm)).Nodup ∧
  ((∃ z, v = .str z ∧ Q (.bl false) H) ∨ (∃ (p : Addr) (t : Tie) (n : Int), v = .ref p ∧ SqT K H p [.str t.nm, .int n] ∧ t ∈ ts ∧ Q (.bl (decide (0 < n ∧ n < t.len))) H))
theorem ok_mhash {f : Addr} {fd : FuncData} (F : FnP K "has_hearer" "Web.has_hearer" S_Web_has_hearer f fd) (WC : WebCls K C) (HT : HasTM P w K mg base C) (L : HasM P w K mg base C "length" "Web.length" S_Web_length 3 P_Web_length (spMLength C))
    (W' : Has P w K mg base "is_whole" S_is_whole 1 P_is_whole spWhole) (T : Has P w K mg base "is_tuple_of" S_is_tuple_of 1 P_is_tuple_of (spTupOf K)) : FnOk P w K mg base CX0 4 f fd P_Web_has_hearer (spMHasH K C) := by
  obtain ⟨fH, fdH, FH, bH, GH, mH⟩ := HT
  obtain ⟨fL, fdL, FL, bL, GL, mL⟩ := L
  obtain ⟨fW, fdW, FW, bW, GW, gW⟩ := W'
  obtain ⟨fT, fdT, FT, bT, GT, gT⟩ := T
  refine F.ok sc_Web_has_hearer (fun vs H Q E h => ?_) (fun cdv A outer s H vs Q E hr h => ⟨_, PSs.nox (pss_cons (ps_if (pt_not (pt_val (pe_call GT (hr.mono (by decide)) rfl gT FT.kp bT .nil pass0 (pa_cons (pv 1) (pa_cons pe_int pa_nil))))) (pss_one (ps_ret pe_bl)) pss_nil)
     (pss_cons (ps_asg (pv 1) (pg_tup (by rfl) (pgs_cons (pg_name (i := 2) sc_Web_has_hearer.nd rfl (.inl rfl)) (pgs_cons (pg_name (i := 3) sc_Web_has_hearer.nd rfl (.inl rfl)) pgs_nil))))
     (pss_one (ps_ret (pe_and (pe_meth (pv 0) WC.cl mH GH (hr.mono (by decide)) bH .nil pass0 (pa_cons (pv 2) pa_nil)) (pe_and (pe_call GW (hr.mono (by decide)) rfl gW FW.kp bW .nil pass0 (pa_cons (pv 3) pa_nil)) (pe_one (pe_chain op_lt op_lt pe_int (pv 3) (pe_meth (pv 0) WC.cl mL GL hr bL .nil pass0 (pa_cons (pv 2) pa_nil)))))))))), ?_⟩)
  · obtain ⟨a, v, r, fs, ts, rfl, _⟩ := h
    rfl
  · obtain ⟨a, v, r, fs, ts, rfl, W, nd, q⟩ := h
    have W0 := W
    obtain ⟨dx, ds, dl, pr, tr, xs, h1, _⟩ := W
    rcases q with ⟨z, rfl, q⟩ | ⟨p, t, n, rfl, hp, ht, q⟩
    · exact ⟨_, rfl, _, 2, rfl, .inr ⟨⟨_, ty_str _, k_str_tup⟩, false, rfl, iteT q⟩⟩
    · refine ⟨_, rfl, _, 2, rfl, .inl ⟨p, _, rfl, hp, true, rfl, iteF ?_⟩⟩
      refine ⟨_, rfl, p, _, rfl, hp, rfl, _, _, rfl, _, _, rfl, rfl, ?_⟩
      refine ⟨_, rfl, a, dx, _, rfl, h1, rfl, _, rfl, a, _, r, fs, ts, rfl, W0, .inl ⟨_, rfl, true, qb (List.mem_map.mpr ⟨_, ht, rfl⟩), iteT ?_⟩⟩
      refine ⟨_, rfl, n, rfl, true, rfl, iteT ⟨_, rfl, _, _, rfl, rfl, _, rfl, ?_⟩⟩
      by_cases h0 : 0 < n
      · rw [if_pos (decide_eq_true h0)]
        refine ⟨_, rfl, a, dx, _, rfl, h1, rfl, _, rfl, a, r, fs, ts, t, rfl, W0, ht, nd, _, _, rfl, rfl, ?_⟩
        have e : decide (0 < n ∧ n < t.len) = decide (n < t.len) := by simp [h0]
        rw [e] at q
        exact q
      · rw [if_neg (by rw [decide_eq_false h0]; exact Bool.false_ne_true)]
        have e : decide (0 < n ∧ n < t.len) = false := decide_eq_false fun z => h0 z.1
        rw [e] at q
        exact q
theorem nostr_tup {H : Hp} {p : Addr} {xs : List V} (h : SqT K H p xs) : NoStr K H (.ref p) := ⟨_, ty_tup h, k_tup_str⟩
def spMState (K : PySem.W.Frag) (C : Addr) : Sp := fun vs H Q _ => ∃ (a : Addr) (v : V) (r : Bool) (fs : List (Str × Int)) (ts : List Tie), vs = [.ref a, v] ∧ WebAt C H a r fs ts ∧ (ts.map (·.nm)).Nodup ∧ (fs.map (·.1)).Nodup ∧
  ((∃ f, f ∈ fs ∧ v = .str f.1 ∧ Q (.int f.2) H) ∨ (∃ (p : Addr) (t : Tie) (n : Int), v = .ref p ∧ SqT K H p [.str t.nm, .int n] ∧ t ∈ ts ∧ 0 < n ∧ n < t.len ∧ Q (.int (look t.hs n)) H))
theorem ok_mstate {f : Addr} {fd : FuncData} (F : FnP K "state" "Web.state" S_Web_state f fd) (WC : WebCls K C) (HP : HasM P w K mg base C "has_person" "Web.has_person" S_Web_has_person 1 P_Web_has_person (spMHasP K C))
    (HH : HasM P w K mg base C "has_hearer" "Web.has_hearer" S_Web_has_hearer 4 P_Web_has_hearer (spMHasH K C)) (HR : HasM P w K mg base C "hearers" "Web.hearers" S_Web_hearers 3 P_Web_hearers (spMHear C)) : FnOk P w K mg base CX0 5 f fd P_Web_state (spMState K C) := by
  obtain ⟨fP, fdP, FP, bP, GP, mP⟩ := HP
  obtain ⟨fH, fdH, FH, bH, GH, mH⟩ := HH
  obtain ⟨fR, fdR, FR, bR, GR, mR⟩ := HR
  have nd := sc_Web_state.nd
  refine F.ok sc_Web_state (fun vs H Q E h => ?_) (fun cdv A outer s H vs Q E hr h => ⟨_, PSs.nox (pss_cons (ps_if (pt_val (pe_meth (pv 0) WC.cl mP GP (hr.mono (by decide)) bP .nil pass0 (pa_cons (pv 1) pa_nil))) (pss_one (ps_ret (pe_dget (hu_of hr) (pe_fld (pv 0) rfl) (pv 1) (fun _ _ => rfl)))) pss_nil)
     (pss_cons (ps_if (pt_not (pt_val (pe_meth (pv 0) WC.cl mH GH hr bH .nil pass0 (pa_cons (pv 1) pa_nil)))) pss_no pss_nil)
     (pss_cons (ps_asg (pv 1) (pg_tup (by rfl) (pgs_cons (pg_name (i := 2) nd rfl (.inl rfl)) (pgs_cons (pg_name (i := 3) nd rfl (.inl rfl)) pgs_nil))))
     (pss_cons (ps_for PassesOwn.never rfl (pi_tup (pe_meth (pv 0) WC.cl mR GR (hr.mono (by decide)) bR .nil pass0 (pa_cons (pv 2) pa_nil))) (pg_tup (by rfl) (pgs_cons (pg_name (i := 4) nd rfl (.inl rfl)) (pgs_cons (pg_name (i := 5) nd rfl (.inl rfl)) pgs_nil)))
        (pss_one (ps_if (pt_cmpR op_eq (pv 4) (pv 3) (nomark _)) (pss_one (ps_ret (pv 5))) pss_nil)))
     (pss_one (ps_ret pe_int)))))), ?_⟩)
  · obtain ⟨a, v, r, fs, ts, rfl, _⟩ := h
    rfl
  · obtain ⟨a, v, r, fs, ts, rfl, W, ndt, ndf, q⟩ := h
    have W0 := W
    obtain ⟨dx, ds, dl, pr, tr, xs, h1, h2, _⟩ := W
    rcases q with ⟨g, hg, rfl, q⟩ | ⟨p, t, n, rfl, hp, ht, n0, nl, q⟩
    · refine ⟨_, rfl, a, dx, _, rfl, h1, rfl, _, rfl, a, _, r, fs, ts, rfl, W0, .inl ⟨_, rfl, true, qb (List.mem_map.mpr ⟨_, hg, rfl⟩), iteT ?_⟩⟩
      refine ⟨_, rfl, a, C, dx, _, _, rfl, h1, WC.cl, WC.n2, rfl, _, rfl, ds, _, rfl, ?_, q⟩
      have d := DGet.k (k := Sum.inr g.1) h2
      rw [valF_at ndf hg] at d
      exact d
    · refine ⟨_, rfl, a, dx, _, rfl, h1, rfl, _, rfl, a, _, r, fs, ts, rfl, W0, .inr ⟨nostr_tup hp, false, rfl, iteF ?_⟩⟩
      refine ⟨_, rfl, a, dx, _, rfl, h1, rfl, _, rfl, a, _, r, fs, ts, rfl, W0, ndt, .inr ⟨p, t, n, rfl, hp, ht, true, qb ⟨n0, nl⟩, iteF ?_⟩⟩
      refine ⟨_, rfl, p, _, rfl, hp, rfl, _, _, rfl, _, _, rfl, rfl, ?_⟩
      refine ⟨_, rfl, a, dx, _, rfl, h1, rfl, _, rfl, a, r, fs, ts, t, rfl, W0, ht, ndt, fun x hx => ?_⟩
      obtain ⟨b, ys, rfl, hb, hy⟩ := dx_hs hx
      have ly : ys.length = t.hs.length := by
        have := dxall_len hy
        rw [List.length_map] at this
        exact this
      refine ⟨b, rfl, ⟨_, hb.sq⟩, ?_⟩
      refine for_it (walk_tup (xs := ys)) (fun i σ H2 => H2 = H ∧ (∀ h ∈ t.hs.take i, h.1 ≠ n) ∧ ∃ x4 x5, σ = [some (V.ref a), some (.ref p), some (.str t.nm), some (.int n), x4, x5]) ⟨rfl, fun h hh => by simp at hh, none, none, rfl⟩ (fun i σ H2 _ h => by rw [h.1]; exact hb.sq) ?_ ?_
      · rintro i x σ H2 H3 hi ⟨rfl, no, x4, x5, rfl⟩ ⟨rfl, hxi⟩
        have hi2 : i < t.hs.length := by omega
        obtain ⟨y, e1, e2⟩ := dxall_get (i := i) hy (by rw [List.getElem?_map, List.getElem?_eq_getElem hi2]; rfl)
        have exy : x = y := Option.some.inj (hxi.symm.trans e1)
        subst exy
        obtain ⟨u, rfl, hu⟩ := dx_hear e2
        refine ⟨u, _, rfl, SqT.of hu, rfl, _, _, rfl, _, _, rfl, rfl, ?_⟩
        refine ⟨_, rfl, _, rfl, rfl, _, rfl, ite2 (fun e => ?_) (fun e => ?_)⟩
        · have e : t.hs[i].1 = n := V.int.inj (of_decide_eq_true e)
          refine ⟨_, rfl, ?_⟩
          have lk : look t.hs n = t.hs[i].2 := look_at hi2 e no
          rw [lk] at q
          exact q
        · refine ⟨rfl, fun h hh => ?_, some (.int t.hs[i].1), some (.int t.hs[i].2), rfl⟩
          rw [List.take_add_one, List.getElem?_eq_getElem hi2] at hh
          rcases List.mem_append.mp hh with hh | hh
          · exact no h hh
          · have : h = t.hs[i] := by simpa using hh
            subst this
            exact fun z => e (decide_eq_true (by rw [z]))
      · rintro σ H2 ⟨rfl, no, x4, x5, rfl⟩
        rw [ly, List.take_length] at no
        rw [look_none no] at q
        exact q
end
end Cw
namespace Cw
open PySem PySem.Spec PyProof.Rows L2
section
variable {P : Program} {w : World} {K : PySem.W.Frag} {mg : Str → Option Value} {base : Heap} {C : Addr}
theorem bind_kw {f e : Addr} {fd : FuncData} (F : FnI K f fd e) : ∃ its mv : List Value, KBn K fd P_Web_init 2 ["rounds"] (fun us ws => us ++ (its ++ ws)) (fun vs zs => vs ++ ([V.ref e] ++ zs)) := by
  refine F.kbinds (n := 2) (ks := ["rounds"]) (ms := []) (g := fun us its mv ws => us ++ (its ++ ws)) (by simp) (by simp) (by simp) (fun a b c d => a.append (b.append d)) ?_
  intro T D doc pm an cdv ct us its mv ws h1 h2 h3 h4
  match us, h1, its, h2, mv, h3, ws, h4 with
  | [u1, u2], _, [i1], _, [], _, [w1], _ =>
    refine ⟨_, rfl, ?_⟩
    exact rfl
def names3 {α : Type} (us ws : List α) : List α := match ws with
  | [a, b, c] => us ++ [b, a, c]
  | _ => us
theorem vals3 {vs zs : List V} {us ws : List Value} (a : Vals vs us) (d : Vals zs ws) : Vals (names3 vs zs) (names3 us ws) := by
  cases d with
  | nil => exact a
  | cons d1 d =>
    cases d with
    | nil => exact a
    | cons d2 d =>
      cases d with
      | nil => exact a
      | cons d3 d =>
        cases d with
        | nil => exact a.append (.cons d2 (.cons d1 (.cons d3 .nil)))
        | cons d4 d => exact a
theorem bind_all {f e : Addr} {fd : FuncData} (F : FnI K f fd e) : ∃ its mv : List Value, KBn K fd P_Web_init 1 ["ties", "persons", "rounds"] (fun us ws => names3 us ws) (fun vs zs => names3 vs zs) := by
  refine F.kbinds (n := 1) (ks := ["ties", "persons", "rounds"]) (ms := []) (g := fun us its mv ws => names3 us ws) (by simp) (by simp) (by simp) (fun a b c d => vals3 a d) ?_
  intro T D doc pm an cdv ct us its mv ws h1 h2 h3 h4
  match us, h1, its, h2, mv, h3, ws, h4 with
  | [u1], _, [i1], _, [], _, [w1, w2, w3], _ =>
    refine ⟨_, rfl, ?_⟩
    exact rfl
theorem bind_two {f e : Addr} {fd : FuncData} (F : FnI K f fd e) : ∃ ds, Vals [V.bl false] ds ∧ Binds K fd P_Web_init ds := by
  refine F.binds (n := 3) (j := 1) (by simp) (by rfl) ?_ (by simp)
  intro T D doc pm an cdv ct us its ks h1 h2 h3
  match us, h1, its, h2, ks, h3 with
  | [u1, u2, u3], _, [i1], _, [k1], _ =>
    refine ⟨_, rfl, ?_⟩
    exact ⟨_, _, _, _, _, _, rfl, rfl, rfl⟩
end
end Cw
namespace Cw
open PySem PySem.Spec PyProof.Rows L2
theorem sh_name {z : Str} (h : IsName z) : Sh (.str z) 8 0 := sh_str h.2.1 fun c hc => by
  have := h.2.2 c hc
  omega
theorem lenR_le {r : Bool} {n : Int} (h : LenR r n) : 1 ≤ n ∧ n ≤ 10 ^ 30 := by
  cases r with
  | true =>
    have e : n = 1 := h
    subst e
    exact ⟨by decide, by decide⟩
  | false =>
    obtain ⟨a, b⟩ := (show 2 ≤ n ∧ n ≤ 10 ^ 30 from h)
    exact ⟨by omega, b⟩
theorem sh_hs {L : Int} {hs : List (Int × Int)} (hL : L ≤ 10 ^ 30) (h : Hear L hs) (hn : hs.length ≤ 12) : Sh (dHs hs) 36 2 := by
  refine sh_tup (b := 2) (p := 1) (n := 12) (fun d hd => ?_) (by rw [List.length_map]; exact hn)
  obtain ⟨x, hx, rfl⟩ := List.mem_map.mp hd
  obtain ⟨b1, b2, b3, b4⟩ := h.at_ x hx
  refine sh_tup (b := 0) (p := 0) (n := 2) (fun d hd => ?_) (Nat.le_refl _)
  simp only [List.mem_cons, List.not_mem_nil, or_false] at hd
  rcases hd with rfl | rfl
  · exact sh_int (by omega)
  · exact sh_int (by omega)
theorem sh_tie {r : Bool} {ns : List Str} {t : Tie} (hns : ∀ y ∈ ns, IsName y) (g : Good r ns t) (hn : t.hs.length ≤ 12) : Sh (dTie t) 185 3 := by
  have l := lenR_le g.ln
  refine sh_tup (b := 36) (p := 2) (n := 5) (fun d hd => ?_) (Nat.le_refl _)
  simp only [List.mem_cons, List.not_mem_nil, or_false] at hd
  rcases hd with rfl | rfl | rfl | rfl | rfl
  · exact (sh_name g.nm).mono (by decide) (by decide)
  · exact (sh_name (hns _ g.h1)).mono (by decide) (by decide)
  · exact (sh_name (hns _ g.h2)).mono (by decide) (by decide)
  · exact (sh_int (by omega)).mono (by decide) (by decide)
  · exact sh_hs l.2 g.hr hn
theorem Specs.names {r : Bool} {fs : List (Str × Int)} {ts : List Tie} (S : Specs r fs ts) : ∀ y ∈ fs.map (·.1), IsName y := fun y hy => by
  obtain ⟨f, hf, rfl⟩ := List.mem_map.mp hy
  exact S.fo.nm f hf
theorem Specs.sh1 {r : Bool} {fs : List (Str × Int)} {ts : List Tie} (S : Specs r fs ts) {t : Tie} (ht : t ∈ ts) : Sh (dTie t) 185 3 := sh_tie S.names (S.ti t ht) (Nat.le_trans (told_mem ht) S.h12)
theorem Specs.shT {r : Bool} {fs : List (Str × Int)} {ts : List Tie} (S : Specs r fs ts) : Sh (.list (ts.map dTie)) 2232 4 := by
  refine sh_list (b := 185) (p := 3) (n := 12) (fun d hd => ?_) (by rw [List.length_map]; exact S.t12)
  obtain ⟨t, ht, rfl⟩ := List.mem_map.mp hd
  exact S.sh1 ht
theorem eqv_no (ts : List Tie) : PyData.eqv (.list (ts.map dTie)) (.list []) = ts.isEmpty := by
  cases ts with
  | nil => simp [PyData.eqv, PyData.eqvAll]
  | cons y r => simp [PyData.eqv, PyData.eqvAll]
/-- a comprehension that gives a plain value for each item -/
theorem lc_map {J : It} {xs ys : List V} {G : Hp → Prop} (w : Walk J xs.length G (YAt xs)) {g : TG} {te : TE} {vs : List Nat} {σ : L2.St} {H1 : Hp} {D : Addr} {Qd : Hp → Prop} (nD : H1 D = none) (hG : ∀ H, Same H1 H → G H) (hl : ys.length = xs.length) (hn : xs.length ≤ 1000)
    (step : ∀ (i : Nat) (x y : V) (H2 : Hp) (k : V → Hp → Prop), xs[i]? = some x → ys[i]? = some y → Same H1 H2 → (∀ H4, Same H2 H4 → k y H4) → g x (wipe σ vs) H2 fun σ2 H3 => wipe σ2 vs = wipe σ vs ∧ te σ2 H3 k)
    (q : ∀ H', Same H1 H' → H' D = some (.lst ys) → Qd H') : LcD J g tYes te vs σ H1 D Qd := by
  refine lc_it w (fun i H2 => Same H1 (Off D H2) ∧ H2 D = some (.lst (ys.take i))) ⟨fun b o e => Off.at (ne_of_none e nD) (same_new nD _ _ e), upd_same⟩ (fun i H2 _ hh => hG H2 (fun b o e => Off.same _ _ (hh.1 b o e))) ?_ ?_
  · rintro i x H2 H2' hi ⟨sm, hD⟩ ⟨rfl, hxi⟩
    have hy : i < ys.length := by omega
    have e := step i x ys[i] H2' (fun y H4 => ∃ acc, H4 D = some (.lst acc) ∧ acc.length < sizeLine ∧ (Same H1 (Off D (upd H4 D (.lst (acc ++ [y])))) ∧ (upd H4 D (.lst (acc ++ [y]))) D = some (.lst (ys.take (i + 1))))) hxi (List.getElem?_eq_getElem hy) (fun b o e => Off.same _ _ (sm b o e)) (fun H4 s4 => ?_)
    · exact e
    · refine ⟨_, s4 _ _ hD, by rw [List.length_take]; exact small1000 (by omega), fun b o e => ?_, ?_⟩
      · have nb : b ≠ D := ne_of_none e nD
        exact Off.at nb (by rw [upd_ne nb]; exact s4 _ _ (Off.same _ _ (sm b o e)))
      · rw [upd_same, List.take_add_one, List.getElem?_eq_getElem hy]
        rfl
  · rintro H2 ⟨sm, hD⟩
    rw [← hl, List.take_length] at hD
    exact q H2 (fun b o e => Off.same _ _ (sm b o e)) hD
theorem dxall_at {H : Hp} {xs : List V} {α : Type} {as : List α} {d : α → PyData} (h : DxAll H xs (as.map d)) {i : Nat} {x : V} (hx : xs[i]? = some x) : ∃ (hi : i < as.length), Dx H x (d as[i]) := by
  have l := dxall_len h
  rw [List.length_map] at l
  have h1 := (List.getElem?_eq_some_iff.mp hx).1
  have hi : i < as.length := by omega
  obtain ⟨y, e1, e2⟩ := dxall_get (i := i) h (by rw [List.getElem?_map, List.getElem?_eq_getElem hi]; rfl)
  have exy : x = y := Option.some.inj (hx.symm.trans e1)
  subst exy
  exact ⟨hi, e2⟩
theorem dx_ints {H : Hp} : ∀ ns : List Int, DxAll H (ns.map V.int) (ns.map PyData.int)
  | [] => .nil
  | n :: r => .cons (.int n) (dx_ints r)
theorem dx_strs {H : Hp} : ∀ ns : List Str, DxAll H (ns.map V.str) (ns.map PyData.str)
  | [] => .nil
  | n :: r => .cons (.str n) (dx_strs r)
theorem hear_no {L : Int} {hs : List (Int × Int)} (h : Hear L hs) {j : Nat} (hj : j < hs.length) : ∀ x ∈ hs.take j, x.1 ≠ hs[j].1 := by
  intro x hx
  obtain ⟨i, hi, rfl⟩ := List.getElem_of_mem hx
  rw [List.length_take] at hi
  have hij : i < j := by omega
  rw [List.getElem_take]
  have := List.pairwise_iff_getElem.mp h.up i j (by omega) hj hij
  omega
theorem hears_inv {H : Hp} : ∀ {zs : List V} {hs : List (Int × Int)}, DxAll H zs (hs.map dHear) → ∃ ps : List Addr, zs = ps.map V.ref ∧ Paired (fun (p : Addr) (h : Int × Int) => H p = some (.tup [.int h.1, .int h.2])) ps hs
  | [], [], _ => ⟨[], rfl, .nil⟩
  | [], _ :: _, h => by cases h
  | _ :: _, [], h => by cases h
  | z :: zs, x :: hs, h => by
    cases h with
    | cons a r =>
      obtain ⟨ps, e, q⟩ := hears_inv r
      obtain ⟨p, rfl, hp⟩ := dx_hear a
      exact ⟨p :: ps, by rw [e]; rfl, .cons hp q⟩
theorem hears_enc {K : PySem.W.Frag} {H : Hp} : ∀ {ps : List Addr} {hs : List (Int × Int)}, Paired (fun (p : Addr) (h : Int × Int) => H p = some (.tup [.int h.1, .int h.2])) ps hs → Paired (fun p kv => SqT K H p [kV kv.1, kv.2]) ps (enc hs)
  | _, _, .nil => .nil
  | _, _, .cons h r => .cons (SqT.of h) (hears_enc r)
theorem hear_keys {L : Int} {hs : List (Int × Int)} (h : Hear L hs) : (([] : List (Key × V)).map (·.1) ++ (enc hs).map (·.1)).Nodup := by
  show ((enc hs).map (·.1)).Nodup
  unfold enc
  rw [List.map_map]
  refine List.pairwise_map.mpr (h.up.imp fun {a b} z e => ?_)
  have : a.1 = b.1 := Sum.inl.inj e
  omega
theorem val_enc : ∀ (hs : List (Int × Int)) (n : Int), (valV (enc hs) (Sum.inl n)).getD (.int 0) = .int (look hs n)
  | [], _ => rfl
  | h :: r, n => by
    by_cases e : h.1 = n
    · show (valV ((Sum.inl h.1, V.int h.2) :: enc r) (Sum.inl n)).getD (.int 0) = _
      rw [valV_pos (by rw [e])]
      unfold look
      rw [List.find?_cons, show decide (h.1 = n) = true from decide_eq_true e]
      rfl
    · show (valV ((Sum.inl h.1, V.int h.2) :: enc r) (Sum.inl n)).getD (.int 0) = _
      rw [valV_neg (fun z => e (Sum.inl.inj z)), val_enc r n]
      unfold look
      rw [List.find?_cons, show decide (h.1 = n) = false from decide_eq_false e]
theorem six (L : Int) (h : 1 ≤ L) : ([0, 1, L - 1, L, L + 1, -1].map fun n : Int => V.bl (decide (0 < n ∧ n < L))) = [.bl false, .bl (decide (1 < L)), .bl (decide (1 < L)), .bl false, .bl false, .bl false] := by
  have e1 : decide ((0 : Int) < 0 ∧ 0 < L) = false := decide_eq_false fun z => by omega
  have e2 : decide ((0 : Int) < 1 ∧ 1 < L) = decide (1 < L) := by simp
  have e3 : decide (0 < L - 1 ∧ L - 1 < L) = decide (1 < L) := by
    rw [decide_eq_decide]
    omega
  have e4 : decide (0 < L ∧ L < L) = false := decide_eq_false fun z => by omega
  have e5 : decide (0 < L + 1 ∧ L + 1 < L) = false := decide_eq_false fun z => by omega
  have e6 : decide ((0 : Int) < -1 ∧ -1 < L) = false := decide_eq_false fun z => by omega
  simp only [List.map, e1, e2, e3, e4, e5, e6]
theorem eqv_len : ∀ {xs ys : List PyData}, PyData.eqvAll xs ys = true → xs.length = ys.length
  | [], [], _ => rfl
  | [], _ :: _, h => by simp [PyData.eqvAll] at h
  | _ :: _, [], h => by simp [PyData.eqvAll] at h
  | x :: xs, y :: ys, h => by
    simp only [PyData.eqvAll, Bool.and_eq_true] at h
    simp [eqv_len h.2]
theorem SqL.same {K : PySem.W.Frag} {H H' : Hp} {a : Addr} {xs : List V} (h : SqL K H a xs) (k : Same H H') : SqL K H' a xs := by
  rcases h with (h | ⟨o, h⟩) | h
  · exact .inl (.inl (k _ _ h))
  · exact .inl (.inr ⟨o, k _ _ h⟩)
  · exact .inr h
section
variable {P : Program} {w : World} {K : PySem.W.Frag} {mg : Str → Option Value} {base : Heap} {C : Addr}
/-- the class, as those who make webs need it -/
def MakesW (P : Program) (w : World) (K : PySem.W.Frag) (mg : Str → Option Value) (base : Heap) (C : Addr) : Prop := ∃ (fT e : Addr) (fdT : FuncData), FnI K fT fdT e ∧ SqT K (fun _ => none) e [] ∧ FnOk P w K mg base CX0 5 fT fdT P_Web_init (spInit K C) ∧ Mk K C fT ∧ mg "Web" = some (.ref C)
/-- a def that shows things, as callers need it -/
def HasG (P : Program) (w : World) (K : PySem.W.Frag) (mg : Str → Option Value) (base : Heap) (n : Str) (st : Stmt) (k : Nat) (ps : List Str) (sp : Sp) : Prop := ∃ (fT : Addr) (fdT : FuncData), FnP K n n st fT fdT ∧ Binds K fdT ps [] ∧ FnG P w K mg base CX0 k fT fdT ps sp ∧ mg n = some (.ref fT)
end
end Cw
namespace Cw
open PySem PySem.Spec PyProof.Rows L2

theorem op_in_seqK {X : Cx} {K : PySem.W.Frag} (h : X.K = K) : OpR X (compareOp .In) (rIn K false) := by
  subst h
  exact op_in_seq
theorem lc_filt {J : It} {xs : List V} {G : Hp → Prop} (w : Walk J xs.length G (YAt xs)) {g : TG} {tt : TT} {te : TE} {vs : List Nat} {σ : L2.St} {H1 : Hp} {D : Addr} {Qd : Hp → Prop} (pr : V → Bool) (fn : V → V) (nD : H1 D = none) (hG : ∀ H, Same H1 H → G H) (hn : xs.length ≤ 1000)
    (step : ∀ (i : Nat) (x : V) (H2 : Hp) (kt : V → Hp → Prop) (kf : Hp → Prop), xs[i]? = some x → Same H1 H2 → (pr x = true → ∀ H4, Same H2 H4 → kt (fn x) H4) → (pr x = false → ∀ H4, Same H2 H4 → kf H4) → g x (wipe σ vs) H2 fun σ2 H3 => wipe σ2 vs = wipe σ vs ∧ tt σ2 H3 fun b H4 => if b = true then te σ2 H4 kt else kf H4)
    (q : ∀ H', Same H1 H' → H' D = some (.lst ((xs.filter pr).map fn)) → Qd H') : LcD J g tt te vs σ H1 D Qd := by
  refine lc_it w (fun i H2 => Same H1 (Off D H2) ∧ H2 D = some (.lst (((xs.take i).filter pr).map fn))) ⟨fun b o e => Off.at (ne_of_none e nD) (same_new nD _ _ e), upd_same⟩ (fun i H2 _ hh => hG H2 (fun b o e => Off.same _ _ (hh.1 b o e))) ?_ ?_
  · rintro i x H2 H2' hi ⟨sm, hD⟩ ⟨rfl, hxi⟩
    have tk : xs.take (i + 1) = xs.take i ++ [x] := by rw [List.take_add_one, hxi]; rfl
    refine step i x H2' (fun y H4 => ∃ acc, H4 D = some (.lst acc) ∧ acc.length < sizeLine ∧ (Same H1 (Off D (upd H4 D (.lst (acc ++ [y])))) ∧ (upd H4 D (.lst (acc ++ [y]))) D = some (.lst (((xs.take (i + 1)).filter pr).map fn)))) (fun H3 => Same H1 (Off D H3) ∧ H3 D = some (.lst (((xs.take (i + 1)).filter pr).map fn))) hxi (fun b o e => Off.same _ _ (sm b o e)) (fun e H4 s4 => ?_) (fun e H4 s4 => ?_)
    · refine ⟨_, s4 _ _ hD, ?_, fun b o e => ?_, ?_⟩
      · rw [List.length_map]
        have h1 := List.length_filter_le pr (xs.take i)
        rw [List.length_take] at h1
        exact small1000 (by omega)
      · have nb : b ≠ D := ne_of_none e nD
        exact Off.at nb (by rw [upd_ne nb]; exact s4 _ _ (Off.same _ _ (sm b o e)))
      · rw [upd_same, tk, List.filter_append, List.map_append, List.filter_cons, if_pos e]
        rfl
    · refine ⟨fun b o e => Off.at (ne_of_none e nD) (s4 _ _ (Off.same _ _ (sm b o e))), ?_⟩
      rw [s4 _ _ hD, tk, List.filter_append, List.filter_cons, if_neg (by rw [e]; exact Bool.false_ne_true)]
      simp
  · rintro H2 ⟨sm, hD⟩
    rw [List.take_length] at hD
    exact q H2 (fun b o e => Off.same _ _ (sm b o e)) hD
theorem tie_inj {ts : List Tie} (nd : (ts.map (·.nm)).Nodup) {t u : Tie} (ht : t ∈ ts) (hu : u ∈ ts) (e : t.nm = u.nm) : t = u := by
  obtain ⟨i, hi, rfl⟩ := List.getElem_of_mem ht
  obtain ⟨j, hj, rfl⟩ := List.getElem_of_mem hu
  have k := List.pairwise_iff_getElem.mp nd
  by_cases h1 : i < j
  · have := k i j (by rw [List.length_map]; exact hi) (by rw [List.length_map]; exact hj) h1
    rw [List.getElem_map, List.getElem_map] at this
    exact absurd e this
  · by_cases h2 : j < i
    · have := k j i (by rw [List.length_map]; exact hj) (by rw [List.length_map]; exact hi) h2
      rw [List.getElem_map, List.getElem_map] at this
      exact absurd e.symm this
    · have : i = j := by omega
      subst this
      rfl
def strP (p : Str → Bool) : V → Bool
  | .str n => p n
  | _ => false
theorem strP_map (p : Str → Bool) (l : List Str) : ((l.map V.str).filter (strP p)).map id = (l.filter p).map V.str := by
  rw [List.map_id, List.filter_map]
  rfl
def But2 (d l : Addr) (H H' : Hp) : Prop := ∀ b o, b ≠ d → b ≠ l → H b = some o → H' b = some o
theorem But2.trans {d l : Addr} {H H1 H2 : Hp} (a : But2 d l H H1) (b : But2 d l H1 H2) : But2 d l H H2 := fun c o n m e => b c o n m (a c o n m e)
theorem Same.but2 {d l : Addr} {H H1 : Hp} (a : Same H H1) : But2 d l H H1 := fun c o _ _ e => a c o e
theorem snocCases {α : Type} (l : List α) : l = [] ∨ ∃ ys y, l = ys ++ [y] := by
  cases l with
  | nil => exact .inl rfl
  | cons a r => exact .inr ⟨(a :: r).dropLast, (a :: r).getLast (by simp), (List.dropLast_concat_getLast _).symm⟩
theorem erase_perm {α : Type} : ∀ {l : List α} {i : Nat} (h : i < l.length), (l[i] :: l.eraseIdx i).Perm l
  | a :: r, 0, _ => .refl _
  | a :: r, i + 1, h => by
    have h2 : i < r.length := by simpa using h
    have ih := erase_perm h2
    show (r[i] :: a :: r.eraseIdx i).Perm (a :: r)
    exact (List.Perm.swap _ _ _).trans (.cons _ ih)
theorem lc_data {J : It} {xs : List V} {G : Hp → Prop} (w : Walk J xs.length G (YAt xs)) {g : TG} {te : TE} {vs : List Nat} {σ : L2.St} {H1 : Hp} {D : Addr} {Qd : Hp → Prop} (ds : List PyData) (nD : H1 D = none) (hG : ∀ H, Same H1 H → G H) (hl : ds.length = xs.length) (hn : xs.length ≤ 1000)
    (step : ∀ (i : Nat) (x : V) (d : PyData) (H2 : Hp) (k : V → Hp → Prop), xs[i]? = some x → ds[i]? = some d → Same H1 H2 → (∀ y H4, Same H2 H4 → Dx (Nw H2 H4) y d → k y H4) → g x (wipe σ vs) H2 fun σ2 H3 => wipe σ2 vs = wipe σ vs ∧ te σ2 H3 k)
    (q : ∀ H' us, Same H1 H' → H' D = some (.lst us) → DxAll (Off D (Nw H1 H')) us ds → Qd H') : LcD J g tYes te vs σ H1 D Qd := by
  refine lc_it w (fun i H2 => Same H1 (Off D H2) ∧ ∃ us, H2 D = some (.lst us) ∧ DxAll (Off D (Nw H1 H2)) us (ds.take i)) ⟨fun b o e => Off.at (ne_of_none e nD) (same_new nD _ _ e), [], upd_same, .nil⟩ (fun i H2 _ hh => hG H2 (fun b o e => Off.same _ _ (hh.1 b o e))) ?_ ?_
  · rintro i x H2 H2' hi ⟨sm, us, hD, hus⟩ ⟨rfl, hxi⟩
    have hy : i < ds.length := by omega
    have s12 : Same H1 H2' := fun b o e => Off.same _ _ (sm b o e)
    have lus : us.length = i := by
      have := dxall_len hus
      rw [List.length_take] at this
      omega
    have e := step i x ds[i] H2' (fun y H4 => ∃ acc, H4 D = some (.lst acc) ∧ acc.length < sizeLine ∧ (Same H1 (Off D (upd H4 D (.lst (acc ++ [y])))) ∧ ∃ us', (upd H4 D (.lst (acc ++ [y]))) D = some (.lst us') ∧ DxAll (Off D (Nw H1 (upd H4 D (.lst (acc ++ [y]))))) us' (ds.take (i + 1)))) hxi (List.getElem?_eq_getElem hy) s12 (fun y H4 s4 hy4 => ?_)
    · exact e
    · refine ⟨us, s4 _ _ hD, by rw [lus]; exact small1000 (by omega), fun b o e => ?_, us ++ [y], upd_same, ?_⟩
      · have nb : b ≠ D := ne_of_none e nD
        exact Off.at nb (by rw [upd_ne nb]; exact s4 _ _ (s12 _ _ e))
      · rw [List.take_add_one, List.getElem?_eq_getElem hy]
        refine dxall_snoc (Dx.sameAll (fun b o e => ?_) _ _ hus) (Dx.same (fun b o e => ?_) _ _ hy4)
        · have nb := Off.ne e
          obtain ⟨e1, e2⟩ := Nw.get (Off.same _ _ e)
          exact Off.at nb (Nw.at e1 (by rw [upd_ne nb]; exact s4 _ _ e2))
        · obtain ⟨e1, e2⟩ := Nw.get e
          have nb : b ≠ D := (ne_of_none hD e1).symm
          exact Off.at nb (Nw.at (none_of s12 e1) (by rw [upd_ne nb]; exact e2))
  · rintro H2 ⟨sm, us, hD, hus⟩
    rw [← hl, List.take_length] at hus
    exact q H2 us (fun b o e => Off.same _ _ (sm b o e)) hD hus
theorem dxall_rev {H : Hp} : ∀ {xs : List V} {ds : List PyData}, DxAll H xs ds → DxAll H xs.reverse ds.reverse
  | _, _, .nil => .nil
  | _, _, .cons h r => by
    rw [List.reverse_cons, List.reverse_cons]
    exact dxall_snoc (dxall_rev r) h
def turn (t : Tie) : Tie := ⟨t.nm, t.other, t.one, t.len, t.hs.reverse.map fun h => (t.len - h.1, h.2)⟩
theorem Good.turn {r : Bool} {ns : List Str} {t : Tie} (g : Good r ns t) : Good r ns (turn t) where
  nm := g.nm
  h1 := g.h2
  h2 := g.h1
  ne := fun e => g.ne e.symm
  ln := g.ln
  hr := by
    refine ⟨?_, fun h hh => ?_⟩
    · show (t.hs.reverse.map fun h => (t.len - h.1, h.2)).Pairwise (fun a b => a.1 < b.1)
      rw [List.pairwise_map, List.pairwise_reverse]
      refine g.hr.up.imp fun {a b} z => ?_
      show t.len - b.1 < t.len - a.1
      omega
    · obtain ⟨x, hx, rfl⟩ := List.mem_map.mp hh
      obtain ⟨b1, b2, b3, b4⟩ := g.hr.at_ x (List.mem_reverse.mp hx)
      show 1 ≤ t.len - x.1 ∧ t.len - x.1 < t.len ∧ 1 ≤ x.2 ∧ x.2 ≤ 2
      omega
theorem lc_dataY {J : It} {n : Nat} {G : Hp → Prop} {Y : Nat → Hp → V → Hp → Prop} (w : Walk J n G Y) {g : TG} {te : TE} {vs : List Nat} {σ : L2.St} {H1 : Hp} {D : Addr} {Qd : Hp → Prop} (ds : List PyData) (nD : H1 D = none) (hG : ∀ H, Same H1 H → G H) (hl : ds.length = n) (hn : n ≤ 1000)
    (step : ∀ (i : Nat) (x : V) (d : PyData) (H2 H2' : Hp) (k : V → Hp → Prop), i < n → ds[i]? = some d → Same H1 H2 → Y i H2 x H2' → (∀ y H4, Same H2 H4 → Dx (Nw H2 H4) y d → k y H4) → g x (wipe σ vs) H2' fun σ2 H3 => wipe σ2 vs = wipe σ vs ∧ te σ2 H3 k)
    (q : ∀ H' us, Same H1 H' → H' D = some (.lst us) → DxAll (Off D (Nw H1 H')) us ds → Qd H') : LcD J g tYes te vs σ H1 D Qd := by
  refine lc_it w (fun i H2 => Same H1 (Off D H2) ∧ ∃ us, H2 D = some (.lst us) ∧ DxAll (Off D (Nw H1 H2)) us (ds.take i)) ⟨fun b o e => Off.at (ne_of_none e nD) (same_new nD _ _ e), [], upd_same, .nil⟩ (fun i H2 _ hh => hG H2 (fun b o e => Off.same _ _ (hh.1 b o e))) ?_ ?_
  · rintro i x H2 H2' hi ⟨sm, us, hD, hus⟩ hY
    have hy : i < ds.length := by omega
    have s12 : Same H1 H2 := fun b o e => Off.same _ _ (sm b o e)
    have lus : us.length = i := by
      have := dxall_len hus
      rw [List.length_take] at this
      omega
    have e := step i x ds[i] H2 H2' (fun y H4 => ∃ acc, H4 D = some (.lst acc) ∧ acc.length < sizeLine ∧ (Same H1 (Off D (upd H4 D (.lst (acc ++ [y])))) ∧ ∃ us', (upd H4 D (.lst (acc ++ [y]))) D = some (.lst us') ∧ DxAll (Off D (Nw H1 (upd H4 D (.lst (acc ++ [y]))))) us' (ds.take (i + 1)))) hi (List.getElem?_eq_getElem hy) s12 hY (fun y H4 s4 hy4 => ?_)
    · exact e
    · refine ⟨us, s4 _ _ hD, by rw [lus]; exact small1000 (by omega), fun b o e => ?_, us ++ [y], upd_same, ?_⟩
      · have nb : b ≠ D := ne_of_none e nD
        exact Off.at nb (by rw [upd_ne nb]; exact s4 _ _ (s12 _ _ e))
      · rw [List.take_add_one, List.getElem?_eq_getElem hy]
        refine dxall_snoc (Dx.sameAll (fun b o e => ?_) _ _ hus) (Dx.same (fun b o e => ?_) _ _ hy4)
        · have nb := Off.ne e
          obtain ⟨e1, e2⟩ := Nw.get (Off.same _ _ e)
          exact Off.at nb (Nw.at e1 (by rw [upd_ne nb]; exact s4 _ _ e2))
        · obtain ⟨e1, e2⟩ := Nw.get e
          have nb : b ≠ D := (ne_of_none hD e1).symm
          exact Off.at nb (Nw.at (none_of s12 e1) (by rw [upd_ne nb]; exact e2))
  · rintro H2 ⟨sm, us, hD, hus⟩
    rw [← hl, List.take_length] at hus
    exact q H2 us (fun b o e => Off.same _ _ (sm b o e)) hD hus
theorem pers_inv {K : PySem.W.Frag} {H : Hp} : ∀ {us : List V} {gs : List (Str × Int)}, DxAll H us (gs.map dPer) → ∃ ps : List Addr, us = ps.map V.ref ∧ Paired (fun p kv => SqT K H p [kV kv.1, kv.2]) ps (kvF gs)
  | [], [], _ => ⟨[], rfl, .nil⟩
  | [], _ :: _, h => by cases h
  | _ :: _, [], h => by cases h
  | u :: us, f :: gs, h => by
    cases h with
    | cons a r =>
      obtain ⟨ps, e, q⟩ := pers_inv (K := K) r
      obtain ⟨p, rfl, hp⟩ := dx_per a
      exact ⟨p :: ps, by rw [e]; rfl, .cons (SqT.of hp) q⟩
theorem merge_kvF {gs : List (Str × Int)} (nd : (gs.map (·.1)).Nodup) : mergeK [] (kvF gs) = kvF gs := by
  refine (merge_new _ [] ?_).trans (List.nil_append _)
  show ((kvF gs).map (·.1)).Nodup
  unfold kvF
  rw [List.map_map]
  rw [List.Nodup, List.pairwise_map] at *
  exact nd.imp fun {a b} z e => z (Sum.inr.inj e)
theorem perm2 {ns : List Int} {x y : Int} (h : ns.Perm [x, y]) : ∃ a b, ns = [a, b] ∧ ((a = x ∧ b = y) ∨ (a = y ∧ b = x)) := by
  have l := h.length_eq
  match ns, l with
  | [a, b], _ =>
    refine ⟨a, b, rfl, ?_⟩
    have ha : a ∈ [x, y] := h.mem_iff.mp (by simp)
    rcases List.mem_cons.mp ha with e | e
    · subst e
      have := (List.perm_cons a).mp h
      have e2 := List.perm_singleton.mp this
      cases e2
      exact .inl ⟨rfl, rfl⟩
    · have e := List.mem_singleton.mp e
      subst e
      have := (List.perm_cons a).mp (h.trans (List.Perm.swap _ _ _))
      have e2 := List.perm_singleton.mp this
      cases e2
      exact .inr ⟨rfl, rfl⟩
theorem map_fst (ns : List Str) (mk : Str → Int) : (ns.map fun z => (z, mk z)).map (·.1) = ns := by
  rw [List.map_map]
  exact List.map_id _
theorem idx_at {ns : List Str} (nd : ns.Nodup) {i : Nat} (hi : i < ns.length) : ns.idxOf ns[i] = i := by
  exact nd.idxOf_getElem i hi
theorem lc_filtY {α : Type} {J : It} {n : Nat} {G : Hp → Prop} {Y : Nat → Hp → V → Hp → Prop} (w : Walk J n G Y) {g : TG} {tt : TT} {te : TE} {vs : List Nat} {σ : L2.St} {H1 : Hp} {D : Addr} {Qd : Hp → Prop} (as : List α) (pr : α → Bool) (fn : α → V) (nD : H1 D = none) (hG : ∀ H, Same H1 H → G H) (hl : as.length = n) (hn : n ≤ 1000)
    (step : ∀ (i : Nat) (x : V) (a : α) (H2 H2' : Hp) (kt : V → Hp → Prop) (kf : Hp → Prop), i < n → as[i]? = some a → Same H1 H2 → Y i H2 x H2' → (pr a = true → ∀ H4, Same H2 H4 → kt (fn a) H4) → (pr a = false → ∀ H4, Same H2 H4 → kf H4) → g x (wipe σ vs) H2' fun σ2 H3 => wipe σ2 vs = wipe σ vs ∧ tt σ2 H3 fun b H4 => if b = true then te σ2 H4 kt else kf H4)
    (q : ∀ H', Same H1 H' → H' D = some (.lst ((as.filter pr).map fn)) → Qd H') : LcD J g tt te vs σ H1 D Qd := by
  refine lc_it w (fun i H2 => Same H1 (Off D H2) ∧ H2 D = some (.lst (((as.take i).filter pr).map fn))) ⟨fun b o e => Off.at (ne_of_none e nD) (same_new nD _ _ e), upd_same⟩ (fun i H2 _ hh => hG H2 (fun b o e => Off.same _ _ (hh.1 b o e))) ?_ ?_
  · rintro i x H2 H2' hi ⟨sm, hD⟩ hY
    have ha : i < as.length := by omega
    have tk : as.take (i + 1) = as.take i ++ [as[i]] := by rw [List.take_add_one, List.getElem?_eq_getElem ha]; rfl
    refine step i x as[i] H2 H2' (fun y H4 => ∃ acc, H4 D = some (.lst acc) ∧ acc.length < sizeLine ∧ (Same H1 (Off D (upd H4 D (.lst (acc ++ [y])))) ∧ (upd H4 D (.lst (acc ++ [y]))) D = some (.lst (((as.take (i + 1)).filter pr).map fn)))) (fun H3 => Same H1 (Off D H3) ∧ H3 D = some (.lst (((as.take (i + 1)).filter pr).map fn))) hi (List.getElem?_eq_getElem ha) (fun b o e => Off.same _ _ (sm b o e)) hY (fun e H4 s4 => ?_) (fun e H4 s4 => ?_)
    · refine ⟨_, s4 _ _ hD, ?_, fun b o e => ?_, ?_⟩
      · rw [List.length_map]
        have h1 := List.length_filter_le pr (as.take i)
        rw [List.length_take] at h1
        exact small1000 (by omega)
      · have nb : b ≠ D := ne_of_none e nD
        exact Off.at nb (by rw [upd_ne nb]; exact s4 _ _ (Off.same _ _ (sm b o e)))
      · rw [upd_same, tk, List.filter_append, List.map_append, List.filter_cons, if_pos e]
        rfl
    · refine ⟨fun b o e => Off.at (ne_of_none e nD) (s4 _ _ (Off.same _ _ (sm b o e))), ?_⟩
      rw [s4 _ _ hD, tk, List.filter_append, List.filter_cons, if_neg (by rw [e]; exact Bool.false_ne_true)]
      simp
  · rintro H2 ⟨sm, hD⟩
    rw [← hl, List.take_length] at hD
    exact q H2 (fun b o e => Off.same _ _ (sm b o e)) hD
theorem dspec_inv {H : Hp} {v : V} {fs : List (Str × Int)} {ts : List Tie} (h : Dx H v (dSpec fs ts)) : ∃ t lf lj xs js, v = .ref t ∧ H t = some (.tup [.ref lf, .ref lj]) ∧ H lf = some (.lst xs) ∧ H lj = some (.lst js) ∧ DxAll H xs (fs.map dPer) ∧ DxAll H js (ts.map dTie) ∧ xs.length = fs.length ∧ js.length = ts.length := by
  obtain ⟨t0, ys, rfl, ht0, hy⟩ := dx_tuple h
  cases hy with
  | @cons vf _ _ _ hf hy =>
  cases hy with
  | @cons vj _ _ _ hj hy =>
  cases hy
  obtain ⟨lf, xs, rfl, hlf, hxs⟩ := dx_list hf
  obtain ⟨lj, js, rfl, hlj, hjs⟩ := dx_list hj
  refine ⟨t0, lf, lj, xs, js, rfl, ht0, hlf, hlj, hxs, hjs, ?_, ?_⟩
  · have := dxall_len hxs
    rw [List.length_map] at this
    exact this
  · have := dxall_len hjs
    rw [List.length_map] at this
    exact this
theorem get_kvF {H : Hp} {d : Addr} {ns : List Str} {mk : Str → Int} (hd : H d = some (.dK (kvF (ns.map fun z => (z, mk z))))) (nd : ns.Nodup) {z : Str} (hz : z ∈ ns) : DGet H d (.str z) (some (.int (mk z))) := by
  have nfs : ((ns.map fun z => (z, mk z)).map (·.1)).Nodup := by rw [map_fst]; exact nd
  have v1 := valF_at (g := (z, mk z)) nfs (List.mem_map.mpr ⟨_, hz, rfl⟩)
  have g1 := DGet.k (k := Sum.inr z) hd
  rw [show (valV (kvF (ns.map fun z => (z, mk z))) (Sum.inr z)) = some (.int (mk z)) from v1] at g1
  exact g1
theorem strs_inv {H : Hp} : ∀ {cs : List V} {zs : List Str}, DxAll H cs (zs.map PyData.str) → cs = zs.map V.str
  | [], [], _ => rfl
  | [], _ :: _, h => by cases h
  | _ :: _, [], h => by cases h
  | c :: cs, z :: zs, h => by
    cases h with
    | cons a r =>
      rw [strs_inv r]
      cases a
      rfl
section
variable {P : Program} {w : World} {K : PySem.W.Frag} {mg : Str → Option Value} {base : Heap} {C : Addr}
theorem bind_2_rounds {f e : Addr} {fd : FuncData} (F : FnI K f fd e) : ∃ its mv : List Value, KBn K fd P_Web_init 3 ["rounds"] (fun us ws => us ++ ws) (fun vs zs => vs ++ zs) := by
  refine F.kbinds (n := 3) (ks := ["rounds"]) (ms := []) (g := fun us its mv ws => us ++ ws) (by simp) (by simp) (by simp) (fun a b c d => a.append d) ?_
  intro T D doc pm an cdv ct us its mv ws h1 h2 h3 h4
  match us, h1, its, h2, mv, h3, ws, h4 with
  | [u1, u2, u3], _, [i1], _, [], _, [w1], _ =>
    refine ⟨_, rfl, ?_⟩
    exact rfl
end
section
variable {P : Program} {w : World} {K : PySem.W.Frag} {mg : Str → Option Value} {base : Heap} {C : Addr}
theorem init_new {Hm : Hp} {x dx : Addr} {v u : V} {r : Bool} {fs : List (Str × Int)} {ts : List Tie} {M : Hp → Prop} (nx : Hm x = none) (ndx : Hm dx = none) (hf : Dx Hm v (dFolk fs)) (hu : TiesIn K Hm u ts) (SP : Specs r fs ts)
    (k : ∀ H', Same Hm H' → WebAt C (Nw Hm H') x r fs ts → M H') : spInit K C [.ref x, v, u, .bl r] (upd (upd Hm dx (.own x)) x (.ins C dx [])) (fun z H3 => z = .non ∧ M H3) E0 := by
  have sx : Same Hm (Off x (upd (upd Hm dx (.own x)) x (.ins C dx []))) := fun b o eb => by
    have b1 := ne_of_none eb nx
    have b2 := ne_of_none eb ndx
    exact Off.at b1 (by rw [upd_ne b1, upd_ne b2]; exact eb)
  refine ⟨x, dx, _, u, r, fs, ts, rfl, upd_same, Dx.same sx _ _ hf, TiesIn.same hu sx, SP, fun H' kk W => ⟨rfl, k H' (fun b o eb => Off.same _ _ (kk _ _ (sx _ _ eb))) (WebAt.same W fun b o eb => ?_)⟩⟩
  obtain ⟨e1, e2⟩ := Nw.get eb
  exact Nw.at (none_of sx e1) e2
end
theorem dxall_perm {α : Type} {H : Hp} {d : α → PyData} {xs ys : List V} (p : ys.Perm xs) : ∀ {as : List α}, DxAll H xs (as.map d) → ∃ bs : List α, bs.Perm as ∧ DxAll H ys (bs.map d) := by
  induction p with
  | nil => intro as h; exact ⟨as, .refl _, h⟩
  | cons x _ ih =>
    intro as h
    cases as with
    | nil => cases h
    | cons a r =>
      cases h with
      | cons h1 h2 =>
        obtain ⟨bs, pb, hb⟩ := ih h2
        exact ⟨a :: bs, .cons _ pb, .cons h1 hb⟩
  | swap x y l =>
    intro as h
    match as, h with
    | a :: b :: r, .cons h1 (.cons h2 h3) => exact ⟨b :: a :: r, .swap _ _ _, .cons h2 (.cons h1 h3)⟩
  | trans _ _ ih1 ih2 =>
    intro as h
    obtain ⟨bs, pb, hb⟩ := ih2 h
    obtain ⟨cs, pc, hc⟩ := ih1 hb
    exact ⟨cs, pc.trans pb, hc⟩
theorem told_perm {ts us : List Tie} (p : ts.Perm us) : told ts = told us := by
  induction p with
  | nil => rfl
  | cons x _ ih => show _ + _ = _ + _; rw [ih]
  | swap x y l => show _ + (_ + _) = _ + (_ + _); omega
  | trans _ _ i1 i2 => exact i1.trans i2
end Cw
namespace Cw
open PySem PySem.Spec PyProof.Rows L2
section
variable {P : Program} {w : World} {K : PySem.W.Frag} {mg : Str → Option Value} {base : Heap} {C NS NW0 : Addr}
theorem th_str {H : Hp} {v : V} {z : Str} (h : Th H v (.str z)) : v = .str z := by
  cases h with
  | dx h => cases h; rfl
theorem th_int {H : Hp} {v : V} {n : Int} (h : Th H v (.int n)) : v = .int n := by
  cases h with
  | dx h => cases h; rfl
theorem th_nostr {K : PySem.W.Frag} {H : Hp} {v : V} {d : PyData} (h : Th H v d) (e : isStr d = false) : NoStr K H v := ⟨_, th_ty h, by rw [kt_str, e]⟩
theorem th_cases {K : PySem.W.Frag} {H : Hp} {v : V} {d : PyData} (h : Th H v d) : (∃ z, v = .str z ∧ d = .str z) ∨ (NoStr K H v ∧ isStr d = false) := by
  cases d with
  | str z => exact .inl ⟨z, th_str h, rfl⟩
  | _ => exact .inr ⟨th_nostr h rfl, rfl⟩
def spWholeT (K : PySem.W.Frag) : Sp := fun vs H Q _ => ∃ (v : V) (d : PyData), vs = [v] ∧ Th H v d ∧ Q (.bl (isIntD d)) H
theorem ok_wholeT {f : Addr} {fd : FuncData} (F : FnP K "is_whole" "is_whole" S_is_whole f fd) (B : Blt mg) : FnOk P w K mg base CX0 1 f fd P_is_whole (spWholeT K) := by
  refine F.ok sc_is_whole (fun vs H Q E h => ?_) (fun cdv A outer s H vs Q E hr h => ⟨_, PSs.nox (pss_one (ps_ret (pe_and (pe_callB call_isi (by rfl) B.isinstance_ (by decide +kernel) (pa_cons (pv 0) (pa_cons (pe_bltn (v := .ty "int") (u := .type "int") (by rfl) B.int_ (by decide +kernel) rfl) pa_nil))) (pe_one (pe_not (pe_callB call_isi (by rfl) B.isinstance_ (by decide +kernel) (pa_cons (pv 0) (pa_cons (pe_bltn (v := .ty "bool") (u := .type "bool") (by rfl) B.bool_ (by decide +kernel) rfl) pa_nil)))))))), ?_⟩)
  · obtain ⟨n, d, rfl, _⟩ := h
    rfl
  · obtain ⟨n, d, rfl, hd, q⟩ := h
    refine ⟨_, rfl, _, _, _, _, _, rfl, .ty _, th_ty hd, kit_ty (kt_int d), _, rfl, ?_⟩
    cases d with
    | int i => exact iteT ⟨_, rfl, _, _, _, _, _, rfl, .ty _, th_ty hd, kit_ty (kt_bool _), false, rfl, q⟩
    | bool b => exact iteT ⟨_, rfl, _, _, _, _, _, rfl, .ty _, th_ty hd, kit_ty (kt_bool _), true, rfl, q⟩
    | _ => exact iteF q
/-- a small letter -/
def chOk (c : Nat) : Bool := decide (97 ≤ c ∧ c ≤ 122)
def nameB (d : PyData) : Bool := match d with
  | .str z => decide (1 ≤ z.length ∧ z.length ≤ 8) && z.cps.toList.all chOk
  | _ => false
def SmallS (d : PyData) : Prop := ∀ z, d = .str z → z.length ≤ 1000
theorem le_aG (c : Nat) : (!decide ((⟨#[c]⟩ : Str).cps.toList < (Str.ofString "a").cps.toList)) = decide (97 ≤ c) := by
  by_cases h : 97 ≤ c
  · rw [le_a h, decide_eq_true h]
  · have e : (Str.ofString "a").cps.toList = [97] := by decide +kernel
    rw [e, decide_eq_false h]
    show (!decide (([c] : List Nat) < [97])) = false
    rw [decide_eq_true (List.cons_lt_cons_iff.mpr (.inl (by omega)))]
    rfl
theorem le_zG (c : Nat) : (!decide ((Str.ofString "z").cps.toList < (⟨#[c]⟩ : Str).cps.toList)) = decide (c ≤ 122) := by
  by_cases h : c ≤ 122
  · rw [le_z h, decide_eq_true h]
  · have e : (Str.ofString "z").cps.toList = [122] := by decide +kernel
    rw [e, decide_eq_false h]
    show (!decide (([122] : List Nat) < [c])) = false
    rw [decide_eq_true (List.cons_lt_cons_iff.mpr (.inl (by omega)))]
    rfl
def spNameT : Sp := fun vs H Q _ => ∃ (v : V) (d : PyData), vs = [v] ∧ Th H v d ∧ SmallS d ∧ ∀ H', Same H H' → Q (.bl (nameB d)) H'
theorem ok_isnameT {f : Addr} {fd : FuncData} (F : FnP K "is_name" "is_name" S_is_name f fd) (B : Blt mg) (mL : ∃ t, mg "LONGEST_NAME" = some (.int 8 t)) : FnOk P w K mg base CX0 1 f fd P_is_name spNameT := by
  obtain ⟨tL, mL⟩ := mL
  refine F.ok sc_is_name (fun vs H Q E h => ?_) (fun cdv A outer s H vs Q E hr h => ⟨_, PSs.nox (pss_cons (ps_if (PW.pt (pw_or (pt_not (pt_val (pe_callB call_isi (by rfl) B.isinstance_ (by decide +kernel) (pa_cons (pv 0) (pa_cons (pe_bltn (v := .ty "str") (u := .type "str") (by rfl) B.str_ (by decide +kernel) rfl) pa_nil))))) (pw_or1 (pt_not (pt_chain op_le op_le pe_int (pe_callB call_len_str (by rfl) B.len_ PySem.boot_len (pa_cons (pv 0) pa_nil)) (pe_glob (v := .int 8) rfl mL ⟨_, rfl⟩)))))) (pss_one (ps_ret pe_bl)) pss_nil)
     (pss_one (ps_ret (pe_callB (cr_all rfl) (by rfl) B.all_ (by decide +kernel) (pa_cons (pe_lc (own := [("letter", 1)]) (g := gName 1) rfl sc_is_name.nd (pi_str (pv 0))
        (blkOk_by (own := [("letter", 1)]) (N := N_is_name) (sc := defScope S_is_name) (by decide +kernel)) (fun _ _ _ _ _ => pg_name (i := 1) sc_is_name.nd rfl (Or.inl rfl)) (fun _ _ _ _ _ => pts_nil) (fun _ _ _ _ _ => pe_chain op_le_str op_le_str pe_str (pv 1) pe_str)) pa_nil))))), ?_⟩)
  · obtain ⟨v, d, rfl, _⟩ := h
    rfl
  · obtain ⟨v, d, rfl, hd, sm, q⟩ := h
    refine ⟨_, rfl, _, _, _, _, _, rfl, .ty _, th_ty hd, kit_ty (kt_str d), _, rfl, ?_⟩
    cases d with
    | str z =>
      have ev := th_str hd
      subst ev
      have z1000 := sm z rfl
      refine iteF ⟨_, rfl, z, rfl, by rw [sizeLine_eq]; omega, _, _, rfl, rfl, _, rfl, ?_⟩
      by_cases z1 : (1 : Int) ≤ (z.length : Int)
      · rw [if_pos (decide_eq_true z1)]
        refine ⟨_, _, rfl, rfl, _, rfl, ?_⟩
        by_cases z8 : (z.length : Int) ≤ 8
        · rw [decide_eq_true z8]
          have eq8 : nameB (.str z) = z.cps.toList.all chOk := by
            show (decide (1 ≤ z.length ∧ z.length ≤ 8) && _) = _
            rw [decide_eq_true (show 1 ≤ z.length ∧ z.length ≤ 8 by omega)]
            rfl
          refine iteF ⟨_, rfl, _, rfl, fun D nD => ?_⟩
          refine lc_it (walk_str (z := z)) (fun i H2 => Same H (Off D H2) ∧ H2 D = some (.lst (((z.cps.toList.take i).map chOk).map V.bl))) ⟨fun b o e => Off.at (ne_of_none e nD) (same_new nD _ _ e), upd_same⟩ (fun _ _ _ _ => trivial) ?_ ?_
          · rintro i x H4 H5 hi ⟨sm4, hD⟩ ⟨rfl, c, hc, rfl⟩
            refine ⟨rfl, ?_⟩
            dsimp only [tYes]
            rw [if_pos rfl]
            have hi2 : i < z.length := hi
            have hc2 : z.cps.toList[i]? = some c := by
              rw [Array.getElem?_toList]
              exact hc
            have fin : ∀ b, b = chOk c → ∃ ys, H5 D = some (.lst ys) ∧ ys.length < sizeLine ∧ (Same H (Off D (upd H5 D (.lst (ys ++ [V.bl b])))) ∧ (upd H5 D (.lst (ys ++ [V.bl b]))) D = some (.lst (((z.cps.toList.take (i + 1)).map chOk).map V.bl))) := fun b e => by
              refine ⟨_, hD, by rw [List.length_map, List.length_map, sizeLine_eq]; have := List.length_take_le i z.cps.toList; omega, fun b' o e' => ?_, ?_⟩
              · have nb : b' ≠ D := ne_of_none e' nD
                exact Off.at nb (by rw [upd_ne nb]; exact Off.same _ _ (sm4 b' o e'))
              · rw [upd_same, List.take_add_one, hc2, List.map_append, List.map_append, e]
                rfl
            refine ⟨_, rfl, _, _, rfl, rfl, _, rfl, ?_⟩
            rw [le_aG]
            by_cases c1 : 97 ≤ c
            · rw [decide_eq_true c1]
              refine iteT ⟨_, _, rfl, rfl, ?_⟩
              rw [le_zG]
              exact fin _ (by unfold chOk; simp [c1])
            · rw [decide_eq_false c1]
              exact iteF (fin _ (by unfold chOk; simp [c1]))
          · rintro H2 ⟨sm2, hD⟩
            refine ⟨D, _, rfl, SqL.of hD, ?_⟩
            rw [show (((z.cps.toList.take z.cps.size).map chOk).all id) = z.cps.toList.all chOk from by
              rw [List.take_of_length_le (by simp), List.all_map]
              rfl, ← eq8]
            exact q _ fun b o e => Off.same _ _ (sm2 b o e)
        · rw [decide_eq_false z8]
          have e : nameB (.str z) = false := by
            show (decide (1 ≤ z.length ∧ z.length ≤ 8) && _) = _
            rw [decide_eq_false (show ¬ (1 ≤ z.length ∧ z.length ≤ 8) by omega)]
            rfl
          rw [e] at q
          exact iteT (q _ fun _ _ e => e)
      · rw [if_neg (by rw [decide_eq_false z1]; exact Bool.false_ne_true)]
        have e : nameB (.str z) = false := by
          show (decide (1 ≤ z.length ∧ z.length ≤ 8) && _) = _
          rw [decide_eq_false (show ¬ (1 ≤ z.length ∧ z.length ≤ 8) by omega)]
          rfl
        rw [e] at q
        exact ⟨false, rfl, iteT (q _ fun _ _ e => e)⟩
    | _ => exact iteT (q _ fun _ _ e => e)
/-- a whole number from lo to hi -/
def rngB (lo hi : Int) (d : PyData) : Bool := match d with
  | .int n => decide (lo ≤ n ∧ n ≤ hi)
  | _ => false
theorem rng_int {lo hi : Int} {d : PyData} (h : rngB lo hi d = true) : ∃ n, d = .int n ∧ lo ≤ n ∧ n ≤ hi := by
  cases d with
  | int n => exact ⟨n, rfl, of_decide_eq_true h⟩
  | _ => cases h
def spStateT : Sp := fun vs H Q _ => ∃ (v : V) (d : PyData), vs = [v] ∧ Th H v d ∧ Q (.bl (rngB 0 2 d)) H
theorem ok_stateT {f : Addr} {fd : FuncData} (F : FnP K "is_state" "is_state" S_is_state f fd) (H_is_whole : Has P w K mg base "is_whole" S_is_whole 1 P_is_whole (spWholeT K)) : FnOk P w K mg base CX0 2 f fd P_is_state spStateT := by
  obtain ⟨f_is_whole, fd_is_whole, F_is_whole, b_is_whole, G_is_whole, g_is_whole⟩ := H_is_whole
  have nd := sc_is_state.nd
  refine F.ok sc_is_state (fun vs H Q E h => ?_) (fun cdv A outer s H vs Q E hr h => ⟨_, PSs.nox (pss_one (ps_ret (pe_and (pe_call G_is_whole (hr.mono (by first | decide | omega)) rfl g_is_whole F_is_whole.kp b_is_whole .nil pass0 (pa_cons (pv 0) pa_nil)) (pe_one (pe_chain op_le op_le pe_int (pv 0) pe_int))))), ?_⟩)
  · obtain ⟨v, d, rfl, _⟩ := h
    rfl
  · obtain ⟨v, d, rfl, hd, q⟩ := h
    rw [show L2.start N_is_state [v] = [some v] from rfl]
    refine ⟨_, rfl, v, d, rfl, hd, _, rfl, ?_⟩
    cases d with
    | int n =>
      have ev := th_int hd
      subst ev
      refine iteT ⟨_, rfl, _, _, rfl, rfl, _, rfl, ?_⟩
      by_cases h0 : 0 ≤ n
      · rw [if_pos (decide_eq_true h0)]
        refine ⟨_, _, rfl, rfl, ?_⟩
        rw [show rngB 0 2 (.int n) = decide (n ≤ 2) from decide_eq_decide.mpr ⟨fun z => z.2, fun z => ⟨h0, z⟩⟩] at q
        exact q
      · rw [if_neg (by rw [decide_eq_false h0]; exact Bool.false_ne_true)]
        rw [show rngB 0 2 (.int n) = false from decide_eq_false fun z => h0 z.1] at q
        exact q
    | _ => exact iteF q
def lenB (r : Bool) (d : PyData) : Bool := if r then rngB 1 1 d else rngB 2 (10 ^ 30) d
def spLenT : Sp := fun vs H Q _ => ∃ (v : V) (d : PyData) (r : Bool), vs = [v, .bl r] ∧ Th H v d ∧ Q (.bl (lenB r d)) H
theorem ok_lenT {f : Addr} {fd : FuncData} (F : FnP K "is_length" "is_length" S_is_length f fd) (H_is_whole : Has P w K mg base "is_whole" S_is_whole 1 P_is_whole (spWholeT K)) (cLO : ∃ t, mg "LONGEST" = some (.int (10 ^ 30) t)) : FnOk P w K mg base CX0 2 f fd P_is_length spLenT := by
  obtain ⟨f_is_whole, fd_is_whole, F_is_whole, b_is_whole, G_is_whole, g_is_whole⟩ := H_is_whole
  obtain ⟨t_cLO, cLO⟩ := cLO
  have nd := sc_is_length.nd
  refine F.ok sc_is_length (fun vs H Q E h => ?_) (fun cdv A outer s H vs Q E hr h => ⟨_, PSs.nox (C8.pss_cut (ps_if (pt_val (pv 1)) (pss_one (ps_ret (pe_and (pe_call G_is_whole (hr.mono (by first | decide | omega)) rfl g_is_whole F_is_whole.kp b_is_whole .nil pass0 (pa_cons (pv 0) pa_nil)) (pe_one (pe_cmpR op_eq (pv 0) pe_int (nomark _)))))) pss_nil)
     (pss_one (ps_ret (pe_and (pe_call G_is_whole (hr.mono (by first | decide | omega)) rfl g_is_whole F_is_whole.kp b_is_whole .nil pass0 (pa_cons (pv 0) pa_nil)) (pe_one (pe_chain op_le op_le pe_int (pv 0) (pe_glob (v := .int (10 ^ 30)) rfl cLO ⟨_, rfl⟩))))))), ?_⟩)
  · obtain ⟨v, d, r, rfl, _⟩ := h
    rfl
  · obtain ⟨v, d, r, rfl, hd, q⟩ := h
    rw [show L2.start N_is_length [v, V.bl r] = [some v, some (.bl r)] from rfl]
    refine ⟨fun σ H' => σ = [some v, some (.bl r)] ∧ H' = H ∧ r = false, ?_, ?_⟩
    · refine ⟨_, rfl, r, rfl, ?_⟩
      cases r with
      | false => exact iteF ⟨rfl, rfl, rfl⟩
      | true =>
        refine iteT ⟨_, rfl, v, d, rfl, hd, _, rfl, ?_⟩
        cases d with
        | int n =>
          have ev := th_int hd
          subst ev
          refine iteT ⟨_, rfl, rfl, ?_⟩
          rw [show decide (V.int n = V.int 1) = lenB true (.int n) from decide_eq_decide.mpr ⟨fun z => by cases z; exact ⟨Int.le_refl _, Int.le_refl _⟩, fun z => congrArg V.int (by omega)⟩]
          exact q
        | _ => exact iteF q
    · rintro σ H' ⟨rfl, rfl, rfl⟩
      refine ⟨_, rfl, v, d, rfl, hd, _, rfl, ?_⟩
      cases d with
      | int n =>
        have ev := th_int hd
        subst ev
        refine iteT ⟨_, rfl, _, _, rfl, rfl, _, rfl, ?_⟩
        by_cases h0 : 2 ≤ n
        · rw [if_pos (decide_eq_true h0)]
          refine ⟨_, _, rfl, rfl, ?_⟩
          rw [show lenB false (.int n) = decide (n ≤ 10 ^ 30) from decide_eq_decide.mpr ⟨fun z => z.2, fun z => ⟨h0, z⟩⟩] at q
          exact q
        · rw [if_neg (by rw [decide_eq_false h0]; exact Bool.false_ne_true)]
          rw [show lenB false (.int n) = false from decide_eq_false fun z => h0 z.1] at q
          exact q
      | _ => exact iteF q
/-- two unlike persons -/
def endsB (ns : List Str) (d e : PyData) : Bool := match d, e with
  | .str y, .str z => decide (y ∈ ns) && (decide (z ∈ ns) && decide (y ≠ z))
  | _, _ => false
def spEndsT : Sp := fun vs H Q _ => ∃ (a : Addr) (u v : V) (d e : PyData) (fs : List (Str × Int)), vs = [u, v, .ref a] ∧ H a = some (.dK (kvF fs)) ∧ Th H u d ∧ Th H v e ∧ Q (.bl (endsB (fs.map (·.1)) d e)) H
theorem ok_endsT {f : Addr} {fd : FuncData} (F : FnP K "are_ends" "are_ends" S_are_ends f fd) (B : Blt mg) : FnOk P w K mg base CX0 1 f fd P_are_ends spEndsT := by
  have nd := sc_are_ends.nd
  refine F.ok sc_are_ends (fun vs H Q E h => ?_) (fun cdv A outer s H vs Q E hr h => ⟨_, PSs.nox (C8.pss_cut (ps_if (PW.pt (pw_or (pt_not (pt_val (pe_callB call_isi (by rfl) B.isinstance_ (by decide +kernel) (pa_cons (pv 0) (pa_cons (pe_bltn (v := .ty "str") (u := .type "str") (by rfl) B.str_ (by decide +kernel) rfl) pa_nil))))) (pw_or1 (pt_not (pt_val (pe_callB call_isi (by rfl) B.isinstance_ (by decide +kernel) (pa_cons (pv 1) (pa_cons (pe_bltn (v := .ty "str") (u := .type "str") (by rfl) B.str_ (by decide +kernel) rfl) pa_nil)))))))) (pss_one (ps_ret pe_bl)) pss_nil)
     (pss_one (ps_ret (pe_and (pe_cmp (pc_din (hu_of hr) (pv 0) (pv 2))) (pe_and (pe_cmp (pc_din (hu_of hr) (pv 1) (pv 2))) (pe_one (pe_cmpR op_ne (pv 0) (pv 1) (nomark _)))))))), ?_⟩)
  · obtain ⟨a, u, v, d, e, fs, rfl, _⟩ := h
    rfl
  · obtain ⟨a, u, v, d, e, fs, rfl, ha, hu, hv, q⟩ := h
    rw [show L2.start N_are_ends [u, v, V.ref a] = [some u, some v, some (.ref a)] from rfl]
    refine ⟨fun σ H' => σ = [some u, some v, some (.ref a)] ∧ H' = H ∧ ∃ y z, d = .str y ∧ e = .str z, ?_, ?_⟩
    · refine ⟨_, rfl, _, _, _, _, _, rfl, .ty _, th_ty hu, kit_ty (kt_str d), _, rfl, ?_⟩
      cases d with
      | str y =>
        refine iteF ⟨_, rfl, _, _, _, _, _, rfl, .ty _, th_ty hv, kit_ty (kt_str e), _, rfl, ?_⟩
        cases e with
        | str z => exact iteF ⟨rfl, rfl, y, z, rfl, rfl⟩
        | _ => exact iteT q
      | _ => exact iteT q
    rintro σ H' ⟨rfl, rfl, y, z, rfl, rfl⟩
    have eu := th_str hu
    subst eu
    have ev := th_str hv
    subst ev
    have q : Q (.bl (decide (y ∈ fs.map (·.1)) && (decide (z ∈ fs.map (·.1)) && decide (y ≠ z)))) H' := q
    refine ⟨_, rfl, _, rfl, a, _, rfl, DGet.k (k := Sum.inr y) ha, _, rfl, ?_⟩
    rw [valF]
    by_cases hy : y ∈ fs.map (·.1)
    · rw [decide_eq_true hy] at q ⊢
      refine iteT ⟨_, rfl, _, rfl, a, _, rfl, DGet.k (k := Sum.inr z) ha, _, rfl, ?_⟩
      rw [valF]
      by_cases hz : z ∈ fs.map (·.1)
      · rw [decide_eq_true hz] at q ⊢
        refine iteT ⟨_, rfl, _, rfl, rfl, ?_⟩
        have e : (!decide (V.str y = V.str z)) = decide (y ≠ z) := by
          by_cases e : y = z
          · simp [e]
          · simp [e]
        rw [e]
        exact q
      · rw [decide_eq_false hz] at q ⊢
        exact iteF q
    · rw [decide_eq_false hy] at q ⊢
      exact iteF q
/-- hearers, rising behind a place, of things -/
def hearL (L : Int) : Int → List PyData → Option (List (Int × Int))
  | _, [] => some []
  | a, .tuple [.int p, .int s] :: r => if a < p ∧ p < L ∧ 1 ≤ s ∧ s ≤ 2 then (hearL L p r).map ((p, s) :: ·) else none
  | _, _ :: _ => none
def hearOf (L : Int) (d : PyData) : Option (List (Int × Int)) := match d with
  | .tuple ds => hearL L 0 ds
  | _ => none
theorem hearL_no {L a : Int} {d : PyData} {r : List PyData} (h : ∀ p s, d = .tuple [.int p, .int s] → ¬ (a < p ∧ p < L ∧ 1 ≤ s ∧ s ≤ 2)) : hearL L a (d :: r) = none := by
  unfold hearL
  split
  · rename_i h0
    cases h0
  · rename_i h0
    injection h0 with h1 h2
    rw [if_neg (h _ _ h1)]
  · rfl
theorem hearL_yes {L a p s : Int} {r : List PyData} (h : a < p ∧ p < L ∧ 1 ≤ s ∧ s ≤ 2) : (hearL L a (.tuple [.int p, .int s] :: r)).isSome = (hearL L p r).isSome := by
  show (if a < p ∧ p < L ∧ 1 ≤ s ∧ s ≤ 2 then (hearL L p r).map ((p, s) :: ·) else none).isSome = _
  rw [if_pos h]
  simp
def spHearT : Sp := fun vs H Q _ => ∃ (v : V) (d : PyData) (L : Int), vs = [v, .int L] ∧ Dx H v d ∧ Q (.bl (hearOf L d).isSome) H
theorem ok_hearT {f : Addr} {fd : FuncData} (F : FnP K "are_hearers" "are_hearers" S_are_hearers f fd) (H_is_whole : Has P w K mg base "is_whole" S_is_whole 1 P_is_whole (spWholeT K)) (H_is_tuple_of : Has P w K mg base "is_tuple_of" S_is_tuple_of 1 P_is_tuple_of (spTupOf K)) (H_is_state : Has P w K mg base "is_state" S_is_state 2 P_is_state spStateT) (B : Blt mg) : FnOk P w K mg base CX0 3 f fd P_are_hearers spHearT := by
  obtain ⟨f_is_tuple_of, fd_is_tuple_of, F_is_tuple_of, b_is_tuple_of, G_is_tuple_of, g_is_tuple_of⟩ := H_is_tuple_of
  obtain ⟨f_is_whole, fd_is_whole, F_is_whole, b_is_whole, G_is_whole, g_is_whole⟩ := H_is_whole
  obtain ⟨f_is_state, fd_is_state, F_is_state, b_is_state, G_is_state, g_is_state⟩ := H_is_state
  have nd := sc_are_hearers.nd
  refine F.ok sc_are_hearers (fun vs H Q E h => ?_) (fun cdv A outer s H vs Q E hr h => ⟨_, PSs.nox (C8.pss_cut (ps_if (pt_not (pt_val (pe_callB call_isi (by rfl) B.isinstance_ (by decide +kernel) (pa_cons (pv 0) (pa_cons (pe_bltn (v := .ty "tuple") (u := .type "tuple") (by rfl) B.tuple_ (by decide +kernel) rfl) pa_nil))))) (pss_one (ps_ret pe_bl)) pss_nil)
     (pss_cons (ps_set (i := 2) nd rfl (.inl rfl) pe_int)
     (C8.pss_cut (ps_for PassesOwn.never rfl (pi_tup (pv 0)) (pg_name (i := 3) nd rfl (.inl rfl))
      (C8.pss_cut (ps_if (pt_not (pt_val (pe_call G_is_tuple_of (hr.mono (by first | decide | omega)) rfl g_is_tuple_of F_is_tuple_of.kp b_is_tuple_of .nil pass0 (pa_cons (pv 3) (pa_cons pe_int pa_nil))))) (pss_one (ps_ret pe_bl)) pss_nil)
     (pss_cons (ps_asg (pv 3) (pg_tup (by rfl) (pgs_cons (pg_name (i := 4) nd rfl (.inl rfl)) (pgs_cons (pg_name (i := 5) nd rfl (.inl rfl)) pgs_nil))))
     (C8.pss_cut (ps_if (PW.pt (pw_or (pt_not (pt_val (pe_call G_is_whole (hr.mono (by first | decide | omega)) rfl g_is_whole F_is_whole.kp b_is_whole .nil pass0 (pa_cons (pv 4) pa_nil)))) (pw_or1 (pt_not (pt_chain op_lt op_lt (pv 2) (pv 4) (pv 1)))))) (pss_one (ps_ret pe_bl)) pss_nil)
     (C8.pss_cut (ps_if (PW.pt (pw_or (pt_not (pt_val (pe_call G_is_state (hr.mono (by first | decide | omega)) rfl g_is_state F_is_state.kp b_is_state .nil pass0 (pa_cons (pv 5) pa_nil)))) (pw_or1 (pt_cmpR op_eq (pv 5) pe_int (nomark _))))) (pss_one (ps_ret pe_bl)) pss_nil)
     (pss_one (ps_set (i := 2) nd rfl (.inl rfl) (pv 4))))))))
     (pss_one (ps_ret pe_bl))))), ?_⟩)
  · obtain ⟨v, d, L, rfl, _⟩ := h
    rfl
  · obtain ⟨v, d, L, rfl, hv, q⟩ := h
    rw [show L2.start N_are_hearers [v, V.int L] = [some v, some (.int L), none, none, none, none] from rfl]
    refine ⟨fun σ H' => H' = H ∧ σ = [some v, some (.int L), none, none, none, none] ∧ ∃ p ys ds, v = .ref p ∧ d = .tuple ds ∧ SqT K H p ys ∧ DxAll H ys ds, ?_, ?_⟩
    · refine ⟨_, rfl, _, _, _, _, _, rfl, .ty _, th_ty (.dx hv), kit_ty (kt_tup d), _, rfl, ?_⟩
      cases hv with
      | tup e r n => exact iteF ⟨rfl, rfl, _, _, _, rfl, rfl, SqT.of e, r⟩
      | tupy e r n => exact iteF ⟨rfl, rfl, _, _, _, rfl, rfl, e.sq, r⟩
      | _ => exact iteT q
    rintro σ H' ⟨rfl, rfl, p, ys, ds, rfl, rfl, hp, hys⟩
    have q : Q (.bl (hearL L 0 ds).isSome) H' := q
    simp only [List.set]
    have ly := dxall_len hys
    refine ⟨fun σ H2 => H2 = H' ∧ (hearL L 0 ds).isSome = true, ?_, ?_⟩
    · refine ⟨_, rfl, p, rfl, ⟨_, hp⟩, ?_⟩
      refine for_it (walk_tup (xs := ys)) (fun i σ H2 => H2 = H' ∧ ∃ a x3 x4 x5, σ = [some (V.ref p), some (.int L), some (.int a), x3, x4, x5] ∧ (hearL L 0 ds).isSome = (hearL L a (ds.drop i)).isSome) ⟨rfl, 0, none, none, none, rfl, rfl⟩ (fun i σ H2 _ h => by rw [h.1]; exact hp) ?_ ?_
      · rintro i x σ H2 H3 hi ⟨rfl, a, x3, x4, x5, rfl, inv⟩ ⟨rfl, hxi⟩
        obtain ⟨hi2, e0⟩ : ∃ h : i < ds.length, Dx H3 x ds[i] := by
          have h : i < ds.length := by omega
          obtain ⟨y, e1, e2⟩ := dxall_get (i := i) hys (List.getElem?_eq_getElem h)
          have exy : x = y := Option.some.inj (hxi.symm.trans e1)
          subst exy
          exact ⟨h, e2⟩
        rw [List.drop_eq_getElem_cons hi2] at inv
        generalize ds[i] = e at e0 inv
        have bad : (∀ p s, e = .tuple [.int p, .int s] → ¬ (a < p ∧ p < L ∧ 1 ≤ s ∧ s ≤ 2)) → Q (.bl false) H3 := fun h => by
          rw [hearL_no h] at inv
          rw [inv] at q
          exact q
        simp only [List.set]
        refine ⟨fun σ H2 => H2 = H3 ∧ ∃ t u1 u2 d1 d2, x = .ref t ∧ e = .tuple [d1, d2] ∧ SqT K H3 t [u1, u2] ∧ Dx H3 u1 d1 ∧ Dx H3 u2 d2 ∧ σ = [some (V.ref p), some (.int L), some (.int a), some x, x4, x5], ?_, ?_⟩
        · by_cases tup : isTup e = true
          · obtain ⟨t, us, es, rfl, rfl, ht, hus⟩ : ∃ t us es, x = .ref t ∧ e = .tuple es ∧ SqT K H3 t us ∧ DxAll H3 us es := by
              cases e0 with
              | tup e r n => exact ⟨_, _, _, rfl, rfl, SqT.of e, r⟩
              | tupy e r n => exact ⟨_, _, _, rfl, rfl, e.sq, r⟩
              | _ => cases tup
            have lu := dxall_len hus
            refine ⟨_, rfl, _, 2, rfl, .inl ⟨t, _, rfl, ht, _, rfl, ?_⟩⟩
            by_cases l2 : us.length = 2
            · rw [show decide (((us.length : Nat) : Int) = 2) = true from decide_eq_true (by omega)]
              obtain ⟨u1, u2, rfl⟩ : ∃ u1 u2, us = [u1, u2] := match us, l2 with | [x, y], _ => ⟨x, y, rfl⟩
              cases hus with
              | cons h1 hus =>
                cases hus with
                | cons h2 hus =>
                  cases hus
                  exact iteF ⟨rfl, t, u1, u2, _, _, rfl, rfl, ht, h1, h2, rfl⟩
            · rw [show decide (((us.length : Nat) : Int) = 2) = false from decide_eq_false (by omega)]
              refine iteT (bad fun p s e1 => ?_)
              cases e1
              exact absurd lu (by simpa using l2)
          · rw [Bool.not_eq_true] at tup
            refine ⟨_, rfl, _, 2, rfl, .inr ⟨⟨_, th_ty (.dx e0), by rw [kt_tup, tup]⟩, false, rfl, iteT (bad fun p s e1 => ?_)⟩⟩
            rw [e1] at tup
            cases tup
        rintro σ H2 ⟨e2, t, u1, u2, d1, d2, rfl, rfl, ht, h1, h2, rfl⟩
        rw [e2]
        clear e2 H2
        refine ⟨_, rfl, t, _, rfl, ht, rfl, _, _, rfl, _, _, rfl, rfl, ?_⟩
        simp only [List.set]
        refine ⟨fun σ H2 => H2 = H3 ∧ ∃ pl, d1 = .int pl ∧ u1 = .int pl ∧ a < pl ∧ pl < L ∧ σ = [some (V.ref p), some (.int L), some (.int a), some (.ref t), some u1, some u2], ?_, ?_⟩
        · refine ⟨_, rfl, u1, d1, rfl, .dx h1, _, rfl, ?_⟩
          cases d1 with
          | int pl =>
            have ev := th_int (.dx h1)
            subst ev
            refine iteF ⟨_, rfl, _, rfl, _, _, rfl, rfl, _, rfl, ?_⟩
            by_cases c1 : a < pl
            · rw [if_pos (decide_eq_true c1)]
              refine ⟨_, rfl, _, _, rfl, rfl, _, rfl, ?_⟩
              by_cases c2 : pl < L
              · rw [decide_eq_true c2]
                exact iteF ⟨rfl, pl, rfl, rfl, c1, c2, rfl⟩
              · rw [decide_eq_false c2]
                exact iteT (bad fun p s e1 => by cases e1; exact fun z => c2 z.2.1)
            · rw [if_neg (by rw [decide_eq_false c1]; exact Bool.false_ne_true)]
              exact ⟨false, rfl, iteT (bad fun p s e1 => by cases e1; exact fun z => c1 z.1)⟩
          | _ => exact iteT (bad fun p s e1 => by cases e1)
        rintro σ H2 ⟨e2, pl, rfl, rfl, c1, c2, rfl⟩
        rw [e2]
        clear e2 H2
        refine ⟨fun σ H2 => H2 = H3 ∧ (∃ s, d2 = .int s ∧ 1 ≤ s ∧ s ≤ 2) ∧ σ = [some (V.ref p), some (.int L), some (.int a), some (.ref t), some (.int pl), some u2], ?_, ?_⟩
        · refine ⟨_, rfl, u2, d2, rfl, .dx h2, _, rfl, ?_⟩
          by_cases c3 : rngB 0 2 d2 = true
          · obtain ⟨s, rfl, s0, s1⟩ := rng_int c3
            have ev := th_int (.dx h2)
            subst ev
            rw [c3]
            refine iteF ⟨_, rfl, rfl, _, rfl, ?_⟩
            by_cases c4 : s = 0
            · rw [decide_eq_true (congrArg V.int c4)]
              exact iteT (bad fun p s' e1 => by cases e1; exact fun z => by omega)
            · rw [decide_eq_false fun z => c4 (V.int.inj z)]
              exact iteF ⟨rfl, ⟨s, rfl, by omega, s1⟩, rfl⟩
          · rw [Bool.not_eq_true] at c3
            rw [c3]
            exact iteT (bad fun p s e1 => by
              cases e1
              have c3 : decide (0 ≤ s ∧ s ≤ 2) = false := c3
              have := of_decide_eq_false c3
              omega)
        rintro σ H2 ⟨e2, ⟨s, rfl, s0, s1⟩, rfl⟩
        rw [e2]
        clear e2 H2
        rw [hearL_yes ⟨c1, c2, s0, s1⟩] at inv
        exact ⟨_, rfl, rfl, pl, _, _, _, rfl, inv⟩
      · rintro σ H2 ⟨rfl, a, x3, x4, x5, rfl, inv⟩
        rw [List.drop_eq_nil_of_le (by omega)] at inv
        exact ⟨rfl, inv⟩
    · rintro σ H2 ⟨rfl, h⟩
      rw [h] at q
      exact q
end
end Cw
namespace Cw
open PySem PySem.Spec PyProof.Rows L2
theorem num_small {i : Nat} (h : i ≤ 1000) : ((i : Nat) : Int).natAbs.log2 < 1920 := Nat.lt_of_lt_of_le (PySem.Flt.log2_lt_of (by decide) (show ((i : Nat) : Int).natAbs < 2 ^ 200 by omega)) (by decide)
def isLst : PyData → Bool | .list _ => true | _ => false
theorem kt_lst (d : PyData) : kitB (tyOf d) "list" = some (isLst d) := by cases d <;> (simp only [tyOf, isLst]; decide +kernel)
def numS (i : Nat) : Str := Str.ofString (toString (i : Int))
/-- what is wrong of a person's row behind these -/
inductive WrP (fs : List (Str × Int)) : PyData → Str → Str → Prop
  | pair {d : PyData} : (∀ x y, d ≠ .tuple [x, y]) → WrP fs d (Str.ofString "person") (numS fs.length)
  | name {x y : PyData} : nameB x = false → WrP fs (.tuple [x, y]) (Str.ofString "name") (numS fs.length)
  | again {z : Str} {y : PyData} : nameB (.str z) = true → z ∈ fs.map (·.1) → WrP fs (.tuple [.str z, y]) (Str.ofString "again") z
  | state {z : Str} {y : PyData} : nameB (.str z) = true → z ∉ fs.map (·.1) → rngB 0 2 y = false → WrP fs (.tuple [.str z, y]) (Str.ofString "state") z
theorem name_of {z : Str} (h : nameB (.str z) = true) : IsName z := by
  have h : (decide (1 ≤ z.length ∧ z.length ≤ 8) && z.cps.toList.all chOk) = true := h
  rw [Bool.and_eq_true] at h
  obtain ⟨h1, h2⟩ := of_decide_eq_true h.1
  refine ⟨h1, h2, fun c hc => ?_⟩
  have := List.all_eq_true.mp h.2 c hc
  exact of_decide_eq_true this
theorem of_name {z : Str} (h : IsName z) : nameB (.str z) = true := by
  show (decide (1 ≤ z.length ∧ z.length ≤ 8) && z.cps.toList.all chOk) = true
  rw [decide_eq_true ⟨h.1, h.2.1⟩, Bool.true_and]
  exact List.all_eq_true.mpr fun c hc => decide_eq_true (h.2.2 c hc)
theorem name_str {d : PyData} (h : nameB d = true) : ∃ z, d = .str z := by
  cases d with
  | str z => exact ⟨z, rfl⟩
  | _ => cases h
/-- any row: a person's, behind these, or wrong -/
theorem per_split (fs : List (Str × Int)) (d : PyData) : (∃ x : Str × Int, d = dPer x ∧ IsName x.1 ∧ x.1 ∉ fs.map (·.1) ∧ 0 ≤ x.2 ∧ x.2 ≤ 2) ∨ ∃ wt wo, WrP fs d wt wo := by
  by_cases h : ∃ x y, d = .tuple [x, y]
  · obtain ⟨x, y, rfl⟩ := h
    by_cases hn : nameB x = true
    · obtain ⟨z, rfl⟩ := name_str hn
      by_cases ha : z ∈ fs.map (·.1)
      · exact .inr ⟨_, _, .again hn ha⟩
      · by_cases hs : rngB 0 2 y = true
        · obtain ⟨n, rfl, n0, n1⟩ := rng_int hs
          exact .inl ⟨(z, n), rfl, name_of hn, ha, n0, n1⟩
        · exact .inr ⟨_, _, .state hn ha (Bool.eq_false_iff.mpr hs)⟩
    · exact .inr ⟨_, _, .name (Bool.eq_false_iff.mpr hn)⟩
  · exact .inr ⟨_, _, .pair fun x y e => h ⟨x, y, e⟩⟩
/-- the persons, or what is wrong of them -/
def PerDue (d : PyData) (wt wo : Str) : Prop :=
  ((∀ ds, d ≠ .list ds) ∧ wt = Str.ofString "persons" ∧ wo = Str.ofString "") ∨
  (∃ fs e rest, d = .list (fs.map dPer ++ e :: rest) ∧ Folk fs ∧ WrP fs e wt wo) ∨
  (∃ fs, d = dFolk fs ∧ Folk fs ∧ ¬ (1 ≤ fs.length ∧ fs.length ≤ 8) ∧ wt = Str.ofString "many" ∧ wo = Str.ofString "persons")
theorem folk_snoc {fs : List (Str × Int)} {x : Str × Int} (F : Folk fs) (h1 : IsName x.1) (h2 : x.1 ∉ fs.map (·.1)) (h3 : 0 ≤ x.2) (h4 : x.2 ≤ 2) : Folk (fs ++ [x]) := by
  refine ⟨?_, fun y hy => ?_, fun y hy => ?_⟩
  · rw [List.map_append, List.nodup_append]
    refine ⟨F.nd, by simp, fun a ha b hb e => ?_⟩
    rw [e] at ha
    have : b = x.1 := by simpa using hb
    rw [this] at ha
    exact h2 ha
  · rcases List.mem_append.mp hy with hy | hy
    · exact F.nm y hy
    · rw [List.mem_singleton.mp hy]
      exact h1
  · rcases List.mem_append.mp hy with hy | hy
    · exact F.st y hy
    · rw [List.mem_singleton.mp hy]
      exact ⟨h3, h4⟩
section
variable {P : Program} {w : World} {K : PySem.W.Frag} {mg : Str → Option Value} {base : Heap} {C NS NW0 : Addr}
def spChPE (NW0 : Addr) : Sp := fun vs H Q E => ∃ (v : V) (d : PyData) (wt wo : Str), vs = [v] ∧ Dx H v d ∧ (∀ ds, d = .list ds → ds.length ≤ 1000 ∧ ∀ e ∈ ds, e.bulk ≤ 1000) ∧ PerDue d wt wo ∧ ∀ x H' H'', Same H H' → NewX2 "what" "who" (.str wt) (.str wo) H' x H'' → E (.ref NW0) (some x) H''
theorem ok_chpE {f : Addr} {fd : FuncData} (F : FnP K "checked_persons" "checked_persons" S_checked_persons f fd) (R_NoWeb : Rz2 P w K mg base "NoWeb" "what" "who" NW0) (H_is_tuple_of : Has P w K mg base "is_tuple_of" S_is_tuple_of 1 P_is_tuple_of (spTupOf K)) (H_is_name : Has P w K mg base "is_name" S_is_name 1 P_is_name spNameT) (H_is_state : Has P w K mg base "is_state" S_is_state 2 P_is_state spStateT) (cMP : ∃ t, mg "MOST_PERSONS" = some (.int 8 t)) (B : Blt mg) : FnOk P w K mg base (L2.CX P w) 3 f fd P_checked_persons (spChPE NW0) := by
  obtain ⟨f_is_tuple_of, fd_is_tuple_of, F_is_tuple_of, b_is_tuple_of, G_is_tuple_of, g_is_tuple_of⟩ := H_is_tuple_of
  obtain ⟨f_is_name, fd_is_name, F_is_name, b_is_name, G_is_name, g_is_name⟩ := H_is_name
  obtain ⟨f_is_state, fd_is_state, F_is_state, b_is_state, G_is_state, g_is_state⟩ := H_is_state
  obtain ⟨t_cMP, cMP⟩ := cMP
  have nd := sc_checked_persons.nd
  refine F.ok sc_checked_persons (fun vs H Q E h => ?_) (fun cdv A outer s H vs Q E hr h => ⟨_, (pss_cons (ps_if (pt_not (pt_val (pe_callB call_isi (by rfl) B.isinstance_ (by decide +kernel) (pa_cons (pv 0) (pa_cons (pe_bltn (v := .ty "list") (u := .type "list") (by rfl) B.list_ (by decide +kernel) rfl) pa_nil))))) (pss_one (ps_raise2 rfl (takes_of rfl rfl rfl rfl) R_NoWeb (hr.mono (by first | decide | omega)) rfl pe_str pe_str)) pss_nil)
     (pss_cons (ps_set (i := 1) nd rfl (.inl rfl) pe_dnewK)
     (C8.pss_cut (ps_for (passes_of rfl) rfl (pi_enum (by rfl) B.enumerate_ (pa_cons (pv 0) pa_nil)) (pg_tup (by rfl) (pgs_cons (pg_name (i := 2) nd rfl (.inl rfl)) (pgs_cons (pg_name (i := 3) nd rfl (.inl rfl)) pgs_nil)))
      (pss_cons (ps_if (pt_not (pt_val (pe_call G_is_tuple_of (hr.mono (by first | decide | omega)) rfl g_is_tuple_of F_is_tuple_of.kp b_is_tuple_of .nil pass0 (pa_cons (pv 3) (pa_cons pe_int pa_nil))))) (pss_one (ps_raise2 rfl (takes_of rfl rfl rfl rfl) R_NoWeb (hr.mono (by first | decide | omega)) rfl pe_str (pe_callTy call_str_int (by rfl) B.str_ (by decide +kernel) (pa_cons (pv 2) pa_nil)))) pss_nil)
     (pss_cons (ps_asg (pv 3) (pg_tup (by rfl) (pgs_cons (pg_name (i := 4) nd rfl (.inl rfl)) (pgs_cons (pg_name (i := 5) nd rfl (.inl rfl)) pgs_nil))))
     (pss_cons (ps_if (pt_not (pt_val (pe_call G_is_name (hr.mono (by first | decide | omega)) rfl g_is_name F_is_name.kp b_is_name .nil pass0 (pa_cons (pv 4) pa_nil)))) (pss_one (ps_raise2 rfl (takes_of rfl rfl rfl rfl) R_NoWeb (hr.mono (by first | decide | omega)) rfl pe_str (pe_callTy call_str_int (by rfl) B.str_ (by decide +kernel) (pa_cons (pv 2) pa_nil)))) pss_nil)
     (pss_cons (ps_if (pt_cmp (pc_din (hu_of hr) (pv 4) (pv 1))) (pss_one (ps_raise2 rfl (takes_of rfl rfl rfl rfl) R_NoWeb (hr.mono (by first | decide | omega)) rfl pe_str (pv 4))) pss_nil)
     (pss_cons (ps_if (pt_not (pt_val (pe_call G_is_state (hr.mono (by first | decide | omega)) rfl g_is_state F_is_state.kp b_is_state .nil pass0 (pa_cons (pv 5) pa_nil)))) (pss_one (ps_raise2 rfl (takes_of rfl rfl rfl rfl) R_NoWeb (hr.mono (by first | decide | omega)) rfl pe_str (pv 4))) pss_nil)
     (pss_one (ps_dput (hu_of hr) (pv 1) (pv 4) (pv 5) rfl))))))))
     (pss_cons (ps_if (pt_not (pt_chain op_le op_le pe_int (pe_callB call_lenD (by rfl) B.len_ PySem.boot_len (pa_cons (pv 1) pa_nil)) (pe_glob (v := .int 8) rfl cMP ⟨_, rfl⟩))) (pss_one (ps_raise2 rfl (takes_of rfl rfl rfl rfl) R_NoWeb (hr.mono (by first | decide | omega)) rfl pe_str pe_str)) pss_nil)
     (pss_one (ps_ret (pv 1))))))), ?_⟩)
  · obtain ⟨v, d, wt, wo, rfl, _⟩ := h
    rfl
  · obtain ⟨v, d, wt, wo, rfl, hv, few, due, q⟩ := h
    rw [show L2.start N_checked_persons [v] = [some v, none, none, none, none, none] from rfl]
    rcases due with ⟨nl, rfl, rfl⟩ | due
    · refine ⟨_, rfl, _, _, _, _, _, rfl, .ty _, th_ty (.dx hv), kit_ty (kt_lst d), _, rfl, ?_⟩
      cases d with
      | list ds => exact absurd rfl (nl ds)
      | _ => exact iteT fun x H2 nx => q x H H2 (fun _ _ e => e) nx
    obtain ⟨fs, tail, rfl, fo, cas⟩ : ∃ fs tail, d = .list (fs.map dPer ++ tail) ∧ Folk fs ∧ ((∃ e rest, tail = e :: rest ∧ WrP fs e wt wo) ∨ (tail = [] ∧ ¬ (1 ≤ fs.length ∧ fs.length ≤ 8) ∧ wt = Str.ofString "many" ∧ wo = Str.ofString "persons")) := by
      rcases due with ⟨fs, e, rest, rfl, fo, w⟩ | ⟨fs, rfl, fo, h⟩
      · exact ⟨fs, _, rfl, fo, .inl ⟨e, rest, rfl, w⟩⟩
      · exact ⟨fs, [], by rw [List.append_nil]; rfl, fo, .inr ⟨rfl, h⟩⟩
    obtain ⟨l1000, small⟩ := few _ rfl
    simp only [List.length_append, List.length_map] at l1000
    cases hv with
    | @lst a xs _ ha hx =>
    have lx := dxall_len hx
    simp only [List.length_append, List.length_map] at lx
    refine ⟨_, rfl, _, _, _, _, _, rfl, .ty _, ty_lst ha, kit_ty k_lst_lst, true, rfl, iteF ?_⟩
    intro dd nd
    simp only [List.set]
    refine ⟨fun σ H2 => tail = [] ∧ Same H (Off dd H2) ∧ H2 dd = some (.dK (kvF fs)) ∧ ∃ x2 x3 x4 x5, σ = [some (V.ref a), some (.ref dd), x2, x3, x4, x5], ?_, ?_⟩
    · refine ⟨_, rfl, a, xs, rfl, SqL.of (same_new nd _ _ ha), ?_⟩
      refine for_it (walk_enum (xs := xs)) (fun i σ H2 => i ≤ fs.length ∧ Same H (Off dd H2) ∧ H2 dd = some (.dK (kvF (fs.take i))) ∧ ∃ x2 x3 x4 x5, σ = [some (V.ref a), some (.ref dd), x2, x3, x4, x5]) ⟨Nat.zero_le _, fun b o e => Off.at (ne_of_none e nd) (same_new nd _ _ e), upd_same, none, none, none, none, rfl⟩ (fun i σ H2 _ h => SqL.of (Off.same _ _ (h.2.1 _ _ ha))) ?_ ?_
      · rintro i x σ H2 H3 hi ⟨il, sm, hd, x2, x3, x4, x5, rfl⟩ ⟨tt, u, y, rfl, nt, rfl, hu1, hxi⟩
        cases hu1
        obtain ⟨s3, m3⟩ := fresh2 (o := .tup [V.int (i : Nat), y]) nt
        have s03 : Same H _ := fun b o e => s3 _ _ (Off.same _ _ (sm b o e))
        have hd3 := s3 _ _ hd
        have so3 : Same H (Off dd (upd H2 tt (.tup [V.int (i : Nat), y]))) := fun b o e => Off.at (ne_of_none e nd) (s03 _ _ e)
        generalize upd H2 tt (.tup [V.int (i : Nat), y]) = H3 at s3 m3 s03 hd3 so3 ⊢
        obtain ⟨e, he, de0⟩ : ∃ e, (fs.map dPer ++ tail)[i]? = some e ∧ Dx H y e := by
          have hi3 : i < (fs.map dPer ++ tail).length := by rw [List.length_append, List.length_map]; omega
          obtain ⟨y', e1, e2⟩ := dxall_get (i := i) hx (List.getElem?_eq_getElem hi3)
          have exy : y = y' := Option.some.inj (hxi.symm.trans e1)
          subst exy
          exact ⟨_, List.getElem?_eq_getElem hi3, e2⟩
        have de := Dx.same s03 _ _ de0
        have bk := small e (List.mem_of_getElem? he)
        have here : (∃ h : i < fs.length, e = dPer fs[i]) ∨ (i = fs.length ∧ WrP fs e wt wo) := by
          by_cases hi2 : i < fs.length
          · refine .inl ⟨hi2, ?_⟩
            rw [List.getElem?_append_left (by rw [List.length_map]; exact hi2), List.getElem?_map, List.getElem?_eq_getElem hi2] at he
            exact (Option.some.inj he).symm
          · have ei : i = fs.length := by omega
            rcases cas with ⟨w, rest, rfl, hw⟩ | ⟨rfl, _⟩
            · refine .inr ⟨ei, ?_⟩
              subst ei
              rw [List.getElem?_append_right (by rw [List.length_map]; omega), List.length_map, Nat.sub_self] at he
              cases he
              exact hw
            · rw [List.append_nil, List.getElem?_eq_none (by rw [List.length_map]; omega)] at he
              cases he
        refine ⟨tt, _, rfl, SqT.of m3, rfl, _, _, rfl, _, _, rfl, rfl, ?_⟩
        simp only [List.set]
        have num : ((i : Nat) : Int).natAbs.log2 < 1920 := num_small (by omega)
        by_cases tup : ∃ t u1 u2 d1 d2, y = .ref t ∧ e = .tuple [d1, d2] ∧ SqT K H3 t [u1, u2] ∧ Dx H3 u1 d1 ∧ Dx H3 u2 d2
        · obtain ⟨t, u1, u2, d1, d2, rfl, rfl, ht, h1, h2⟩ := tup
          refine ⟨_, rfl, _, 2, rfl, .inl ⟨t, _, rfl, ht, true, rfl, iteF ?_⟩⟩
          refine ⟨_, rfl, t, _, rfl, ht, rfl, _, _, rfl, _, _, rfl, rfl, ?_⟩
          simp only [List.set]
          have sm1 : SmallS d1 := fun z ez => by
            subst ez
            simp [PyData.bulk, PyData.bulkAll] at bk
            show z.cps.size ≤ 1000
            omega
          refine ⟨_, rfl, u1, d1, rfl, .dx h1, sm1, fun H4 s4 => ?_⟩
          have hd4 := s4 _ _ hd3
          have s04 := s03.trans s4
          have h2' := Dx.same s4 _ _ h2
          rcases here with ⟨hi2, he1⟩ | ⟨ei, w⟩
          · have he1 : PyData.tuple [d1, d2] = .tuple [.str fs[i].1, .int fs[i].2] := he1
            cases he1
            have hf := List.getElem_mem hi2
            have ev := th_int (.dx h2)
            subst ev
            have ev := th_str (.dx h1)
            subst ev
            rw [of_name (fo.nm _ hf)]
            refine ⟨true, rfl, iteF ?_⟩
            have fresh : fs[i].1 ∉ (fs.take i).map (·.1) := by
              intro z
              have e : fs.map (·.1) = (fs.take i).map (·.1) ++ (fs.drop i).map (·.1) := by rw [← List.map_append, List.take_append_drop]
              have nd := fo.nd
              rw [e] at nd
              refine (List.nodup_append.mp nd).2.2 _ z fs[i].1 ?_ rfl
              rw [List.drop_eq_getElem_cons hi2]
              exact List.mem_cons_self
            refine ⟨_, rfl, _, rfl, dd, _, rfl, DGet.k (k := Sum.inr fs[i].1) hd4, _, rfl, ?_⟩
            rw [valF_none fresh]
            refine iteF ⟨_, rfl, .int fs[i].2, .int fs[i].2, rfl, .dx (.int _), ?_⟩
            rw [show rngB 0 2 (.int fs[i].2) = true from decide_eq_true (fo.st _ hf)]
            refine ⟨true, rfl, iteF ?_⟩
            refine ⟨_, rfl, _, rfl, _, rfl, dd, _, rfl, DPut.k (k := Sum.inr fs[i].1) hd4 ?_, hi2, fun b o e => ?_, ?_, _, _, _, _, rfl⟩
            · unfold kvF
              rw [List.length_map, List.length_take]
              exact small1000 (by omega)
            · have nb : b ≠ dd := ne_of_none e nd
              exact Off.at nb (by rw [upd_ne nb]; exact s04 b o e)
            · rw [upd_same, put_new (valF_none fresh), List.take_add_one, List.getElem?_eq_getElem hi2]
              unfold kvF
              rw [List.map_append]
              rfl
          · subst ei
            rw [List.take_length] at hd4
            cases w with
            | pair h => exact absurd rfl (h d1 d2)
            | name hn =>
              rw [hn]
              exact ⟨false, rfl, iteT ⟨_, rfl, _, rfl, num, fun x H' nx => q x _ H' s04 nx⟩⟩
            | again hn ha' =>
              have ev := th_str (.dx h1)
              subst ev
              rw [hn]
              refine ⟨true, rfl, iteF ⟨_, rfl, _, rfl, dd, _, rfl, DGet.k (k := Sum.inr _) hd4, _, rfl, ?_⟩⟩
              rw [valF, decide_eq_true ha']
              exact iteT ⟨_, rfl, fun x H' nx => q x _ H' s04 nx⟩
            | state hn ha' hs =>
              have ev := th_str (.dx h1)
              subst ev
              rw [hn]
              refine ⟨true, rfl, iteF ⟨_, rfl, _, rfl, dd, _, rfl, DGet.k (k := Sum.inr _) hd4, _, rfl, ?_⟩⟩
              rw [valF, decide_eq_false ha']
              refine iteF ⟨_, rfl, u2, d2, rfl, .dx h2', ?_⟩
              rw [hs]
              exact ⟨false, rfl, iteT ⟨_, rfl, fun x H' nx => q x _ H' s04 nx⟩⟩
        · have notp : ∀ x y, e ≠ .tuple [x, y] := fun x y ee => by
            subst ee
            refine tup ?_
            cases de with
            | tup e r n =>
              cases r with
              | cons h1 r =>
                cases r with
                | cons h2 r =>
                  cases r
                  exact ⟨_, _, _, _, _, rfl, rfl, SqT.of e, h1, h2⟩
            | tupy e r n =>
              cases r with
              | cons h1 r =>
                cases r with
                | cons h2 r =>
                  cases r
                  exact ⟨_, _, _, _, _, rfl, rfl, e.sq, h1, h2⟩
          obtain ⟨ei, ewt, ewo⟩ : i = fs.length ∧ wt = Str.ofString "person" ∧ wo = numS fs.length := by
            rcases here with ⟨hi2, he1⟩ | ⟨ei, w⟩
            · exact absurd he1 (notp _ _)
            · cases w with
              | pair h => exact ⟨ei, rfl, rfl⟩
              | name hn => exact absurd rfl (notp _ _)
              | again hn ha' => exact absurd rfl (notp _ _)
              | state hn ha' hs => exact absurd rfl (notp _ _)
          subst ewt ewo ei
          by_cases tp : isTup e = true
          · obtain ⟨t, us, es, rfl, rfl, ht, hus⟩ : ∃ t us es, y = .ref t ∧ e = .tuple es ∧ SqT K H3 t us ∧ DxAll H3 us es := by
              cases de with
              | tup e r n => exact ⟨_, _, _, rfl, rfl, SqT.of e, r⟩
              | tupy e r n => exact ⟨_, _, _, rfl, rfl, e.sq, r⟩
              | _ => cases tp
            have lu := dxall_len hus
            refine ⟨_, rfl, _, 2, rfl, .inl ⟨t, _, rfl, ht, _, rfl, ?_⟩⟩
            have ne2 : us.length ≠ 2 := fun l2 => by
              match es, (lu.symm.trans l2) with
              | [x, y], _ => exact notp x y rfl
            rw [show decide (((us.length : Nat) : Int) = 2) = false from decide_eq_false (by omega)]
            exact iteT ⟨_, rfl, _, rfl, num, fun x H' nx => q x _ H' s03 nx⟩
          · rw [Bool.not_eq_true] at tp
            exact ⟨_, rfl, _, 2, rfl, .inr ⟨⟨_, th_ty (.dx de), by rw [kt_tup, tp]⟩, false, rfl, iteT ⟨_, rfl, _, rfl, num, fun x H' nx => q x _ H' s03 nx⟩⟩⟩
      · rintro σ H2 ⟨il, sm, hd, x2, x3, x4, x5, rfl⟩
        have t0 : tail = [] := List.eq_nil_of_length_eq_zero (by omega)
        rw [lx, t0] at hd
        rw [List.take_of_length_le (by simp)] at hd
        exact ⟨t0, sm, hd, x2, x3, x4, x5, rfl⟩
    · rintro σ H2 ⟨rfl, sm, hd, x2, x3, x4, x5, rfl⟩
      have lk : ((kvF fs).length : Int) = fs.length := by
        unfold kvF
        rw [List.length_map]
      obtain ⟨many, rfl, rfl⟩ : ¬ (1 ≤ fs.length ∧ fs.length ≤ 8) ∧ wt = Str.ofString "many" ∧ wo = Str.ofString "persons" := by
        rcases cas with ⟨e, rest, h, _⟩ | ⟨_, h⟩
        · cases h
        · exact h
      have s02 : Same H H2 := fun b o e => Off.same _ _ (sm b o e)
      refine ⟨_, rfl, dd, _, rfl, hd, _, _, rfl, rfl, _, rfl, ?_⟩
      rw [lk]
      by_cases c1 : (1 : Int) ≤ (fs.length : Int)
      · rw [if_pos (decide_eq_true c1)]
        refine ⟨_, _, rfl, rfl, false, qf (by omega), iteT fun x H' nx => q x _ H' s02 nx⟩
      · rw [if_neg (by rw [decide_eq_false c1]; exact Bool.false_ne_true)]
        exact ⟨false, rfl, iteT fun x H' nx => q x _ H' s02 nx⟩
end
end Cw
namespace Cw
open PySem PySem.Spec PyProof.Rows L2
theorem hearL_hs {L : Int} : ∀ {ds : List PyData} {a : Int} {hs : List (Int × Int)}, hearL L a ds = some hs → ds = hs.map dHear ∧ hs.Pairwise (fun a b => a.1 < b.1) ∧ ∀ h ∈ hs, a < h.1 ∧ h.1 < L ∧ 1 ≤ h.2 ∧ h.2 ≤ 2
  | [], a, hs, h => by
    cases h
    exact ⟨rfl, List.Pairwise.nil, fun _ h => by cases h⟩
  | d :: r, a, hs, h => by
    by_cases g : ∃ p s, d = .tuple [.int p, .int s] ∧ (a < p ∧ p < L ∧ 1 ≤ s ∧ s ≤ 2)
    · obtain ⟨p, s, rfl, c⟩ := g
      have e : hearL L a (.tuple [.int p, .int s] :: r) = (hearL L p r).map ((p, s) :: ·) := by
        show (if a < p ∧ p < L ∧ 1 ≤ s ∧ s ≤ 2 then _ else none) = _
        rw [if_pos c]
      rw [e] at h
      cases h2 : hearL L p r with
      | none => rw [h2] at h; cases h
      | some t =>
        rw [h2] at h
        cases h
        obtain ⟨e1, e2, e3⟩ := hearL_hs h2
        refine ⟨by rw [e1]; rfl, List.pairwise_cons.mpr ⟨fun b hb => (e3 b hb).1, e2⟩, fun x hx => ?_⟩
        rcases List.mem_cons.mp hx with hx | hx
        · rw [hx]
          exact c
        · have := e3 x hx
          exact ⟨by omega, this.2⟩
    · rw [hearL_no fun p s e c => g ⟨p, s, e, c⟩] at h
      cases h
theorem hearL_some {L : Int} : ∀ {hs : List (Int × Int)} {a : Int}, hs.Pairwise (fun a b => a.1 < b.1) → (∀ h ∈ hs, a < h.1 ∧ h.1 < L ∧ 1 ≤ h.2 ∧ h.2 ≤ 2) → hearL L a (hs.map dHear) = some hs
  | [], a, _, _ => rfl
  | (p, s) :: r, a, pw, al => by
    have c := al (p, s) List.mem_cons_self
    show (if a < p ∧ p < L ∧ 1 ≤ s ∧ s ≤ 2 then (hearL L p (r.map dHear)).map ((p, s) :: ·) else none) = _
    rw [if_pos c, hearL_some (List.pairwise_cons.mp pw).2 fun x hx => ⟨(List.pairwise_cons.mp pw).1 x hx, (al x (List.mem_cons_of_mem _ hx)).2⟩]
    rfl
theorem hear_some {L : Int} {hs : List (Int × Int)} (h : Hear L hs) : hearOf L (dHs hs) = some hs := hearL_some h.up fun x hx => ⟨by have := (h.at_ x hx).1; omega, (h.at_ x hx).2⟩
theorem hear_hs {L : Int} {d : PyData} {hs : List (Int × Int)} (h : hearOf L d = some hs) : d = dHs hs ∧ Hear L hs := by
  cases d with
  | tuple ds =>
    obtain ⟨e1, e2, e3⟩ := hearL_hs (show hearL L 0 ds = some hs from h)
    exact ⟨congrArg PyData.tuple e1, e2, fun x hx => ⟨by have := (e3 x hx).1; omega, (e3 x hx).2⟩⟩
  | _ => cases h
theorem len_int {r : Bool} {n : Int} : lenB r (.int n) = true ↔ LenR r n := by
  cases r with
  | true => exact ⟨fun h => by have h := of_decide_eq_true (show decide (1 ≤ n ∧ n ≤ 1) = true from h); show n = 1; omega, fun h => decide_eq_true (by have h : n = 1 := h; omega)⟩
  | false => exact ⟨fun h => by
    have h' : 2 ≤ n ∧ n ≤ 10 ^ 30 := of_decide_eq_true h
    exact h', fun h => by
    have h : 2 ≤ n ∧ n ≤ 10 ^ 30 := h
    show decide (2 ≤ n ∧ n ≤ 10 ^ 30) = true
    exact decide_eq_true h⟩
theorem len_str {r : Bool} {d : PyData} (h : lenB r d = true) : ∃ n, d = .int n := by
  cases r with
  | true => obtain ⟨n, e, _⟩ := rng_int (show rngB 1 1 d = true from h); exact ⟨n, e⟩
  | false => obtain ⟨n, e, _⟩ := rng_int (show rngB 2 (10 ^ 30) d = true from h); exact ⟨n, e⟩
theorem ends_str {ns : List Str} {d e : PyData} (h : endsB ns d e = true) : ∃ y z, d = .str y ∧ e = .str z ∧ y ∈ ns ∧ z ∈ ns ∧ y ≠ z := by
  cases d with
  | str y =>
    cases e with
    | str z =>
      have h : (decide (y ∈ ns) && (decide (z ∈ ns) && decide (y ≠ z))) = true := h
      rw [Bool.and_eq_true, Bool.and_eq_true] at h
      exact ⟨y, z, rfl, rfl, of_decide_eq_true h.1, of_decide_eq_true h.2.1, of_decide_eq_true h.2.2⟩
    | _ => cases h
  | _ => cases h
theorem of_ends {ns : List Str} {y z : Str} (h1 : y ∈ ns) (h2 : z ∈ ns) (h3 : y ≠ z) : endsB ns (.str y) (.str z) = true := by
  show (decide (y ∈ ns) && (decide (z ∈ ns) && decide (y ≠ z))) = true
  rw [decide_eq_true h1, decide_eq_true h2, decide_eq_true h3]
  rfl
/-- what is wrong of a tie's row behind these -/
inductive WrT (r : Bool) (ns tn : List Str) : PyData → Str → Str → Prop
  | tie {d : PyData} : (∀ a b c e f, d ≠ .tuple [a, b, c, e, f]) → WrT r ns tn d (Str.ofString "tie") (numS tn.length)
  | name {a b c e f : PyData} : nameB a = false → WrT r ns tn (.tuple [a, b, c, e, f]) (Str.ofString "name") (numS tn.length)
  | again {z : Str} {b c e f : PyData} : nameB (.str z) = true → (z ∈ ns ∨ z ∈ tn) → WrT r ns tn (.tuple [.str z, b, c, e, f]) (Str.ofString "again") z
  | ends {z : Str} {b c e f : PyData} : nameB (.str z) = true → z ∉ ns → z ∉ tn → endsB ns b c = false → WrT r ns tn (.tuple [.str z, b, c, e, f]) (Str.ofString "ends") z
  | length {z : Str} {b c e f : PyData} : nameB (.str z) = true → z ∉ ns → z ∉ tn → endsB ns b c = true → lenB r e = false → WrT r ns tn (.tuple [.str z, b, c, e, f]) (Str.ofString "length") z
  | hearers {z : Str} {b c f : PyData} {L : Int} : nameB (.str z) = true → z ∉ ns → z ∉ tn → endsB ns b c = true → lenB r (.int L) = true → hearOf L f = none → WrT r ns tn (.tuple [.str z, b, c, .int L, f]) (Str.ofString "hearers") z
def Ties0 (r : Bool) (fs : List (Str × Int)) (ts : List Tie) : Prop := (∀ t ∈ ts, Good r (fs.map (·.1)) t) ∧ (fs.map (·.1) ++ ts.map (·.nm)).Nodup
theorem tie_split (r : Bool) (ns tn : List Str) (d : PyData) : (∃ t, d = dTie t ∧ Good r ns t ∧ t.nm ∉ ns ∧ t.nm ∉ tn) ∨ ∃ wt wo, WrT r ns tn d wt wo := by
  by_cases h : ∃ a b c e f, d = .tuple [a, b, c, e, f]
  · obtain ⟨a, b, c, e, f, rfl⟩ := h
    by_cases hn : nameB a = true
    · obtain ⟨z, rfl⟩ := name_str hn
      by_cases ha : z ∈ ns ∨ z ∈ tn
      · exact .inr ⟨_, _, .again hn ha⟩
      · have h1 : z ∉ ns := fun x => ha (.inl x)
        have h2 : z ∉ tn := fun x => ha (.inr x)
        by_cases he : endsB ns b c = true
        · by_cases hl : lenB r e = true
          · obtain ⟨L, rfl⟩ := len_str hl
            cases hh : hearOf L f with
            | none => exact .inr ⟨_, _, .hearers hn h1 h2 he hl hh⟩
            | some hs =>
              obtain ⟨rfl, hr⟩ := hear_hs hh
              obtain ⟨y, y2, rfl, rfl, e1, e2, e3⟩ := ends_str he
              exact .inl ⟨⟨z, y, y2, L, hs⟩, rfl, ⟨name_of hn, e1, e2, e3, len_int.mp hl, hr⟩, h1, h2⟩
          · exact .inr ⟨_, _, .length hn h1 h2 he (Bool.eq_false_iff.mpr hl)⟩
        · exact .inr ⟨_, _, .ends hn h1 h2 (Bool.eq_false_iff.mpr he)⟩
    · exact .inr ⟨_, _, .name (Bool.eq_false_iff.mpr hn)⟩
  · exact .inr ⟨_, _, .tie fun a b c e f x => h ⟨a, b, c, e, f, x⟩⟩
theorem ties0_snoc {r : Bool} {fs : List (Str × Int)} {ts : List Tie} {t : Tie} (T : Ties0 r fs ts) (G : Good r (fs.map (·.1)) t) (h1 : t.nm ∉ fs.map (·.1)) (h2 : t.nm ∉ ts.map (·.nm)) : Ties0 r fs (ts ++ [t]) := by
  refine ⟨fun x hx => ?_, ?_⟩
  · rcases List.mem_append.mp hx with hx | hx
    · exact T.1 x hx
    · rw [List.mem_singleton.mp hx]
      exact G
  · rw [List.map_append, ← List.append_assoc, List.nodup_append]
    refine ⟨T.2, by simp, fun a ha b hb e => ?_⟩
    have : b = t.nm := by simpa using hb
    rw [e, this] at ha
    exact (List.mem_append.mp ha).elim h1 h2
/-- what is wrong of the ties, behind good persons -/
def TieDue (r : Bool) (fs : List (Str × Int)) (d : PyData) (wt wo : Str) : Prop :=
  ((∀ ds, d ≠ .list ds) ∧ d ≠ .tuple [] ∧ wt = Str.ofString "ties" ∧ wo = Str.ofString "") ∨
  (∃ ts e rest, d = .list (ts.map dTie ++ e :: rest) ∧ Ties0 r fs ts ∧ WrT r (fs.map (·.1)) (ts.map (·.nm)) e wt wo) ∨
  (∃ ts, d = .list (ts.map dTie) ∧ Ties0 r fs ts ∧ wt = Str.ofString "many" ∧ ((12 < ts.length ∧ wo = Str.ofString "ties") ∨ (ts.length ≤ 12 ∧ 12 < told ts ∧ wo = Str.ofString "hearers")))
theorem qt {p : Prop} [Decidable p] (h : p) : V.bl (decide p) = V.bl true := by rw [decide_eq_true h]
theorem bulk_hs : ∀ hs : List (Int × Int), hs.length ≤ PyData.bulkAll (hs.map dHear)
  | [] => Nat.zero_le _
  | h :: r => by
    have := bulk_hs r
    simp only [List.map_cons, List.length_cons, PyData.bulkAll, dHear, PyData.bulk]
    omega
theorem few_hs {t : Tie} (h : (dTie t).bulk ≤ 1000) : t.hs.length ≤ 1000 := by
  have := bulk_hs t.hs
  simp only [dTie, dHs, PyData.bulk, PyData.bulkAll] at h
  omega
section
variable {P : Program} {w : World} {K : PySem.W.Frag} {mg : Str → Option Value} {base : Heap} {C NS NW0 : Addr}
def spChTE (NW0 : Addr) : Sp := fun vs H Q E => ∃ (v : V) (ds : Addr) (r : Bool) (fs : List (Str × Int)) (d : PyData) (wt wo : Str), vs = [v, .ref ds, .bl r] ∧ Dx H v d ∧ H ds = some (.dK (kvF fs)) ∧ (∀ ds, d = .list ds → ds.length ≤ 1000 ∧ ∀ e ∈ ds, e.bulk ≤ 1000) ∧ TieDue r fs d wt wo ∧ ∀ x H' H'', Same H H' → NewX2 "what" "who" (.str wt) (.str wo) H' x H'' → E (.ref NW0) (some x) H''
theorem ok_chtE {f : Addr} {fd : FuncData} (F : FnP K "checked_ties" "checked_ties" S_checked_ties f fd) (R_NoWeb : Rz2 P w K mg base "NoWeb" "what" "who" NW0) (H_is_tuple_of : Has P w K mg base "is_tuple_of" S_is_tuple_of 1 P_is_tuple_of (spTupOf K)) (H_is_name : Has P w K mg base "is_name" S_is_name 1 P_is_name spNameT) (H_are_ends : Has P w K mg base "are_ends" S_are_ends 1 P_are_ends spEndsT) (H_is_length : Has P w K mg base "is_length" S_is_length 2 P_is_length spLenT) (H_are_hearers : Has P w K mg base "are_hearers" S_are_hearers 3 P_are_hearers spHearT) (cMT : ∃ t, mg "MOST_TIES" = some (.int 12 t)) (cMH : ∃ t, mg "MOST_HEARERS" = some (.int 12 t)) (B : Blt mg) : FnOk P w K mg base (L2.CX P w) 4 f fd P_checked_ties (spChTE NW0) := by
  obtain ⟨f_is_tuple_of, fd_is_tuple_of, F_is_tuple_of, b_is_tuple_of, G_is_tuple_of, g_is_tuple_of⟩ := H_is_tuple_of
  obtain ⟨f_is_name, fd_is_name, F_is_name, b_is_name, G_is_name, g_is_name⟩ := H_is_name
  obtain ⟨f_are_ends, fd_are_ends, F_are_ends, b_are_ends, G_are_ends, g_are_ends⟩ := H_are_ends
  obtain ⟨f_is_length, fd_is_length, F_is_length, b_is_length, G_is_length, g_is_length⟩ := H_is_length
  obtain ⟨f_are_hearers, fd_are_hearers, F_are_hearers, b_are_hearers, G_are_hearers, g_are_hearers⟩ := H_are_hearers
  obtain ⟨t_cMH, cMH⟩ := cMH
  obtain ⟨t_cMT, cMT⟩ := cMT
  have nd := sc_checked_ties.nd
  refine F.ok sc_checked_ties (fun vs H Q E h => ?_) (fun cdv A outer s H vs Q E hr h => ⟨_, (pss_cons (ps_if (PW.pt (pw_and (pt_not (pt_val (pe_callB call_isi (by rfl) B.isinstance_ (by decide +kernel) (pa_cons (pv 0) (pa_cons (pe_bltn (v := .ty "list") (u := .type "list") (by rfl) B.list_ (by decide +kernel) rfl) pa_nil))))) (pw_and1 (pt_not (pt_val (pe_call G_is_tuple_of (hr.mono (by first | decide | omega)) rfl g_is_tuple_of F_is_tuple_of.kp b_is_tuple_of .nil pass0 (pa_cons (pv 0) (pa_cons pe_int pa_nil)))))))) (pss_one (ps_raise2 rfl (takes_of rfl rfl rfl rfl) R_NoWeb (hr.mono (by first | decide | omega)) rfl pe_str pe_str)) pss_nil)
     (pss_cons (ps_set (i := 3) nd rfl (.inl rfl) pe_dnewK)
     (C8.pss_cut (ps_for (passes_of rfl) rfl (pi_enum (by rfl) B.enumerate_ (pa_cons (pv 0) pa_nil)) (pg_tup (by rfl) (pgs_cons (pg_name (i := 4) nd rfl (.inl rfl)) (pgs_cons (pg_name (i := 5) nd rfl (.inl rfl)) pgs_nil)))
      (pss_cons (ps_if (pt_not (pt_val (pe_call G_is_tuple_of (hr.mono (by first | decide | omega)) rfl g_is_tuple_of F_is_tuple_of.kp b_is_tuple_of .nil pass0 (pa_cons (pv 5) (pa_cons pe_int pa_nil))))) (pss_one (ps_raise2 rfl (takes_of rfl rfl rfl rfl) R_NoWeb (hr.mono (by first | decide | omega)) rfl pe_str (pe_callTy call_str_int (by rfl) B.str_ (by decide +kernel) (pa_cons (pv 4) pa_nil)))) pss_nil)
     (pss_cons (ps_asg (pv 5) (pg_tup (by rfl) (pgs_cons (pg_name (i := 6) nd rfl (.inl rfl)) (pgs_cons (pg_name (i := 7) nd rfl (.inl rfl)) (pgs_cons (pg_name (i := 8) nd rfl (.inl rfl)) (pgs_cons (pg_name (i := 9) nd rfl (.inl rfl)) (pgs_cons (pg_name (i := 10) nd rfl (.inl rfl)) pgs_nil)))))))
     (pss_cons (ps_if (pt_not (pt_val (pe_call G_is_name (hr.mono (by first | decide | omega)) rfl g_is_name F_is_name.kp b_is_name .nil pass0 (pa_cons (pv 6) pa_nil)))) (pss_one (ps_raise2 rfl (takes_of rfl rfl rfl rfl) R_NoWeb (hr.mono (by first | decide | omega)) rfl pe_str (pe_callTy call_str_int (by rfl) B.str_ (by decide +kernel) (pa_cons (pv 4) pa_nil)))) pss_nil)
     (pss_cons (ps_if (PW.pt (pw_or (pt_cmp (pc_din (hu_of hr) (pv 6) (pv 1))) (pw_or1 (pt_cmp (pc_din (hu_of hr) (pv 6) (pv 3)))))) (pss_one (ps_raise2 rfl (takes_of rfl rfl rfl rfl) R_NoWeb (hr.mono (by first | decide | omega)) rfl pe_str (pv 6))) pss_nil)
     (pss_cons (ps_if (pt_not (pt_val (pe_call G_are_ends (hr.mono (by first | decide | omega)) rfl g_are_ends F_are_ends.kp b_are_ends .nil pass0 (pa_cons (pv 7) (pa_cons (pv 8) (pa_cons (pv 1) pa_nil)))))) (pss_one (ps_raise2 rfl (takes_of rfl rfl rfl rfl) R_NoWeb (hr.mono (by first | decide | omega)) rfl pe_str (pv 6))) pss_nil)
     (pss_cons (ps_if (pt_not (pt_val (pe_call G_is_length (hr.mono (by first | decide | omega)) rfl g_is_length F_is_length.kp b_is_length .nil pass0 (pa_cons (pv 9) (pa_cons (pv 2) pa_nil))))) (pss_one (ps_raise2 rfl (takes_of rfl rfl rfl rfl) R_NoWeb (hr.mono (by first | decide | omega)) rfl pe_str (pv 6))) pss_nil)
     (pss_cons (ps_if (pt_not (pt_val (pe_call G_are_hearers (hr.mono (by first | decide | omega)) rfl g_are_hearers F_are_hearers.kp b_are_hearers .nil pass0 (pa_cons (pv 10) (pa_cons (pv 9) pa_nil))))) (pss_one (ps_raise2 rfl (takes_of rfl rfl rfl rfl) R_NoWeb (hr.mono (by first | decide | omega)) rfl pe_str (pv 6))) pss_nil)
     (pss_one (ps_dput (hu_of hr) (pv 3) (pv 6) (pe_tup (pa_cons (pv 6) (pa_cons (pv 7) (pa_cons (pv 8) (pa_cons (pv 9) (pa_cons (pe_callTy call_tupleZ (by rfl) B.tuple_ (by decide +kernel) (pa_cons (pe_lc (own := [("place", 12), ("state", 13)]) (g := gTup K 2 (gCons (gName 12) (gCons (gName 13) gNil))) rfl nd (pi_tup (pv 10)) (blkOk_by (own := [("place", 12), ("state", 13)]) (N := N_checked_ties) (sc := defScope S_checked_ties) (by decide +kernel)) (fun _ _ _ _ _ => (pg_tup rfl (pgs_cons (pg_name (i := 12) nd rfl (.inl rfl)) (pgs_cons (pg_name (i := 13) nd rfl (.inl rfl)) pgs_nil)))) (fun _ _ _ _ _ => pts_nil) (fun _ _ _ _ _ => (pe_tup (pa_cons (pv 12) (pa_cons (pv 13) pa_nil))))) pa_nil)) pa_nil)))))) rfl))))))))))
     (pss_cons (ps_if (pt_cmpR op_gt (pe_callB call_lenD (by rfl) B.len_ PySem.boot_len (pa_cons (pv 3) pa_nil)) (pe_glob (v := .int 12) rfl cMT ⟨_, rfl⟩) (nomark _)) (pss_one (ps_raise2 rfl (takes_of rfl rfl rfl rfl) R_NoWeb (hr.mono (by first | decide | omega)) rfl pe_str pe_str)) pss_nil)
     (pss_cons (ps_if (pt_cmpR op_gt (pe_callB (cr_sum rfl) (by rfl) B.sum_ (by decide +kernel) (pa_cons (pe_lock (pe_lc (own := [("row", 11)]) (g := gName 11) rfl nd (pi_values (pv 3)) (blkOk_by (own := [("row", 11)]) (N := N_checked_ties) (sc := defScope S_checked_ties) (by decide +kernel)) (fun _ _ _ _ _ => (pg_name (i := 11) nd rfl (.inl rfl))) (fun _ _ _ _ _ => pts_nil) (fun _ _ _ _ _ => (pe_callB (call_lenK (K := K) rfl) (by rfl) B.len_ PySem.boot_len (pa_cons (pe_ix (ix_tupK (K := K) rfl) (pv 11) pe_int (fun _ _ => rfl)) pa_nil))))) pa_nil)) (pe_glob (v := .int 12) rfl cMH ⟨_, rfl⟩) (nomark _)) (pss_one (ps_raise2 rfl (takes_of rfl rfl rfl rfl) R_NoWeb (hr.mono (by first | decide | omega)) rfl pe_str pe_str)) pss_nil)
     (pss_one (ps_ret (pv 3)))))))), ?_⟩)
  · obtain ⟨v, ds, r, fs, d, wt, wo, rfl, _⟩ := h
    rfl
  · obtain ⟨v, ds, r, fs, d, wt, wo, rfl, hv, hds, few, due, q⟩ := h
    rw [show L2.start N_checked_ties [v, V.ref ds, V.bl r] = [some v, some (.ref ds), some (.bl r), none, none, none, none, none, none, none, none, none, none, none] from rfl]
    rcases due with ⟨nl, nt, rfl, rfl⟩ | due
    · refine ⟨_, rfl, _, _, _, _, _, rfl, .ty _, th_ty (.dx hv), kit_ty (kt_lst d), _, rfl, ?_⟩
      have el : isLst d = false := by
        cases d with
        | list ds => exact absurd rfl (nl ds)
        | _ => rfl
      rw [el]
      refine iteT ?_
      by_cases tp : isTup d = true
      · obtain ⟨t, us, es, rfl, rfl, ht, hus⟩ : ∃ t us es, v = .ref t ∧ d = .tuple es ∧ SqT K H t us ∧ DxAll H us es := by
          cases hv with
          | tup e r n => exact ⟨_, _, _, rfl, rfl, SqT.of e, r⟩
          | tupy e r n => exact ⟨_, _, _, rfl, rfl, e.sq, r⟩
          | _ => cases tp
        have lu := dxall_len hus
        refine ⟨_, rfl, _, 0, rfl, .inl ⟨t, _, rfl, ht, _, rfl, ?_⟩⟩
        have ne0 : us.length ≠ 0 := fun l0 => nt (by rw [List.eq_nil_of_length_eq_zero (lu.symm.trans l0)])
        rw [show decide (((us.length : Nat) : Int) = 0) = false from decide_eq_false (by omega)]
        exact iteT fun x H2 nx => q x H H2 (fun _ _ e => e) nx
      · rw [Bool.not_eq_true] at tp
        exact ⟨_, rfl, _, 0, rfl, .inr ⟨⟨_, th_ty (.dx hv), by rw [kt_tup, tp]⟩, false, rfl, iteT fun x H2 nx => q x H H2 (fun _ _ e => e) nx⟩⟩
    obtain ⟨ts, tail, rfl, T0, cas⟩ : ∃ ts tail, d = .list (ts.map dTie ++ tail) ∧ Ties0 r fs ts ∧ ((∃ e rest, tail = e :: rest ∧ WrT r (fs.map (·.1)) (ts.map (·.nm)) e wt wo) ∨ (tail = [] ∧ wt = Str.ofString "many" ∧ ((12 < ts.length ∧ wo = Str.ofString "ties") ∨ (ts.length ≤ 12 ∧ 12 < told ts ∧ wo = Str.ofString "hearers")))) := by
      rcases due with ⟨ts, e, rest, rfl, fo, w⟩ | ⟨ts, rfl, fo, h⟩
      · exact ⟨ts, _, rfl, fo, .inl ⟨e, rest, rfl, w⟩⟩
      · exact ⟨ts, [], by rw [List.append_nil], fo, .inr ⟨rfl, h⟩⟩
    obtain ⟨l1000, small⟩ := few _ rfl
    simp only [List.length_append, List.length_map] at l1000
    cases hv with
    | @lst a ys _ ha hx =>
    have lx := dxall_len hx
    simp only [List.length_append, List.length_map] at lx
    refine ⟨_, rfl, _, _, _, _, _, rfl, .ty _, ty_lst ha, kit_ty k_lst_lst, true, rfl, iteF ?_⟩
    intro dd ndd
    simp only [List.set]
    refine ⟨fun σ H2 => tail = [] ∧ ∃ xs x4 x5 x6 x7 x8 x9 x10 x11 x12 x13, σ = [some (V.ref a), some (.ref ds), some (.bl r), some (.ref dd), x4, x5, x6, x7, x8, x9, x10, x11, x12, x13] ∧ Same H (Off dd H2) ∧ H2 dd = some (.dK (kvT ts xs)) ∧ DxAll (Off dd (Nw H H2)) xs (ts.map dTie), ?_, ?_⟩
    · refine ⟨_, rfl, a, ys, rfl, SqL.of (same_new ndd _ _ ha), ?_⟩
      refine for_it (walk_enum (xs := ys)) (fun i σ H2 => i ≤ ts.length ∧ ∃ xs x4 x5 x6 x7 x8 x9 x10 x11 x12 x13, σ = [some (V.ref a), some (.ref ds), some (.bl r), some (.ref dd), x4, x5, x6, x7, x8, x9, x10, x11, x12, x13] ∧ Same H (Off dd H2) ∧ H2 dd = some (.dK (kvT (ts.take i) xs)) ∧ DxAll (Off dd (Nw H H2)) xs ((ts.take i).map dTie))
        ⟨Nat.zero_le _, [], none, none, none, none, none, none, none, none, none, none, rfl, fun b o e => Off.at (ne_of_none e ndd) (same_new ndd _ _ e), upd_same, .nil⟩ (fun i σ H2 _ h => by obtain ⟨_, xs, x4, x5, x6, x7, x8, x9, x10, x11, x12, x13, _, sm, _⟩ := h; exact SqL.of (Off.same _ _ (sm _ _ ha))) ?_ ?_
      · rintro i x σ H2 H3 hi ⟨il, xs, x4, x5, x6, x7, x8, x9, x10, x11, x12, x13, rfl, sm, hd, hxs⟩ ⟨tt, u, y, rfl, nt, rfl, hu1, hxi⟩
        cases hu1
        obtain ⟨s3, m3⟩ := fresh2 (o := .tup [V.int (i : Nat), y]) nt
        have s03 : Same H (upd H2 tt (.tup [V.int (i : Nat), y])) := fun b o e => s3 _ _ (Off.same _ _ (sm b o e))
        have hd3 := s3 _ _ hd
        have hds3 := s03 _ _ hds
        have s23 := s3
        generalize upd H2 tt (.tup [V.int (i : Nat), y]) = H3 at s3 m3 s03 hd3 hds3 s23 ⊢
        obtain ⟨e, he, de0⟩ : ∃ e, (ts.map dTie ++ tail)[i]? = some e ∧ Dx H y e := by
          have hi3 : i < (ts.map dTie ++ tail).length := by rw [List.length_append, List.length_map]; omega
          obtain ⟨y', e1, e2⟩ := dxall_get (i := i) hx (List.getElem?_eq_getElem hi3)
          have exy : y = y' := Option.some.inj (hxi.symm.trans e1)
          subst exy
          exact ⟨_, List.getElem?_eq_getElem hi3, e2⟩
        have de := Dx.same s03 _ _ de0
        have bk := small e (List.mem_of_getElem? he)
        have here : (∃ h : i < ts.length, e = dTie ts[i]) ∨ (i = ts.length ∧ WrT r (fs.map (·.1)) (ts.map (·.nm)) e wt wo) := by
          by_cases hi2 : i < ts.length
          · refine .inl ⟨hi2, ?_⟩
            rw [List.getElem?_append_left (by rw [List.length_map]; exact hi2), List.getElem?_map, List.getElem?_eq_getElem hi2] at he
            exact (Option.some.inj he).symm
          · have ei : i = ts.length := by omega
            rcases cas with ⟨w, rest, rfl, hw⟩ | ⟨rfl, _⟩
            · refine .inr ⟨ei, ?_⟩
              subst ei
              rw [List.getElem?_append_right (by rw [List.length_map]; omega), List.length_map, Nat.sub_self] at he
              cases he
              exact hw
            · rw [List.append_nil, List.getElem?_eq_none (by rw [List.length_map]; omega)] at he
              cases he
        have lxs : (ts.take i).length = xs.length := by
          have := dxall_len hxs
          rw [List.length_map] at this
          exact this.symm
        refine ⟨tt, _, rfl, SqT.of m3, rfl, _, _, rfl, _, _, rfl, rfl, ?_⟩
        simp only [List.set]
        have num : ((i : Nat) : Int).natAbs.log2 < 1920 := num_small (by omega)
        rcases here with ⟨hi2, rfl⟩ | ⟨ei, w⟩
        · obtain ⟨t, vh, rfl, ht3, hvh⟩ := dx_tie de
          obtain ⟨t', vh', e0, ht0, hvh0⟩ := dx_tie de0
          cases e0
          have hf := List.getElem_mem hi2
          have G := T0.1 _ hf
          have z8 := G.nm.2.1
          refine ⟨_, rfl, _, 5, rfl, .inl ⟨t, _, rfl, SqT.of ht3, true, rfl, iteF ?_⟩⟩
          refine ⟨_, rfl, t, [.str ts[i].nm, .str ts[i].one, .str ts[i].other, .int ts[i].len, vh], rfl, SqT.of ht3, rfl, .str ts[i].nm, [.str ts[i].one, .str ts[i].other, .int ts[i].len, vh], rfl, .str ts[i].one, [.str ts[i].other, .int ts[i].len, vh], rfl, .str ts[i].other, [.int ts[i].len, vh], rfl, .int ts[i].len, [vh], rfl, vh, [], rfl, rfl, ?_⟩
          simp only [List.set]
          refine ⟨_, rfl, _, .str ts[i].nm, rfl, .dx (.str _), fun z ez => by cases ez; omega, fun H4 s4 => ?_⟩
          rw [of_name G.nm]
          refine ⟨true, rfl, iteF ?_⟩
          have nd2 : (fs.map (·.1) ++ ts.map (·.nm)).Nodup := T0.2
          have tn : ts[i].nm ∈ ts.map (·.nm) := List.mem_map.mpr ⟨_, hf, rfl⟩
          have f1 : ts[i].nm ∉ fs.map (·.1) := fun z => (List.nodup_append.mp nd2).2.2 _ z _ tn rfl
          have f2 : ts[i].nm ∉ (ts.take i).map (·.nm) := by
            intro z
            have e : ts.map (·.nm) = (ts.take i).map (·.nm) ++ (ts.drop i).map (·.nm) := by rw [← List.map_append, List.take_append_drop]
            have nd3 := (List.nodup_append.mp nd2).2.1
            rw [e] at nd3
            refine (List.nodup_append.mp nd3).2.2 _ z ts[i].nm ?_ rfl
            rw [List.drop_eq_getElem_cons hi2]
            exact List.mem_cons_self
          refine ⟨_, rfl, _, rfl, ds, _, rfl, DGet.k (k := Sum.inr ts[i].nm) (s4 _ _ hds3), _, rfl, ?_⟩
          rw [valF_none f1]
          refine iteF ⟨_, rfl, _, rfl, dd, _, rfl, DGet.k (k := Sum.inr ts[i].nm) (s4 _ _ hd3), _, rfl, ?_⟩
          rw [kvT_none f2]
          refine iteF ?_
          refine ⟨_, rfl, _, rfl, _, rfl, ds, _, _, .str ts[i].one, .str ts[i].other, fs, rfl, s4 _ _ hds3, .dx (.str _), .dx (.str _), ?_⟩
          rw [of_ends G.h1 G.h2 G.ne]
          refine ⟨true, rfl, iteF ?_⟩
          refine ⟨_, rfl, _, rfl, _, .int ts[i].len, r, rfl, .dx (.int _), ?_⟩
          rw [len_int.mpr G.ln]
          refine ⟨true, rfl, iteF ?_⟩
          have s04 : Same H H4 := s03.trans s4
          have hvh4 := Dx.same s4 _ _ hvh
          have hvh5 := Dx.same s04 _ _ hvh0
          have ev : vh = vh' := by
            have this : H3 t = _ := s03 _ _ ht0
            rw [ht3] at this
            cases this
            rfl
          subst ev
          refine ⟨_, rfl, _, rfl, _, dHs ts[i].hs, ts[i].len, rfl, hvh4, ?_⟩
          rw [hear_some G.hr]
          refine ⟨true, rfl, iteF ?_⟩
          obtain ⟨ah, zs, rfl, hah, hzs⟩ := dx_hs hvh4
          have lh : ts[i].hs.length ≤ 1000 := few_hs bk
          refine ⟨_, rfl, _, rfl, _, rfl, _, rfl, _, rfl, ah, rfl, ⟨_, hah.sq⟩, fun D nD => ?_⟩
          refine hears_end nD hah hzs lh fun H5 us s5 hD hus => ?_
          refine ⟨D, us, rfl, SqL.of hD, fun l ob nl dn => ?_⟩
          obtain ⟨s6, m6⟩ := fresh2 (o := .frz ob (.tup us)) nl
          refine ⟨by show 5 ≤ sizeLine; decide, fun p np => ?_⟩
          obtain ⟨s7, m7⟩ := fresh2 (o := .tup [.str ts[i].nm, .str ts[i].one, .str ts[i].other, .int ts[i].len, .ref l]) np
          have s37 := (s5.trans s6).trans s7
          have hd7 := s37 _ _ (s4 _ _ hd3)
          have dD : D ≠ dd := (ne_of_none (s4 _ _ hd3) nD).symm
          have dl : l ≠ dd := (ne_of_none (s5 _ _ (s4 _ _ hd3)) nl).symm
          have dp : p ≠ dd := (ne_of_none (s6 _ _ (s5 _ _ (s4 _ _ hd3))) np).symm
          have up : Same (Off dd (Nw H H2)) (Off dd (Nw H (upd (upd (upd H5 l (.frz ob (.tup us))) p (.tup [.str ts[i].nm, .str ts[i].one, .str ts[i].other, .int ts[i].len, .ref l])) dd (.dK (kvT (ts.take i) xs ++ [(Sum.inr ts[i].nm, .ref p)]))))) := fun b o e => by
            have nb := Off.ne e
            obtain ⟨e1, e2⟩ := Nw.get (Off.same _ _ e)
            exact Off.at nb (Nw.at e1 (by rw [upd_ne nb]; exact s37 _ _ (s4 _ _ (s23 _ _ e2))))
          have hus2 : DxAll (Off dd (Nw H (upd (upd (upd H5 l (.frz ob (.tup us))) p (.tup [.str ts[i].nm, .str ts[i].one, .str ts[i].other, .int ts[i].len, .ref l])) dd (.dK (kvT (ts.take i) xs ++ [(Sum.inr ts[i].nm, .ref p)]))))) us (ts[i].hs.map dHear) := by
            refine Dx.tkAll (fun b zz tz e => ?_) _ _ (noL_hs _) hus
            obtain ⟨e0, e'⟩ := Nw.get (Off.same _ _ e)
            have nb : b ≠ dd := fun z => by
              subst z
              rw [s5 _ _ (s4 _ _ hd3)] at e'
              cases e'
              exact tz
            exact Off.at nb (Nw.at (none_of s04 e0) (by rw [upd_ne nb]; exact s7 _ _ (s6 _ _ e')))
          refine ⟨_, rfl, _, rfl, dd, _, rfl, DPut.k (k := Sum.inr ts[i].nm) hd7 ?_, hi2, xs ++ [.ref p], some (.int (i : Int)), some (.ref t), some (.str ts[i].nm), some (.str ts[i].one), some (.str ts[i].other), some (.int ts[i].len), some (.ref ah), x11, x12, x13, rfl, fun b o e => ?_, ?_, ?_⟩
          · rw [kvT_len lxs, List.length_take]
            exact small1000 (by omega)
          · have nb : b ≠ dd := ne_of_none e ndd
            exact Off.at nb (by rw [upd_ne nb]; exact s37 _ _ (s04 b o e))
          · rw [upd_same, put_new (kvT_none f2), List.take_add_one, List.getElem?_eq_getElem hi2]
            show _ = some (HO.dK (kvT (ts.take i ++ [ts[i]]) (xs ++ [V.ref p])))
            rw [kvT_snoc lxs]
          · rw [put_new (kvT_none f2), List.take_add_one, List.getElem?_eq_getElem hi2, List.map_append]
            have n1 : H l = none := none_of (s04.trans s5) nl
            have n2 : H p = none := none_of (s04.trans (s5.trans s6)) np
            refine dxall_snoc (Dx.sameAll up _ _ hxs) (.tup (Off.at dp (Nw.at n2 (by rw [upd_ne dp]; exact m7))) (.cons (.str _) (.cons (.str _) (.cons (.str _) (.cons (.int _) (.cons (.tupz (Off.at dl (Nw.at n1 (by rw [upd_ne dl]; exact s7 _ _ m6))) dn hus2 (all_hears _)) .nil))))))
        subst ei
        rw [List.take_length] at hd3 lxs
        by_cases tup : ∃ t u1 u2 u3 u4 u5 d1 d2 d3 d4 d5, y = .ref t ∧ e = .tuple [d1, d2, d3, d4, d5] ∧ SqT K H3 t [u1, u2, u3, u4, u5] ∧ Dx H3 u1 d1 ∧ Dx H3 u2 d2 ∧ Dx H3 u3 d3 ∧ Dx H3 u4 d4 ∧ Dx H3 u5 d5
        · obtain ⟨t, u1, u2, u3, u4, u5, d1, d2, d3, d4, d5, rfl, rfl, ht, h1, h2, h3, h4, h5⟩ := tup
          refine ⟨_, rfl, _, 5, rfl, .inl ⟨t, _, rfl, ht, true, rfl, iteF ?_⟩⟩
          refine ⟨_, rfl, t, _, rfl, ht, rfl, _, _, rfl, _, _, rfl, _, _, rfl, _, _, rfl, _, _, rfl, rfl, ?_⟩
          simp only [List.set]
          have sm1 : SmallS d1 := fun z ez => by
            subst ez
            simp [PyData.bulk, PyData.bulkAll] at bk
            show z.cps.size ≤ 1000
            omega
          refine ⟨_, rfl, u1, d1, rfl, .dx h1, sm1, fun H4 s4 => ?_⟩
          have hd4 := s4 _ _ hd3
          have hds4 := s4 _ _ hds3
          have s04 := s03.trans s4
          have h2 := Dx.same s4 _ _ h2
          have h3 := Dx.same s4 _ _ h3
          have h4 := Dx.same s4 _ _ h4
          have h5 := Dx.same s4 _ _ h5
          cases w with
          | tie h => exact absurd rfl (h d1 d2 d3 d4 d5)
          | name hn =>
            rw [hn]
            exact ⟨false, rfl, iteT ⟨_, rfl, _, rfl, num, fun x H' nx => q x _ H' s04 (by rw [List.length_map]; exact nx)⟩⟩
          | @again _ b c e f hn ag =>
            have ev := th_str (.dx h1)
            subst ev
            rw [hn]
            refine ⟨true, rfl, iteF ⟨_, rfl, _, rfl, ds, _, rfl, DGet.k (k := Sum.inr wo) hds4, _, rfl, ?_⟩⟩
            rw [valF]
            by_cases h1' : wo ∈ fs.map (·.1)
            · rw [decide_eq_true h1']
              exact iteT ⟨_, rfl, fun x H' nx => q x _ H' s04 nx⟩
            · rw [decide_eq_false h1']
              refine iteF ⟨_, rfl, _, rfl, dd, _, rfl, DGet.k (k := Sum.inr wo) hd4, _, rfl, ?_⟩
              rw [valT _ _ lxs, decide_eq_true (ag.resolve_left h1')]
              exact iteT ⟨_, rfl, fun x H' nx => q x _ H' s04 nx⟩
          | @ends _ b c e f hn n1 n2 he' =>
            have ev := th_str (.dx h1)
            subst ev
            rw [hn]
            refine ⟨true, rfl, iteF ⟨_, rfl, _, rfl, ds, _, rfl, DGet.k (k := Sum.inr wo) hds4, _, rfl, ?_⟩⟩
            rw [valF_none n1]
            refine iteF ⟨_, rfl, _, rfl, dd, _, rfl, DGet.k (k := Sum.inr wo) hd4, _, rfl, ?_⟩
            rw [kvT_none n2]
            refine iteF ⟨_, rfl, _, rfl, _, rfl, ds, _, _, _, _, fs, rfl, hds4, .dx h2, .dx h3, ?_⟩
            rw [he']
            exact ⟨false, rfl, iteT ⟨_, rfl, fun x H' nx => q x _ H' s04 nx⟩⟩
          | @length _ b c e f hn n1 n2 he' hl' =>
            have ev := th_str (.dx h1)
            subst ev
            rw [hn]
            refine ⟨true, rfl, iteF ⟨_, rfl, _, rfl, ds, _, rfl, DGet.k (k := Sum.inr wo) hds4, _, rfl, ?_⟩⟩
            rw [valF_none n1]
            refine iteF ⟨_, rfl, _, rfl, dd, _, rfl, DGet.k (k := Sum.inr wo) hd4, _, rfl, ?_⟩
            rw [kvT_none n2]
            refine iteF ⟨_, rfl, _, rfl, _, rfl, ds, _, _, _, _, fs, rfl, hds4, .dx h2, .dx h3, ?_⟩
            rw [he']
            refine ⟨true, rfl, iteF ⟨_, rfl, _, rfl, _, _, r, rfl, .dx h4, ?_⟩⟩
            rw [hl']
            exact ⟨false, rfl, iteT ⟨_, rfl, fun x H' nx => q x _ H' s04 nx⟩⟩
          | @hearers _ b c f L hn n1 n2 he' hl' hh' =>
            have ev := th_str (.dx h1)
            subst ev
            have ev := th_int (.dx h4)
            subst ev
            rw [hn]
            refine ⟨true, rfl, iteF ⟨_, rfl, _, rfl, ds, _, rfl, DGet.k (k := Sum.inr wo) hds4, _, rfl, ?_⟩⟩
            rw [valF_none n1]
            refine iteF ⟨_, rfl, _, rfl, dd, _, rfl, DGet.k (k := Sum.inr wo) hd4, _, rfl, ?_⟩
            rw [kvT_none n2]
            refine iteF ⟨_, rfl, _, rfl, _, rfl, ds, _, _, _, _, fs, rfl, hds4, .dx h2, .dx h3, ?_⟩
            rw [he']
            refine ⟨true, rfl, iteF ⟨_, rfl, _, rfl, _, .int L, r, rfl, .dx (.int _), ?_⟩⟩
            rw [hl']
            refine ⟨true, rfl, iteF ⟨_, rfl, _, rfl, _, _, L, rfl, h5, ?_⟩⟩
            rw [hh']
            exact ⟨false, rfl, iteT ⟨_, rfl, fun x H' nx => q x _ H' s04 nx⟩⟩
        · have notp : ∀ a b c d f, e ≠ .tuple [a, b, c, d, f] := fun a b c d f ee => by
            subst ee
            refine tup ?_
            have gen : ∀ t us, SqT K H3 t us → DxAll H3 us [a, b, c, d, f] → ∃ t' u1 u2 u3 u4 u5 d1 d2 d3 d4 d5, V.ref t = .ref t' ∧ PyData.tuple [a, b, c, d, f] = .tuple [d1, d2, d3, d4, d5] ∧ SqT K H3 t' [u1, u2, u3, u4, u5] ∧ Dx H3 u1 d1 ∧ Dx H3 u2 d2 ∧ Dx H3 u3 d3 ∧ Dx H3 u4 d4 ∧ Dx H3 u5 d5 := fun t us e r => by
              cases r with
              | cons h1 r =>
                cases r with
                | cons h2 r =>
                  cases r with
                  | cons h3 r =>
                    cases r with
                    | cons h4 r =>
                      cases r with
                      | cons h5 r =>
                        cases r
                        exact ⟨_, _, _, _, _, _, _, _, _, _, _, rfl, rfl, e, h1, h2, h3, h4, h5⟩
            cases de with
            | tup e r n => exact gen _ _ (SqT.of e) r
            | tupy e r n => exact gen _ _ e.sq r
          obtain ⟨ewt, ewo⟩ : wt = Str.ofString "tie" ∧ wo = numS ts.length := by
            cases w with
            | tie h => exact ⟨rfl, by rw [List.length_map]⟩
            | _ => exact absurd rfl (notp _ _ _ _ _)
          subst ewt ewo
          by_cases tp : isTup e = true
          · obtain ⟨t, us, es, rfl, rfl, ht, hus⟩ : ∃ t us es, y = .ref t ∧ e = .tuple es ∧ SqT K H3 t us ∧ DxAll H3 us es := by
              cases de with
              | tup e r n => exact ⟨_, _, _, rfl, rfl, SqT.of e, r⟩
              | tupy e r n => exact ⟨_, _, _, rfl, rfl, e.sq, r⟩
              | _ => cases tp
            have lu := dxall_len hus
            refine ⟨_, rfl, _, 5, rfl, .inl ⟨t, _, rfl, ht, _, rfl, ?_⟩⟩
            have ne5 : us.length ≠ 5 := fun l5 => by
              match es, (lu.symm.trans l5) with
              | [a, b, c, d, f], _ => exact notp a b c d f rfl
            rw [show decide (((us.length : Nat) : Int) = 5) = false from decide_eq_false (by omega)]
            exact iteT ⟨_, rfl, _, rfl, num, fun x H' nx => q x _ H' s03 nx⟩
          · rw [Bool.not_eq_true] at tp
            exact ⟨_, rfl, _, 5, rfl, .inr ⟨⟨_, th_ty (.dx de), by rw [kt_tup, tp]⟩, false, rfl, iteT ⟨_, rfl, _, rfl, num, fun x H' nx => q x _ H' s03 nx⟩⟩⟩
      · rintro σ H2 ⟨il, xs, x4, x5, x6, x7, x8, x9, x10, x11, x12, x13, rfl, sm, hd, hxs⟩
        have t0 : tail = [] := List.eq_nil_of_length_eq_zero (by omega)
        rw [lx, t0] at hd hxs
        rw [List.take_of_length_le (by simp)] at hd hxs
        exact ⟨t0, xs, x4, x5, x6, x7, x8, x9, x10, x11, x12, x13, rfl, sm, hd, hxs⟩
    · rintro σ H2 ⟨rfl, xs, x4, x5, x6, x7, x8, x9, x10, x11, x12, x13, rfl, sm, hd, hxs⟩
      have lxs : ts.length = xs.length := by
        have := dxall_len hxs
        rw [List.length_map] at this
        exact this.symm
      have s02 : Same H H2 := fun b o e => Off.same _ _ (sm b o e)
      obtain ⟨rfl, many⟩ : wt = Str.ofString "many" ∧ ((12 < ts.length ∧ wo = Str.ofString "ties") ∨ (ts.length ≤ 12 ∧ 12 < told ts ∧ wo = Str.ofString "hearers")) := by
        rcases cas with ⟨e, rest, h, _⟩ | ⟨_, h⟩
        · cases h
        · exact h
      rcases many with ⟨m, rfl⟩ | ⟨m1, m2, rfl⟩
      · refine ⟨_, rfl, dd, _, rfl, hd, _, _, rfl, rfl, true, qt (by rw [kvT_len lxs]; omega), iteT fun x H' nx => q x _ H' s02 nx⟩
      refine ⟨_, rfl, dd, _, rfl, hd, _, _, rfl, rfl, false, qf (by rw [kvT_len lxs]; omega), iteF ?_⟩
      refine ⟨dd, _, hd, trivial, fun od => ?_⟩
      have lk : Same (Off dd (Nw H H2)) (upd H2 dd (.frz od (.dK (kvT ts xs)))) := fun b o e => by rw [upd_ne (Off.ne e)]; exact Nw.same _ _ (Off.same _ _ e)
      refine ⟨_, rfl, dd, od, _, rfl, upd_same, fun D nD => ?_⟩
      refine lens_end nD upd_same (by rw [kvT_snd lxs]; exact Dx.sameAll lk _ _ hxs) (by omega) fun H3 s3 hD => ?_
      have hd3 := s3 _ _ (upd_same (H := H2) (a := dd))
      have nDd : D ≠ dd := fun z => by
        subst z
        rw [upd_same] at nD
        cases nD
      refine ⟨hd3, D, _, rfl, SqL.of (by rw [upd_ne nDd]; exact hD), ?_⟩
      rw [sum_told]
      have s23 : Same H2 (upd H3 dd (.dK (kvT ts xs))) := fun b o e => by
        by_cases hb : b = dd
        · subst hb
          rw [hd] at e
          cases e
          exact upd_same
        · rw [upd_ne hb]
          exact s3 _ _ (by rw [upd_ne hb]; exact e)
      refine ⟨_, _, rfl, rfl, true, qt (by omega), iteT fun x H' nx => q x _ H' (s02.trans s23) nx⟩
end
end Cw
namespace Cw
open PySem PySem.Spec PyProof.Rows L2
section
variable {P : Program} {w : World} {K : PySem.W.Frag} {mg : Str → Option Value} {base : Heap} {C NS NW0 : Addr}
theorem fn_toCX {k : Nat} {f : Addr} {fd : FuncData} {ps : List Str} {sp : Sp} (F : FnOk P w K mg base CX0 k f fd ps sp) : FnOk P w K mg base (L2.CX P w) k f fd ps sp :=
  ⟨F.len, fun A outer s H args us vs Q E hr he hb hv hs => codeAny_mono (F.run A outer s H args us vs Q E hr he hb hv hs) fun r s' hq => by
    cases r with
    | error e => exact hq.elim
    | ok fl => cases fl <;> exact hq⟩
theorem fn_or {CX : CXT} {k : Nat} {f : Addr} {fd : FuncData} {ps : List Str} {sp sp' : Sp} (F : FnOk P w K mg base CX k f fd ps sp) (G : FnOk P w K mg base CX k f fd ps sp') : FnOk P w K mg base CX k f fd ps (fun vs H Q E => sp vs H Q E ∨ sp' vs H Q E) :=
  ⟨fun vs H Q E h => h.elim (F.len vs H Q E) (G.len vs H Q E), fun A outer s H args us vs Q E hr he hb hv hs => hs.elim (F.run A outer s H args us vs Q E hr he hb hv) (G.run A outer s H args us vs Q E hr he hb hv)⟩
def HasE (P : Program) (w : World) (K : PySem.W.Frag) (mg : Str → Option Value) (base : Heap) (n : Str) (st : Stmt) (k : Nat) (ps : List Str) (sp : Sp) : Prop := ∃ (fT : Addr) (fdT : FuncData), FnP K n n st fT fdT ∧ Binds K fdT ps [] ∧ FnOk P w K mg base (L2.CX P w) k fT fdT ps sp ∧ mg n = some (.ref fT)
def Few (d : PyData) : Prop := ∀ ds, d = .list ds → ds.length ≤ 1000 ∧ ∀ e ∈ ds, e.bulk ≤ 1000
/-- Web(..) refused: of its persons, or of its ties behind good persons -/
def WebBad (r : Bool) (d e : PyData) (wt wo : Str) : Prop := PerDue d wt wo ∨ ∃ fs, d = dFolk fs ∧ Folk fs ∧ 1 ≤ fs.length ∧ fs.length ≤ 8 ∧ TieDue r fs e wt wo
def spInitE (C NW0 : Addr) : Sp := fun vs H Q E => ∃ (a dx : Addr) (v u : V) (r : Bool) (d e : PyData) (wt wo : Str), vs = [.ref a, v, u, .bl r] ∧ H a = some (.ins C dx []) ∧ Dx (Off a H) v d ∧ Dx (Off a H) u e ∧ Few d ∧ Few e ∧ WebBad r d e wt wo ∧ ∀ x H' H'', Same (Off a H) (Off a H') → NewX2 "what" "who" (.str wt) (.str wo) H' x H'' → E (.ref NW0) (some x) H''
theorem ok_initE {f e : Addr} {fd : FuncData} (F : FnI K f fd e) (WC : WebCls K C) (B : Blt mg) (p' : HasE P w K mg base "checked_persons" S_checked_persons 3 P_checked_persons (fun vs H Q E => spChP vs H Q E ∨ spChPE NW0 vs H Q E)) (T : HasE P w K mg base "checked_ties" S_checked_ties 4 P_checked_ties (fun vs H Q E => spChT K vs H Q E ∨ spChTE NW0 vs H Q E)) : FnOk P w K mg base (L2.CX P w) 5 f fd P_Web_init (spInitE C NW0) := by
  obtain ⟨fP, fdP, FP, bP, GP, gP⟩ := p'
  obtain ⟨fT, fdT, FT, bT, GT, gT⟩ := T
  refine F.ok sc_Web_init (fun vs H Q E h => ?_) (fun cdv A outer s H vs Q E hr h => ⟨_, (pss_cons (ps_fld (pv 0) (pe_callTy call_bool1 (by rfl) B.bool_ (by decide +kernel) (pa_cons (pv 3) pa_nil)) rfl)
     (pss_cons (ps_fld (pv 0) (pe_callS GP (hr.mono (by decide)) rfl gP FP.kp bP (fun σ => passAt (takes_of rfl rfl rfl rfl) σ) (pa_cons (pv 1) pa_nil)) rfl)
     (pss_cons (ps_fld (pv 0) (pe_callS GT hr rfl gT FT.kp bT (fun σ => passAt (takes_of rfl rfl rfl rfl) σ) (pa_cons (pv 2) (pa_cons (pe_fld (pv 0) rfl) (pa_cons (pe_fld (pv 0) rfl) pa_nil)))) rfl)
     (pss_cons (ps_fld (pv 0) (LiI.pe_listItems rfl (pe_fld (pv 0) rfl) (by rfl) B.list_ (by decide +kernel)) rfl)
     (pss_one (ps_fld (pv 0) (pe_listVals rfl (pe_fld (pv 0) rfl) (by rfl) B.list_ (by decide +kernel)) rfl)))))), ?_⟩)
  · obtain ⟨a, dx, v, u, r, d, e, wt, wo, rfl, _⟩ := h
    rfl
  · obtain ⟨a, dx, v, u, r, d, e, wt, wo, rfl, ha, hv, hu, fd', fe', bad, q⟩ := h
    rw [show L2.start N_Web_init [V.ref a, v, u, V.bl r] = [some (V.ref a), some v, some u, some (.bl r)] from rfl]
    refine ⟨_, rfl, .inr ⟨r, rfl, ?_⟩⟩
    refine ⟨_, rfl, a, C, dx, _, rfl, ha, WC.cl, WC.n1, by show 0 < 1000; decide, ?_⟩
    rw [putF_1]
    have k1 : Same (Off a H) (Off a (upd H a (HO.ins C dx (fs1 (.bl r))))) := off_upd2
    rcases bad with bad | ⟨fs, rfl, fo, l1, l8, bad⟩
    · refine ⟨_, rfl, .inr ⟨v, d, wt, wo, rfl, Dx.same off_upd _ _ hv, fd', bad, fun x H' H'' s' nx => q x H' H'' (k1.trans (Off.mono s')) nx⟩⟩
    refine ⟨_, rfl, .inl ⟨_, fs, rfl, Dx.same off_upd _ _ hv, fo, l1, l8, fun ds H2 s2 n2 hds => ?_⟩⟩
    have ha2 := s2 _ _ (upd_same (H := H) (a := a))
    have k2 := k1.trans (Off.mono s2)
    have nsa : ds ≠ a := (ne_of_none (upd_same (H := H) (a := a)) n2).symm
    refine ⟨_, rfl, a, C, dx, _, rfl, ha2, WC.cl, WC.n2, by show 1 < 1000; decide, ?_⟩
    rw [putF_2]
    have k3 : Same (Off a H) (Off a (upd H2 a (HO.ins C dx (fs2 (.bl r) (.ref ds))))) := k2.trans off_upd2
    have hds3 : (upd H2 a (HO.ins C dx (fs2 (.bl r) (.ref ds)))) ds = some (.dK (kvF fs)) := by rw [upd_ne nsa]; exact hds
    refine ⟨_, rfl, _, rfl, a, C, dx, _, _, rfl, upd_same, WC.cl, WC.n2, rfl, ?_⟩
    refine ⟨_, rfl, a, C, dx, _, _, rfl, upd_same, WC.cl, WC.n1, rfl, ?_⟩
    exact .inr ⟨u, ds, r, fs, _, wt, wo, rfl, Dx.same (k3.trans Off.same) _ _ hu, hds3, fe', bad, fun x H' H'' s' nx => q x H' H'' (k3.trans (Off.mono s')) nx⟩
end
end Cw
namespace Cw
open PySem PySem.Spec PyProof.Rows L2
theorem abc_range : (Str.ofString "abcdefghijklmnopqrstuvwxyz").cps.toList = List.range' 97 26 := by decide +kernel
theorem abc_mem (c : Nat) : decide (c ∈ (Str.ofString "abcdefghijklmnopqrstuvwxyz").cps.toList) = chOk c := by
  rw [abc_range]
  unfold chOk
  exact decide_eq_decide.mpr (by rw [List.mem_range']; exact ⟨fun ⟨i, h, e⟩ => by omega, fun h => ⟨c - 97, by omega, by omega⟩⟩)
theorem str_len0 {z : Str} (h : z.length = 0) : z = Str.ofString "" := by
  have e : z.cps = #[] := Array.eq_empty_of_size_eq_zero h
  have e2 : (Str.ofString "").cps = #[] := by decide +kernel
  cases z
  simp only at e
  rw [e, ← e2]
section
variable {P : Program} {w : World} {K : PySem.W.Frag} {mg : Str → Option Value} {base : Heap} {C NS NW0 : Addr}
def spLWhole : Sp := fun vs H Q _ => ∃ (v : V) (d : PyData) (lo hi : Int), vs = [v, .int lo, .int hi] ∧ Dx H v d ∧ Q (.bl (rngB lo hi d)) H
theorem ok_lwhole {f : Addr} {fd : FuncData} (F : FnP K "_law_is_whole" "_law_is_whole" S_l_is_whole f fd) (B : Blt mg) : FnOk P w K mg base CX0 1 f fd P_l_is_whole spLWhole := by
  have nd := sc_l_is_whole.nd
  refine F.ok sc_l_is_whole (fun vs H Q E h => ?_) (fun cdv A outer s H vs Q E hr h => ⟨_, PSs.nox (pss_one (ps_ret (pe_and (pe_callB call_isi (by rfl) B.isinstance_ (by decide +kernel) (pa_cons (pv 0) (pa_cons (pe_bltn (v := .ty "int") (u := .type "int") (by rfl) B.int_ (by decide +kernel) rfl) pa_nil))) (pe_and (pe_not (pe_callB call_isi (by rfl) B.isinstance_ (by decide +kernel) (pa_cons (pv 0) (pa_cons (pe_bltn (v := .ty "bool") (u := .type "bool") (by rfl) B.bool_ (by decide +kernel) rfl) pa_nil)))) (pe_one (pe_chain op_le op_le (pv 1) (pv 0) (pv 2))))))), ?_⟩)
  · obtain ⟨v, d, lo, hi, rfl, _⟩ := h
    rfl
  · obtain ⟨v, d, lo, hi, rfl, hd, q⟩ := h
    rw [show L2.start N_l_is_whole [v, V.int lo, V.int hi] = [some v, some (.int lo), some (.int hi)] from rfl]
    refine ⟨_, rfl, _, _, _, _, _, rfl, .ty _, th_ty (.dx hd), kit_ty (kt_int d), _, rfl, ?_⟩
    cases d with
    | int n =>
      cases hd
      refine iteT ⟨_, rfl, _, _, _, _, _, rfl, .ty _, th_ty (.dx (.int n)), kit_ty (kt_bool _), false, rfl, ?_⟩
      refine ⟨true, rfl, iteT ?_⟩
      refine ⟨_, rfl, _, rfl, _, _, rfl, rfl, _, rfl, ?_⟩
      by_cases h0 : lo ≤ n
      · rw [if_pos (decide_eq_true h0)]
        refine ⟨_, rfl, _, _, rfl, rfl, ?_⟩
        rw [show rngB lo hi (.int n) = decide (n ≤ hi) from decide_eq_decide.mpr ⟨fun z => z.2, fun z => ⟨h0, z⟩⟩] at q
        exact q
      · rw [if_neg (by rw [decide_eq_false h0]; exact Bool.false_ne_true)]
        rw [show rngB lo hi (.int n) = false from decide_eq_false fun z => h0 z.1] at q
        exact q
    | bool b => exact iteT ⟨_, rfl, _, _, _, _, _, rfl, .ty _, th_ty (.dx hd), kit_ty (kt_bool _), true, rfl, ⟨false, rfl, iteF q⟩⟩
    | _ => exact iteF q
def spLName : Sp := fun vs H Q _ => ∃ (v : V) (d : PyData), vs = [v] ∧ Dx H v d ∧ SmallS d ∧ ∀ H', Same H H' → Q (.bl (nameB d)) H'
theorem ok_lname {f : Addr} {fd : FuncData} (F : FnP K "_law_is_name" "_law_is_name" S_l_is_name f fd) (B : Blt mg) : FnOk P w K mg base CX0 1 f fd P_l_is_name spLName := by
  have nd := sc_l_is_name.nd
  refine F.ok sc_l_is_name (fun vs H Q E h => ?_) (fun cdv A outer s H vs Q E hr h => ⟨_, PSs.nox (C8.pss_cut (ps_if (PW.pt (pw_or (pt_not (pt_val (pe_callB call_isi (by rfl) B.isinstance_ (by decide +kernel) (pa_cons (pv 0) (pa_cons (pe_bltn (v := .ty "str") (u := .type "str") (by rfl) B.str_ (by decide +kernel) rfl) pa_nil))))) (pw_or (pt_cmpR op_eq (pv 0) pe_str (nomark _)) (pw_or1 (pt_cmpR op_gt (pe_callB call_len_str (by rfl) B.len_ PySem.boot_len (pa_cons (pv 0) pa_nil)) pe_int (nomark _)))))) (pss_one (ps_ret pe_bl)) pss_nil)
     (pss_one (ps_ret (pe_cmpR (op_eqNil (hu_of hr)) (pe_lc (own := [("_law_sign", 1)]) (g := gName 1) rfl nd (pi_str (pv 0)) (blkOk_by (own := [("_law_sign", 1)]) (N := N_l_is_name) (sc := defScope S_l_is_name) (by decide +kernel)) (fun _ _ _ _ _ => (pg_name (i := 1) nd rfl (.inl rfl))) (fun _ _ _ _ _ => (pts_one (pt_cmpR op_notIn_sign (pv 1) pe_str (by rfl)))) (fun _ _ _ _ _ => (pv 1))) (pe_lst pa_nil) (nomark _))))), ?_⟩)
  · obtain ⟨v, d, rfl, _⟩ := h
    rfl
  · obtain ⟨v, d, rfl, hd, sm, q⟩ := h
    rw [show L2.start N_l_is_name [v] = [some v, none] from rfl]
    refine ⟨fun σ H' => σ = [some v, none] ∧ H' = H ∧ ∃ z, d = .str z ∧ v = .str z ∧ 1 ≤ z.length ∧ z.length ≤ 8, ?_, ?_⟩
    · refine ⟨_, rfl, _, _, _, _, _, rfl, .ty _, th_ty (.dx hd), kit_ty (kt_str d), _, rfl, ?_⟩
      cases d with
      | str z =>
        cases hd
        have no : ¬ (1 ≤ z.length ∧ z.length ≤ 8) → Q (.bl false) H := fun n => by
          have e : nameB (.str z) = false := by
            show (decide (1 ≤ z.length ∧ z.length ≤ 8) && _) = _
            rw [decide_eq_false n]
            rfl
          rw [e] at q
          exact q _ fun _ _ e => e
        have z1000 := sm z rfl
        refine iteF ⟨_, rfl, rfl, _, rfl, ?_⟩
        by_cases h0 : z = Str.ofString ""
        · rw [decide_eq_true (congrArg V.str h0)]
          exact iteT (no fun x => by rw [h0] at x; exact absurd x.1 (by decide +kernel))
        · rw [decide_eq_false fun x => h0 (V.str.inj x)]
          refine iteF ⟨_, rfl, z, rfl, by rw [sizeLine_eq]; omega, _, _, rfl, rfl, _, rfl, ?_⟩
          by_cases h8 : (8 : Int) < (z.length : Int)
          · rw [decide_eq_true h8]
            exact iteT (no fun x => by omega)
          · rw [decide_eq_false h8]
            refine iteF ⟨rfl, rfl, z, rfl, rfl, ?_, by omega⟩
            rcases Nat.eq_zero_or_pos z.length with e | e
            · exact absurd (str_len0 e) h0
            · exact e
      | _ => exact iteT (q _ fun _ _ e => e)
    rintro σ H' ⟨rfl, rfl, z, rfl, rfl, z1, z8⟩
    refine ⟨_, rfl, _, rfl, fun D nD => ?_⟩
    refine lc_it (walk_str (z := z)) (fun i H2 => Same H' (Off D H2) ∧ H2 D = some (.lst (((z.cps.toList.take i).filter fun c => !chOk c).map fun c => V.str ⟨#[c]⟩))) ⟨fun b o e => Off.at (ne_of_none e nD) (same_new nD _ _ e), upd_same⟩ (fun _ _ _ _ => trivial) ?_ ?_
    · rintro i x H4 H5 hi ⟨sm4, hD⟩ ⟨rfl, c, hc, rfl⟩
      refine ⟨rfl, ?_⟩
      have hi2 : i < z.length := hi
      have hc2 : z.cps.toList[i]? = some c := by
        rw [Array.getElem?_toList]
        exact hc
      refine ⟨_, rfl, c, _, rfl, rfl, _, rfl, ?_⟩
      rw [abc_mem]
      have tk : (z.cps.toList.take (i + 1)).filter (fun c => !chOk c) = (z.cps.toList.take i).filter (fun c => !chOk c) ++ (if (!chOk c) = true then [c] else []) := by
        rw [List.take_add_one, hc2, List.filter_append]
        congr 1
        show List.filter _ [c] = _
        rw [List.filter_cons]
        rfl
      by_cases b : chOk c = true
      · rw [b]
        refine (if_neg Bool.false_ne_true).mpr ⟨sm4, ?_⟩
        rw [tk, b]
        simpa using hD
      · rw [Bool.not_eq_true] at b
        rw [b]
        refine (if_pos rfl).mpr ⟨_, rfl, _, hD, ?_, fun b' o e' => ?_, ?_⟩
        · rw [List.length_map]
          have h1 := List.length_filter_le (fun c => !chOk c) (z.cps.toList.take i)
          rw [List.length_take] at h1
          exact small1000 (by omega)
        · have nb : b' ≠ D := ne_of_none e' nD
          exact Off.at nb (by rw [upd_ne nb]; exact Off.same _ _ (sm4 b' o e'))
        · rw [upd_same, tk, b, List.map_append]
          rfl
    · rintro H2 ⟨sm2, hD⟩
      refine ⟨Nat.zero_le _, fun D2 n2 => ?_⟩
      obtain ⟨s5, m5⟩ := fresh2 (o := .lst []) n2
      refine ⟨D, D2, _, rfl, rfl, SqL.of (s5 _ _ hD), SqL.of m5, ?_⟩
      have e : ((((z.cps.toList.take z.cps.size).filter fun c => !chOk c).map fun c => V.str ⟨#[c]⟩)).isEmpty = nameB (.str z) := by
        rw [List.take_of_length_le (by simp)]
        show _ = (decide (1 ≤ z.length ∧ z.length ≤ 8) && z.cps.toList.all chOk)
        rw [decide_eq_true ⟨z1, z8⟩, Bool.true_and, List.isEmpty_map, Bool.eq_iff_iff, List.isEmpty_iff, List.filter_eq_nil_iff, List.all_eq_true]
        simp
      rw [e]
      exact q _ fun b o e => s5 _ _ (Off.same _ _ (sm2 b o e))
end
end Cw
namespace Cw
open PySem PySem.Spec PyProof.Rows L2
/-- what is due of a person's row -/
inductive DueP (fs : List (Str × Int)) (d : PyData) (H : Hp) : V → Prop
  | good {x : Str × Int} : d = dPer x → IsName x.1 → x.1 ∉ fs.map (·.1) → 0 ≤ x.2 → x.2 ≤ 2 → DueP fs d H .non
  | bad {p : Addr} {wt wo : Str} : WrP fs d wt wo → H p = some (.tup [.str wt, .str wo]) → DueP fs d H (.ref p)
section
variable {P : Program} {w : World} {K : PySem.W.Frag} {mg : Str → Option Value} {base : Heap} {C NS NW0 : Addr}
def spPDue : Sp := fun vs H Q _ => ∃ (v : V) (d : PyData) (l : Addr) (fs : List (Str × Int)), vs = [.int (fs.length : Nat), v, .ref l] ∧ fs.length ≤ 1000 ∧ Dx H v d ∧ d.bulk ≤ 1000 ∧ H l = some (.lst ((fs.map (·.1)).map V.str)) ∧ ∀ u H', Same H H' → DueP fs d H' u → Q u H'
theorem ok_pdue {f : Addr} {fd : FuncData} (F : FnP K "_law_person_due" "_law_person_due" S_person_due f fd) (H_l_is_whole : Has P w K mg base "_law_is_whole" S_l_is_whole 1 P_l_is_whole spLWhole) (H_l_is_name : Has P w K mg base "_law_is_name" S_l_is_name 1 P_l_is_name spLName) (B : Blt mg) : FnOk P w K mg base CX0 2 f fd P_person_due spPDue := by
  obtain ⟨f_l_is_name, fd_l_is_name, F_l_is_name, b_l_is_name, G_l_is_name, g_l_is_name⟩ := H_l_is_name
  obtain ⟨f_l_is_whole, fd_l_is_whole, F_l_is_whole, b_l_is_whole, G_l_is_whole, g_l_is_whole⟩ := H_l_is_whole
  have nd := sc_person_due.nd
  refine F.ok sc_person_due (fun vs H Q E h => ?_) (fun cdv A outer s H vs Q E hr h => ⟨_, PSs.nox (C8.pss_cut (ps_if (PW.pt (pw_or (pt_not (pt_val (pe_callB call_isi (by rfl) B.isinstance_ (by decide +kernel) (pa_cons (pv 1) (pa_cons (pe_bltn (v := .ty "tuple") (u := .type "tuple") (by rfl) B.tuple_ (by decide +kernel) rfl) pa_nil))))) (pw_or1 (pt_cmpR op_ne (pe_callB call_len_seq (by rfl) B.len_ PySem.boot_len (pa_cons (pv 1) pa_nil)) pe_int (nomark _))))) (pss_one (ps_ret (pe_tup (pa_cons pe_str (pa_cons (pe_callTy call_str_int (by rfl) B.str_ (by decide +kernel) (pa_cons (pv 0) pa_nil)) pa_nil))))) pss_nil)
     (C8.pss_cut (ps_if (pt_not (pt_val (pe_call G_l_is_name (hr.mono (by first | decide | omega)) rfl g_l_is_name F_l_is_name.kp b_l_is_name .nil pass0 (pa_cons (pe_ix ix_tup (pv 1) pe_int (fun _ _ => rfl)) pa_nil)))) (pss_one (ps_ret (pe_tup (pa_cons pe_str (pa_cons (pe_callTy call_str_int (by rfl) B.str_ (by decide +kernel) (pa_cons (pv 0) pa_nil)) pa_nil))))) pss_nil)
     (C8.pss_cut (ps_if (pt_cmpR op_in_seq (pe_ix ix_tup (pv 1) pe_int (fun _ _ => rfl)) (pv 2) (by rfl)) (pss_one (ps_ret (pe_tup (pa_cons pe_str (pa_cons (pe_ix ix_tup (pv 1) pe_int (fun _ _ => rfl)) pa_nil))))) pss_nil)
     (pss_one (ps_ret (pe_ifExp (pt_val (pe_call G_l_is_whole (hr.mono (by first | decide | omega)) rfl g_l_is_whole F_l_is_whole.kp b_l_is_whole .nil pass0 (pa_cons (pe_ix ix_tup (pv 1) pe_int (fun _ _ => rfl)) (pa_cons pe_int (pa_cons pe_int pa_nil))))) pe_non (pe_tup (pa_cons pe_str (pa_cons (pe_ix ix_tup (pv 1) pe_int (fun _ _ => rfl)) pa_nil))))))))), ?_⟩)
  · obtain ⟨v, d, l, fs, rfl, _⟩ := h
    rfl
  · obtain ⟨v, d, l, fs, rfl, l1000, hd, bk, hl, q⟩ := h
    rw [show L2.start N_person_due [V.int (fs.length : Nat), v, V.ref l] = [some (.int (fs.length : Nat)), some v, some (.ref l)] from rfl]
    have bad : ∀ {H' : Hp} {p : Addr} {wt wo : Str}, Same H H' → H' p = none → WrP fs d wt wo → Q (.ref p) (upd H' p (.tup [.str wt, .str wo])) := fun s' np w => q _ _ (s'.trans (same_new np)) (.bad w upd_same)
    have num : ((fs.length : Nat) : Int).natAbs.log2 < 1920 := num_small l1000
    refine ⟨fun σ H' => H' = H ∧ ∃ t u1 u2 d1 d2, v = .ref t ∧ d = .tuple [d1, d2] ∧ SqT K H t [u1, u2] ∧ Dx H u1 d1 ∧ Dx H u2 d2 ∧ σ = [some (.int (fs.length : Nat)), some v, some (.ref l)], ?_, ?_⟩
    · refine ⟨_, rfl, _, _, _, _, _, rfl, .ty _, th_ty (.dx hd), kit_ty (kt_tup d), _, rfl, ?_⟩
      by_cases tp : isTup d = true
      · obtain ⟨t, us, es, rfl, rfl, ht, hus⟩ : ∃ t us es, v = .ref t ∧ d = .tuple es ∧ SqT K H t us ∧ DxAll H us es := by
          cases hd with
          | tup e r n => exact ⟨_, _, _, rfl, rfl, SqT.of e, r⟩
          | tupy e r n => exact ⟨_, _, _, rfl, rfl, e.sq, r⟩
          | _ => cases tp
        have lu := dxall_len hus
        refine iteF ⟨_, rfl, t, us, rfl, .inr ht, rfl, _, rfl, ?_⟩
        by_cases l2 : us.length = 2
        · rw [decide_eq_true (congrArg V.int (show ((us.length : Nat) : Int) = 2 by omega))]
          obtain ⟨u1, u2, rfl⟩ : ∃ u1 u2, us = [u1, u2] := match us, l2 with | [x, y], _ => ⟨x, y, rfl⟩
          cases hus with
          | cons h1 hus =>
            cases hus with
            | cons h2 hus =>
              cases hus
              exact iteF ⟨rfl, t, u1, u2, _, _, rfl, rfl, ht, h1, h2, rfl⟩
        · rw [decide_eq_false fun x => l2 (by have := V.int.inj x; omega)]
          refine iteT ⟨_, rfl, _, rfl, num, by show 2 ≤ sizeLine; decide, fun p np => bad (fun _ _ e => e) np (.pair fun x y e => ?_)⟩
          cases e
          exact absurd lu (by simpa using l2)
      · rw [Bool.not_eq_true] at tp
        rw [tp]
        refine iteT ⟨_, rfl, _, rfl, num, by show 2 ≤ sizeLine; decide, fun p np => bad (fun _ _ e => e) np (.pair fun x y e => ?_)⟩
        rw [e] at tp
        cases tp
    rintro σ H' ⟨rfl, t, u1, u2, d1, d2, rfl, rfl, ht, h1, h2, rfl⟩
    have sm1 : SmallS d1 := fun z ez => by
      subst ez
      simp [PyData.bulk, PyData.bulkAll] at bk
      show z.cps.size ≤ 1000
      omega
    refine ⟨fun σ H2 => nameB d1 = true ∧ Same H' H2 ∧ σ = [some (.int (fs.length : Nat)), some (.ref t), some (.ref l)], ?_, ?_⟩
    · refine ⟨_, rfl, t, _, 0, _, rfl, rfl, ht, rfl, u1, d1, rfl, h1, sm1, fun H2 s2 => ⟨_, rfl, ?_⟩⟩
      by_cases hn : nameB d1 = true
      · rw [hn]
        exact iteF ⟨rfl, s2, rfl⟩
      · rw [Bool.not_eq_true] at hn
        rw [hn]
        exact iteT ⟨_, rfl, _, rfl, num, by show 2 ≤ sizeLine; decide, fun p np => bad s2 np (.name hn)⟩
    rintro σ H2 ⟨hn, s2, rfl⟩
    obtain ⟨z, rfl⟩ := name_str hn
    cases h1
    have ht2 := SqT.same ht s2
    have hl2 := s2 _ _ hl
    refine ⟨fun σ H3 => z ∉ fs.map (·.1) ∧ H3 = H2 ∧ σ = [some (.int (fs.length : Nat)), some (.ref t), some (.ref l)], ?_, ?_⟩
    · refine ⟨_, rfl, t, _, 0, _, rfl, rfl, ht2, rfl, _, rfl, l, _, rfl, .inl (SqL.of hl2), rfl, flat_strs _, _, rfl, ?_⟩
      rw [if_neg Bool.false_ne_true, inV_strs]
      refine ite2 (fun hin => ?_) (fun hin => ⟨fun w => hin (decide_eq_true w), rfl, rfl⟩)
      exact ⟨_, rfl, t, _, 0, _, rfl, rfl, ht2, rfl, by show 2 ≤ sizeLine; decide, fun p np => bad s2 np (.again hn (of_decide_eq_true hin))⟩
    rintro σ H3 ⟨fr, rfl, rfl⟩
    refine ⟨_, rfl, t, _, 1, _, rfl, rfl, ht2, rfl, u2, d2, 0, 2, rfl, Dx.same s2 _ _ h2, _, rfl, ?_⟩
    by_cases hs : rngB 0 2 d2 = true
    · rw [hs]
      obtain ⟨n, rfl, n0, n1⟩ := rng_int hs
      exact iteT (q _ _ s2 (.good (x := (z, n)) rfl (name_of hn) fr n0 n1))
    · rw [Bool.not_eq_true] at hs
      rw [hs]
      exact iteF ⟨_, rfl, t, _, 0, _, rfl, rfl, ht2, rfl, by show 2 ≤ sizeLine; decide, fun p np => bad s2 np (.state hn fr hs)⟩
end
end Cw
namespace Cw
open PySem PySem.Spec PyProof.Rows L2
theorem hear_one {d : PyData} : isNilT d = true ↔ (hearOf 1 d).isSome = true := by
  constructor
  · intro h
    cases d with
    | tuple ds =>
      cases ds with
      | nil => rfl
      | cons a r => cases h
    | _ => cases h
  · intro h
    cases e : hearOf 1 d with
    | none => rw [e] at h; cases h
    | some hs =>
      obtain ⟨rfl, hr⟩ := hear_hs e
      cases hs with
      | nil => rfl
      | cons x r =>
        have := hr.at_ x List.mem_cons_self
        omega
section
variable {P : Program} {w : World} {K : PySem.W.Frag} {mg : Str → Option Value} {base : Heap} {C NS NW0 : Addr}
def spLHear : Sp := fun vs H Q _ => ∃ (v : V) (d : PyData) (L : Int) (r : Bool), vs = [v, .int L, .bl r] ∧ Dx H v d ∧ (r = true → L = 1) ∧ ∀ H', Same H H' → Q (.bl (hearOf L d).isSome) H'
theorem ok_lhear {f : Addr} {fd : FuncData} (F : FnP K "_law_are_hearers" "_law_are_hearers" S_l_are_hearers f fd) (H_l_is_whole : Has P w K mg base "_law_is_whole" S_l_is_whole 1 P_l_is_whole spLWhole) (B : Blt mg) : FnOk P w K mg base CX0 2 f fd P_l_are_hearers spLHear := by
  obtain ⟨f_l_is_whole, fd_l_is_whole, F_l_is_whole, b_l_is_whole, G_l_is_whole, g_l_is_whole⟩ := H_l_is_whole
  have nd := sc_l_are_hearers.nd
  refine F.ok sc_l_are_hearers (fun vs H Q E h => ?_) (fun cdv A outer s H vs Q E hr h => ⟨_, PSs.nox (C8.pss_cut (ps_if (PW.pt (pw_or (pt_not (pt_val (pe_callB call_isi (by rfl) B.isinstance_ (by decide +kernel) (pa_cons (pv 0) (pa_cons (pe_bltn (v := .ty "tuple") (u := .type "tuple") (by rfl) B.tuple_ (by decide +kernel) rfl) pa_nil))))) (pw_or1 (PW.pt (pw_and (pt_val (pv 2)) (pw_and1 (pt_cmpR (op_neNilT (hu_of hr)) (pv 0) pe_tupZ (nomark _)))))))) (pss_one (ps_ret pe_bl)) pss_nil)
     (pss_cons (ps_set (i := 3) nd rfl (.inl rfl) pe_int)
     (C8.pss_cut (ps_for PassesOwn.never rfl (pi_tup (pv 0)) (pg_name (i := 4) nd rfl (.inl rfl))
      (C8.pss_cut (ps_if (PW.pt (pw_or (pt_not (pt_val (pe_callB call_isi (by rfl) B.isinstance_ (by decide +kernel) (pa_cons (pv 4) (pa_cons (pe_bltn (v := .ty "tuple") (u := .type "tuple") (by rfl) B.tuple_ (by decide +kernel) rfl) pa_nil))))) (pw_or (pt_cmpR op_ne (pe_callB call_len_seq (by rfl) B.len_ PySem.boot_len (pa_cons (pv 4) pa_nil)) pe_int (nomark _)) (pw_or1 (pt_not (pt_val (pe_call G_l_is_whole (hr.mono (by first | decide | omega)) rfl g_l_is_whole F_l_is_whole.kp b_l_is_whole .nil pass0 (pa_cons (pe_ix ix_tup (pv 4) pe_int (fun _ _ => rfl)) (pa_cons (pe_op op_add (pv 3) pe_int) (pa_cons (pe_op op_sub (pv 1) pe_int) pa_nil)))))))))) (pss_one (ps_ret pe_bl)) pss_nil)
     (C8.pss_cut (ps_if (pt_not (pt_val (pe_call G_l_is_whole (hr.mono (by first | decide | omega)) rfl g_l_is_whole F_l_is_whole.kp b_l_is_whole .nil pass0 (pa_cons (pe_ix ix_tup (pv 4) pe_int (fun _ _ => rfl)) (pa_cons pe_int (pa_cons pe_int pa_nil)))))) (pss_one (ps_ret pe_bl)) pss_nil)
     (pss_one (ps_set (i := 3) nd rfl (.inl rfl) (pe_ix ix_tup (pv 4) pe_int (fun _ _ => rfl)))))))
     (pss_one (ps_ret pe_bl))))), ?_⟩)
  · obtain ⟨v, d, L, r, rfl, _⟩ := h
    rfl
  · obtain ⟨v, d, L, r, rfl, hv, r1, q⟩ := h
    rw [show L2.start N_l_are_hearers [v, V.int L, V.bl r] = [some v, some (.int L), some (.bl r), none, none] from rfl]
    refine ⟨fun σ H' => Same H H' ∧ σ = [some v, some (.int L), some (.bl r), none, none] ∧ ∃ p ys ds, v = .ref p ∧ d = .tuple ds ∧ SqT K H' p ys ∧ DxAll H' ys ds, ?_, ?_⟩
    · refine ⟨_, rfl, _, _, _, _, _, rfl, .ty _, th_ty (.dx hv), kit_ty (kt_tup d), _, rfl, ?_⟩
      by_cases tp : isTup d = true
      · obtain ⟨t, us, es, rfl, rfl, ht, hus⟩ : ∃ t us es, v = .ref t ∧ d = .tuple es ∧ SqT K H t us ∧ DxAll H us es := by
          cases hv with
          | tup e r n => exact ⟨_, _, _, rfl, rfl, SqT.of e, r⟩
          | tupy e r n => exact ⟨_, _, _, rfl, rfl, e.sq, r⟩
          | _ => cases tp
        refine iteF ⟨_, rfl, r, rfl, ?_⟩
        cases r with
        | false => exact iteF ⟨fun _ _ e => e, rfl, t, us, es, rfl, rfl, ht, hus⟩
        | true =>
          refine iteT ⟨_, rfl, fun p o np dn => ?_⟩
          have s1 := same_new (o := .frz o (.tup [])) np
          refine ⟨_, p, rfl, .inl (.inr ⟨o, upd_same⟩), Dx.same s1 _ _ hv, _, rfl, ?_⟩
          cases es with
          | nil => exact iteF ⟨s1, rfl, t, us, _, rfl, rfl, SqT.same ht s1, Dx.sameAll s1 _ _ hus⟩
          | cons a b =>
            refine iteT ?_
            have e1 : (hearOf L (.tuple (a :: b))).isSome = false := by
              rw [r1 rfl]
              exact Bool.eq_false_iff.mpr fun x => by cases hear_one.mpr x
            rw [e1] at q
            exact q _ s1
      · rw [Bool.not_eq_true] at tp
        rw [tp]
        refine iteT ?_
        have e1 : (hearOf L d).isSome = false := by
          cases d with
          | tuple ds => cases tp
          | _ => rfl
        rw [e1] at q
        exact q _ fun _ _ e => e
    rintro σ H' ⟨s0, rfl, p, ys, ds, rfl, rfl, hp, hys⟩
    have q : ∀ H2, Same H' H2 → Q (.bl (hearL L 0 ds).isSome) H2 := fun H2 s2 => q H2 (s0.trans s2)
    simp only [List.set]
    have ly := dxall_len hys
    refine ⟨fun σ H2 => Same H' H2 ∧ (hearL L 0 ds).isSome = true, ?_, ?_⟩
    · refine ⟨_, rfl, p, rfl, ⟨_, hp⟩, ?_⟩
      refine for_it (walk_tup (xs := ys)) (fun i σ H2 => H2 = H' ∧ ∃ a x4, σ = [some (V.ref p), some (.int L), some (.bl r), some (.int a), x4] ∧ (hearL L 0 ds).isSome = (hearL L a (ds.drop i)).isSome) ⟨rfl, 0, none, rfl, rfl⟩ (fun i σ H2 _ h => by rw [h.1]; exact hp) ?_ ?_
      · rintro i x σ H2 H3 hi ⟨rfl, a, x4, rfl, inv⟩ ⟨rfl, hxi⟩
        obtain ⟨hi2, e0⟩ : ∃ h : i < ds.length, Dx H3 x ds[i] := by
          have h : i < ds.length := by omega
          obtain ⟨y, e1, e2⟩ := dxall_get (i := i) hys (List.getElem?_eq_getElem h)
          have exy : x = y := Option.some.inj (hxi.symm.trans e1)
          subst exy
          exact ⟨h, e2⟩
        rw [List.drop_eq_getElem_cons hi2] at inv
        generalize ds[i] = e at e0 inv
        have bad : (∀ p s, e = .tuple [.int p, .int s] → ¬ (a < p ∧ p < L ∧ 1 ≤ s ∧ s ≤ 2)) → Q (.bl false) H3 := fun h => by
          rw [hearL_no h] at inv
          have q := q _ fun _ _ e => e
          rw [inv] at q
          exact q
        simp only [List.set]
        refine ⟨fun σ H2 => H2 = H3 ∧ ∃ t u1 u2 pl d2, x = .ref t ∧ e = .tuple [.int pl, d2] ∧ u1 = .int pl ∧ SqT K H3 t [u1, u2] ∧ Dx H3 u2 d2 ∧ a < pl ∧ pl < L ∧ σ = [some (V.ref p), some (.int L), some (.bl r), some (.int a), some x], ?_, ?_⟩
        · refine ⟨_, rfl, _, _, _, _, _, rfl, .ty _, th_ty (.dx e0), kit_ty (kt_tup e), _, rfl, ?_⟩
          by_cases tup : isTup e = true
          · obtain ⟨t, us, es, rfl, rfl, ht, hus⟩ : ∃ t us es, x = .ref t ∧ e = .tuple es ∧ SqT K H3 t us ∧ DxAll H3 us es := by
              cases e0 with
              | tup e r n => exact ⟨_, _, _, rfl, rfl, SqT.of e, r⟩
              | tupy e r n => exact ⟨_, _, _, rfl, rfl, e.sq, r⟩
              | _ => cases tup
            have lu := dxall_len hus
            refine iteF ⟨_, rfl, t, us, rfl, .inr ht, rfl, _, rfl, ?_⟩
            by_cases l2 : us.length = 2
            · rw [decide_eq_true (congrArg V.int (show ((us.length : Nat) : Int) = 2 by omega))]
              obtain ⟨u1, u2, rfl⟩ : ∃ u1 u2, us = [u1, u2] := match us, l2 with | [x, y], _ => ⟨x, y, rfl⟩
              cases hus with
              | @cons _ _ d1 _ h1 hus =>
                cases hus with
                | @cons _ _ d2 _ h2 hus =>
                  cases hus
                  refine iteF ⟨_, rfl, t, _, 0, _, rfl, rfl, ht, rfl, _, rfl, _, _, rfl, rfl, _, rfl, _, _, rfl, rfl, u1, d1, _, _, rfl, h1, _, rfl, ?_⟩
                  by_cases c1 : rngB (a + 1) (L - 1) d1 = true
                  · rw [c1]
                    obtain ⟨pl, rfl, p0, p1⟩ := rng_int c1
                    cases h1
                    exact iteF ⟨rfl, t, _, u2, pl, _, rfl, rfl, rfl, ht, h2, by omega, by omega, rfl⟩
                  · rw [Bool.not_eq_true] at c1
                    rw [c1]
                    refine iteT (bad fun p s e1 => ?_)
                    cases e1
                    have c1 := of_decide_eq_false (show decide (a + 1 ≤ p ∧ p ≤ L - 1) = false from c1)
                    omega
            · rw [decide_eq_false fun x => l2 (by have := V.int.inj x; omega)]
              refine iteT (bad fun p s e1 => ?_)
              cases e1
              exact absurd lu (by simpa using l2)
          · rw [Bool.not_eq_true] at tup
            rw [tup]
            refine iteT (bad fun p s e1 => ?_)
            rw [e1] at tup
            cases tup
        rintro σ H2 ⟨e2, t, u1, u2, pl, d2, rfl, rfl, rfl, ht, h2, c1, c2, rfl⟩
        rw [e2]
        clear e2 H2
        refine ⟨fun σ H2 => H2 = H3 ∧ (∃ s, d2 = .int s ∧ 1 ≤ s ∧ s ≤ 2) ∧ σ = [some (V.ref p), some (.int L), some (.bl r), some (.int a), some (.ref t)], ?_, ?_⟩
        · refine ⟨_, rfl, t, _, 1, _, rfl, rfl, ht, rfl, u2, d2, 1, 2, rfl, h2, _, rfl, ?_⟩
          by_cases c3 : rngB 1 2 d2 = true
          · rw [c3]
            exact iteF ⟨rfl, rng_int c3, rfl⟩
          · rw [Bool.not_eq_true] at c3
            rw [c3]
            refine iteT (bad fun p s e1 => ?_)
            cases e1
            have c3 := of_decide_eq_false (show decide (1 ≤ s ∧ s ≤ 2) = false from c3)
            omega
        rintro σ H2 ⟨e2, ⟨s, rfl, s0, s1⟩, rfl⟩
        rw [e2]
        clear e2 H2
        rw [hearL_yes ⟨c1, c2, s0, s1⟩] at inv
        exact ⟨_, rfl, t, _, 0, _, rfl, rfl, ht, rfl, rfl, pl, _, rfl, inv⟩
      · rintro σ H2 ⟨rfl, a, x4, rfl, inv⟩
        rw [List.drop_eq_nil_of_le (by omega)] at inv
        exact ⟨fun _ _ e => e, inv⟩
    · rintro σ H2 ⟨s2, h⟩
      have q := q _ s2
      rw [h] at q
      exact q
end
end Cw
namespace Cw
open PySem PySem.Spec PyProof.Rows L2
/-- what is due of a tie's row -/
inductive DueT (r : Bool) (ns tn : List Str) (d : PyData) (H : Hp) : V → Prop
  | good {t : Tie} : d = dTie t → Good r ns t → t.nm ∉ ns → t.nm ∉ tn → DueT r ns tn d H .non
  | bad {p : Addr} {wt wo : Str} : WrT r ns tn d wt wo → H p = some (.tup [.str wt, .str wo]) → DueT r ns tn d H (.ref p)
/-- a person's name -/
def endIn (ns : List Str) (d : PyData) : Bool := match d with
  | .str z => decide (z ∈ ns)
  | _ => false
theorem ends_no {ns : List Str} {d e : PyData} (h : (endIn ns d && endIn ns e) = false) : endsB ns d e = false := by
  cases d with
  | str y =>
    cases e with
    | str z =>
      have h : (decide (y ∈ ns) && decide (z ∈ ns)) = false := h
      show (decide (y ∈ ns) && (decide (z ∈ ns) && decide (y ≠ z))) = false
      rw [← Bool.and_assoc, h]
      rfl
    | _ => rfl
  | _ => rfl
theorem ends_same {ns : List Str} {y : Str} : endsB ns (.str y) (.str y) = false := by
  show (decide (y ∈ ns) && (decide (y ∈ ns) && decide (y ≠ y))) = false
  simp
theorem small_of {d : PyData} {b : Nat} (h : d.bulk ≤ b) (hb : b ≤ 1000 := by decide) : SmallS d := fun z ez => by
  subst ez
  simp only [PyData.bulk] at h
  show z.cps.size ≤ 1000
  omega
section
variable {P : Program} {w : World} {K : PySem.W.Frag} {mg : Str → Option Value} {base : Heap} {C NS NW0 : Addr}
def spTDue : Sp := fun vs H Q _ => ∃ (v : V) (d : PyData) (l l2 : Addr) (ns tn : List Str) (r : Bool), vs = [.int (tn.length : Nat), v, .ref l, .ref l2, .bl r] ∧ tn.length ≤ 1000 ∧ Dx H v d ∧ d.bulk ≤ 1000 ∧ (∀ z ∈ ns, IsName z) ∧ H l = some (.lst (ns.map V.str)) ∧ H l2 = some (.lst ((ns ++ tn).map V.str)) ∧ ∀ u H', Same H H' → DueT r ns tn d H' u → Q u H'
theorem ok_tdue {f : Addr} {fd : FuncData} (F : FnP K "_law_tie_due" "_law_tie_due" S_tie_due f fd) (H_l_is_whole : Has P w K mg base "_law_is_whole" S_l_is_whole 1 P_l_is_whole spLWhole) (H_l_is_name : Has P w K mg base "_law_is_name" S_l_is_name 1 P_l_is_name spLName) (H_l_are_hearers : Has P w K mg base "_law_are_hearers" S_l_are_hearers 2 P_l_are_hearers spLHear) (B : Blt mg) : FnOk P w K mg base CX0 3 f fd P_tie_due spTDue := by
  obtain ⟨f_l_is_name, fd_l_is_name, F_l_is_name, b_l_is_name, G_l_is_name, g_l_is_name⟩ := H_l_is_name
  obtain ⟨f_l_is_whole, fd_l_is_whole, F_l_is_whole, b_l_is_whole, G_l_is_whole, g_l_is_whole⟩ := H_l_is_whole
  obtain ⟨f_l_are_hearers, fd_l_are_hearers, F_l_are_hearers, b_l_are_hearers, G_l_are_hearers, g_l_are_hearers⟩ := H_l_are_hearers
  have nd := sc_tie_due.nd
  refine F.ok sc_tie_due (fun vs H Q E h => ?_) (fun cdv A outer s H vs Q E hr h => ⟨_, PSs.nox (C8.pss_cut (ps_if (PW.pt (pw_or (pt_not (pt_val (pe_callB call_isi (by rfl) B.isinstance_ (by decide +kernel) (pa_cons (pv 1) (pa_cons (pe_bltn (v := .ty "tuple") (u := .type "tuple") (by rfl) B.tuple_ (by decide +kernel) rfl) pa_nil))))) (pw_or1 (pt_cmpR op_ne (pe_callB call_len_seq (by rfl) B.len_ PySem.boot_len (pa_cons (pv 1) pa_nil)) pe_int (nomark _))))) (pss_one (ps_ret (pe_tup (pa_cons pe_str (pa_cons (pe_callTy call_str_int (by rfl) B.str_ (by decide +kernel) (pa_cons (pv 0) pa_nil)) pa_nil))))) pss_nil)
     (C8.pss_cut (ps_if (pt_not (pt_val (pe_call G_l_is_name (hr.mono (by first | decide | omega)) rfl g_l_is_name F_l_is_name.kp b_l_is_name .nil pass0 (pa_cons (pe_ix ix_tup (pv 1) pe_int (fun _ _ => rfl)) pa_nil)))) (pss_one (ps_ret (pe_tup (pa_cons pe_str (pa_cons (pe_callTy call_str_int (by rfl) B.str_ (by decide +kernel) (pa_cons (pv 0) pa_nil)) pa_nil))))) pss_nil)
     (C8.pss_cut (ps_if (pt_cmpR op_in_seq (pe_ix ix_tup (pv 1) pe_int (fun _ _ => rfl)) (pv 3) (by rfl)) (pss_one (ps_ret (pe_tup (pa_cons pe_str (pa_cons (pe_ix ix_tup (pv 1) pe_int (fun _ _ => rfl)) pa_nil))))) pss_nil)
     (C8.pss_cut (ps_if (PW.pt (pw_or (pt_not (pt_val (pe_callB (cr_all rfl) (by rfl) B.all_ (by decide +kernel) (pa_cons (pe_lc (own := [("_law_end", 7)]) (g := gName 7) rfl nd (pi_tup (pe_slice sl_tup (pv 1) (po_some pe_int) (po_some pe_int))) (blkOk_by (own := [("_law_end", 7)]) (N := N_tie_due) (sc := defScope S_tie_due) (by decide +kernel)) (fun _ _ _ _ _ => (pg_name (i := 7) nd rfl (.inl rfl))) (fun _ _ _ _ _ => pts_nil) (fun _ _ _ _ _ => (pe_and (pe_call G_l_is_name (hr.mono (by first | decide | omega)) rfl g_l_is_name F_l_is_name.kp b_l_is_name .nil pass0 (pa_cons (pv 7) pa_nil)) (pe_one (pe_cmpR (op_in_seqK (K := K) rfl) (pv 7) (pv 2) (by rfl)))))) pa_nil)))) (pw_or1 (pt_cmpR op_eq (pe_ix ix_tup (pv 1) pe_int (fun _ _ => rfl)) (pe_ix ix_tup (pv 1) pe_int (fun _ _ => rfl)) (nomark _))))) (pss_one (ps_ret (pe_tup (pa_cons pe_str (pa_cons (pe_ix ix_tup (pv 1) pe_int (fun _ _ => rfl)) pa_nil))))) pss_nil)
     (pss_cons (ps_asg (pe_ix ix_list (pe_lst (pa_cons (pe_tup (pa_cons pe_int (pa_cons (pe_op op_pow pe_int pe_int) pa_nil))) (pa_cons (pe_tup (pa_cons pe_int (pa_cons pe_int pa_nil))) pa_nil))) (pe_callTy call_int1 (by rfl) B.int_ (by decide +kernel) (pa_cons (pv 4) pa_nil)) (fun _ _ => rfl)) (pg_tup (by rfl) (pgs_cons (pg_name (i := 5) nd rfl (.inl rfl)) (pgs_cons (pg_name (i := 6) nd rfl (.inl rfl)) pgs_nil))))
     (C8.pss_cut (ps_if (pt_not (pt_val (pe_call G_l_is_whole (hr.mono (by first | decide | omega)) rfl g_l_is_whole F_l_is_whole.kp b_l_is_whole .nil pass0 (pa_cons (pe_ix ix_tup (pv 1) pe_int (fun _ _ => rfl)) (pa_cons (pv 5) (pa_cons (pv 6) pa_nil)))))) (pss_one (ps_ret (pe_tup (pa_cons pe_str (pa_cons (pe_ix ix_tup (pv 1) pe_int (fun _ _ => rfl)) pa_nil))))) pss_nil)
     (pss_one (ps_ret (pe_ifExp (pt_val (pe_call G_l_are_hearers (hr.mono (by first | decide | omega)) rfl g_l_are_hearers F_l_are_hearers.kp b_l_are_hearers .nil pass0 (pa_cons (pe_ix ix_tup (pv 1) pe_int (fun _ _ => rfl)) (pa_cons (pe_ix ix_tup (pv 1) pe_int (fun _ _ => rfl)) (pa_cons (pv 4) pa_nil))))) pe_non (pe_tup (pa_cons pe_str (pa_cons (pe_ix ix_tup (pv 1) pe_int (fun _ _ => rfl)) pa_nil)))))))))))), ?_⟩)
  · obtain ⟨v, d, l, l2, ns, tn, r, rfl, _⟩ := h
    rfl
  · obtain ⟨v, d, l, l2, ns, tn, r, rfl, l1000, hd, bk, nms, hl, hl2, q⟩ := h
    rw [show L2.start N_tie_due [V.int (tn.length : Nat), v, V.ref l, V.ref l2, V.bl r] = [some (.int (tn.length : Nat)), some v, some (.ref l), some (.ref l2), some (.bl r), none, none, none] from rfl]
    have bad : ∀ {H' : Hp} {p : Addr} {wt wo : Str}, Same H H' → H' p = none → WrT r ns tn d wt wo → Q (.ref p) (upd H' p (.tup [.str wt, .str wo])) := fun s' np w => q _ _ (s'.trans (same_new np)) (.bad w upd_same)
    have num : ((tn.length : Nat) : Int).natAbs.log2 < 1920 := num_small l1000
    refine ⟨fun σ H' => H' = H ∧ ∃ t u1 u2 u3 u4 u5 d1 d2 d3 d4 d5, v = .ref t ∧ d = .tuple [d1, d2, d3, d4, d5] ∧ SqT K H t [u1, u2, u3, u4, u5] ∧ Dx H u1 d1 ∧ Dx H u2 d2 ∧ Dx H u3 d3 ∧ Dx H u4 d4 ∧ Dx H u5 d5 ∧ σ = [some (.int (tn.length : Nat)), some v, some (.ref l), some (.ref l2), some (.bl r), none, none, none], ?_, ?_⟩
    · refine ⟨_, rfl, _, _, _, _, _, rfl, .ty _, th_ty (.dx hd), kit_ty (kt_tup d), _, rfl, ?_⟩
      by_cases tp : isTup d = true
      · obtain ⟨t, us, es, rfl, rfl, ht, hus⟩ : ∃ t us es, v = .ref t ∧ d = .tuple es ∧ SqT K H t us ∧ DxAll H us es := by
          cases hd with
          | tup e r n => exact ⟨_, _, _, rfl, rfl, SqT.of e, r⟩
          | tupy e r n => exact ⟨_, _, _, rfl, rfl, e.sq, r⟩
          | _ => cases tp
        have lu := dxall_len hus
        refine iteF ⟨_, rfl, t, us, rfl, .inr ht, rfl, _, rfl, ?_⟩
        by_cases l5 : us.length = 5
        · rw [decide_eq_true (congrArg V.int (show ((us.length : Nat) : Int) = 5 by omega))]
          obtain ⟨u1, u2, u3, u4, u5, rfl⟩ : ∃ u1 u2 u3 u4 u5, us = [u1, u2, u3, u4, u5] := match us, l5 with | [a, b, c, e, f], _ => ⟨a, b, c, e, f, rfl⟩
          cases hus with
          | cons h1 hus =>
            cases hus with
            | cons h2 hus =>
              cases hus with
              | cons h3 hus =>
                cases hus with
                | cons h4 hus =>
                  cases hus with
                  | cons h5 hus =>
                    cases hus
                    exact iteF ⟨rfl, t, u1, u2, u3, u4, u5, _, _, _, _, _, rfl, rfl, ht, h1, h2, h3, h4, h5, rfl⟩
        · rw [decide_eq_false fun x => l5 (by have := V.int.inj x; omega)]
          refine iteT ⟨_, rfl, _, rfl, num, by show 2 ≤ sizeLine; decide, fun p np => bad (fun _ _ e => e) np (.tie fun a b c e f x => ?_)⟩
          cases x
          exact absurd lu (by simpa using l5)
      · rw [Bool.not_eq_true] at tp
        rw [tp]
        refine iteT ⟨_, rfl, _, rfl, num, by show 2 ≤ sizeLine; decide, fun p np => bad (fun _ _ e => e) np (.tie fun a b c e f x => ?_)⟩
        rw [x] at tp
        cases tp
    rintro σ H' ⟨rfl, t, u1, u2, u3, u4, u5, d1, d2, d3, d4, d5, rfl, rfl, ht, h1, h2, h3, h4, h5, rfl⟩
    simp only [PyData.bulk, PyData.bulkAll] at bk
    refine ⟨fun σ H2 => nameB d1 = true ∧ Same H' H2 ∧ σ = [some (.int (tn.length : Nat)), some (.ref t), some (.ref l), some (.ref l2), some (.bl r), none, none, none], ?_, ?_⟩
    · refine ⟨_, rfl, t, _, 0, _, rfl, rfl, ht, rfl, u1, d1, rfl, h1, small_of (b := 1000) (by omega), fun H2 s2 => ⟨_, rfl, ?_⟩⟩
      by_cases hn : nameB d1 = true
      · rw [hn]
        exact iteF ⟨rfl, s2, rfl⟩
      · rw [Bool.not_eq_true] at hn
        rw [hn]
        exact iteT ⟨_, rfl, _, rfl, num, by show 2 ≤ sizeLine; decide, fun p np => bad s2 np (.name hn)⟩
    rintro σ H2 ⟨hn, s2, rfl⟩
    obtain ⟨z, rfl⟩ := name_str hn
    cases h1
    have ht2 := SqT.same ht s2
    have hl2' := s2 _ _ hl2
    refine ⟨fun σ H3 => z ∉ ns ∧ z ∉ tn ∧ H3 = H2 ∧ σ = [some (.int (tn.length : Nat)), some (.ref t), some (.ref l), some (.ref l2), some (.bl r), none, none, none], ?_, ?_⟩
    · refine ⟨_, rfl, t, _, 0, _, rfl, rfl, ht2, rfl, _, rfl, l2, _, rfl, .inl (SqL.of hl2'), rfl, flat_strs _, _, rfl, ?_⟩
      rw [if_neg Bool.false_ne_true, inV_strs]
      refine ite2 (fun hin => ?_) (fun hin => ⟨fun w => hin (decide_eq_true (List.mem_append_left _ w)), fun w => hin (decide_eq_true (List.mem_append_right _ w)), rfl, rfl⟩)
      exact ⟨_, rfl, t, _, 0, _, rfl, rfl, ht2, rfl, by show 2 ≤ sizeLine; decide, fun p np => bad s2 np (.again hn (List.mem_append.mp (of_decide_eq_true hin)))⟩
    rintro σ H3 ⟨f1, f2, rfl, rfl⟩
    refine ⟨fun σ H4 => endsB ns d2 d3 = true ∧ Same H' H4 ∧ ∃ x7, σ = [some (.int (tn.length : Nat)), some (.ref t), some (.ref l), some (.ref l2), some (.bl r), none, none, x7], ?_, ?_⟩
    · refine ⟨_, rfl, _, rfl, _, rfl, t, _, rfl, ht2, ?_, fun p np => ?_⟩
      · show ¬ (HT.sIx 5 0 (some 1) = 0 ∧ HT.sIx 5 5 (some 3) = 5)
        decide +kernel
      have ec : cutV [V.str z, u2, u3, u4, u5] (some 1) (some 3) = [u2, u3] := rfl
      rw [ec]
      have s4 := s2.trans (same_new (o := .tup [u2, u3]) np)
      have hl4 := s4 _ _ hl
      have e2 := Dx.same s4 _ _ h2
      have e3 := Dx.same s4 _ _ h3
      have ht4 := SqT.same ht s4
      have hp4 : (upd H3 p (.tup [u2, u3])) p = some (.tup [u2, u3]) := upd_same
      generalize upd H3 p (.tup [u2, u3]) = H4 at s4 hl4 e2 e3 ht4 hp4 ⊢
      refine ⟨p, rfl, ⟨_, SqT.of hp4⟩, fun D nD => ?_⟩
      refine lc_it (walk_tup (xs := [u2, u3])) (fun i H5 => Same H4 (Off D H5) ∧ H5 D = some (.lst ((([endIn ns d2, endIn ns d3]).take i).map V.bl))) ⟨fun b o e => Off.at (ne_of_none e nD) (same_new nD _ _ e), upd_same⟩ (fun i H5 _ hh => SqT.of (Off.same _ _ (hh.1 _ _ hp4))) ?_ ?_
      · rintro i x H5 H6 hi ⟨sm5, hD⟩ ⟨rfl, hxi⟩
        refine ⟨rfl, ?_⟩
        dsimp only [tYes]
        rw [if_pos rfl]
        obtain ⟨d, hd, hx, bkd⟩ : ∃ d, ([d2, d3] : List PyData)[i]? = some d ∧ Dx H4 x d ∧ d.bulk ≤ 1000 := by
          match i, hi, hxi with
          | 0, _, h => cases h; exact ⟨_, rfl, e2, by omega⟩
          | 1, _, h => cases h; exact ⟨_, rfl, e3, by omega⟩
        have h6 := Dx.same (fun b o e => Off.same _ _ (sm5 b o e)) _ _ hx
        have fin : ∀ (b : Bool) (H7 : Hp), b = endIn ns d → Same H6 H7 → ∃ acc, H7 D = some (.lst acc) ∧ acc.length < sizeLine ∧ (Same H4 (Off D (upd H7 D (.lst (acc ++ [V.bl b])))) ∧ (upd H7 D (.lst (acc ++ [V.bl b]))) D = some (.lst ((([endIn ns d2, endIn ns d3]).take (i + 1)).map V.bl))) := fun b H7 e s7 => by
          refine ⟨_, s7 _ _ hD, ?_, fun b' o e' => ?_, ?_⟩
          · rw [List.length_map]
            have := List.length_take_le i [endIn ns d2, endIn ns d3]
            exact small1000 (by simp at this ⊢; omega)
          · have nb : b' ≠ D := ne_of_none e' nD
            exact Off.at nb (by rw [upd_ne nb]; exact s7 _ _ (Off.same _ _ (sm5 b' o e')))
          · rw [upd_same, e]
            match i, hi, hd with
            | 0, _, h => cases h; rfl
            | 1, _, h => cases h; rfl
        refine ⟨_, rfl, x, d, rfl, h6, small_of bkd, fun H7 s7 => ⟨_, rfl, ?_⟩⟩
        by_cases nb : nameB d = true
        · rw [nb]
          obtain ⟨y, rfl⟩ := name_str nb
          cases h6
          refine iteT ⟨_, rfl, _, rfl, l, _, rfl, .inl (SqL.of (s7 _ _ (Off.same _ _ (sm5 _ _ hl4)))), rfl, flat_strs _, ?_⟩
          rw [if_neg Bool.false_ne_true, inV_strs]
          exact fin _ _ rfl s7
        · rw [Bool.not_eq_true] at nb
          rw [nb]
          refine iteF (fin _ _ ?_ s7)
          cases d with
          | str y => exact (decide_eq_false fun w => by rw [of_name (nms _ w)] at nb; cases nb).symm
          | _ => rfl
      · rintro H5 ⟨sm5, hD⟩
        have s5 : Same H4 H5 := fun b o e => Off.same _ _ (sm5 b o e)
        refine ⟨D, [endIn ns d2, endIn ns d3], rfl, SqL.of hD, _, rfl, ?_⟩
        show (if (!(endIn ns d2 && (endIn ns d3 && true))) = true then _ else _)
        rw [Bool.and_true]
        have no : endsB ns d2 d3 = false → ∀ p', H5 p' = none → Q (.ref p') (upd H5 p' (.tup [.str "ends", .str z])) := fun he p' np' => bad (s4.trans s5) np' (.ends hn f1 f2 he)
        by_cases hb : (endIn ns d2 && endIn ns d3) = true
        · rw [hb]
          rw [Bool.and_eq_true] at hb
          obtain ⟨y2, rfl⟩ : ∃ y, d2 = .str y := by
            cases d2 with
            | str y => exact ⟨y, rfl⟩
            | _ => cases hb.1
          obtain ⟨y3, rfl⟩ : ∃ y, d3 = .str y := by
            cases d3 with
            | str y => exact ⟨y, rfl⟩
            | _ => cases hb.2
          cases h2
          cases h3
          have ht5 := SqT.same ht4 s5
          refine iteF ⟨_, rfl, t, _, 1, _, rfl, rfl, ht5, rfl, _, rfl, t, _, 2, _, rfl, rfl, ht5, rfl, rfl, _, rfl, ?_⟩
          by_cases ey : y2 = y3
          · rw [decide_eq_true (congrArg V.str ey)]
            exact iteT ⟨_, rfl, t, _, 0, _, rfl, rfl, ht5, rfl, by show 2 ≤ sizeLine; decide, no (by rw [ey]; exact ends_same)⟩
          · rw [decide_eq_false fun x => ey (V.str.inj x)]
            exact iteF ⟨of_ends (of_decide_eq_true hb.1) (of_decide_eq_true hb.2) ey, s4.trans s5, _, rfl⟩
        · rw [Bool.not_eq_true] at hb
          rw [hb]
          exact iteT ⟨_, rfl, t, _, 0, _, rfl, rfl, SqT.same ht4 s5, rfl, by show 2 ≤ sizeLine; decide, no (ends_no hb)⟩
    rintro σ H4 ⟨he, s4, x7, rfl⟩
    have ht4 := SqT.same ht s4
    refine ⟨_, _, rfl, rfl, ⟨by decide, by decide, by decide⟩, by show 2 ≤ sizeLine; decide, fun p1 n1 => ?_⟩
    refine ⟨by show 2 ≤ sizeLine; decide, fun p2 n2 => ?_⟩
    refine ⟨by show 2 ≤ sizeLine; decide, fun l3 n3 => ?_⟩
    have n2 : (upd H4 p1 (.tup [.int 2, .int (10 ^ Int.toNat 30)])) p2 = none := n2
    have n3 : (upd (upd H4 p1 (.tup [.int 2, .int (10 ^ Int.toNat 30)])) p2 (.tup [.int 1, .int 1])) l3 = none := n3
    obtain ⟨a1, m1⟩ := fresh2 (o := .tup [.int 2, .int (10 ^ Int.toNat 30)]) n1
    obtain ⟨a2, m2⟩ := fresh2 (o := .tup [.int 1, .int 1]) n2
    obtain ⟨a3, m3⟩ := fresh2 (o := .lst [.ref p1, .ref p2]) n3
    have s5 := s4.trans (a1.trans (a2.trans a3))
    have ht5 := SqT.same ht4 (a1.trans (a2.trans a3))
    have hp1 := a3 _ _ (a2 _ _ m1)
    have hp2 := a3 _ _ m2
    have e4 := Dx.same s5 _ _ h4
    have e5 := Dx.same s5 _ _ h5
    refine ⟨_, rfl, .inr ⟨r, rfl, l3, [.ref p1, .ref p2], _, .ref (if r = true then p2 else p1), rfl, rfl, SqL.of m3, ?_, ?_⟩⟩
    · cases r <;> rfl
    refine ⟨if r = true then p2 else p1, [.int (if r = true then 1 else 2), .int (if r = true then 1 else 10 ^ 30)], rfl, ?_, rfl, _, _, rfl, _, _, rfl, rfl, ?_⟩
    · cases r
      · exact SqT.of hp1
      · exact SqT.of hp2
    have rl : ∀ d, rngB (if r = true then 1 else 2) (if r = true then 1 else 10 ^ 30) d = lenB r d := fun d => by cases r <;> rfl
    simp only [List.set]
    generalize (upd (upd (upd H4 p1 (.tup [.int 2, .int (10 ^ Int.toNat 30)])) p2 (.tup [.int 1, .int 1])) l3 (.lst [.ref p1, .ref p2])) = H5 at m3 s5 ht5 hp1 hp2 e4 e5 ⊢
    refine ⟨fun σ H6 => lenB r d4 = true ∧ H6 = H5 ∧ ∃ x5 x6 x7, σ = [some (.int (tn.length : Nat)), some (.ref t), some (.ref l), some (.ref l2), some (.bl r), x5, x6, x7], ?_, ?_⟩
    · refine ⟨_, rfl, t, _, 3, _, rfl, rfl, ht5, rfl, _, rfl, _, rfl, _, d4, _, _, rfl, e4, ?_⟩
      rw [rl]
      refine ⟨_, rfl, ?_⟩
      by_cases hl' : lenB r d4 = true
      · rw [hl']
        exact iteF ⟨rfl, rfl, _, _, _, rfl⟩
      · rw [Bool.not_eq_true] at hl'
        rw [hl']
        exact iteT ⟨_, rfl, t, _, 0, _, rfl, rfl, ht5, rfl, by show 2 ≤ sizeLine; decide, fun p np => bad s5 np (.length hn f1 f2 he hl')⟩
    rintro σ H6 ⟨hl', rfl, x5, x6, x8, rfl⟩
    obtain ⟨L, rfl⟩ := len_str hl'
    cases h4
    refine ⟨_, rfl, t, _, 4, _, rfl, rfl, ht5, rfl, _, rfl, t, _, 3, _, rfl, rfl, ht5, rfl, _, rfl, _, d5, L, r, rfl, e5, fun e => ?_, fun H7 s7 => ⟨_, rfl, ?_⟩⟩
    · rw [e] at hl'
      exact len_int.mp hl'
    · cases hh : hearOf L d5 with
      | none => exact iteF ⟨_, rfl, t, _, 0, _, rfl, rfl, SqT.same ht5 s7, rfl, by show 2 ≤ sizeLine; decide, fun p np => bad (s5.trans s7) np (.hearers hn f1 f2 he hl' hh)⟩
      | some hs =>
        obtain ⟨rfl, hr'⟩ := hear_hs hh
        obtain ⟨y, y2, rfl, rfl, g1, g2, g3⟩ := ends_str he
        exact iteT (q _ _ (s5.trans s7) (.good (t := ⟨z, y, y2, L, hs⟩) rfl ⟨name_of hn, g1, g2, g3, len_int.mp hl', hr'⟩ f1 f2))
end
end Cw
namespace Cw
open PySem PySem.Spec PyProof.Rows L2
/-- a list, or a tuple, walked -/
def iSeq2 (K : PySem.W.Frag) (tl : TE) : TI := fun σ H R => tl σ H fun x H1 => ∃ a, x = .ref a ∧ (((∃ xs, SqL K H1 a xs) ∧ R (Itl K a) H1) ∨ ((∃ xs, SqT K H1 a xs) ∧ R (Itt K a) H1))
theorem pi_seq2 {X : Cx} {tg : Expr} {l : Expr} {tl : TE} (hl : PE X l tl) : PI X tg l (iSeq2 X.K tl) := by
  refine ⟨fun pins s σ H R I h => ?_⟩
  refine thn (hl.run pins s σ H _ I h) fun v s1 ⟨x, H1, I1, r1, q1⟩ => ?_
  obtain ⟨a, e, q⟩ := q1
  subst e
  cases r1
  rcases q with ⟨⟨xs, hq⟩, q⟩ | ⟨⟨xs, hq⟩, q⟩
  · obtain ⟨its, rv, p, hz⟩ := I1.list hq
    refine wpAny_pyIter_list p.isList ?_
    refine ⟨s1.heap.objs.size, [s1.heap.objs.size], _, _, H1, rfl, I1.kept (t' := s1.toks) fun b o e => Heap.get?_push_of_some _ e, turn_list a _, ⟨_, Heap.get?_push_size _ rfl, rfl, rfl⟩, fun b hb => ?_, q⟩
    have e : b = s1.heap.objs.size := by simpa using hb
    subst e
    exact I1.fpOk (Nat.le_refl _) (I1.hok.fresh (Nat.le_refl _))
  · obtain ⟨its, rv, p, hz⟩ := I1.tuple hq
    refine wpAny_pyIter_tuple (show s1.heap.IsTuple a its.toArray from p) ?_
    refine ⟨s1.heap.objs.size, [s1.heap.objs.size], _, _, H1, rfl, I1.kept (t' := s1.toks) fun b o e => Heap.get?_push_of_some _ e, turn_tuple a _, ⟨_, Heap.get?_push_size _ rfl, rfl, rfl⟩, fun b hb => ?_, q⟩
    have e : b = s1.heap.objs.size := by simpa using hb
    subst e
    exact I1.fpOk (Nat.le_refl _) (I1.hok.fresh (Nat.le_refl _))
theorem folk_nil : Folk [] := ⟨List.nodup_nil, fun _ h => (by cases h), fun _ h => (by cases h)⟩
theorem ties0_nil {r : Bool} {fs : List (Str × Int)} (fo : Folk fs) : Ties0 r fs [] := ⟨fun _ h => (by cases h), by simpa using fo.nd⟩
/-- how many hearers each tie has -/
theorem lens_lc {K : PySem.W.Frag} {x0 x1 x2 x3 x4 x5 x6 x7 x8 : Option V} {J : It} {G : Hp → Prop} {zs : List V} (w : Walk J zs.length G (YAt zs)) {H1 : Hp} {D : Addr} {ts : List Tie} {Qd : Hp → Prop} (nD : H1 D = none) (hG : ∀ H, Same H1 H → G H) (hx : DxAll H1 zs (ts.map dTie)) (hn : ts.length ≤ 1000)
    (q : ∀ H', Same H1 H' → H' D = some (.lst ((ts.map fun t => (t.hs.length : Int)).map V.int)) → Qd H') :
    LcD J (gName 8) tYes (tCB (rLenK K) (tCons (tOp (rIxT K) (tVar 8) (tC (.int 4))) tNil)) [8] [x0, x1, x2, x3, x4, x5, x6, x7, x8] H1 D Qd := by
  have lz : zs.length = ts.length := by
    have := dxall_len hx
    rw [List.length_map] at this
    exact this
  refine lc_map w (ys := (ts.map fun t => (t.hs.length : Int)).map V.int) nD hG (by rw [List.length_map, List.length_map, lz]) (by omega) ?_ q
  intro i x y H2 k hxi hyi s2 hk
  have hi : i < ts.length := by
    have := (List.getElem?_eq_some_iff.mp hxi).1
    omega
  obtain ⟨x', e1, e2⟩ := dxall_get (i := i) hx (by rw [List.getElem?_map, List.getElem?_eq_getElem hi]; rfl)
  have exy : x = x' := Option.some.inj (hxi.symm.trans e1)
  subst exy
  obtain ⟨t, vh, rfl, ht, hvh⟩ := dx_tie (Dx.same s2 _ _ e2)
  obtain ⟨ah, us, rfl, hah, hus⟩ := dx_hs hvh
  have lu := dxall_len hus
  rw [List.length_map] at lu
  have ey : y = .int (us.length : Nat) := by
    rw [List.map_map, List.getElem?_map, List.getElem?_eq_getElem hi] at hyi
    rw [lu]
    exact (Option.some.inj hyi).symm
  refine ⟨rfl, _, rfl, t, _, 4, _, rfl, rfl, SqT.of ht, rfl, ah, us, rfl, .inr hah.sq, ?_⟩
  rw [← ey]
  exact hk H2 fun _ _ e => e
/-- what is due of a web -/
inductive DueW (r : Bool) (d e : PyData) (H : Hp) : V → Prop
  | good {fs : List (Str × Int)} {ts : List Tie} : d = dFolk fs → (e = .list (ts.map dTie) ∨ (e = .tuple [] ∧ ts = [])) → Specs r fs ts → DueW r d e H .non
  | bad {p : Addr} {wt wo : Str} : WebBad r d e wt wo → H p = some (.tup [.str wt, .str wo]) → DueW r d e H (.ref p)
section
variable {P : Program} {w : World} {K : PySem.W.Frag} {mg : Str → Option Value} {base : Heap} {C NS NW0 : Addr}
def spDue : Sp := fun vs H Q _ => ∃ (v u : V) (d e : PyData) (r : Bool), vs = [v, u, .bl r] ∧ Dx H v d ∧ Dx H u e ∧ Few d ∧ Few e ∧ ∀ x H', Same H H' → DueW r d e H' x → Q x H'
theorem ok_due {f : Addr} {fd : FuncData} (F : FnP K "_law_due" "_law_due" S_due f fd) (H_person_due : Has P w K mg base "_law_person_due" S_person_due 2 P_person_due spPDue) (H_tie_due : Has P w K mg base "_law_tie_due" S_tie_due 3 P_tie_due spTDue) (B : Blt mg) : FnOk P w K mg base CX0 4 f fd P_due spDue := by
  obtain ⟨f_person_due, fd_person_due, F_person_due, b_person_due, G_person_due, g_person_due⟩ := H_person_due
  obtain ⟨f_tie_due, fd_tie_due, F_tie_due, b_tie_due, G_tie_due, g_tie_due⟩ := H_tie_due
  have nd := sc_due.nd
  refine F.ok sc_due (fun vs H Q E h => ?_) (fun cdv A outer s H vs Q E hr h => ⟨_, PSs.nox (C8.pss_cut (ps_if (pt_not (pt_val (pe_callB call_isi (by rfl) B.isinstance_ (by decide +kernel) (pa_cons (pv 0) (pa_cons (pe_bltn (v := .ty "list") (u := .type "list") (by rfl) B.list_ (by decide +kernel) rfl) pa_nil))))) (pss_one (ps_ret (pe_tup (pa_cons pe_str (pa_cons pe_str pa_nil))))) pss_nil)
     (pss_cons (ps_set (i := 3) nd rfl (.inl rfl) (pe_lst pa_nil))
     (C8.pss_cut (ps_for PassesOwn.never rfl (pi_enum (by rfl) B.enumerate_ (pa_cons (pv 0) pa_nil)) (pg_tup (by rfl) (pgs_cons (pg_name (i := 4) nd rfl (.inl rfl)) (pgs_cons (pg_name (i := 5) nd rfl (.inl rfl)) pgs_nil)))
      (pss_cons (ps_set (i := 6) nd rfl (.inl rfl) (pe_call G_person_due (hr.mono (by first | decide | omega)) rfl g_person_due F_person_due.kp b_person_due .nil pass0 (pa_cons (pv 4) (pa_cons (pv 5) (pa_cons (pv 3) pa_nil)))))
     (C8.pss_cut (ps_if (pt_cmpR op_notN (pv 6) pe_non (nomark _)) (pss_one (ps_ret (pv 6))) pss_nil)
     (pss_one (ps_expr (pe_bm PySem.F.plainAttrs_list PySem.F.slot_list_append PySem.F.type_list_append mt_append (pv 3) (pa_cons (pe_ix ix_tup (pv 5) pe_int (fun _ _ => rfl)) pa_nil)))))))
     (C8.pss_cut (ps_if (pt_not (pt_chain op_le op_le pe_int (pe_callB call_len_seq (by rfl) B.len_ PySem.boot_len (pa_cons (pv 3) pa_nil)) pe_int)) (pss_one (ps_ret (pe_tup (pa_cons pe_str (pa_cons pe_str pa_nil))))) pss_nil)
     (C8.pss_cut (ps_if (PW.pt (pw_and (pt_not (pt_val (pe_callB call_isi (by rfl) B.isinstance_ (by decide +kernel) (pa_cons (pv 1) (pa_cons (pe_bltn (v := .ty "list") (u := .type "list") (by rfl) B.list_ (by decide +kernel) rfl) pa_nil))))) (pw_and1 (pt_cmpR (op_neNilT (hu_of hr)) (pv 1) pe_tupZ (nomark _))))) (pss_one (ps_ret (pe_tup (pa_cons pe_str (pa_cons pe_str pa_nil))))) pss_nil)
     (pss_cons (ps_set (i := 7) nd rfl (.inl rfl) (pe_callTy call_list_of (by rfl) B.list_ (by decide +kernel) (pa_cons (pv 3) pa_nil)))
     (C8.pss_cut (ps_for PassesOwn.never rfl (pi_enum2 (by rfl) B.enumerate_ (pa_cons (pv 1) pa_nil)) (pg_tup (by rfl) (pgs_cons (pg_name (i := 4) nd rfl (.inl rfl)) (pgs_cons (pg_name (i := 5) nd rfl (.inl rfl)) pgs_nil)))
      (pss_cons (ps_set (i := 6) nd rfl (.inl rfl) (pe_call G_tie_due (hr.mono (by first | decide | omega)) rfl g_tie_due F_tie_due.kp b_tie_due .nil pass0 (pa_cons (pv 4) (pa_cons (pv 5) (pa_cons (pv 3) (pa_cons (pv 7) (pa_cons (pv 2) pa_nil)))))))
     (C8.pss_cut (ps_if (pt_cmpR op_notN (pv 6) pe_non (nomark _)) (pss_one (ps_ret (pv 6))) pss_nil)
     (pss_one (ps_expr (pe_bm PySem.F.plainAttrs_list PySem.F.slot_list_append PySem.F.type_list_append mt_append (pv 7) (pa_cons (pe_ix ix_tup (pv 5) pe_int (fun _ _ => rfl)) pa_nil)))))))
     (C8.pss_cut (ps_if (pt_cmpR op_gt (pe_callB call_len_seq (by rfl) B.len_ PySem.boot_len (pa_cons (pv 1) pa_nil)) pe_int (nomark _)) (pss_one (ps_ret (pe_tup (pa_cons pe_str (pa_cons pe_str pa_nil))))) pss_nil)
     (pss_one (ps_ret (pe_ifExp (pt_cmpR op_gt (pe_callB (cr_sum rfl) (by rfl) B.sum_ (by decide +kernel) (pa_cons (pe_lc (own := [("_law_tie_here", 8)]) (g := gName 8) rfl nd (pi_seq2 (pv 1)) (blkOk_by (own := [("_law_tie_here", 8)]) (N := N_due) (sc := defScope S_due) (by decide +kernel)) (fun _ _ _ _ _ => (pg_name (i := 8) nd rfl (.inl rfl))) (fun _ _ _ _ _ => pts_nil) (fun _ _ _ _ _ => (pe_callB (call_lenK (K := K) rfl) (by rfl) B.len_ PySem.boot_len (pa_cons (pe_ix (ix_tupK (K := K) rfl) (pv 8) pe_int (fun _ _ => rfl)) pa_nil)))) pa_nil)) pe_int (nomark _)) (pe_tup (pa_cons pe_str (pa_cons pe_str pa_nil))) pe_non))))))))))), ?_⟩)
  · obtain ⟨v, u, d, e, r, rfl, _⟩ := h
    rfl
  · obtain ⟨v, u, d, e, r, rfl, hd, he, fd', fe', q⟩ := h
    rw [show L2.start N_due [v, u, V.bl r] = [some v, some u, some (.bl r), none, none, none, none, none, none] from rfl]
    have bad : ∀ {H' : Hp} {p : Addr} {wt wo : Str}, Same H H' → H' p = none → WebBad r d e wt wo → Q (.ref p) (upd H' p (.tup [.str wt, .str wo])) := fun s' np w => q _ _ (s'.trans (same_new np)) (.bad w upd_same)
    refine ⟨fun σ H' => H' = H ∧ ∃ a xs ds, v = .ref a ∧ d = .list ds ∧ H a = some (.lst xs) ∧ DxAll H xs ds ∧ σ = [some v, some u, some (.bl r), none, none, none, none, none, none], ?_, ?_⟩
    · refine ⟨_, rfl, _, _, _, _, _, rfl, .ty _, th_ty (.dx hd), kit_ty (kt_lst d), _, rfl, ?_⟩
      cases hd with
      | lst ha hx => exact iteF ⟨rfl, _, _, _, rfl, rfl, ha, hx, rfl⟩
      | _ => exact iteT ⟨by show 2 ≤ sizeLine; decide, fun p np => bad (fun _ _ e => e) np (.inl (.inl ⟨fun ds e => (by cases e), rfl, rfl⟩))⟩
    rintro σ H' ⟨rfl, a, xs, ds, rfl, rfl, ha, hx, rfl⟩
    obtain ⟨l1000, small⟩ := fd' _ rfl
    have lx := dxall_len hx
    refine ⟨Nat.zero_le _, fun ln nln => ?_⟩
    simp only [List.set]
    refine ⟨fun σ H2 => ∃ fs : List (Str × Int), ds = fs.map dPer ∧ Folk fs ∧ Same H' (Off ln H2) ∧ H2 ln = some (.lst ((fs.map (·.1)).map V.str)) ∧ ∃ x4 x5 x6 x7 x8, σ = [some (.ref a), some u, some (.bl r), some (.ref ln), x4, x5, x6, x7, x8], ?_, ?_⟩
    · refine ⟨_, rfl, a, xs, rfl, SqL.of (same_new nln _ _ ha), ?_⟩
      refine for_it (walk_enum (xs := xs)) (fun i σ H2 => ∃ fs : List (Str × Int), fs.length = i ∧ ds.take i = fs.map dPer ∧ Folk fs ∧ Same H' (Off ln H2) ∧ H2 ln = some (.lst ((fs.map (·.1)).map V.str)) ∧ ∃ x4 x5 x6 x7 x8, σ = [some (.ref a), some u, some (.bl r), some (.ref ln), x4, x5, x6, x7, x8])
        ⟨[], rfl, rfl, folk_nil, fun b o e => Off.at (ne_of_none e nln) (same_new nln _ _ e), upd_same, none, none, none, none, none, rfl⟩ (fun i σ H2 _ h => by obtain ⟨_, _, _, _, sm, _⟩ := h; exact SqL.of (Off.same _ _ (sm _ _ ha))) ?_ ?_
      · rintro i x σ H2 H3 hi ⟨fs, rfl, tk, fo, sm, hl, x4, x5, x6, x7, x8, rfl⟩ ⟨tt, w1, y, rfl, nt, rfl, hu1, hxi⟩
        cases hu1
        obtain ⟨s3, m3⟩ := fresh2 (o := .tup [V.int (fs.length : Nat), y]) nt
        have s03 : Same H' (upd H2 tt (.tup [V.int (fs.length : Nat), y])) := fun b o e => s3 _ _ (Off.same _ _ (sm b o e))
        have so3 : Same H' (Off ln (upd H2 tt (.tup [V.int (fs.length : Nat), y]))) := fun b o e => Off.at (ne_of_none e nln) (s03 _ _ e)
        have hl3 := s3 _ _ hl
        generalize upd H2 tt (.tup [V.int (fs.length : Nat), y]) = H3 at s3 m3 s03 so3 hl3 ⊢
        have hi3 : fs.length < ds.length := by omega
        obtain ⟨y', e1, de0⟩ := dxall_get (i := fs.length) hx (List.getElem?_eq_getElem hi3)
        have exy : y = y' := Option.some.inj (hxi.symm.trans e1)
        subst exy
        have tk2 : ds.take (fs.length + 1) = fs.map dPer ++ [ds[fs.length]] := by rw [List.take_add_one, List.getElem?_eq_getElem hi3, tk]; rfl
        have dr : ds = fs.map dPer ++ ds[fs.length] :: ds.drop (fs.length + 1) := by rw [← tk, ← List.drop_eq_getElem_cons hi3, List.take_append_drop]
        have bk := small _ (List.getElem_mem hi3)
        generalize ds[fs.length] = e3 at de0 tk2 dr bk
        have de := Dx.same s03 _ _ de0
        refine ⟨tt, _, rfl, SqT.of m3, rfl, _, _, rfl, _, _, rfl, rfl, ?_⟩
        simp only [List.set]
        refine ⟨_, rfl, _, rfl, _, rfl, y, e3, ln, fs, rfl, by omega, de, bk, hl3, fun x6 H4 s4 due => ?_⟩
        simp only [List.set]
        refine ⟨fun σ H5 => H5 = H4 ∧ (∃ x : Str × Int, e3 = dPer x ∧ IsName x.1 ∧ x.1 ∉ fs.map (·.1) ∧ 0 ≤ x.2 ∧ x.2 ≤ 2) ∧ σ = [some (.ref a), some u, some (.bl r), some (.ref ln), some (.int (fs.length : Nat)), some y, some x6, x7, x8], ?_, ?_⟩
        · refine ⟨_, rfl, rfl, _, rfl, ?_⟩
          cases due with
          | good h1 h2 h3 h4 h5 => exact iteF ⟨rfl, ⟨_, h1, h2, h3, h4, h5⟩, rfl⟩
          | bad h1 h2 => exact iteT ⟨_, rfl, q _ _ (s03.trans s4) (.bad (.inl (.inr (.inl ⟨fs, e3, _, congrArg PyData.list dr, fo, h1⟩))) h2)⟩
        rintro σ H5 ⟨rfl, ⟨x, rfl, g1, g2, g3, g4⟩, rfl⟩
        have hl4 := s4 _ _ hl3
        obtain ⟨t, rfl, ht⟩ := dx_per de
        refine ⟨_, rfl, .inl ⟨rfl, _, SqL.of hl4⟩, _, rfl, t, _, 0, _, rfl, rfl, SqT.of (s4 _ _ ht), rfl, ?_⟩
        refine ⟨ln, _, _, rfl, rfl, hl4, by rw [List.length_map, List.length_map]; exact small1000 (by omega), fs ++ [x], by rw [List.length_append]; rfl, by rw [tk2, List.map_append]; rfl, folk_snoc fo g1 g2 g3 g4, fun b o e => ?_, ?_, _, _, _, _, _, rfl⟩
        · have nb := ne_of_none e nln
          exact Off.at nb (by rw [upd_ne nb]; exact s4 _ _ (s03 _ _ e))
        · rw [upd_same, List.map_append, List.map_append]
          rfl
      · rintro σ H2 ⟨fs, lf, tk, fo, sm, hl, st⟩
        rw [List.take_of_length_le (by omega)] at tk
        exact ⟨fs, tk, fo, sm, hl, st⟩
    rintro σ H2 ⟨fs, rfl, fo, sm, hl, x4, x5, x6, x7, x8, rfl⟩
    have s2 : Same H' H2 := fun b o e => Off.same _ _ (sm b o e)
    simp only [List.length_map] at l1000
    refine ⟨fun σ H3 => H3 = H2 ∧ 1 ≤ fs.length ∧ fs.length ≤ 8 ∧ σ = [some (.ref a), some u, some (.bl r), some (.ref ln), x4, x5, x6, x7, x8], ?_, ?_⟩
    · have no : ¬ (1 ≤ fs.length ∧ fs.length ≤ 8) → ∀ p, H2 p = none → Q (.ref p) (upd H2 p (.tup [.str "many", .str "persons"])) := fun n p np => bad s2 np (.inl (.inr (.inr ⟨fs, rfl, fo, n, rfl, rfl⟩)))
      refine ⟨_, rfl, ln, _, rfl, .inl (SqL.of hl), _, _, rfl, rfl, _, rfl, ?_⟩
      have ll : (((fs.map (·.1)).map V.str).length : Int) = (fs.length : Nat) := by rw [List.length_map, List.length_map]
      rw [ll]
      by_cases c1 : (1 : Int) ≤ ((fs.length : Nat) : Int)
      · rw [if_pos (decide_eq_true c1)]
        refine ⟨_, _, rfl, rfl, _, rfl, ?_⟩
        by_cases c2 : ((fs.length : Nat) : Int) ≤ 8
        · rw [decide_eq_true c2]
          exact iteF ⟨rfl, by omega, by omega, rfl⟩
        · rw [decide_eq_false c2]
          exact iteT ⟨by show 2 ≤ sizeLine; decide, no (by omega)⟩
      · rw [if_neg (by rw [decide_eq_false c1]; exact Bool.false_ne_true)]
        exact ⟨false, rfl, iteT ⟨by show 2 ≤ sizeLine; decide, no (by omega)⟩⟩
    rintro σ H3 ⟨rfl, f1, f8, rfl⟩
    have he3 := Dx.same s2 _ _ he
    refine ⟨fun σ H4 => Same H3 H4 ∧ (isLst e = true ∨ isNilT e = true) ∧ σ = [some (.ref a), some u, some (.bl r), some (.ref ln), x4, x5, x6, x7, x8], ?_, ?_⟩
    · refine ⟨_, rfl, _, _, _, _, _, rfl, .ty _, th_ty (.dx he3), kit_ty (kt_lst e), _, rfl, ?_⟩
      by_cases el : isLst e = true
      · rw [el]
        exact iteF ⟨fun _ _ e => e, .inl rfl, rfl⟩
      · rw [Bool.not_eq_true] at el
        rw [el]
        refine iteT ⟨_, rfl, fun p o np dn => ?_⟩
        have s1 := same_new (o := .frz o (.tup [])) np
        refine ⟨_, p, rfl, .inl (.inr ⟨o, upd_same⟩), Dx.same s1 _ _ he3, _, rfl, ?_⟩
        cases en : isNilT e with
        | true => exact iteF ⟨s1, .inr rfl, rfl⟩
        | false =>
          refine iteT ⟨by show 2 ≤ sizeLine; decide, fun p np => bad (s2.trans s1) np (.inr ⟨fs, rfl, fo, f1, f8, .inl ⟨fun ds x => ?_, fun x => ?_, rfl, rfl⟩⟩)⟩
          · rw [x] at el
            cases el
          · rw [x] at en
            cases en
    rintro σ H4 ⟨s34, kind, rfl⟩
    have s4 := s2.trans s34
    have hl4 := s34 _ _ hl
    have s4i : Same H' H4 := s4
    have he4 := Dx.same s4 _ _ he
    have nms : ∀ z ∈ fs.map (·.1), IsName z := fun z hz => by
      obtain ⟨x, hx, rfl⟩ := List.mem_map.mp hz
      exact fo.nm x hx
    obtain ⟨ea, tl, eu, el, cas⟩ : ∃ (ea : Addr) (tl : List PyData), u = .ref ea ∧ (∀ x ∈ tl, x.bulk ≤ 1000) ∧ ((e = .list tl ∧ tl.length ≤ 1000 ∧ ∃ zs, H4 ea = some (.lst zs) ∧ DxAll H4 zs tl) ∨ (e = .tuple [] ∧ tl = [] ∧ SqT K H4 ea [])) := by
      rcases kind with kd | kd
      · cases e with
        | list tl =>
          obtain ⟨w1, w2⟩ := fe' _ rfl
          cases he4 with
          | lst h1 h2 => exact ⟨_, tl, rfl, w2, .inl ⟨rfl, w1, _, h1, h2⟩⟩
        | _ => cases kd
      · cases e with
        | tuple tl =>
          cases tl with
          | nil =>
            cases he4 with
            | tup h1 h2 n => cases n
            | tupy h1 h2 n =>
              cases h2
              exact ⟨_, [], rfl, fun _ h => (by cases h), .inr ⟨rfl, rfl, h1.sq⟩⟩
          | cons a b => cases kd
        | _ => cases kd
    subst eu
    refine ⟨_, rfl, ln, _, rfl, .inl (SqL.of hl4), fun lt nlt => ?_⟩
    simp only [List.set]
    have n4 : ∀ b o, H4 b = some o → b ≠ lt := fun b o e => ne_of_none e nlt
    refine ⟨fun σ H5 => ∃ ts : List Tie, (e = .list (ts.map dTie) ∨ (e = .tuple [] ∧ ts = [])) ∧ Ties0 r fs ts ∧ Same H4 H5 ∧ ∃ x4 x5 x6 x7 x8, σ = [some (.ref a), some (.ref ea), some (.bl r), some (.ref ln), x4, x5, x6, x7, x8], ?_, ?_⟩
    · rcases cas with ⟨rfl, t1000, zs, hz, hzs⟩ | ⟨rfl, rfl, hq⟩
      · have lz := dxall_len hzs
        refine ⟨_, rfl, ea, rfl, .inl ⟨zs, SqL.of (same_new nlt _ _ hz), ?_⟩⟩
        refine for_it (walk_enum (xs := zs)) (fun i σ H2 => ∃ ts : List Tie, ts.length = i ∧ tl.take i = ts.map dTie ∧ Ties0 r fs ts ∧ Same H4 (Off lt H2) ∧ H2 lt = some (.lst ((fs.map (·.1) ++ ts.map (·.nm)).map V.str)) ∧ ∃ x4 x5 x6 x8, σ = [some (.ref a), some (.ref ea), some (.bl r), some (.ref ln), x4, x5, x6, some (.ref lt), x8])
          ⟨[], rfl, rfl, ties0_nil fo, fun b o e => Off.at (ne_of_none e nlt) (same_new nlt _ _ e), by rw [List.map_nil, List.append_nil]; exact upd_same, _, _, _, _, rfl⟩ (fun i σ H2 _ h => by obtain ⟨_, _, _, _, sm, _⟩ := h; exact SqL.of (Off.same _ _ (sm _ _ hz))) ?_ ?_
        · rintro i x σ H2 H3 hi ⟨ts, rfl, tk, T0, sm, hlt, x4, x5, x6, x8, rfl⟩ ⟨tt, w1, y, rfl, nt, rfl, hu1, hxi⟩
          cases hu1
          obtain ⟨s3, m3⟩ := fresh2 (o := .tup [V.int (ts.length : Nat), y]) nt
          have s03 : Same H4 (upd H2 tt (.tup [V.int (ts.length : Nat), y])) := fun b o e => s3 _ _ (Off.same _ _ (sm b o e))
          have hlt3 := s3 _ _ hlt
          generalize upd H2 tt (.tup [V.int (ts.length : Nat), y]) = H3 at s3 m3 s03 hlt3 ⊢
          have hi3 : ts.length < tl.length := by omega
          obtain ⟨y', e1, de0⟩ := dxall_get (i := ts.length) hzs (List.getElem?_eq_getElem hi3)
          have exy : y = y' := Option.some.inj (hxi.symm.trans e1)
          subst exy
          have tk2 : tl.take (ts.length + 1) = ts.map dTie ++ [tl[ts.length]] := by rw [List.take_add_one, List.getElem?_eq_getElem hi3, tk]; rfl
          have dr : tl = ts.map dTie ++ tl[ts.length] :: tl.drop (ts.length + 1) := by rw [← tk, ← List.drop_eq_getElem_cons hi3, List.take_append_drop]
          have bk := el _ (List.getElem_mem hi3)
          generalize tl[ts.length] = e3 at de0 tk2 dr bk
          have de := Dx.same s03 _ _ de0
          refine ⟨tt, _, rfl, SqT.of m3, rfl, _, _, rfl, _, _, rfl, rfl, ?_⟩
          simp only [List.set]
          refine ⟨_, rfl, _, rfl, _, rfl, _, rfl, _, rfl, y, e3, ln, lt, fs.map (·.1), ts.map (·.nm), r, by simp only [List.length_map, List.append_nil], by rw [List.length_map]; omega, de, bk, nms, s03 _ _ hl4, hlt3, fun x6 H7 s7 due => ?_⟩
          simp only [List.set]
          refine ⟨fun σ H8 => H8 = H7 ∧ (∃ t, e3 = dTie t ∧ Good r (fs.map (·.1)) t ∧ t.nm ∉ fs.map (·.1) ∧ t.nm ∉ ts.map (·.nm)) ∧ σ = [some (.ref a), some (.ref ea), some (.bl r), some (.ref ln), some (.int (ts.length : Nat)), some y, some x6, some (.ref lt), x8], ?_, ?_⟩
          · refine ⟨_, rfl, rfl, _, rfl, ?_⟩
            cases due with
            | good h1 h2 h3 h4 => exact iteF ⟨rfl, ⟨_, h1, h2, h3, h4⟩, rfl⟩
            | bad h1 h2 => exact iteT ⟨_, rfl, q _ _ (s4.trans (s03.trans s7)) (.bad (.inr ⟨fs, rfl, fo, f1, f8, .inr (.inl ⟨ts, e3, _, congrArg PyData.list dr, T0, h1⟩)⟩) h2)⟩
          rintro σ H8 ⟨rfl, ⟨t, rfl, g1, g2, g3⟩, rfl⟩
          have hlt7 := s7 _ _ hlt3
          obtain ⟨at', vh, rfl, ht, _⟩ := dx_tie de
          refine ⟨_, rfl, .inl ⟨rfl, _, SqL.of hlt7⟩, _, rfl, at', _, 0, _, rfl, rfl, SqT.of (s7 _ _ ht), rfl, ?_⟩
          refine ⟨lt, _, _, rfl, rfl, hlt7, by rw [List.length_map, List.length_append, List.length_map, List.length_map, sizeLine_eq]; omega, ts ++ [t], by rw [List.length_append]; rfl, by rw [tk2, List.map_append]; rfl, ties0_snoc T0 g1 g2 g3, fun b o e => ?_, ?_, _, _, _, _, rfl⟩
          · have nb := ne_of_none e nlt
            exact Off.at nb (by rw [upd_ne nb]; exact s7 _ _ (s03 _ _ e))
          · rw [upd_same, List.map_append, List.map_append, List.map_append, List.append_assoc, List.map_append]
            rfl
        · rintro σ H2 ⟨ts, lf, tk, T0, sm, hlt, x4, x5, x6, x8, rfl⟩
          rw [List.take_of_length_le (by omega)] at tk
          exact ⟨ts, .inl (by rw [tk]), T0, fun b o e => Off.same _ _ (sm b o e), _, _, _, _, _, rfl⟩
      · refine ⟨_, rfl, ea, rfl, .inr ⟨SqT.same hq (same_new nlt), ?_⟩⟩
        refine for_it walk_none (fun i σ H2 => Same H4 H2 ∧ ∃ x4 x5 x6 x7 x8, σ = [some (.ref a), some (.ref ea), some (.bl r), some (.ref ln), x4, x5, x6, x7, x8]) ⟨same_new nlt, _, _, _, _, _, rfl⟩ (fun i σ H2 _ h => SqT.same hq h.1) (fun i x σ H2 H3 hi => absurd hi (Nat.not_lt_zero _)) ?_
        rintro σ H2 ⟨sm, x4, x5, x6, x7, x8, rfl⟩
        exact ⟨[], .inr ⟨rfl, rfl⟩, ties0_nil fo, sm, _, _, _, _, _, rfl⟩
    rintro σ H5 ⟨ts, ek, T0, s45, y4, y5, y6, y7, y8, rfl⟩
    have s5 := s4.trans s45
    have seq : ∃ zs, DxAll H5 zs (ts.map dTie) ∧ ts.length ≤ 1000 ∧ (H5 ea = some (.lst zs) ∨ (SqT K H5 ea zs ∧ ts = [])) := by
      rcases cas with ⟨rfl, t1000, zs, hz, hzs⟩ | ⟨rfl, rfl, hq⟩
      · rcases ek with ek | ⟨ek, _⟩
        · cases ek
          exact ⟨zs, Dx.sameAll s45 _ _ hzs, by rw [List.length_map] at t1000; exact t1000, .inl (s45 _ _ hz)⟩
        · cases ek
      · rcases ek with ek | ⟨_, rfl⟩
        · cases ek
        · exact ⟨[], .nil, Nat.zero_le _, .inr ⟨SqT.same hq s45, rfl⟩⟩
    obtain ⟨zs, hzs, t1000, hea⟩ := seq
    have lz : (zs.length : Int) = (ts.length : Nat) := by
      have := dxall_len hzs
      rw [List.length_map] at this
      omega
    have lst : 0 < ts.length → e = .list (ts.map dTie) := fun p => by
      rcases ek with ek | ⟨_, rfl⟩
      · exact ek
      · cases p
    refine ⟨fun σ H6 => H6 = H5 ∧ ts.length ≤ 12 ∧ σ = [some (.ref a), some (.ref ea), some (.bl r), some (.ref ln), y4, y5, y6, y7, y8], ?_, ?_⟩
    · refine ⟨_, rfl, ea, zs, rfl, hea.imp SqL.of (·.1), _, _, rfl, rfl, _, rfl, ?_⟩
      rw [lz]
      by_cases c : (12 : Int) < ((ts.length : Nat) : Int)
      · rw [decide_eq_true c]
        exact iteT ⟨by show 2 ≤ sizeLine; decide, fun p np => bad s5 np (.inr ⟨fs, rfl, fo, f1, f8, .inr (.inr ⟨ts, lst (by omega), T0, rfl, .inl ⟨by omega, rfl⟩⟩)⟩)⟩
      · rw [decide_eq_false c]
        exact iteF ⟨rfl, by omega, rfl⟩
    rintro σ H6 ⟨rfl, t12, rfl⟩
    refine ⟨_, rfl, ea, rfl, ?_⟩
    have SP : told ts ≤ 12 → Specs r fs ts := fun h12 => ⟨fo, T0.1, T0.2, f1, f8, t12, h12⟩
    have fin : ∀ D H7, Same H6 H7 → H7 D = some (.lst ((ts.map fun t => (t.hs.length : Int)).map V.int)) → ∃ (a : Addr) (ns : List Int), [V.ref D] = [V.ref a] ∧ SqL K H7 a (ns.map V.int) ∧ ns.sum = (told ts : Int) := fun D H7 s7 hD => ⟨D, _, rfl, SqL.of hD, sum_told ts⟩
    have good : told ts ≤ 12 → ∀ H7, Same H6 H7 → Q .non H7 := fun h12 H7 s7 => q _ _ (s5.trans s7) (.good rfl ek (SP h12))
    rcases hea with hea | ⟨hea, rfl⟩
    · refine .inl ⟨⟨zs, SqL.of hea⟩, fun D nD => ?_⟩
      refine lens_lc walk_list nD (fun H7 s7 => SqL.of (s7 _ _ hea)) hzs t1000 fun H7 s7 hD => ?_
      obtain ⟨a', ns, e1, e2, e3⟩ := fin D H7 s7 hD
      refine ⟨a', ns, e1, e2, ?_⟩
      rw [e3]
      refine ⟨_, _, rfl, rfl, _, rfl, ?_⟩
      by_cases c : (12 : Int) < ((told ts : Nat) : Int)
      · rw [decide_eq_true c]
        refine iteT ⟨by show 2 ≤ sizeLine; decide, fun p np => bad (s5.trans s7) np (.inr ⟨fs, rfl, fo, f1, f8, .inr (.inr ⟨ts, lst ?_, T0, rfl, .inr ⟨t12, by omega, rfl⟩⟩)⟩)⟩
        cases ts with
        | nil => exact absurd c (by decide)
        | cons a b => exact Nat.succ_pos _
      · rw [decide_eq_false c]
        exact iteF (good (by omega) _ s7)
    · refine .inr ⟨⟨zs, hea⟩, fun D nD => ?_⟩
      refine lens_lc walk_tup nD (fun H7 s7 => SqT.same hea s7) hzs t1000 fun H7 s7 hD => ?_
      obtain ⟨a', ns, e1, e2, e3⟩ := fin D H7 s7 hD
      refine ⟨a', ns, e1, e2, ?_⟩
      rw [e3]
      refine ⟨_, _, rfl, rfl, false, qf (by decide), ?_⟩
      exact iteF (good (by decide) _ s7)
end
end Cw
namespace Cw
open PySem PySem.Spec PyProof.Rows L2
/-- short to show, plain or not -/
structure Sg (d : PyData) (b p : Nat) : Prop where
  sh : d.showable = true
  lv : d.leavesShort 700 = true
  bk : d.bulk ≤ b
  dp : d.depth ≤ p
theorem Sh.sg {d : PyData} {b p b' p' : Nat} (h : Sh d b p) (hb : b ≤ b' := by decide) (hp : p ≤ p' := by decide) : Sg d b' p' := ⟨h.sh, h.lv, Nat.le_trans h.bk hb, Nat.le_trans h.dp hp⟩
theorem Sg.mono {d : PyData} {b p b' p' : Nat} (h : Sg d b p) (hb : b ≤ b') (hp : p ≤ p') : Sg d b' p' := ⟨h.sh, h.lv, Nat.le_trans h.bk hb, Nat.le_trans h.dp hp⟩
theorem Sg.rep {d : PyData} {b p : Nat} (h : Sg d b p) (hb : b ≤ 20000) (hp : p ≤ 60) : d.showable = true ∧ d.depth ≤ 60 ∧ d.shown.length ≤ sizeLine := by
  refine ⟨h.sh, Nat.le_trans h.dp hp, ?_⟩
  have l := PyData.shown_le_bulk 700 (by decide) d h.lv
  have := h.bk
  rw [sizeLine_eq]
  omega
theorem sgk {d : PyData} (h : (d.showable && d.leavesShort 700 && decide (d.bulk ≤ 12) && decide (d.depth ≤ 3)) = true) : Sg d 12 3 := by
  simp only [Bool.and_eq_true, decide_eq_true_eq] at h
  exact ⟨h.1.1.1, h.1.1.2, h.1.2, h.2⟩
/-- things in a row that are short to show -/
structure SgL (ds : List PyData) (b p : Nat) : Prop where
  sh : PyData.showableAll ds = true
  lv : PyData.leavesShortAll 700 ds = true
  bk : PyData.bulkAll ds ≤ b
  dp : PyData.depthAll ds ≤ p
theorem sgl_nil {b p : Nat} : SgL [] b p := ⟨by simp [PyData.showableAll], by simp [PyData.leavesShortAll], by simp [PyData.bulkAll], by simp [PyData.depthAll]⟩
theorem sgl_cons {d : PyData} {ds : List PyData} {b b' p : Nat} (h : Sg d b p) (h' : SgL ds b' p) : SgL (d :: ds) (b + 1 + b') p := by
  refine ⟨by simp only [PyData.showableAll, Bool.and_eq_true]; exact ⟨h.sh, h'.sh⟩, by simp only [PyData.leavesShortAll, Bool.and_eq_true]; exact ⟨h.lv, h'.lv⟩, ?_, ?_⟩
  · simp only [PyData.bulkAll]
    have := h.bk
    have := h'.bk
    omega
  · simp only [PyData.depthAll]
    have := h.dp
    have := h'.dp
    omega
theorem sgl_inv {d : PyData} {ds : List PyData} {b p : Nat} (h : SgL (d :: ds) b p) : ∃ b1 b2, Sg d b1 p ∧ SgL ds b2 p ∧ b1 + 1 + b2 ≤ b := by
  obtain ⟨h1, h2, h3, h4⟩ := h
  simp only [PyData.showableAll, PyData.leavesShortAll, PyData.bulkAll, PyData.depthAll, Bool.and_eq_true] at h1 h2 h3 h4
  exact ⟨d.bulk, PyData.bulkAll ds, ⟨h1.1, h2.1, Nat.le_refl _, by omega⟩, ⟨h1.2, h2.2, Nat.le_refl _, by omega⟩, h3⟩
theorem SgL.mono {ds : List PyData} {b p b' p' : Nat} (h : SgL ds b p) (hb : b ≤ b') (hp : p ≤ p') : SgL ds b' p' := ⟨h.sh, h.lv, Nat.le_trans h.bk hb, Nat.le_trans h.dp hp⟩
theorem sgl_app {b b' p : Nat} : ∀ {ds es : List PyData}, SgL ds b p → SgL es b' p → SgL (ds ++ es) (b + b') p
  | [], es, h, h' => h'.mono (by omega) (Nat.le_refl _)
  | d :: ds, es, h, h' => by
    obtain ⟨b1, b2, g1, g2, g3⟩ := sgl_inv h
    exact (sgl_cons g1 (sgl_app g2 h')).mono (by omega) (Nat.le_refl _)
theorem sgl_take {b p : Nat} : ∀ {ds : List PyData} {n : Nat}, SgL ds b p → SgL (ds.take n) b p
  | [], n, h => by rw [List.take_nil]; exact h
  | d :: ds, 0, h => sgl_nil
  | d :: ds, n + 1, h => by
    obtain ⟨b1, b2, g1, g2, g3⟩ := sgl_inv h
    exact (sgl_cons g1 (sgl_take (n := n) g2)).mono (by omega) (Nat.le_refl _)
theorem sgl_drop {b p : Nat} : ∀ {ds : List PyData} {n : Nat}, SgL ds b p → SgL (ds.drop n) b p
  | [], n, h => by rw [List.drop_nil]; exact h
  | d :: ds, 0, h => h
  | d :: ds, n + 1, h => by
    obtain ⟨b1, b2, g1, g2, g3⟩ := sgl_inv h
    exact (sgl_drop (n := n) g2).mono (by omega) (Nat.le_refl _)
theorem sg_tup {ds : List PyData} {b p : Nat} : Sg (.tuple ds) b (p + 1) ↔ SgL ds b p := by
  constructor
  · rintro ⟨h1, h2, h3, h4⟩
    simp only [PyData.showable, PyData.leavesShort, PyData.bulk, PyData.depth] at h1 h2 h3 h4
    exact ⟨h1, h2, h3, by omega⟩
  · rintro ⟨h1, h2, h3, h4⟩
    exact ⟨by simp only [PyData.showable]; exact h1, by simp only [PyData.leavesShort]; exact h2, by simp only [PyData.bulk]; exact h3, by simp only [PyData.depth]; omega⟩
theorem sg_lst {ds : List PyData} {b p : Nat} : Sg (.list ds) b (p + 1) ↔ SgL ds b p := by
  constructor
  · rintro ⟨h1, h2, h3, h4⟩
    simp only [PyData.showable, PyData.leavesShort, PyData.bulk, PyData.depth] at h1 h2 h3 h4
    exact ⟨h1, h2, h3, by omega⟩
  · rintro ⟨h1, h2, h3, h4⟩
    exact ⟨by simp only [PyData.showable]; exact h1, by simp only [PyData.leavesShort]; exact h2, by simp only [PyData.bulk]; exact h3, by simp only [PyData.depth]; omega⟩
theorem sgl_all {b p : Nat} : ∀ {ds : List PyData}, (∀ d ∈ ds, Sg d b p) → SgL ds ((b + 1) * ds.length) p
  | [], _ => sgl_nil
  | d :: r, h => (sgl_cons (h d List.mem_cons_self) (sgl_all fun x hx => h x (List.mem_cons_of_mem _ hx))).mono (by simp only [List.length_cons, Nat.mul_add]; omega) (Nat.le_refl _)
theorem sgl_mem {b p : Nat} : ∀ {ds : List PyData}, SgL ds b p → ∀ d ∈ ds, Sg d b p
  | [], _, d, h => by cases h
  | x :: r, hs, d, h => by
    obtain ⟨b1, b2, g1, g2, g3⟩ := sgl_inv hs
    rcases List.mem_cons.mp h with rfl | h
    · exact g1.mono (by omega) (Nat.le_refl _)
    · exact (sgl_mem g2 d h).mono (by omega) (Nat.le_refl _)
section
variable {P : Program} {w : World} {K : PySem.W.Frag} {mg : Str → Option Value} {base : Heap} {C NS NW0 : Addr}
def spAmong : Sp := fun vs H Q _ => ∃ (p l : Addr) (xs : List V), vs = [.ref p, .ref l] ∧ Pot H p ∧ l ≠ p ∧ H l = some (.lst xs) ∧ xs ≠ [] ∧ xs.length ≤ 1000 ∧ ∀ x ∈ xs, ∀ H', Drew p H H' → Q x H'
theorem ok_among {f : Addr} {fd : FuncData} (F : FnP K "_law_among" "_law_among" S_among f fd) (H_take : TakeOk P w K mg base) (B : Blt mg) : FnOk P w K mg base CX0 2 f fd P_among spAmong := by
  obtain ⟨f_take, fd_take, F_take, b_take, G_take, g_take⟩ := H_take
  have nd := sc_among.nd
  refine F.ok sc_among (fun vs H Q E h => ?_) (fun cdv A outer s H vs Q E hr h => ⟨_, PSs.nox (pss_one (ps_ret (pe_ix ix_list (pv 1) (pe_call G_take (hr.mono (by first | decide | omega)) rfl g_take F_take.kp b_take .nil pass0 (pa_cons (pv 0) (pa_cons (pe_callB call_len_seq (by rfl) B.len_ PySem.boot_len (pa_cons (pv 1) pa_nil)) pa_nil))) (fun _ _ => rfl)))), ?_⟩)
  · obtain ⟨p, l, xs, rfl, _⟩ := h
    rfl
  · obtain ⟨p, l, xs, rfl, hP, lp, hl, ne, ln, q⟩ := h
    rw [show L2.start N_among [V.ref p, V.ref l] = [some (V.ref p), some (.ref l)] from rfl]
    have l1 : 1 ≤ xs.length := by
      cases xs with
      | nil => exact absurd rfl ne
      | cons a r => simp
    refine ⟨_, rfl, _, rfl, _, rfl, l, _, rfl, .inl (SqL.of hl), p, _, rfl, hP, by omega, log_small (n := 1000) (by omega) (by omega) (by decide), fun d H1 d0 d1 dr => ?_⟩
    have hd : d.toNat < xs.length := by omega
    exact ⟨l, xs, d, xs[d.toNat], rfl, rfl, SqL.of (dr.1 _ _ lp hl), atI_int d0 (List.getElem?_eq_getElem hd), q _ (List.getElem_mem hd) H1 dr⟩
/-- whole numbers among them are not too long -/
def ntE : PyData → Bool
  | .int i => decide (i.natAbs < 10 ^ 40)
  | _ => true
def ntB : PyData → Bool
  | .tuple ds => ds.all ntE
  | d => ntE d
theorem nt_e {d : PyData} (h : ntB d = true) : ntE d = true := by
  cases d with
  | tuple ds => rfl
  | _ => exact h
/-- as a list of rows: at most one, its numbers not too long -/
def ntR : PyData → Bool
  | .list ds => decide (ds.length ≤ 1) && ds.all ntB
  | _ => true
/-- a thing of any kind, short -/
abbrev O2 (l p : Addr) (H : Hp) : Hp := Off l (Off p H)
theorem O2.at {l p b : Addr} {H : Hp} {o : HO} (h1 : b ≠ l) (h2 : b ≠ p) (e : H b = some o) : O2 l p H b = some o := Off.at h1 (Off.at h2 e)
theorem O2.same {l p : Addr} {H : Hp} : Same (O2 l p H) H := fun b o e => Off.same _ _ (Off.same _ _ e)
theorem O2.mono {l p : Addr} {H H' : Hp} (k : Same H H') : Same (O2 l p H) (O2 l p H') := Off.mono (Off.mono k)
theorem o2But {l p : Addr} {H H' : Hp} (k : But p H H') : Same (O2 l p H) (O2 l p H') := fun b o e => by
  have e1 := Off.same _ _ e
  exact O2.at (Off.ne e) (Off.ne e1) (k b o (Off.ne e1) (Off.same _ _ e1))
def spOdd : Sp := fun vs H Q _ => ∃ (p l : Addr) (ol : HO), vs = [.ref p] ∧ Pot H p ∧ H l = some ol ∧ ∀ (x : V) (d : PyData) (H' : Hp), Dx (O2 l p H') x d → Sg d 12 3 → ntB d = true → ntR d = true → Drew p H H' → Q x H'
theorem ok_odd {f : Addr} {fd : FuncData} (F : FnP K "_law_odd" "_law_odd" S_odd f fd) (H_among : Has P w K mg base "_law_among" S_among 2 P_among spAmong) (B : Blt mg) : FnOk P w K mg base CX0 3 f fd P_odd spOdd := by
  obtain ⟨f_among, fd_among, F_among, b_among, G_among, g_among⟩ := H_among
  have nd := sc_odd.nd
  refine F.ok sc_odd (fun vs H Q E h => ?_) (fun cdv A outer s H vs Q E hr h => ⟨_, PSs.nox (pss_cons (ps_set (i := 1) nd rfl (.inl rfl) (pe_lst (pa_cons pe_non (pa_cons pe_int (pa_cons pe_int (pa_cons (pe_un un_neg pe_int) (pa_cons pe_bl (pa_cons pe_bl (pa_cons pe_int (pa_cons (pe_op op_add (pe_op op_pow pe_int pe_int) pe_int) (pa_cons pe_str (pa_cons pe_str (pa_cons pe_str (pa_cons pe_str (pa_cons pe_str (pa_cons pe_str (pa_cons pe_tupZ (pa_cons (pe_tup (pa_cons pe_str pa_nil)) (pa_cons (pe_lst pa_nil) pa_nil)))))))))))))))))))
     (pss_one (ps_ret (pe_call G_among (hr.mono (by first | decide | omega)) rfl g_among F_among.kp b_among .nil pass0 (pa_cons (pv 0) (pa_cons (pe_op op_cat (pv 1) (pe_lst (pa_cons (pe_lst (pa_cons pe_str pa_nil)) (pa_cons pe_dnewK (pa_cons (pe_tup (pa_cons pe_int (pa_cons pe_int pa_nil))) (pa_cons (pe_tupF (pa_cons (pe_tup (pa_cons pe_str (pa_cons pe_int pa_nil))) pa_nil)) (pa_cons (pe_lst (pa_cons (pe_tup (pa_cons pe_str (pa_cons pe_int pa_nil))) pa_nil)) (pa_cons pe_str (pa_cons (pe_tup (pa_cons pe_str (pa_cons pe_int pa_nil))) pa_nil))))))))) pa_nil)))))), ?_⟩)
  · obtain ⟨p, l, ol, rfl, _⟩ := h
    rfl
  · obtain ⟨p, l, ol, rfl, hP, hl, q⟩ := h
    rw [show L2.start N_odd [V.ref p] = [some (V.ref p), none] from rfl]
    refine ⟨_, rfl, _, _, rfl, rfl, ⟨by decide, by decide, by decide⟩, _, _, rfl, rfl, ?_⟩
    intro z1 o_z1 n_z1 d_z1
    obtain ⟨s_z1, m_z1⟩ := fresh2 (o := .frz o_z1 (.tup [])) n_z1
    refine ⟨by show 1 ≤ sizeLine; decide, fun t2 n_t2 => ?_⟩
    obtain ⟨s_t2, m_t2⟩ := fresh2 (o := .tup [.str "a"]) n_t2
    refine ⟨by show 0 ≤ sizeLine; decide, fun l3 n_l3 => ?_⟩
    obtain ⟨s_l3, m_l3⟩ := fresh2 (o := .lst []) n_l3
    refine ⟨by show 17 ≤ sizeLine; decide, fun l4 n_l4 => ?_⟩
    obtain ⟨s_l4, m_l4⟩ := fresh2 (o := .lst [.non, .int 0, .int 1, .int (-1), .bl true, .bl false, .int 3, .int (10 ^ Int.toNat 30 + 1), .str "", .str "A", .str "a b", .str "a1", .str "ninelongs", .str "zz", .ref z1, .ref t2, .ref l3]) n_l4
    refine ⟨_, rfl, _, rfl, by show 1 ≤ sizeLine; decide, fun l5 n_l5 => ?_⟩
    obtain ⟨s_l5, m_l5⟩ := fresh2 (o := .lst [.str "a"]) n_l5
    intro e6 n_e6
    obtain ⟨s_e6, m_e6⟩ := fresh2 (o := .dK []) n_e6
    refine ⟨by show 2 ≤ sizeLine; decide, fun t7 n_t7 => ?_⟩
    obtain ⟨s_t7, m_t7⟩ := fresh2 (o := .tup [.int 0, .int 1]) n_t7
    refine ⟨by show 2 ≤ sizeLine; decide, fun t8 n_t8 => ?_⟩
    obtain ⟨s_t8, m_t8⟩ := fresh2 (o := .tup [.str "a", .int 1]) n_t8
    refine ⟨by show 1 ≤ sizeLine; decide, fun t9 o_t9 n_t9 d_t9 => ?_⟩
    obtain ⟨s_t9, m_t9⟩ := fresh2 (o := .frz o_t9 (.tup [.ref t8])) n_t9
    refine ⟨by show 2 ≤ sizeLine; decide, fun t10 n_t10 => ?_⟩
    obtain ⟨s_t10, m_t10⟩ := fresh2 (o := .tup [.str "a", .int 1]) n_t10
    refine ⟨by show 1 ≤ sizeLine; decide, fun l11 n_l11 => ?_⟩
    obtain ⟨s_l11, m_l11⟩ := fresh2 (o := .lst [.ref t10]) n_l11
    refine ⟨by show 2 ≤ sizeLine; decide, fun t12 n_t12 => ?_⟩
    obtain ⟨s_t12, m_t12⟩ := fresh2 (o := .tup [.str "a", .int 1]) n_t12
    refine ⟨by show 7 ≤ sizeLine; decide, fun l13 n_l13 => ?_⟩
    obtain ⟨s_l13, m_l13⟩ := fresh2 (o := .lst [.ref l5, .ref e6, .ref t7, .ref t9, .ref l11, .str "0", .ref t12]) n_l13
    refine ⟨l4, l13, _, _, rfl, rfl, (s_l13 _ _ (s_t12 _ _ (s_l11 _ _ (s_t10 _ _ (s_t9 _ _ (s_t8 _ _ (s_t7 _ _ (s_e6 _ _ (s_l5 _ _ (m_l4)))))))))), (m_l13), by show 24 ≤ sizeLine; decide, fun l14 n_l14 => ?_⟩
    obtain ⟨s_l14, m_l14⟩ := fresh2 (o := .lst ([.non, .int 0, .int 1, .int (-1), .bl true, .bl false, .int 3, .int (10 ^ Int.toNat 30 + 1), .str "", .str "A", .str "a b", .str "a1", .str "ninelongs", .str "zz", .ref z1, .ref t2, .ref l3] ++ [.ref l5, .ref e6, .ref t7, .ref t9, .ref l11, .str "0", .ref t12])) n_l14
    have k_z1 := (hP).ne n_z1
    have P_z1 := (hP).same s_z1
    have t_z1 := s_z1
    have e_z1 : z1 ≠ l := (ne_of_none hl n_z1).symm
    have k_t2 := (P_z1).ne n_t2
    have P_t2 := (P_z1).same s_t2
    have t_t2 := t_z1.trans s_t2
    have e_t2 : t2 ≠ l := (ne_of_none (t_z1 _ _ hl) n_t2).symm
    have k_l3 := (P_t2).ne n_l3
    have P_l3 := (P_t2).same s_l3
    have t_l3 := t_t2.trans s_l3
    have e_l3 : l3 ≠ l := (ne_of_none (t_t2 _ _ hl) n_l3).symm
    have k_l4 := (P_l3).ne n_l4
    have P_l4 := (P_l3).same s_l4
    have t_l4 := t_l3.trans s_l4
    have e_l4 : l4 ≠ l := (ne_of_none (t_l3 _ _ hl) n_l4).symm
    have k_l5 := (P_l4).ne n_l5
    have P_l5 := (P_l4).same s_l5
    have t_l5 := t_l4.trans s_l5
    have e_l5 : l5 ≠ l := (ne_of_none (t_l4 _ _ hl) n_l5).symm
    have k_e6 := (P_l5).ne n_e6
    have P_e6 := (P_l5).same s_e6
    have t_e6 := t_l5.trans s_e6
    have e_e6 : e6 ≠ l := (ne_of_none (t_l5 _ _ hl) n_e6).symm
    have k_t7 := (P_e6).ne n_t7
    have P_t7 := (P_e6).same s_t7
    have t_t7 := t_e6.trans s_t7
    have e_t7 : t7 ≠ l := (ne_of_none (t_e6 _ _ hl) n_t7).symm
    have k_t8 := (P_t7).ne n_t8
    have P_t8 := (P_t7).same s_t8
    have t_t8 := t_t7.trans s_t8
    have e_t8 : t8 ≠ l := (ne_of_none (t_t7 _ _ hl) n_t8).symm
    have k_t9 := (P_t8).ne n_t9
    have P_t9 := (P_t8).same s_t9
    have t_t9 := t_t8.trans s_t9
    have e_t9 : t9 ≠ l := (ne_of_none (t_t8 _ _ hl) n_t9).symm
    have k_t10 := (P_t9).ne n_t10
    have P_t10 := (P_t9).same s_t10
    have t_t10 := t_t9.trans s_t10
    have e_t10 : t10 ≠ l := (ne_of_none (t_t9 _ _ hl) n_t10).symm
    have k_l11 := (P_t10).ne n_l11
    have P_l11 := (P_t10).same s_l11
    have t_l11 := t_t10.trans s_l11
    have e_l11 : l11 ≠ l := (ne_of_none (t_t10 _ _ hl) n_l11).symm
    have k_t12 := (P_l11).ne n_t12
    have P_t12 := (P_l11).same s_t12
    have t_t12 := t_l11.trans s_t12
    have e_t12 : t12 ≠ l := (ne_of_none (t_l11 _ _ hl) n_t12).symm
    have k_l13 := (P_t12).ne n_l13
    have P_l13 := (P_t12).same s_l13
    have t_l13 := t_t12.trans s_l13
    have e_l13 : l13 ≠ l := (ne_of_none (t_t12 _ _ hl) n_l13).symm
    have k_l14 := (P_l13).ne n_l14
    have P_l14 := (P_l13).same s_l14
    have t_l14 := t_l13.trans s_l14
    have e_l14 : l14 ≠ l := (ne_of_none (t_l13 _ _ hl) n_l14).symm
    have m_z1 := (s_l14 _ _ (s_l13 _ _ (s_t12 _ _ (s_l11 _ _ (s_t10 _ _ (s_t9 _ _ (s_t8 _ _ (s_t7 _ _ (s_e6 _ _ (s_l5 _ _ (s_l4 _ _ (s_l3 _ _ (s_t2 _ _ (m_z1))))))))))))))
    have m_t2 := (s_l14 _ _ (s_l13 _ _ (s_t12 _ _ (s_l11 _ _ (s_t10 _ _ (s_t9 _ _ (s_t8 _ _ (s_t7 _ _ (s_e6 _ _ (s_l5 _ _ (s_l4 _ _ (s_l3 _ _ (m_t2)))))))))))))
    have m_l3 := (s_l14 _ _ (s_l13 _ _ (s_t12 _ _ (s_l11 _ _ (s_t10 _ _ (s_t9 _ _ (s_t8 _ _ (s_t7 _ _ (s_e6 _ _ (s_l5 _ _ (s_l4 _ _ (m_l3))))))))))))
    have m_l4 := (s_l14 _ _ (s_l13 _ _ (s_t12 _ _ (s_l11 _ _ (s_t10 _ _ (s_t9 _ _ (s_t8 _ _ (s_t7 _ _ (s_e6 _ _ (s_l5 _ _ (m_l4)))))))))))
    have m_l5 := (s_l14 _ _ (s_l13 _ _ (s_t12 _ _ (s_l11 _ _ (s_t10 _ _ (s_t9 _ _ (s_t8 _ _ (s_t7 _ _ (s_e6 _ _ (m_l5))))))))))
    have m_e6 := (s_l14 _ _ (s_l13 _ _ (s_t12 _ _ (s_l11 _ _ (s_t10 _ _ (s_t9 _ _ (s_t8 _ _ (s_t7 _ _ (m_e6)))))))))
    have m_t7 := (s_l14 _ _ (s_l13 _ _ (s_t12 _ _ (s_l11 _ _ (s_t10 _ _ (s_t9 _ _ (s_t8 _ _ (m_t7))))))))
    have m_t8 := (s_l14 _ _ (s_l13 _ _ (s_t12 _ _ (s_l11 _ _ (s_t10 _ _ (s_t9 _ _ (m_t8)))))))
    have m_t9 := (s_l14 _ _ (s_l13 _ _ (s_t12 _ _ (s_l11 _ _ (s_t10 _ _ (m_t9))))))
    have m_t10 := (s_l14 _ _ (s_l13 _ _ (s_t12 _ _ (s_l11 _ _ (m_t10)))))
    have m_l11 := (s_l14 _ _ (s_l13 _ _ (s_t12 _ _ (m_l11))))
    have m_t12 := (s_l14 _ _ (s_l13 _ _ (m_t12)))
    have m_l13 := (s_l14 _ _ (m_l13))
    have m_l14 := (m_l14)
    have P_all := P_l14
    have s_all := t_l14
    refine ⟨p, l14, _, rfl, P_all, k_l14.symm, m_l14, by simp, by simp, fun x hx H' dr => ?_⟩
    have dr8 := Drew.trans ⟨Same.but s_all, P_all⟩ dr
    have f : ∀ (b : Addr) (o : HO), p ≠ b → b ≠ l → _ = some o → O2 l p H' b = some o := fun b o k k2 m => O2.at k2 k.symm (dr.1 b o k.symm m)
    simp only [List.cons_append, List.nil_append, List.mem_cons, List.not_mem_nil, or_false] at hx
    rcases hx with rfl | rfl | rfl | rfl | rfl | rfl | rfl | rfl | rfl | rfl | rfl | rfl | rfl | rfl | rfl | rfl | rfl | rfl | rfl | rfl | rfl | rfl | rfl | rfl
    · exact q _ (.none) _ (.non) (sgk (by decide +kernel)) (by decide +kernel) (by decide +kernel) dr8
    · exact q _ (.int 0) _ (.int _) (sh_int (by decide)).sg (by decide +kernel) (by decide +kernel) dr8
    · exact q _ (.int 1) _ (.int _) (sh_int (by decide)).sg (by decide +kernel) (by decide +kernel) dr8
    · exact q _ (.int (-1)) _ (.int _) (sh_int (by decide)).sg (by decide +kernel) (by decide +kernel) dr8
    · exact q _ (.bool true) _ (.bl _) (sgk (by decide +kernel)) (by decide +kernel) (by decide +kernel) dr8
    · exact q _ (.bool false) _ (.bl _) (sgk (by decide +kernel)) (by decide +kernel) (by decide +kernel) dr8
    · exact q _ (.int 3) _ (.int _) (sh_int (by decide)).sg (by decide +kernel) (by decide +kernel) dr8
    · exact q _ (.int (10 ^ Int.toNat 30 + 1)) _ (.int _) (sh_int (by decide)).sg (by decide +kernel) (by decide +kernel) dr8
    · exact q _ (.str "") _ (.str _) (sgk (by decide +kernel)) (by decide +kernel) (by decide +kernel) dr8
    · exact q _ (.str "A") _ (.str _) (sgk (by decide +kernel)) (by decide +kernel) (by decide +kernel) dr8
    · exact q _ (.str "a b") _ (.str _) (sgk (by decide +kernel)) (by decide +kernel) (by decide +kernel) dr8
    · exact q _ (.str "a1") _ (.str _) (sgk (by decide +kernel)) (by decide +kernel) (by decide +kernel) dr8
    · exact q _ (.str "ninelongs") _ (.str _) (sgk (by decide +kernel)) (by decide +kernel) (by decide +kernel) dr8
    · exact q _ (.str "zz") _ (.str _) (sgk (by decide +kernel)) (by decide +kernel) (by decide +kernel) dr8
    · exact q _ (.tuple []) _ (.tupz (f z1 _ k_z1 e_z1 m_z1) d_z1 .nil rfl) (sgk (by decide +kernel)) (by decide +kernel) (by decide +kernel) dr8
    · exact q _ (.tuple [.str "a"]) _ (.tup (f t2 _ k_t2 e_t2 m_t2) (.cons (.str _) .nil)) (sgk (by decide +kernel)) (by decide +kernel) (by decide +kernel) dr8
    · exact q _ (.list []) _ (.lst (f l3 _ k_l3 e_l3 m_l3) .nil) (sgk (by decide +kernel)) (by decide +kernel) (by decide +kernel) dr8
    · exact q _ (.list [.str "a"]) _ (.lst (f l5 _ k_l5 e_l5 m_l5) (.cons (.str _) .nil)) (sgk (by decide +kernel)) (by decide +kernel) (by decide +kernel) dr8
    · exact q _ (.dict []) _ (.emp (f e6 _ k_e6 e_e6 m_e6)) (sgk (by decide +kernel)) (by decide +kernel) (by decide +kernel) dr8
    · exact q _ (.tuple [.int 0, .int 1]) _ (.tup (f t7 _ k_t7 e_t7 m_t7) (.cons (.int _) (.cons (.int _) .nil))) (sgk (by decide +kernel)) (by decide +kernel) (by decide +kernel) dr8
    · exact q _ (.tuple [.tuple [.str "a", .int 1]]) _ (.tupz (f t9 _ k_t9 e_t9 m_t9) d_t9 (.cons (.tup (f t8 _ k_t8 e_t8 m_t8) (.cons (.str _) (.cons (.int _) .nil))) .nil) rfl) (sgk (by decide +kernel)) (by decide +kernel) (by decide +kernel) dr8
    · exact q _ (.list [.tuple [.str "a", .int 1]]) _ (.lst (f l11 _ k_l11 e_l11 m_l11) (.cons (.tup (f t10 _ k_t10 e_t10 m_t10) (.cons (.str _) (.cons (.int _) .nil))) .nil)) (sgk (by decide +kernel)) (by decide +kernel) (by decide +kernel) dr8
    · exact q _ (.str "0") _ (.str _) (sgk (by decide +kernel)) (by decide +kernel) (by decide +kernel) dr8
    · exact q _ (.tuple [.str "a", .int 1]) _ (.tup (f t12 _ k_t12 e_t12 m_t12) (.cons (.str _) (.cons (.int _) .nil))) (sgk (by decide +kernel)) (by decide +kernel) (by decide +kernel) dr8
end
end Cw
namespace Cw
open PySem PySem.Spec PyProof.Rows L2
theorem Off.same' {p a : Addr} {H : Hp} (o : HO) (e : Off p H a = some o) : H a = some o := Off.same _ _ e
theorem O2.same' {l p a : Addr} {H : Hp} (o : HO) (e : O2 l p H a = some o) : H a = some o := O2.same _ _ e
/-- something stands there -/
def Occ (H : Hp) (l : Addr) : Prop := ∃ o, H l = some o
theorem Occ.drew {p l : Addr} {H H' : Hp} (h : Occ H l) (d : Drew p H H') : Occ H' l := by
  obtain ⟨o, e⟩ := h
  by_cases lp : l = p
  · subst lp
    obtain ⟨a, b, h, _⟩ := d.2
    exact ⟨_, h⟩
  · exact ⟨o, d.1 _ _ lp e⟩
theorem Occ.same {l : Addr} {H H' : Hp} (h : Occ H l) (k : Same H H') : Occ H' l := let ⟨o, e⟩ := h; ⟨o, k _ _ e⟩
theorem Occ.ne {l b : Addr} {H : Hp} (h : Occ H l) (n : H b = none) : b ≠ l := let ⟨_, e⟩ := h; (ne_of_none e n).symm
theorem offBut {p : Addr} {H H' : Hp} (k : But p H H') : Same (Off p H) (Off p H') := fun b o e => Off.at (Off.ne e) (k b o (Off.ne e) (Off.same _ _ e))
theorem cut_last (xs : List V) : cutV xs none (some (-1)) = xs.take (xs.length - 1) := by
  have e1 : HT.sIx xs.length 0 none = 0 := rfl
  have e2 : HT.sIx xs.length xs.length (some (-1)) = xs.length - 1 := by
    show (if (-1 : Int) < 0 then (-1 + (xs.length : Int)).toNat else min (-1 : Int).toNat xs.length) = _
    rw [if_pos (by decide)]
    omega
  unfold cutV
  rw [e1, e2]
  simp
theorem cut_last_no {n : Nat} (h : 0 < n) : ¬ (HT.sIx n 0 none = 0 ∧ HT.sIx n n (some (-1)) = n) := by
  have e2 : HT.sIx n n (some (-1)) = n - 1 := by
    show (if (-1 : Int) < 0 then (-1 + (n : Int)).toNat else min (-1 : Int).toNat n) = _
    rw [if_pos (by decide)]
    omega
  rw [e2]
  omega
theorem sIx_to {n d : Nat} {i : Int} (h : 0 ≤ i) : HT.sIx n d (some i) = min i.toNat n := by
  show (if i < 0 then (i + (n : Int)).toNat else min i.toNat n) = _
  rw [if_neg (by omega)]
theorem cut_upto {xs : List V} {i : Int} (h : 0 ≤ i) : cutV xs none (some i) = xs.take i.toNat := by
  unfold cutV
  rw [sIx_to h]
  show (xs.drop 0).take (min i.toNat xs.length - 0) = _
  rw [List.drop_zero, Nat.sub_zero]
  by_cases c : i.toNat ≤ xs.length
  · rw [Nat.min_eq_left c]
  · rw [Nat.min_eq_right (by omega), List.take_length, List.take_of_length_le (by omega)]
theorem cut_upto_no {n : Nat} {i : Int} (h : 0 ≤ i) (h2 : i < n) : ¬ (HT.sIx n 0 none = 0 ∧ HT.sIx n n (some i) = n) := by
  rw [sIx_to h]
  omega
theorem cut_from {xs : List V} {i : Int} (h : 0 ≤ i) : cutV xs (some i) none = xs.drop i.toNat := by
  unfold cutV
  rw [sIx_to h]
  show (xs.drop (min i.toNat xs.length)).take (xs.length - min i.toNat xs.length) = _
  by_cases c : i.toNat ≤ xs.length
  · rw [Nat.min_eq_left c, List.take_of_length_le (by rw [List.length_drop]; omega)]
  · rw [Nat.min_eq_right (by omega), List.drop_length, List.drop_eq_nil_of_le (by omega)]
    exact List.take_nil
theorem cut_from_no {n : Nat} {i : Int} (h : 0 < i) (h2 : 0 < n) : ¬ (HT.sIx n 0 (some i) = 0 ∧ HT.sIx n n none = n) := by
  rw [sIx_to (by omega)]
  omega
theorem dxall_app {H : Hp} : ∀ {xs ys : List V} {ds es : List PyData}, DxAll H xs ds → DxAll H ys es → DxAll H (xs ++ ys) (ds ++ es)
  | [], _, _, _, h, h2 => by
    cases h
    exact h2
  | x :: xs, _, _, _, h, h2 => by
    cases h with
    | cons a b => exact .cons a (dxall_app b h2)
theorem dxall_take {H : Hp} : ∀ {xs : List V} {ds : List PyData} (n : Nat), DxAll H xs ds → DxAll H (xs.take n) (ds.take n)
  | _, _, 0, _ => .nil
  | _, _, n + 1, .nil => .nil
  | _, _, n + 1, .cons a b => .cons a (dxall_take n b)
theorem dxall_drop {H : Hp} : ∀ {xs : List V} {ds : List PyData} (n : Nat), DxAll H xs ds → DxAll H (xs.drop n) (ds.drop n)
  | _, _, 0, h => h
  | _, _, n + 1, .nil => .nil
  | _, _, n + 1, .cons _ b => dxall_drop n b
theorem dx_made {H : Hp} {a : Addr} {xs : List V} {ds : List PyData} (h : TupY H a xs) (hx : DxAll H xs ds) (e : H a = some (.tup xs)) : Dx H (.ref a) (.tuple ds) := by
  cases c : allTup ds with
  | false => exact .tup e hx c
  | true => exact .tupy h hx c
theorem dx_new {H : Hp} {a : Addr} {xs : List V} {ds : List PyData} (e : H a = some (.tup xs)) (hx : DxAll H xs ds) : Dx H (.ref a) (.tuple ds) := dx_made (.inl e) hx e
theorem dx_tupY {H : Hp} {v : V} {ds : List PyData} (h : Dx H v (.tuple ds)) : ∃ t us, v = .ref t ∧ TupY H t us ∧ DxAll H us ds := by
  cases h with
  | tup e r n => exact ⟨_, _, rfl, .inl e, r⟩
  | tupy e r n => exact ⟨_, _, rfl, e, r⟩
theorem sgl_split {b p : Nat} : ∀ {ds : List PyData} (k : Nat), SgL ds b p → ∃ b1 b2, SgL (ds.take k) b1 p ∧ SgL (ds.drop k) b2 p ∧ b1 + b2 ≤ b := fun {ds} k h => by
  have e : PyData.bulkAll ds = PyData.bulkAll (ds.take k) + PyData.bulkAll (ds.drop k) := by
    have gen : ∀ xs ys : List PyData, PyData.bulkAll (xs ++ ys) = PyData.bulkAll xs + PyData.bulkAll ys := fun xs ys => by
      induction xs with
      | nil => simp [PyData.bulkAll]
      | cons a r ih =>
        simp only [List.cons_append, PyData.bulkAll]
        omega
    rw [← gen, List.take_append_drop]
  have h1 := sgl_take (n := k) h
  have h2 := sgl_drop (n := k) h
  exact ⟨_, _, ⟨h1.sh, h1.lv, Nat.le_refl _, h1.dp⟩, ⟨h2.sh, h2.lv, Nat.le_refl _, h2.dp⟩, by have := h.bk; omega⟩
theorem nt_app {ds es : List PyData} (h : ntB (.tuple ds) = true) (h' : ntB (.tuple es) = true) : ntB (.tuple (ds ++ es)) = true := by
  show (ds ++ es).all ntE = true
  rw [List.all_append]
  exact Bool.and_eq_true_iff.mpr ⟨h, h'⟩
theorem nt_take {ds : List PyData} {n : Nat} (h : ntB (.tuple ds) = true) : ntB (.tuple (ds.take n)) = true :=
  List.all_eq_true.mpr fun x hx => List.all_eq_true.mp (show ds.all ntE = true from h) x (List.mem_of_mem_take hx)
theorem nt_drop {ds : List PyData} {n : Nat} (h : ntB (.tuple ds) = true) : ntB (.tuple (ds.drop n)) = true :=
  List.all_eq_true.mpr fun x hx => List.all_eq_true.mp (show ds.all ntE = true from h) x (List.mem_of_mem_drop hx)
theorem nt_one {d : PyData} (h : ntB d = true) : ntB (.tuple [d]) = true := by
  show (ntE d && true) = true
  rw [nt_e h]
  rfl
theorem sgl_one {d : PyData} {b p : Nat} (h : Sg d b p) : SgL [d] (b + 1) p := (sgl_cons h (sgl_nil (b := 0))).mono (by omega) (Nat.le_refl _)
theorem bulk_len : ∀ ds : List PyData, ds.length ≤ PyData.bulkAll ds
  | [] => Nat.zero_le _
  | d :: r => by
    have := bulk_len r
    simp only [List.length_cons, PyData.bulkAll]
    omega
section
variable {P : Program} {w : World} {K : PySem.W.Frag} {mg : Str → Option Value} {base : Heap} {C NS NW0 : Addr}
def spPart : Sp := fun vs H Q _ => ∃ (p l : Addr) (v : V) (d : PyData) (b : Nat), vs = [.ref p, v] ∧ Pot H p ∧ Occ H l ∧ Dx (O2 l p H) v d ∧ Sg d b 6 ∧ b ≤ 900 ∧ ntB d = true ∧ ∀ (x : V) (d' : PyData) (H' : Hp), Dx (O2 l p H') x d' → Sg d' (b + 20) 6 → ntB d' = true → Drew p H H' → Q x H'
theorem ok_part {f : Addr} {fd : FuncData} (F : FnP K "_law_part_put" "_law_part_put" S_part_put f fd) (H_take : TakeOk P w K mg base) (H_odd : Has P w K mg base "_law_odd" S_odd 3 P_odd spOdd) (B : Blt mg) : FnOk P w K mg base CX0 4 f fd P_part_put spPart := by
  obtain ⟨f_odd, fd_odd, F_odd, b_odd, G_odd, g_odd⟩ := H_odd
  obtain ⟨f_take, fd_take, F_take, b_take, G_take, g_take⟩ := H_take
  have nd := sc_part_put.nd
  refine F.ok sc_part_put (fun vs H Q E h => ?_) (fun cdv A outer s H vs Q E hr h => ⟨_, PSs.nox (C8.pss_cut (ps_if (PW.pt (pw_or (pt_not (pt_val (pe_callB call_isi (by rfl) B.isinstance_ (by decide +kernel) (pa_cons (pv 1) (pa_cons (pe_bltn (v := .ty "tuple") (u := .type "tuple") (by rfl) B.tuple_ (by decide +kernel) rfl) pa_nil))))) (pw_or1 (pt_cmpR (op_eqNilT (hu_of hr)) (pv 1) pe_tupZ (nomark _))))) (pss_one (ps_ret (pe_call G_odd (hr.mono (by first | decide | omega)) rfl g_odd F_odd.kp b_odd .nil pass0 (pa_cons (pv 0) pa_nil)))) pss_nil)
     (pss_cons (ps_par (i := 2) (j := 3) (by rfl) nd rfl rfl (by decide) rfl rfl (pa_cons (pe_call G_take (hr.mono (by first | decide | omega)) rfl g_take F_take.kp b_take .nil pass0 (pa_cons (pv 0) (pa_cons pe_int pa_nil))) (pa_cons (pe_call G_take (hr.mono (by first | decide | omega)) rfl g_take F_take.kp b_take .nil pass0 (pa_cons (pv 0) (pa_cons (pe_callB call_len_seq (by rfl) B.len_ PySem.boot_len (pa_cons (pv 1) pa_nil)) pa_nil))) pa_nil)) (by rfl))
     (C8.pss_cut (ps_if (pt_cmpR op_eq (pv 2) pe_int (nomark _)) (pss_one (ps_ret (pe_ix ix_list (pe_lst (pa_cons (pe_callTy call_list_of (by rfl) B.list_ (by decide +kernel) (pa_cons (pv 1) pa_nil)) (pa_cons (pe_slice sl_tup (pv 1) po_none (po_some (pe_un un_neg pe_int))) (pa_cons (pe_op op_catA (pv 1) (pe_tup (pa_cons pe_int pa_nil))) (pa_cons (pe_call G_odd (hr.mono (by first | decide | omega)) rfl g_odd F_odd.kp b_odd .nil pass0 (pa_cons (pv 0) pa_nil)) pa_nil))))) (pe_call G_take (hr.mono (by first | decide | omega)) rfl g_take F_take.kp b_take .nil pass0 (pa_cons (pv 0) (pa_cons pe_int pa_nil))) (fun _ _ => rfl)))) pss_nil)
     (pss_one (ps_ret (pe_op op_catA (pe_op op_catA (pe_slice sl_tup (pv 1) po_none (po_some (pv 3))) (pe_tup (pa_cons (pe_call G_odd (hr.mono (by first | decide | omega)) rfl g_odd F_odd.kp b_odd .nil pass0 (pa_cons (pv 0) pa_nil)) pa_nil))) (pe_slice sl_tup (pv 1) (po_some (pe_op op_add (pv 3) pe_int)) po_none))))))), ?_⟩)
  · obtain ⟨p, l, v, d, b, rfl, _⟩ := h
    rfl
  · obtain ⟨p, l, v, d, b, rfl, hP, oc, hv, sg, b9, nt, q⟩ := h
    rw [show L2.start N_part_put [V.ref p, v] = [some (V.ref p), some v, none, none] from rfl]
    refine ⟨fun σ H' => Drew p H H' ∧ (∃ t us ds, v = .ref t ∧ d = .tuple ds ∧ ds ≠ [] ∧ TupY (O2 l p H') t us ∧ DxAll (O2 l p H') us ds) ∧ σ = [some (.ref p), some v, none, none], ?_, ?_⟩
    · refine ⟨_, rfl, _, _, _, _, _, rfl, .ty _, th_ty (.dx (Dx.same O2.same _ _ hv)), kit_ty (kt_tup d), _, rfl, ?_⟩
      by_cases tp : isTup d = true
      · obtain ⟨ds, rfl⟩ : ∃ ds, d = .tuple ds := by
          cases d with
          | tuple ds => exact ⟨ds, rfl⟩
          | _ => cases tp
        obtain ⟨t, us, rfl, ht, hus⟩ := dx_tupY hv
        have lu := dxall_len hus
        refine iteF ⟨_, rfl, fun z o nz dz => ?_⟩
        have s1 := same_new (o := .frz o (.tup [])) nz
        have dr1 : Drew p H (upd H z (.frz o (.tup []))) := ⟨Same.but s1, hP.same s1⟩
        refine ⟨t, z, us, rfl, rfl, ((ht.mp fun o e => s1 _ _ (O2.same _ _ e)).sq), .inl (.inr ⟨o, upd_same⟩), _, rfl, ?_⟩
        cases us with
        | nil => exact iteT ⟨_, rfl, p, l, _, rfl, dr1.2, (oc.drew dr1).choose_spec, fun x d' H' dx sg' n' _ dr => q x d' H' dx (sg'.mono (by omega) (by decide)) n' (dr1.trans dr)⟩
        | cons a r => exact iteF ⟨dr1, ⟨t, _, ds, rfl, rfl, fun e => (by rw [e] at lu; cases lu), ht.mp (fun o e => O2.mono s1 _ _ e), Dx.sameAll (O2.mono s1) _ _ hus⟩, rfl⟩
      · rw [Bool.not_eq_true] at tp
        rw [tp]
        exact iteT ⟨_, rfl, p, l, _, rfl, hP, oc.choose_spec, fun x d' H' dx sg' n' _ dr => q x d' H' dx (sg'.mono (by omega) (by decide)) n' dr⟩
    rintro σ H1 ⟨dr1, ⟨t, us, ds, rfl, rfl, ne, ht, hus⟩, rfl⟩
    have lu := dxall_len hus
    have sgl := sg_tup.mp sg
    have lb := bulk_len ds
    have lbk := sgl.bk
    have l1 : 0 < us.length := by
      cases ds with
      | nil => exact absurd rfl ne
      | cons a r => rw [lu]; exact Nat.succ_pos _
    refine ⟨_, rfl, p, 4, rfl, dr1.2, by decide, log_small (n := 4) (by decide) (by decide) (by decide), fun w H2 w0 w1 dr2 => ?_⟩
    have ht2 := ht.mp (fun o e => o2But dr2.1 _ _ e)
    refine ⟨_, rfl, _, rfl, t, us, rfl, .inr (ht2.mp O2.same').sq, p, _, rfl, dr2.2, by omega, log_small (n := 1000) (by omega) (by omega) (by decide), fun at_ H3 a0 a1 dr3 => ⟨_, _, rfl, ?_⟩⟩
    simp only [List.set]
    have dr := (dr1.trans dr2).trans dr3
    have oc3 := oc.drew dr
    have kk := o2But (l := l) (dr2.trans dr3).1
    have ht3 := ht.mp (fun o e => kk _ _ e)
    have hus3 := Dx.sameAll kk _ _ hus
    refine ⟨fun σ H4 => H4 = H3 ∧ σ = [some (.ref p), some (.ref t), some (.int w), some (.int at_)], ?_, ?_⟩
    · refine ⟨_, rfl, rfl, _, rfl, ?_⟩
      by_cases wz : w = 0
      · rw [decide_eq_true (congrArg V.int wz)]
        have sqt : SqT K H3 t us := (ht3.mp O2.same').sq
        refine iteT ⟨_, rfl, t, us, rfl, .inr sqt, fun l1' n1 => ?_⟩
        obtain ⟨s1, m1⟩ := fresh2 (o := .lst us) n1
        refine ⟨_, rfl, _, rfl, _, rfl, t, us, rfl, SqT.same sqt s1, cut_last_no l1, fun t2 n2 => ?_⟩
        rw [cut_last]
        obtain ⟨s2, m2⟩ := fresh2 (o := .tup (us.take (us.length - 1))) n2
        refine ⟨_, rfl, by show 1 ≤ sizeLine; decide, fun t3 n3 => ?_⟩
        obtain ⟨s3, m3⟩ := fresh2 (o := .tup [.int 0]) n3
        refine ⟨t, t3, us, [.int 0], rfl, rfl, SqT.same (SqT.same (SqT.same sqt s1) s2) s3, SqT.of m3, by rw [sizeLine_eq]; simp only [List.length_cons, List.length_nil]; omega, fun e => absurd e (by rintro rfl; cases l1), fun _ e => (by cases e), fun _ _ t4 n4 => ?_⟩
        obtain ⟨s4, m4⟩ := fresh2 (o := .tup (us ++ [.int 0])) n4
        have P1 := dr.2.same s1
        have P2 := P1.same s2
        have P3 := P2.same s3
        have P4 := P3.same s4
        have k1 := dr.2.ne n1
        have k2 := P1.ne n2
        have k4 := P3.ne n4
        have s24 := (s2.trans s3).trans s4
        have oc4 := oc3.same (s1.trans s24)
        have e1' := oc3.ne n1
        have e2' := (oc3.same s1).ne n2
        have e4' := (oc3.same (s1.trans (s2.trans s3))).ne n4
        refine ⟨_, rfl, p, l, _, rfl, P4, oc4.choose_spec, fun x d' H5 dx sg' n' _ dr5 => ?_⟩
        refine ⟨by show 4 ≤ sizeLine; decide, fun l5 n5 => ?_⟩
        obtain ⟨s5, m5⟩ := fresh2 (o := .lst [.ref l1', .ref t2, .ref t4, x]) n5
        have P5 := dr5.2.same s5
        refine ⟨_, rfl, p, 4, rfl, P5, by decide, log_small (n := 4) (by decide) (by decide) (by decide), fun i H6 i0 i1 dr6 => ?_⟩
        have m5 := dr6.1 _ _ (dr5.2.ne n5).symm m5
        have k56 : Same (O2 l p H5) (O2 l p H6) := (O2.mono s5).trans (o2But dr6.1)
        have k46 := (o2But dr5.1).trans k56
        have k36 : Same (O2 l p H3) (O2 l p H6) := (O2.mono (s1.trans s24)).trans k46
        have drA : Drew p H H6 := dr.trans (Drew.trans (⟨Same.but (s1.trans s24), P4⟩ : Drew p H3 _) (dr5.trans (Drew.trans (⟨Same.but s5, P5⟩ : Drew p H5 _) dr6)))
        have f1 := k46 _ _ (O2.at e1' k1.symm (s24 _ _ m1))
        have f2 := k46 _ _ (O2.at e2' k2.symm (s4 _ _ (s3 _ _ m2)))
        have f4 := k46 _ _ (O2.at e4' k4.symm m4)
        have hus6 := Dx.sameAll k36 _ _ hus3
        have ei : i = 0 ∨ i = 1 ∨ i = 2 ∨ i = 3 := by omega
        rcases ei with rfl | rfl | rfl | rfl
        · exact ⟨l5, _, 0, _, rfl, rfl, SqL.of m5, rfl, q _ (.list ds) _ (.lst f1 hus6) (sg_lst.mpr (sgl.mono (by omega) (Nat.le_refl _))) rfl drA⟩
        · refine ⟨l5, _, 1, _, rfl, rfl, SqL.of m5, rfl, q _ (.tuple (ds.take (us.length - 1))) _ (dx_new f2 (dxall_take _ hus6)) (sg_tup.mpr ((sgl_take sgl).mono (by omega) (Nat.le_refl _))) (nt_take nt) drA⟩
        · exact ⟨l5, _, 2, _, rfl, rfl, SqL.of m5, rfl, q _ (.tuple (ds ++ [.int 0])) _ (dx_new f4 (dxall_app hus6 (.cons (.int 0) .nil))) (sg_tup.mpr ((sgl_app sgl (sgl_one ((sh_int (by decide)).sg (b' := 0) (p' := 5)))).mono (by omega) (Nat.le_refl _))) (nt_app nt rfl) drA⟩
        · exact ⟨l5, _, 3, _, rfl, rfl, SqL.of m5, rfl, q _ d' _ (Dx.same k56 _ _ dx) (sg'.mono (by omega) (by decide)) n' drA⟩
      · rw [decide_eq_false fun x => wz (V.int.inj x)]
        exact iteF ⟨rfl, rfl⟩
    rintro σ H4 ⟨rfl, rfl⟩
    have sqt : SqT K H4 t us := (ht3.mp O2.same').sq
    refine ⟨_, rfl, _, rfl, _, rfl, t, us, rfl, sqt, cut_upto_no a0 (by omega), fun t1 n1 => ?_⟩
    rw [cut_upto a0]
    obtain ⟨s1, m1⟩ := fresh2 (o := .tup (us.take at_.toNat)) n1
    have P1 := dr.2.same s1
    have k1 := dr.2.ne n1
    refine ⟨_, rfl, p, l, _, rfl, P1, (oc3.same s1).choose_spec, fun x d' H5 dx sg' n' _ dr5 => ?_⟩
    have m1 := dr5.1 _ _ k1.symm m1
    refine ⟨by show 1 ≤ sizeLine; decide, fun t2 n2 => ?_⟩
    obtain ⟨s2, m2⟩ := fresh2 (o := .tup [x]) n2
    have P2 := dr5.2.same s2
    have k2 := dr5.2.ne n2
    have oc5 := (oc3.same s1).drew dr5
    have dr1 : Drew p H (upd H5 t2 (.tup [x])) := dr.trans (Drew.trans (⟨Same.but s1, P1⟩ : Drew p H4 _) (dr5.trans ⟨Same.but s2, P2⟩))
    have kk2 : Same (O2 l p H1) (O2 l p (upd H5 t2 (.tup [x]))) := kk.trans ((O2.mono s1).trans ((o2But dr5.1).trans (O2.mono s2)))
    have dx2 := Dx.same (O2.mono s2) _ _ dx
    obtain ⟨b1, b2, g1, g2', gb⟩ := sgl_split at_.toNat sgl
    have g2 : SgL (ds.drop (at_ + 1).toNat) b2 5 := by
      have e : ds.drop (at_ + 1).toNat = (ds.drop at_.toNat).drop 1 := by
        rw [List.drop_drop]
        congr 1
        omega
      rw [e]
      exact sgl_drop g2'
    refine ⟨t1, t2, us.take at_.toNat, [x], rfl, rfl, SqT.of (s2 _ _ m1), SqT.of m2, by rw [List.length_take, sizeLine_eq]; simp only [List.length_cons, List.length_nil]; omega, fun e => ?_, fun _ e => (by cases e), fun _ _ t3 n3 => ?_⟩
    · have kl := k2
      have el := oc5.ne n2
      have oc6 := oc5.same s2
      have hl6 : (upd H5 t2 (.tup [x])) t2 = some (.tup (us.take at_.toNat ++ [x])) := by rw [e]; exact m2
      have kk6 := kk2
      have dr6 := dr1
      have dx6 := dx2
      refine ⟨_, rfl, _, rfl, _, _, rfl, rfl, _, rfl, t, us, rfl, (ht.mp (fun o e => O2.same _ _ (kk6 _ _ e))).sq, cut_from_no (by omega) l1, fun t4 n4 => ?_⟩
      rw [cut_from (by omega)]
      obtain ⟨s4, m4⟩ := fresh2 (o := .tup (us.drop (at_ + 1).toNat)) n4
      have k4 := dr6.2.ne n4
      have P4 := dr6.2.same s4
      have hus4 := Dx.sameAll (kk6.trans (O2.mono s4)) _ _ hus
      have dx4 := Dx.same (O2.mono s4) _ _ dx6
      have hl4 := O2.mono s4 _ _ (O2.at el kl.symm hl6)
      refine ⟨t2, t4, us.take at_.toNat ++ [x], us.drop (at_ + 1).toNat, rfl, rfl, SqT.of (s4 _ _ hl6), SqT.of m4, by rw [List.length_append, List.length_take, List.length_drop, sizeLine_eq]; simp only [List.length_cons, List.length_nil]; omega, fun e => absurd e (by simp), fun _ e => ?_, fun _ _ t5 n5 => ?_⟩
      · refine q _ (.tuple (ds.take at_.toNat ++ [d'])) _ (dx_new hl4 (dxall_app (dxall_take _ hus4) (.cons dx4 .nil))) (sg_tup.mpr ((sgl_app g1 (sgl_one (sg'.mono (Nat.le_refl _) (by decide)))).mono (by omega) (Nat.le_refl _))) (nt_app (nt_take nt) (nt_one n')) (dr6.trans ⟨Same.but s4, P4⟩)
      · obtain ⟨s5, m5⟩ := fresh2 (o := .tup (us.take at_.toNat ++ [x] ++ us.drop (at_ + 1).toNat)) n5
        have k5 := P4.ne n5
        refine q _ (.tuple (ds.take at_.toNat ++ [d'] ++ ds.drop (at_ + 1).toNat)) _ (dx_new (O2.at ((oc6.same s4).ne n5) k5.symm m5) (Dx.sameAll (O2.mono s5) _ _ (dxall_app (dxall_app (dxall_take _ hus4) (.cons dx4 .nil)) (dxall_drop _ hus4)))) (sg_tup.mpr ((sgl_app (sgl_app g1 (sgl_one (sg'.mono (Nat.le_refl _) (by decide)))) g2).mono (by omega) (Nat.le_refl _))) (nt_app (nt_app (nt_take nt) (nt_one n')) (nt_drop nt)) (dr6.trans (Drew.trans (⟨Same.but s4, P4⟩ : Drew p _ _) ⟨Same.but s5, P4.same s5⟩))
    · obtain ⟨s3, m3⟩ := fresh2 (o := .tup (us.take at_.toNat ++ [x])) n3
      have kl := P2.ne n3
      have el := (oc5.same s2).ne n3
      have oc6 := (oc5.same s2).same s3
      have hl6 := m3
      have kk6 := kk2.trans (O2.mono s3)
      have dr6 := dr1.trans ⟨Same.but s3, P2.same s3⟩
      have dx6 := Dx.same (O2.mono s3) _ _ dx2
      refine ⟨_, rfl, _, rfl, _, _, rfl, rfl, _, rfl, t, us, rfl, (ht.mp (fun o e => O2.same _ _ (kk6 _ _ e))).sq, cut_from_no (by omega) l1, fun t4 n4 => ?_⟩
      rw [cut_from (by omega)]
      obtain ⟨s4, m4⟩ := fresh2 (o := .tup (us.drop (at_ + 1).toNat)) n4
      have k4 := dr6.2.ne n4
      have P4 := dr6.2.same s4
      have hus4 := Dx.sameAll (kk6.trans (O2.mono s4)) _ _ hus
      have dx4 := Dx.same (O2.mono s4) _ _ dx6
      have hl4 := O2.mono s4 _ _ (O2.at el kl.symm hl6)
      refine ⟨t3, t4, us.take at_.toNat ++ [x], us.drop (at_ + 1).toNat, rfl, rfl, SqT.of (s4 _ _ hl6), SqT.of m4, by rw [List.length_append, List.length_take, List.length_drop, sizeLine_eq]; simp only [List.length_cons, List.length_nil]; omega, fun e => absurd e (by simp), fun _ e => ?_, fun _ _ t5 n5 => ?_⟩
      · refine q _ (.tuple (ds.take at_.toNat ++ [d'])) _ (dx_new hl4 (dxall_app (dxall_take _ hus4) (.cons dx4 .nil))) (sg_tup.mpr ((sgl_app g1 (sgl_one (sg'.mono (Nat.le_refl _) (by decide)))).mono (by omega) (Nat.le_refl _))) (nt_app (nt_take nt) (nt_one n')) (dr6.trans ⟨Same.but s4, P4⟩)
      · obtain ⟨s5, m5⟩ := fresh2 (o := .tup (us.take at_.toNat ++ [x] ++ us.drop (at_ + 1).toNat)) n5
        have k5 := P4.ne n5
        refine q _ (.tuple (ds.take at_.toNat ++ [d'] ++ ds.drop (at_ + 1).toNat)) _ (dx_new (O2.at ((oc6.same s4).ne n5) k5.symm m5) (Dx.sameAll (O2.mono s5) _ _ (dxall_app (dxall_app (dxall_take _ hus4) (.cons dx4 .nil)) (dxall_drop _ hus4)))) (sg_tup.mpr ((sgl_app (sgl_app g1 (sgl_one (sg'.mono (Nat.le_refl _) (by decide)))) g2).mono (by omega) (Nat.le_refl _))) (nt_app (nt_app (nt_take nt) (nt_one n')) (nt_drop nt)) (dr6.trans (Drew.trans (⟨Same.but s4, P4⟩ : Drew p _ _) ⟨Same.but s5, P4.same s5⟩))
end
end Cw
namespace Cw
open PySem PySem.Spec PyProof.Rows L2
section
variable {P : Program} {w : World} {K : PySem.W.Frag} {mg : Str → Option Value} {base : Heap} {C NS NW0 : Addr}
def spPut : Sp := fun vs H Q _ => ∃ (p l : Addr) (u v : V) (r : Bool) (fs : List (Str × Int)) (ts : List Tie) (d : PyData) (b : Nat), vs = [.ref p, u, v] ∧ Pot H p ∧ Occ H l ∧ Dx (O2 l p H) u (dSpec fs ts) ∧ Specs r fs ts ∧ Dx (O2 l p H) v d ∧ Sg d b 6 ∧ b ≤ 900 ∧ ntB d = true ∧ ∀ (x : V) (d' : PyData) (H' : Hp), Dx (O2 l p H') x d' → Sg d' (b + 20) 6 → ntB d' = true → Drew p H H' → Q x H'
theorem ok_nput {f : Addr} {fd : FuncData} (F : FnP K "_law_name_put" "_law_name_put" S_name_put f fd) (H_among : Has P w K mg base "_law_among" S_among 2 P_among spAmong) (B : Blt mg) : FnOk P w K mg base CX0 3 f fd P_name_put spPut := by
  obtain ⟨f_among, fd_among, F_among, b_among, G_among, g_among⟩ := H_among
  have nd := sc_name_put.nd
  refine F.ok sc_name_put (fun vs H Q E h => ?_) (fun cdv A outer s H vs Q E hr h => ⟨_, PSs.nox (C8.pss_cut (ps_if (PW.pt (pw_or (pt_not (pt_val (pe_callB call_isi (by rfl) B.isinstance_ (by decide +kernel) (pa_cons (pv 2) (pa_cons (pe_bltn (v := .ty "tuple") (u := .type "tuple") (by rfl) B.tuple_ (by decide +kernel) rfl) pa_nil))))) (pw_or1 (pt_cmpR (op_eqNilT (hu_of hr)) (pv 2) pe_tupZ (nomark _))))) (pss_one (ps_ret (pv 2))) pss_nil)
     (pss_cons (ps_setLc (i := 3) (own := [("_law_row", 4)]) (g := gName 4) rfl nd rfl rfl (by rfl) (pi_list (pe_op op_cat (pe_ix ix_tup (pv 1) pe_int (fun _ _ => rfl)) (pe_ix ix_tup (pv 1) pe_int (fun _ _ => rfl)))) (blkOk_by (own := [("_law_row", 4)]) (N := N_name_put) (sc := defScope S_name_put) (by decide +kernel)) (fun _ _ _ _ _ => (pg_name (i := 4) nd rfl (.inl rfl))) (fun _ _ _ _ _ => pts_nil) (fun _ _ _ _ _ => (pe_ix (ix_tupK (K := K) rfl) (pv 4) pe_int (fun _ _ => rfl))))
     (pss_one (ps_ret (pe_op op_catA (pe_tup (pa_cons (pe_call G_among (hr.mono (by first | decide | omega)) rfl g_among F_among.kp b_among .nil pass0 (pa_cons (pv 0) (pa_cons (pv 3) pa_nil))) pa_nil)) (pe_slice sl_tup (pv 2) (po_some pe_int) po_none)))))), ?_⟩)
  · obtain ⟨p, l, u, v, r, fs, ts, d, b, rfl, _⟩ := h
    rfl
  · obtain ⟨p, l, u, v, r, fs, ts, d, b, rfl, hP, oc, hu, SP, hv, sg, b9, nt, q⟩ := h
    rw [show L2.start N_name_put [V.ref p, u, v] = [some (V.ref p), some u, some v, none, none] from rfl]
    refine ⟨fun σ H' => Same H H' ∧ (∃ t us ds, v = .ref t ∧ d = .tuple ds ∧ ds ≠ [] ∧ TupY H t us ∧ DxAll (O2 l p H) us ds) ∧ σ = [some (.ref p), some u, some v, none, none], ?_, ?_⟩
    · refine ⟨_, rfl, _, _, _, _, _, rfl, .ty _, th_ty (.dx (Dx.same O2.same _ _ hv)), kit_ty (kt_tup d), _, rfl, ?_⟩
      by_cases tp : isTup d = true
      · obtain ⟨ds, rfl⟩ : ∃ ds, d = .tuple ds := by
          cases d with
          | tuple ds => exact ⟨ds, rfl⟩
          | _ => cases tp
        obtain ⟨t, us, rfl, ht, hus⟩ := dx_tupY hv
        have lu := dxall_len hus
        refine iteF ⟨_, rfl, fun z o nz dz => ?_⟩
        have s1 := same_new (o := .frz o (.tup [])) nz
        have dr1 : Drew p H (upd H z (.frz o (.tup []))) := ⟨Same.but s1, hP.same s1⟩
        refine ⟨t, z, us, rfl, rfl, ((ht.mp fun o e => s1 _ _ (O2.same _ _ e)).sq), .inl (.inr ⟨o, upd_same⟩), _, rfl, ?_⟩
        cases us with
        | nil => exact iteT ⟨_, rfl, q _ _ _ (Dx.same (O2.mono s1) _ _ hv) (sg.mono (by omega) (by decide)) nt dr1⟩
        | cons a r' => exact iteF ⟨s1, ⟨t, _, ds, rfl, rfl, fun e => (by rw [e] at lu; cases lu), ht.mp (fun o e => O2.same _ _ e), hus⟩, rfl⟩
      · rw [Bool.not_eq_true] at tp
        rw [tp]
        exact iteT ⟨_, rfl, q _ d _ hv (sg.mono (by omega) (by decide)) nt ⟨fun b o _ e => e, hP⟩⟩
    rintro σ H1 ⟨s0, ⟨t, us, ds, rfl, rfl, ne, ht, hus⟩, rfl⟩
    have lu := dxall_len hus
    have sgl := sg_tup.mp sg
    have lb' := bulk_len ds
    have lbk := sgl.bk
    have l1 : 0 < us.length := by
      cases ds with
      | nil => exact absurd rfl ne
      | cons a r => rw [lu]; exact Nat.succ_pos _
    have hu0 := Dx.same O2.same _ _ hu
    obtain ⟨tu, uu, rfl, htu, huu⟩ := dx_tupY (ds := [dFolk fs, .list (ts.map dTie)]) hu0
    obtain ⟨va, vb, rfl, hva, hvb⟩ : ∃ va vb, uu = [va, vb] ∧ Dx H va (dFolk fs) ∧ Dx H vb (.list (ts.map dTie)) := by
      cases huu with
      | cons h1 h2 =>
        cases h2 with
        | cons h2 h3 =>
          cases h3
          exact ⟨_, _, rfl, h1, h2⟩
    obtain ⟨la, xa, rfl, hla, hxa⟩ := dx_list (show Dx H va (.list (fs.map dPer)) from hva)
    obtain ⟨lb, xb, rfl, hlb, hxb⟩ := dx_list hvb
    have lxa : xa.length = fs.length := by
      have := dxall_len hxa
      rw [List.length_map] at this
      exact this
    have lxb : xb.length = ts.length := by
      have := dxall_len hxb
      rw [List.length_map] at this
      exact this
    have q8 := SP.f8
    have q1 := SP.f1
    have q12 := SP.t12
    refine ⟨_, rfl, tu, _, 0, _, rfl, rfl, (htu.mp (fun o e => s0 _ _ e)).sq, rfl, _, rfl, tu, _, 1, _, rfl, rfl, (htu.mp (fun o e => s0 _ _ e)).sq, rfl, la, lb, xa, xb, rfl, rfl, s0 _ _ hla, s0 _ _ hlb, by rw [sizeLine_eq]; omega, fun lc nc => ?_⟩
    obtain ⟨s1, m1⟩ := fresh2 (o := .lst (xa ++ xb)) nc
    refine ⟨lc, rfl, ⟨_, SqL.of m1⟩, fun D nD => ?_⟩
    refine lc_map walk_list (xs := xa ++ xb) (ys := ((fs.map (·.1)) ++ ts.map (·.nm)).map V.str) nD (fun H5 s5 => SqL.of (s5 _ _ m1)) (by simp only [List.length_map, List.length_append]; omega) (by rw [List.length_append]; omega) ?_ ?_
    · intro i x y H5 k hxi hyi s5 hk
      have s05 := (s0.trans s1).trans s5
      have gen : ∃ t us z, x = .ref t ∧ H5 t = some (.tup (V.str z :: us)) ∧ y = .str z := by
        by_cases hi : i < fs.length
        · rw [List.getElem?_append_left (by omega)] at hxi
          rw [List.getElem?_map, List.getElem?_append_left (by rw [List.length_map]; exact hi), List.getElem?_map, List.getElem?_eq_getElem hi] at hyi
          cases hyi
          obtain ⟨x', e1, e2⟩ := dxall_get (i := i) hxa (by rw [List.getElem?_map, List.getElem?_eq_getElem hi]; rfl)
          have exy : x = x' := Option.some.inj (hxi.symm.trans e1)
          subst exy
          obtain ⟨t, rfl, ht⟩ := dx_per e2
          exact ⟨t, _, _, rfl, s05 _ _ ht, rfl⟩
        · rw [List.getElem?_append_right (by omega)] at hxi
          have hi2 : i - xa.length < ts.length := by
            have := (List.getElem?_eq_some_iff.mp hxi).1
            omega
          rw [List.getElem?_map, List.getElem?_append_right (by rw [List.length_map]; omega), List.length_map, ← lxa, List.getElem?_map, List.getElem?_eq_getElem hi2] at hyi
          cases hyi
          obtain ⟨x', e1, e2⟩ := dxall_get (i := i - xa.length) hxb (by rw [List.getElem?_map, List.getElem?_eq_getElem hi2]; rfl)
          have exy : x = x' := Option.some.inj (hxi.symm.trans e1)
          subst exy
          obtain ⟨t, vh, rfl, ht, _⟩ := dx_tie e2
          exact ⟨t, _, _, rfl, s05 _ _ ht, rfl⟩
      obtain ⟨t, us, z, rfl, ht, rfl⟩ := gen
      exact ⟨rfl, _, rfl, t, _, 0, _, rfl, rfl, SqT.of ht, atI_int (by decide) rfl, hk H5 fun _ _ e => e⟩
    intro H5 s5 hD
    have s05 := (s0.trans s1).trans s5
    have P5 := hP.same s05
    have kD := (hP.same (s0.trans s1)).ne nD
    have nmz : ∀ x ∈ (((fs.map (·.1)) ++ ts.map (·.nm)).map V.str), ∃ z, x = V.str z ∧ IsName z := fun x hx => by
      obtain ⟨z, hz, rfl⟩ := List.mem_map.mp hx
      rcases List.mem_append.mp hz with hz | hz
      · obtain ⟨f, hf, rfl⟩ := List.mem_map.mp hz
        exact ⟨_, rfl, SP.fo.nm f hf⟩
      · obtain ⟨t, ht, rfl⟩ := List.mem_map.mp hz
        exact ⟨_, rfl, (SP.ti t ht).nm⟩
    have ne5 : (((fs.map (·.1)) ++ ts.map (·.nm)).map V.str) ≠ [] := fun e => by
      have := congrArg List.length e
      simp only [List.length_map, List.length_append, List.length_nil] at this
      omega
    have ln5 : (((fs.map (·.1)) ++ ts.map (·.nm)).map V.str).length ≤ 1000 := by
      simp only [List.length_map, List.length_append]
      omega
    generalize (((fs.map (·.1)) ++ ts.map (·.nm)).map V.str) = zs at hD nmz ne5 ln5 ⊢
    simp only [List.set]
    refine ⟨_, rfl, _, rfl, p, D, zs, rfl, P5, kD.symm, hD, ne5, ln5, fun x hx H6 dr6 => ?_⟩
    obtain ⟨z, rfl, nz⟩ := nmz x hx
    refine ⟨by show 1 ≤ sizeLine; decide, fun t2 n2 => ?_⟩
    obtain ⟨s2, m2⟩ := fresh2 (o := .tup [.str z]) n2
    have P2 := dr6.2.same s2
    have k2 := dr6.2.ne n2
    have oc6 := (oc.same s05).drew dr6
    have e2' := oc6.ne n2
    have drH : Drew p H (upd H6 t2 (.tup [.str z])) := Drew.trans (⟨Same.but s05, P5⟩ : Drew p H H5) (dr6.trans ⟨Same.but s2, P2⟩)
    have kk := o2But (l := l) drH.1
    have tne : p ≠ t := fun e => by
      have hv' := hv
      cases hv' with
      | tup e1 _ _ => exact Off.ne (Off.same _ _ e1) e.symm
      | tupy e1 _ _ => exact e1.elim (fun e1 => Off.ne (Off.same _ _ e1) e.symm) fun ⟨_, _, e1⟩ => Off.ne (Off.same _ _ e1) e.symm
    have ht2 := ht.mp (fun o e' => drH.1 t o tne.symm e')
    refine ⟨_, rfl, _, rfl, t, us, rfl, ht2.sq, cut_from_no (by decide) l1, fun t3 n3 => ?_⟩
    rw [cut_from (by decide)]
    obtain ⟨s3, m3⟩ := fresh2 (o := .tup (us.drop (1 : Int).toNat)) n3
    have P3 := P2.same s3
    have sg1 : Sg (.str z) 8 5 := (sh_name nz).sg (by decide) (by decide)
    have drK := drH.trans ⟨Same.but s3, P3⟩
    have hus3 := dxall_drop 1 (Dx.sameAll (kk.trans (O2.mono s3)) _ _ hus)
    refine ⟨t2, t3, [.str z], us.drop (1 : Int).toNat, rfl, rfl, SqT.of (s3 _ _ m2), SqT.of m3, by rw [List.length_drop, sizeLine_eq]; simp only [List.length_cons, List.length_nil]; omega, fun e => (by cases e), fun _ e => ?_, fun _ _ t4 n4 => ?_⟩
    · refine q _ (.tuple [.str z]) _ (dx_new (O2.at e2' k2.symm (s3 _ _ m2)) (.cons (.str _) .nil)) (sg_tup.mpr ((sgl_one sg1).mono (by omega) (Nat.le_refl _))) rfl drK
    · obtain ⟨s4, m4⟩ := fresh2 (o := .tup ([.str z] ++ us.drop (1 : Int).toNat)) n4
      have k4 := P3.ne n4
      have e4' := ((oc6.same s2).same s3).ne n4
      exact q _ (.tuple ([.str z] ++ ds.drop 1)) _ (dx_new (O2.at e4' k4.symm m4) (Dx.sameAll (O2.mono s4) _ _ (dxall_app (.cons (.str _) .nil) hus3))) (sg_tup.mpr ((sgl_app (sgl_one sg1) (sgl_drop (n := 1) sgl)).mono (by omega) (Nat.le_refl _))) (nt_app (ds := [.str z]) rfl (nt_drop nt)) (drK.trans ⟨Same.but s4, P3.same s4⟩)
theorem ok_eput {f : Addr} {fd : FuncData} (F : FnP K "_law_ends_put" "_law_ends_put" S_ends_put f fd) (H_take : TakeOk P w K mg base) (H_among : Has P w K mg base "_law_among" S_among 2 P_among spAmong) (B : Blt mg) : FnOk P w K mg base CX0 3 f fd P_ends_put spPut := by
  obtain ⟨f_take, fd_take, F_take, b_take, G_take, g_take⟩ := H_take
  obtain ⟨f_among, fd_among, F_among, b_among, G_among, g_among⟩ := H_among
  have nd := sc_ends_put.nd
  refine F.ok sc_ends_put (fun vs H Q E h => ?_) (fun cdv A outer s H vs Q E hr h => ⟨_, PSs.nox (C8.pss_cut (ps_if (PW.pt (pw_or (pt_not (pt_val (pe_callB call_isi (by rfl) B.isinstance_ (by decide +kernel) (pa_cons (pv 2) (pa_cons (pe_bltn (v := .ty "tuple") (u := .type "tuple") (by rfl) B.tuple_ (by decide +kernel) rfl) pa_nil))))) (pw_or1 (pt_cmpR op_ne (pe_callB call_len_seq (by rfl) B.len_ PySem.boot_len (pa_cons (pv 2) pa_nil)) pe_int (nomark _))))) (pss_one (ps_ret (pv 2))) pss_nil)
     (pss_cons (ps_setLc (i := 3) (own := [("_law_row", 5)]) (g := gName 5) rfl nd rfl rfl (by rfl) (pi_list (pe_op op_cat (pe_ix ix_tup (pv 1) pe_int (fun _ _ => rfl)) (pe_ix ix_tup (pv 1) pe_int (fun _ _ => rfl)))) (blkOk_by (own := [("_law_row", 5)]) (N := N_ends_put) (sc := defScope S_ends_put) (by decide +kernel)) (fun _ _ _ _ _ => (pg_name (i := 5) nd rfl (.inl rfl))) (fun _ _ _ _ _ => pts_nil) (fun _ _ _ _ _ => (pe_ix (ix_tupK (K := K) rfl) (pv 5) pe_int (fun _ _ => rfl))))
     (pss_cons (ps_set (i := 4) nd rfl (.inl rfl) (pe_op op_add pe_int (pe_call G_take (hr.mono (by first | decide | omega)) rfl g_take F_take.kp b_take .nil pass0 (pa_cons (pv 0) (pa_cons pe_int pa_nil)))))
     (pss_one (ps_ret (pe_op op_catA (pe_op op_catA (pe_slice sl_tup (pv 2) po_none (po_some (pv 4))) (pe_tup (pa_cons (pe_call G_among (hr.mono (by first | decide | omega)) rfl g_among F_among.kp b_among .nil pass0 (pa_cons (pv 0) (pa_cons (pv 3) pa_nil))) pa_nil))) (pe_slice sl_tup (pv 2) (po_some (pe_op op_add (pv 4) pe_int)) po_none))))))), ?_⟩)
  · obtain ⟨p, l, u, v, r, fs, ts, d, b, rfl, _⟩ := h
    rfl
  · obtain ⟨p, l, u, v, r, fs, ts, d, b, rfl, hP, oc, hu, SP, hv, sg, b9, nt, q⟩ := h
    rw [show L2.start N_ends_put [V.ref p, u, v] = [some (V.ref p), some u, some v, none, none, none] from rfl]
    refine ⟨fun σ H' => H' = H ∧ (∃ t us ds, v = .ref t ∧ d = .tuple ds ∧ us.length = 5 ∧ TupY H t us ∧ DxAll (O2 l p H) us ds) ∧ σ = [some (.ref p), some u, some v, none, none, none], ?_, ?_⟩
    · refine ⟨_, rfl, _, _, _, _, _, rfl, .ty _, th_ty (.dx (Dx.same O2.same _ _ hv)), kit_ty (kt_tup d), _, rfl, ?_⟩
      by_cases tp : isTup d = true
      · obtain ⟨ds, rfl⟩ : ∃ ds, d = .tuple ds := by
          cases d with
          | tuple ds => exact ⟨ds, rfl⟩
          | _ => cases tp
        obtain ⟨t, us, rfl, ht, hus⟩ := dx_tupY hv
        have lu := dxall_len hus
        refine iteF ⟨_, rfl, t, us, rfl, .inr (ht.mp O2.same').sq, rfl, _, rfl, ?_⟩
        by_cases l5 : us.length = 5
        · rw [decide_eq_true (congrArg V.int (show ((us.length : Nat) : Int) = 5 by omega))]
          exact iteF ⟨rfl, ⟨t, us, ds, rfl, rfl, l5, ht.mp O2.same', hus⟩, rfl⟩
        · rw [decide_eq_false fun x => l5 (by have := V.int.inj x; omega)]
          exact iteT ⟨_, rfl, q _ _ _ hv (sg.mono (by omega) (by decide)) nt ⟨fun b o _ e => e, hP⟩⟩
      · rw [Bool.not_eq_true] at tp
        rw [tp]
        exact iteT ⟨_, rfl, q _ d _ hv (sg.mono (by omega) (by decide)) nt ⟨fun b o _ e => e, hP⟩⟩
    rintro σ H1 ⟨e1, ⟨t, us, ds, rfl, rfl, l5, ht, hus⟩, rfl⟩
    rw [e1]
    clear e1 H1
    have s0 : Same H H := fun _ _ e => e
    have lu := dxall_len hus
    have sgl := sg_tup.mp sg
    have hu0 := Dx.same O2.same _ _ hu
    obtain ⟨tu, uu, rfl, htu, huu⟩ := dx_tupY (ds := [dFolk fs, .list (ts.map dTie)]) hu0
    obtain ⟨va, vb, rfl, hva, hvb⟩ : ∃ va vb, uu = [va, vb] ∧ Dx H va (dFolk fs) ∧ Dx H vb (.list (ts.map dTie)) := by
      cases huu with
      | cons h1 h2 =>
        cases h2 with
        | cons h2 h3 =>
          cases h3
          exact ⟨_, _, rfl, h1, h2⟩
    obtain ⟨la, xa, rfl, hla, hxa⟩ := dx_list (show Dx H va (.list (fs.map dPer)) from hva)
    obtain ⟨lb, xb, rfl, hlb, hxb⟩ := dx_list hvb
    have lxa : xa.length = fs.length := by
      have := dxall_len hxa
      rw [List.length_map] at this
      exact this
    have lxb : xb.length = ts.length := by
      have := dxall_len hxb
      rw [List.length_map] at this
      exact this
    have q8 := SP.f8
    have q1 := SP.f1
    have q12 := SP.t12
    refine ⟨_, rfl, tu, _, 0, _, rfl, rfl, (htu.mp (fun o e => s0 _ _ e)).sq, rfl, _, rfl, tu, _, 1, _, rfl, rfl, (htu.mp (fun o e => s0 _ _ e)).sq, rfl, la, lb, xa, xb, rfl, rfl, s0 _ _ hla, s0 _ _ hlb, by rw [sizeLine_eq]; omega, fun lc nc => ?_⟩
    obtain ⟨s1, m1⟩ := fresh2 (o := .lst (xa ++ xb)) nc
    refine ⟨lc, rfl, ⟨_, SqL.of m1⟩, fun D nD => ?_⟩
    refine lc_map walk_list (xs := xa ++ xb) (ys := ((fs.map (·.1)) ++ ts.map (·.nm)).map V.str) nD (fun H5 s5 => SqL.of (s5 _ _ m1)) (by simp only [List.length_map, List.length_append]; omega) (by rw [List.length_append]; omega) ?_ ?_
    · intro i x y H5 k hxi hyi s5 hk
      have s05 := (s0.trans s1).trans s5
      have gen : ∃ t us z, x = .ref t ∧ H5 t = some (.tup (V.str z :: us)) ∧ y = .str z := by
        by_cases hi : i < fs.length
        · rw [List.getElem?_append_left (by omega)] at hxi
          rw [List.getElem?_map, List.getElem?_append_left (by rw [List.length_map]; exact hi), List.getElem?_map, List.getElem?_eq_getElem hi] at hyi
          cases hyi
          obtain ⟨x', e1, e2⟩ := dxall_get (i := i) hxa (by rw [List.getElem?_map, List.getElem?_eq_getElem hi]; rfl)
          have exy : x = x' := Option.some.inj (hxi.symm.trans e1)
          subst exy
          obtain ⟨t, rfl, ht⟩ := dx_per e2
          exact ⟨t, _, _, rfl, s05 _ _ ht, rfl⟩
        · rw [List.getElem?_append_right (by omega)] at hxi
          have hi2 : i - xa.length < ts.length := by
            have := (List.getElem?_eq_some_iff.mp hxi).1
            omega
          rw [List.getElem?_map, List.getElem?_append_right (by rw [List.length_map]; omega), List.length_map, ← lxa, List.getElem?_map, List.getElem?_eq_getElem hi2] at hyi
          cases hyi
          obtain ⟨x', e1, e2⟩ := dxall_get (i := i - xa.length) hxb (by rw [List.getElem?_map, List.getElem?_eq_getElem hi2]; rfl)
          have exy : x = x' := Option.some.inj (hxi.symm.trans e1)
          subst exy
          obtain ⟨t, vh, rfl, ht, _⟩ := dx_tie e2
          exact ⟨t, _, _, rfl, s05 _ _ ht, rfl⟩
      obtain ⟨t, us, z, rfl, ht, rfl⟩ := gen
      exact ⟨rfl, _, rfl, t, _, 0, _, rfl, rfl, SqT.of ht, atI_int (by decide) rfl, hk H5 fun _ _ e => e⟩
    intro H5 s5 hD
    have s05 := (s0.trans s1).trans s5
    have P5 := hP.same s05
    have kD := (hP.same (s0.trans s1)).ne nD
    have nmz : ∀ x ∈ (((fs.map (·.1)) ++ ts.map (·.nm)).map V.str), ∃ z, x = V.str z ∧ IsName z := fun x hx => by
      obtain ⟨z, hz, rfl⟩ := List.mem_map.mp hx
      rcases List.mem_append.mp hz with hz | hz
      · obtain ⟨f, hf, rfl⟩ := List.mem_map.mp hz
        exact ⟨_, rfl, SP.fo.nm f hf⟩
      · obtain ⟨t, ht, rfl⟩ := List.mem_map.mp hz
        exact ⟨_, rfl, (SP.ti t ht).nm⟩
    have ne5 : (((fs.map (·.1)) ++ ts.map (·.nm)).map V.str) ≠ [] := fun e => by
      have := congrArg List.length e
      simp only [List.length_map, List.length_append, List.length_nil] at this
      omega
    have ln5 : (((fs.map (·.1)) ++ ts.map (·.nm)).map V.str).length ≤ 1000 := by
      simp only [List.length_map, List.length_append]
      omega
    generalize (((fs.map (·.1)) ++ ts.map (·.nm)).map V.str) = zs at hD nmz ne5 ln5 ⊢
    simp only [List.set]
    refine ⟨_, rfl, p, 2, rfl, P5, by decide, log_small (n := 2) (by decide) (by decide) (by decide), fun a H7 a0 a1 dr7 => ⟨_, _, rfl, rfl, ?_⟩⟩
    have hD := dr7.1 _ _ kD.symm hD
    have dr5 : Drew p H H7 := Drew.trans (⟨Same.but s05, P5⟩ : Drew p H H5) dr7
    have tne : p ≠ t := fun e => by
      have hv' := hv
      cases hv' with
      | tup e1 _ _ => exact Off.ne (Off.same _ _ e1) e.symm
      | tupy e1 _ _ => exact e1.elim (fun e1 => Off.ne (Off.same _ _ e1) e.symm) fun ⟨_, _, e1⟩ => Off.ne (Off.same _ _ e1) e.symm
    simp only [List.set]
    refine ⟨_, rfl, _, rfl, _, rfl, t, us, rfl, (ht.mp (fun o e' => dr5.1 t o tne.symm e')).sq, cut_upto_no (by omega) (by omega), fun t1 n1 => ?_⟩
    rw [cut_upto (by omega)]
    obtain ⟨s1', m1'⟩ := fresh2 (o := .tup (us.take (1 + a).toNat)) n1
    have P1 := dr5.2.same s1'
    have k1 := dr5.2.ne n1
    refine ⟨_, rfl, _, rfl, p, D, zs, rfl, P1, kD.symm, s1' _ _ hD, ne5, ln5, fun x hx H6 dr6 => ?_⟩
    obtain ⟨z, rfl, nz⟩ := nmz x hx
    have m1' := dr6.1 _ _ k1.symm m1'
    refine ⟨by show 1 ≤ sizeLine; decide, fun t2 n2 => ?_⟩
    obtain ⟨s2, m2⟩ := fresh2 (o := .tup [.str z]) n2
    have P2 := dr6.2.same s2
    have drH : Drew p H (upd H6 t2 (.tup [.str z])) := dr5.trans (Drew.trans (⟨Same.but s1', P1⟩ : Drew p H7 _) (dr6.trans ⟨Same.but s2, P2⟩))
    have sg1 : Sg (.str z) 8 5 := (sh_name nz).sg (by decide) (by decide)
    obtain ⟨b1, b2, g1, g2', gb⟩ := sgl_split (1 + a).toNat sgl
    have g2 : SgL (ds.drop (1 + a + 1).toNat) b2 5 := by
      have e : ds.drop (1 + a + 1).toNat = (ds.drop (1 + a).toNat).drop 1 := by
        rw [List.drop_drop]
        congr 1
        omega
      rw [e]
      exact sgl_drop g2'
    refine ⟨t1, t2, us.take (1 + a).toNat, [.str z], rfl, rfl, SqT.of (s2 _ _ m1'), SqT.of m2, by rw [List.length_take, sizeLine_eq]; simp only [List.length_cons, List.length_nil]; omega, fun e => ?_, fun _ e => (by cases e), fun _ _ t3 n3 => ?_⟩
    · have := congrArg List.length e
      rw [List.length_take, List.length_nil] at this
      omega
    obtain ⟨s3, m3⟩ := fresh2 (o := .tup (us.take (1 + a).toNat ++ [.str z])) n3
    have k3 := P2.ne n3
    have e3' := (oc.drew drH).ne n3
    have P3 := P2.same s3
    have dr3 := drH.trans ⟨Same.but s3, P3⟩
    refine ⟨_, rfl, _, rfl, _, _, rfl, rfl, _, rfl, t, us, rfl, (ht.mp (fun o e' => dr3.1 t o tne.symm e')).sq, cut_from_no (by omega) (by omega), fun t4 n4 => ?_⟩
    rw [cut_from (by omega)]
    obtain ⟨s4, m4⟩ := fresh2 (o := .tup (us.drop (1 + a + 1).toNat)) n4
    have P4 := P3.same s4
    have dr4 := dr3.trans ⟨Same.but s4, P4⟩
    have hus4 := Dx.sameAll (o2But dr4.1) _ _ hus
    have hl4 := O2.at (l := l) e3' k3.symm (s4 _ _ m3)
    refine ⟨t3, t4, us.take (1 + a).toNat ++ [.str z], us.drop (1 + a + 1).toNat, rfl, rfl, SqT.of (s4 _ _ m3), SqT.of m4, by rw [List.length_append, List.length_take, List.length_drop, sizeLine_eq]; simp only [List.length_cons, List.length_nil]; omega, fun e => absurd e (by simp), fun _ e => ?_, fun _ _ t5 n5 => ?_⟩
    · exact q _ (.tuple (ds.take (1 + a).toNat ++ [.str z])) _ (dx_new hl4 (dxall_app (dxall_take _ hus4) (.cons (.str _) .nil))) (sg_tup.mpr ((sgl_app g1 (sgl_one sg1)).mono (by omega) (Nat.le_refl _))) (nt_app (nt_take nt) rfl) dr4
    · obtain ⟨s5, m5⟩ := fresh2 (o := .tup (us.take (1 + a).toNat ++ [.str z] ++ us.drop (1 + a + 1).toNat)) n5
      have k5 := P4.ne n5
      have e5' := (oc.drew dr4).ne n5
      exact q _ (.tuple (ds.take (1 + a).toNat ++ [.str z] ++ ds.drop (1 + a + 1).toNat)) _ (dx_new (O2.at e5' k5.symm m5) (Dx.sameAll (O2.mono s5) _ _ (dxall_app (dxall_app (dxall_take _ hus4) (.cons (.str _) .nil)) (dxall_drop _ hus4)))) (sg_tup.mpr ((sgl_app (sgl_app g1 (sgl_one sg1)) g2).mono (by omega) (Nat.le_refl _))) (nt_app (nt_app (nt_take nt) rfl) (nt_drop nt)) (dr4.trans ⟨Same.but s5, P4.same s5⟩)
end
end Cw
namespace Cw
open PySem PySem.Spec PyProof.Rows L2
section
variable {X : Cx}
/-- a whole number, or a truth taken for one -/
def asI (x : V) (m : Int) : Prop := x = .int m ∨ ∃ k : Bool, x = .bl k ∧ m = if k = true then 1 else 0
theorem op_addBI : OpR X (binaryOp .Add) (fun x y H Q => ∃ m j, asI x m ∧ y = .int j ∧ Q (.int (m + j)) H) := by
  intro pins s σ H x y v u Q I rx ry h
  obtain ⟨m, j, hx, rfl, q⟩ := h
  obtain ⟨t, rfl⟩ := ry
  rcases hx with rfl | ⟨k, rfl, rfl⟩
  · obtain ⟨t', rfl⟩ := rx
    exact add_int ⟨.int _, H, I.tok _, ⟨_, rfl⟩, q⟩
  · cases rx
    exact PySem.IntBool.add_bool_int ⟨.int _, H, I.tok _, ⟨_, rfl⟩, q⟩
theorem op_subBI : OpR X (binaryOp .Sub) (fun x y H Q => ∃ m j, asI x m ∧ y = .int j ∧ Q (.int (m - j)) H) := by
  intro pins s σ H x y v u Q I rx ry h
  obtain ⟨m, j, hx, rfl, q⟩ := h
  obtain ⟨t, rfl⟩ := ry
  rcases hx with rfl | ⟨k, rfl, rfl⟩
  · obtain ⟨t', rfl⟩ := rx
    exact sub_int ⟨.int _, H, I.tok _, ⟨_, rfl⟩, q⟩
  · cases rx
    exact PySem.IntBool.sub_bool_int ⟨.int _, H, I.tok _, ⟨_, rfl⟩, q⟩
end
theorem sg_far {d : PyData} (h : Sg d 0 1) : Sg (.tuple [.tuple [d, .int 1]]) 12 3 ∧ Sg (.tuple [.tuple [d, .int 2]]) 12 3 := by
  have g : ∀ j : Int, j.natAbs < 10 ^ 60 → Sg (.tuple [.tuple [d, .int j]]) 12 3 := fun j hj => sg_tup.mpr ((sgl_one (sg_tup.mpr (sgl_cons h (sgl_one ((sh_int hj).sg (b' := 0) (p' := 1) (by decide) (by decide)))))).mono (by decide) (by decide))
  exact ⟨g 1 (by decide), g 2 (by decide)⟩
section
variable {P : Program} {w : World} {K : PySem.W.Frag} {mg : Str → Option Value} {base : Heap} {C NS NW0 : Addr}
theorem ok_hput {f : Addr} {fd : FuncData} (F : FnP K "_law_hearers_put" "_law_hearers_put" S_hearers_put f fd) (H_among : Has P w K mg base "_law_among" S_among 2 P_among spAmong) (B : Blt mg) : FnOk P w K mg base CX0 3 f fd P_hearers_put spPart := by
  obtain ⟨f_among, fd_among, F_among, b_among, G_among, g_among⟩ := H_among
  have nd := sc_hearers_put.nd
  refine F.ok sc_hearers_put (fun vs H Q E h => ?_) (fun cdv A outer s H vs Q E hr h => ⟨_, PSs.nox (C8.pss_cut (ps_if (PW.pt (pw_or (pt_not (pt_val (pe_callB call_isi (by rfl) B.isinstance_ (by decide +kernel) (pa_cons (pv 1) (pa_cons (pe_bltn (v := .ty "tuple") (u := .type "tuple") (by rfl) B.tuple_ (by decide +kernel) rfl) pa_nil))))) (pw_or (pt_cmpR op_ne (pe_callB call_len_seq (by rfl) B.len_ PySem.boot_len (pa_cons (pv 1) pa_nil)) pe_int (nomark _)) (pw_or1 (pt_not (pt_val (pe_callB call_isi (by rfl) B.isinstance_ (by decide +kernel) (pa_cons (pe_ix ix_tup (pv 1) pe_int (fun _ _ => rfl)) (pa_cons (pe_bltn (v := .ty "int") (u := .type "int") (by rfl) B.int_ (by decide +kernel) rfl) pa_nil))))))))) (pss_one (ps_ret (pv 1))) pss_nil)
     (pss_cons (ps_set (i := 2) nd rfl (.inl rfl) (pe_ix ix_tup (pv 1) pe_int (fun _ _ => rfl)))
     (pss_cons (ps_set (i := 3) nd rfl (.inl rfl) (pe_lst (pa_cons (pe_tupF (pa_cons (pe_tup (pa_cons pe_int (pa_cons pe_int pa_nil))) pa_nil)) (pa_cons (pe_tupF (pa_cons (pe_tup (pa_cons (pv 2) (pa_cons pe_int pa_nil))) pa_nil)) (pa_cons (pe_tupF (pa_cons (pe_tup (pa_cons pe_int (pa_cons pe_int pa_nil))) pa_nil)) (pa_cons (pe_tupF (pa_cons (pe_tup (pa_cons pe_int (pa_cons pe_int pa_nil))) pa_nil)) (pa_cons (pe_tupF (pa_cons (pe_tup (pa_cons pe_int (pa_cons pe_bl pa_nil))) pa_nil)) (pa_cons (pe_tupF (pa_cons (pe_tup (pa_cons pe_bl (pa_cons pe_int pa_nil))) pa_nil)) (pa_cons (pe_tupF (pa_cons (pe_tup (pa_cons pe_int (pa_cons pe_int pa_nil))) (pa_cons (pe_tup (pa_cons pe_int (pa_cons pe_int pa_nil))) pa_nil))) pa_nil)))))))))
     (pss_cons (ps_set (i := 3) nd rfl (.inl rfl) (pe_op op_cat (pv 3) (pe_lst (pa_cons (pe_tupF (pa_cons (pe_tup (pa_cons pe_int (pa_cons pe_int pa_nil))) (pa_cons (pe_tup (pa_cons pe_int (pa_cons pe_int pa_nil))) pa_nil))) (pa_cons (pe_tupF (pa_cons (pe_tup (pa_cons pe_int (pa_cons pe_int (pa_cons pe_int pa_nil)))) pa_nil)) (pa_cons (pe_tup (pa_cons (pe_lst (pa_cons pe_int (pa_cons pe_int pa_nil))) pa_nil)) (pa_cons (pe_lst (pa_cons (pe_tup (pa_cons pe_int (pa_cons pe_int pa_nil))) pa_nil)) (pa_cons (pe_tupF (pa_cons (pe_tup (pa_cons pe_int (pa_cons pe_int pa_nil))) (pa_cons (pe_tup (pa_cons pe_int (pa_cons pe_int pa_nil))) pa_nil))) (pa_cons (pe_tupF (pa_cons (pe_tup (pa_cons (pe_op op_subBI (pv 2) pe_int) (pa_cons pe_int pa_nil))) pa_nil)) pa_nil)))))))))
     (pss_cons (ps_set (i := 3) nd rfl (.inl rfl) (pe_op op_cat (pv 3) (pe_lst (pa_cons (pe_tupF (pa_cons (pe_tup (pa_cons pe_str (pa_cons pe_int pa_nil))) pa_nil)) (pa_cons pe_int (pa_cons (pe_tupF (pa_cons (pe_tup (pa_cons (pe_op op_addBI (pv 2) pe_int) (pa_cons pe_int pa_nil))) pa_nil)) pa_nil))))))
     (pss_one (ps_ret (pe_op op_catA (pe_slice sl_tup (pv 1) po_none (po_some pe_int)) (pe_tup (pa_cons (pe_call G_among (hr.mono (by first | decide | omega)) rfl g_among F_among.kp b_among .nil pass0 (pa_cons (pv 0) (pa_cons (pv 3) pa_nil))) pa_nil)))))))))), ?_⟩)
  · obtain ⟨p, l, v, d, b, rfl, _⟩ := h
    rfl
  · obtain ⟨p, l, v, d, b, rfl, hP, oc, hv, sg, b9, nt, q⟩ := h
    rw [show L2.start N_hearers_put [V.ref p, v] = [some (V.ref p), some v, none, none] from rfl]
    have oc0 := oc
    obtain ⟨ol, hl⟩ := oc
    have keep : Q v H := q _ d _ hv (sg.mono (by omega) (by decide)) nt ⟨fun b o _ e => e, hP⟩
    refine ⟨fun σ H' => H' = H ∧ (∃ t u1 u2 u3 u4 u5 d1 d2 d3 d4 d5 m, v = .ref t ∧ d = .tuple [d1, d2, d3, d4, d5] ∧ TupY (O2 l p H) t [u1, u2, u3, u4, u5] ∧ DxAll (O2 l p H) [u1, u2, u3, u4, u5] [d1, d2, d3, d4, d5] ∧ asI u4 m ∧ m.natAbs < 10 ^ 41) ∧ σ = [some (.ref p), some v, none, none], ?_, ?_⟩
    · refine ⟨_, rfl, _, _, _, _, _, rfl, .ty _, th_ty (.dx (Dx.same O2.same _ _ hv)), kit_ty (kt_tup d), _, rfl, ?_⟩
      by_cases tp : isTup d = true
      · obtain ⟨ds, rfl⟩ : ∃ ds, d = .tuple ds := by
          cases d with
          | tuple ds => exact ⟨ds, rfl⟩
          | _ => cases tp
        obtain ⟨t, us, rfl, ht, hus⟩ := dx_tupY hv
        have lu := dxall_len hus
        refine iteF ⟨_, rfl, t, us, rfl, .inr (ht.mp O2.same').sq, rfl, _, rfl, ?_⟩
        by_cases l5 : us.length = 5
        · rw [decide_eq_true (congrArg V.int (show ((us.length : Nat) : Int) = 5 by omega))]
          obtain ⟨u1, u2, u3, u4, u5, rfl⟩ : ∃ u1 u2 u3 u4 u5, us = [u1, u2, u3, u4, u5] := match us, l5 with | [a, b, c, e, f], _ => ⟨a, b, c, e, f, rfl⟩
          obtain ⟨d1, d2, d3, d4, d5, rfl⟩ : ∃ d1 d2 d3 d4 d5, ds = [d1, d2, d3, d4, d5] := match ds, lu with | [a, b, c, e, f], _ => ⟨a, b, c, e, f, rfl⟩
          have h4 : Dx (O2 l p H) u4 d4 := by
            obtain ⟨x, e1, e2⟩ := dxall_get (i := 3) hus (d := d4) rfl
            cases e1
            exact e2
          have nt4 : ntE d4 = true := List.all_eq_true.mp (show [d1, d2, d3, d4, d5].all ntE = true from nt) d4 (by simp)
          refine iteF ⟨_, rfl, t, _, 3, _, rfl, rfl, (ht.mp O2.same').sq, rfl, _, _, _, _, _, rfl, .ty _, th_ty (.dx (Dx.same O2.same _ _ h4)), kit_ty (kt_int d4), _, rfl, ?_⟩
          cases d4 with
          | int i =>
            cases h4
            have nt4 := of_decide_eq_true (show decide (i.natAbs < 10 ^ 40) = true from nt4)
            exact iteF ⟨rfl, ⟨t, u1, u2, u3, .int i, u5, d1, d2, d3, .int i, d5, i, rfl, rfl, ht, hus, .inl rfl, by omega⟩, rfl⟩
          | bool k =>
            cases h4
            exact iteF ⟨rfl, ⟨t, u1, u2, u3, .bl k, u5, d1, d2, d3, .bool k, d5, _, rfl, rfl, ht, hus, .inr ⟨k, rfl, rfl⟩, by cases k <;> decide⟩, rfl⟩
          | _ => exact iteT ⟨_, rfl, keep⟩
        · rw [decide_eq_false fun x => l5 (by have := V.int.inj x; omega)]
          exact iteT ⟨_, rfl, keep⟩
      · rw [Bool.not_eq_true] at tp
        rw [tp]
        exact iteT ⟨_, rfl, keep⟩
    rintro σ H1 ⟨e1, ⟨t, u1, u2, u3, u4, u5, d1, d2, d3, d4, d5, m, rfl, rfl, ht, hus, hm, m41⟩, rfl⟩
    rw [e1]
    clear e1 H1
    have sgl := sg_tup.mp sg
    have h4 : Dx (O2 l p H) u4 d4 := by
      obtain ⟨x, e1, e2⟩ := dxall_get (i := 3) hus (d := d4) rfl
      cases e1
      exact e2
    have gfar : Sg d4 0 1 := by
      rcases hm with rfl | ⟨k, rfl, _⟩
      · cases h4
        exact (sh_int (by omega)).sg (by decide) (by decide)
      · cases h4
        exact (sh_bool k).sg (by decide) (by decide)
    have gm1 : Sg (.int (m - 1)) 0 1 := (sh_int (by omega)).sg (by decide) (by decide)
    have gm2 : Sg (.int (m + 1)) 0 1 := (sh_int (by omega)).sg (by decide) (by decide)
    refine ⟨_, rfl, t, _, 3, _, rfl, rfl, (ht.mp O2.same').sq, rfl, ?_⟩
    simp only [List.set]
    refine ⟨by show 2 ≤ sizeLine; decide, fun a1a n_a1a => ?_⟩
    obtain ⟨s_a1a, m_a1a⟩ := fresh2 (o := .tup [.int 0, .int 1]) n_a1a
    refine ⟨by show 1 ≤ sizeLine; decide, fun a1o o_a1o n_a1o d_a1o => ?_⟩
    obtain ⟨s_a1o, m_a1o⟩ := fresh2 (o := .frz o_a1o (.tup [.ref a1a])) n_a1o
    refine ⟨_, rfl, by show 2 ≤ sizeLine; decide, fun a2a n_a2a => ?_⟩
    obtain ⟨s_a2a, m_a2a⟩ := fresh2 (o := .tup [u4, .int 2]) n_a2a
    refine ⟨by show 1 ≤ sizeLine; decide, fun a2o o_a2o n_a2o d_a2o => ?_⟩
    obtain ⟨s_a2o, m_a2o⟩ := fresh2 (o := .frz o_a2o (.tup [.ref a2a])) n_a2o
    refine ⟨by show 2 ≤ sizeLine; decide, fun a3a n_a3a => ?_⟩
    obtain ⟨s_a3a, m_a3a⟩ := fresh2 (o := .tup [.int 1, .int 0]) n_a3a
    refine ⟨by show 1 ≤ sizeLine; decide, fun a3o o_a3o n_a3o d_a3o => ?_⟩
    obtain ⟨s_a3o, m_a3o⟩ := fresh2 (o := .frz o_a3o (.tup [.ref a3a])) n_a3o
    refine ⟨by show 2 ≤ sizeLine; decide, fun a4a n_a4a => ?_⟩
    obtain ⟨s_a4a, m_a4a⟩ := fresh2 (o := .tup [.int 1, .int 3]) n_a4a
    refine ⟨by show 1 ≤ sizeLine; decide, fun a4o o_a4o n_a4o d_a4o => ?_⟩
    obtain ⟨s_a4o, m_a4o⟩ := fresh2 (o := .frz o_a4o (.tup [.ref a4a])) n_a4o
    refine ⟨by show 2 ≤ sizeLine; decide, fun a5a n_a5a => ?_⟩
    obtain ⟨s_a5a, m_a5a⟩ := fresh2 (o := .tup [.int 1, .bl true]) n_a5a
    refine ⟨by show 1 ≤ sizeLine; decide, fun a5o o_a5o n_a5o d_a5o => ?_⟩
    obtain ⟨s_a5o, m_a5o⟩ := fresh2 (o := .frz o_a5o (.tup [.ref a5a])) n_a5o
    refine ⟨by show 2 ≤ sizeLine; decide, fun a6a n_a6a => ?_⟩
    obtain ⟨s_a6a, m_a6a⟩ := fresh2 (o := .tup [.bl true, .int 1]) n_a6a
    refine ⟨by show 1 ≤ sizeLine; decide, fun a6o o_a6o n_a6o d_a6o => ?_⟩
    obtain ⟨s_a6o, m_a6o⟩ := fresh2 (o := .frz o_a6o (.tup [.ref a6a])) n_a6o
    refine ⟨by show 2 ≤ sizeLine; decide, fun a7a n_a7a => ?_⟩
    obtain ⟨s_a7a, m_a7a⟩ := fresh2 (o := .tup [.int 1, .int 1]) n_a7a
    refine ⟨by show 2 ≤ sizeLine; decide, fun a7b n_a7b => ?_⟩
    obtain ⟨s_a7b, m_a7b⟩ := fresh2 (o := .tup [.int 1, .int 2]) n_a7b
    refine ⟨by show 2 ≤ sizeLine; decide, fun a7o o_a7o n_a7o d_a7o => ?_⟩
    obtain ⟨s_a7o, m_a7o⟩ := fresh2 (o := .frz o_a7o (.tup [.ref a7a, .ref a7b])) n_a7o
    refine ⟨by show 7 ≤ sizeLine; decide, fun l1 n_l1 => ?_⟩
    obtain ⟨s_l1, m_l1⟩ := fresh2 (o := .lst [.ref a1o, .ref a2o, .ref a3o, .ref a4o, .ref a5o, .ref a6o, .ref a7o]) n_l1
    simp only [List.set]
    refine ⟨_, rfl, by show 2 ≤ sizeLine; decide, fun b1a n_b1a => ?_⟩
    obtain ⟨s_b1a, m_b1a⟩ := fresh2 (o := .tup [.int 2, .int 1]) n_b1a
    refine ⟨by show 2 ≤ sizeLine; decide, fun b1b n_b1b => ?_⟩
    obtain ⟨s_b1b, m_b1b⟩ := fresh2 (o := .tup [.int 1, .int 2]) n_b1b
    refine ⟨by show 2 ≤ sizeLine; decide, fun b1o o_b1o n_b1o d_b1o => ?_⟩
    obtain ⟨s_b1o, m_b1o⟩ := fresh2 (o := .frz o_b1o (.tup [.ref b1a, .ref b1b])) n_b1o
    refine ⟨by show 3 ≤ sizeLine; decide, fun b2a n_b2a => ?_⟩
    obtain ⟨s_b2a, m_b2a⟩ := fresh2 (o := .tup [.int 1, .int 1, .int 1]) n_b2a
    refine ⟨by show 1 ≤ sizeLine; decide, fun b2o o_b2o n_b2o d_b2o => ?_⟩
    obtain ⟨s_b2o, m_b2o⟩ := fresh2 (o := .frz o_b2o (.tup [.ref b2a])) n_b2o
    refine ⟨by show 2 ≤ sizeLine; decide, fun b3a n_b3a => ?_⟩
    obtain ⟨s_b3a, m_b3a⟩ := fresh2 (o := .lst [.int 1, .int 1]) n_b3a
    refine ⟨by show 1 ≤ sizeLine; decide, fun b3o n_b3o => ?_⟩
    obtain ⟨s_b3o, m_b3o⟩ := fresh2 (o := .tup [.ref b3a]) n_b3o
    refine ⟨by show 2 ≤ sizeLine; decide, fun b4a n_b4a => ?_⟩
    obtain ⟨s_b4a, m_b4a⟩ := fresh2 (o := .tup [.int 1, .int 1]) n_b4a
    refine ⟨by show 1 ≤ sizeLine; decide, fun b4o n_b4o => ?_⟩
    obtain ⟨s_b4o, m_b4o⟩ := fresh2 (o := .lst [.ref b4a]) n_b4o
    refine ⟨by show 2 ≤ sizeLine; decide, fun b5a n_b5a => ?_⟩
    obtain ⟨s_b5a, m_b5a⟩ := fresh2 (o := .tup [.int 1, .int 1]) n_b5a
    refine ⟨by show 2 ≤ sizeLine; decide, fun b5b n_b5b => ?_⟩
    obtain ⟨s_b5b, m_b5b⟩ := fresh2 (o := .tup [.int 2, .int 2]) n_b5b
    refine ⟨by show 2 ≤ sizeLine; decide, fun b5o o_b5o n_b5o d_b5o => ?_⟩
    obtain ⟨s_b5o, m_b5o⟩ := fresh2 (o := .frz o_b5o (.tup [.ref b5a, .ref b5b])) n_b5o
    refine ⟨_, rfl, m, 1, hm, rfl, by show 2 ≤ sizeLine; decide, fun b6a n_b6a => ?_⟩
    obtain ⟨s_b6a, m_b6a⟩ := fresh2 (o := .tup [.int (m - 1), .int 2]) n_b6a
    refine ⟨by show 1 ≤ sizeLine; decide, fun b6o o_b6o n_b6o d_b6o => ?_⟩
    obtain ⟨s_b6o, m_b6o⟩ := fresh2 (o := .frz o_b6o (.tup [.ref b6a])) n_b6o
    refine ⟨by show 6 ≤ sizeLine; decide, fun l2 n_l2 => ?_⟩
    obtain ⟨s_l2, m_l2⟩ := fresh2 (o := .lst [.ref b1o, .ref b2o, .ref b3o, .ref b4o, .ref b5o, .ref b6o]) n_l2
    refine ⟨l1, l2, _, _, rfl, rfl, (s_l2 _ _ (s_b6o _ _ (s_b6a _ _ (s_b5o _ _ (s_b5b _ _ (s_b5a _ _ (s_b4o _ _ (s_b4a _ _ (s_b3o _ _ (s_b3a _ _ (s_b2o _ _ (s_b2a _ _ (s_b1o _ _ (s_b1b _ _ (s_b1a _ _ (m_l1)))))))))))))))), (m_l2), by show 13 ≤ sizeLine; decide, fun l3 n_l3 => ?_⟩
    obtain ⟨s_l3, m_l3⟩ := fresh2 (o := .lst ([.ref a1o, .ref a2o, .ref a3o, .ref a4o, .ref a5o, .ref a6o, .ref a7o] ++ [.ref b1o, .ref b2o, .ref b3o, .ref b4o, .ref b5o, .ref b6o])) n_l3
    simp only [List.set]
    refine ⟨_, rfl, by show 2 ≤ sizeLine; decide, fun c1a n_c1a => ?_⟩
    obtain ⟨s_c1a, m_c1a⟩ := fresh2 (o := .tup [.str "1", .int 1]) n_c1a
    refine ⟨by show 1 ≤ sizeLine; decide, fun c1o o_c1o n_c1o d_c1o => ?_⟩
    obtain ⟨s_c1o, m_c1o⟩ := fresh2 (o := .frz o_c1o (.tup [.ref c1a])) n_c1o
    refine ⟨_, rfl, m, 1, hm, rfl, by show 2 ≤ sizeLine; decide, fun c2a n_c2a => ?_⟩
    obtain ⟨s_c2a, m_c2a⟩ := fresh2 (o := .tup [.int (m + 1), .int 1]) n_c2a
    refine ⟨by show 1 ≤ sizeLine; decide, fun c2o o_c2o n_c2o d_c2o => ?_⟩
    obtain ⟨s_c2o, m_c2o⟩ := fresh2 (o := .frz o_c2o (.tup [.ref c2a])) n_c2o
    refine ⟨by show 3 ≤ sizeLine; decide, fun l4 n_l4 => ?_⟩
    obtain ⟨s_l4, m_l4⟩ := fresh2 (o := .lst [.ref c1o, .int 5, .ref c2o]) n_l4
    refine ⟨l3, l4, _, _, rfl, rfl, (s_l4 _ _ (s_c2o _ _ (s_c2a _ _ (s_c1o _ _ (s_c1a _ _ (m_l3)))))), (m_l4), by show 16 ≤ sizeLine; decide, fun l5 n_l5 => ?_⟩
    obtain ⟨s_l5, m_l5⟩ := fresh2 (o := .lst ([.ref a1o, .ref a2o, .ref a3o, .ref a4o, .ref a5o, .ref a6o, .ref a7o] ++ [.ref b1o, .ref b2o, .ref b3o, .ref b4o, .ref b5o, .ref b6o] ++ [.ref c1o, .int 5, .ref c2o])) n_l5
    have k_a1a := (hP).ne n_a1a
    have P_a1a := (hP).same s_a1a
    have t_a1a := s_a1a
    have e_a1a : a1a ≠ l := (ne_of_none hl n_a1a).symm
    have k_a1o := (P_a1a).ne n_a1o
    have P_a1o := (P_a1a).same s_a1o
    have t_a1o := t_a1a.trans s_a1o
    have e_a1o : a1o ≠ l := (ne_of_none (t_a1a _ _ hl) n_a1o).symm
    have k_a2a := (P_a1o).ne n_a2a
    have P_a2a := (P_a1o).same s_a2a
    have t_a2a := t_a1o.trans s_a2a
    have e_a2a : a2a ≠ l := (ne_of_none (t_a1o _ _ hl) n_a2a).symm
    have k_a2o := (P_a2a).ne n_a2o
    have P_a2o := (P_a2a).same s_a2o
    have t_a2o := t_a2a.trans s_a2o
    have e_a2o : a2o ≠ l := (ne_of_none (t_a2a _ _ hl) n_a2o).symm
    have k_a3a := (P_a2o).ne n_a3a
    have P_a3a := (P_a2o).same s_a3a
    have t_a3a := t_a2o.trans s_a3a
    have e_a3a : a3a ≠ l := (ne_of_none (t_a2o _ _ hl) n_a3a).symm
    have k_a3o := (P_a3a).ne n_a3o
    have P_a3o := (P_a3a).same s_a3o
    have t_a3o := t_a3a.trans s_a3o
    have e_a3o : a3o ≠ l := (ne_of_none (t_a3a _ _ hl) n_a3o).symm
    have k_a4a := (P_a3o).ne n_a4a
    have P_a4a := (P_a3o).same s_a4a
    have t_a4a := t_a3o.trans s_a4a
    have e_a4a : a4a ≠ l := (ne_of_none (t_a3o _ _ hl) n_a4a).symm
    have k_a4o := (P_a4a).ne n_a4o
    have P_a4o := (P_a4a).same s_a4o
    have t_a4o := t_a4a.trans s_a4o
    have e_a4o : a4o ≠ l := (ne_of_none (t_a4a _ _ hl) n_a4o).symm
    have k_a5a := (P_a4o).ne n_a5a
    have P_a5a := (P_a4o).same s_a5a
    have t_a5a := t_a4o.trans s_a5a
    have e_a5a : a5a ≠ l := (ne_of_none (t_a4o _ _ hl) n_a5a).symm
    have k_a5o := (P_a5a).ne n_a5o
    have P_a5o := (P_a5a).same s_a5o
    have t_a5o := t_a5a.trans s_a5o
    have e_a5o : a5o ≠ l := (ne_of_none (t_a5a _ _ hl) n_a5o).symm
    have k_a6a := (P_a5o).ne n_a6a
    have P_a6a := (P_a5o).same s_a6a
    have t_a6a := t_a5o.trans s_a6a
    have e_a6a : a6a ≠ l := (ne_of_none (t_a5o _ _ hl) n_a6a).symm
    have k_a6o := (P_a6a).ne n_a6o
    have P_a6o := (P_a6a).same s_a6o
    have t_a6o := t_a6a.trans s_a6o
    have e_a6o : a6o ≠ l := (ne_of_none (t_a6a _ _ hl) n_a6o).symm
    have k_a7a := (P_a6o).ne n_a7a
    have P_a7a := (P_a6o).same s_a7a
    have t_a7a := t_a6o.trans s_a7a
    have e_a7a : a7a ≠ l := (ne_of_none (t_a6o _ _ hl) n_a7a).symm
    have k_a7b := (P_a7a).ne n_a7b
    have P_a7b := (P_a7a).same s_a7b
    have t_a7b := t_a7a.trans s_a7b
    have e_a7b : a7b ≠ l := (ne_of_none (t_a7a _ _ hl) n_a7b).symm
    have k_a7o := (P_a7b).ne n_a7o
    have P_a7o := (P_a7b).same s_a7o
    have t_a7o := t_a7b.trans s_a7o
    have e_a7o : a7o ≠ l := (ne_of_none (t_a7b _ _ hl) n_a7o).symm
    have k_l1 := (P_a7o).ne n_l1
    have P_l1 := (P_a7o).same s_l1
    have t_l1 := t_a7o.trans s_l1
    have e_l1 : l1 ≠ l := (ne_of_none (t_a7o _ _ hl) n_l1).symm
    have k_b1a := (P_l1).ne n_b1a
    have P_b1a := (P_l1).same s_b1a
    have t_b1a := t_l1.trans s_b1a
    have e_b1a : b1a ≠ l := (ne_of_none (t_l1 _ _ hl) n_b1a).symm
    have k_b1b := (P_b1a).ne n_b1b
    have P_b1b := (P_b1a).same s_b1b
    have t_b1b := t_b1a.trans s_b1b
    have e_b1b : b1b ≠ l := (ne_of_none (t_b1a _ _ hl) n_b1b).symm
    have k_b1o := (P_b1b).ne n_b1o
    have P_b1o := (P_b1b).same s_b1o
    have t_b1o := t_b1b.trans s_b1o
    have e_b1o : b1o ≠ l := (ne_of_none (t_b1b _ _ hl) n_b1o).symm
    have k_b2a := (P_b1o).ne n_b2a
    have P_b2a := (P_b1o).same s_b2a
    have t_b2a := t_b1o.trans s_b2a
    have e_b2a : b2a ≠ l := (ne_of_none (t_b1o _ _ hl) n_b2a).symm
    have k_b2o := (P_b2a).ne n_b2o
    have P_b2o := (P_b2a).same s_b2o
    have t_b2o := t_b2a.trans s_b2o
    have e_b2o : b2o ≠ l := (ne_of_none (t_b2a _ _ hl) n_b2o).symm
    have k_b3a := (P_b2o).ne n_b3a
    have P_b3a := (P_b2o).same s_b3a
    have t_b3a := t_b2o.trans s_b3a
    have e_b3a : b3a ≠ l := (ne_of_none (t_b2o _ _ hl) n_b3a).symm
    have k_b3o := (P_b3a).ne n_b3o
    have P_b3o := (P_b3a).same s_b3o
    have t_b3o := t_b3a.trans s_b3o
    have e_b3o : b3o ≠ l := (ne_of_none (t_b3a _ _ hl) n_b3o).symm
    have k_b4a := (P_b3o).ne n_b4a
    have P_b4a := (P_b3o).same s_b4a
    have t_b4a := t_b3o.trans s_b4a
    have e_b4a : b4a ≠ l := (ne_of_none (t_b3o _ _ hl) n_b4a).symm
    have k_b4o := (P_b4a).ne n_b4o
    have P_b4o := (P_b4a).same s_b4o
    have t_b4o := t_b4a.trans s_b4o
    have e_b4o : b4o ≠ l := (ne_of_none (t_b4a _ _ hl) n_b4o).symm
    have k_b5a := (P_b4o).ne n_b5a
    have P_b5a := (P_b4o).same s_b5a
    have t_b5a := t_b4o.trans s_b5a
    have e_b5a : b5a ≠ l := (ne_of_none (t_b4o _ _ hl) n_b5a).symm
    have k_b5b := (P_b5a).ne n_b5b
    have P_b5b := (P_b5a).same s_b5b
    have t_b5b := t_b5a.trans s_b5b
    have e_b5b : b5b ≠ l := (ne_of_none (t_b5a _ _ hl) n_b5b).symm
    have k_b5o := (P_b5b).ne n_b5o
    have P_b5o := (P_b5b).same s_b5o
    have t_b5o := t_b5b.trans s_b5o
    have e_b5o : b5o ≠ l := (ne_of_none (t_b5b _ _ hl) n_b5o).symm
    have k_b6a := (P_b5o).ne n_b6a
    have P_b6a := (P_b5o).same s_b6a
    have t_b6a := t_b5o.trans s_b6a
    have e_b6a : b6a ≠ l := (ne_of_none (t_b5o _ _ hl) n_b6a).symm
    have k_b6o := (P_b6a).ne n_b6o
    have P_b6o := (P_b6a).same s_b6o
    have t_b6o := t_b6a.trans s_b6o
    have e_b6o : b6o ≠ l := (ne_of_none (t_b6a _ _ hl) n_b6o).symm
    have k_l2 := (P_b6o).ne n_l2
    have P_l2 := (P_b6o).same s_l2
    have t_l2 := t_b6o.trans s_l2
    have e_l2 : l2 ≠ l := (ne_of_none (t_b6o _ _ hl) n_l2).symm
    have k_l3 := (P_l2).ne n_l3
    have P_l3 := (P_l2).same s_l3
    have t_l3 := t_l2.trans s_l3
    have e_l3 : l3 ≠ l := (ne_of_none (t_l2 _ _ hl) n_l3).symm
    have k_c1a := (P_l3).ne n_c1a
    have P_c1a := (P_l3).same s_c1a
    have t_c1a := t_l3.trans s_c1a
    have e_c1a : c1a ≠ l := (ne_of_none (t_l3 _ _ hl) n_c1a).symm
    have k_c1o := (P_c1a).ne n_c1o
    have P_c1o := (P_c1a).same s_c1o
    have t_c1o := t_c1a.trans s_c1o
    have e_c1o : c1o ≠ l := (ne_of_none (t_c1a _ _ hl) n_c1o).symm
    have k_c2a := (P_c1o).ne n_c2a
    have P_c2a := (P_c1o).same s_c2a
    have t_c2a := t_c1o.trans s_c2a
    have e_c2a : c2a ≠ l := (ne_of_none (t_c1o _ _ hl) n_c2a).symm
    have k_c2o := (P_c2a).ne n_c2o
    have P_c2o := (P_c2a).same s_c2o
    have t_c2o := t_c2a.trans s_c2o
    have e_c2o : c2o ≠ l := (ne_of_none (t_c2a _ _ hl) n_c2o).symm
    have k_l4 := (P_c2o).ne n_l4
    have P_l4 := (P_c2o).same s_l4
    have t_l4 := t_c2o.trans s_l4
    have e_l4 : l4 ≠ l := (ne_of_none (t_c2o _ _ hl) n_l4).symm
    have k_l5 := (P_l4).ne n_l5
    have P_l5 := (P_l4).same s_l5
    have t_l5 := t_l4.trans s_l5
    have e_l5 : l5 ≠ l := (ne_of_none (t_l4 _ _ hl) n_l5).symm
    have m_a1a := (s_l5 _ _ (s_l4 _ _ (s_c2o _ _ (s_c2a _ _ (s_c1o _ _ (s_c1a _ _ (s_l3 _ _ (s_l2 _ _ (s_b6o _ _ (s_b6a _ _ (s_b5o _ _ (s_b5b _ _ (s_b5a _ _ (s_b4o _ _ (s_b4a _ _ (s_b3o _ _ (s_b3a _ _ (s_b2o _ _ (s_b2a _ _ (s_b1o _ _ (s_b1b _ _ (s_b1a _ _ (s_l1 _ _ (s_a7o _ _ (s_a7b _ _ (s_a7a _ _ (s_a6o _ _ (s_a6a _ _ (s_a5o _ _ (s_a5a _ _ (s_a4o _ _ (s_a4a _ _ (s_a3o _ _ (s_a3a _ _ (s_a2o _ _ (s_a2a _ _ (s_a1o _ _ (m_a1a))))))))))))))))))))))))))))))))))))))
    have m_a1o := (s_l5 _ _ (s_l4 _ _ (s_c2o _ _ (s_c2a _ _ (s_c1o _ _ (s_c1a _ _ (s_l3 _ _ (s_l2 _ _ (s_b6o _ _ (s_b6a _ _ (s_b5o _ _ (s_b5b _ _ (s_b5a _ _ (s_b4o _ _ (s_b4a _ _ (s_b3o _ _ (s_b3a _ _ (s_b2o _ _ (s_b2a _ _ (s_b1o _ _ (s_b1b _ _ (s_b1a _ _ (s_l1 _ _ (s_a7o _ _ (s_a7b _ _ (s_a7a _ _ (s_a6o _ _ (s_a6a _ _ (s_a5o _ _ (s_a5a _ _ (s_a4o _ _ (s_a4a _ _ (s_a3o _ _ (s_a3a _ _ (s_a2o _ _ (s_a2a _ _ (m_a1o)))))))))))))))))))))))))))))))))))))
    have m_a2a := (s_l5 _ _ (s_l4 _ _ (s_c2o _ _ (s_c2a _ _ (s_c1o _ _ (s_c1a _ _ (s_l3 _ _ (s_l2 _ _ (s_b6o _ _ (s_b6a _ _ (s_b5o _ _ (s_b5b _ _ (s_b5a _ _ (s_b4o _ _ (s_b4a _ _ (s_b3o _ _ (s_b3a _ _ (s_b2o _ _ (s_b2a _ _ (s_b1o _ _ (s_b1b _ _ (s_b1a _ _ (s_l1 _ _ (s_a7o _ _ (s_a7b _ _ (s_a7a _ _ (s_a6o _ _ (s_a6a _ _ (s_a5o _ _ (s_a5a _ _ (s_a4o _ _ (s_a4a _ _ (s_a3o _ _ (s_a3a _ _ (s_a2o _ _ (m_a2a))))))))))))))))))))))))))))))))))))
    have m_a2o := (s_l5 _ _ (s_l4 _ _ (s_c2o _ _ (s_c2a _ _ (s_c1o _ _ (s_c1a _ _ (s_l3 _ _ (s_l2 _ _ (s_b6o _ _ (s_b6a _ _ (s_b5o _ _ (s_b5b _ _ (s_b5a _ _ (s_b4o _ _ (s_b4a _ _ (s_b3o _ _ (s_b3a _ _ (s_b2o _ _ (s_b2a _ _ (s_b1o _ _ (s_b1b _ _ (s_b1a _ _ (s_l1 _ _ (s_a7o _ _ (s_a7b _ _ (s_a7a _ _ (s_a6o _ _ (s_a6a _ _ (s_a5o _ _ (s_a5a _ _ (s_a4o _ _ (s_a4a _ _ (s_a3o _ _ (s_a3a _ _ (m_a2o)))))))))))))))))))))))))))))))))))
    have m_a3a := (s_l5 _ _ (s_l4 _ _ (s_c2o _ _ (s_c2a _ _ (s_c1o _ _ (s_c1a _ _ (s_l3 _ _ (s_l2 _ _ (s_b6o _ _ (s_b6a _ _ (s_b5o _ _ (s_b5b _ _ (s_b5a _ _ (s_b4o _ _ (s_b4a _ _ (s_b3o _ _ (s_b3a _ _ (s_b2o _ _ (s_b2a _ _ (s_b1o _ _ (s_b1b _ _ (s_b1a _ _ (s_l1 _ _ (s_a7o _ _ (s_a7b _ _ (s_a7a _ _ (s_a6o _ _ (s_a6a _ _ (s_a5o _ _ (s_a5a _ _ (s_a4o _ _ (s_a4a _ _ (s_a3o _ _ (m_a3a))))))))))))))))))))))))))))))))))
    have m_a3o := (s_l5 _ _ (s_l4 _ _ (s_c2o _ _ (s_c2a _ _ (s_c1o _ _ (s_c1a _ _ (s_l3 _ _ (s_l2 _ _ (s_b6o _ _ (s_b6a _ _ (s_b5o _ _ (s_b5b _ _ (s_b5a _ _ (s_b4o _ _ (s_b4a _ _ (s_b3o _ _ (s_b3a _ _ (s_b2o _ _ (s_b2a _ _ (s_b1o _ _ (s_b1b _ _ (s_b1a _ _ (s_l1 _ _ (s_a7o _ _ (s_a7b _ _ (s_a7a _ _ (s_a6o _ _ (s_a6a _ _ (s_a5o _ _ (s_a5a _ _ (s_a4o _ _ (s_a4a _ _ (m_a3o)))))))))))))))))))))))))))))))))
    have m_a4a := (s_l5 _ _ (s_l4 _ _ (s_c2o _ _ (s_c2a _ _ (s_c1o _ _ (s_c1a _ _ (s_l3 _ _ (s_l2 _ _ (s_b6o _ _ (s_b6a _ _ (s_b5o _ _ (s_b5b _ _ (s_b5a _ _ (s_b4o _ _ (s_b4a _ _ (s_b3o _ _ (s_b3a _ _ (s_b2o _ _ (s_b2a _ _ (s_b1o _ _ (s_b1b _ _ (s_b1a _ _ (s_l1 _ _ (s_a7o _ _ (s_a7b _ _ (s_a7a _ _ (s_a6o _ _ (s_a6a _ _ (s_a5o _ _ (s_a5a _ _ (s_a4o _ _ (m_a4a))))))))))))))))))))))))))))))))
    have m_a4o := (s_l5 _ _ (s_l4 _ _ (s_c2o _ _ (s_c2a _ _ (s_c1o _ _ (s_c1a _ _ (s_l3 _ _ (s_l2 _ _ (s_b6o _ _ (s_b6a _ _ (s_b5o _ _ (s_b5b _ _ (s_b5a _ _ (s_b4o _ _ (s_b4a _ _ (s_b3o _ _ (s_b3a _ _ (s_b2o _ _ (s_b2a _ _ (s_b1o _ _ (s_b1b _ _ (s_b1a _ _ (s_l1 _ _ (s_a7o _ _ (s_a7b _ _ (s_a7a _ _ (s_a6o _ _ (s_a6a _ _ (s_a5o _ _ (s_a5a _ _ (m_a4o)))))))))))))))))))))))))))))))
    have m_a5a := (s_l5 _ _ (s_l4 _ _ (s_c2o _ _ (s_c2a _ _ (s_c1o _ _ (s_c1a _ _ (s_l3 _ _ (s_l2 _ _ (s_b6o _ _ (s_b6a _ _ (s_b5o _ _ (s_b5b _ _ (s_b5a _ _ (s_b4o _ _ (s_b4a _ _ (s_b3o _ _ (s_b3a _ _ (s_b2o _ _ (s_b2a _ _ (s_b1o _ _ (s_b1b _ _ (s_b1a _ _ (s_l1 _ _ (s_a7o _ _ (s_a7b _ _ (s_a7a _ _ (s_a6o _ _ (s_a6a _ _ (s_a5o _ _ (m_a5a))))))))))))))))))))))))))))))
    have m_a5o := (s_l5 _ _ (s_l4 _ _ (s_c2o _ _ (s_c2a _ _ (s_c1o _ _ (s_c1a _ _ (s_l3 _ _ (s_l2 _ _ (s_b6o _ _ (s_b6a _ _ (s_b5o _ _ (s_b5b _ _ (s_b5a _ _ (s_b4o _ _ (s_b4a _ _ (s_b3o _ _ (s_b3a _ _ (s_b2o _ _ (s_b2a _ _ (s_b1o _ _ (s_b1b _ _ (s_b1a _ _ (s_l1 _ _ (s_a7o _ _ (s_a7b _ _ (s_a7a _ _ (s_a6o _ _ (s_a6a _ _ (m_a5o)))))))))))))))))))))))))))))
    have m_a6a := (s_l5 _ _ (s_l4 _ _ (s_c2o _ _ (s_c2a _ _ (s_c1o _ _ (s_c1a _ _ (s_l3 _ _ (s_l2 _ _ (s_b6o _ _ (s_b6a _ _ (s_b5o _ _ (s_b5b _ _ (s_b5a _ _ (s_b4o _ _ (s_b4a _ _ (s_b3o _ _ (s_b3a _ _ (s_b2o _ _ (s_b2a _ _ (s_b1o _ _ (s_b1b _ _ (s_b1a _ _ (s_l1 _ _ (s_a7o _ _ (s_a7b _ _ (s_a7a _ _ (s_a6o _ _ (m_a6a))))))))))))))))))))))))))))
    have m_a6o := (s_l5 _ _ (s_l4 _ _ (s_c2o _ _ (s_c2a _ _ (s_c1o _ _ (s_c1a _ _ (s_l3 _ _ (s_l2 _ _ (s_b6o _ _ (s_b6a _ _ (s_b5o _ _ (s_b5b _ _ (s_b5a _ _ (s_b4o _ _ (s_b4a _ _ (s_b3o _ _ (s_b3a _ _ (s_b2o _ _ (s_b2a _ _ (s_b1o _ _ (s_b1b _ _ (s_b1a _ _ (s_l1 _ _ (s_a7o _ _ (s_a7b _ _ (s_a7a _ _ (m_a6o)))))))))))))))))))))))))))
    have m_a7a := (s_l5 _ _ (s_l4 _ _ (s_c2o _ _ (s_c2a _ _ (s_c1o _ _ (s_c1a _ _ (s_l3 _ _ (s_l2 _ _ (s_b6o _ _ (s_b6a _ _ (s_b5o _ _ (s_b5b _ _ (s_b5a _ _ (s_b4o _ _ (s_b4a _ _ (s_b3o _ _ (s_b3a _ _ (s_b2o _ _ (s_b2a _ _ (s_b1o _ _ (s_b1b _ _ (s_b1a _ _ (s_l1 _ _ (s_a7o _ _ (s_a7b _ _ (m_a7a))))))))))))))))))))))))))
    have m_a7b := (s_l5 _ _ (s_l4 _ _ (s_c2o _ _ (s_c2a _ _ (s_c1o _ _ (s_c1a _ _ (s_l3 _ _ (s_l2 _ _ (s_b6o _ _ (s_b6a _ _ (s_b5o _ _ (s_b5b _ _ (s_b5a _ _ (s_b4o _ _ (s_b4a _ _ (s_b3o _ _ (s_b3a _ _ (s_b2o _ _ (s_b2a _ _ (s_b1o _ _ (s_b1b _ _ (s_b1a _ _ (s_l1 _ _ (s_a7o _ _ (m_a7b)))))))))))))))))))))))))
    have m_a7o := (s_l5 _ _ (s_l4 _ _ (s_c2o _ _ (s_c2a _ _ (s_c1o _ _ (s_c1a _ _ (s_l3 _ _ (s_l2 _ _ (s_b6o _ _ (s_b6a _ _ (s_b5o _ _ (s_b5b _ _ (s_b5a _ _ (s_b4o _ _ (s_b4a _ _ (s_b3o _ _ (s_b3a _ _ (s_b2o _ _ (s_b2a _ _ (s_b1o _ _ (s_b1b _ _ (s_b1a _ _ (s_l1 _ _ (m_a7o))))))))))))))))))))))))
    have m_l1 := (s_l5 _ _ (s_l4 _ _ (s_c2o _ _ (s_c2a _ _ (s_c1o _ _ (s_c1a _ _ (s_l3 _ _ (s_l2 _ _ (s_b6o _ _ (s_b6a _ _ (s_b5o _ _ (s_b5b _ _ (s_b5a _ _ (s_b4o _ _ (s_b4a _ _ (s_b3o _ _ (s_b3a _ _ (s_b2o _ _ (s_b2a _ _ (s_b1o _ _ (s_b1b _ _ (s_b1a _ _ (m_l1)))))))))))))))))))))))
    have m_b1a := (s_l5 _ _ (s_l4 _ _ (s_c2o _ _ (s_c2a _ _ (s_c1o _ _ (s_c1a _ _ (s_l3 _ _ (s_l2 _ _ (s_b6o _ _ (s_b6a _ _ (s_b5o _ _ (s_b5b _ _ (s_b5a _ _ (s_b4o _ _ (s_b4a _ _ (s_b3o _ _ (s_b3a _ _ (s_b2o _ _ (s_b2a _ _ (s_b1o _ _ (s_b1b _ _ (m_b1a))))))))))))))))))))))
    have m_b1b := (s_l5 _ _ (s_l4 _ _ (s_c2o _ _ (s_c2a _ _ (s_c1o _ _ (s_c1a _ _ (s_l3 _ _ (s_l2 _ _ (s_b6o _ _ (s_b6a _ _ (s_b5o _ _ (s_b5b _ _ (s_b5a _ _ (s_b4o _ _ (s_b4a _ _ (s_b3o _ _ (s_b3a _ _ (s_b2o _ _ (s_b2a _ _ (s_b1o _ _ (m_b1b)))))))))))))))))))))
    have m_b1o := (s_l5 _ _ (s_l4 _ _ (s_c2o _ _ (s_c2a _ _ (s_c1o _ _ (s_c1a _ _ (s_l3 _ _ (s_l2 _ _ (s_b6o _ _ (s_b6a _ _ (s_b5o _ _ (s_b5b _ _ (s_b5a _ _ (s_b4o _ _ (s_b4a _ _ (s_b3o _ _ (s_b3a _ _ (s_b2o _ _ (s_b2a _ _ (m_b1o))))))))))))))))))))
    have m_b2a := (s_l5 _ _ (s_l4 _ _ (s_c2o _ _ (s_c2a _ _ (s_c1o _ _ (s_c1a _ _ (s_l3 _ _ (s_l2 _ _ (s_b6o _ _ (s_b6a _ _ (s_b5o _ _ (s_b5b _ _ (s_b5a _ _ (s_b4o _ _ (s_b4a _ _ (s_b3o _ _ (s_b3a _ _ (s_b2o _ _ (m_b2a)))))))))))))))))))
    have m_b2o := (s_l5 _ _ (s_l4 _ _ (s_c2o _ _ (s_c2a _ _ (s_c1o _ _ (s_c1a _ _ (s_l3 _ _ (s_l2 _ _ (s_b6o _ _ (s_b6a _ _ (s_b5o _ _ (s_b5b _ _ (s_b5a _ _ (s_b4o _ _ (s_b4a _ _ (s_b3o _ _ (s_b3a _ _ (m_b2o))))))))))))))))))
    have m_b3a := (s_l5 _ _ (s_l4 _ _ (s_c2o _ _ (s_c2a _ _ (s_c1o _ _ (s_c1a _ _ (s_l3 _ _ (s_l2 _ _ (s_b6o _ _ (s_b6a _ _ (s_b5o _ _ (s_b5b _ _ (s_b5a _ _ (s_b4o _ _ (s_b4a _ _ (s_b3o _ _ (m_b3a)))))))))))))))))
    have m_b3o := (s_l5 _ _ (s_l4 _ _ (s_c2o _ _ (s_c2a _ _ (s_c1o _ _ (s_c1a _ _ (s_l3 _ _ (s_l2 _ _ (s_b6o _ _ (s_b6a _ _ (s_b5o _ _ (s_b5b _ _ (s_b5a _ _ (s_b4o _ _ (s_b4a _ _ (m_b3o))))))))))))))))
    have m_b4a := (s_l5 _ _ (s_l4 _ _ (s_c2o _ _ (s_c2a _ _ (s_c1o _ _ (s_c1a _ _ (s_l3 _ _ (s_l2 _ _ (s_b6o _ _ (s_b6a _ _ (s_b5o _ _ (s_b5b _ _ (s_b5a _ _ (s_b4o _ _ (m_b4a)))))))))))))))
    have m_b4o := (s_l5 _ _ (s_l4 _ _ (s_c2o _ _ (s_c2a _ _ (s_c1o _ _ (s_c1a _ _ (s_l3 _ _ (s_l2 _ _ (s_b6o _ _ (s_b6a _ _ (s_b5o _ _ (s_b5b _ _ (s_b5a _ _ (m_b4o))))))))))))))
    have m_b5a := (s_l5 _ _ (s_l4 _ _ (s_c2o _ _ (s_c2a _ _ (s_c1o _ _ (s_c1a _ _ (s_l3 _ _ (s_l2 _ _ (s_b6o _ _ (s_b6a _ _ (s_b5o _ _ (s_b5b _ _ (m_b5a)))))))))))))
    have m_b5b := (s_l5 _ _ (s_l4 _ _ (s_c2o _ _ (s_c2a _ _ (s_c1o _ _ (s_c1a _ _ (s_l3 _ _ (s_l2 _ _ (s_b6o _ _ (s_b6a _ _ (s_b5o _ _ (m_b5b))))))))))))
    have m_b5o := (s_l5 _ _ (s_l4 _ _ (s_c2o _ _ (s_c2a _ _ (s_c1o _ _ (s_c1a _ _ (s_l3 _ _ (s_l2 _ _ (s_b6o _ _ (s_b6a _ _ (m_b5o)))))))))))
    have m_b6a := (s_l5 _ _ (s_l4 _ _ (s_c2o _ _ (s_c2a _ _ (s_c1o _ _ (s_c1a _ _ (s_l3 _ _ (s_l2 _ _ (s_b6o _ _ (m_b6a))))))))))
    have m_b6o := (s_l5 _ _ (s_l4 _ _ (s_c2o _ _ (s_c2a _ _ (s_c1o _ _ (s_c1a _ _ (s_l3 _ _ (s_l2 _ _ (m_b6o)))))))))
    have m_l2 := (s_l5 _ _ (s_l4 _ _ (s_c2o _ _ (s_c2a _ _ (s_c1o _ _ (s_c1a _ _ (s_l3 _ _ (m_l2))))))))
    have m_l3 := (s_l5 _ _ (s_l4 _ _ (s_c2o _ _ (s_c2a _ _ (s_c1o _ _ (s_c1a _ _ (m_l3)))))))
    have m_c1a := (s_l5 _ _ (s_l4 _ _ (s_c2o _ _ (s_c2a _ _ (s_c1o _ _ (m_c1a))))))
    have m_c1o := (s_l5 _ _ (s_l4 _ _ (s_c2o _ _ (s_c2a _ _ (m_c1o)))))
    have m_c2a := (s_l5 _ _ (s_l4 _ _ (s_c2o _ _ (m_c2a))))
    have m_c2o := (s_l5 _ _ (s_l4 _ _ (m_c2o)))
    have m_l4 := (s_l5 _ _ (m_l4))
    have m_l5 := (m_l5)
    have P_all := P_l5
    have s_all := t_l5
    simp only [List.set]
    have htA := ht.mp (O2.mono s_all t)
    refine ⟨_, rfl, _, rfl, t, _, rfl, (htA.mp O2.same').sq, cut_upto_no (by decide) (by show (4 : Int) < 5; decide), fun t1 n1 => ?_⟩
    rw [cut_upto (by decide)]
    obtain ⟨s1', m1'⟩ := fresh2 (o := .tup ([u1, u2, u3, u4, u5].take (4 : Int).toNat)) n1
    have P1 := P_all.same s1'
    have k1 := P_all.ne n1
    refine ⟨_, rfl, _, rfl, p, l5, _, rfl, P1, k_l5.symm, s1' _ _ m_l5, by simp, by simp, fun x hx H6 dr => ?_⟩
    have m1' := dr.1 _ _ k1.symm m1'
    have f : ∀ (b : Addr) (o : HO), p ≠ b → b ≠ l → _ = some o → O2 l p H6 b = some o := fun b o k k2 m => O2.at k2 k.symm (dr.1 b o k.symm (s1' b o m))
    have drA : Drew p H H6 := Drew.trans (⟨Same.but (s_all.trans s1'), P1⟩ : Drew p H _) dr
    have dfar : Dx (O2 l p H6) u4 d4 := Dx.same (o2But drA.1) _ _ h4
    have gen : ∃ d', Dx (O2 l p H6) x d' ∧ Sg d' 12 3 ∧ ntB d' = true := by
      simp only [List.cons_append, List.nil_append, List.mem_cons, List.not_mem_nil, or_false] at hx
      rcases hx with rfl | rfl | rfl | rfl | rfl | rfl | rfl | rfl | rfl | rfl | rfl | rfl | rfl | rfl | rfl | rfl
      · exact ⟨.tuple [.tuple [.int 0, .int 1]], .tupz (f a1o _ k_a1o e_a1o m_a1o) d_a1o (.cons (.tup (f a1a _ k_a1a e_a1a m_a1a) (.cons (.int _) (.cons (.int _) .nil))) (.nil)) rfl, sgk (by decide +kernel), by decide +kernel⟩
      · exact ⟨.tuple [.tuple [d4, .int 2]], .tupz (f a2o _ k_a2o e_a2o m_a2o) d_a2o (.cons (dx_new (f a2a _ k_a2a e_a2a m_a2a) (.cons dfar (.cons (.int _) .nil))) .nil) rfl, (sg_far gfar).2, rfl⟩
      · exact ⟨.tuple [.tuple [.int 1, .int 0]], .tupz (f a3o _ k_a3o e_a3o m_a3o) d_a3o (.cons (.tup (f a3a _ k_a3a e_a3a m_a3a) (.cons (.int _) (.cons (.int _) .nil))) (.nil)) rfl, sgk (by decide +kernel), by decide +kernel⟩
      · exact ⟨.tuple [.tuple [.int 1, .int 3]], .tupz (f a4o _ k_a4o e_a4o m_a4o) d_a4o (.cons (.tup (f a4a _ k_a4a e_a4a m_a4a) (.cons (.int _) (.cons (.int _) .nil))) (.nil)) rfl, sgk (by decide +kernel), by decide +kernel⟩
      · exact ⟨.tuple [.tuple [.int 1, .bool true]], .tupz (f a5o _ k_a5o e_a5o m_a5o) d_a5o (.cons (.tup (f a5a _ k_a5a e_a5a m_a5a) (.cons (.int _) (.cons (.bl _) .nil))) (.nil)) rfl, sgk (by decide +kernel), by decide +kernel⟩
      · exact ⟨.tuple [.tuple [.bool true, .int 1]], .tupz (f a6o _ k_a6o e_a6o m_a6o) d_a6o (.cons (.tup (f a6a _ k_a6a e_a6a m_a6a) (.cons (.bl _) (.cons (.int _) .nil))) (.nil)) rfl, sgk (by decide +kernel), by decide +kernel⟩
      · exact ⟨.tuple [.tuple [.int 1, .int 1], .tuple [.int 1, .int 2]], .tupz (f a7o _ k_a7o e_a7o m_a7o) d_a7o (.cons (.tup (f a7a _ k_a7a e_a7a m_a7a) (.cons (.int _) (.cons (.int _) .nil))) (.cons (.tup (f a7b _ k_a7b e_a7b m_a7b) (.cons (.int _) (.cons (.int _) .nil))) (.nil))) rfl, sgk (by decide +kernel), by decide +kernel⟩
      · exact ⟨.tuple [.tuple [.int 2, .int 1], .tuple [.int 1, .int 2]], .tupz (f b1o _ k_b1o e_b1o m_b1o) d_b1o (.cons (.tup (f b1a _ k_b1a e_b1a m_b1a) (.cons (.int _) (.cons (.int _) .nil))) (.cons (.tup (f b1b _ k_b1b e_b1b m_b1b) (.cons (.int _) (.cons (.int _) .nil))) (.nil))) rfl, sgk (by decide +kernel), by decide +kernel⟩
      · exact ⟨.tuple [.tuple [.int 1, .int 1, .int 1]], .tupz (f b2o _ k_b2o e_b2o m_b2o) d_b2o (.cons (.tup (f b2a _ k_b2a e_b2a m_b2a) (.cons (.int _) (.cons (.int _) (.cons (.int _) .nil)))) .nil) rfl, sgk (by decide +kernel), by decide +kernel⟩
      · exact ⟨.tuple [.list [.int 1, .int 1]], .tup (f b3o _ k_b3o e_b3o m_b3o) (.cons (.lst (f b3a _ k_b3a e_b3a m_b3a) (.cons (.int _) (.cons (.int _) .nil))) .nil), sgk (by decide +kernel), by decide +kernel⟩
      · exact ⟨.list [.tuple [.int 1, .int 1]], .lst (f b4o _ k_b4o e_b4o m_b4o) (.cons (.tup (f b4a _ k_b4a e_b4a m_b4a) (.cons (.int _) (.cons (.int _) .nil))) .nil), sgk (by decide +kernel), by decide +kernel⟩
      · exact ⟨.tuple [.tuple [.int 1, .int 1], .tuple [.int 2, .int 2]], .tupz (f b5o _ k_b5o e_b5o m_b5o) d_b5o (.cons (.tup (f b5a _ k_b5a e_b5a m_b5a) (.cons (.int _) (.cons (.int _) .nil))) (.cons (.tup (f b5b _ k_b5b e_b5b m_b5b) (.cons (.int _) (.cons (.int _) .nil))) (.nil))) rfl, sgk (by decide +kernel), by decide +kernel⟩
      · exact ⟨.tuple [.tuple [.int (m - 1), .int 2]], .tupz (f b6o _ k_b6o e_b6o m_b6o) d_b6o (.cons (dx_new (f b6a _ k_b6a e_b6a m_b6a) (.cons (.int _) (.cons (.int _) .nil))) .nil) rfl, (sg_far gm1).2, rfl⟩
      · exact ⟨.tuple [.tuple [.str "1", .int 1]], .tupz (f c1o _ k_c1o e_c1o m_c1o) d_c1o (.cons (.tup (f c1a _ k_c1a e_c1a m_c1a) (.cons (.str _) (.cons (.int _) .nil))) (.nil)) rfl, sgk (by decide +kernel), by decide +kernel⟩
      · exact ⟨.int 5, .int _, sgk (by decide +kernel), by decide +kernel⟩
      · exact ⟨.tuple [.tuple [.int (m + 1), .int 1]], .tupz (f c2o _ k_c2o e_c2o m_c2o) d_c2o (.cons (dx_new (f c2a _ k_c2a e_c2a m_c2a) (.cons (.int _) (.cons (.int _) .nil))) .nil) rfl, (sg_far gm2).1, rfl⟩
    obtain ⟨d', dx, sg', n'⟩ := gen
    refine ⟨by show 1 ≤ sizeLine; decide, fun t2 n2 => ?_⟩
    obtain ⟨s2, m2⟩ := fresh2 (o := .tup [x]) n2
    have P2 := dr.2.same s2
    refine ⟨t1, t2, [u1, u2, u3, u4, u5].take (4 : Int).toNat, [x], rfl, rfl, SqT.of (s2 _ _ m1'), SqT.of m2, by show 4 + 1 ≤ sizeLine; decide, fun e => (by cases e), fun _ e => (by cases e), fun _ _ t3 n3 => ?_⟩
    obtain ⟨s3, m3⟩ := fresh2 (o := .tup ([u1, u2, u3, u4, u5].take (4 : Int).toNat ++ [x])) n3
    have k3 := P2.ne n3
    have e3' := ((oc0.drew drA).same s2).ne n3
    have drB : Drew p H (upd (upd H6 t2 (.tup [x])) t3 (.tup ([u1, u2, u3, u4, u5].take (4 : Int).toNat ++ [x]))) := drA.trans (Drew.trans (⟨Same.but s2, P2⟩ : Drew p H6 _) ⟨Same.but s3, P2.same s3⟩)
    exact q _ (.tuple ([d1, d2, d3, d4, d5].take 4 ++ [d'])) _ (dx_new (O2.at e3' k3.symm m3) (dxall_app (dxall_take 4 (Dx.sameAll (o2But drB.1) _ _ hus)) (.cons (Dx.same (O2.mono (s2.trans s3)) _ _ dx) .nil))) (sg_tup.mpr ((sgl_app (sgl_take (n := 4) sgl) (sgl_one (sg'.mono (Nat.le_refl _) (by decide)))).mono (by omega) (Nat.le_refl _))) (nt_app (nt_take (n := 4) nt) (nt_one n')) drB
end
end Cw
namespace Cw
open PySem PySem.Spec PyProof.Rows L2
/-- a comprehension that gives fresh data for each item -/
theorem lc_dx {J : It} {n : Nat} {G : Hp → Prop} {Y : Nat → Hp → V → Hp → Prop} (w : Walk J n G Y) {g : TG} {te : TE} {vs : List Nat} {σ : L2.St} {H1 : Hp} {D : Addr} {Qd : Hp → Prop} (ds : List PyData) (hl : ds.length = n) (hn : n ≤ 1000) (nD : H1 D = none) (hG : ∀ H, Same H1 H → G H)
    (step : ∀ (i : Nat) (x : V) (H2 H3 : Hp) (d : PyData) (k : V → Hp → Prop), ds[i]? = some d → Same H1 H2 → (∃ us, H2 D = some (.lst us)) → Y i H2 x H3 → (∀ y H4, Same H2 H4 → Dx (Off D (Nw H1 H4)) y d → k y H4) → g x (wipe σ vs) H3 fun σ2 H5 => wipe σ2 vs = wipe σ vs ∧ te σ2 H5 k)
    (q : ∀ H' us, Same H1 H' → H' D = some (.lst us) → us.length = n → DxAll (Off D (Nw H1 H')) us ds → Qd H') : LcD J g tYes te vs σ H1 D Qd := by
  refine lc_it w (fun i H2 => Same H1 (Off D H2) ∧ ∃ us, H2 D = some (.lst us) ∧ DxAll (Off D (Nw H1 H2)) us (ds.take i)) ⟨fun b o e => Off.at (ne_of_none e nD) (same_new nD _ _ e), [], upd_same, .nil⟩ (fun i H2 _ hh => hG H2 (fun b o e => Off.same _ _ (hh.1 b o e))) ?_ ?_
  · rintro i x H2 H3 hi ⟨sm, us, hD, hx⟩ hY
    have hi2 : i < ds.length := by omega
    refine step i x H2 H3 ds[i] _ (List.getElem?_eq_getElem hi2) (fun b o e => Off.same _ _ (sm b o e)) ⟨us, hD⟩ hY fun y H4 s4 hy => ?_
    have hD4 := s4 _ _ hD
    have lus := dxall_len hx
    rw [List.length_take] at lus
    have up : Same (Off D (Nw H1 H4)) (Off D (Nw H1 (upd H4 D (.lst (us ++ [y]))))) := fun b o e => by
      have nb := Off.ne e
      obtain ⟨e1, e2⟩ := Nw.get (Off.same _ _ e)
      exact Off.at nb (Nw.at e1 (by rw [upd_ne nb]; exact e2))
    refine ⟨us, hD4, by rw [sizeLine_eq]; omega, fun b o e => ?_, us ++ [y], upd_same, ?_⟩
    · have nb := ne_of_none e nD
      exact Off.at nb (by rw [upd_ne nb]; exact s4 _ _ (Off.same _ _ (sm b o e)))
    · rw [List.take_add_one, List.getElem?_eq_getElem hi2]
      exact dxall_snoc (Dx.sameAll up _ _ (Dx.sameAll (Off.mono (Nw.mono s4)) _ _ hx)) (Dx.same up _ _ hy)
  · rintro H2 ⟨sm, us, hD, hx⟩
    rw [List.take_of_length_le (by omega)] at hx
    have := dxall_len hx
    exact q H2 us (fun b o e => Off.same _ _ (sm b o e)) hD (by omega) hx
def cutD (ds : List PyData) (lo hi : Option Int) : List PyData := (ds.drop (HT.sIx ds.length 0 lo)).take (HT.sIx ds.length ds.length hi - HT.sIx ds.length 0 lo)
theorem cut_dx {H : Hp} {us : List V} {ds : List PyData} {lo hi : Option Int} (h : DxAll H us ds) : DxAll H (cutV us lo hi) (cutD ds lo hi) := by
  have e := dxall_len h
  unfold cutV cutD
  rw [e]
  exact dxall_take _ (dxall_drop _ h)
theorem cut_mem {ds : List PyData} {lo hi : Option Int} : ∀ d ∈ cutD ds lo hi, d ∈ ds := fun d hd => List.mem_of_mem_drop (List.mem_of_mem_take hd)
theorem cut_len {ds : List PyData} {lo hi : Option Int} : (cutD ds lo hi).length ≤ ds.length := by
  unfold cutD
  rw [List.length_take, List.length_drop]
  omega
/-- rows that may be read -/
structure RowsOk (n b : Nat) (d : PyData) : Prop where
  rows : ∀ ds, d = .list ds → ds.length ≤ n ∧ ∀ x ∈ ds, Sg x b 6 ∧ ntB x = true
  sg : Sg d ((b + 1) * n) 7
def vRows : List PyData := (Str.ofString "abcdefghi").cps.toList.map fun c => .tuple [.str (Str.ofString "v" ++ (⟨#[c]⟩ : Str)), .int 0]
def wRow (y z : Str) (c : Nat) : PyData := .tuple [.str (Str.ofString "w" ++ (⟨#[c]⟩ : Str)), .str y, .str z, .int 40, .tuple []]
def wRows (y z : Str) : List PyData := (Str.ofString "abcdefghijklm").cps.toList.map (wRow y z)
theorem vRows_ok : ∀ d ∈ vRows, Sg d 12 3 ∧ ntB d = true := by
  have e : (vRows.all fun d => (d.showable && d.leavesShort 700 && decide (d.bulk ≤ 12) && decide (d.depth ≤ 3)) && ntB d) = true := by decide +kernel
  intro d hd
  have := List.all_eq_true.mp e d hd
  rw [Bool.and_eq_true] at this
  exact ⟨sgk this.1, this.2⟩
theorem rows_list {n b : Nat} {ds : List PyData} (hn : ds.length ≤ n) (h : ∀ x ∈ ds, Sg x b 6 ∧ ntB x = true) : RowsOk n b (.list ds) := ⟨fun ds' e => by
  cases e
  exact ⟨hn, h⟩, sg_lst.mpr ((sgl_all fun x hx => (h x hx).1).mono (Nat.mul_le_mul_left _ hn) (Nat.le_refl _))⟩
theorem rows_mono {n b n' b' : Nat} {d : PyData} (h : RowsOk n b d) (hn : n ≤ n') (hb : b ≤ b') : RowsOk n' b' d := ⟨fun ds e => by
  obtain ⟨h1, h2⟩ := h.rows ds e
  exact ⟨by omega, fun x hx => ⟨(h2 x hx).1.mono hb (Nat.le_refl _), (h2 x hx).2⟩⟩, h.sg.mono (Nat.mul_le_mul (by omega) hn) (Nat.le_refl _)⟩
theorem w_letters : ∀ c ∈ (Str.ofString "abcdefghijklm").cps.toList, (Sg (.str (Str.ofString "w" ++ (⟨#[c]⟩ : Str))) 12 3) := by
  have e : ((Str.ofString "abcdefghijklm").cps.toList.all fun c => ((PyData.str (Str.ofString "w" ++ (⟨#[c]⟩ : Str))).showable && (PyData.str (Str.ofString "w" ++ (⟨#[c]⟩ : Str))).leavesShort 700 && decide ((PyData.str (Str.ofString "w" ++ (⟨#[c]⟩ : Str))).bulk ≤ 12) && decide ((PyData.str (Str.ofString "w" ++ (⟨#[c]⟩ : Str))).depth ≤ 3))) = true := by decide +kernel
  intro c hc
  exact sgk (List.all_eq_true.mp e c hc)
theorem four_w {y z : Str} (hy : IsName y) (hz : IsName z) {c : Nat} (hc : c ∈ (Str.ofString "abcdefghijklm").cps.toList) : SgL [.str (Str.ofString "w" ++ (⟨#[c]⟩ : Str)), .str y, .str z, .int 40] 40 5 := by
  have h1 := (w_letters c hc).mono (b' := 12) (p' := 5) (Nat.le_refl _) (by decide)
  have h2 : Sg (.str y) 8 5 := (sh_name hy).sg (by decide) (by decide)
  have h3 : Sg (.str z) 8 5 := (sh_name hz).sg (by decide) (by decide)
  have h4 : Sg (.int 40) 0 5 := (sh_int (by decide)).sg (by decide) (by decide)
  exact (sgl_cons h1 (sgl_cons h2 (sgl_cons h3 (sgl_one h4)))).mono (by decide) (Nat.le_refl _)
theorem wRow_ok {y z : Str} (hy : IsName y) (hz : IsName z) {c : Nat} (hc : c ∈ (Str.ofString "abcdefghijklm").cps.toList) : Sg (wRow y z c) 60 6 ∧ ntB (wRow y z c) = true := by
  refine ⟨?_, rfl⟩
  have h5 : Sg (.tuple []) 0 5 := sg_tup.mpr (sgl_nil (b := 0) (p := 4))
  exact sg_tup.mpr ((sgl_app (four_w hy hz hc) (sgl_one h5)).mono (by decide) (Nat.le_refl _))
section
variable {P : Program} {w : World} {K : PySem.W.Frag} {mg : Str → Option Value} {base : Heap} {C NS NW0 : Addr}
/-- what stands in a found pair -/
def spMany : Sp := fun vs H Q _ => ∃ (p : Addr) (u w : V) (way : Int) (r : Bool) (fs : List (Str × Int)) (ts : List Tie) (dp dt : List PyData) (n b m c : Nat), vs = [.ref p, u, w, .int way] ∧ Pot H p ∧ Dx (Off p H) u (dSpec fs ts) ∧ Specs r fs ts ∧ Dx (Off p H) w (.tuple [.list dp, .list dt]) ∧ RowsOk n b (.list dp) ∧ RowsOk m c (.list dt) ∧ 12 ≤ b ∧ 100 ≤ c ∧ n ≤ 900 ∧ m ≤ 900 ∧
  ∀ (x : V) (d1 d2 : PyData) (H' : Hp), Dx (Off p H') x (.tuple [d1, d2]) → RowsOk (n + 9) b d1 → RowsOk (m + 13) c d2 → Drew p H H' → Q x H'
theorem ok_mput {f : Addr} {fd : FuncData} (F : FnP K "_law_many_put" "_law_many_put" S_many_put f fd) (H_take : TakeOk P w K mg base) (B : Blt mg) : FnOk P w K mg base CX0 3 f fd P_many_put spMany := by
  obtain ⟨f_take, fd_take, F_take, b_take, G_take, g_take⟩ := H_take
  have nd := sc_many_put.nd
  refine F.ok sc_many_put (fun vs H Q E h => ?_) (fun cdv A outer s H vs Q E hr h => ⟨_, PSs.nox (pss_cons (ps_asg (pv 2) (pg_tup (by rfl) (pgs_cons (pg_name (i := 4) nd rfl (.inl rfl)) (pgs_cons (pg_name (i := 5) nd rfl (.inl rfl)) pgs_nil))))
     (C8.pss_cut (ps_if (pt_cmpR op_eq (pv 3) pe_int (nomark _)) (pss_one (ps_ret (pe_tup (pa_cons (pe_op op_cat (pv 4) (pe_slice sl_list (pe_lc (own := [("_law_letter", 10)]) (g := gName 10) rfl nd (pi_str pe_str) (blkOk_by (own := [("_law_letter", 10)]) (N := N_many_put) (sc := defScope S_many_put) (by decide +kernel)) (fun _ _ _ _ _ => (pg_name (i := 10) nd rfl (.inl rfl))) (fun _ _ _ _ _ => pts_nil) (fun _ _ _ _ _ => (pe_tup (pa_cons (pe_op op_add_str pe_str (pv 10)) (pa_cons pe_int pa_nil))))) po_none (po_some (pe_op op_add (pe_op op_sub pe_int (pe_callB call_len_seq (by rfl) B.len_ PySem.boot_len (pa_cons (pv 4) pa_nil))) (pe_call G_take (hr.mono (by first | decide | omega)) rfl g_take F_take.kp b_take .nil pass0 (pa_cons (pv 0) (pa_cons pe_int pa_nil))))))) (pa_cons (pv 5) pa_nil))))) pss_nil)
     (pss_cons (ps_asg (pe_tup (pa_cons (pe_ix ix_tup (pe_ix ix_list (pe_ix ix_tup (pv 1) pe_int (fun _ _ => rfl)) pe_int (fun _ _ => rfl)) pe_int (fun _ _ => rfl)) (pa_cons (pe_ix ix_tup (pe_ix ix_list (pe_ix ix_tup (pv 1) pe_int (fun _ _ => rfl)) (pe_un un_neg pe_int) (fun _ _ => rfl)) pe_int (fun _ _ => rfl)) pa_nil))) (pg_tup (by rfl) (pgs_cons (pg_name (i := 6) nd rfl (.inr rfl)) (pgs_cons (pg_name (i := 7) nd rfl (.inr rfl)) pgs_nil))))
     (pss_cons (ps_setLc (i := 8) (own := [("_law_letter", 10)]) (g := gName 10) rfl nd rfl rfl (by rfl) (pi_str pe_str) (blkOk_by (own := [("_law_letter", 10)]) (N := N_many_put) (sc := defScope S_many_put) (by decide +kernel)) (fun _ _ _ _ _ => (pg_name (i := 10) nd rfl (.inl rfl))) (fun _ _ _ _ _ => pts_nil) (fun _ _ _ _ _ => (pe_tup (pa_cons (pe_op op_add_str pe_str (pv 10)) (pa_cons (pv 6) (pa_cons (pv 7) (pa_cons pe_int (pa_cons pe_tupZ pa_nil))))))))
     (C8.pss_cut (ps_if (pt_cmpR op_eq (pv 3) pe_int (nomark _)) (pss_one (ps_ret (pe_tup (pa_cons (pv 4) (pa_cons (pe_op op_cat (pv 5) (pe_slice sl_list (pv 8) po_none (po_some (pe_op op_add (pe_op op_sub pe_int (pe_callB call_len_seq (by rfl) B.len_ PySem.boot_len (pa_cons (pv 5) pa_nil))) (pe_call G_take (hr.mono (by first | decide | omega)) rfl g_take F_take.kp b_take .nil pass0 (pa_cons (pv 0) (pa_cons pe_int pa_nil))))))) pa_nil))))) pss_nil)
     (pss_cons (ps_set (i := 9) nd rfl (.inl rfl) (pe_callTy call_tupleZ (by rfl) B.tuple_ (by decide +kernel) (pa_cons (pe_lc (own := [("_law_place", 11)]) (g := gName 11) rfl nd (pi_range1 rfl B.range_ (pa_cons (pe_op op_add pe_int (pe_call G_take (hr.mono (by first | decide | omega)) rfl g_take F_take.kp b_take .nil pass0 (pa_cons (pv 0) (pa_cons pe_int pa_nil)))) pa_nil)) (blkOk_by (own := [("_law_place", 11)]) (N := N_many_put) (sc := defScope S_many_put) (by decide +kernel)) (fun _ _ _ _ _ => (pg_name (i := 11) nd rfl (.inl rfl))) (fun _ _ _ _ _ => pts_nil) (fun _ _ _ _ _ => (pe_tup (pa_cons (pe_op op_add pe_int (pv 11)) (pa_cons (pe_op op_add pe_int (pe_op op_mod (pv 11) pe_int)) pa_nil))))) pa_nil)))
     (pss_one (ps_ret (pe_tup (pa_cons (pv 4) (pa_cons (pe_op op_cat (pv 5) (pe_lst (pa_cons (pe_op op_catA (pe_slice sl_tup (pe_ix ix_list (pv 8) pe_int (fun _ _ => rfl)) po_none (po_some pe_int)) (pe_tup (pa_cons (pv 9) pa_nil))) pa_nil))) pa_nil))))))))))), ?_⟩)
  · obtain ⟨p, u, w, way, r, fs, ts, dp, dt, n, b, m, c, rfl, _⟩ := h
    rfl
  · obtain ⟨p, u, w, way, r, fs, ts, dp, dt, n, b, m, c, rfl, hP, hu, SP, hw, rp, rt, b12, c60, n9, m9, q⟩ := h
    rw [show L2.start N_many_put [V.ref p, u, w, V.int way] = [some (V.ref p), some u, some w, some (.int way), none, none, none, none, none, none, none, none] from rfl]
    obtain ⟨tw, uw, rfl, htw, huw⟩ := dx_tupY hw
    obtain ⟨va, vb, rfl, hva, hvb⟩ : ∃ va vb, uw = [va, vb] ∧ Dx (Off p H) va (.list dp) ∧ Dx (Off p H) vb (.list dt) := by
      cases huw with
      | cons h1 h2 =>
        cases h2 with
        | cons h2 h3 =>
          cases h3
          exact ⟨_, _, rfl, h1, h2⟩
    obtain ⟨la, xa, rfl, hla, hxa⟩ := dx_list hva
    obtain ⟨lb, xb, rfl, hlb, hxb⟩ := dx_list hvb
    have lxa := dxall_len hxa
    have lxb := dxall_len hxb
    obtain ⟨ln, rows_p⟩ := rp.rows _ rfl
    obtain ⟨lm, rows_t⟩ := rt.rows _ rfl
    have kl : ∀ {b' : Addr} {o : HO}, Off p H b' = some o → b' ≠ p := fun e => Off.ne e
    refine ⟨_, rfl, tw, _, rfl, (htw.mp Off.same').sq, rfl, _, _, rfl, _, _, rfl, rfl, ?_⟩
    simp only [List.set]
    refine ⟨fun σ H' => H' = H ∧ σ = [some (V.ref p), some u, some (V.ref tw), some (.int way), some (.ref la), some (.ref lb), none, none, none, none, none, none], ?_, ?_⟩
    · refine ⟨_, rfl, rfl, _, rfl, ?_⟩
      by_cases w0 : way = 0
      · rw [decide_eq_true (congrArg V.int w0)]
        refine iteT ?_
        refine ⟨_, rfl, _, rfl, fun D nD => ?_⟩
        refine lc_dx walk_str vRows (by decide +kernel) (by decide +kernel) nD (fun _ _ => trivial) ?_ ?_
        · rintro i x H2 H3 d k hd s2 ⟨us, hD⟩ ⟨rfl, ch, hch, rfl⟩ hk
          refine ⟨rfl, _, rfl, _, _, rfl, rfl, by show 1 + 1 ≤ sizeLine; decide, by show 2 ≤ sizeLine; decide, fun t nt => ?_⟩
          obtain ⟨s3, m3⟩ := fresh2 (o := .tup [.str (Str.ofString "v" ++ (⟨#[ch]⟩ : Str)), .int 0]) nt
          have ed : d = .tuple [.str (Str.ofString "v" ++ (⟨#[ch]⟩ : Str)), .int 0] := by
            unfold vRows at hd
            rw [List.getElem?_map, Array.getElem?_toList, hch] at hd
            exact (Option.some.inj hd).symm
          rw [ed] at hk
          have tD : t ≠ D := (ne_of_none hD nt).symm
          exact hk _ _ s3 (.tup (Off.at tD (Nw.at (none_of s2 nt) m3)) (.cons (.str _) (.cons (.int _) .nil)))
        · intro H5 us s5 hD lus hus
          have P5 := hP.same s5
          have kD := hP.ne nD
          have hlaH : H la = some (.lst xa) := Off.same _ _ hla
          refine ⟨_, rfl, la, xa, rfl, .inl (SqL.of (s5 _ _ hlaH)), _, _, rfl, rfl, _, rfl, p, 2, rfl, P5, by decide, log_small (n := 2) (by decide) (by decide) (by decide), fun d H6 d0 d1 dr => ⟨_, _, rfl, rfl, _, rfl, D, us, rfl, SqL.of (dr.1 _ _ kD.symm hD), fun l2 n2 => ?_⟩⟩
          obtain ⟨s6, m6⟩ := fresh2 (o := .lst (cutV us none (some (9 - (xa.length : Int) + d)))) n2
          have dr6 : Drew p H (upd H6 l2 (.lst (cutV us none (some (9 - (xa.length : Int) + d))))) := Drew.trans (⟨Same.but s5, P5⟩ : Drew p H H5) (dr.trans ⟨Same.but s6, dr.2.same s6⟩)
          have lcut := cutV_length us none (some (9 - (xa.length : Int) + d))
          have l9 : us.length = 9 := lus.trans (by decide +kernel)
          refine ⟨la, l2, xa, _, rfl, rfl, dr6.1 _ _ (kl hla) hlaH, m6, by rw [sizeLine_eq]; omega, fun l3 n3 => ?_⟩
          obtain ⟨s7, m7⟩ := fresh2 (o := .lst (xa ++ cutV us none (some (9 - (xa.length : Int) + d)))) n3
          have P6 := dr6.2
          have k3 := P6.ne n3
          refine ⟨_, rfl, by show 2 ≤ sizeLine; decide, fun t nt => ?_⟩
          obtain ⟨s8, m8⟩ := fresh2 (o := .tup [.ref l3, .ref lb]) nt
          have P7 := P6.same s7
          have kt := P7.ne nt
          have drA := dr6.trans (Drew.trans (⟨Same.but s7, P7⟩ : Drew p _ _) ⟨Same.but s8, P7.same s8⟩)
          have kA := offBut drA.1
          have kB : Same (Off D (Nw H H5)) (Off p (upd (upd (upd H6 l2 (.lst (cutV us none (some (9 - (xa.length : Int) + d))))) l3 (.lst (xa ++ cutV us none (some (9 - (xa.length : Int) + d))))) t (.tup [.ref l3, .ref lb]))) := fun b' o e => by
            obtain ⟨e1, e2⟩ := Nw.get (Off.same _ _ e)
            have np : b' ≠ p := (hP.ne e1).symm
            exact Off.at np (s8 _ _ (s7 _ _ (s6 _ _ (dr.1 _ _ np e2))))
          refine q _ (.list (dp ++ cutD vRows none (some (9 - (xa.length : Int) + d)))) (.list dt) _ (dx_new (Off.at kt.symm m8) (.cons (.lst (Off.at k3.symm (s8 _ _ m7)) (dxall_app (Dx.sameAll kA _ _ hxa) (cut_dx (Dx.sameAll kB _ _ hus)))) (.cons (.lst (kA _ _ hlb) (Dx.sameAll kA _ _ hxb)) .nil))) (rows_list ?_ fun x hx => ?_) (rows_mono rt (by omega) (Nat.le_refl _)) drA
          · have := cut_len (ds := vRows) (lo := none) (hi := some (9 - (xa.length : Int) + d))
            have e9 : vRows.length = 9 := by decide +kernel
            rw [List.length_append]
            omega
          · rcases List.mem_append.mp hx with hx | hx
            · exact rows_p x hx
            · have := vRows_ok x (cut_mem x hx)
              exact ⟨this.1.mono b12 (by decide), this.2⟩
      · rw [decide_eq_false fun x => w0 (V.int.inj x)]
        exact iteF ⟨rfl, rfl⟩
    rintro σ H' ⟨rfl, rfl⟩
    have hu0 := Dx.same Off.same _ _ hu
    obtain ⟨tu, uu, rfl, htu, huu⟩ := dx_tupY (ds := [dFolk fs, .list (ts.map dTie)]) hu0
    obtain ⟨ua, ub, rfl, hua, hub⟩ : ∃ va vb, uu = [va, vb] ∧ Dx H' va (dFolk fs) ∧ Dx H' vb (.list (ts.map dTie)) := by
      cases huu with
      | cons h1 h2 =>
        cases h2 with
        | cons h2 h3 =>
          cases h3
          exact ⟨_, _, rfl, h1, h2⟩
    obtain ⟨lf, xf, rfl, hlf, hxf⟩ := dx_list (show Dx H' ua (.list (fs.map dPer)) from hua)
    have lxf : xf.length = fs.length := by
      have := dxall_len hxf
      rw [List.length_map] at this
      exact this
    have q1 := SP.f1
    have row : ∀ i : Nat, i < fs.length → ∃ t z y, xf[i]? = some (V.ref t) ∧ H' t = some (.tup [.str z, y]) ∧ IsName z := fun i hi => by
      obtain ⟨x', e1, e2⟩ := dxall_get (i := i) hxf (by rw [List.getElem?_map, List.getElem?_eq_getElem hi]; rfl)
      obtain ⟨t, rfl, ht⟩ := dx_per e2
      exact ⟨t, _, _, e1, ht, SP.fo.nm _ (List.getElem_mem hi)⟩
    obtain ⟨t1, z1, y1, g1, ht1, nz1⟩ := row 0 (by omega)
    obtain ⟨t2, z2, y2, g2, ht2, nz2⟩ := row (fs.length - 1) (by omega)
    have at2 : atI xf (-1) = some (V.ref t2) := by
      have e : xf = xf.take (fs.length - 1) ++ [V.ref t2] := by
        have e2 : xf.take (fs.length - 1 + 1) = xf := List.take_of_length_le (by omega)
        rw [List.take_add_one, g2] at e2
        exact e2.symm
      rw [e]
      exact atI_last _ _
    refine ⟨_, rfl, tu, _, 0, _, rfl, rfl, htu.sq, rfl, lf, xf, 0, _, rfl, rfl, SqL.of hlf, atI_int (by decide) g1, t1, _, 0, _, rfl, rfl, SqT.of ht1, atI_int (by decide) rfl, ?_⟩
    refine ⟨_, rfl, tu, _, 0, _, rfl, rfl, htu.sq, rfl, _, rfl, lf, xf, -1, _, rfl, rfl, SqL.of hlf, at2, t2, _, 0, _, rfl, rfl, SqT.of ht2, atI_int (by decide) rfl, ?_⟩
    refine ⟨by show 2 ≤ sizeLine; decide, fun tt ntt => ?_⟩
    obtain ⟨s1, m1⟩ := fresh2 (o := .tup [.str z1, .str z2]) ntt
    refine ⟨tt, _, rfl, SqT.of m1, rfl, _, _, rfl, _, _, rfl, rfl, ?_⟩
    simp only [List.set]
    have P1 := hP.same s1
    have dr1 : Drew p H' (upd H' tt (.tup [.str z1, .str z2])) := ⟨Same.but s1, P1⟩
    generalize upd H' tt (.tup [.str z1, .str z2]) = H1 at s1 m1 P1 dr1 ⊢
    refine ⟨_, rfl, fun D nD => ?_⟩
    refine lc_dx walk_str (wRows z1 z2) (by show ((Str.ofString "abcdefghijklm").cps.toList.map _).length = _; rw [List.length_map]; rfl) (by decide +kernel) nD (fun _ _ => trivial) ?_ ?_
    · rintro i x H2 H3 d k hd s2 ⟨us, hD⟩ ⟨rfl, ch, hch, rfl⟩ hk
      refine ⟨rfl, _, rfl, _, _, rfl, rfl, by show 1 + 1 ≤ sizeLine; decide, _, rfl, _, rfl, ?_⟩
      intro e oe ne de
      obtain ⟨s3, m3⟩ := fresh2 (o := .frz oe (.tup [])) ne
      refine ⟨by show 5 ≤ sizeLine; decide, fun t nt => ?_⟩
      obtain ⟨s4, m4⟩ := fresh2 (o := .tup [.str (Str.ofString "w" ++ (⟨#[ch]⟩ : Str)), .str z1, .str z2, .int 40, .ref e]) nt
      have ed : d = wRow z1 z2 ch := by
        unfold wRows at hd
        rw [List.getElem?_map, Array.getElem?_toList, hch] at hd
        exact (Option.some.inj hd).symm
      rw [ed] at hk
      have tD : t ≠ D := (ne_of_none (s3 _ _ hD) nt).symm
      have eD : e ≠ D := (ne_of_none hD ne).symm
      exact hk _ _ (s3.trans s4) (.tup (Off.at tD (Nw.at (none_of (s2.trans s3) nt) m4)) (.cons (.str _) (.cons (.str _) (.cons (.str _) (.cons (.int _) (.cons (.tupz (Off.at eD (Nw.at (none_of s2 ne) (s4 _ _ m3))) de .nil rfl) .nil))))))
    intro H5 us s5 hD lus hus
    have kD := P1.ne nD
    have P5 := P1.same s5
    have dr5 : Drew p H' H5 := dr1.trans ⟨Same.but s5, P5⟩
    have hlbH : H' lb = some (.lst xb) := Off.same _ _ hlb
    have nwp : ∀ (H6 : Hp), But p H5 H6 → Same (Off D (Nw H1 H5)) (Off p H6) := fun H6 k b' o e => by
      obtain ⟨e1, e2⟩ := Nw.get (Off.same _ _ e)
      have np : b' ≠ p := (P1.ne e1).symm
      exact Off.at np (k _ _ np e2)
    simp only [List.set]
    refine ⟨fun σ H6 => H6 = H5 ∧ σ = [some (V.ref p), some (.ref tu), some (V.ref tw), some (.int way), some (.ref la), some (.ref lb), some (.str z1), some (.str z2), some (.ref D), none, none, none], ?_, ?_⟩
    · refine ⟨_, rfl, rfl, _, rfl, ?_⟩
      by_cases w1 : way = 1
      · rw [decide_eq_true (congrArg V.int w1)]
        refine iteT ?_
        refine ⟨_, rfl, _, rfl, _, rfl, _, rfl, lb, xb, rfl, .inl (SqL.of (dr5.1 _ _ (kl hlb) hlbH)), _, _, rfl, rfl, _, rfl, p, 2, rfl, P5, by decide, log_small (n := 2) (by decide) (by decide) (by decide), fun d H6 d0 d1 dr => ⟨_, _, rfl, rfl, _, rfl, D, us, rfl, SqL.of (dr.1 _ _ kD.symm hD), fun l2 n2 => ?_⟩⟩
        obtain ⟨s6, m6⟩ := fresh2 (o := .lst (cutV us none (some (13 - (xb.length : Int) + d)))) n2
        have dr6 := dr.trans (⟨Same.but s6, dr.2.same s6⟩ : Drew p H6 (upd H6 l2 (.lst (cutV us none (some (13 - (xb.length : Int) + d))))))
        have lcut := cutV_length us none (some (13 - (xb.length : Int) + d))
        have l13 : (wRows z1 z2).length = 13 := by
          show ((Str.ofString "abcdefghijklm").cps.toList.map _).length = _
          rw [List.length_map]
          decide +kernel
        have lu := dxall_len hus
        refine ⟨lb, l2, xb, _, rfl, rfl, (dr5.trans dr6).1 _ _ (kl hlb) hlbH, m6, by rw [sizeLine_eq]; omega, fun l3 n3 => ?_⟩
        obtain ⟨s7, m7⟩ := fresh2 (o := .lst (xb ++ (cutV us none (some (13 - (xb.length : Int) + d))))) n3
        have P6 := dr6.2
        have k3 := P6.ne n3
        have P7 := P6.same s7
        refine ⟨by show 2 ≤ sizeLine; decide, fun t nt => ?_⟩
        obtain ⟨s8, m8⟩ := fresh2 (o := .tup [.ref la, .ref l3]) nt
        have kt := P7.ne nt
        have drB := dr6.trans (Drew.trans (⟨Same.but s7, P7⟩ : Drew p _ _) ⟨Same.but s8, P7.same s8⟩)
        have drA := dr5.trans drB
        have kA := offBut drA.1
        refine q _ (.list dp) (.list (dt ++ cutD (wRows z1 z2) none (some (13 - (xb.length : Int) + d)))) _ (dx_new (Off.at kt.symm m8) (.cons (.lst (kA _ _ hla) (Dx.sameAll kA _ _ hxa)) (.cons (.lst (Off.at k3.symm (s8 _ _ m7)) (dxall_app (Dx.sameAll kA _ _ hxb) (cut_dx (Dx.sameAll (nwp _ drB.1) _ _ hus)))) .nil))) (rows_mono rp (by omega) (Nat.le_refl _)) (rows_list ?_ fun x hx => ?_) drA
        · have := cut_len (ds := wRows z1 z2) (lo := none) (hi := some (13 - (xb.length : Int) + d))
          rw [List.length_append]
          omega
        · rcases List.mem_append.mp hx with hx | hx
          · exact rows_t x hx
          · obtain ⟨c', hc', rfl⟩ := List.mem_map.mp (show x ∈ (Str.ofString "abcdefghijklm").cps.toList.map (wRow z1 z2) from cut_mem x hx)
            have := wRow_ok nz1 nz2 hc'
            exact ⟨this.1.mono (by omega) (Nat.le_refl _), this.2⟩
      · rw [decide_eq_false fun x => w1 (V.int.inj x)]
        exact iteF ⟨rfl, rfl⟩
    rintro σ H6 ⟨rfl, rfl⟩
    refine ⟨_, rfl, p, 3, rfl, P5, by decide, log_small (n := 3) (by decide) (by decide) (by decide), fun d H7 d0 d1 dr7 => ⟨_, _, rfl, rfl, _, rfl, by omega, by omega, fun D2 nD2 => ?_⟩⟩
    have P7 := dr7.2
    refine lc_dx walk_range ((List.range (11 + d).toNat).map fun (i : Nat) => PyData.tuple [.int (2 + (0 + (i : Int))), .int (1 + (0 + (i : Int)) % 2)]) (by rw [List.length_map, List.length_range]) (by omega) nD2 (fun _ _ => trivial) ?_ ?_
    · rintro i x H2 H3 d' k hd s2 ⟨us', hD'⟩ ⟨rfl, rfl⟩ hk
      refine ⟨rfl, _, rfl, _, _, rfl, rfl, _, rfl, _, _, rfl, rfl, (by show (0 : Int) < 2; decide), _, _, rfl, rfl, by show 2 ≤ sizeLine; decide, fun t nt => ?_⟩
      obtain ⟨s3, m3⟩ := fresh2 (o := .tup [.int (2 + (0 + (i : Int))), .int (1 + (0 + (i : Int)) % 2)]) nt
      have hi3 : i < (11 + d).toNat := by
        have := (List.getElem?_eq_some_iff.mp hd).1
        rw [List.length_map, List.length_range] at this
        exact this
      rw [List.getElem?_map, List.getElem?_range hi3] at hd
      have ed := Option.some.inj hd
      rw [← ed] at hk
      have tD : t ≠ D2 := (ne_of_none hD' nt).symm
      exact hk _ _ s3 (.tup (Off.at tD (Nw.at (none_of s2 nt) m3)) (.cons (.int _) (.cons (.int _) .nil)))
    intro H8 us2 s8 hD2 lus2 hus2
    have P8 := P7.same s8
    refine ⟨D2, us2, rfl, SqL.of hD2, fun l9 o9 n9 d9 => ?_⟩
    obtain ⟨s9, m9⟩ := fresh2 (o := .frz o9 (.tup us2)) n9
    have P9 := P8.same s9
    have k9 := P8.ne n9
    simp only [List.set]
    have dr9 : Drew p H6 (upd H8 l9 (.frz o9 (.tup us2))) := dr7.trans (Drew.trans (⟨Same.but s8, P8⟩ : Drew p H7 H8) ⟨Same.but s9, P9⟩)
    have hD9 := dr9.1 _ _ kD.symm hD
    have eL : (Str.ofString "abcdefghijklm").cps.toList[0]? = some 97 := by decide +kernel
    obtain ⟨x0, g0, hx0⟩ := dxall_get (i := 0) (Dx.sameAll (nwp _ dr9.1) _ _ hus) (d := wRow z1 z2 97) (by
      unfold wRows
      rw [List.getElem?_map, eL]
      rfl)
    obtain ⟨tf, uf, rfl, htf, huf⟩ := dx_tupY (ds := [.str (Str.ofString "w" ++ (⟨#[97]⟩ : Str)), .str z1, .str z2, .int 40, .tuple []]) hx0
    have luf := dxall_len huf
    refine ⟨_, rfl, _, rfl, _, rfl, D, us, 0, _, rfl, rfl, SqL.of hD9, atI_int (by decide) g0, _, rfl, tf, uf, rfl, (htf.mp Off.same').sq, cut_upto_no (by decide) (by rw [luf]; show (4 : Int) < 5; decide), fun t3 n3 => ?_⟩
    rw [cut_upto (by decide)]
    obtain ⟨s3, m3⟩ := fresh2 (o := .tup (uf.take (4 : Int).toNat)) n3
    have Q3 := P9.same s3
    refine ⟨_, rfl, by show 1 ≤ sizeLine; decide, fun t4 n4 => ?_⟩
    obtain ⟨s4, m4⟩ := fresh2 (o := .tup [.ref l9]) n4
    have Q4 := Q3.same s4
    have l4 : (uf.take (4 : Int).toNat).length = 4 := by
      rw [List.length_take, luf]
      rfl
    refine ⟨t3, t4, _, [.ref l9], rfl, rfl, SqT.of (s4 _ _ m3), SqT.of m4, by rw [l4]; show 4 + 1 ≤ sizeLine; decide, fun e => (by rw [e] at l4; cases l4), fun _ e => (by cases e), fun _ _ t5 n5 => ?_⟩
    obtain ⟨s5', m5⟩ := fresh2 (o := .tup (uf.take (4 : Int).toNat ++ [.ref l9])) n5
    have k5 := Q4.ne n5
    have Q5 := Q4.same s5'
    refine ⟨by show 1 ≤ sizeLine; decide, fun l6 n6 => ?_⟩
    obtain ⟨s6, m6⟩ := fresh2 (o := .lst [.ref t5]) n6
    have Q6 := Q5.same s6
    have drC : Drew p H6 _ := dr9.trans (⟨Same.but ((s3.trans s4).trans (s5'.trans s6)), Q6⟩ : Drew p _ _)
    refine ⟨lb, l6, xb, _, rfl, rfl, (dr5.trans drC).1 _ _ (kl hlb) hlbH, m6, by rw [sizeLine_eq]; simp only [List.length_cons, List.length_nil]; omega, fun l7 n7 => ?_⟩
    obtain ⟨s7, m7⟩ := fresh2 (o := .lst (xb ++ [.ref t5])) n7
    have k7 := Q6.ne n7
    have Q7 := Q6.same s7
    refine ⟨by show 2 ≤ sizeLine; decide, fun t nt => ?_⟩
    obtain ⟨s8', m8⟩ := fresh2 (o := .tup [.ref la, .ref l7]) nt
    have kt := Q7.ne nt
    have drB := drC.trans (⟨Same.but (s7.trans s8'), Q7.same s8'⟩ : Drew p _ _)
    have drA := dr5.trans drB
    have kA := offBut drA.1
    have s38 := (((s3.trans s4).trans s5').trans s6).trans (s7.trans s8')
    have k98 := Off.mono (l := p) s38
    have told9 : Dx (Off p (upd H8 l9 (.frz o9 (.tup us2)))) (.ref l9) (.tuple ((List.range (11 + d).toNat).map fun (i : Nat) => PyData.tuple [.int (2 + (0 + (i : Int))), .int (1 + (0 + (i : Int)) % 2)])) := by
      refine .tupz (Off.at k9.symm m9) d9 (Dx.sameAll (fun b' o e => ?_) _ _ hus2) ?_
      · obtain ⟨e1, e2⟩ := Nw.get (Off.same _ _ e)
        exact Off.at (P7.ne e1).symm (s9 _ _ e2)
      · generalize List.range (11 + d).toNat = is
        induction is with
        | nil => rfl
        | cons a r ih => exact ih
    have sgt : Sg (.tuple ((List.range (11 + d).toNat).map fun (i : Nat) => PyData.tuple [.int (2 + (0 + (i : Int))), .int (1 + (0 + (i : Int)) % 2)])) 39 5 := by
      refine sg_tup.mpr (SgL.mono (sgl_all (b := 2) (p := 4) fun d' hd' => ?_) ?_ (Nat.le_refl _))
      · obtain ⟨j, hj, rfl⟩ := List.mem_map.mp hd'
        have hj := List.mem_range.mp hj
        exact sg_tup.mpr ((sgl_cons ((sh_int (by omega)).sg (b' := 0) (p' := 3) (by decide) (by decide)) (sgl_one ((sh_int (by omega)).sg (b' := 0) (p' := 3) (by decide) (by decide)))).mono (by decide) (Nat.le_refl _))
      · rw [List.length_map, List.length_range]
        omega
    have huf9 := Dx.sameAll k98 _ _ (dxall_take 4 huf)
    refine q _ (.list dp) (.list (dt ++ [.tuple ([.str (Str.ofString "w" ++ (⟨#[97]⟩ : Str)), .str z1, .str z2, .int 40] ++ [_])])) _ (dx_new (Off.at kt.symm m8) (.cons (.lst (kA _ _ hla) (Dx.sameAll kA _ _ hxa)) (.cons (.lst (Off.at k7.symm (s8' _ _ m7)) (dxall_app (Dx.sameAll kA _ _ hxb) (.cons (dx_new (Off.at k5.symm (s8' _ _ (s7 _ _ (s6 _ _ m5)))) (dxall_app huf9 (.cons (Dx.same k98 _ _ told9) .nil))) .nil))) .nil))) (rows_mono rp (by omega) (Nat.le_refl _)) (rows_list ?_ fun x hx => ?_) drA
    · rw [List.length_append]
      simp only [List.length_cons, List.length_nil]
      omega
    · rcases List.mem_append.mp hx with hx | hx
      · exact rows_t x hx
      · rw [List.mem_singleton.mp hx]
        exact ⟨sg_tup.mpr ((sgl_app (four_w nz1 nz2 (List.mem_of_getElem? eL)) (sgl_one sgt)).mono (by omega) (Nat.le_refl _)), rfl⟩
end
end Cw
namespace Cw
open PySem PySem.Spec PyProof.Rows L2
theorem Pot.occ {H : Hp} {p : Addr} (h : Pot H p) : Occ H p := by
  obtain ⟨a, b, h, _⟩ := h
  exact ⟨_, h⟩
theorem dxall_set {H : Hp} {y : V} {d : PyData} (hy : Dx H y d) : ∀ {xs : List V} {ds : List PyData} (j : Nat), DxAll H xs ds → DxAll H (xs.set j y) (ds.set j d)
  | _, _, _, .nil => .nil
  | _, _, 0, .cons a b => .cons hy b
  | _, _, j + 1, .cons a b => .cons a (dxall_set hy j b)
/-- tuple(xs) -/
theorem call_tupleY {X : Cx} : CallR X (.type "tuple") (fun xs H Q => ∃ p ys, xs = [.ref p] ∧ SqL X.K H p ys ∧ ∀ l : Addr, H l = none → Q (.ref l) (upd H l (.tup ys))) := by
  intro pins s σ H xs us Q I r h
  obtain ⟨p, ys, rfl, hq, q⟩ := h
  obtain ⟨u, rfl, rx⟩ := vals1 r
  cases rx
  obtain ⟨its, r', pl, hz⟩ := I.list hq
  have many := r'.length
  refine call_tuple_list pl.isList (fun h' kp => ?_) (by simp only [List.size_toArray] <;> omega)
  have J : Inv X pins σ H { s with heap := h' } := I.kept (t' := s.toks) kp
  let ob : Obj := { cls := .type "tuple", data := .seq its.toArray }
  have at_ : (h'.push ob).get? h'.objs.size = some ob := Heap.get?_push_size _ rfl
  refine ⟨.ref h'.objs.size, upd H h'.objs.size (.tup ys), J.laid (t' := s.toks) (fun b o e => Heap.get?_push_of_some _ e) (Nat.le_refl _) ?_, rfl, q _ (J.hok.fresh (Nat.le_refl _))⟩
  exact ⟨hz, its, r', ⟨_, at_, rfl, _, rfl⟩⟩
theorem rows_odd {n b : Nat} {d : PyData} (h : Sg d 12 3) (h2 : ntR d = true) (hb : 12 ≤ b) (hn : 1 ≤ n) : RowsOk n b d := by
  refine ⟨fun ds e => ?_, h.mono (Nat.le_trans (show 12 ≤ (b + 1) * 1 by omega) (Nat.mul_le_mul_left _ hn)) (by decide)⟩
  subst e
  have h2 : (decide (ds.length ≤ 1) && ds.all ntB) = true := h2
  rw [Bool.and_eq_true] at h2
  have l1 := of_decide_eq_true h2.1
  exact ⟨by omega, fun x hx => ⟨(sgl_mem (sg_lst.mp h) x hx).mono hb (by decide), List.all_eq_true.mp h2.2 x hx⟩⟩
theorem rows_tup {n b : Nat} {ds : List PyData} (h : RowsOk n b (.list ds)) : RowsOk n b (.tuple ds) := ⟨fun _ e => (by cases e), sg_tup.mpr (sg_lst.mp h.sg)⟩
theorem tIf_pick {c : Bool} {σ : L2.St} {i j : Nat} {x y : V} {H : Hp} {Qf : V → Hp → Prop} (hi : σ[i]? = some (some x)) (hj : σ[j]? = some (some y)) (h : Qf (if c = true then x else y) H) : if c = true then tVar i σ H Qf else tVar j σ H Qf := by
  cases c with
  | true => exact ⟨x, hi, h⟩
  | false => exact ⟨y, hj, h⟩
section
variable {P : Program} {w : World} {K : PySem.W.Frag} {mg : Str → Option Value} {base : Heap} {C NS NW0 : Addr}
def spSpoil : Sp := fun vs H Q _ => ∃ (p : Addr) (u w : V) (r : Bool) (fs : List (Str × Int)) (ts : List Tie) (dp dt : List PyData) (n b m c : Nat), vs = [.ref p, u, w] ∧ Pot H p ∧ Dx (Off p H) u (dSpec fs ts) ∧ Specs r fs ts ∧ Dx (Off p H) w (.tuple [.list dp, .list dt]) ∧ RowsOk n b (.list dp) ∧ RowsOk m c (.list dt) ∧ 12 ≤ b ∧ 100 ≤ c ∧ 1 ≤ n ∧ 1 ≤ m ∧ n ≤ 900 ∧ m ≤ 900 ∧ b ≤ 900 ∧ c ≤ 900 ∧
  ∀ (x : V) (d1 d2 : PyData) (H' : Hp), Dx (Off p H') x (.tuple [d1, d2]) → RowsOk (n + 9) (b + 20) d1 → RowsOk (m + 13) (c + 20) d2 → Drew p H H' → Q x H'
theorem ok_spoilt {f : Addr} {fd : FuncData} (F : FnP K "_law_spoilt" "_law_spoilt" S_spoilt f fd) (H_take : TakeOk P w K mg base) (H_odd : Has P w K mg base "_law_odd" S_odd 3 P_odd spOdd) (H_many_put : Has P w K mg base "_law_many_put" S_many_put 3 P_many_put spMany) (H_part_put : Has P w K mg base "_law_part_put" S_part_put 4 P_part_put spPart) (H_name_put : Has P w K mg base "_law_name_put" S_name_put 3 P_name_put spPut) (H_ends_put : Has P w K mg base "_law_ends_put" S_ends_put 3 P_ends_put spPut) (H_hearers_put : Has P w K mg base "_law_hearers_put" S_hearers_put 3 P_hearers_put spPart) (B : Blt mg) : FnOk P w K mg base CX0 5 f fd P_spoilt spSpoil := by
  obtain ⟨f_take, fd_take, F_take, b_take, G_take, g_take⟩ := H_take
  obtain ⟨f_many_put, fd_many_put, F_many_put, b_many_put, G_many_put, g_many_put⟩ := H_many_put
  obtain ⟨f_odd, fd_odd, F_odd, b_odd, G_odd, g_odd⟩ := H_odd
  obtain ⟨f_part_put, fd_part_put, F_part_put, b_part_put, G_part_put, g_part_put⟩ := H_part_put
  obtain ⟨f_name_put, fd_name_put, F_name_put, b_name_put, G_name_put, g_name_put⟩ := H_name_put
  obtain ⟨f_ends_put, fd_ends_put, F_ends_put, b_ends_put, G_ends_put, g_ends_put⟩ := H_ends_put
  obtain ⟨f_hearers_put, fd_hearers_put, F_hearers_put, b_hearers_put, G_hearers_put, g_hearers_put⟩ := H_hearers_put
  have nd := sc_spoilt.nd
  refine F.ok sc_spoilt (fun vs H Q E h => ?_) (fun cdv A outer s H vs Q E hr h => ⟨_, PSs.nox (pss_cons (ps_asg (pv 2) (pg_tup (by rfl) (pgs_cons (pg_name (i := 3) nd rfl (.inl rfl)) (pgs_cons (pg_name (i := 4) nd rfl (.inl rfl)) pgs_nil))))
     (pss_cons (ps_par (i := 5) (j := 6) (by rfl) nd rfl rfl (by decide) rfl rfl (pa_cons (pe_call G_take (hr.mono (by first | decide | omega)) rfl g_take F_take.kp b_take .nil pass0 (pa_cons (pv 0) (pa_cons pe_int pa_nil))) (pa_cons (pe_call G_take (hr.mono (by first | decide | omega)) rfl g_take F_take.kp b_take .nil pass0 (pa_cons (pv 0) (pa_cons pe_int pa_nil))) pa_nil)) (by rfl))
     (C8.pss_cut (ps_if (pt_cmpR op_lt (pv 5) pe_int (nomark _)) (pss_one (ps_ret (pe_call G_many_put (hr.mono (by first | decide | omega)) rfl g_many_put F_many_put.kp b_many_put .nil pass0 (pa_cons (pv 0) (pa_cons (pv 1) (pa_cons (pv 2) (pa_cons (pv 5) pa_nil))))))) pss_nil)
     (C8.pss_cut (ps_if (pt_cmpR op_eq (pv 5) pe_int (nomark _)) (pss_one (ps_ret (pe_ix ix_list (pe_lst (pa_cons (pe_tup (pa_cons (pe_callTy call_tupleY (by rfl) B.tuple_ (by decide +kernel) (pa_cons (pv 3) pa_nil)) (pa_cons (pv 4) pa_nil))) (pa_cons (pe_tup (pa_cons (pv 3) (pa_cons (pe_callTy call_tupleY (by rfl) B.tuple_ (by decide +kernel) (pa_cons (pv 4) pa_nil)) pa_nil))) (pa_cons (pe_tup (pa_cons (pe_call G_odd (hr.mono (by first | decide | omega)) rfl g_odd F_odd.kp b_odd .nil pass0 (pa_cons (pv 0) pa_nil)) (pa_cons (pv 4) pa_nil))) (pa_cons (pe_tup (pa_cons (pv 3) (pa_cons (pe_call G_odd (hr.mono (by first | decide | omega)) rfl g_odd F_odd.kp b_odd .nil pass0 (pa_cons (pv 0) pa_nil)) pa_nil))) pa_nil))))) (pe_op op_mod (pv 6) pe_int) (fun _ _ => rfl)))) pss_nil)
     (pss_cons (ps_set (i := 7) nd rfl (.inl rfl) (pe_callTy call_list_of (by rfl) B.list_ (by decide +kernel) (pa_cons (pe_ifExp (pt_cmpR op_lt (pv 5) pe_int (nomark _)) (pv 3) (pv 4)) pa_nil)))
     (C8.pss_cut (ps_if (pt_cmpR (op_eqNil (hu_of hr)) (pv 7) (pe_lst pa_nil) (nomark _)) (pss_one (ps_ret (pv 2))) pss_nil)
     (pss_cons (ps_set (i := 8) nd rfl (.inl rfl) (pe_op op_mod (pv 6) (pe_callB call_len_seq (by rfl) B.len_ PySem.boot_len (pa_cons (pv 7) pa_nil))))
     (C8.pss_cut (ps_if (pt_cmpR op_in_seq (pv 5) (pe_tup (pa_cons pe_int (pa_cons pe_int (pa_cons pe_int pa_nil)))) (by rfl)) (pss_one (ps_asg (pe_call G_part_put (hr.mono (by first | decide | omega)) rfl g_part_put F_part_put.kp b_part_put .nil pass0 (pa_cons (pv 0) (pa_cons (pe_ix ix_list (pv 7) (pv 8) (fun _ _ => rfl)) pa_nil))) (pg_sub (pv 7) (pv 8) set_list))) (pss_one (ps_if (pt_cmpR op_in_seq (pv 5) (pe_tup (pa_cons pe_int (pa_cons pe_int pa_nil))) (by rfl)) (pss_one (ps_asg (pe_call G_name_put (hr.mono (by first | decide | omega)) rfl g_name_put F_name_put.kp b_name_put .nil pass0 (pa_cons (pv 0) (pa_cons (pv 1) (pa_cons (pe_ix ix_list (pv 7) (pv 8) (fun _ _ => rfl)) pa_nil)))) (pg_sub (pv 7) (pv 8) set_list))) (pss_one (ps_if (pt_cmpR op_eq (pv 5) pe_int (nomark _)) (pss_one (ps_asg (pe_call G_ends_put (hr.mono (by first | decide | omega)) rfl g_ends_put F_ends_put.kp b_ends_put .nil pass0 (pa_cons (pv 0) (pa_cons (pv 1) (pa_cons (pe_ix ix_list (pv 7) (pv 8) (fun _ _ => rfl)) pa_nil)))) (pg_sub (pv 7) (pv 8) set_list))) (pss_one (ps_asg (pe_call G_hearers_put (hr.mono (by first | decide | omega)) rfl g_hearers_put F_hearers_put.kp b_hearers_put .nil pass0 (pa_cons (pv 0) (pa_cons (pe_ix ix_list (pv 7) (pv 8) (fun _ _ => rfl)) pa_nil))) (pg_sub (pv 7) (pv 8) set_list))))))))
     (pss_one (ps_ret (pe_ifExp (pt_cmpR op_lt (pv 5) pe_int (nomark _)) (pe_tup (pa_cons (pv 7) (pa_cons (pv 4) pa_nil))) (pe_tup (pa_cons (pv 3) (pa_cons (pv 7) pa_nil)))))))))))))), ?_⟩)
  · obtain ⟨p, u, w, r, fs, ts, dp, dt, n, b, m, c, rfl, _⟩ := h
    rfl
  · obtain ⟨p, u, w, r, fs, ts, dp, dt, n, b, m, c, rfl, hP, hu, SP, hw, rp, rt, b12, c100, n1, m1, n9, m9, b9, c9, q⟩ := h
    rw [show L2.start N_spoilt [V.ref p, u, w] = [some (V.ref p), some u, some w, none, none, none, none, none, none] from rfl]
    obtain ⟨tw, uw, rfl, htw, huw⟩ := dx_tupY hw
    obtain ⟨va, vb, rfl, hva, hvb⟩ : ∃ va vb, uw = [va, vb] ∧ Dx (Off p H) va (.list dp) ∧ Dx (Off p H) vb (.list dt) := by
      cases huw with
      | cons h1 h2 =>
        cases h2 with
        | cons h2 h3 =>
          cases h3
          exact ⟨_, _, rfl, h1, h2⟩
    obtain ⟨la, xa, rfl, hla, hxa⟩ := dx_list hva
    obtain ⟨lb, xb, rfl, hlb, hxb⟩ := dx_list hvb
    have lxa := dxall_len hxa
    have lxb := dxall_len hxb
    obtain ⟨ln, rows_p⟩ := rp.rows _ rfl
    obtain ⟨lm, rows_t⟩ := rt.rows _ rfl
    refine ⟨_, rfl, tw, _, rfl, (htw.mp Off.same').sq, rfl, _, _, rfl, _, _, rfl, rfl, ?_⟩
    simp only [List.set]
    refine ⟨_, rfl, p, 12, rfl, hP, by decide, log_small (n := 12) (by decide) (by decide) (by decide), fun way H1 w0 w1 dr1 => ?_⟩
    refine ⟨_, rfl, p, 12, rfl, dr1.2, by decide, log_small (n := 12) (by decide) (by decide) (by decide), fun at_ H2 a0 a1 dr2 => ⟨_, _, rfl, ?_⟩⟩
    simp only [List.set]
    have dr := dr1.trans dr2
    have k2 := offBut dr.1
    have hu2 := Dx.same k2 _ _ hu
    have hw2 := Dx.same k2 _ _ hw
    have hla2 := k2 _ _ hla
    have hlb2 := k2 _ _ hlb
    have hxa2 := Dx.sameAll k2 _ _ hxa
    have hxb2 := Dx.sameAll k2 _ _ hxb
    have P2 := dr.2
    refine ⟨fun σ H' => H' = H2 ∧ ¬ way < 3 ∧ σ = [some (V.ref p), some u, some (.ref tw), some (.ref la), some (.ref lb), some (.int way), some (.int at_), none, none], ?_, ?_⟩
    · refine ⟨_, rfl, _, _, rfl, rfl, _, rfl, ?_⟩
      by_cases w3 : way < 3
      · rw [decide_eq_true w3]
        exact iteT ⟨_, rfl, _, rfl, _, rfl, _, rfl, p, u, .ref tw, way, r, fs, ts, dp, dt, n, b, m, c, rfl, P2, hu2, SP, hw2, rp, rt, b12, c100, n9, m9, fun x d1 d2 H' dx r1 r2 dr' => q x d1 d2 H' dx (rows_mono r1 (by omega) (by omega)) (rows_mono r2 (by omega) (by omega)) (dr.trans dr')⟩
      · rw [decide_eq_false w3]
        exact iteF ⟨rfl, w3, rfl⟩
    rintro σ H' ⟨e1, w3, rfl⟩
    rw [e1]
    clear e1 H'
    have hlaH := Off.same _ _ hla2
    have hlbH := Off.same _ _ hlb2
    refine ⟨fun σ H' => H' = H2 ∧ way ≠ 3 ∧ σ = [some (V.ref p), some u, some (.ref tw), some (.ref la), some (.ref lb), some (.int way), some (.int at_), none, none], ?_, ?_⟩
    · refine ⟨_, rfl, rfl, _, rfl, ?_⟩
      by_cases w3' : way = 3
      · rw [decide_eq_true (congrArg V.int w3')]
        refine iteT ?_
        refine ⟨_, rfl, la, xa, rfl, SqL.of hlaH, fun c1 n1' => ?_⟩
        obtain ⟨s1, g1⟩ := fresh2 (o := .tup xa) n1'
        have Q1 := P2.same s1
        have k1 := P2.ne n1'
        refine ⟨_, rfl, by show 2 ≤ sizeLine; decide, fun c2 n2' => ?_⟩
        obtain ⟨s2, g2⟩ := fresh2 (o := .tup [.ref c1, .ref lb]) n2'
        have Q2 := Q1.same s2
        have kk2 := Q1.ne n2'
        refine ⟨_, rfl, _, rfl, lb, xb, rfl, SqL.of (s2 _ _ (s1 _ _ hlbH)), fun c3 n3' => ?_⟩
        obtain ⟨s3, g3⟩ := fresh2 (o := .tup xb) n3'
        have Q3 := Q2.same s3
        have k3 := Q2.ne n3'
        refine ⟨by show 2 ≤ sizeLine; decide, fun c4 n4' => ?_⟩
        obtain ⟨s4, g4⟩ := fresh2 (o := .tup [.ref la, .ref c3]) n4'
        have Q4 := Q3.same s4
        have k4 := Q3.ne n4'
        refine ⟨_, rfl, p, p, _, rfl, Q4, Q4.occ.choose_spec, fun x dx H5 hx sgx ntx ntRx dr5 => ?_⟩
        refine ⟨_, rfl, by show 2 ≤ sizeLine; decide, fun c6 n6' => ?_⟩
        obtain ⟨s6, g6⟩ := fresh2 (o := .tup [x, .ref lb]) n6'
        have Q6 := dr5.2.same s6
        have k6 := dr5.2.ne n6'
        refine ⟨_, rfl, _, rfl, p, p, _, rfl, Q6, Q6.occ.choose_spec, fun y dy H7 hy sgy nty ntRy dr7 => ?_⟩
        refine ⟨by show 2 ≤ sizeLine; decide, fun c8 n8' => ?_⟩
        obtain ⟨s8, g8⟩ := fresh2 (o := .tup [.ref la, y]) n8'
        have Q8 := dr7.2.same s8
        have k8 := dr7.2.ne n8'
        refine ⟨by show 4 ≤ sizeLine; decide, fun c9 n9' => ?_⟩
        obtain ⟨s9, g9⟩ := fresh2 (o := .lst [.ref c2, .ref c4, .ref c6, .ref c8]) n9'
        have Q9 := Q8.same s9
        have a7 : Same (Off p H7) (Off p _) := Off.mono (s8.trans s9)
        have a5 := (Off.mono (l := p) s6).trans ((offBut dr7.1).trans a7)
        have a4 := (offBut dr5.1).trans a5
        have a2 := (Off.mono (l := p) ((s1.trans s2).trans (s3.trans s4))).trans a4
        have d9 : Drew p H _ := dr.trans (Drew.trans (⟨Same.but ((s1.trans s2).trans (s3.trans s4)), Q4⟩ : Drew p H2 _) (dr5.trans (Drew.trans (⟨Same.but s6, Q6⟩ : Drew p H5 _) (dr7.trans ⟨Same.but (s8.trans s9), Q9⟩))))
        have f1 := a4 _ _ (Off.at k1.symm (s4 _ _ (s3 _ _ (s2 _ _ g1))))
        have f2 := a4 _ _ (Off.at kk2.symm (s4 _ _ (s3 _ _ g2)))
        have f3 := a4 _ _ (Off.at k3.symm (s4 _ _ g3))
        have f4 := a4 _ _ (Off.at k4.symm g4)
        have f6 := (offBut dr7.1).trans a7 _ _ (Off.at k6.symm g6)
        have f8 : Off p _ c8 = some (.tup [.ref la, y]) := Off.at k8.symm (s9 _ _ g8)
        have xaF := Dx.sameAll a2 _ _ hxa2
        have xbF := Dx.sameAll a2 _ _ hxb2
        have hx5 := Dx.same a5 _ _ (Dx.same Off.same _ _ hx)
        have hy7 := Dx.same a7 _ _ (Dx.same Off.same _ _ hy)
        have laF := Dx.lst (a2 _ _ hla2) xaF
        have lbF := Dx.lst (a2 _ _ hlb2) xbF
        have rp' := rows_mono rp (show n ≤ n + 9 by omega) (show b ≤ b + 20 by omega)
        have rt' := rows_mono rt (show m ≤ m + 13 by omega) (show c ≤ c + 20 by omega)
        have e4 : at_ % 4 = 0 ∨ at_ % 4 = 1 ∨ at_ % 4 = 2 ∨ at_ % 4 = 3 := by omega
        rcases e4 with e4 | e4 | e4 | e4
        · exact ⟨_, rfl, _, _, rfl, rfl, (by show (0 : Int) < 4; decide), c9, _, at_ % 4, _, rfl, rfl, SqL.of g9, by rw [e4]; rfl, q _ (.tuple dp) (.list dt) _ (dx_new f2 (.cons (dx_new f1 xaF) (.cons lbF .nil))) (rows_tup rp') rt' d9⟩
        · exact ⟨_, rfl, _, _, rfl, rfl, (by show (0 : Int) < 4; decide), c9, _, at_ % 4, _, rfl, rfl, SqL.of g9, by rw [e4]; rfl, q _ (.list dp) (.tuple dt) _ (dx_new f4 (.cons laF (.cons (dx_new f3 xbF) .nil))) rp' (rows_tup rt') d9⟩
        · exact ⟨_, rfl, _, _, rfl, rfl, (by show (0 : Int) < 4; decide), c9, _, at_ % 4, _, rfl, rfl, SqL.of g9, by rw [e4]; rfl, q _ dx (.list dt) _ (dx_new f6 (.cons hx5 (.cons lbF .nil))) (rows_odd sgx ntRx (by omega) (by omega)) rt' d9⟩
        · exact ⟨_, rfl, _, _, rfl, rfl, (by show (0 : Int) < 4; decide), c9, _, at_ % 4, _, rfl, rfl, SqL.of g9, by rw [e4]; rfl, q _ (.list dp) dy _ (dx_new f8 (.cons laF (.cons hy7 .nil))) rp' (rows_odd sgy ntRy (by omega) (by omega)) d9⟩
      · rw [decide_eq_false fun x => w3' (V.int.inj x)]
        exact iteF ⟨rfl, w3', rfl⟩
    rintro σ H' ⟨e1, w3', rfl⟩
    rw [e1]
    clear e1 H'
    refine ⟨_, rfl, _, _, rfl, rfl, _, rfl, ?_⟩
    refine tIf_pick (x := .ref la) (y := .ref lb) rfl rfl ?_
    obtain ⟨l0, xs, ds, pk, hl0, hxs, which⟩ : ∃ l0 xs ds, (if decide (way < 6) = true then V.ref la else V.ref lb) = .ref l0 ∧ H2 l0 = some (.lst xs) ∧ DxAll (Off p H2) xs ds ∧ ((way < 6 ∧ ds = dp) ∨ (¬ way < 6 ∧ ds = dt)) := by
      by_cases c6 : way < 6
      · exact ⟨la, xa, dp, if_pos (decide_eq_true c6), hlaH, hxa2, .inl ⟨c6, rfl⟩⟩
      · exact ⟨lb, xb, dt, if_neg (by rw [decide_eq_false c6]; exact Bool.false_ne_true), hlbH, hxb2, .inr ⟨c6, rfl⟩⟩
    rw [pk]
    refine ⟨l0, xs, rfl, .inl (SqL.of hl0), fun lr nlr => ?_⟩
    simp only [List.set]
    have lxs := dxall_len hxs
    obtain ⟨N, Bd, ro, eN⟩ : ∃ N Bd, RowsOk N Bd (.list ds) ∧ ((way < 6 ∧ ds = dp ∧ N = n ∧ Bd = b) ∨ (¬ way < 6 ∧ ds = dt ∧ N = m ∧ Bd = c)) := by
      rcases which with ⟨c6, rfl⟩ | ⟨c6, rfl⟩
      · exact ⟨n, b, rp, .inl ⟨c6, rfl, rfl, rfl⟩⟩
      · exact ⟨m, c, rt, .inr ⟨c6, rfl, rfl, rfl⟩⟩
    have bN : Bd ≤ 900 ∧ N ≤ 900 := by rcases eN with ⟨_, _, rfl, rfl⟩ | ⟨_, _, rfl, rfl⟩ <;> omega
    obtain ⟨lds, rows_d⟩ := ro.rows _ rfl
    have klr := P2.ne nlr
    obtain ⟨s3, m3⟩ := fresh2 (o := .lst xs) nlr
    refine ⟨fun σ H' => xs ≠ [] ∧ Same (upd H2 lr (.lst xs)) H' ∧ σ = [some (V.ref p), some u, some (.ref tw), some (.ref la), some (.ref lb), some (.int way), some (.int at_), some (.ref lr), none], ?_, ?_⟩
    · refine ⟨_, rfl, Nat.zero_le _, fun l5 n5 => ?_⟩
      obtain ⟨s5, m5⟩ := fresh2 (o := .lst []) n5
      refine ⟨lr, l5, xs, rfl, rfl, SqL.of (s5 _ _ m3), SqL.of m5, _, rfl, ?_⟩
      cases xs with
      | nil =>
        have d5 : Drew p H _ := dr.trans (⟨Same.but (s3.trans s5), P2.same (s3.trans s5)⟩ : Drew p H2 _)
        exact iteT ⟨_, rfl, q _ (.list dp) (.list dt) _ (Dx.same (Off.mono (s3.trans s5)) _ _ hw2) (rows_mono rp (by omega) (by omega)) (rows_mono rt (by omega) (by omega)) d5⟩
      | cons a r' => exact iteF ⟨by simp, s5, rfl⟩
    rintro σ H3 ⟨nex, s35, rfl⟩
    have hlr := s35 _ _ m3
    have P3 := (P2.same s3).same s35
    have l1 : 0 < xs.length := List.length_pos_iff.mpr nex
    have kk : ∀ (H4 : Hp), But p H3 H4 → Same (Off p H2) (O2 lr p H4) := fun H4 k b' o e => by
      have np := Off.ne e
      have e2 := Off.same _ _ e
      exact O2.at (ne_of_none e2 nlr) np (k _ _ np (s35 _ _ (s3 _ _ e2)))
    have dr3 : Drew p H H3 := dr.trans ⟨Same.but (s3.trans s35), P3⟩
    refine ⟨_, rfl, _, rfl, lr, xs, rfl, .inl (SqL.of hlr), _, _, rfl, rfl, (by omega), ?_⟩
    have sp0 : 0 ≤ at_ % (xs.length : Int) := Int.emod_nonneg _ (by omega)
    have sp1 : at_ % (xs.length : Int) < xs.length := Int.emod_lt_of_pos _ (by omega)
    simp only [List.set]
    generalize at_ % (xs.length : Int) = sp at sp0 sp1 ⊢
    have hj : sp.toNat < ds.length := by omega
    obtain ⟨xj, gj, hdj⟩ := dxall_get (i := sp.toNat) hxs (List.getElem?_eq_getElem hj)
    have hat : atI xs sp = some xj := atI_int sp0 gj
    have sgj := rows_d _ (List.getElem_mem hj)
    have hix : ixN xs.length sp = some sp.toNat := by
      unfold ixN
      rw [if_pos sp0, if_pos sp1]
    refine ⟨fun σ H4 => ∃ H5 y d', Drew p H3 H5 ∧ H4 = upd H5 lr (.lst (xs.set sp.toNat y)) ∧ Dx (O2 lr p H5) y d' ∧ Sg d' (Bd + 20) 6 ∧ ntB d' = true ∧ σ = [some (V.ref p), some u, some (.ref tw), some (.ref la), some (.ref lb), some (.int way), some (.int at_), some (.ref lr), some (.int sp)], ?_, ?_⟩
    · have R0 : Same H3 H3 := fun _ _ e => e
      refine ⟨_, rfl, by show 3 ≤ sizeLine; decide, fun t1 nt1 => ⟨t1, _, rfl, .inr (SqT.of upd_same), rfl, rfl, _, rfl, ?_⟩⟩
      have r1 := R0.trans (same_new (o := .tup [.int 4, .int 6, .int 7]) nt1)
      rw [if_neg Bool.false_ne_true]
      generalize inV _ _ = b1
      generalize upd H3 t1 _ = H4 at r1 ⊢
      cases b1 with
      | true =>
        refine iteT ?_
        have P4 := P3.same r1
        have k4 := kk _ (Same.but r1)
        have hd4 := Dx.same k4 _ _ hdj
        refine ⟨_, rfl, _, rfl, _, rfl, lr, xs, sp, _, rfl, rfl, SqL.of (r1 _ _ hlr), hat, p, lr, xj, ds[sp.toNat], Bd, rfl, P4, ⟨_, r1 _ _ hlr⟩, hd4, sgj.1, bN.1, sgj.2, fun y d' H5 dy sg' n' dr5 => ?_⟩
        exact ⟨_, rfl, _, rfl, lr, xs, sp, _, rfl, rfl, dr5.1 _ _ klr.symm (r1 _ _ hlr), hix, H5, y, d', Drew.trans (⟨Same.but r1, P4⟩ : Drew p H3 _) dr5, rfl, dy, sg', n', rfl⟩
      | false =>
        refine iteF ?_
        refine ⟨_, rfl, by show 2 ≤ sizeLine; decide, fun t2 nt2 => ⟨t2, _, rfl, .inr (SqT.of upd_same), rfl, rfl, _, rfl, ?_⟩⟩
        have r2 := r1.trans (same_new (o := .tup [.int 5, .int 8]) nt2)
        rw [if_neg Bool.false_ne_true]
        generalize inV _ _ = b2
        generalize upd H4 t2 _ = H6 at r2 ⊢
        cases b2 with
        | true =>
          refine iteT ?_
          have P4 := P3.same r2
          have k4 := kk _ (Same.but r2)
          have hd4 := Dx.same k4 _ _ hdj
          refine ⟨_, rfl, _, rfl, _, rfl, _, rfl, lr, xs, sp, _, rfl, rfl, SqL.of (r2 _ _ hlr), hat, p, lr, u, xj, r, fs, ts, ds[sp.toNat], Bd, rfl, P4, ⟨_, r2 _ _ hlr⟩, Dx.same k4 _ _ hu2, SP, hd4, sgj.1, bN.1, sgj.2, fun y d' H5 dy sg' n' dr5 => ?_⟩
          exact ⟨_, rfl, _, rfl, lr, xs, sp, _, rfl, rfl, dr5.1 _ _ klr.symm (r2 _ _ hlr), hix, H5, y, d', Drew.trans (⟨Same.but r2, P4⟩ : Drew p H3 _) dr5, rfl, dy, sg', n', rfl⟩
        | false =>
          refine iteF ⟨_, rfl, rfl, _, rfl, ?_⟩
          refine ite2 (fun _ => ?_) (fun _ => ?_)
          · skip
            have P4 := P3.same r2
            have k4 := kk _ (Same.but r2)
            have hd4 := Dx.same k4 _ _ hdj
            refine ⟨_, rfl, _, rfl, _, rfl, _, rfl, lr, xs, sp, _, rfl, rfl, SqL.of (r2 _ _ hlr), hat, p, lr, u, xj, r, fs, ts, ds[sp.toNat], Bd, rfl, P4, ⟨_, r2 _ _ hlr⟩, Dx.same k4 _ _ hu2, SP, hd4, sgj.1, bN.1, sgj.2, fun y d' H5 dy sg' n' dr5 => ?_⟩
            exact ⟨_, rfl, _, rfl, lr, xs, sp, _, rfl, rfl, dr5.1 _ _ klr.symm (r2 _ _ hlr), hix, H5, y, d', Drew.trans (⟨Same.but r2, P4⟩ : Drew p H3 _) dr5, rfl, dy, sg', n', rfl⟩
          · skip
            have P4 := P3.same r2
            have k4 := kk _ (Same.but r2)
            have hd4 := Dx.same k4 _ _ hdj
            refine ⟨_, rfl, _, rfl, _, rfl, lr, xs, sp, _, rfl, rfl, SqL.of (r2 _ _ hlr), hat, p, lr, xj, ds[sp.toNat], Bd, rfl, P4, ⟨_, r2 _ _ hlr⟩, hd4, sgj.1, bN.1, sgj.2, fun y d' H5 dy sg' n' dr5 => ?_⟩
            exact ⟨_, rfl, _, rfl, lr, xs, sp, _, rfl, rfl, dr5.1 _ _ klr.symm (r2 _ _ hlr), hix, H5, y, d', Drew.trans (⟨Same.but r2, P4⟩ : Drew p H3 _) dr5, rfl, dy, sg', n', rfl⟩
    rintro σ H4 ⟨H5, y, d', dr5, rfl, dy, sg', n', rfl⟩
    have hl5 := dr5.1 _ _ klr.symm hlr
    have k6 : Same (O2 lr p H5) (Off p (upd H5 lr (.lst (xs.set sp.toNat y)))) := fun b' o e => by
      have e1 := Off.same _ _ e
      exact Off.at (Off.ne e1) (by rw [upd_ne (Off.ne e)]; exact Off.same _ _ e1)
    have P6 : Pot (upd H5 lr (.lst (xs.set sp.toNat y))) p := by
      obtain ⟨a, b', e, r'⟩ := dr5.2
      exact ⟨a, b', by rw [upd_ne klr]; exact e, r'⟩
    have B6 : But p H (upd H5 lr (.lst (xs.set sp.toNat y))) := fun b' o np e => by
      have nb : b' ≠ lr := ne_of_none (dr.1 _ _ np e) nlr
      rw [upd_ne nb]
      exact (dr3.trans dr5).1 _ _ np e
    have d6 : Drew p H (upd H5 lr (.lst (xs.set sp.toNat y))) := ⟨B6, P6⟩
    have a6 := (kk _ dr5.1).trans k6
    have f6 : Off p (upd H5 lr (.lst (xs.set sp.toNat y))) lr = some (.lst (xs.set sp.toNat y)) := Off.at klr.symm upd_same
    have hset := dxall_set (Dx.same k6 _ _ dy) sp.toNat (Dx.sameAll a6 _ _ hxs)
    have rset : ∀ x ∈ ds.set sp.toNat d', Sg x (Bd + 20) 6 ∧ ntB x = true := fun x hx => by
      rcases List.mem_or_eq_of_mem_set hx with hx | rfl
      · exact ⟨(rows_d x hx).1.mono (by omega) (Nat.le_refl _), (rows_d x hx).2⟩
      · exact ⟨sg', n'⟩
    have lset : (ds.set sp.toNat d').length ≤ N := by rw [List.length_set]; exact lds
    have laF := a6 _ _ hla2
    have lbF := a6 _ _ hlb2
    have xaF := Dx.sameAll a6 _ _ hxa2
    have xbF := Dx.sameAll a6 _ _ hxb2
    generalize upd H5 lr (.lst (xs.set sp.toNat y)) = H6 at k6 P6 B6 d6 a6 f6 hset laF lbF xaF xbF ⊢
    refine ⟨_, rfl, _, _, rfl, rfl, _, rfl, ?_⟩
    rcases eN with ⟨c6, rfl, rfl, rfl⟩ | ⟨c6, rfl, rfl, rfl⟩
    · rw [decide_eq_true c6]
      refine iteT ⟨_, rfl, _, rfl, by show 2 ≤ sizeLine; decide, fun t nt => ?_⟩
      obtain ⟨s7, m7⟩ := fresh2 (o := .tup [.ref lr, .ref lb]) nt
      have kt := P6.ne nt
      have o7 := Off.mono (l := p) s7
      exact q _ (.list (ds.set sp.toNat d')) (.list dt) _ (dx_new (Off.at kt.symm m7) (.cons (.lst (o7 _ _ f6) (Dx.sameAll o7 _ _ hset)) (.cons (.lst (o7 _ _ lbF) (Dx.sameAll o7 _ _ xbF)) .nil))) (rows_mono (rows_list lset rset) (by omega) (Nat.le_refl _)) (rows_mono rt (by omega) (by omega)) (d6.trans ⟨Same.but s7, P6.same s7⟩)
    · rw [decide_eq_false c6]
      refine iteF ⟨_, rfl, _, rfl, by show 2 ≤ sizeLine; decide, fun t nt => ?_⟩
      obtain ⟨s7, m7⟩ := fresh2 (o := .tup [.ref la, .ref lr]) nt
      have kt := P6.ne nt
      have o7 := Off.mono (l := p) s7
      exact q _ (.list dp) (.list (ds.set sp.toNat d')) _ (dx_new (Off.at kt.symm m7) (.cons (.lst (o7 _ _ laF) (Dx.sameAll o7 _ _ xaF)) (.cons (.lst (o7 _ _ f6) (Dx.sameAll o7 _ _ hset)) .nil))) (rows_mono rp (by omega) (by omega)) (rows_mono (rows_list lset rset) (by omega) (Nat.le_refl _)) (d6.trans ⟨Same.but s7, P6.same s7⟩)
end
end Cw
namespace Cw
open PySem PySem.Spec PyProof.Rows L2
structure GlC (mg : Str → Option Value) (x : Str) (C : Addr) : Prop where
  g : mg x = some (.ref C)
section
variable {P : Program} {w : World} {K : PySem.W.Frag} {mg : Str → Option Value} {base : Heap} {C NS NW0 cWE cNT : Addr}
/-- Web(..), told and refused -/
def MakesE (P : Program) (w : World) (K : PySem.W.Frag) (mg : Str → Option Value) (base : Heap) (C NW0 : Addr) : Prop := ∃ (fT e : Addr) (fdT : FuncData), FnI K fT fdT e ∧ SqT K (fun _ => none) e [] ∧ FnOk P w K mg base (L2.CX P w) 5 fT fdT P_Web_init (fun vs H Q E => spInit K C vs H Q E ∨ spInitE C NW0 vs H Q E) ∧ Mk K C fT ∧ mg "Web" = some (.ref C)
/-- what a web tells of itself -/
def namesD (r : Bool) (fs : List (Str × Int)) (ts : List Tie) : PyData := .list [.list (fs.map fun f => .str f.1), .list (ts.map fun t => .str t.nm), .bool r]
theorem dx_strs2 {H : Hp} {α : Type} (f : α → Str) : ∀ l : List α, DxAll H ((l.map f).map V.str) (l.map fun a => PyData.str (f a))
  | [] => .nil
  | a :: r => .cons (.str _) (dx_strs2 f r)
theorem names_rep {r : Bool} {fs : List (Str × Int)} {ts : List Tie} (SP : Specs r fs ts) : (namesD r fs ts).showable = true ∧ (namesD r fs ts).depth ≤ 60 ∧ (namesD r fs ts).shown.length ≤ sizeLine := by
  have h1 : Sg (.list (fs.map fun f => .str f.1)) 72 1 := sg_lst.mpr ((sgl_all (b := 8) (p := 0) fun d hd => by
    obtain ⟨f, hf, rfl⟩ := List.mem_map.mp hd
    exact (sh_name (SP.fo.nm f hf)).sg (by decide) (by decide)).mono (by rw [List.length_map]; have := SP.f8; omega) (Nat.le_refl _))
  have h2 : Sg (.list (ts.map fun t => .str t.nm)) 108 1 := sg_lst.mpr ((sgl_all (b := 8) (p := 0) fun d hd => by
    obtain ⟨t, ht, rfl⟩ := List.mem_map.mp hd
    exact (sh_name (SP.ti t ht).nm).sg (by decide) (by decide)).mono (by rw [List.length_map]; have := SP.t12; omega) (Nat.le_refl _))
  have h3 : Sg (.bool r) 0 1 := (sh_bool r).sg (by decide) (by decide)
  have h : Sg (namesD r fs ts) 200 2 := sg_lst.mpr ((sgl_cons h1 (sgl_cons h2 (sgl_one h3))).mono (by decide) (Nat.le_refl _))
  exact h.rep (by decide) (by decide)
def spTold : Sp := fun vs H Q _ => ∃ (v u : V) (d e : PyData) (r : Bool), vs = [v, u, .bl r] ∧ Dx H v d ∧ Dx H u e ∧ Few d ∧ Few e ∧
  ((∃ fs ts, d = dFolk fs ∧ (e = .list (ts.map dTie) ∨ (e = .tuple [] ∧ ts = [])) ∧ Specs r fs ts ∧ ∀ H', Same H H' → Q (.str (namesD r fs ts).shown) H') ∨
   (∃ wt wo, WebBad r d e wt wo ∧ ∀ t H', Same H H' → H' t = some (.tup [.str wt, .str wo]) → Q (.ref t) H'))
theorem ok_told {f : Addr} {fd : FuncData} (F : FnP K "_law_told" "_law_told" S_told f fd) (R_NoWeb : Rz2 P w K mg base "NoWeb" "what" "who" NW0) (WC : WebCls K C) (MW : MakesE P w K mg base C NW0) (gWE : mg "WebError" = some (.ref cWE)) (gNS : mg "NoSuch" = some (.ref NS)) (gNT : mg "NoText" = some (.ref cNT)) (mVal : mg "ValueError" = none) (EC : ExcC K NW0) (XF_NoWeb : XfC K NW0) (XN_NoWeb_what : PySem.W.findIn K (.ref NW0) "what" = some none) (XN_NoWeb_who : PySem.W.findIn K (.ref NW0) "who" = some none) (k1 : PySem.W.kitOne K (.ref NW0) (.ref cWE) = some true) (k2 : PySem.W.kitOne K (.ref NW0) (.type "ValueError") = some true) (k3 : PySem.W.kitAny K (.ref NW0) [.ref NS, .ref cNT] = some false) (H_m_persons : HasM P w K mg base C "persons" "Web.persons" S_Web_persons 1 P_Web_persons (spMPersons C)) (H_m_ties : HasM P w K mg base C "ties" "Web.ties" S_Web_ties 1 P_Web_ties (spMTies C)) (H_m_rounds : HasM P w K mg base C "rounds" "Web.rounds" S_Web_rounds 1 P_Web_rounds (spMRounds C)) (B : Blt mg) (HM : HasMods K) : FnG P w K mg base CX0 8 f fd P_told (spTold) := by
  obtain ⟨fI, eI, fdI, FI, heI, GI, MI, gI⟩ := MW
  obtain ⟨_, _, k_2_rounds⟩ := bind_2_rounds FI
  obtain ⟨f_m_persons, fd_m_persons, F_m_persons, b_m_persons, G_m_persons, m_persons⟩ := H_m_persons
  obtain ⟨f_m_ties, fd_m_ties, F_m_ties, b_m_ties, G_m_ties, m_ties⟩ := H_m_ties
  obtain ⟨f_m_rounds, fd_m_rounds, F_m_rounds, b_m_rounds, G_m_rounds, m_rounds⟩ := H_m_rounds
  have nd := sc_told.nd
  have cr : bootBuiltins "repr" = some (.builtin "repr") := by decide +kernel
  refine defG F sc_told (fun vs H Q E h => ?_) (fun cdv A outer s H vs Q E hG hr h => ⟨_, PSs.nox (pss_cons (ps_set (i := 3) nd rfl (.inl rfl) pe_non)
     (pss_cons (ps_try_as (i := 5) rfl rfl nd rfl rfl ⟨rfl, by decide, .inl R_NoWeb.g⟩ takes0 (fun W pn xe tk _ => (pss_cons (ps_set (i := 4) nd rfl (.inl rfl) (pe_makeKS MI GI (hr.mono (by first | decide | omega)) rfl gI k_2_rounds (fun σ => passAt tk σ) (pa_cons (pv 0) (pa_cons (pv 1) pa_nil)) (pk_cons (pv 2) pk_nil)))
     (pss_one (ps_set (i := 3) nd rfl (.inl rfl) (pe_callB (call_reprX hG hr.units HM) (by rfl) B.repr_ cr (pa_cons (pe_lst (pa_cons (pe_meth0 (pv 4) WC.cl m_persons G_m_persons (hr.mono (by first | decide | omega)) b_m_persons .nil pass0) (pa_cons (pe_meth0 (pv 4) WC.cl m_ties G_m_ties (hr.mono (by first | decide | omega)) b_m_ties .nil pass0) (pa_cons (pe_meth0 (pv 4) WC.cl m_rounds G_m_rounds (hr.mono (by first | decide | omega)) b_m_rounds .nil pass0) pa_nil)))) pa_nil)))))) (fun a oe cls d pn hz hf => (pss_cons (ps_set (i := 6) nd rfl (.inl rfl) (pe_and (pe_callB (call_isG hz hf) (by rfl) B.isinstance_ (by decide +kernel) (pa_cons (pv 5) (pa_cons (pe_glob (v := .ref cWE) rfl gWE rfl) pa_nil))) (pe_and (pe_callB (call_isG hz hf) (by rfl) B.isinstance_ (by decide +kernel) (pa_cons (pv 5) (pa_cons (pe_bltn (v := .ty "ValueError") (u := .type "ValueError") (by rfl) mVal (by decide +kernel) rfl) pa_nil))) (pe_one (pe_not (pe_callB (call_isGT hz hf) (by rfl) B.isinstance_ (by decide +kernel) (pa_cons (pv 5) (pa_cons (pe_tup (pa_cons (pe_glob (v := .ref NS) rfl gNS rfl) (pa_cons (pe_glob (v := .ref cNT) rfl gNT rfl) pa_nil))) pa_nil))))))))
     (pss_one (ps_set (i := 3) nd rfl (.inl rfl) (pe_ifExp (pt_val (pv 6)) (pe_tup (pa_cons (pe_xf XF_NoWeb XN_NoWeb_what hz hf (pv 5)) (pa_cons (pe_xf XF_NoWeb XN_NoWeb_who hz hf (pv 5)) pa_nil))) pe_non))))))
     (pss_one (ps_ret (pv 3))))), ?_⟩)
  · obtain ⟨v, u, d, e, r, rfl, _⟩ := h
    rfl
  · obtain ⟨v, u, d, e, r, rfl, hv, hu, fd', fe', cas⟩ := h
    rw [show L2.start N_told [v, u, V.bl r] = [some v, some u, some (.bl r), none, none, none, none] from rfl]
    simp only [List.set]
    refine ⟨_, rfl, _, rfl, _, rfl, rfl, rfl, fun x dx nx ndx ne => ?_⟩
    have sx : Same H (Off x (upd (upd H dx (.own x)) x (.ins C dx []))) := fun b o eb => by
      have b1 := ne_of_none eb nx
      have b2 := ne_of_none eb ndx
      exact Off.at b1 (by rw [upd_ne b1, upd_ne b2]; exact eb)
    rcases cas with ⟨fs, ts, rfl, he, SP, q⟩ | ⟨wt, wo, bad, q⟩
    · have ti : TiesIn K H u ts := by
        rcases he with rfl | ⟨rfl, rfl⟩
        · exact .inl hu
        · obtain ⟨t, us, rfl, ht, hus⟩ := dx_tupY hu
          cases hus
          exact .inr ⟨t, rfl, ht.sq, rfl⟩
      refine .inl (init_new nx ndx hv ti SP fun H4 s4 W4 => ?_)
      have W4 := WebAt.same W4 Nw.same
      simp only [List.set]
      obtain ⟨dx4, ds4, dl4, pr4, tr4, xs4, w1, w2⟩ := id W4
      refine ⟨_, rfl, x, dx4, _, rfl, w1, rfl, x, r, fs, ts, rfl, W4, fun l1 n1 => ?_⟩
      obtain ⟨s5, m5⟩ := fresh2 (o := .lst ((fs.map (·.1)).map V.str)) n1
      refine ⟨_, rfl, x, dx4, _, rfl, s5 _ _ w1, rfl, x, r, fs, ts, rfl, WebAt.same W4 s5, fun l2 n2 => ?_⟩
      obtain ⟨s6, m6⟩ := fresh2 (o := .lst ((ts.map (·.nm)).map V.str)) n2
      refine ⟨_, rfl, x, dx4, _, rfl, s6 _ _ (s5 _ _ w1), rfl, x, r, fs, ts, rfl, WebAt.same (WebAt.same W4 s5) s6, ?_⟩
      refine ⟨by show 3 ≤ sizeLine; decide, fun l3 n3 => ?_⟩
      obtain ⟨s7, m7⟩ := fresh2 (o := .lst [.ref l1, .ref l2, .bl r]) n3
      have rep := names_rep SP
      refine ⟨l3, namesD r fs ts, rfl, .lst m7 (.cons (.lst (s7 _ _ (s6 _ _ m5)) (dx_strs2 _ fs)) (.cons (.lst (s7 _ _ m6) (dx_strs2 _ ts)) (.cons (.bl r) .nil))), rep.1, rep.2.1, rep.2.2, ?_⟩
      exact ⟨_, rfl, q _ (s4.trans (s5.trans (s6.trans s7)))⟩
    · refine .inr ⟨x, dx, v, u, r, d, e, wt, wo, rfl, upd_same, Dx.same sx _ _ hv, Dx.same sx _ _ hu, fd', fe', bad, fun y H' H'' s' nx' => ?_⟩
      refine ⟨true, R_NoWeb.ex, fun _ e ne => ?_, fun z => Bool.noConfusion z⟩
      obtain ⟨_, hd, s2⟩ := nx'
      have s02 : Same H H'' := fun b o e => s2 _ _ (Off.same _ _ (s' _ _ (sx _ _ e)))
      have dk : DOk (some y) H'' := .inr ⟨y, _, rfl, hd⟩
      simp only [List.set]
      refine ⟨_, rfl, NW0, _, _, true, rfl, dk, EC, rfl, .own _, k1, true, rfl, iteT ?_⟩
      refine ⟨_, rfl, NW0, _, _, true, rfl, dk, EC, rfl, .ty _, k2, true, rfl, iteT ?_⟩
      refine ⟨_, rfl, by show 2 ≤ sizeLine; decide, fun tp ntp => ?_⟩
      obtain ⟨s3, m3⟩ := fresh2 (o := .tup [.ref NS, .ref cNT]) ntp
      have hd3 := s3 _ _ hd
      have s03 := s02.trans s3
      generalize upd H'' tp (.tup [.ref NS, .ref cNT]) = H3 at s3 m3 hd3 s03 ⊢
      have dk : DOk (some y) H3 := .inr ⟨y, _, rfl, hd3⟩
      refine ⟨NW0, tp, _, [.ref NS, .ref cNT], false, rfl, dk, EC, rfl, m3, .cons (.own _) (.cons (.own _) .nil), k3, ?_⟩
      refine ⟨false, rfl, ?_⟩
      refine ⟨_, rfl, true, rfl, iteT ?_⟩
      refine ⟨_, rfl, rfl, rfl, y, _, .str wt, rfl, hd3, rfl, _, rfl, rfl, rfl, y, _, .str wo, rfl, hd3, rfl, by show 2 ≤ sizeLine; decide, fun t nt => ?_⟩
      exact ⟨_, rfl, q t _ (s03.trans (same_new nt)) upd_same⟩
end
end Cw
namespace Cw
open PySem PySem.Spec PyProof.Rows L2
theorem spec_rows {r : Bool} {fs : List (Str × Int)} {ts : List Tie} (SP : Specs r fs ts) : RowsOk 8 12 (dFolk fs) ∧ RowsOk 12 185 (.list (ts.map dTie)) := by
  refine ⟨?_, ?_⟩
  · unfold dFolk
    refine rows_list (by rw [List.length_map]; exact SP.f8) fun x hx => ?_
    obtain ⟨f, hf, rfl⟩ := List.mem_map.mp hx
    have st := SP.fo.st f hf
    refine ⟨(sg_tup.mpr ((sgl_cons ((sh_name (SP.fo.nm f hf)).sg (b' := 8) (p' := 0) (by decide) (by decide)) (sgl_one ((sh_int (i := f.2) (by omega)).sg (b' := 0) (p' := 0) (by decide) (by decide)))).mono (b' := 12) (p' := 5) (by decide) (by decide))), ?_⟩
    show (([PyData.str f.1, .int f.2] : List PyData).all ntE) = true
    simp only [List.all_cons, List.all_nil, Bool.and_true, Bool.and_eq_true]
    exact ⟨rfl, decide_eq_true (by omega)⟩
  · refine rows_list (by rw [List.length_map]; exact SP.t12) fun x hx => ?_
    obtain ⟨t, ht, rfl⟩ := List.mem_map.mp hx
    have g := lenR_le (SP.ti t ht).ln
    refine ⟨(SP.sh1 ht).sg (by decide) (by decide), ?_⟩
    show (([PyData.str t.nm, .str t.one, .str t.other, .int t.len, dHs t.hs] : List PyData).all ntE) = true
    simp only [List.all_cons, List.all_nil, Bool.and_true, Bool.and_eq_true]
    exact ⟨rfl, rfl, rfl, decide_eq_true (by omega), rfl⟩
theorem few_of {n b : Nat} {d : PyData} (h : RowsOk n b d) (hn : n ≤ 1000) (hb : b ≤ 1000) : Few d := fun ds e => by
  obtain ⟨l, g⟩ := h.rows ds e
  exact ⟨Nat.le_trans l hn, fun x hx => Nat.le_trans (g x hx).1.bk hb⟩
/-- what is due, shown where the web is made -/
inductive DueL (r : Bool) (d e : PyData) (H : Hp) : V → Prop
  | good {fs : List (Str × Int)} {ts : List Tie} : d = dFolk fs → (e = .list (ts.map dTie) ∨ (e = .tuple [] ∧ ts = [])) → Specs r fs ts → DueL r d e H (.str (namesD r fs ts).shown)
  | bad {p : Addr} {wt wo : Str} : WebBad r d e wt wo → H p = some (.tup [.str wt, .str wo]) → DueL r d e H (.ref p)
/-- the ties' names -/
theorem nms_lc {K : PySem.W.Frag} {x0 x1 x2 x3 x4 x5 x6 x7 x8 x9 x10 x11 : Option V} {J : It} {G : Hp → Prop} {zs : List V} (w : Walk J zs.length G (YAt zs)) {H1 : Hp} {D : Addr} {ts : List Tie} {Qd : Hp → Prop} (nD : H1 D = none) (hG : ∀ H, Same H1 H → G H) (hx : DxAll H1 zs (ts.map dTie)) (hn : ts.length ≤ 1000)
    (q : ∀ H', Same H1 H' → H' D = some (.lst ((ts.map (·.nm)).map V.str)) → Qd H') :
    LcD J (gName 11) tYes (tOp (rIxT K) (tVar 11) (tC (.int 0))) [11] [x0, x1, x2, x3, x4, x5, x6, x7, x8, x9, x10, x11] H1 D Qd := by
  have lz : zs.length = ts.length := by
    have := dxall_len hx
    rw [List.length_map] at this
    exact this
  refine lc_map w (ys := (ts.map (·.nm)).map V.str) nD hG (by rw [List.length_map, List.length_map, lz]) (by omega) ?_ q
  intro i x y H2 k hxi hyi s2 hk
  have hi : i < ts.length := by
    have := (List.getElem?_eq_some_iff.mp hxi).1
    omega
  obtain ⟨x', e1, e2⟩ := dxall_get (i := i) hx (by rw [List.getElem?_map, List.getElem?_eq_getElem hi]; rfl)
  have exy : x = x' := Option.some.inj (hxi.symm.trans e1)
  subst exy
  obtain ⟨t, vh, rfl, ht, hvh⟩ := dx_tie (Dx.same s2 _ _ e2)
  have ey : y = .str ts[i].nm := by
    rw [List.map_map, List.getElem?_map, List.getElem?_eq_getElem hi] at hyi
    exact (Option.some.inj hyi).symm
  refine ⟨rfl, _, rfl, t, _, 0, _, rfl, rfl, SqT.of ht, rfl, ?_⟩
  rw [← ey]
  exact hk H2 fun _ _ e => e
theorem strs_eqv (z : Str) : PyData.eqv (.str z) (.str z) = true := by simp [PyData.eqv]
/-- != of two plain things, or of two data -/
def rNeE (K : PySem.W.Frag) : R2 := fun x y H Q => rNe x y H Q ∨ rNeD K x y H Q
theorem op_neE {X : Cx} (hu : X.A.units + 64 < cLine) : OpR X (compareOp .NotEq) (rNeE X.K) := fun pins s σ H x y v u Q I rx ry h => h.elim (op_ne pins s σ H x y v u Q I rx ry) (op_neD hu pins s σ H x y v u Q I rx ry)
theorem ofs_ok (s : String) : PyData.strOk (Str.ofString s) = true := by
  unfold PyData.strOk
  rw [Array.all_eq_true', Str.ofString_eq_toList]
  intro c hc
  simp only [List.mem_toArray, List.mem_map] at hc
  obtain ⟨ch, _, rfl⟩ := hc
  have h := ch.valid
  refine decide_eq_true ?_
  have : ch.toNat < 0x110000 := by
    unfold UInt32.isValidChar Nat.isValidChar at h
    show ch.val.toNat < _
    omega
  exact this
theorem name_ok {z : Str} (h : IsName z) : PyData.strOk z = true := by
  unfold PyData.strOk
  rw [Array.all_eq_true']
  intro c hc
  have := h.2.2 c (Array.mem_toList_iff.mpr hc)
  exact decide_eq_true (by omega)
theorem bad_ok {r : Bool} {d e : PyData} {wt wo : Str} (h : WebBad r d e wt wo) : PyData.strOk wt = true ∧ PyData.strOk wo = true := by
  rcases h with (⟨_, rfl, rfl⟩ | ⟨fs, e, rest, _, _, h⟩ | ⟨_, _, _, _, rfl, rfl⟩) | ⟨fs, _, _, _, _, (⟨_, _, rfl, rfl⟩ | ⟨ts, e, rest, _, _, h⟩ | ⟨ts, _, _, rfl, h⟩)⟩
  · exact ⟨ofs_ok _, ofs_ok _⟩
  · cases h with
    | pair => exact ⟨ofs_ok _, ofs_ok _⟩
    | name => exact ⟨ofs_ok _, ofs_ok _⟩
    | again h => exact ⟨ofs_ok _, name_ok (name_of h)⟩
    | state h => exact ⟨ofs_ok _, name_ok (name_of h)⟩
  · exact ⟨ofs_ok _, ofs_ok _⟩
  · exact ⟨ofs_ok _, ofs_ok _⟩
  · cases h with
    | tie => exact ⟨ofs_ok _, ofs_ok _⟩
    | name => exact ⟨ofs_ok _, ofs_ok _⟩
    | again h => exact ⟨ofs_ok _, name_ok (name_of h)⟩
    | ends h => exact ⟨ofs_ok _, name_ok (name_of h)⟩
    | length h => exact ⟨ofs_ok _, name_ok (name_of h)⟩
    | hearers h => exact ⟨ofs_ok _, name_ok (name_of h)⟩
  · rcases h with ⟨_, rfl⟩ | ⟨_, _, rfl⟩ <;> exact ⟨ofs_ok _, ofs_ok _⟩
theorem pair_shaped {y z : Str} (h : PyData.strOk y = true ∧ PyData.strOk z = true) : SeqAt.shaped (.tuple [.str y, .str z]) = true := by simp [SeqAt.shaped, PyData.canLay0, PyData.canLayAll0, PyData.depth, PyData.depthAll, h.1, h.2]
theorem pair_eqv (y z : Str) : PyData.eqv (.tuple [.str y, .str z]) (.tuple [.str y, .str z]) = true := by simp [PyData.eqv, PyData.eqvAll]
section
variable {P : Program} {w : World} {K : PySem.W.Frag} {mg : Str → Option Value} {base : Heap} {C NW0 : Addr}
abbrev RndOk (P : Program) (w : World) (K : PySem.W.Frag) (mg : Str → Option Value) (base : Heap) : Prop := Has P w K mg base "_law_rounds" S_rounds 5 P_rounds spRounds
def spLaw (K : PySem.W.Frag) : Sp := fun vs H Q _ => ∃ (a : Addr) (ns : List Int), vs = [.ref a] ∧ SqL K H a (ns.map V.int) ∧ ∀ H', Q (.bl true) H'
theorem ok_law {f : Addr} {fd : FuncData} (F : FnP K "law" "law" S_law f fd) (H_pot : Has P w K mg base "_law_pot" S_pot 1 P_pot (spPot K)) (H_take : TakeOk P w K mg base) (H_web : WebOk P w K mg base) (H_rounds : RndOk P w K mg base) (H_spoilt : Has P w K mg base "_law_spoilt" S_spoilt 5 P_spoilt spSpoil) (H_due : Has P w K mg base "_law_due" S_due 4 P_due spDue) (H_told : HasG P w K mg base "_law_told" S_told 8 P_told spTold) (B : Blt mg) (HM : HasMods K) : FnG P w K mg base CX0 14 f fd P_law (spLaw K) := by
  obtain ⟨f_pot, fd_pot, F_pot, b_pot, G_pot, g_pot⟩ := H_pot
  obtain ⟨f_take, fd_take, F_take, b_take, G_take, g_take⟩ := H_take
  obtain ⟨f_rounds, fd_rounds, F_rounds, b_rounds, G_rounds, g_rounds⟩ := H_rounds
  obtain ⟨f_web, fd_web, F_web, b_web, G_web, g_web⟩ := H_web
  obtain ⟨f_spoilt, fd_spoilt, F_spoilt, b_spoilt, G_spoilt, g_spoilt⟩ := H_spoilt
  obtain ⟨f_due, fd_due, F_due, b_due, G_due, g_due⟩ := H_due
  obtain ⟨f_told, fd_told, F_told, b_told, G_told, g_told⟩ := H_told
  have nd := sc_law.nd
  have cr : bootBuiltins "repr" = some (.builtin "repr") := by decide +kernel
  refine defG F sc_law (fun vs H Q E h => ?_) (fun cdv A outer s H vs Q E hG hr h => ⟨_, PSs.nox (C8.pss_cut (ps_for PassesOwn.never rfl (pi_range1 rfl B.range_ (pa_cons (pe_callB (call_max2 rfl) (by rfl) B.max_ (by decide +kernel) (pa_cons pe_int (pa_cons (pe_callB (call_min2 rfl) (by rfl) B.min_ (by decide +kernel) (pa_cons (pe_callB call_len_seq (by rfl) B.len_ PySem.boot_len (pa_cons (pv 0) pa_nil)) (pa_cons pe_int pa_nil))) pa_nil))) pa_nil)) (pg_name (i := 1) nd rfl (.inl rfl))
      (pss_cons (ps_set (i := 2) nd rfl (.inl rfl) (pe_call G_pot (hr.mono (by first | decide | omega)) rfl g_pot F_pot.kp b_pot .nil pass0 (pa_cons (pv 0) (pa_cons (pv 1) pa_nil))))
     (pss_cons (ps_set (i := 3) nd rfl (.inl rfl) (pe_cmpR op_eq (pe_call G_take (hr.mono (by first | decide | omega)) rfl g_take F_take.kp b_take .nil pass0 (pa_cons (pv 2) (pa_cons pe_int pa_nil))) pe_int (nomark _)))
     (C8.pss_cut (ps_set (i := 4) nd rfl (.inl rfl) (pe_ifExp (pt_val (pv 3)) (pe_call G_rounds (hr.mono (by first | decide | omega)) rfl g_rounds F_rounds.kp b_rounds .nil pass0 (pa_cons (pv 2) (pa_cons pe_int (pa_cons pe_int pa_nil)))) (pe_call G_web (hr.mono (by first | decide | omega)) rfl g_web F_web.kp b_web .nil pass0 (pa_cons (pv 2) (pa_cons pe_int (pa_cons pe_int (pa_cons (pe_call G_take (hr.mono (by first | decide | omega)) rfl g_take F_take.kp b_take .nil pass0 (pa_cons (pv 2) (pa_cons pe_int pa_nil))) (pa_cons pe_int pa_nil))))))))
     (pss_cons (ps_set (i := 5) nd rfl (.inl rfl) (pv 4))
     (C8.pss_cut (ps_for PassesOwn.never rfl (pi_range1 rfl B.range_ (pa_cons (pe_call G_take (hr.mono (by first | decide | omega)) rfl g_take F_take.kp b_take .nil pass0 (pa_cons (pv 2) (pa_cons pe_int pa_nil))) pa_nil)) (pg_name (i := 6) nd rfl (.inl rfl))
      (pss_one (ps_if (PW.pt (pw_and (pt_val (pe_callB call_isi (by rfl) B.isinstance_ (by decide +kernel) (pa_cons (pe_ix ix_tup (pv 5) pe_int (fun _ _ => rfl)) (pa_cons (pe_bltn (v := .ty "list") (u := .type "list") (by rfl) B.list_ (by decide +kernel) rfl) pa_nil)))) (pw_and1 (pt_val (pe_callB call_isi (by rfl) B.isinstance_ (by decide +kernel) (pa_cons (pe_ix ix_tup (pv 5) pe_int (fun _ _ => rfl)) (pa_cons (pe_bltn (v := .ty "list") (u := .type "list") (by rfl) B.list_ (by decide +kernel) rfl) pa_nil))))))) (pss_one (ps_set (i := 5) nd rfl (.inl rfl) (pe_call G_spoilt (hr.mono (by first | decide | omega)) rfl g_spoilt F_spoilt.kp b_spoilt .nil pass0 (pa_cons (pv 2) (pa_cons (pv 4) (pa_cons (pv 5) pa_nil)))))) pss_nil)))
     (pss_cons (ps_asg (pv 5) (pg_tup (by rfl) (pgs_cons (pg_name (i := 7) nd rfl (.inl rfl)) (pgs_cons (pg_name (i := 8) nd rfl (.inl rfl)) pgs_nil))))
     (pss_cons (ps_par (i := 9) (j := 10) (by rfl) nd rfl rfl (by decide) rfl rfl (pa_cons (pe_callB (call_reprX hG hr.units HM) (by rfl) B.repr_ cr (pa_cons (pv 5) pa_nil)) (pa_cons (pe_call G_due (hr.mono (by first | decide | omega)) rfl g_due F_due.kp b_due .nil pass0 (pa_cons (pv 7) (pa_cons (pv 8) (pa_cons (pv 3) pa_nil)))) pa_nil)) (by rfl))
     (C8.pss_cut (ps_if (pt_cmpR op_isN (pv 10) pe_non (nomark _)) (pss_one (ps_set (i := 10) nd rfl (.inl rfl) (pe_callB (call_reprX hG hr.units HM) (by rfl) B.repr_ cr (pa_cons (pe_lst (pa_cons (pe_lc (own := [("_law_row", 11)]) (g := gName 11) rfl nd (pi_list (pv 7)) (blkOk_by (own := [("_law_row", 11)]) (N := N_law) (sc := defScope S_law) (by decide +kernel)) (fun _ _ _ _ _ => (pg_name (i := 11) nd rfl (.inl rfl))) (fun _ _ _ _ _ => pts_nil) (fun _ _ _ _ _ => (pe_ix (ix_tupK (K := K) rfl) (pv 11) pe_int (fun _ _ => rfl)))) (pa_cons (pe_lc (own := [("_law_row", 11)]) (g := gName 11) rfl nd (pi_seq2 (pv 8)) (blkOk_by (own := [("_law_row", 11)]) (N := N_law) (sc := defScope S_law) (by decide +kernel)) (fun _ _ _ _ _ => (pg_name (i := 11) nd rfl (.inl rfl))) (fun _ _ _ _ _ => pts_nil) (fun _ _ _ _ _ => (pe_ix (ix_tupK (K := K) rfl) (pv 11) pe_int (fun _ _ => rfl)))) (pa_cons (pv 3) pa_nil)))) pa_nil)))) pss_nil)
     (pss_one (ps_if (PW.pt (pw_or (pt_cmpR (op_neE hr.units) (pe_callG G_told hG (hr.mono (by first | decide | omega)) rfl g_told F_told.kp b_told .nil pass0 (pa_cons (pv 7) (pa_cons (pv 8) (pa_cons (pv 3) pa_nil)))) (pv 10) (nomark _)) (pw_or1 (pt_cmpR op_ne (pe_callB (call_reprX hG hr.units HM) (by rfl) B.repr_ cr (pa_cons (pv 5) pa_nil)) (pv 9) (nomark _))))) pss_no pss_nil)))))))))))
     (pss_one (ps_ret pe_bl))), ?_⟩)
  · obtain ⟨a, ns, rfl, _⟩ := h
    rfl
  · obtain ⟨a, ns, rfl, hS, q⟩ := h
    rw [show L2.start N_law [V.ref a] = [some (V.ref a), none, none, none, none, none, none, none, none, none, none, none] from rfl]
    have hlen5 : ∀ m : Int, (if (if 5 < m then (5 : Int) else m) > 1 then (if 5 < m then (5 : Int) else m) else 1) ≤ 5 := fun m => by
      split
      · split <;> omega
      · omega
    refine ⟨fun σ H' => True, ?_, fun σ H' _ => q _⟩
    refine ⟨_, rfl, a, _, rfl, .inl hS, _, _, rfl, _, _, rfl, _, rfl, ?_, ?_, ?_⟩
    · split
      · split <;> omega
      · omega
    · have := hlen5 ((ns.map V.int).length : Nat)
      omega
    have hn5 := hlen5 ((ns.map V.int).length : Nat)
    generalize (if (if 5 < (((ns.map V.int).length : Nat) : Int) then (5 : Int) else (((ns.map V.int).length : Nat) : Int)) > 1 then (if 5 < (((ns.map V.int).length : Nat) : Int) then (5 : Int) else (((ns.map V.int).length : Nat) : Int)) else 1) = many at hn5 ⊢
    refine for_it (walk_range (lo := 0) (n := many.toNat)) (fun i σ H2 => Same H H2 ∧ ∃ (x1 x2 x3 x4 x5 x6 x7 x8 x9 x10 x11 : Option V), σ = [some (V.ref a), x1, x2, x3, x4, x5, x6, x7, x8, x9, x10, x11]) ⟨fun _ _ e => e, none, none, none, none, none, none, none, none, none, none, none, rfl⟩ (fun _ _ _ _ _ => trivial) ?_ (fun _ _ _ => trivial)
    rintro i x σ H2 H2' hi ⟨s02, x1, x2, x3, x4, x5, x6, x7, x8, x9, x10, x11, rfl⟩ ⟨rfl, rfl⟩
    refine ⟨_, rfl, _, rfl, a, ns, _, rfl, SqL.same hS s02, by omega, by omega, fun p H3 s3 np P3 => ?_⟩
    refine ⟨_, rfl, p, _, rfl, P3, by decide, log_small (n := 4) (by decide) (by decide) (by decide), fun d H4 d0 d1 dr4 => ⟨rfl, ?_⟩⟩
    generalize hr0 : decide (V.int d = V.int 0) = r
    simp only [List.set]
    have fin : ∀ H10, Drew p H3 H10 → Same H H10 := fun H10 dr b o e => by
      have e2 := s02 _ _ e
      exact dr.1 b o (ne_of_none e2 np) (s3 _ _ e2)
    refine ⟨fun σ H7 => ∃ (v : V) (fs : List (Str × Int)) (ts : List Tie), σ = [some (V.ref a), some (.int (0 + (i : Int))), some (.ref p), some (.bl r), some v, x5, x6, x7, x8, x9, x10, x11] ∧ Drew p H3 H7 ∧ Dx (Off p H7) v (dSpec fs ts) ∧ Specs r fs ts, ?_, ?_⟩
    · refine ⟨_, rfl, r, rfl, ?_⟩
      cases r with
      | true =>
        exact iteT ⟨_, rfl, p, 8, 12, rfl, dr4.2, by decide, by decide, by decide, by decide, fun v fs ts H7 x7 sp dr7 => ⟨v, fs, ts, rfl, dr4.trans dr7, x7, sp⟩⟩
      | false =>
        refine iteF ⟨_, rfl, _, rfl, p, 4, rfl, dr4.2, by decide, log_small (n := 4) (by decide) (by decide) (by decide), fun y H6 y0 y1 dr6 => ?_⟩
        exact ⟨p, 8, 12, y, 12, rfl, dr6.2, by decide, by decide, by decide, by decide, y0, by decide, by decide, fun v fs ts H7 x7 sp f1 f8 t12 tl dr7 => ⟨v, fs, ts, rfl, (dr4.trans dr6).trans dr7, x7, sp.cries f1 f8 t12 (by omega)⟩⟩
    rintro σ H7 ⟨v, fs, ts, rfl, dr7, hv, SP⟩
    refine ⟨_, rfl, ?_⟩
    simp only [List.set]
    obtain ⟨w1, w2⟩ := spec_rows SP
    refine ⟨fun σ H8 => ∃ (u : V) (d1 d2 : PyData) (x6 : Option V), σ = [some (V.ref a), some (.int (0 + (i : Int))), some (.ref p), some (.bl r), some v, some u, x6, x7, x8, x9, x10, x11] ∧ Drew p H3 H8 ∧ Dx (Off p H8) u (.tuple [d1, d2]) ∧ RowsOk 35 72 d1 ∧ RowsOk 51 245 d2, ?_, ?_⟩
    · refine ⟨_, rfl, p, 4, rfl, dr7.2, by decide, log_small (n := 4) (by decide) (by decide) (by decide), fun m H8 m0 m1 dr8 => ⟨_, rfl, by omega, by omega, ?_⟩⟩
      refine for_it (walk_range (lo := 0) (n := m.toNat)) (fun j σ H9 => ∃ (u : V) (d1 d2 : PyData) (x6 : Option V), σ = [some (V.ref a), some (.int (0 + (i : Int))), some (.ref p), some (.bl r), some v, some u, x6, x7, x8, x9, x10, x11] ∧ Drew p H7 H9 ∧ Dx (Off p H9) u (.tuple [d1, d2]) ∧ RowsOk (8 + 9 * j) (12 + 20 * j) d1 ∧ RowsOk (12 + 13 * j) (185 + 20 * j) d2)
        ⟨v, _, _, _, rfl, dr8, Dx.same (offBut dr8.1) _ _ hv, w1, w2⟩ (fun _ _ _ _ _ => trivial) ?_ ?_
      · rintro j x σ H9 H9' hj ⟨u, d1, d2, x6, rfl, dr9, hu, r1, r2⟩ ⟨rfl, rfl⟩
        simp only [List.set]
        obtain ⟨tu, uu, rfl, htu, huu⟩ := dx_tupY hu
        obtain ⟨va, vb, rfl, hva, hvb⟩ : ∃ va vb, uu = [va, vb] ∧ Dx (Off p H9') va d1 ∧ Dx (Off p H9') vb d2 := by
          cases huu with
          | cons h1 h2 =>
            cases h2 with
            | cons h2 h3 =>
              cases h3
              exact ⟨_, _, rfl, h1, h2⟩
        have stay : ∃ (u : V) (e1 e2 : PyData) (x6 : Option V), [some (V.ref a), some (.int (0 + (i : Int))), some (.ref p), some (.bl r), some v, some (.ref tu), some (.int (0 + (j : Int))), x7, x8, x9, x10, x11] = [some (V.ref a), some (.int (0 + (i : Int))), some (.ref p), some (.bl r), some v, some u, x6, x7, x8, x9, x10, x11] ∧ Drew p H7 H9' ∧ Dx (Off p H9') u (.tuple [e1, e2]) ∧ RowsOk (8 + 9 * (j + 1)) (12 + 20 * (j + 1)) e1 ∧ RowsOk (12 + 13 * (j + 1)) (185 + 20 * (j + 1)) e2 :=
          ⟨_, d1, d2, _, rfl, dr9, hu, rows_mono r1 (by omega) (by omega), rows_mono r2 (by omega) (by omega)⟩
        refine ⟨_, rfl, tu, _, 0, _, rfl, rfl, (htu.mp Off.same').sq, rfl, _, _, _, _, _, rfl, .ty _, th_ty (.dx (Dx.same Off.same _ _ hva)), kit_ty (kt_lst d1), _, rfl, ?_⟩
        cases e1 : isLst d1 with
        | false => exact iteF stay
        | true =>
          refine iteT ⟨_, rfl, tu, _, 1, _, rfl, rfl, (htu.mp Off.same').sq, rfl, _, _, _, _, _, rfl, .ty _, th_ty (.dx (Dx.same Off.same _ _ hvb)), kit_ty (kt_lst d2), _, rfl, ?_⟩
          cases e2 : isLst d2 with
          | false => exact iteF stay
          | true =>
            obtain ⟨dp, rfl⟩ : ∃ dp, d1 = .list dp := by
              cases d1 <;> first | exact ⟨_, rfl⟩ | cases e1
            obtain ⟨dt, rfl⟩ : ∃ dt, d2 = .list dt := by
              cases d2 <;> first | exact ⟨_, rfl⟩ | cases e2
            refine iteT ⟨_, rfl, _, rfl, _, rfl, p, v, .ref tu, r, fs, ts, dp, dt, _, _, _, _, rfl, dr9.2, Dx.same (offBut dr9.1) _ _ hv, SP, hu, r1, r2, by omega, by omega, by omega, by omega, by omega, by omega, by omega, by omega, fun x g1 g2 H10 dx q1 q2 dr10 => ?_⟩
            exact ⟨_, g1, g2, _, rfl, dr9.trans dr10, dx, rows_mono q1 (by omega) (by omega), rows_mono q2 (by omega) (by omega)⟩
      · rintro σ H9 ⟨u, d1, d2, x6, rfl, dr9, hu, r1, r2⟩
        exact ⟨u, d1, d2, x6, rfl, dr7.trans dr9, hu, rows_mono r1 (by omega) (by omega), rows_mono r2 (by omega) (by omega)⟩
    rintro σ H8 ⟨u, d1, d2, x6, rfl, dr8, hu, r1, r2⟩
    obtain ⟨tu, uu, rfl, htu, huu⟩ := dx_tupY hu
    obtain ⟨va, vb, rfl, hva, hvb⟩ : ∃ va vb, uu = [va, vb] ∧ Dx (Off p H8) va d1 ∧ Dx (Off p H8) vb d2 := by
      cases huu with
      | cons h1 h2 =>
        cases h2 with
        | cons h2 h3 =>
          cases h3
          exact ⟨_, _, rfl, h1, h2⟩
    have hu8 := Dx.same Off.same _ _ hu
    have va8 := Dx.same Off.same _ _ hva
    have vb8 := Dx.same Off.same _ _ hvb
    have sg : Sg (.tuple [d1, d2]) 18000 8 := sg_tup.mpr ((sgl_cons r1.sg (sgl_one r2.sg)).mono (by decide) (Nat.le_refl _))
    have rep := sg.rep (by decide) (by decide)
    have fw1 := few_of r1 (by decide) (by decide)
    have fw2 := few_of r2 (by decide) (by decide)
    refine ⟨_, rfl, tu, _, rfl, (htu.mp Off.same').sq, rfl, _, _, rfl, _, _, rfl, rfl, ?_⟩
    simp only [List.set]
    refine ⟨_, rfl, tu, _, rfl, hu8, rep.1, rep.2.1, rep.2.2, ?_⟩
    refine ⟨_, rfl, _, rfl, _, rfl, va, vb, d1, d2, r, rfl, va8, vb8, fw1, fw2, fun x H9 s9 due => ⟨_, _, rfl, ?_⟩⟩
    simp only [List.set]
    refine ⟨fun σ H10 => ∃ y, Same H9 H10 ∧ DueL r d1 d2 H10 y ∧ ∃ x11, σ = [some (V.ref a), some (.int (0 + (i : Int))), some (.ref p), some (.bl r), some v, some (.ref tu), x6, some va, some vb, some (.str (PyData.tuple [d1, d2]).shown), some y, x11], ?_, ?_⟩
    · refine ⟨_, rfl, rfl, _, rfl, ?_⟩
      cases due with
      | bad b1 b2 => exact iteF ⟨_, fun _ _ e => e, .bad b1 b2, _, rfl⟩
      | @good fs' ts' g1 g2 g3 =>
        subst g1
        obtain ⟨la, xa, rfl, hla, hxa⟩ := dx_list (Dx.same s9 _ _ va8)
        have lxa := dxall_len hxa
        rw [List.length_map] at lxa
        have f8 := g3.f8
        have t12 := g3.t12
        refine iteT ⟨_, rfl, la, rfl, ⟨_, SqL.of hla⟩, fun D nD => ?_⟩
        refine lc_map walk_list (ys := (fs'.map (·.1)).map V.str) nD (fun H s => SqL.of (s _ _ hla)) (by rw [List.length_map, List.length_map, lxa]) (by omega) ?_ fun H10 s10 hD => ?_
        · intro i x y H2 k hxi hyi s2 hk
          have hi : i < fs'.length := by
            have := (List.getElem?_eq_some_iff.mp hxi).1
            omega
          obtain ⟨x', e1, e2⟩ := dxall_get (i := i) hxa (by rw [List.getElem?_map, List.getElem?_eq_getElem hi]; rfl)
          have exy : x = x' := Option.some.inj (hxi.symm.trans e1)
          subst exy
          obtain ⟨t, rfl, ht⟩ := dx_per (Dx.same s2 _ _ e2)
          have ey : y = .str fs'[i].1 := by
            rw [List.map_map, List.getElem?_map, List.getElem?_eq_getElem hi] at hyi
            exact (Option.some.inj hyi).symm
          refine ⟨rfl, _, rfl, t, _, 0, _, rfl, rfl, SqT.of ht, rfl, ?_⟩
          rw [← ey]
          exact hk H2 fun _ _ e => e
        have s810 := s9.trans s10
        have ties : ∃ tb zs, vb = .ref tb ∧ DxAll H10 zs (ts'.map dTie) ∧ ((H10 tb = some (.lst zs)) ∨ SqT K H10 tb zs) := by
          rcases g2 with rfl | ⟨rfl, rfl⟩
          · obtain ⟨lb, xb, rfl, hlb, hxb⟩ := dx_list (Dx.same s810 _ _ vb8)
            exact ⟨lb, xb, rfl, hxb, .inl hlb⟩
          · obtain ⟨t, us, rfl, ht, hus⟩ := dx_tupY (Dx.same s810 _ _ vb8)
            cases hus
            exact ⟨t, [], rfl, .nil, .inr ht.sq⟩
        obtain ⟨tb, zs, rfl, hzs, htb⟩ := ties
        have lz := dxall_len hzs
        rw [List.length_map] at lz
        have rp := names_rep g3
        refine ⟨_, rfl, tb, rfl, ?_⟩
        rcases htb with htb | htb
        · refine .inl ⟨⟨_, SqL.of htb⟩, fun D2 nD2 => nms_lc walk_list nD2 (fun H s => SqL.of (s _ _ htb)) hzs (by omega) fun H11 s11 hD2 => ?_⟩
          refine ⟨_, rfl, by show 3 ≤ sizeLine; decide, fun l3 n3 => ?_⟩
          obtain ⟨s12, m12⟩ := fresh2 (o := .lst [.ref D, .ref D2, .bl r]) n3
          refine ⟨l3, namesD r fs' ts', rfl, .lst m12 (.cons (.lst (s12 _ _ (s11 _ _ hD)) (dx_strs2 _ fs')) (.cons (.lst (s12 _ _ hD2) (dx_strs2 _ ts')) (.cons (.bl r) .nil))), rp.1, rp.2.1, rp.2.2, _, s10.trans (s11.trans s12), .good rfl g2 g3, _, rfl⟩
        · refine .inr ⟨⟨_, htb⟩, fun D2 nD2 => nms_lc walk_tup nD2 (fun H s => SqT.same htb s) hzs (by omega) fun H11 s11 hD2 => ?_⟩
          refine ⟨_, rfl, by show 3 ≤ sizeLine; decide, fun l3 n3 => ?_⟩
          obtain ⟨s12, m12⟩ := fresh2 (o := .lst [.ref D, .ref D2, .bl r]) n3
          refine ⟨l3, namesD r fs' ts', rfl, .lst m12 (.cons (.lst (s12 _ _ (s11 _ _ hD)) (dx_strs2 _ fs')) (.cons (.lst (s12 _ _ hD2) (dx_strs2 _ ts')) (.cons (.bl r) .nil))), rp.1, rp.2.1, rp.2.2, _, s10.trans (s11.trans s12), .good rfl g2 g3, _, rfl⟩
    rintro σ H10 ⟨y, s10, due, x11, rfl⟩
    have s810 := s9.trans s10
    have fin10 : ∀ H11, Same H10 H11 → Same H H11 := fun H11 s11 => fin _ ⟨dr8.1.trans (Same.but (s810.trans s11)), dr8.2.same (s810.trans s11)⟩
    refine ⟨_, rfl, _, rfl, _, rfl, va, vb, d1, d2, r, rfl, Dx.same s810 _ _ va8, Dx.same s810 _ _ vb8, fw1, fw2, ?_⟩
    cases due with
    | @good fs' ts' g1 g2 g3 =>
      refine .inl ⟨fs', ts', g1, g2, g3, fun H11 s11 => ?_⟩
      refine ⟨_, rfl, .inl ⟨rfl, false, by simp, ?_⟩⟩
      refine iteF ?_
      refine ⟨_, rfl, tu, _, rfl, Dx.same (s810.trans s11) _ _ hu8, rep.1, rep.2.1, rep.2.2, _, rfl, rfl, false, by simp, ?_⟩
      exact iteF ⟨fin10 _ s11, _, _, _, _, _, _, _, _, _, _, _, rfl⟩
    | @bad p' wt wo b1 b2 =>
      refine .inr ⟨wt, wo, b1, fun t H11 s11 ht => ?_⟩
      have tw : ∀ {b : Addr}, H11 b = some (.tup [.str wt, .str wo]) → Dp K H11 (.ref b) (.tuple [.str wt, .str wo]) := fun {b} e => .tup (SqT.of e) (.cons (.str _) (.cons (.str _) .nil))
      refine ⟨_, rfl, .inr ⟨.tuple [.str wt, .str wo], .tuple [.str wt, .str wo], tw ht, tw (s11 _ _ b2), pair_shaped (bad_ok b1), pair_shaped (bad_ok b1), _, rfl, ?_⟩⟩
      rw [pair_eqv]
      refine iteF ?_
      refine ⟨_, rfl, tu, _, rfl, Dx.same (s810.trans s11) _ _ hu8, rep.1, rep.2.1, rep.2.2, _, rfl, rfl, false, by simp, ?_⟩
      exact iteF ⟨fin10 _ s11, _, _, _, _, _, _, _, _, _, _, _, rfl⟩
end
end Cw
namespace Cw
open PySem PySem.Spec PyProof.Rows L2
def rz2B (K : PySem.W.Frag) (C : Addr) (f g : Str) : Bool := rzB K C "ValueError" f && decide (PySem.W.takerIn K C g = some none)
/-- an own class over ValueError, with two fields -/
theorem rz2_val {P : Program} {w : World} {K : PySem.W.Frag} {mg : Str → Option Value} {base : Heap} {x f g q : Str} {C fI : Addr} {fd : FuncData} {ar : Arguments} {sc : Scope} {q1 q2 q3 q4 q5 q6 q7 q8 : Pos} (gl : mg x = some (.ref C)) (h : rz2B K C f g = true) (M : Meth K C "__init__" fI)
    (FI : FunD K "__init__" q ar [.Assign [.Attribute (.Name "self" q1) f q2] (.Name f q3) q4, .Assign [.Attribute (.Name "self" q5) g q6] (.Name g q7) q8] sc [] [] fI fd) (S : FnScope ["self", f, g] ["self", f, g] sc) (b : Binds K fd ["self", f, g] [])
    (f1 : (f == ("__debug__" : Str)) = false) (f2 : (f == ("__classdict__" : Str)) = false) (g1 : (g == ("__debug__" : Str)) = false) (g2 : (g == ("__classdict__" : Str)) = false) : Rz2 P w K mg base x f g C := by
  unfold rz2B at h
  obtain ⟨h, h5⟩ := He.ba h
  unfold rzB at h
  obtain ⟨h1, h⟩ := He.ba h
  obtain ⟨h2, h⟩ := He.ba h
  obtain ⟨h3, h4⟩ := He.ba h
  have T := exB_ok PySem.F.excBase_ValueError PySem.F.store_ValueError h1
  exact ⟨gl, ⟨fI, fd, _, _, _, _, T, M.at_, beq_iff_eq.mp M.fn, ok_init2 FI S T (of_decide_eq_true h4) (of_decide_eq_true h5) f1 f2 g1 g2, b⟩, of_decide_eq_true h2, of_decide_eq_true h3⟩
/-- what the law asks of NoWeb -/
def nwbB (K : PySem.W.Frag) (NW0 cWE NS cNT : Addr) : Bool := excB K NW0 && (xfB K NW0 && (decide (PySem.W.findIn K (.ref NW0) "what" = some none) && (decide (PySem.W.findIn K (.ref NW0) "who" = some none) && (decide (PySem.W.kitOne K (.ref NW0) (.ref cWE) = some true) && (decide (PySem.W.kitOne K (.ref NW0) (.type "ValueError") = some true) && decide (PySem.W.kitAny K (.ref NW0) [.ref NS, .ref cNT] = some false))))))
structure Nwb (K : PySem.W.Frag) (NW0 cWE NS cNT : Addr) : Prop where
  ec : ExcC K NW0
  xf : XfC K NW0
  x1 : PySem.W.findIn K (.ref NW0) "what" = some none
  x2 : PySem.W.findIn K (.ref NW0) "who" = some none
  k1 : PySem.W.kitOne K (.ref NW0) (.ref cWE) = some true
  k2 : PySem.W.kitOne K (.ref NW0) (.type "ValueError") = some true
  k3 : PySem.W.kitAny K (.ref NW0) [.ref NS, .ref cNT] = some false
theorem nwb_of {K : PySem.W.Frag} {NW0 cWE NS cNT : Addr} (h : nwbB K NW0 cWE NS cNT = true) : Nwb K NW0 cWE NS cNT := by
  unfold nwbB at h
  obtain ⟨h1, h⟩ := He.ba h
  obtain ⟨h2, h⟩ := He.ba h
  obtain ⟨h3, h⟩ := He.ba h
  obtain ⟨h4, h⟩ := He.ba h
  obtain ⟨h5, h⟩ := He.ba h
  obtain ⟨h6, h7⟩ := He.ba h
  exact ⟨excB_ok h1, xfB_ok h2, of_decide_eq_true h3, of_decide_eq_true h4, of_decide_eq_true h5, of_decide_eq_true h6, of_decide_eq_true h7⟩
end Cw
namespace Cw
open PySem PySem.Spec PyProof.Rows L2
/-- the default of ties, where it lies -/
def dfE (K : PySem.W.Frag) : Addr := match K.lookup (He.ma K (He.ga K "Web") "__init__") with
  | some ⟨_, _, .func fd, _⟩ => (match fd.defaults with
    | .ref T => (match K.lookup T with
      | some o => (match o.data with
        | .seq its _ => (match its.toList with
          | .ref e :: _ => e
          | _ => 0)
        | _ => 0)
      | none => 0)
    | _ => 0)
  | _ => 0
def empB (K : PySem.W.Frag) (a : Addr) : Bool := match K.lookup a with
  | some o => decide (o.cls = .type "tuple") && (match o.data with
    | .seq its _ => decide (its.toList = [])
    | _ => false)
  | none => false
theorem empB_ok {K : PySem.W.Frag} {a : Addr} (h : empB K a = true) (H : Hp) : SqT K H a [] := by
  unfold empB at h
  cases e : K.lookup a with
  | none => rw [e] at h; cases h
  | some o =>
    rw [e] at h
    obtain ⟨oc, od, dt, sl⟩ := o
    obtain ⟨h1, h2⟩ := He.ba h
    cases dt with
    | seq its n =>
      have z : its.toList = [] := of_decide_eq_true h2
      have z2 : its.size = 0 := by rw [← Array.length_toList, z]; rfl
      exact .inr ⟨_, its, n, e, of_decide_eq_true h1, rfl, by rw [z2]; exact Nat.zero_le _, by rw [z]; exact .nil⟩
    | _ => cases h2
def exK (K : PySem.W.Frag) : Bool := (match K.lookup sysModules with | some o => decide (o.cls = .type "dict") | none => false) && empB K (dfE K) && (rz2B K (He.ga K "NoWeb") "what" "who" && nwbB K (He.ga K "NoWeb") (He.ga K "WebError") (He.ga K "NoSuch") (He.ga K "NoText"))
/-! ### a hook with one Bool more, and the table of modules among its objects -/
def frC (n : Nat) (g : Addr → Option Obj) : PySem.W.Frag := He.frG g (sysModules :: He.asD g n)
abbrev AlC : Type := He.AlD × Bool
def obC (n : Nat) (fa : List He.Fa) (fn : List He.DefD) (ex : PySem.W.Frag → Bool) (g : Addr → Option Obj) : AlC := (He.obsD fa fn (frC n g), ex (frC n g))
def hookC (n : Nat) (fa : List He.Fa) (fn : List He.DefD) (ex : PySem.W.Frag → Bool) : PySem.W.Hook where
  α := AlC
  obs := fun s => obC n fa fn ex s.heap.get?
  val := fun _ => (He.valD fn, true)
  says := fun _ h => ∃ K : PySem.W.Frag, K.In h ∧ He.SaysD fa fn K ∧ ex K = true
  of := fun _ s e => ⟨frC n s.heap.get?, He.frG_in, congrArg Prod.fst e, congrArg Prod.snd e⟩
  keeps := fun _ _ _ z k => by
    obtain ⟨K, kin, a, b⟩ := z
    exact ⟨K, PySem.W.Frag.In.keeps kin k, a, b⟩
theorem obC_eq {n : Nat} {fa : List He.Fa} {fn : List He.DefD} {ex : PySem.W.Frag → Bool} {g : Addr → Option Obj} {s : Shared} (h : ∀ a, g a = s.heap.get? a) : obC n fa fn ex g = (hookC n fa fn ex).obs s := by
  have e : g = s.heap.get? := funext h
  rw [e]
  rfl
def d_pot : He.DefD := ⟨("_law_pot", none), "_law_pot", "_law_pot", defArgs S_pot, defBody S_pot, defScope S_pot, [], []⟩
def d_take : He.DefD := ⟨("_law_take", none), "_law_take", "_law_take", defArgs S_take, defBody S_take, defScope S_take, [], []⟩
def d_name : He.DefD := ⟨("_law_name", none), "_law_name", "_law_name", defArgs S_name, defBody S_name, defScope S_name, [], []⟩
def d_length : He.DefD := ⟨("_law_length", none), "_law_length", "_law_length", defArgs S_length, defBody S_length, defScope S_length, [], []⟩
def d_hearers : He.DefD := ⟨("_law_hearers", none), "_law_hearers", "_law_hearers", defArgs S_hearers, defBody S_hearers, defScope S_hearers, [], []⟩
def d_persons : He.DefD := ⟨("_law_persons", none), "_law_persons", "_law_persons", defArgs S_persons, defBody S_persons, defScope S_persons, [], []⟩
def d_tie : He.DefD := ⟨("_law_tie", none), "_law_tie", "_law_tie", defArgs S_tie, defBody S_tie, defScope S_tie, [], []⟩
def d_web : He.DefD := ⟨("_law_web", none), "_law_web", "_law_web", defArgs S_web, defBody S_web, defScope S_web, [], []⟩
def d_rounds : He.DefD := ⟨("_law_rounds", none), "_law_rounds", "_law_rounds", defArgs S_rounds, defBody S_rounds, defScope S_rounds, [], []⟩
def d_l_is_whole : He.DefD := ⟨("_law_is_whole", none), "_law_is_whole", "_law_is_whole", defArgs S_l_is_whole, defBody S_l_is_whole, defScope S_l_is_whole, [], []⟩
def d_l_is_name : He.DefD := ⟨("_law_is_name", none), "_law_is_name", "_law_is_name", defArgs S_l_is_name, defBody S_l_is_name, defScope S_l_is_name, [], []⟩
def d_person_due : He.DefD := ⟨("_law_person_due", none), "_law_person_due", "_law_person_due", defArgs S_person_due, defBody S_person_due, defScope S_person_due, [], []⟩
def d_l_are_hearers : He.DefD := ⟨("_law_are_hearers", none), "_law_are_hearers", "_law_are_hearers", defArgs S_l_are_hearers, defBody S_l_are_hearers, defScope S_l_are_hearers, [], []⟩
def d_tie_due : He.DefD := ⟨("_law_tie_due", none), "_law_tie_due", "_law_tie_due", defArgs S_tie_due, defBody S_tie_due, defScope S_tie_due, [], []⟩
def d_due : He.DefD := ⟨("_law_due", none), "_law_due", "_law_due", defArgs S_due, defBody S_due, defScope S_due, [], []⟩
def d_among : He.DefD := ⟨("_law_among", none), "_law_among", "_law_among", defArgs S_among, defBody S_among, defScope S_among, [], []⟩
def d_odd : He.DefD := ⟨("_law_odd", none), "_law_odd", "_law_odd", defArgs S_odd, defBody S_odd, defScope S_odd, [], []⟩
def d_part_put : He.DefD := ⟨("_law_part_put", none), "_law_part_put", "_law_part_put", defArgs S_part_put, defBody S_part_put, defScope S_part_put, [], []⟩
def d_name_put : He.DefD := ⟨("_law_name_put", none), "_law_name_put", "_law_name_put", defArgs S_name_put, defBody S_name_put, defScope S_name_put, [], []⟩
def d_ends_put : He.DefD := ⟨("_law_ends_put", none), "_law_ends_put", "_law_ends_put", defArgs S_ends_put, defBody S_ends_put, defScope S_ends_put, [], []⟩
def d_hearers_put : He.DefD := ⟨("_law_hearers_put", none), "_law_hearers_put", "_law_hearers_put", defArgs S_hearers_put, defBody S_hearers_put, defScope S_hearers_put, [], []⟩
def d_many_put : He.DefD := ⟨("_law_many_put", none), "_law_many_put", "_law_many_put", defArgs S_many_put, defBody S_many_put, defScope S_many_put, [], []⟩
def d_spoilt : He.DefD := ⟨("_law_spoilt", none), "_law_spoilt", "_law_spoilt", defArgs S_spoilt, defBody S_spoilt, defScope S_spoilt, [], []⟩
def d_told : He.DefD := ⟨("_law_told", none), "_law_told", "_law_told", defArgs S_told, defBody S_told, defScope S_told, [], []⟩
def d_law : He.DefD := ⟨("law", none), "law", "law", defArgs S_law, defBody S_law, defScope S_law, [], []⟩
def d_p_is_whole : He.DefD := ⟨("is_whole", none), "is_whole", "is_whole", defArgs S_is_whole, defBody S_is_whole, defScope S_is_whole, [], []⟩
def d_p_is_name : He.DefD := ⟨("is_name", none), "is_name", "is_name", defArgs S_is_name, defBody S_is_name, defScope S_is_name, [], []⟩
def d_p_is_state : He.DefD := ⟨("is_state", none), "is_state", "is_state", defArgs S_is_state, defBody S_is_state, defScope S_is_state, [], []⟩
def d_p_is_length : He.DefD := ⟨("is_length", none), "is_length", "is_length", defArgs S_is_length, defBody S_is_length, defScope S_is_length, [], []⟩
def d_p_is_tuple_of : He.DefD := ⟨("is_tuple_of", none), "is_tuple_of", "is_tuple_of", defArgs S_is_tuple_of, defBody S_is_tuple_of, defScope S_is_tuple_of, [], []⟩
def d_p_are_ends : He.DefD := ⟨("are_ends", none), "are_ends", "are_ends", defArgs S_are_ends, defBody S_are_ends, defScope S_are_ends, [], []⟩
def d_p_are_hearers : He.DefD := ⟨("are_hearers", none), "are_hearers", "are_hearers", defArgs S_are_hearers, defBody S_are_hearers, defScope S_are_hearers, [], []⟩
def d_p_checked_persons : He.DefD := ⟨("checked_persons", none), "checked_persons", "checked_persons", defArgs S_checked_persons, defBody S_checked_persons, defScope S_checked_persons, [], []⟩
def d_p_checked_ties : He.DefD := ⟨("checked_ties", none), "checked_ties", "checked_ties", defArgs S_checked_ties, defBody S_checked_ties, defScope S_checked_ties, [], []⟩
def d_m_init : He.DefD := ⟨("Web", some "__init__"), "__init__", "Web.__init__", defArgs S_Web_init, defBody S_Web_init, defScope S_Web_init, [.adr dfE], [("rounds", .bl false)]⟩
def d_m_rounds : He.DefD := ⟨("Web", some "rounds"), "rounds", "Web.rounds", defArgs S_Web_rounds, defBody S_Web_rounds, defScope S_Web_rounds, [], []⟩
def d_m_persons : He.DefD := ⟨("Web", some "persons"), "persons", "Web.persons", defArgs S_Web_persons, defBody S_Web_persons, defScope S_Web_persons, [], []⟩
def d_m_ties : He.DefD := ⟨("Web", some "ties"), "ties", "Web.ties", defArgs S_Web_ties, defBody S_Web_ties, defScope S_Web_ties, [], []⟩
def d_x_NoWeb : He.DefD := ⟨("NoWeb", some "__init__"), "__init__", "NoWeb.__init__", defArgs S_NoWeb_init, defBody S_NoWeb_init, defScope S_NoWeb_init, [], []⟩
def fn : List He.DefD := [d_pot, d_take, d_name, d_length, d_hearers, d_persons, d_tie, d_web, d_rounds, d_l_is_whole, d_l_is_name, d_person_due, d_l_are_hearers, d_tie_due, d_due, d_among, d_odd, d_part_put, d_name_put, d_ends_put, d_hearers_put, d_many_put, d_spoilt, d_told, d_law, d_p_is_whole, d_p_is_name, d_p_is_state, d_p_is_length, d_p_is_tuple_of, d_p_are_ends, d_p_are_hearers, d_p_checked_persons, d_p_checked_ties, d_m_init, d_m_rounds, d_m_persons, d_m_ties, d_x_NoWeb]
def fa : List He.Fa := [.glo "_law_pot", .glo "_law_take", .glo "_law_name", .glo "_law_length", .glo "_law_hearers", .glo "_law_persons", .glo "_law_tie", .glo "_law_web", .glo "_law_rounds", .glo "_law_is_whole", .glo "_law_is_name", .glo "_law_person_due", .glo "_law_are_hearers", .glo "_law_tie_due", .glo "_law_due", .glo "_law_among", .glo "_law_odd", .glo "_law_part_put", .glo "_law_name_put", .glo "_law_ends_put", .glo "_law_hearers_put", .glo "_law_many_put", .glo "_law_spoilt", .glo "_law_told", .glo "law", .glo "is_whole", .glo "is_name", .glo "is_state", .glo "is_length", .glo "is_tuple_of", .glo "are_ends", .glo "are_hearers", .glo "checked_persons", .glo "checked_ties", .meth "Web" "__init__", .meth "Web" "rounds", .meth "Web" "persons", .meth "Web" "ties", .glo "NoWeb", .meth "NoWeb" "__init__", .glo "Web", .cls "Web", .mkr "Web", .noat "Web" "in_rounds", .noat "Web" "states", .noat "Web" "laid", .noat "Web" "person_rows", .noat "Web" "tie_rows", .int "LONGEST" (10 ^ 30), .int "MOST_HEARERS" 12, .int "MOST_PERSONS" 8, .int "MOST_TIES" 12, .int "LONGEST_NAME" 8, .free "isinstance", .free "int", .free "bool", .free "str", .free "list", .free "tuple", .free "dict", .free "len", .free "all", .free "sum", .free "enumerate", .free "range", .free "repr", .free "abs", .free "max", .free "min", .free "divmod", .free "sorted", .free "ValueError", .free "zip", .glo "WebError", .glo "NoSuch", .glo "NoText"]
abbrev R : PySem.W.OpenRow := PySem.W.OpenLaw.row PySem.Challenge.rw_crywalks_k12_whole_refused_in_order
abbrev hk : PySem.W.Hook := hookC 5 fa fn exK
def ob (s : PySem.W.SharedT) : AlC := obC 5 fa fn exK (HandSHeadRun.getT s)
theorem ob_eq (s : PySem.W.SharedT) : ob s = hk.obs s.abs := obC_eq (HandSHeadRun.getT_eq s)
def loose : List Str := (["_wall", "WebError", "NoWeb", "NoText", "NoSuch", "MOST_HEARERS", "MOST_PERSONS", "MOST_TIES", "LONGEST", "LONGEST_NAME", "is_whole", "is_name", "is_state", "is_length", "is_tuple_of", "are_ends", "are_hearers", "checked_persons", "checked_ties", "Web"] : List Str) ++ (["_law_pot", "_law_take", "_law_among", "_law_name", "_law_length", "_law_hearers", "_law_persons", "_law_tie", "_law_web", "_law_rounds", "_law_is_whole", "_law_is_name", "_law_person_due", "_law_are_hearers", "_law_tie_due", "_law_due", "_law_odd", "_law_part_put", "_law_name_put", "_law_ends_put"] : List Str) ++ (["_law_hearers_put", "_law_many_put", "_law_spoilt", "_law_told"] : List Str)
theorem run (w : World) : HandSHeadRun.RunEq R (PySem.W.view R.prog [47]) hk ob 20000 loose w := by
  intro os
  kernel_rfl
/-- the constants -/
structure Cons (mg : Str → Option Value) : Prop where
  lo : ∃ t, mg "LONGEST" = some (.int (10 ^ 30) t)
  mh : ∃ t, mg "MOST_HEARERS" = some (.int 12 t)
  mp : ∃ t, mg "MOST_PERSONS" = some (.int 8 t)
  mt : ∃ t, mg "MOST_TIES" = some (.int 12 t)
  ln : ∃ t, mg "LONGEST_NAME" = some (.int 8 t)
end Cw
namespace Cw
open PySem PySem.Spec PyProof.Rows L2
theorem facts {P : Program} {w : World} {K : PySem.W.Frag} {h : Heap} {mg : Str → Option Value} {f : Addr} (X : K.In h) (G : h.Ns mainGlobals mg) (hfa : mg ("law" : Str) = some (.ref f)) (c : He.SaysD fa fn K) (ex : exK K = true) :
    ∃ fd : FuncData, (∀ (s : Shared) (v : Value), BindsTo s fd ⟨[v], []⟩ [("_law_script", v)]) ∧ ∀ base : Heap, K.In base → base.Ns mainGlobals mg → FnG P w K mg base CX0 14 f fd ["_law_script"] (spLaw K) := by
  obtain ⟨hmod, hemp⟩ := He.ba (He.ba ex).1
  have HM : HasMods K := by
    cases e : K.lookup sysModules with
    | none =>
      rw [e] at hmod
      cases hmod
    | some o =>
      rw [e] at hmod
      exact ⟨o, e, of_decide_eq_true hmod⟩
  have hwi := (He.ba ex).2
  obtain ⟨fd_pot, F_pot⟩ := c.def_ 0 (d := d_pot) rfl
  obtain ⟨fd_take, F_take⟩ := c.def_ 1 (d := d_take) rfl
  obtain ⟨fd_name, F_name⟩ := c.def_ 2 (d := d_name) rfl
  obtain ⟨fd_length, F_length⟩ := c.def_ 3 (d := d_length) rfl
  obtain ⟨fd_hearers, F_hearers⟩ := c.def_ 4 (d := d_hearers) rfl
  obtain ⟨fd_persons, F_persons⟩ := c.def_ 5 (d := d_persons) rfl
  obtain ⟨fd_tie, F_tie⟩ := c.def_ 6 (d := d_tie) rfl
  obtain ⟨fd_web, F_web⟩ := c.def_ 7 (d := d_web) rfl
  obtain ⟨fd_rounds, F_rounds⟩ := c.def_ 8 (d := d_rounds) rfl
  obtain ⟨fd_l_is_whole, F_l_is_whole⟩ := c.def_ 9 (d := d_l_is_whole) rfl
  obtain ⟨fd_l_is_name, F_l_is_name⟩ := c.def_ 10 (d := d_l_is_name) rfl
  obtain ⟨fd_person_due, F_person_due⟩ := c.def_ 11 (d := d_person_due) rfl
  obtain ⟨fd_l_are_hearers, F_l_are_hearers⟩ := c.def_ 12 (d := d_l_are_hearers) rfl
  obtain ⟨fd_tie_due, F_tie_due⟩ := c.def_ 13 (d := d_tie_due) rfl
  obtain ⟨fd_due, F_due⟩ := c.def_ 14 (d := d_due) rfl
  obtain ⟨fd_among, F_among⟩ := c.def_ 15 (d := d_among) rfl
  obtain ⟨fd_odd, F_odd⟩ := c.def_ 16 (d := d_odd) rfl
  obtain ⟨fd_part_put, F_part_put⟩ := c.def_ 17 (d := d_part_put) rfl
  obtain ⟨fd_name_put, F_name_put⟩ := c.def_ 18 (d := d_name_put) rfl
  obtain ⟨fd_ends_put, F_ends_put⟩ := c.def_ 19 (d := d_ends_put) rfl
  obtain ⟨fd_hearers_put, F_hearers_put⟩ := c.def_ 20 (d := d_hearers_put) rfl
  obtain ⟨fd_many_put, F_many_put⟩ := c.def_ 21 (d := d_many_put) rfl
  obtain ⟨fd_spoilt, F_spoilt⟩ := c.def_ 22 (d := d_spoilt) rfl
  obtain ⟨fd_told, F_told⟩ := c.def_ 23 (d := d_told) rfl
  obtain ⟨fd_law, F_law⟩ := c.def_ 24 (d := d_law) rfl
  obtain ⟨fd_p_is_whole, F_p_is_whole⟩ := c.def_ 25 (d := d_p_is_whole) rfl
  obtain ⟨fd_p_is_name, F_p_is_name⟩ := c.def_ 26 (d := d_p_is_name) rfl
  obtain ⟨fd_p_is_state, F_p_is_state⟩ := c.def_ 27 (d := d_p_is_state) rfl
  obtain ⟨fd_p_is_length, F_p_is_length⟩ := c.def_ 28 (d := d_p_is_length) rfl
  obtain ⟨fd_p_is_tuple_of, F_p_is_tuple_of⟩ := c.def_ 29 (d := d_p_is_tuple_of) rfl
  obtain ⟨fd_p_are_ends, F_p_are_ends⟩ := c.def_ 30 (d := d_p_are_ends) rfl
  obtain ⟨fd_p_are_hearers, F_p_are_hearers⟩ := c.def_ 31 (d := d_p_are_hearers) rfl
  obtain ⟨fd_p_checked_persons, F_p_checked_persons⟩ := c.def_ 32 (d := d_p_checked_persons) rfl
  obtain ⟨fd_p_checked_ties, F_p_checked_ties⟩ := c.def_ 33 (d := d_p_checked_ties) rfl
  obtain ⟨fd_m_init, F_m_init⟩ := c.def_ 34 (d := d_m_init) rfl
  obtain ⟨fd_m_rounds, F_m_rounds⟩ := c.def_ 35 (d := d_m_rounds) rfl
  obtain ⟨fd_m_persons, F_m_persons⟩ := c.def_ 36 (d := d_m_persons) rfl
  obtain ⟨fd_m_ties, F_m_ties⟩ := c.def_ 37 (d := d_m_ties) rfl
  obtain ⟨fd_x_NoWeb, F_x_NoWeb⟩ := c.def_ 38 (d := d_x_NoWeb) rfl
  have b_pot := FunD.bindsN (ps := P_pot) F_pot fun _ _ _ _ _ _ us hl => match us, hl with | [_, _], _ => rfl
  have b_take := FunD.bindsN (ps := P_take) F_take fun _ _ _ _ _ _ us hl => match us, hl with | [_, _], _ => rfl
  have b_name := FunD.bindsN (ps := P_name) F_name fun _ _ _ _ _ _ us hl => match us, hl with | [_, _], _ => rfl
  have b_length := FunD.bindsN (ps := P_length) F_length fun _ _ _ _ _ _ us hl => match us, hl with | [_, _], _ => rfl
  have b_hearers := FunD.bindsN (ps := P_hearers) F_hearers fun _ _ _ _ _ _ us hl => match us, hl with | [_, _, _], _ => rfl
  have b_persons := FunD.bindsN (ps := P_persons) F_persons fun _ _ _ _ _ _ us hl => match us, hl with | [_, _], _ => rfl
  have b_tie := FunD.bindsN (ps := P_tie) F_tie fun _ _ _ _ _ _ us hl => match us, hl with | [_, _, _, _, _], _ => rfl
  have b_web := FunD.bindsN (ps := P_web) F_web fun _ _ _ _ _ _ us hl => match us, hl with | [_, _, _, _, _], _ => rfl
  have b_rounds := FunD.bindsN (ps := P_rounds) F_rounds fun _ _ _ _ _ _ us hl => match us, hl with | [_, _, _], _ => rfl
  have b_l_is_whole := FunD.bindsN (ps := P_l_is_whole) F_l_is_whole fun _ _ _ _ _ _ us hl => match us, hl with | [_, _, _], _ => rfl
  have b_l_is_name := FunD.bindsN (ps := P_l_is_name) F_l_is_name fun _ _ _ _ _ _ us hl => match us, hl with | [_], _ => rfl
  have b_person_due := FunD.bindsN (ps := P_person_due) F_person_due fun _ _ _ _ _ _ us hl => match us, hl with | [_, _, _], _ => rfl
  have b_l_are_hearers := FunD.bindsN (ps := P_l_are_hearers) F_l_are_hearers fun _ _ _ _ _ _ us hl => match us, hl with | [_, _, _], _ => rfl
  have b_tie_due := FunD.bindsN (ps := P_tie_due) F_tie_due fun _ _ _ _ _ _ us hl => match us, hl with | [_, _, _, _, _], _ => rfl
  have b_due := FunD.bindsN (ps := P_due) F_due fun _ _ _ _ _ _ us hl => match us, hl with | [_, _, _], _ => rfl
  have b_among := FunD.bindsN (ps := P_among) F_among fun _ _ _ _ _ _ us hl => match us, hl with | [_, _], _ => rfl
  have b_odd := FunD.bindsN (ps := P_odd) F_odd fun _ _ _ _ _ _ us hl => match us, hl with | [_], _ => rfl
  have b_part_put := FunD.bindsN (ps := P_part_put) F_part_put fun _ _ _ _ _ _ us hl => match us, hl with | [_, _], _ => rfl
  have b_name_put := FunD.bindsN (ps := P_name_put) F_name_put fun _ _ _ _ _ _ us hl => match us, hl with | [_, _, _], _ => rfl
  have b_ends_put := FunD.bindsN (ps := P_ends_put) F_ends_put fun _ _ _ _ _ _ us hl => match us, hl with | [_, _, _], _ => rfl
  have b_hearers_put := FunD.bindsN (ps := P_hearers_put) F_hearers_put fun _ _ _ _ _ _ us hl => match us, hl with | [_, _], _ => rfl
  have b_many_put := FunD.bindsN (ps := P_many_put) F_many_put fun _ _ _ _ _ _ us hl => match us, hl with | [_, _, _, _], _ => rfl
  have b_spoilt := FunD.bindsN (ps := P_spoilt) F_spoilt fun _ _ _ _ _ _ us hl => match us, hl with | [_, _, _], _ => rfl
  have b_told := FunD.bindsN (ps := P_told) F_told fun _ _ _ _ _ _ us hl => match us, hl with | [_, _, _], _ => rfl
  have b_p_is_whole := FunD.bindsN (ps := P_is_whole) F_p_is_whole fun _ _ _ _ _ _ us hl => match us, hl with | [_], _ => rfl
  have b_p_is_name := FunD.bindsN (ps := P_is_name) F_p_is_name fun _ _ _ _ _ _ us hl => match us, hl with | [_], _ => rfl
  have b_p_is_state := FunD.bindsN (ps := P_is_state) F_p_is_state fun _ _ _ _ _ _ us hl => match us, hl with | [_], _ => rfl
  have b_p_is_length := FunD.bindsN (ps := P_is_length) F_p_is_length fun _ _ _ _ _ _ us hl => match us, hl with | [_, _], _ => rfl
  have b_p_is_tuple_of := FunD.bindsN (ps := P_is_tuple_of) F_p_is_tuple_of fun _ _ _ _ _ _ us hl => match us, hl with | [_, _], _ => rfl
  have b_p_are_ends := FunD.bindsN (ps := P_are_ends) F_p_are_ends fun _ _ _ _ _ _ us hl => match us, hl with | [_, _, _], _ => rfl
  have b_p_are_hearers := FunD.bindsN (ps := P_are_hearers) F_p_are_hearers fun _ _ _ _ _ _ us hl => match us, hl with | [_, _], _ => rfl
  have b_p_checked_persons := FunD.bindsN (ps := P_checked_persons) F_p_checked_persons fun _ _ _ _ _ _ us hl => match us, hl with | [_], _ => rfl
  have b_p_checked_ties := FunD.bindsN (ps := P_checked_ties) F_p_checked_ties fun _ _ _ _ _ _ us hl => match us, hl with | [_, _, _], _ => rfl
  have b_x_NoWeb := FunD.bindsN (ps := P_NoWeb_init) F_x_NoWeb fun _ _ _ _ _ _ us hl => match us, hl with | [_, _, _], _ => rfl
  have b_m_rounds := FunD.bindsN (ps := P_Web_rounds) F_m_rounds fun _ _ _ _ _ _ us hl => match us, hl with | [_], _ => rfl
  have b_m_persons := FunD.bindsN (ps := P_Web_persons) F_m_persons fun _ _ _ _ _ _ us hl => match us, hl with | [_], _ => rfl
  have b_m_ties := FunD.bindsN (ps := P_Web_ties) F_m_ties fun _ _ _ _ _ _ us hl => match us, hl with | [_], _ => rfl
  have ef : He.ga K "law" = f := by
    have z := (He.glo_ok X G (c.fact 24 (f := .glo "law") rfl)).symm.trans hfa
    exact Value.ref.inj (Option.some.inj z)
  refine ⟨fd_law, fun s v => ?_, fun base hK hN => ?_⟩
  · have z := FunD.bindsA (ps := ["_law_script"]) F_law (fun _ _ _ _ _ _ us hl => match us, hl with | [_], _ => rfl) s [v] rfl
    exact z
  have B : Blt mg := ⟨(He.free_ok X G (c.fact 53 (f := .free "isinstance") rfl)), (He.free_ok X G (c.fact 54 (f := .free "int") rfl)), (He.free_ok X G (c.fact 55 (f := .free "bool") rfl)), (He.free_ok X G (c.fact 56 (f := .free "str") rfl)), (He.free_ok X G (c.fact 57 (f := .free "list") rfl)), (He.free_ok X G (c.fact 58 (f := .free "tuple") rfl)), (He.free_ok X G (c.fact 59 (f := .free "dict") rfl)), (He.free_ok X G (c.fact 60 (f := .free "len") rfl)), (He.free_ok X G (c.fact 61 (f := .free "all") rfl)), (He.free_ok X G (c.fact 62 (f := .free "sum") rfl)), (He.free_ok X G (c.fact 63 (f := .free "enumerate") rfl)), (He.free_ok X G (c.fact 64 (f := .free "range") rfl)), (He.free_ok X G (c.fact 65 (f := .free "repr") rfl)), (He.free_ok X G (c.fact 66 (f := .free "abs") rfl)), (He.free_ok X G (c.fact 67 (f := .free "max") rfl)), (He.free_ok X G (c.fact 68 (f := .free "min") rfl)), (He.free_ok X G (c.fact 69 (f := .free "divmod") rfl)), (He.free_ok X G (c.fact 70 (f := .free "sorted") rfl))⟩
  have N : Cons mg := ⟨He.int_ok X G (c.fact 48 (f := .int "LONGEST" (10 ^ 30)) rfl), He.int_ok X G (c.fact 49 (f := .int "MOST_HEARERS" 12) rfl), He.int_ok X G (c.fact 50 (f := .int "MOST_PERSONS" 8) rfl), He.int_ok X G (c.fact 51 (f := .int "MOST_TIES" 12) rfl), He.int_ok X G (c.fact 52 (f := .int "LONGEST_NAME" 8) rfl)⟩
  have WC : WebCls K (He.ga K "Web") := ⟨He.cls_ok (c.fact 41 (f := .cls "Web") rfl), He.noat_ok (c.fact 43 (f := .noat "Web" "in_rounds") rfl), He.noat_ok (c.fact 44 (f := .noat "Web" "states") rfl), He.noat_ok (c.fact 45 (f := .noat "Web" "laid") rfl), He.noat_ok (c.fact 46 (f := .noat "Web" "person_rows") rfl), He.noat_ok (c.fact 47 (f := .noat "Web" "tie_rows") rfl)⟩
  have TO : TakeOk P w K mg base := ⟨_, _, F_take, b_take, ok_take F_take B.divmod_, (He.glo_ok X G (c.fact 1 (f := .glo "_law_take") rfl))⟩
  have PO : Has P w K mg base "_law_pot" S_pot 1 P_pot (spPot K) := ⟨_, _, F_pot, b_pot, ok_pot F_pot B.len_ B.abs_ B.max_, (He.glo_ok X G (c.fact 0 (f := .glo "_law_pot") rfl))⟩
  have NO : NameOk P w K mg base := ⟨_, _, F_name, b_name, ok_name F_name TO B.range_, (He.glo_ok X G (c.fact 2 (f := .glo "_law_name") rfl))⟩
  have LO : LenOk P w K mg base := ⟨_, _, F_length, b_length, ok_length F_length TO, (He.glo_ok X G (c.fact 3 (f := .glo "_law_length") rfl))⟩
  have HO' : HearOk P w K mg base := ⟨_, _, F_hearers, b_hearers, ok_hearers F_hearers TO B.range_ B.len_ B.tuple_ B.sorted_, (He.glo_ok X G (c.fact 4 (f := .glo "_law_hearers") rfl))⟩
  have EO : PersOk P w K mg base := ⟨_, _, F_persons, b_persons, ok_persons F_persons TO NO B.range_, (He.glo_ok X G (c.fact 5 (f := .glo "_law_persons") rfl))⟩
  have IO : TieOk P w K mg base := ⟨_, _, F_tie, b_tie, ok_tie F_tie TO NO LO HO' B.len_, (He.glo_ok X G (c.fact 6 (f := .glo "_law_tie") rfl))⟩
  have WO : WebOk P w K mg base := ⟨_, _, F_web, b_web, ok_web F_web TO EO IO B.range_ B.len_ B.int_, (He.glo_ok X G (c.fact 7 (f := .glo "_law_web") rfl))⟩
  have RO : RndOk P w K mg base := ⟨_, _, F_rounds, b_rounds, ok_rounds F_rounds WO, (He.glo_ok X G (c.fact 8 (f := .glo "_law_rounds") rfl))⟩
  have p1 : Has P w K mg base "is_whole" S_is_whole 1 P_is_whole spWhole := ⟨_, _, F_p_is_whole, b_p_is_whole, ok_whole F_p_is_whole B, (He.glo_ok X G (c.fact 25 (f := .glo "is_whole") rfl))⟩
  have p2 : Has P w K mg base "is_name" S_is_name 1 P_is_name spIsName := ⟨_, _, F_p_is_name, b_p_is_name, ok_isname F_p_is_name B N.ln, (He.glo_ok X G (c.fact 26 (f := .glo "is_name") rfl))⟩
  have p3 : Has P w K mg base "is_state" S_is_state 2 P_is_state spState := ⟨_, _, F_p_is_state, b_p_is_state, ok_state F_p_is_state p1, (He.glo_ok X G (c.fact 27 (f := .glo "is_state") rfl))⟩
  have p4 : Has P w K mg base "is_length" S_is_length 2 P_is_length spLength := ⟨_, _, F_p_is_length, b_p_is_length, ok_islen F_p_is_length p1 N.lo, (He.glo_ok X G (c.fact 28 (f := .glo "is_length") rfl))⟩
  have p5 : Has P w K mg base "is_tuple_of" S_is_tuple_of 1 P_is_tuple_of (spTupOf K) := ⟨_, _, F_p_is_tuple_of, b_p_is_tuple_of, ok_tupof F_p_is_tuple_of B, (He.glo_ok X G (c.fact 29 (f := .glo "is_tuple_of") rfl))⟩
  have p6 : Has P w K mg base "are_ends" S_are_ends 1 P_are_ends spEnds := ⟨_, _, F_p_are_ends, b_p_are_ends, ok_ends F_p_are_ends B, (He.glo_ok X G (c.fact 30 (f := .glo "are_ends") rfl))⟩
  have p7 : Has P w K mg base "are_hearers" S_are_hearers 3 P_are_hearers (spHearers K) := ⟨_, _, F_p_are_hearers, b_p_are_hearers, ok_arehear F_p_are_hearers B p1 p3 p5, (He.glo_ok X G (c.fact 31 (f := .glo "are_hearers") rfl))⟩
  have p8 : Has P w K mg base "checked_persons" S_checked_persons 3 P_checked_persons spChP := ⟨_, _, F_p_checked_persons, b_p_checked_persons, ok_chp F_p_checked_persons B N.mp p2 p3 p5, (He.glo_ok X G (c.fact 32 (f := .glo "checked_persons") rfl))⟩
  have p9 : Has P w K mg base "checked_ties" S_checked_ties 4 P_checked_ties (spChT K) := ⟨_, _, F_p_checked_ties, b_p_checked_ties, ok_cht F_p_checked_ties B N.mt N.mh p2 p5 p6 p4 p7, (He.glo_ok X G (c.fact 33 (f := .glo "checked_ties") rfl))⟩
  have MW : MakesW P w K mg base (He.ga K "Web") := ⟨_, dfE K, _, F_m_init, empB_ok hemp _, ok_init F_m_init WC B p8 p9, He.mkr_ok (c.fact 42 (f := .mkr "Web") rfl), (He.glo_ok X G (c.fact 40 (f := .glo "Web") rfl))⟩
  have q1 : HasM P w K mg base (He.ga K "Web") "rounds" "Web.rounds" S_Web_rounds 1 P_Web_rounds (spMRounds (He.ga K "Web")) := ⟨_, _, F_m_rounds, b_m_rounds, ok_mrounds F_m_rounds WC, (He.meth_ok (c.fact 35 (f := .meth "Web" "rounds") rfl))⟩
  have q2 : HasM P w K mg base (He.ga K "Web") "persons" "Web.persons" S_Web_persons 1 P_Web_persons (spMPersons (He.ga K "Web")) := ⟨_, _, F_m_persons, b_m_persons, ok_mpersons F_m_persons WC B, (He.meth_ok (c.fact 36 (f := .meth "Web" "persons") rfl))⟩
  have q3 : HasM P w K mg base (He.ga K "Web") "ties" "Web.ties" S_Web_ties 1 P_Web_ties (spMTies (He.ga K "Web")) := ⟨_, _, F_m_ties, b_m_ties, ok_mties F_m_ties WC B, (He.meth_ok (c.fact 37 (f := .meth "Web" "ties") rfl))⟩
  obtain ⟨hrz, hnw⟩ := He.ba hwi
  have NW := nwb_of hnw
  have mVal : mg "ValueError" = none := (He.free_ok X G (c.fact 71 (f := .free "ValueError") rfl))
  have gNW0 : mg "NoWeb" = some (.ref (He.ga K "NoWeb")) := (He.glo_ok X G (c.fact 38 (f := .glo "NoWeb") rfl))
  have gWE : mg "WebError" = some (.ref (He.ga K "WebError")) := (He.glo_ok X G (c.fact 73 (f := .glo "WebError") rfl))
  have gNS : mg "NoSuch" = some (.ref (He.ga K "NoSuch")) := (He.glo_ok X G (c.fact 74 (f := .glo "NoSuch") rfl))
  have gNT : mg "NoText" = some (.ref (He.ga K "NoText")) := (He.glo_ok X G (c.fact 75 (f := .glo "NoText") rfl))
  have RNW : Rz2 P w K mg base "NoWeb" "what" "who" (He.ga K "NoWeb") := rz2_val gNW0 hrz (He.meth_ok (c.fact 39 (f := .meth "NoWeb" "__init__") rfl)) F_x_NoWeb sc_NoWeb_init b_x_NoWeb (by decide) (by decide) (by decide) (by decide)
  have u1 : Has P w K mg base "is_whole" S_is_whole 1 P_is_whole (spWholeT K) := ⟨_, _, F_p_is_whole, b_p_is_whole, ok_wholeT F_p_is_whole B, (He.glo_ok X G (c.fact 25 (f := .glo "is_whole") rfl))⟩
  have u2 : Has P w K mg base "is_name" S_is_name 1 P_is_name spNameT := ⟨_, _, F_p_is_name, b_p_is_name, ok_isnameT F_p_is_name B N.ln, (He.glo_ok X G (c.fact 26 (f := .glo "is_name") rfl))⟩
  have u3 : Has P w K mg base "is_state" S_is_state 2 P_is_state spStateT := ⟨_, _, F_p_is_state, b_p_is_state, ok_stateT F_p_is_state u1, (He.glo_ok X G (c.fact 27 (f := .glo "is_state") rfl))⟩
  have u4 : Has P w K mg base "is_length" S_is_length 2 P_is_length spLenT := ⟨_, _, F_p_is_length, b_p_is_length, ok_lenT F_p_is_length u1 N.lo, (He.glo_ok X G (c.fact 28 (f := .glo "is_length") rfl))⟩
  have u5 : Has P w K mg base "are_ends" S_are_ends 1 P_are_ends spEndsT := ⟨_, _, F_p_are_ends, b_p_are_ends, ok_endsT F_p_are_ends B, (He.glo_ok X G (c.fact 30 (f := .glo "are_ends") rfl))⟩
  have u6 : Has P w K mg base "are_hearers" S_are_hearers 3 P_are_hearers spHearT := ⟨_, _, F_p_are_hearers, b_p_are_hearers, ok_hearT F_p_are_hearers u1 p5 u3 B, (He.glo_ok X G (c.fact 31 (f := .glo "are_hearers") rfl))⟩
  have w1 : HasE P w K mg base "checked_persons" S_checked_persons 3 P_checked_persons (fun vs H Q E => spChP vs H Q E ∨ spChPE (He.ga K "NoWeb") vs H Q E) := ⟨_, _, F_p_checked_persons, b_p_checked_persons, fn_or (fn_toCX (ok_chp F_p_checked_persons B N.mp p2 p3 p5)) (ok_chpE F_p_checked_persons RNW p5 u2 u3 N.mp B), (He.glo_ok X G (c.fact 32 (f := .glo "checked_persons") rfl))⟩
  have w2 : HasE P w K mg base "checked_ties" S_checked_ties 4 P_checked_ties (fun vs H Q E => spChT K vs H Q E ∨ spChTE (He.ga K "NoWeb") vs H Q E) := ⟨_, _, F_p_checked_ties, b_p_checked_ties, fn_or (fn_toCX (ok_cht F_p_checked_ties B N.mt N.mh p2 p5 p6 p4 p7)) (ok_chtE F_p_checked_ties RNW p5 u2 u5 u4 u6 N.mt N.mh B), (He.glo_ok X G (c.fact 33 (f := .glo "checked_ties") rfl))⟩
  have ME : MakesE P w K mg base (He.ga K "Web") (He.ga K "NoWeb") := ⟨_, dfE K, _, F_m_init, empB_ok hemp _, fn_or (fn_toCX (ok_init F_m_init WC B p8 p9)) (ok_initE F_m_init WC B w1 w2), He.mkr_ok (c.fact 42 (f := .mkr "Web") rfl), (He.glo_ok X G (c.fact 40 (f := .glo "Web") rfl))⟩
  have r1 : Has P w K mg base "_law_is_whole" S_l_is_whole 1 P_l_is_whole spLWhole := ⟨_, _, F_l_is_whole, b_l_is_whole, ok_lwhole F_l_is_whole B, (He.glo_ok X G (c.fact 9 (f := .glo "_law_is_whole") rfl))⟩
  have r2 : Has P w K mg base "_law_is_name" S_l_is_name 1 P_l_is_name spLName := ⟨_, _, F_l_is_name, b_l_is_name, ok_lname F_l_is_name B, (He.glo_ok X G (c.fact 10 (f := .glo "_law_is_name") rfl))⟩
  have r3 : Has P w K mg base "_law_person_due" S_person_due 2 P_person_due spPDue := ⟨_, _, F_person_due, b_person_due, ok_pdue F_person_due r1 r2 B, (He.glo_ok X G (c.fact 11 (f := .glo "_law_person_due") rfl))⟩
  have r4 : Has P w K mg base "_law_are_hearers" S_l_are_hearers 2 P_l_are_hearers spLHear := ⟨_, _, F_l_are_hearers, b_l_are_hearers, ok_lhear F_l_are_hearers r1 B, (He.glo_ok X G (c.fact 12 (f := .glo "_law_are_hearers") rfl))⟩
  have r5 : Has P w K mg base "_law_tie_due" S_tie_due 3 P_tie_due spTDue := ⟨_, _, F_tie_due, b_tie_due, ok_tdue F_tie_due r1 r2 r4 B, (He.glo_ok X G (c.fact 13 (f := .glo "_law_tie_due") rfl))⟩
  have r6 : Has P w K mg base "_law_due" S_due 4 P_due spDue := ⟨_, _, F_due, b_due, ok_due F_due r3 r5 B, (He.glo_ok X G (c.fact 14 (f := .glo "_law_due") rfl))⟩
  have r7 : Has P w K mg base "_law_among" S_among 2 P_among spAmong := ⟨_, _, F_among, b_among, ok_among F_among TO B, (He.glo_ok X G (c.fact 15 (f := .glo "_law_among") rfl))⟩
  have r8 : Has P w K mg base "_law_odd" S_odd 3 P_odd spOdd := ⟨_, _, F_odd, b_odd, ok_odd F_odd r7 B, (He.glo_ok X G (c.fact 16 (f := .glo "_law_odd") rfl))⟩
  have r9 : Has P w K mg base "_law_part_put" S_part_put 4 P_part_put spPart := ⟨_, _, F_part_put, b_part_put, ok_part F_part_put TO r8 B, (He.glo_ok X G (c.fact 17 (f := .glo "_law_part_put") rfl))⟩
  have r10 : Has P w K mg base "_law_name_put" S_name_put 3 P_name_put spPut := ⟨_, _, F_name_put, b_name_put, ok_nput F_name_put r7 B, (He.glo_ok X G (c.fact 18 (f := .glo "_law_name_put") rfl))⟩
  have r11 : Has P w K mg base "_law_ends_put" S_ends_put 3 P_ends_put spPut := ⟨_, _, F_ends_put, b_ends_put, ok_eput F_ends_put TO r7 B, (He.glo_ok X G (c.fact 19 (f := .glo "_law_ends_put") rfl))⟩
  have r12 : Has P w K mg base "_law_hearers_put" S_hearers_put 3 P_hearers_put spPart := ⟨_, _, F_hearers_put, b_hearers_put, ok_hput F_hearers_put r7 B, (He.glo_ok X G (c.fact 20 (f := .glo "_law_hearers_put") rfl))⟩
  have r13 : Has P w K mg base "_law_many_put" S_many_put 3 P_many_put spMany := ⟨_, _, F_many_put, b_many_put, ok_mput F_many_put TO B, (He.glo_ok X G (c.fact 21 (f := .glo "_law_many_put") rfl))⟩
  have r14 : Has P w K mg base "_law_spoilt" S_spoilt 5 P_spoilt spSpoil := ⟨_, _, F_spoilt, b_spoilt, ok_spoilt F_spoilt TO r8 r13 r9 r10 r11 r12 B, (He.glo_ok X G (c.fact 22 (f := .glo "_law_spoilt") rfl))⟩
  have r15 : HasG P w K mg base "_law_told" S_told 8 P_told spTold := ⟨_, _, F_told, b_told, ok_told F_told RNW WC ME gWE gNS gNT mVal NW.ec NW.xf NW.x1 NW.x2 NW.k1 NW.k2 NW.k3 q2 q3 q1 B HM, (He.glo_ok X G (c.fact 23 (f := .glo "_law_told") rfl))⟩
  have z := ok_law F_law PO TO WO RO r14 r6 r15 B HM
  rw [show He.fAd K d_law.at_ = f from ef] at z
  exact z
end Cw
open PySem PySem.W PySem.Calls PyProof.Rows
set_option maxRecDepth 100000 in
set_option maxHeartbeats 0 in
theorem PySem.Challenge.cw_crywalks_k12_whole_refused_in_order_holds : PySem.Challenge.rw_crywalks_k12_whole_refused_in_order.Holds := by
  w_on; o_law
  refine HandSHeadRun.head_any (r := Cw.R) (q := view Cw.R.prog [47]) (H := Cw.hk) (ob := Cw.ob) (M := 20000) (loose := Cw.loose) (d := HandSHeadRun.topDef Cw.R.prog 47) (kwd := []) Cw.ob_eq
    (by kernel_rfl) (fun s => by kernel_rfl) Cw.run (by kernel_rfl) (by kernel_rfl) (by kernel_rfl) (by rfl) (by first | assumption | decide +kernel) (by decide +kernel) ⟨rfl, rfl, rfl, rfl, rfl, by decide +kernel⟩ ?hw ?hc
  case hw => w_witness2
  case hc =>
    refine Cw.walkG (l := PySem.Challenge.rw_crywalks_k12_whole_refused_in_order) (n := 63) (k := 14) (x := "_law_script") rfl (by decide) (by kernel_rfl) ⟨rfl, by decide, by decide⟩ ?F
    intro w mg fa h Y G hmg0
    obtain ⟨K, KX, c, ex⟩ := Y
    have hmg : mg ("law" : PySem.Str) = some (.ref fa) := by
      have e : (HandSHeadRun.topDef Cw.R.prog 47).name = ("law" : PySem.Str) := by kernel_rfl
      rw [← e]
      exact hmg0
    obtain ⟨fd, hb, hF⟩ := Cw.facts (P := PySem.Challenge.rw_crywalks_k12_whole_refused_in_order.prog) (w := w) KX G hmg c ex
    exact ⟨K, fd, Cw.spLaw K, KX, hb, fun H a ns hl _ hS => ⟨a, ns, rfl, hS, fun _ => rfl⟩, hF⟩
