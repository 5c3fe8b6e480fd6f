import PyProof.Rows.All
import Wide.All
import OpenK.AllK
import Wide.FinOn
import Lean
import HandS.ForMost
import HandS.ForExc
import HandS.Head0
import HandS.Head1
import HandS.Head2
import HandS.HeadEnd
import HandS.HeadHook1
import HandS.HeadHook2
import HandS.WideBits
import HandS.Wide
import HandS.IsInst
import HandS.ExcInit
import HandS.ExcValue
import HandS.Deep
import HandS.Codes
import HandS.Walk
import HandS.Zip
import KE.KExcIs
import HandS.DictTup
import HandS.ListItems
import HandS.SortInts
import HandS.SortRule
import HandS.Keys
import KE.GoesEnum
import HandS.MakeKwOnly
import HandS.Conv
import KE.KDictPairs
import KE.KRevSl
import HandS.OwnEq
import HandS.FStr
import PyProof.InstNe
import HandS.SetFor
import HandS.Strs
import HandS.TryOnly
import HandS.ExcOwn
import HandS.WordsExc
import HandS.DictComp
import HandS.ExcIs
import HandS.ExcField
import PyProof.EqKinds
import PyProof.TupleOfSeq
import PyProof.NeKinds
import PyProof.FactsAll.dict_2
import HandS.Style
import PySem.Challenge.RW_crywalks_k22_whole_texts_spoilt
import HandS.Small
import HandS.Text
import HandS.Exc
import KE.IntTextLaws
set_option Elab.async false
set_option linter.all false
set_option maxRecDepth 100000
set_option maxHeartbeats 4000000
/-! Promises of defs that are called where nothing is being shown (no guard stands): for repr of lists. -/
namespace Cw
open PySem PySem.Spec PyProof.Rows L2

/-- as the layer's promise of a def, where no guard is on the stack -/
structure FnG (P : Program) (w : World) (K : PySem.W.Frag) (mg : Str → Option Value) (base : Heap) (CX : CXT) (k : Nat)
    (f : Addr) (fd : FuncData) (ps : List Str) (sp : Sp) : Prop where
  len : ∀ vs H Q E, sp vs H Q E → vs.length = ps.length
  go : ∀ (A : Around) (out : List Env) (s : Shared) (H : Hp) (args : Args) (us : List Value) (vs : List V) (Q : VK) (E : XK),
    A.guards = some [] → Room k A → Env0 P w K mg base A out s H → BindsTo s fd args (ps.zip us) → Vals vs us →
    sp vs H Q E → codeAny (model P w) A (.call (.ref f) args) (CR CX out P w H s Q E) s

section
variable {P : Program} {w : World} {K : PySem.W.Frag} {mg : Str → Option Value} {base : Heap}
theorem FnG.ofOk {CX : CXT} {k : Nat} {f : Addr} {fd : FuncData} {ps : List Str} {sp : Sp}
    (F : FnOk P w K mg base CX k f fd ps sp) : FnG P w K mg base CX k f fd ps sp :=
  ⟨F.len, fun A out s H args us vs Q E _ hr => F.run A out s H args us vs Q E hr⟩
theorem FnG.mono {CX : CXT} {j k : Nat} {f : Addr} {fd : FuncData} {ps : List Str} {sp : Sp}
    (F : FnG P w K mg base CX j f fd ps sp) (h : j ≤ k) : FnG P w K mg base CX k f fd ps sp :=
  ⟨F.len, fun A out s H args us vs Q E hg hr => F.go A out s H args us vs Q E hg (hr.mono h)⟩

/-- a def by its body -/
theorem fnG {CX : CXT} {k : Nat} {f : Addr} {name qual : Str} {params : Arguments} {body : List Stmt} {scope : Scope}
    {dV kV doc pm cdv ct oc : Value} {an od : Option Addr} {osl : Array (Option Value)} {N ps : List Str} {sp : Sp}
    (at_ : K.lookup f = some ⟨oc, od, .func (PySem.W.fnOf name qual params body scope dV kV doc pm an cdv ct), osl⟩)
    (code : PySem.W.codeIn K cdv qual = true) (S : FnScope N ps scope)
    (len : ∀ vs H Q E, sp vs H Q E → vs.length = ps.length)
    (walk : ∀ (A : Around) (out : List Env) (s : Shared) (H : Hp) (vs : List V) (Q : VK) (E : XK), A.guards = some [] →
      Room k (A.deeper (envOfC qual scope s.heap.objs.size f cdv)) → sp vs H Q E →
      ∃ t, PSs (cxOf CX P w K mg base N qual scope f cdv A out s H E) body t ∧
        t { nx := fun _ H' => Q .non H', rt := Q } (start N vs) H) :
    FnG P w K mg base CX (k + 1) f (PySem.W.fnOf name qual params body scope dV kV doc pm an cdv ct) ps sp := by
  refine ⟨len, fun A out s H args us vs Q E hg hr e0 hb rel wish => ?_⟩
  have same : ∀ b o, base.get? b = some o → s.heap.get? b = some o := fun b o e => (e0.bs b o e).1
  have kin : K.In s.heap := e0.mod.kin.keeps same
  have kinds : ∀ y ∈ ps.zip us, scope.names.lookup y.1 = some .local ∨
      (scope.names.lookup y.1 = some .cell ∧ ((cellsFrom (s.heap.objs.size + 1) scope.names []).lookup y.1).isSome = true) := by
    rintro ⟨n, v⟩ hy
    rcases S.par n (List.of_mem_zip hy).1 with q | q
    · exact .inl q
    · exact .inr ⟨q, PySem.W.cellsFrom_some _ _ _ (.inl q)⟩
  refine codeAny_call_function hr.depth (kin _ _ at_) rfl S.co S.gen rfl (PySem.W.codeRec_of kin code) (hb _ _ _ _ ?_)
  refine wpAny_newFunctionEnv_cells S.kind kinds fun env ee s1 ic => ?_
  subst ee
  refine ⟨(e0.mod.nolimit.keeps same).keeps ic.toInCall.keep, codeAny_func ?_⟩
  obtain ⟨t, ht, hq⟩ := walk A out s H vs Q E hg (hr.deeper _) wish
  have I := inv_start (CX := CX) (E := E) S hr.hd e0 (len _ _ _ _ wish) rel ic
  refine wpAny_mono (ht.run [] s1 (start N vs) H _ I hq) (fun fl s' hs => ?_) fun e s' hs => hs
  cases fl with
  | ret u =>
    obtain ⟨v, σ', H', J, rv, q⟩ := hs
    exact ⟨v, H', J.os, J.bare, J.base, J.hok, rv, q⟩
  | next =>
    obtain ⟨σ', H', J, q⟩ := hs
    exact ⟨V.non, H', J.os, J.bare, J.base, J.hok, (rfl : RelV V.non Value.none), q⟩
  | brk => exact hs.elim fun _ z => z.elim fun _ z => z.2.elim
  | cont => exact hs.elim fun _ z => z.elim fun _ z => z.2.elim

/-- the same for a def as the head's facts tell it (no exception leaves it) -/
theorem defG {x qual : Str} {ar : Arguments} {bd : List Stmt} {sc : Scope} {dvs : List V} {kws : List (Str × V)} {f : Addr}
    {fd : FuncData} {N ps : List Str} {k : Nat} {sp : Sp} (F : FunD K x qual ar bd sc dvs kws f fd) (S : FnScope N ps sc)
    (len : ∀ vs H Q E, sp vs H Q E → vs.length = ps.length)
    (walk : ∀ (cdv : Value) (A : Around) (out : List Env) (s : Shared) (H : Hp) (vs : List V) (Q : VK) (E : XK),
      A.guards = some [] → Room k (A.deeper (envOfC qual sc s.heap.objs.size f cdv)) → sp vs H Q E →
      ∃ t, PSs (cxOf CX0 P w K mg base N qual sc f cdv A out s H E).nox bd t ∧
        t { nx := fun _ H' => Q .non H', rt := Q } (start N vs) H) : FnG P w K mg base CX0 (k + 1) f fd ps sp := by
  obtain ⟨oc, od, dV, kV, doc, pm, an, cdv, ct, osl, e, lk, hcd, _⟩ := F.ex
  subst e
  refine fnG lk hcd S len fun A out s H vs Q E hg hr wish => ?_
  obtain ⟨t, h, q⟩ := walk cdv A out s H vs Q E hg hr wish
  exact ⟨t, h.nox, q⟩
end

section
variable {X : Cx} {CX : CXT} {k : Nat} {f : Addr} {fd : FuncData} {ps : List Str} {sp : Sp} {dvs : List V} {ds : List Value} {E : XK}
theorem runG {pins : List (Addr × Obj)} {σ : L2.St} {H : Hp} {s : Shared} {Q : VK} {us : List Value} {vs : List V}
    (F : FnG X.prog X.w X.K X.mg X.base CX k f fd ps sp) (hg : X.A.guards = some []) (hr : Room k X.A) (hb : Binds X.K fd ps ds)
    (hd : Vals dvs ds) (hx : Passes CX X E) (I : Inv X pins σ H s) (r : Vals vs us) (h : sp (vs ++ dvs) H Q E) :
    wpAny (model X.prog X.w) X.A (call (.ref f) us) (EP X pins σ Q) X.xe s := by
  have rel : Vals (vs ++ dvs) (us ++ ds) := r.append hd
  have many : (us ++ ds).length = ps.length := rel.length.symm.trans (F.len _ _ _ _ h)
  have go := F.go X.A X.stack s H ⟨us, []⟩ (us ++ ds) (vs ++ dvs) Q E hg hr I.env0 (hb s us I.kIn many) rel h
  refine wpAny_call (codeAny_mono go fun res s' hq => ?_)
  match res, hq with
  | .error e, hq => exact hx pins σ H s e s' I hq
  | .ok (.ret u), hq => exact I.after hq
  | .ok .next, hq => exact hq.elim
  | .ok .brk, hq => exact hq.elim
  | .ok .cont, hq => exact hq.elim
/-- f(e, ..) -/
theorem pe_callG {x : Str} {p pos : Pos} {e : Expr} {es : List Expr} {t : TA} (F : FnG X.prog X.w X.K X.mg X.base CX k f fd ps sp)
    (hgs : X.A.guards = some []) (hr : Room k X.A) (hg : Gl X x) (hm : X.mg x = some (.ref f)) (hk : PySem.W.keepIn X.K (.ref f) = true)
    (hb : Binds X.K fd ps ds) (hd : Vals dvs ds) (hx : Passes CX X E) (ha : PA X (e :: es) t)
    (hdb : (x == ("__debug__" : Str)) = false := by decide)
    (he : starEach (e :: es) X.env = (false, eval e X.env) :: starEach es X.env := by rfl)
    (hpl : (backTo pos (starEach es X.env)).any (·.1) = false := by rfl) :
    PE X (.Call (.Name x p) (e :: es) [] pos) (tCall sp dvs E t) := by
  constructor
  intro pins s σ H Q I h
  refine wpAny_Call_Name_kw (ld_glob I hg hm ?_ hdb)
  refine PySem.W.callWith_K (h₀ := X.base) I.ok.mod.kin hk ?_ he hpl
  refine thn (ha.run pos pins s σ H _ I h) fun us s1 z => ?_
  obtain ⟨vs, H1, I1, rel, q⟩ := z
  exact ⟨I1.kIn, runG F hgs hr hb hd hx I1 rel q⟩
end

/-! ### the law's own call -/
section
variable {P : Program} {w : World} {K : PySem.W.Frag} {mg mb : Str → Option Value} {k : Nat} {fa a : Addr} {fd : FuncData} {x : Str}
  {sp : Sp} {s1 : Shared} {vs : List Value} {ns : List Int}
theorem lawCore {H : Hp} (kin : K.In s1.heap) (gl : s1.heap.Ns mainGlobals mg) (bl : s1.heap.Ns builtinsNs mb)
    (bb : ∀ y : Str, y ≠ "__name__" → mb y = bootBuiltins y) (lim : s1.heap.NoLimit) (gens : s1.gens = #[])
    (obj : s1.heap.get? a = some { cls := .type "list", data := .seq vs.toArray }) (room : Room k callerA)
    (F : ∀ base : Heap, K.In base → base.Ns mainGlobals mg → FnG P w K mg base CX0 k fa fd [x] sp)
    (bind : ∀ (s : Shared) (u : Value), BindsTo s fd ⟨[u], []⟩ [(x, u)]) (only : Only H)
    (wish : sp [.ref a] H (fun v _ => v = .bl true) fun _ _ _ => False) (hok : HOk P w H s1.heap)
    (hA : ∀ b, H b ≠ none → b = a) (hK : H a ≠ none → K.lookup a = none) :
    codeAny (model P w) callerA (.call (.ref fa) ⟨[.ref a], []⟩)
      (fun r s' => r = .ok (.ret (.bool true)) ∧ OldK s1.heap s'.heap ∧ s'.os = s1.os ∧ AllBare s'.gens) s1 := by
  have hid : ∀ {b : Addr} {o : Obj}, s1.heap.get? b = some o → H b = none → (hidT s1.heap H).get? b = some o :=
    fun e n => hidT_get e n
  have free : ∀ {b : Addr} {o : Obj} {es : Array DictEntry} {ep : Nat}, s1.heap.get? b = some o → o.data = .dict es ep → H b = none := by
    intro b o es ep e d
    by_cases q : H b = none
    · exact q
    · have e' := hA b q
      subst e'
      rw [obj] at e
      cases e
      exact Data.noConfusion d
  have ns' : ∀ {b : Addr} {m : Str → Option Value}, s1.heap.Ns b m → (hidT s1.heap H).Ns b m :=
    fun ⟨o, es, ep, e, d, r⟩ => ⟨o, es, ep, hid e (free e d), d, r⟩
  have kin' : K.In (hidT s1.heap H) := by
    intro b o e
    refine hid (kin b o e) ?_
    by_cases q : H b = none
    · exact q
    · have e' := hA b q
      subst e'
      rw [hK q] at e
      cases e
  obtain ⟨mc, l1, l2⟩ := lim
  have md : Mod K mg (hidT s1.heap H) := ⟨kin', ns' gl, ⟨mb, ns' bl, bb⟩, mc, ns' l1, l2⟩
  have e0 : Env0 P w K mg (hidT s1.heap H) callerA [] s1 H :=
    ⟨rfl, md, fun b o e => of_hidT e, Nat.le_of_eq (hidT_size _ _), trivial, (fun b hb => (List.not_mem_nil (show b ∈ ([] : List Addr) from hb)).elim), hok, AllBare.of_eq gens⟩
  have go := (F _ kin' (ns' gl)).go callerA [] s1 H ⟨[.ref a], []⟩ [.ref a] [.ref a] _ _ rfl room e0 (bind s1 (.ref a)) (.cons rfl .nil) wish
  refine codeAny_mono go fun res s' h => ?_
  match res, h with
  | .error e, h => exact False.elim h
  | .ok .next, h => exact h.elim
  | .ok .brk, h => exact h.elim
  | .ok .cont, h => exact h.elim
  | .ok (.ret u), h =>
    obtain ⟨v, H', os, bare, un, hok', rv, q⟩ := h
    have q' : v = .bl true := q
    subst q'
    have eu : u = Value.bool true := rv
    subst eu
    refine ⟨rfl, OldK.of_keep fun b o e => ?_, os, bare⟩
    rcases only b with z | ⟨ob, xs, z⟩
    · exact un.keep b o e z (fun y => (List.not_mem_nil (show b ∈ ([] : List Addr) from y)).elim) List.not_mem_nil
    · have y1 := (hok b _ z).1
      have y2 := (hok' b _ (un.frzs b ob _ z)).1
      rw [e] at y1
      cases y1
      exact y2
theorem lawG (kin : K.In s1.heap) (gl : s1.heap.Ns mainGlobals mg) (bl : s1.heap.Ns builtinsNs mb)
    (bb : ∀ y : Str, y ≠ "__name__" → mb y = bootBuiltins y) (lim : s1.heap.NoLimit) (gens : s1.gens = #[])
    (obj : s1.heap.get? a = some { cls := .type "list", data := .seq vs.toArray }) (isInts : IntsAre vs ns) (hl : ns.length ≤ sizeLine)
    (room : Room k callerA) (F : ∀ base : Heap, K.In base → base.Ns mainGlobals mg → FnG P w K mg base CX0 k fa fd [x] sp)
    (bind : ∀ (s : Shared) (u : Value), BindsTo s fd ⟨[u], []⟩ [(x, u)])
    (wish : ∀ H : Hp, Only H → SqL K H a (ns.map V.int) → sp [.ref a] H (fun v _ => v = .bl true) fun _ _ _ => False) :
    codeAny (model P w) callerA (.call (.ref fa) ⟨[.ref a], []⟩)
      (fun r s' => r = .ok (.ret (.bool true)) ∧ OldK s1.heap s'.heap ∧ s'.os = s1.os ∧ AllBare s'.gens) s1 := by
  have rel := vals_ints isInts
  cases hk : K.lookup a with
  | some o =>
    have e := kin a o hk
    rw [obj] at e
    cases e
    have on : Only (fun _ => none) := fun _ => .inl rfl
    have sq : SqL K (fun _ => none) a (ns.map V.int) :=
      .inr ⟨_, vs.toArray, _, hk, rfl, rfl, rfl, by rw [List.size_toArray, isInts.length]; exact hl, by simpa using rel⟩
    exact lawCore kin gl bl bb lim gens obj room F bind on (wish _ on sq) (fun b u z => by cases (show (none : Option HO) = some u from z))
      (fun b z => absurd rfl z) (fun z => absurd rfl z)
  | none =>
    let H : Hp := fun b => if b = a then some (.frz { cls := .type "list", data := .seq vs.toArray } (.lst (ns.map V.int))) else none
    have here : H a = some (.frz { cls := .type "list", data := .seq vs.toArray } (.lst (ns.map V.int))) := if_pos rfl
    have other : ∀ b, b ≠ a → H b = none := fun b hb => if_neg hb
    have on : Only H := fun b => by
      by_cases hb : b = a
      · subst hb
        exact .inr ⟨_, _, here⟩
      · exact .inl (other b hb)
    refine lawCore (H := H) kin gl bl bb lim gens obj room F bind on (wish H on (.inl (.inr ⟨_, here⟩))) ?_ ?_ (fun _ => hk)
    · intro b u z
      by_cases hb : b = a
      · subst hb
        rw [here] at z
        cases z
        exact ⟨obj, by rw [List.length_map]; exact hl, vs, _, rel, obj⟩
      · rw [other b hb] at z
        cases z
    · intro b z
      by_cases hb : b = a
      · exact hb
      · exact absurd (other b hb) z
end
/-- the walk of the law's row -/
theorem walkG {l : PySem.W.OpenLaw} {n k : Nat} {q : Program} {loose : List Str} {XP : (Str → Option Value) → Heap → Prop}
    {YP : World → Heap → Prop} {d : DefRec} {x : Str} (hn : l.most = some n) (hn2 : n ≤ sizeLine) (hdf : d.params.defaults = [])
    (room : Room k callerA)
    (F : ∀ (w : World) (mg : Str → Option Value) (fa : Addr) (h : Heap), YP w h → h.Ns mainGlobals mg → mg d.name = some (.ref fa) →
      ∃ (K : PySem.W.Frag) (fd : FuncData) (sp : Sp), K.In h ∧ (∀ (s : Shared) (u : Value), BindsTo s fd ⟨[u], []⟩ [(x, u)]) ∧
        (∀ (H : Hp) (a : Addr) (ns : List Int), ns.length ≤ n → Only H → SqL K H a (ns.map V.int) →
          sp [.ref a] H (fun v _ => v = .bl true) fun _ _ _ => False) ∧
        ∀ base : Heap, K.In base → base.Ns mainGlobals mg → FnG l.prog w K mg base CX0 k fa fd [x] sp) :
    PySem.W.WalkO q loose XP YP l.row.toRowW d [] (fun f vs => PySem.call f vs) := by
  refine Att.attach_call hn hdf ?_
  intro w s0 s1 mg mb fa o pm cd doc a vs ns G Y ho hd hcd hmg hobj hints hlen hg
  obtain ⟨K, fd, sp, kin, bind, wish, hF⟩ := F w mg fa _ Y G.T.g hmg
  exact lawG kin G.T.g G.T.b G.T.builtins G.T.nolimit hg hobj hints (Nat.le_trans hlen hn2) room hF bind
    fun H hO hS => wish H a ns hlen hO hS
end Cw
namespace Cw
open PySem PySem.Spec PyProof.Rows L2
abbrev FnP (K : PySem.W.Frag) (x q : Str) (st : Stmt) (f : Addr) (fd : FuncData) : Prop := FunD K x q (defArgs st) (defBody st) (defScope st) [] [] f fd
/-! ### heaps -/
def But (p : Addr) (H H' : Hp) : Prop := ∀ b o, b ≠ p → H b = some o → H' b = some o
theorem But.trans {p : Addr} {H H1 H2 : Hp} (a : But p H H1) (b : But p H1 H2) : But p H H2 := fun c o n e => b c o n (a c o n e)
theorem But.refl {p : Addr} {H : Hp} : But p H H := fun _ _ _ e => e
theorem Same.but {p : Addr} {H H1 : Hp} (a : Same H H1) : But p H H1 := fun c o _ e => a c o e
theorem same_new {H : Hp} {p : Addr} {o : HO} (h : H p = none) : Same H (upd H p o) := fun b x e => by
  rw [upd_ne (ne_of_none e h)]
  exact e
theorem but_upd {H : Hp} {p : Addr} {o : HO} : But p H (upd H p o) := fun b x n e => by
  rw [upd_ne n]
  exact e
theorem atI_int {xs : List V} {k : Int} {v : V} (h0 : 0 ≤ k) (h : xs[k.toNat]? = some v) : atI xs k = some v := by
  have e : (k.toNat : Int) = k := Int.toNat_of_nonneg h0
  rw [← e]
  exact atI_nat h
/-- a pot: what is left of a cell's digits, and a number that is mixed on -/
def Pot (H : Hp) (p : Addr) : Prop := ∃ m0 m1 : Int, H p = some (.lst [.int m0, .int m1]) ∧ 0 ≤ m0 ∧ 0 ≤ m1 ∧ m1 ≤ 2147483587
theorem Pot.same {H H' : Hp} {p : Addr} (h : Pot H p) (s : Same H H') : Pot H' p := by
  obtain ⟨a, b, e, r⟩ := h
  exact ⟨a, b, s _ _ e, r⟩
theorem Pot.ne {H : Hp} {p q : Addr} (h : Pot H p) (n : H q = none) : p ≠ q := by
  obtain ⟨a, b, e, r⟩ := h
  exact ne_of_none e n
section
variable {X : Cx}
/-- divmod by a divisor of up to nine thousand bits -/
theorem call_divmodL : CallR X (.builtin "divmod") (fun xs H Q => ∃ i j, xs = [.int i, .int j] ∧ CDivW i j ∧
    ∀ p, H p = none → Q (.ref p) (upd H p (.tup [.int (i / j), .int (i % j)]))) := by
  intro pins s σ H xs us Q I r h
  obtain ⟨i, j, e, c, q⟩ := h
  exact call_divmodW pins s σ H xs us Q I r ⟨i, j, e, ⟨c.1, PyProof.noPylong_of_log2 c.2⟩, q⟩
end
/-- what a pot does when something is drawn of it: it is a pot still, and nothing that stood is otherwise -/
def Drew (p : Addr) (H H' : Hp) : Prop := But p H H' ∧ Pot H' p
theorem Drew.trans {p : Addr} {H H1 H2 : Hp} (a : Drew p H H1) (b : Drew p H1 H2) : Drew p H H2 := ⟨a.1.trans b.1, b.2⟩
theorem log_small {m : Int} {n : Nat} (h0 : 0 < m) (h : m ≤ (n : Int)) (hn : n < 2 ^ 200) : m.natAbs.log2 < 9000 := by
  have h1 : m.natAbs < 2 ^ 200 := by omega
  exact Nat.lt_of_lt_of_le (PySem.Flt.log2_lt_of (by decide) h1) (by decide)
def sign (c : Nat) : Str := ⟨#[c]⟩
theorem sum_ones {α : Type} : ∀ cs : List α, (cs.map fun _ => 1).sum = cs.length
  | [] => rfl
  | _ :: r => by
    rw [List.map_cons, List.sum_cons, sum_ones r, List.length_cons]
    omega
theorem joinL_nil : ∀ ps : List (List Nat), TL.joinL [] ps = ps.flatten
  | [] => rfl
  | [p] => by simp [TL.joinL]
  | p :: q :: r => by
    show p ++ ([] ++ TL.joinL [] (q :: r)) = _
    rw [joinL_nil (q :: r), List.nil_append]
    rfl
theorem flat_sign : ∀ cs : List Nat, ((cs.map sign).map TL.tl).flatten = cs
  | [] => rfl
  | c :: r => by
    show [c] ++ ((r.map sign).map TL.tl).flatten = c :: r
    rw [flat_sign r]
    rfl
theorem tl_word (cs : List Nat) : TL.tl (Txt.join (Str.ofString "") (cs.map sign)) = cs := by
  rw [TL.join_eq, TL.tl_join]
  show TL.joinL [] _ = cs
  rw [joinL_nil, flat_sign]
theorem letter_at : ∀ {x : Int}, 0 ≤ x → x.toNat < 26 → atI (Str.ofString "abcdefghijklmnopqrstuvwxyz").cps.toList x = some (97 + x.toNat) := by
  intro x h0 h
  have e : (x.toNat : Int) = x := Int.toNat_of_nonneg h0
  rw [← e]
  refine atI_nat (j := x.toNat) ?_
  have key : ∀ n : Fin 26, (Str.ofString "abcdefghijklmnopqrstuvwxyz").cps.toList[n.val]? = some (97 + n.val) := by decide +kernel
  exact key ⟨x.toNat, h⟩
/-- small letters, so many at most -/
def Small (n : Nat) (z : Str) : Prop := z.length ≤ n ∧ ∀ c ∈ z.cps.toList, 97 ≤ c ∧ c ≤ 122
theorem word_small {cs : List Nat} {n : Nat} (h : ∀ c ∈ cs, 97 ≤ c ∧ c ≤ 122) (hn : cs.length ≤ n) : Small n (Txt.join (Str.ofString "") (cs.map sign)) := by
  have e := tl_word cs
  refine ⟨?_, ?_⟩
  · have e2 := congrArg List.length e
    have e3 : (TL.tl (Txt.join (Str.ofString "") (cs.map sign))).length = (Txt.join (Str.ofString "") (cs.map sign)).length := by
      first | rfl | exact Array.length_toList
    omega
  · show ∀ c ∈ TL.tl (Txt.join (Str.ofString "") (cs.map sign)), _
    rw [e]
    exact h
/-- the heap without the pot -/
def Off (p : Addr) (H : Hp) : Hp := fun b => if b = p then none else H b
theorem Off.at {p b : Addr} {H : Hp} {o : HO} (n : b ≠ p) (e : H b = some o) : Off p H b = some o := by
  unfold Off
  rw [if_neg n]
  exact e
theorem Off.same {p : Addr} {H : Hp} : Same (Off p H) H := fun b o e => by
  unfold Off at e
  by_cases h : b = p
  · rw [if_pos h] at e
    cases e
  · rw [if_neg h] at e
    exact e
theorem Off.but {p : Addr} {H H' : Hp} (k : But p H H') : Same (Off p H) (Off p H') := fun b o e => by
  unfold Off at e
  by_cases h : b = p
  · rw [if_pos h] at e
    cases e
  · rw [if_neg h] at e
    exact Off.at h (k b o h e)
theorem fresh2 {H : Hp} {p : Addr} {o : HO} (n : H p = none) : Same H (upd H p o) ∧ (upd H p o) p = some o := ⟨same_new n, upd_same⟩
/-- what a comprehension's reading asks, its list at D -/
def LcD (J : It) (g : TG) (tt : TT) (te : TE) (vs : List Nat) (σ : L2.St) (H1 : Hp) (D : Addr) (Qd : Hp → Prop) : Prop := ∃ W : Nat → Nat → Hp → Prop, (∃ m, W 0 m (upd H1 D (.lst []))) ∧ ∀ i m H, W i m H →
  (J.stop i H ∧ Qd H) ∨ (J.go i H ∧ ∃ Nx : Hp → Prop, (∀ H', Nx H' → ∃ m', m' < m ∧ W (i + 1) m' H') ∧ ∀ x H', J.yld i H x H' → g x (wipe σ vs) H' fun σ2 H2 => wipe σ2 vs = wipe σ vs ∧ tt σ2 H2 fun b H3 =>
    if b = true then te σ2 H3 fun y H4 => ∃ acc, H4 D = some (.lst acc) ∧ acc.length < sizeLine ∧ Nx (upd H4 D (.lst (acc ++ [y]))) else Nx H3)
end Cw
/-! repr of data in lists (an empty dict among them); own exceptions as values: made, read, asked for their class. -/
namespace Cw
open PySem PySem.Spec PyProof.Rows L2
/-! ### data, tracked -/
/-- all of them are tuples -/
def allTup : List PyData → Bool
  | [] => true
  | .tuple _ :: r => allTup r
  | _ => false
/-- a tuple at a place, however made -/
def TupY (H : Hp) (a : Addr) (xs : List V) : Prop := H a = some (.tup xs) ∨ ∃ o : Obj, o.dict = none ∧ H a = some (.frz o (.tup xs))
theorem TupY.mp {H H' : Hp} {a : Addr} {xs : List V} (h : TupY H a xs) (k : ∀ o, H a = some o → H' a = some o) : TupY H' a xs := h.imp (k _) fun ⟨o, d, e⟩ => ⟨o, d, k _ e⟩
mutual
inductive Dx (H : Hp) : V → PyData → Prop
  | non : Dx H .non .none
  | bl (b : Bool) : Dx H (.bl b) (.bool b)
  | int (i : Int) : Dx H (.int i) (.int i)
  | str (x : Str) : Dx H (.str x) (.str x)
  | lst {a : Addr} {xs : List V} {ds : List PyData} : H a = some (.lst xs) → DxAll H xs ds → Dx H (.ref a) (.list ds)
  | tup {a : Addr} {xs : List V} {ds : List PyData} (e : H a = some (.tup xs)) (r : DxAll H xs ds) (n : allTup ds = false := by rfl) : Dx H (.ref a) (.tuple ds)
  | tupy {a : Addr} {xs : List V} {ds : List PyData} (e : TupY H a xs) (r : DxAll H xs ds) (n : allTup ds = true) : Dx H (.ref a) (.tuple ds)
  | emp {a : Addr} : H a = some (.dK []) → Dx H (.ref a) (.dict [])
inductive DxAll (H : Hp) : List V → List PyData → Prop
  | nil : DxAll H [] []
  | cons {v : V} {vs : List V} {d : PyData} {ds : List PyData} : Dx H v d → DxAll H vs ds → DxAll H (v :: vs) (d :: ds)
end
theorem Dx.tupz {H : Hp} {a : Addr} {xs : List V} {ds : List PyData} {o : Obj} (e : H a = some (.frz o (.tup xs))) (dn : o.dict = none) (r : DxAll H xs ds) (n : allTup ds = true) : Dx H (.ref a) (.tuple ds) := .tupy (.inr ⟨_, dn, e⟩) r n
mutual
theorem Dx.but {p : Addr} {n : List V} {H H' : Hp} (hp : H p = some (.lst n)) (k : ∀ b o, b ≠ p → H b = some o → H' b = some o) (np : ∀ d, ¬ Dx H (.ref p) d) : ∀ (d : PyData) (v : V), Dx H v d → Dx H' v d
  | .none, _, h => by cases h; exact .non
  | .bool b, _, h => by cases h; exact .bl b
  | .int i, _, h => by cases h; exact .int i
  | .str x, _, h => by cases h; exact .str x
  | .list ds, _, h => by
    cases h with
    | @lst a xs _ e r =>
      exact .lst (k a _ (fun z => np _ (z ▸ Dx.lst e r)) e) (Dx.butAll hp k np ds xs r)
  | .tuple ds, _, h => by
    cases h with
    | @tup a xs _ e r n =>
      exact .tup (k a _ (fun z => np _ (z ▸ Dx.tup e r n)) e) (Dx.butAll hp k np ds xs r) n
    | @tupy a xs _ e r n =>
      exact .tupy (e.mp fun o ho => k a o (fun z => np _ (z ▸ Dx.tupy e r n)) ho) (Dx.butAll hp k np ds xs r) n
  | .dict kvs, _, h => by
    cases h with
    | emp e => exact .emp (k _ _ (fun z => np _ (z ▸ Dx.emp e)) e)
theorem Dx.butAll {p : Addr} {n : List V} {H H' : Hp} (hp : H p = some (.lst n)) (k : ∀ b o, b ≠ p → H b = some o → H' b = some o) (np : ∀ d, ¬ Dx H (.ref p) d) : ∀ (ds : List PyData) (vs : List V), DxAll H vs ds → DxAll H' vs ds
  | [], _, h => by cases h; exact .nil
  | d :: ds, _, h => by
    cases h with
    | cons h1 h2 => exact .cons (Dx.but hp k np d _ h1) (Dx.butAll hp k np ds _ h2)
end
mutual
theorem Dx.same {H H' : Hp} (k : Same H H') : ∀ (d : PyData) (v : V), Dx H v d → Dx H' v d
  | .none, _, h => by cases h; exact .non
  | .bool b, _, h => by cases h; exact .bl b
  | .int i, _, h => by cases h; exact .int i
  | .str x, _, h => by cases h; exact .str x
  | .list ds, _, h => by
    cases h with
    | lst e r => exact .lst (k _ _ e) (Dx.sameAll k ds _ r)
  | .tuple ds, _, h => by
    cases h with
    | tup e r n => exact .tup (k _ _ e) (Dx.sameAll k ds _ r) n
    | tupy e r n => exact .tupy (e.mp (k _)) (Dx.sameAll k ds _ r) n
  | .dict kvs, _, h => by
    cases h with
    | emp e => exact .emp (k _ _ e)
theorem Dx.sameAll {H H' : Hp} (k : Same H H') : ∀ (ds : List PyData) (vs : List V), DxAll H vs ds → DxAll H' vs ds
  | [], _, h => by cases h; exact .nil
  | d :: ds, _, h => by
    cases h with
    | cons h1 h2 => exact .cons (Dx.same k d _ h1) (Dx.sameAll k ds _ h2)
end
/-- the written part knows the table of modules, which is a dict -/
def HasMods (K : PySem.W.Frag) : Prop := ∃ o, K.lookup sysModules = some o ∧ o.cls = .type "dict"
section
variable {X : Cx} {pins : List (Addr × Obj)} {σ : L2.St} {H : Hp} {s : Shared}
mutual
theorem Dx.reads (I : Inv X pins σ H s) (hm : HasMods X.K) : ∀ (d : PyData) (v : V) (u : Value), Dx H v d → RelV v u → ∃ as, Reads s.heap u d as ∧ sysModules ∉ as
  | .none, _, _, h, r => by
    cases h
    cases r
    exact ⟨_, Reads.none, List.not_mem_nil⟩
  | .bool b, _, _, h, r => by
    cases h
    cases r
    exact ⟨_, Reads.bool b, List.not_mem_nil⟩
  | .int i, _, _, h, r => by
    cases h
    obtain ⟨t, rfl⟩ := r
    exact ⟨_, Reads.int i t, List.not_mem_nil⟩
  | .str x, _, _, h, r => by
    cases h
    obtain ⟨t, rfl⟩ := r
    exact ⟨_, Reads.str x t, List.not_mem_nil⟩
  | .list ds, _, _, h, r => by
    cases h with
    | @lst a xs _ e ra =>
      cases r
      obtain ⟨_, its, n, rv, ho⟩ := (show ObjOk X.prog X.w H s.heap a (.lst xs) from I.hok a _ e)
      obtain ⟨as, q, nm⟩ := Dx.readsAll I hm ds xs its ra rv
      refine ⟨_, Reads.list ho rfl rfl q, fun z => ?_⟩
      rcases List.mem_cons.mp z with z | z
      · obtain ⟨o, l, c⟩ := hm
        have e2 := I.kIn _ _ l
        rw [z, ho] at e2
        cases e2
        exact absurd (Value.type.inj c) (by decide)
      · exact nm z
  | .tuple ds, _, _, h, r => by
    cases h with
    | @tup a xs _ e ra _ =>
      cases r
      obtain ⟨_, its, rv, o, ho, hc, n, hd⟩ := (show ObjOk X.prog X.w H s.heap a (.tup xs) from I.hok a _ e)
      obtain ⟨as, q, nm⟩ := Dx.readsAll I hm ds xs its ra rv
      exact ⟨_, Reads.tuple ho hc hd q, nm⟩
    | @tupy a xs _ e ra _ =>
      cases r
      rcases e with e | ⟨ob, dn, e⟩
      · obtain ⟨_, its, rv, o, ho, hc, n, hd⟩ := (show ObjOk X.prog X.w H s.heap a (.tup xs) from I.hok a _ e)
        obtain ⟨as, q, nm⟩ := Dx.readsAll I hm ds xs its ra rv
        exact ⟨_, Reads.tuple ho hc hd q, nm⟩
      · obtain ⟨_, _, its, rv, o, ho, hc, n, hd⟩ := (show ObjOk X.prog X.w H s.heap a (.frz ob (.tup xs)) from I.hok a _ e)
        obtain ⟨as, q, nm⟩ := Dx.readsAll I hm ds xs its ra rv
        exact ⟨_, Reads.tuple ho hc hd q, nm⟩
  | .dict kvs, _, _, h, r => by
    cases h with
    | @emp a e =>
      cases r
      obtain ⟨_, ns, vs, kv, o, es, ep, ho, hx, hd, hn⟩ := (show ObjOk X.prog X.w H s.heap a (.dK []) from I.hok a _ e)
      cases kv
      have he : es.toList = [] := by
        have z := hn.2.1
        revert z
        generalize es.toList = l
        intro z
        cases z
        rfl
      have q : Reads s.heap (.ref a) (.dict []) (a :: [] ++ []) := Reads.dict ho hx.1 hd (by rw [he]; exact .nil) (by rw [he]; exact .nil)
      refine ⟨_, q, fun z => ?_⟩
      have z2 : sysModules = a := by simpa using z
      rw [z2] at ns
      simp at ns
theorem Dx.readsAll (I : Inv X pins σ H s) (hm : HasMods X.K) : ∀ (ds : List PyData) (vs : List V) (us : List Value), DxAll H vs ds → Vals vs us → ∃ as, ReadsAll s.heap us ds as ∧ sysModules ∉ as
  | [], _, _, h, r => by
    cases h
    cases r
    exact ⟨_, ReadsAll.nil, List.not_mem_nil⟩
  | d :: ds, _, _, h, r => by
    cases h with
    | cons h1 h2 =>
      cases r with
      | cons r1 r2 =>
        obtain ⟨as, q1, n1⟩ := Dx.reads I hm d _ _ h1 r1
        obtain ⟨bs, q2, n2⟩ := Dx.readsAll I hm ds _ _ h2 r2
        exact ⟨_, ReadsAll.cons q1 q2, fun z => (List.mem_append.mp z).elim n1 n2⟩
end
end
section
variable {X : Cx}
/-- repr of a truth -/
theorem call_reprB : CallR X (.builtin "repr") (fun xs H Q => ∃ b : Bool, xs = [.bl b] ∧ Q (.str (if b then "True" else "False")) H) := by
  intro pins s σ H xs us Q I r h
  obtain ⟨b, rfl, q⟩ := h
  obtain ⟨u, rfl, r1⟩ := vals1 r
  cases r1
  exact PySem.P.repr_of_bool ⟨.str _, H, I.tok _, ⟨_, rfl⟩, q⟩
/-- tuple(xs), the tuple known to have no dict of its own -/
theorem call_tupleZ : CallR X (.type "tuple") (fun xs H Q => ∃ p ys, xs = [.ref p] ∧ SqL X.K H p ys ∧ ∀ (l : Addr) (o : Obj), H l = none → o.dict = none → Q (.ref l) (upd H l (.frz o (.tup ys)))) := by
  intro pins s σ H xs us Q I r h
  obtain ⟨p, ys, rfl, hq, q⟩ := h
  obtain ⟨u, rfl, rx⟩ := vals1 r
  cases rx
  obtain ⟨its, r', pl, hz⟩ := I.list hq
  have many := r'.length
  refine call_tuple_list pl.isList (fun h' kp => ?_) (by simp only [List.size_toArray] <;> omega)
  have J : Inv X pins σ H { s with heap := h' } := I.kept (t' := s.toks) kp
  let ob : Obj := { cls := .type "tuple", data := .seq its.toArray }
  have at_ : (h'.push ob).get? h'.objs.size = some ob := Heap.get?_push_size _ rfl
  refine ⟨.ref h'.objs.size, upd H h'.objs.size (.frz ob (.tup ys)), J.laid (t' := s.toks) (fun b o e => Heap.get?_push_of_some _ e) (Nat.le_refl _) ?_, rfl, q _ ob (J.hok.fresh (Nat.le_refl _)) rfl⟩
  exact ⟨at_, hz, its, r', ⟨_, at_, rfl, _, rfl⟩⟩
/-- the tuple of nothing, likewise -/
def tTupZ : TE := fun _ H Q => ∀ (p : Addr) (o : Obj), H p = none → o.dict = none → Q (.ref p) (upd H p (.frz o (.tup [])))
theorem pe_tupZ {k : Nat} {pos : Pos} : PE X (.Tuple [] k pos) tTupZ := by
  constructor
  intro pins s σ H Q I hq
  refine wpAny_Tuple_spliced (thn ((pa_nil (X := X)).run pos pins s σ H (fun xs H1 => xs = [] ∧ H1 = H) I ⟨rfl, rfl⟩) fun us s1 z => ?_)
  obtain ⟨xs, H1, I1, r, rfl, rfl⟩ := z
  cases r
  let ob : Obj := { cls := .type "tuple", data := .seq #[] }
  have at_ : (s1.heap.push ob).get? s1.heap.objs.size = some ob := Heap.get?_push_size _ rfl
  refine ⟨by show 0 ≤ sizeLine; omega, ⟨.ref s1.heap.objs.size, upd H1 s1.heap.objs.size (.frz ob (.tup [])), I1.laid (t' := s1.toks) (fun b u e => Heap.get?_push_of_some _ e) (Nat.le_refl _) ?_, rfl, hq _ ob (I1.hok.fresh (Nat.le_refl _)) rfl⟩⟩
  exact ⟨at_, by show 0 ≤ sizeLine; omega, [], .nil, ⟨_, at_, rfl, _, rfl⟩⟩
/-- repr of a list, a tuple, an empty dict -/
theorem call_reprX (hg : X.A.guards = some []) (hu : X.A.units + 64 < cLine) (hm : HasMods X.K) : CallR X (.builtin "repr") (fun xs H Q => ∃ (a : Addr) (d : PyData), xs = [.ref a] ∧ Dx H (.ref a) d ∧
    d.showable = true ∧ d.depth ≤ 60 ∧ d.shown.length ≤ sizeLine ∧ Q (.str d.shown) H) := by
  intro pins s σ H xs us Q I r h
  obtain ⟨a, d, rfl, hd, hs, hdp, hz, q⟩ := h
  obtain ⟨u, rfl, r1⟩ := vals1 r
  cases r1
  obtain ⟨as, rd, nm⟩ := Dx.reads I hm d _ _ hd rfl
  exact repr_of_reads' rd hs (fun _ => nm) hg (by omega) (fun _ _ e => e) (fun h' u tk hk => ⟨.str d.shown, H, I.kept (t' := tk) hk, ⟨u, rfl⟩, q⟩) hz
end

end Cw
/-! sorted(d.items()) of a dict from whole numbers to whole numbers -/
namespace Cw
open PySem PySem.Spec PyProof.Rows L2
/-- a dict's pairs -/
def enc (hs : List (Int × Int)) : List (Key × V) := hs.map fun h => (Sum.inl h.1, V.int h.2)
/-- the same body, one unit of C's stack further -/
def Cx.in1 (X : Cx) : Cx := { X with A := X.A.in1 }
section
variable {X : Cx} {pins : List (Addr × Obj)} {σ : L2.St} {H : Hp} {s : Shared}
theorem inv_in1 (I : Inv X pins σ H s) : Inv (Cx.in1 X) pins σ H s := by
  obtain ⟨ok, h1, h2, h3, h4, h5, h6, h7, h8, h9, h10⟩ := I
  obtain ⟨k1, k2, k3, k4, k5, k6, k7, k8, k9, k10, k11, k12, k13, k14, k15, k16, k17, k18⟩ := ok
  exact ⟨⟨k1, k2, k3, k4, k5, k6, k7, k8, k9, k10, k11, k12, k13, k14, k15, k16, k17, k18⟩, h1, h2, h3, h4, h5, h6, h7, h8, h9, h10⟩
theorem in1_inv (I : Inv (Cx.in1 X) pins σ H s) : Inv X pins σ H s := by
  obtain ⟨ok, h1, h2, h3, h4, h5, h6, h7, h8, h9, h10⟩ := I
  obtain ⟨k1, k2, k3, k4, k5, k6, k7, k8, k9, k10, k11, k12, k13, k14, k15, k16, k17, k18⟩ := ok
  exact ⟨⟨k1, k2, k3, k4, k5, k6, k7, k8, k9, k10, k11, k12, k13, k14, k15, k16, k17, k18⟩, h1, h2, h3, h4, h5, h6, h7, h8, h9, h10⟩
end
theorem pairs_at {P : Program} {w : World} {vs : List (Key × Value)} : ∀ {es : List DictEntry} {kvs : List (Key × V)}, PySem.Pairs (mixKind P w) es vs → KV kvs vs → ∀ (j : Nat) (e : DictEntry), es[j]? = some e → ∃ k v, kvs[j]? = some (k, v) ∧ RelV (kV k) e.key ∧ RelV v e.val := by
  intro es kvs h
  induction h generalizing kvs with
  | nil =>
    intro _ j e he
    cases he
  | @cons e0 kv es ks h1 h2 h3 ih =>
    intro hk j e he
    cases hk with
    | @cons q _ qs _ r1 r2 =>
      cases j with
      | zero =>
        have ee : e0 = e := Option.some.inj he
        subst ee
        refine ⟨q.1, q.2, rfl, ?_, ?_⟩
        · have := relV_key (show keyIs kv.1 e0.key = true from h1)
          rw [← r1.1] at this
          exact this
        · rw [h2]
          exact r1.2
      | succ j => exact ih r2 j e he
/-- which pair stands at an address -/
def pairOf (as : List Addr) (hs : List (Int × Int)) : V → Int × Int
  | .ref t => ((as.zip hs).lookup t).getD (0, 0)
  | _ => (0, 0)
theorem pairOf_at : ∀ {as : List Addr} {hs : List (Int × Int)} {j : Nat} {a : Addr} {h : Int × Int}, as.Nodup → as[j]? = some a → hs[j]? = some h → pairOf as hs (.ref a) = h
  | [], _, _, _, _, _, e, _ => by cases e
  | _ :: _, [], _, _, _, _, _, e => by cases e
  | b :: as, g :: hs, 0, a, h, _, e1, e2 => by
    have e1' : b = a := Option.some.inj e1
    have e2' : g = h := Option.some.inj e2
    subst e1' e2'
    show (((b, g) :: as.zip hs).lookup b).getD (0, 0) = g
    simp [List.lookup]
  | b :: as, g :: hs, j + 1, a, h, nd, e1, e2 => by
    have hn := List.nodup_cons.mp nd
    have ne : a ≠ b := fun z => hn.1 (by rw [← z]; exact List.mem_of_getElem? e1)
    have ih := pairOf_at (as := as) (hs := hs) (j := j) (a := a) (h := h) hn.2 e1 e2
    show (((b, g) :: as.zip hs).lookup a).getD (0, 0) = h
    have eb : (a == b) = false := beq_eq_false_iff_ne.mpr ne
    simp only [List.lookup, eb]
    exact ih
theorem map_pairOf {as : List Addr} {hs : List (Int × Int)} (nd : as.Nodup) (hl : as.length = hs.length) : (as.map V.ref).map (pairOf as hs) = hs := by
  refine List.ext_getElem? fun j => ?_
  rw [List.getElem?_map, List.getElem?_map]
  by_cases hj : j < as.length
  · rw [List.getElem?_eq_getElem hj, List.getElem?_eq_getElem (by omega)]
    show some (pairOf as hs (.ref as[j])) = _
    rw [pairOf_at nd (List.getElem?_eq_getElem hj) (List.getElem?_eq_getElem (by omega))]
  · rw [List.getElem?_eq_none (by omega), List.getElem?_eq_none (by omega)]
    rfl
def adr : V → Addr
  | .ref t => t
  | _ => 0
theorem refs_map : ∀ {zs : List V}, (∀ z ∈ zs, ∃ a, z = .ref a) → (zs.map adr).map V.ref = zs
  | [], _ => rfl
  | z :: r, h => by
    obtain ⟨a, rfl⟩ := h z List.mem_cons_self
    rw [List.map_cons, List.map_cons, refs_map fun y hy => h y (List.mem_cons_of_mem _ hy)]
    rfl
theorem paired_refs {G : Addr → Int × Int → Prop} {k : V → Int × Int} : ∀ {zs : List V}, (∀ z ∈ zs, G (adr z) (k z)) → Paired G (zs.map adr) (zs.map k)
  | [], _ => .nil
  | z :: r, h => .cons (h z List.mem_cons_self) (paired_refs fun y hy => h y (List.mem_cons_of_mem _ hy))
theorem pairs_rise {k : V → Int × Int} : ∀ {zs : List V}, zs.Pairwise (fun x y => SrtO.lexB (k y) (k x) = false) → ((zs.map k).map (·.1)).Nodup → (zs.map k).Pairwise (fun a b => a.1 < b.1)
  | [], _, _ => .nil
  | z :: r, h, nd => by
    obtain ⟨h1, h2⟩ := List.pairwise_cons.mp h
    rw [List.map_cons, List.map_cons] at nd
    obtain ⟨n1, n2⟩ := List.nodup_cons.mp nd
    rw [List.map_cons]
    refine List.pairwise_cons.mpr ⟨fun b hb => ?_, pairs_rise h2 n2⟩
    obtain ⟨y, hy, rfl⟩ := List.mem_map.mp hb
    have q := SrtO.lexB_no.mp (h1 y hy)
    have ne : (k z).1 ≠ (k y).1 := fun e => n1 (by rw [e]; exact List.mem_map.mpr ⟨_, List.mem_map.mpr ⟨y, hy, rfl⟩, rfl⟩)
    omega
def rSortK : V → Hp → VK → Prop := fun x H Q => ∃ (d : Addr) (hs : List (Int × Int)), x = .ref d ∧ H d = some (.dK (enc hs)) ∧ hs.length ≤ 1000 ∧ (hs.map (·.1)).Nodup ∧
  ∀ (H' : Hp) (p : Addr) (ts : List Addr) (hs' : List (Int × Int)), Same H H' → H p = none → H' p = some (.lst (ts.map V.ref)) → Paired (fun (t : Addr) (h : Int × Int) => H' t = some (.tup [.int h.1, .int h.2])) ts hs' → hs'.Perm hs → hs'.Pairwise (fun a b => a.1 < b.1) → Q (.ref p) H'
def tSortK (te : TE) : TE := fun σ H Q => te σ H fun x H1 => rSortK x H1 Q
section
variable {X : Cx} {e : Expr} {te : TE} {p apos cpos pos : Pos}
theorem pe_sortedItems (hc : X.calm = true) (he : PE X e te) (hg : Gl X "sorted") (hm : X.mg "sorted" = none) (hbase : attributeBase e "items" X.env (eval e X.env) = eval e X.env := by rfl) (hline : (apos.endLine == cpos.line) = true := by rfl)
    (hs : starEach [.Call (.Attribute e "items" apos) [] [] cpos] X.env = (false, eval (.Call (.Attribute e "items" apos) [] [] cpos) X.env) :: starEach [] X.env := by rfl) :
    PE X (.Call (.Name "sorted" p) [.Call (.Attribute e "items" apos) [] [] cpos] [] pos) (tSortK te) := by
  constructor
  intro pins s σ H Q I hq
  refine wpAny_Call_Name_kw (ld_blt I hg hm (show bootBuiltins "sorted" = some (.builtin "sorted") by decide +kernel) ?_)
  refine PyProof.Rows.callWith_builtin1 ?_ hs rfl
  rw [hs]
  show wpAny _ _ (spliced ((false, eval (.Call (.Attribute e "items" apos) [] [] cpos) X.env) :: backTo pos (starEach [] X.env))) _ _ s
  refine Calls.spliced_cons ?_
  refine wpAny_Call_method (T := "dict") (id := "dict.items") hbase rfl hline F.plainAttrs_dict F.slot_dict_items F.type_dict_items (thn (he.run pins s σ H _ I hq) fun u s1 z => ?_)
  obtain ⟨x, H1, I1, rx, d, hs', ex, hd, hlen, nd, q⟩ := z
  subst ex
  have eu : u = Value.ref d := rx
  subst eu
  obtain ⟨hz, hs0, vs, kv, hdo⟩ := I1.hok d _ hd
  have I2 : Inv X pins σ H1 { s1 with heap := s1.heap.push { cls := .type "dict_items", data := .fields #[.ref d] } } := I1.kept (t' := s1.toks) fun b ob q => Heap.get?_push_of_some _ q
  refine ⟨hdo.typeIs, hdo.mapOf.noDict, ?_⟩
  show wpAny _ _ (callWith cpos (.builtin "dict.items") [.ref d] [] []) _ X.xe s1
  refine method_meetsIn F.slot_dict_items F.entry_dict_items rfl (PySem.evalArgs_none ⟨rfl, hdo.typeIs, F.args_dict_items_1 _, _, meets_dict_items (mixKind X.prog X.w) d hs0, ⟨vs, hdo⟩, ?_⟩)
  refine Calls.spliced_nil ?_
  obtain ⟨o, es, ep, ho, hx, hdat, hko, hpr, hnd⟩ := hdo
  have lk : (enc hs').length = vs.length := Paired.length kv
  have le : es.size = vs.length := by
    have key : ∀ {l : List DictEntry} {ks : List (Key × Value)}, PySem.Pairs (mixKind X.prog X.w) l ks → l.length = ks.length := by
      intro l ks h
      induction h with
      | nil => rfl
      | cons _ _ _ ih => simp [ih]
    have := key hpr
    rw [Array.length_toList] at this
    exact this
  have l0 : (enc hs').length = hs'.length := List.length_map ..
  refine DT.sortedI (A := X.A) (es := es) (ep := ep) (I1.ok.hd hc) ⟨_, Heap.get?_push_size _ rfl, rfl, rfl⟩ ⟨o, Heap.get?_push_of_some _ ho, hx, hdat⟩ (by rw [sizeLine_eq]; omega) fun h' tk as hk hlt hl hG => ?_
  generalize hsI : ({ s1 with heap := s1.heap.push { cls := .type "dict_items", data := .fields #[.ref d] } } : Shared) = sI at I2 hk hlt hG ⊢
  have nda : as.Nodup := List.Pairwise.imp (fun h => Nat.ne_of_lt h) hG.rise
  have J0 : Inv X pins σ H1 { sI with heap := h', toks := tk } := I2.kept (t' := tk) hk
  obtain ⟨H2, J1, k1, k2⟩ := L2.DX.takeT (P := fun a vs => ∃ (j : Nat) (h : Int × Int), as[j]? = some a ∧ hs'[j]? = some h ∧ vs = [.int h.1, .int h.2]) I2 as H1 J0 nda fun a ha => by
    have lo := hG.above a ha
    refine ⟨Nat.le_of_lt lo, I2.hok.fresh (Nat.le_of_lt lo), ?_⟩
    obtain ⟨j, hj⟩ := List.mem_iff_getElem?.mp ha
    obtain ⟨en, he1, he2⟩ := hG.pairs j a hj
    obtain ⟨k, v, e1, e2, e3⟩ := pairs_at hpr kv j en (by rw [Array.getElem?_toList]; exact he1)
    unfold enc at e1
    rw [List.getElem?_map] at e1
    cases hh : hs'[j]? with
    | none =>
      rw [hh] at e1
      cases e1
    | some h =>
      rw [hh] at e1
      have e4 : (Sum.inl h.1, V.int h.2) = (k, v) := Option.some.inj e1
      have e5 : (Sum.inl h.1 : Key) = k := congrArg Prod.fst e4
      have e6 : V.int h.2 = v := congrArg Prod.snd e4
      subst e5 e6
      exact ⟨_, ⟨j, h, hj, hh, rfl⟩, fun H3 => ⟨by show 2 ≤ sizeLine; decide, [en.key, en.val], .cons e2 (.cons e3 .nil), ⟨_, he2, rfl, _, rfl⟩⟩⟩
  have hob : (h'.push { cls := .type "list", data := .seq (as.map Value.ref).toArray }).get? h'.objs.size = some { cls := .type "list", data := .seq (as.map Value.ref).toArray } := Heap.get?_push_size _ rfl
  have J2 : Inv X pins σ (upd H2 h'.objs.size (.lst (as.map V.ref))) { sI with heap := h'.push { cls := .type "list", data := .seq (as.map Value.ref).toArray }, toks := tk } :=
    J1.laid (t' := tk) (fun b u e => Heap.get?_push_of_some _ e) (Nat.le_refl _) ⟨by rw [List.length_map, sizeLine_eq]; omega, _, _, LiI.vals_refs as, hob⟩
  have n1 : H1 h'.objs.size = none := J0.hok.fresh (Nat.le_refl _)
  have n2 : H2 h'.objs.size = none := J1.hok.fresh (Nat.le_refl _)
  have lah : as.length = hs'.length := by omega
  have at_ : ∀ a ∈ as, H2 a = some (.tup [.int (pairOf as hs' (.ref a)).1, .int (pairOf as hs' (.ref a)).2]) := fun a ha => by
    obtain ⟨vs, ⟨j, h, e1, e2, rfl⟩, e3⟩ := k2 a ha
    rw [pairOf_at nda e1 e2]
    exact e3
  refine wpAny_mono (mt_sortPO (X := Cx.in1 X) pins _ σ _ (.ref h'.objs.size) [] (.ref h'.objs.size) [] (fun v H3 => v = .non ∧ Q (.ref h'.objs.size) H3) (inv_in1 J2) rfl .nil ⟨h'.objs.size, as.map V.ref, pairOf as hs', rfl, rfl, upd_same, fun y hy => ?_, fun zs srt stb => ⟨rfl, ?_⟩⟩) (fun u s' z => ?_) fun _ _ z => z
  · obtain ⟨a, ha, rfl⟩ := List.mem_map.mp hy
    refine ⟨a, rfl, ?_⟩
    rw [upd_ne (ne_of_none (at_ a ha) n2)]
    exact at_ a ha
  · have refs : ∀ z ∈ zs, ∃ a ∈ as, z = .ref a := fun z hz => by
      obtain ⟨a, ha, e⟩ := List.mem_map.mp (stb.perm.mem_iff.mp hz)
      exact ⟨a, ha, e.symm⟩
    have ez : (zs.map adr).map V.ref = zs := refs_map fun z hz => by
      obtain ⟨a, _, e⟩ := refs z hz
      exact ⟨a, e⟩
    refine q _ h'.objs.size (zs.map adr) (zs.map (pairOf as hs')) (fun b o e => ?_) n1 (by rw [upd_same, ez]) ?_ ?_ ?_
    · rw [upd_ne (ne_of_none e n1), upd_ne (ne_of_none (k1 b o e) n2)]
      exact k1 b o e
    · refine paired_refs fun z hz => ?_
      obtain ⟨a, ha, rfl⟩ := refs z hz
      have := at_ a ha
      show (upd _ _ _) a = _
      rw [upd_ne (ne_of_none this n2), upd_ne (ne_of_none this n2)]
      exact this
    · have p1 := stb.perm.map (pairOf as hs')
      rw [map_pairOf nda lah] at p1
      exact p1
    · have p1 := stb.perm.map (pairOf as hs')
      rw [map_pairOf nda lah] at p1
      exact pairs_rise srt ((p1.map (·.1)).nodup_iff.mpr nd)
  · obtain ⟨v, H3, J3, r3, ev, q3⟩ := z
    exact ⟨.ref h'.objs.size, H3, in1_inv J3, rfl, q3⟩
end
end Cw
/-! what the rules lacked: blocks that are never come to; list(d.values()); enumerate of a list or of the tuple of nothing; isinstance of a built-in class -/
namespace Cw
open PySem PySem.Spec PyProof.Rows L2
section
variable {X : Cx}
def noS : TS := fun _ _ _ => False
def noE : TE := fun _ _ _ => False
theorem ps_no {st : Stmt} : PS X st noS := ⟨fun _ _ _ _ _ _ h => False.elim h⟩
theorem pss_no {st : List Stmt} : PSs X st noS := ⟨fun _ _ _ _ _ _ h => False.elim h⟩
theorem pe_no {e : Expr} : PE X e noE := ⟨fun _ _ _ _ _ _ h => False.elim h⟩
/-! ### list(d.values()) -/
def tListVals (te : TE) : TE := fun σ H Q => te σ H fun x H1 => ∃ (d : Addr) (kvs : List (Key × V)), x = .ref d ∧ H1 d = some (.dK kvs) ∧ ∀ q, H1 q = none → Q (.ref q) (upd H1 q (.lst (kvs.map (·.2))))
theorem pe_listVals {e : Expr} {te : TE} {p apos cpos pos : Pos} (hc : X.calm = true) (he : PE X e te) (hg : Gl X "list") (hm : X.mg "list" = none) (hv : bootBuiltins "list" = some (.type "list")) (hbase : attributeBase e "values" X.env (eval e X.env) = eval e X.env := by rfl) (hline : (apos.endLine == cpos.line) = true := by rfl)
    (hs : starEach [.Call (.Attribute e "values" apos) [] [] cpos] X.env = (false, eval (.Call (.Attribute e "values" apos) [] [] cpos) X.env) :: starEach [] X.env := by rfl) :
    PE X (.Call (.Name "list" p) [.Call (.Attribute e "values" apos) [] [] cpos] [] pos) (tListVals te) := by
  refine ⟨fun pins s σ H Q I hq => ?_⟩
  refine wpAny_Call_Name_kw (ld_blt I hg hm hv ?_)
  refine PyProof.Rows.callWith_type1 ?_ hs rfl
  rw [hs]
  show wpAny _ _ (spliced ((false, eval (.Call (.Attribute e "values" apos) [] [] cpos) X.env) :: backTo pos (starEach [] X.env))) _ _ s
  refine Calls.spliced_cons ?_
  refine wpAny_Call_method (T := "dict") (id := "dict.values") hbase rfl hline F.plainAttrs_dict F.slot_dict_values F.type_dict_values (thn (he.run pins s σ H _ I hq) fun u s1 ⟨x, H1, I1, rx, d, kvs, ex, hd, q⟩ => ?_)
  subst ex
  obtain rfl : u = Value.ref d := rx
  obtain ⟨hz, hs0, vs, kv, hdo⟩ := I1.hok d _ hd
  obtain ⟨ep, hat⟩ := hdo.dictAt
  have lk : kvs.length = vs.length := Paired.length kv
  have I2 : Inv X pins σ H1 { s1 with heap := s1.heap.push { cls := .type "dict_values", data := .fields #[.ref d] } } := I1.kept (t' := s1.toks) fun b ob q => Heap.get?_push_of_some _ q
  refine ⟨hdo.typeIs, hdo.mapOf.noDict, ?_⟩
  show wpAny _ _ (callWith cpos (.builtin "dict.values") [.ref d] [] []) _ X.xe s1
  refine method_meetsIn F.slot_dict_values F.entry_dict_values rfl (PySem.evalArgs_none ⟨rfl, hdo.typeIs, F.args_dict_values_1 _, _, meets_dict_values (mixKind X.prog X.w) d hs0, ⟨vs, hdo⟩, ?_⟩)
  refine Calls.spliced_nil ?_
  refine PySem.W.kdl_call (PySem.W.kdl_values (knd := mixKind X.prog X.w) (kvs := vs) (ep := ep)) (I1.ok.hd hc) ⟨⟨_, Heap.get?_push_size _ rfl, rfl, rfl⟩, hat.push _⟩ (by rw [← lk]; exact hz) fun h' tk acc' c' hkeep hS hacc => ?_
  refine ⟨.ref _, upd H1 _ (.lst (kvs.map (·.2))), I2.laid hkeep (Nat.le_refl _) (show ObjOk X.prog X.w _ _ _ (.lst (kvs.map (·.2))) from ⟨?_, acc'.toList, c', ?_, ?_⟩), rfl, q _ (I2.hok.fresh (Nat.le_refl _))⟩
  · rw [List.length_map]; exact hz
  · have el : acc'.toList.length = acc'.size := by simp
    refine vals_of_at (by rw [List.length_map, el, hacc.1, lk]) fun j x w h1 h2 => ?_
    obtain ⟨k, hky⟩ := hacc.2 j w (by rw [← Array.getElem?_toList]; exact h2)
    rw [List.getElem?_map] at h1
    cases hj : kvs[j]? with
    | none => rw [hj] at h1; cases h1
    | some y =>
      rw [hj] at h1
      cases h1
      obtain ⟨qv, g1, g2, g3⟩ := LiI.paired_get kv hj
      rw [hky] at g1
      cases g1
      exact g3
  · rw [Array.toArray_toList]; exact hS
/-! ### enumerate(xs), xs a list, or the tuple of nothing -/
def ItNone (K : PySem.W.Frag) (a : Addr) : It := ⟨fun _ _ => False, fun _ _ _ _ => False, fun _ H => SqT K H a []⟩
end
set_option maxHeartbeats 1000000 in
theorem meets_enumerate_newT (l : Addr) (items : Array Value) (n : Nat) (dct : Option Addr) (sl : Array (Option Value)) :
    Meets (Builtin.«enumerate.__new__» ⟨[.type "enumerate", .ref l], []⟩) (fun _ R s => s.heap.get? l = some { cls := .type "tuple", dict := dct, data := .seq items n, slots := sl } ∧
      R (.ok (.ret (.ref (s.heap.push { cls := .type "tuple_iterator", data := .fields #[.ref l, .int 0 0] }).objs.size)))
        { s with heap := (s.heap.push { cls := .type "tuple_iterator", data := .fields #[.ref l, .int 0 0] }).push { cls := .type "enumerate", data := .fields #[.none, .bool false, .ref s.heap.objs.size, rawInt 0, .none, .none] } }) :=
  .of_wp fun prog w A R s h => by
    obtain ⟨hp, g, d, tk, os⟩ := s; obtain ⟨hl, h⟩ := h
    have hsub := sub_enumerate
    have hL : Heap.IsTuple (Shared.heap ⟨hp, g, d, tk, os⟩) l items := ⟨_, hl, rfl, n, rfl⟩
    wp_walk using wpAny_loadPart' hl
    refine wpAny_stack_any fun st => wpAny_pure ?_
    split
    · rename_i c _ _ _ _ _
      cases (c == Value.type "enumerate")
      · wp_walk using wpAny_loadPart' hl, wpAny_pyIter_tuple hL
        exact ⟨_, rfl, h⟩
      · wp_walk using wpAny_loadPart' hl, wpAny_pyIter_tuple hL
        exact ⟨_, rfl, h⟩
    · wp_walk using wpAny_loadPart' hl, wpAny_pyIter_tuple hL
      exact ⟨_, rfl, h⟩
section
variable {prog : Program} {w : World} {A : Around} {E : Value → Shared → Prop} {s : Shared}
theorem call_enumerate_tuple {l : Addr} {items : Array Value} {Q : Value → Shared → Prop} (hL : s.heap.IsTuple l items)
    (h : ∀ h', IsEnum h' (s.heap.objs.size + 1) s.heap.objs.size 0 .none → h'.IsTupleIter s.heap.objs.size l 0 → h'.objs.size = s.heap.objs.size + 2 →
      (∀ b o, s.heap.get? b = some o → h'.get? b = some o) → Q (.ref (s.heap.objs.size + 1)) { s with heap := h' }) :
    wpAny (model prog w) A (call (.type "enumerate") [.ref l]) Q E s := by
  obtain ⟨⟨c, dct, dt, sl⟩, hl, hc, n, hd⟩ := hL
  replace hc : c = .type "tuple" := hc
  replace hd : dt = .seq items n := hd
  subst hc hd
  refine callType_new F.called_enumerate (by decide) (F.typeCall_enumerate_1 _) (F.newCall_enumerate_1 _) (fun obj => F.args_object_init_2 obj _) F.entry_enumerate_new
    (meets_enumerate_newT l items n dct sl) ⟨hl, ?_⟩
  have hz : (s.heap.push { cls := .type "tuple_iterator", data := .fields #[.ref l, .int 0 0] }).objs.size = s.heap.objs.size + 1 := Heap.size_push ..
  show _ ∧ _
  rw [hz]
  have he : IsEnum ((s.heap.push { cls := .type "tuple_iterator", data := .fields #[.ref l, .int 0 0] }).push
      { cls := .type "enumerate", data := .fields #[.none, .bool false, .ref s.heap.objs.size, rawInt 0, .none, .none] }) (s.heap.objs.size + 1) s.heap.objs.size 0 .none := by
    have := Heap.get?_push_size (s.heap.push { cls := .type "tuple_iterator", data := .fields #[.ref l, .int 0 0] })
      (o := { cls := .type "enumerate", data := .fields #[.none, .bool false, .ref s.heap.objs.size, rawInt 0, .none, .none] }) rfl
    rw [hz] at this; exact this
  refine ⟨⟨_, he, rfl⟩, h _ he ⟨_, Heap.get?_push_of_some _ (Heap.get?_push_size _ rfl), rfl, rfl⟩ (by rw [Heap.size_push, hz]) fun b o x => Heap.get?_push_of_some _ (Heap.get?_push_of_some _ x)⟩
end
theorem turn_enum0 {P : Program} {w : World} {K : PySem.W.Frag} {elts : List Expr} {kk : Nat} {tpos : Pos} (a e it : Addr) (hk : a ≠ it) :
    Turn P w K (.Tuple elts kk tpos) (ItNone K a) [e, it] e (fun i h => (∃ old, IsEnum h e it 0 old) ∧ h.IsTupleIter it a 0 ∧ e ≠ it) where
  mem := by simp
  obj := fun i h st b hb => by
    obtain ⟨⟨old, he⟩, ⟨o, ho, hc, hd⟩, _⟩ := st
    have e' : b = e ∨ b = it := by simpa using hb
    rcases e' with z | z
    · rw [z]; exact ⟨_, he, fun v q => nomatch q⟩
    · rw [z]; exact ⟨o, ho, fun v q => by rw [hd] at q; cases q⟩
  keep := fun i h h' st k => let ⟨⟨old, he⟩, hi, hne⟩ := st; ⟨⟨old, k e (by simp) _ he⟩, hi.at fun o q => k it (by simp) o q, hne⟩
  item := fun _ _ _ _ _ _ _ _ _ _ _ _ _ _ hg => False.elim hg
  done := by
    intro X hP hw hK hc i pins s σ H E I hf st hg
    subst hP hw hK
    obtain ⟨⟨old, he⟩, hit, hne⟩ := st
    obtain ⟨its, rv, p, hz⟩ := I.tuple hg
    cases rv
    obtain ⟨f0, f1, f2, f3, f4, f5⟩ := hf it (by simp)
    exact wpAny_pyNext_enum_endD (Draws.tuple (A := X.A.in1) (I.ok.hd hc) it a hk #[]) he ⟨hit, p⟩ fun h' eb => ⟨rfl, I.turned (t' := s.toks) (fun b o hb q => eb b o hb q) f0 f1 f3 f4 f5⟩
  self := fun A i s Q E st h => let ⟨⟨_, he⟩, _⟩ := st; wpAny_pyIter_enum he h
def iEnum2 (K : PySem.W.Frag) (ta : TA) : TI := fun σ H R => ta σ H fun vs H1 => ∃ a, vs = [.ref a] ∧ ((∃ xs, SqL K H1 a xs ∧ R (Ite K a) H1) ∨ (SqT K H1 a [] ∧ R (ItNone K a) H1))
theorem pi_enum2 {X : Cx} {e : Expr} {ta : TA} {p pos tpos : Pos} {elts : List Expr} {kk : Nat} (hg : Gl X "enumerate") (hm : X.mg "enumerate" = none) (ha : PA X [e] ta) (hs : starEach [e] X.env = [(false, eval e X.env)] := by rfl) :
    PI X (.Tuple elts kk tpos) (.Call (.Name "enumerate" p) [e] [] pos) (iEnum2 X.K ta) := by
  refine ⟨fun pins s σ H R I h => ?_⟩
  refine Call_ (ld_blt I hg hm boot_enumerate (PyProof.Rows.callWith_type1 (thn (ha.run pos pins s σ H _ I h) fun us s1 ⟨vs, H1, I1, r1, q1⟩ => ?_) hs rfl))
  obtain ⟨a, ex, q1⟩ := q1
  subst ex
  cases r1 with
  | cons r rr =>
    cases rr
    cases r
    have low : ∀ b, b = s1.heap.objs.size + 1 ∨ b = s1.heap.objs.size → s1.heap.objs.size ≤ b := fun b e' => by
      rcases e' with z | z
      · rw [z]; exact Nat.le_add_right _ _
      · rw [z]; exact Nat.le_refl _
    rcases q1 with ⟨xs, hq, q⟩ | ⟨hq, q⟩
    · obtain ⟨its, rv, p', hz⟩ := I1.list hq
      refine call_enumerate_list p'.isList fun h' he hit hsz hk => wpAny_pyIter_enum he ?_
      have I2 : Inv X pins σ H1 { s1 with heap := h' } := I1.kept (t' := s1.toks) hk
      refine ⟨s1.heap.objs.size + 1, [s1.heap.objs.size + 1, s1.heap.objs.size], _, _, H1, rfl, I2, turn_enum a (s1.heap.objs.size + 1) s1.heap.objs.size, ⟨⟨.none, he⟩, hit, Nat.succ_ne_self _⟩, fun b hb => ?_, q⟩
      have hle := low b (by simpa using hb)
      exact I1.fpOk hle (I1.hok.fresh hle)
    · obtain ⟨its, rv, p', hz⟩ := I1.tuple hq
      have hlt : a < s1.heap.objs.size := by obtain ⟨o, ho, _⟩ := p'; exact Heap.lt_size ho
      refine call_enumerate_tuple p' fun h' he hit hsz hk => wpAny_pyIter_enum he ?_
      have I2 : Inv X pins σ H1 { s1 with heap := h' } := I1.kept (t' := s1.toks) hk
      refine ⟨s1.heap.objs.size + 1, [s1.heap.objs.size + 1, s1.heap.objs.size], _, _, H1, rfl, I2, turn_enum0 a (s1.heap.objs.size + 1) s1.heap.objs.size (Nat.ne_of_lt hlt), ⟨⟨.none, he⟩, hit, Nat.succ_ne_self _⟩, fun b hb => ?_, q⟩
      have hle := low b (by simpa using hb)
      exact I1.fpOk hle (I1.hok.fresh hle)
theorem walk_none {K : PySem.W.Frag} {a : Addr} : Walk (ItNone K a) 0 (fun H => SqT K H a []) (fun _ _ _ _ => False) :=
  ⟨fun _ _ hi _ => absurd hi (Nat.not_lt_zero _), fun _ h => h, fun _ _ _ _ hi _ _ => absurd hi (Nat.not_lt_zero _)⟩
/-! ### isinstance(x, T) -/
theorem isi {K : PySem.W.Frag} {ty t : String} {b : Bool} {x : V} {H : Hp} {Q : VK} (h : TyX K H x (.type t)) (hk : kitB t ty = some b) (q : Q (.bl b) H) : rIsi K [x, .ty ty] H Q := ⟨x, .ty ty, .type t, .type ty, b, rfl, .ty ty, h, kit_ty hk, q⟩
theorem k_int_int : kitB "int" "int" = some true := by decide +kernel
theorem k_int_bool : kitB "int" "bool" = some false := by decide +kernel
theorem k_str_str : kitB "str" "str" = some true := by decide +kernel
theorem k_tup_str : kitB "tuple" "str" = some false := by decide +kernel
theorem k_tup_tup : kitB "tuple" "tuple" = some true := by decide +kernel
theorem k_str_tup : kitB "str" "tuple" = some false := by decide +kernel
theorem k_lst_tup : kitB "list" "tuple" = some false := by decide +kernel
theorem k_lst_lst : kitB "list" "list" = some true := by decide +kernel
theorem k_tup_lst : kitB "tuple" "list" = some false := by decide +kernel
theorem ty_int {K : PySem.W.Frag} {H : Hp} (i : Int) : TyX K H (.int i) (.type "int") := .base (.int i)
theorem ty_str {K : PySem.W.Frag} {H : Hp} (z : Str) : TyX K H (.str z) (.type "str") := .base (.str z)
theorem ty_lst {K : PySem.W.Frag} {H : Hp} {a : Addr} {xs : List V} (h : H a = some (.lst xs)) : TyX K H (.ref a) (.type "list") := .base (.lst h)
theorem ty_tup {K : PySem.W.Frag} {H : Hp} {a : Addr} {xs : List V} (h : SqT K H a xs) : TyX K H (.ref a) (.type "tuple") := by
  rcases h with (h | ⟨o, h⟩) | ⟨o, its, n, h, c, _⟩
  · exact .base (.tup h)
  · exact .fTuple h
  · exact .kTuple h c
end Cw
/-! data that is short to show, and that is laid plainly -/
namespace Cw
open PySem PySem.Spec PyProof.Rows L2
structure Sh (d : PyData) (b p : Nat) : Prop where
  sh : d.showable = true
  lv : d.leavesShort 700 = true
  bk : d.bulk ≤ b
  dp : d.depth ≤ p
  cl : d.canLay0 = true
theorem Sh.mono {d : PyData} {b p b' p' : Nat} (h : Sh d b p) (hb : b ≤ b') (hp : p ≤ p') : Sh d b' p' := ⟨h.sh, h.lv, Nat.le_trans h.bk hb, Nat.le_trans h.dp hp, h.cl⟩
theorem sh_int {i : Int} (h1 : i.natAbs < 10 ^ 60) : Sh (.int i) 0 0 := by
  have l := int_text_length_le10 (k := 60) (by decide) h1
  have h2 : i.natAbs < 2 ^ 200 := by omega
  refine ⟨?_, ?_, Nat.le_refl _, Nat.le_refl _, by simp [PyData.canLay0]⟩
  · show decide (i.natAbs.log2 < 1920) = true
    exact decide_eq_true (Nat.lt_of_lt_of_le (PySem.Flt.log2_lt_of (by decide) h2) (by decide))
  · show decide ((PyData.shown (.int i)).length ≤ 700) = true
    refine decide_eq_true ?_
    show (Str.ofString (toString i)).length ≤ 700
    rw [PySem.ofString_length]
    omega
theorem sh_bool (b : Bool) : Sh (.bool b) 0 0 := ⟨rfl, rfl, Nat.le_refl _, Nat.le_refl _, by simp [PyData.canLay0]⟩
theorem sh_none : Sh .none 0 0 := ⟨rfl, rfl, Nat.le_refl _, Nat.le_refl _, by simp [PyData.canLay0]⟩
theorem sh_str {z : Str} {n : Nat} (h1 : z.length ≤ n) (h : ∀ c ∈ z.cps.toList, c < 0x110000) : Sh (.str z) n 0 := by
  refine ⟨rfl, ?_, ?_, Nat.le_refl _, ?_⟩
  · show (z.cps.toList.all fun c => decide (c < 16 ^ 8)) = true
    rw [List.all_eq_true]
    intro c hc
    have := h c hc
    exact decide_eq_true (by omega)
  · show z.cps.size ≤ n
    exact h1
  · simp only [PyData.canLay0]
    unfold PyData.strOk
    rw [Array.all_eq_true']
    intro c hc
    exact decide_eq_true (h c (Array.mem_toList_iff.mpr hc))
theorem sh_all {b p : Nat} : ∀ ds : List PyData, (∀ d ∈ ds, Sh d b p) → PyData.showableAll ds = true ∧ PyData.depthAll ds ≤ p ∧ PyData.leavesShortAll 700 ds = true ∧ PyData.bulkAll ds ≤ (b + 1) * ds.length ∧ PyData.canLayAll0 ds = true := by
  intro ds
  induction ds with
  | nil => intro _; exact ⟨by simp [PyData.showableAll], by simp [PyData.depthAll], by simp [PyData.leavesShortAll], by simp [PyData.bulkAll], by simp [PyData.canLayAll0]⟩
  | cons d r ih =>
    intro h
    obtain ⟨h1, h2, h3, h4, h5⟩ := ih fun x hx => h x (List.mem_cons_of_mem _ hx)
    have f := h d List.mem_cons_self
    refine ⟨?_, ?_, ?_, ?_, ?_⟩
    · simp only [PyData.showableAll, Bool.and_eq_true]
      exact ⟨f.sh, h1⟩
    · simp only [PyData.depthAll]
      have := f.dp
      omega
    · simp only [PyData.leavesShortAll, Bool.and_eq_true]
      exact ⟨f.lv, h3⟩
    · simp only [PyData.bulkAll, List.length_cons, Nat.mul_add, Nat.mul_one]
      have := f.bk
      omega
    · simp only [PyData.canLayAll0, Bool.and_eq_true]
      exact ⟨f.cl, h5⟩
theorem sh_list {b p n : Nat} {ds : List PyData} (h : ∀ d ∈ ds, Sh d b p) (hn : ds.length ≤ n) : Sh (.list ds) ((b + 1) * n) (p + 1) := by
  obtain ⟨h1, h2, h3, h4, h5⟩ := sh_all ds h
  have hm : (b + 1) * ds.length ≤ (b + 1) * n := Nat.mul_le_mul_left _ hn
  exact ⟨by simp only [PyData.showable]; exact h1, by simp only [PyData.leavesShort]; exact h3, by simp only [PyData.bulk]; omega, by simp only [PyData.depth]; omega, by simp only [PyData.canLay0]; exact h5⟩
theorem sh_tup {b p n : Nat} {ds : List PyData} (h : ∀ d ∈ ds, Sh d b p) (hn : ds.length ≤ n) : Sh (.tuple ds) ((b + 1) * n) (p + 1) := by
  obtain ⟨h1, h2, h3, h4, h5⟩ := sh_all ds h
  have hm : (b + 1) * ds.length ≤ (b + 1) * n := Nat.mul_le_mul_left _ hn
  exact ⟨by simp only [PyData.showable]; exact h1, by simp only [PyData.leavesShort]; exact h3, by simp only [PyData.bulk]; omega, by simp only [PyData.depth]; omega, by simp only [PyData.canLay0]; exact h5⟩
theorem Sh.rep {d : PyData} {b p : Nat} (h : Sh d b p) (hb : b ≤ 20000) (hp : p ≤ 60) : d.showable = true ∧ d.depth ≤ 60 ∧ d.shown.length ≤ sizeLine := by
  refine ⟨h.sh, Nat.le_trans h.dp hp, ?_⟩
  have l := PyData.shown_le_bulk 700 (by decide) d h.lv
  have := h.bk
  rw [sizeLine_eq]
  omega
theorem Sh.shaped {d : PyData} {b p : Nat} (h : Sh d b p) (hp : p ≤ 60) : SeqAt.shaped d = true := by
  unfold SeqAt.shaped
  rw [h.cl, Bool.true_and]
  exact decide_eq_true (Nat.le_trans h.dp (by omega))
/-! ### from tracked data to data that may lie in the written part -/
mutual
theorem Dx.dp {K : PySem.W.Frag} {H : Hp} : ∀ (d : PyData) (v : V), d.canLay0 = true → Dx H v d → Dp K H v d
  | .none, _, _, h => by cases h; exact .non
  | .bool b, _, _, h => by cases h; exact .bl b
  | .int i, _, _, h => by cases h; exact .int i
  | .str x, _, _, h => by cases h; exact .str x
  | .list ds, _, c, h => by
    cases h with
    | lst e r => exact .lst (SqL.of e) (Dx.dpAll ds _ (by simpa only [PyData.canLay0] using c) r)
  | .tuple ds, _, c, h => by
    cases h with
    | tup e r => exact .tup (SqT.of e) (Dx.dpAll ds _ (by simpa only [PyData.canLay0] using c) r)
    | tupy e r => exact .tup (e.elim (fun e => .inl (.inl e)) fun ⟨o, _, e⟩ => .inl (.inr ⟨o, e⟩)) (Dx.dpAll ds _ (by simpa only [PyData.canLay0] using c) r)
  | .dict kvs, _, c, h => by simp [PyData.canLay0] at c
theorem Dx.dpAll {K : PySem.W.Frag} {H : Hp} : ∀ (ds : List PyData) (vs : List V), PyData.canLayAll0 ds = true → DxAll H vs ds → DpAll K H vs ds
  | [], _, _, h => by cases h; exact .nil
  | d :: ds, _, c, h => by
    simp only [PyData.canLayAll0, Bool.and_eq_true] at c
    cases h with
    | cons h1 h2 => exact .cons (Dx.dp d _ c.1 h1) (Dx.dpAll ds _ c.2 h2)
end
mutual
theorem eqv_refl : ∀ d : PyData, d.canLay0 = true → PyData.eqv d d = true
  | .none, _ => by simp [PyData.eqv]
  | .bool b, _ => by simp [PyData.eqv]
  | .int i, _ => by simp [PyData.eqv]
  | .str x, _ => by simp [PyData.eqv]
  | .list ds, c => by
    simp only [PyData.eqv]
    exact eqv_all ds (by simpa only [PyData.canLay0] using c)
  | .tuple ds, c => by
    simp only [PyData.eqv]
    exact eqv_all ds (by simpa only [PyData.canLay0] using c)
  | .dict kvs, c => by simp [PyData.canLay0] at c
theorem eqv_all : ∀ ds : List PyData, PyData.canLayAll0 ds = true → PyData.eqvAll ds ds = true
  | [], _ => by simp [PyData.eqvAll]
  | d :: ds, c => by
    simp only [PyData.canLayAll0, Bool.and_eq_true] at c
    simp only [PyData.eqvAll, Bool.and_eq_true]
    exact ⟨eqv_refl d c.1, eqv_all ds c.2⟩
end
end Cw
/-! dict(t), t a tuple of pairs that has no dict of its own -/
namespace Cw
open PySem PySem.Spec PyProof.Rows L2
section
variable {X : Cx}
theorem pairs2 {pins : List (Addr × Obj)} {σ : L2.St} {H : Hp} {s : Shared} (I : Inv X pins σ H s) : ∀ {ps : List Addr} {kvs : List (Key × V)}, Paired (fun p kv => SqT X.K H p [kV kv.1, kv.2]) ps kvs →
    ∃ (prs : List (Key × Value)) (two : List (Value × Value)), KV kvs prs ∧ prs.length = ps.length ∧ two.length = ps.length ∧
      ∀ (j : Nat) (k v : Value), two[j]? = some (k, v) → ∃ (b : Addr) (key : Key), ps[j]? = some b ∧ s.heap.IsTuple b #[k, v] ∧ prs[j]? = some (key, v) ∧ (mixKind X.prog X.w).is key k = true
  | _, _, .nil => ⟨[], [], .nil, rfl, rfl, fun j k v e => by simp at e⟩
  | _, _, .cons (a := p) (b := kv) h t => by
    obtain ⟨prs, two, r, l1, l2, hp⟩ := pairs2 I t
    obtain ⟨its, rv, ht, _⟩ := I.tuple h
    obtain ⟨u, y, ei, ru, ry⟩ := vals2 rv
    subst ei
    refine ⟨(kv.1, y) :: prs, (u, y) :: two, .cons ⟨rfl, ry⟩ r, by simp [l1], by simp [l2], fun j k v e => ?_⟩
    cases j with
    | zero =>
      cases (Option.some.inj e : (u, y) = (k, v))
      exact ⟨p, kv.1, rfl, ht, rfl, kV_is (P := X.prog) (w := X.w) ru⟩
    | succ j => exact hp j k v (by simpa using e)
/-- dict(t) -/
theorem call_dictT (hcalm : X.calm = true) : CallR X (.type "dict") (fun xs H Q => ∃ (a : Addr) (o : Obj) (ps : List Addr) (kvs : List (Key × V)), xs = [.ref a] ∧ o.dict = none ∧ H a = some (.frz o (.tup (ps.map V.ref))) ∧ Paired (fun p kv => SqT X.K H p [kV kv.1, kv.2]) ps kvs ∧
    ∀ p, H p = none → Q (.ref p) (upd H p (.dK (mergeK [] kvs)))) := by
  intro pins s σ H xs us Q I r q
  obtain ⟨a, o, ps, kvs, rfl, dn, ha, hp, q⟩ := q
  obtain ⟨u, rfl, rx⟩ := vals1 r
  cases rx
  obtain ⟨hg, hz, its, rv, o', ho, hc, n, hd⟩ := (show ObjOk X.prog X.w H s.heap a (.frz o (.tup (ps.map V.ref))) from I.hok a _ ha)
  rw [hg] at ho
  cases ho
  have ei := refs_at rv
  subst ei
  rw [List.length_map] at hz
  obtain ⟨prs, two, rel, l1, l2, hpr⟩ := pairs2 I hp
  have ok : PySem.PlainSeq "tuple" s.heap a (ps.map Value.ref).toArray ∧ PySem.PairItems s.heap (ps.map Value.ref).toArray (fun j => ps.getD j 0) two := by
    refine ⟨⟨o, n, hg, hc, dn, hd⟩, by simp [l2], fun j k v e => ?_⟩
    obtain ⟨b, key, e1, e2, e3, e4⟩ := hpr j k v e
    have eb : ps.getD j 0 = b := by simp [List.getD, e1]
    refine ⟨?_, ?_⟩
    · show (ps.map Value.ref).toArray[j]? = some (.ref (ps.getD j 0))
      rw [eb]
      simp [e1]
    · show PySem.PairAt s.heap (ps.getD j 0) k v
      rw [eb]
      exact .inl e2
  refine PySem.call_dict_pairs (knd := mixKind X.prog X.w) (kvs := prs) (PySem.PairArg.tuple a (ps.map Value.ref).toArray (fun j => ps.getD j 0) two) (I.ok.hd hcalm) ok ⟨by rw [l1, l2], fun j key v e => ?_⟩ (by rw [l2]; exact hz) fun h' tk hd' k => ?_
  · obtain ⟨b, kk, e1, e2, e3, e4⟩ := hpr j key v e
    exact ⟨kk, e3, e4⟩
  · have big : (s.heap.objs.size == sysModules) = false := beq_eq_false_iff_ne.mpr (Nat.ne_of_gt I.big)
    have few : (mergeK [] kvs).length ≤ sizeLine := by
      have z := length_mergeK kvs []
      have z2 := Paired.length rel
      simp only [List.length_nil] at z
      omega
    exact ⟨.ref s.heap.objs.size, upd H s.heap.objs.size (.dK (mergeK [] kvs)), I.laid (t' := tk) (fun b o e => k b o (by simp) e) (Nat.le_refl _) (show ObjOk X.prog X.w _ _ _ (.dK (mergeK [] kvs)) from ⟨few, big, merged [] prs, KV.merge rel .nil, hd'⟩), rfl, q _ (I.hok.fresh (Nat.le_refl _))⟩
end
theorem merge_new : ∀ (kvs acc : List (Key × V)), (acc.map (·.1) ++ kvs.map (·.1)).Nodup → mergeK acc kvs = acc ++ kvs
  | [], acc, _ => by simp [mergeK]
  | p :: r, acc, h => by
    have hn : p.1 ∉ acc.map (·.1) := fun z => (List.nodup_append.mp h).2.2 _ z p.1 (by simp) rfl
    have e : putK acc p.1 p.2 = acc ++ [p] := by
      unfold putK
      have ea : (acc.any fun kv => decide (kv.1 = p.1)) = false := by
        rw [List.any_eq_false]
        intro x hx
        simp only [decide_eq_true_eq]
        exact fun z => hn (by rw [← z]; exact List.mem_map.mpr ⟨x, hx, rfl⟩)
      rw [ea]
      simp
    show mergeK (putK acc p.1 p.2) r = _
    rw [e, merge_new r (acc ++ [p]) (by simpa using h)]
    simp
end Cw
/-! t[::-1], t a tuple -/
namespace HT
open PySem PySem.Spec PyProof.Rows
section
variable {prog : Program} {w : World} {A : Around} {E : Value → Shared → Prop} {s : Shared}
theorem sliceApplied_rev {sl : Addr} {vk : Value} {n : Nat} {Q : Int × Int × Nat → Shared → Prop} (hs : s.heap.IsSliceOf sl .none .none vk) (pk : IsPart vk (some (-1)))
    (h : Q ((n : Int) - 1, -1, n) s) : wpAny (model prog w) A (Builtin.Slice.sliceApplied (.ref sl) (pure (n : Int))) Q E s := by
  obtain ⟨os, hos, hcs, hds⟩ := id hs
  unfold Builtin.Slice.sliceApplied Builtin.Slice.sliceFields
  refine wpAny_bind (wpAny_bind (wpAny_field hos hds (x := .none) rfl (wpAny_bind (wpAny_field hos hds (x := .none) rfl (wpAny_bind (wpAny_field hos hds (x := vk) rfl (wpAny_pure ?_)))))))
  refine wpAny_bind (slicePart_ pk ?_)
  show wpAny _ _ (if ((-1 : Int) == 0) = true then _ else _) _ _ s
  rw [if_neg (by decide)]
  refine wpAny_bind (slicePart_none (wpAny_bind (slicePart_none (wpAny_bind (wpAny_pure ?_)))))
  have e1 : Builtin.Slice.sliceAdjust none none (-1) (n : Int) = ((n : Int) - 1, -1) := by
    unfold Builtin.Slice.sliceAdjust
    simp
  have e2 : Builtin.Slice.slicePlaces ((n : Int) - 1) (-1) (-1) = n := by
    unfold Builtin.Slice.slicePlaces
    have h1 : ¬ ((-1 : Int) > 0) := by omega
    simp only [h1, if_false]
    have h2 : (- -1 : Int) = 1 := by decide
    rw [h2, Int.ediv_one]
    split <;> omega
  show wpAny _ _ (match Builtin.Slice.sliceAdjust none none (-1) (n : Int) with | (lo, hi) => pure (lo, (-1 : Int), Builtin.Slice.slicePlaces lo hi (-1))) _ _ s
  rw [e1]
  show wpAny _ _ (pure ((n : Int) - 1, (-1 : Int), Builtin.Slice.slicePlaces ((n : Int) - 1) (-1) (-1))) _ _ s
  rw [e2]
  exact wpAny_pure h
theorem pick_rev (xs : Array Value) : ((List.range xs.size).filterMap fun (k : Nat) => xs[(((xs.size : Nat) : Int) - 1 + (k : Int) * (-1)).toNat]?).toArray = xs.toList.reverse.toArray := by
  have e : (List.range xs.size).filterMap (fun (k : Nat) => xs[(((xs.size : Nat) : Int) - 1 + (k : Int) * (-1)).toNat]?) = ((List.range xs.size).map fun k => xs.size - 1 - k).filterMap (xs[·]?) := by
    rw [List.filterMap_map]
    have key : ∀ l : List Nat, (∀ k ∈ l, k < xs.size) → l.filterMap (fun (k : Nat) => xs[(((xs.size : Nat) : Int) - 1 + (k : Int) * (-1)).toNat]?) = l.filterMap ((xs[·]?) ∘ fun k => xs.size - 1 - k) := by
      intro l
      induction l with
      | nil => intro _; rfl
      | cons k r ih =>
        intro h
        have hk := h k List.mem_cons_self
        have ek : (((xs.size : Nat) : Int) - 1 + (k : Int) * (-1)).toNat = xs.size - 1 - k := by omega
        rw [List.filterMap_cons, List.filterMap_cons, ih fun y hy => h y (List.mem_cons_of_mem _ hy), ek]
        rfl
    exact key _ fun k hk => List.mem_range.mp hk
  rw [e, PySem.W.krv_range, List.filterMap_reverse, PySem.W.krv_all]
theorem getItem_tuple_rev {t sl : Addr} {items : Array Value} {vk : Value} {Q : Value → Shared → Prop} (ht : IsTup s.heap t items) (hs : s.heap.IsSliceOf sl .none .none vk) (pk : IsPart vk (some (-1)))
    (h : Q (.ref s.heap.objs.size) { s with heap := s.heap.push { cls := .type "tuple", data := .seq items.toList.reverse.toArray } })
    (hsz : items.size ≤ sizeLine) : wpAny (model prog w) A (getItem (.ref t) (.ref sl)) Q E s := by
  have htake : sizeOk (.seq items.toList.reverse.toArray) := by
    show items.toList.reverse.toArray.size ≤ sizeLine
    rw [List.size_toArray, List.length_reverse, Array.length_toList]
    exact hsz
  obtain ⟨os, hos, hcs, hds⟩ := id hs
  have hTs : s.TypeIs (.ref sl) "slice" := ⟨os, hos, hcs⟩
  unfold getItem
  try with_reducible refine wpAny_holding ?_
  first | refine wpAny_bind (wpAny_pure ?_) | skip
  refine wpAny_bind (wpAny_sequenceKey ht.typeIs (by decide) ?_)
  refine wpAny_bind (wpAny_callSpecial?_slot (name := Str.ofString "__getitem__") ht.typeIs PyProof.Rows.slot_tuple_getitem
    (wpAny_call_entry PyProof.Rows.slot_tuple_getitem ht.typeIs entry_tuple_getitem ?_ (args_tuple_getitem _ _)))
  show wpAny _ _ (Builtin.Tuple.tupleItemsOf (.ref t) >>= _) _ _ s
  refine wpAny_bind (tupleItemsOf_ ht ?_)
  refine wpAny_bind (wpAny_typeOf hTs ?_)
  rw [if_pos (by decide)]
  refine wpAny_bind (sliceApplied_rev hs pk ?_)
  have hno : ¬ ((((items.size : Nat) : Int) - 1 == 0 && (-1 : Int) == 1 && items.size == items.size) = true) := by
    intro q
    rw [Bool.and_eq_true, Bool.and_eq_true] at q
    exact absurd (eq_of_beq q.1.2) (by decide)
  show wpAny _ _ (if (((items.size : Nat) : Int) - 1 == 0 && (-1 : Int) == 1 && items.size == items.size) = true then _ else _) _ _ s
  rw [if_neg hno, pick_rev]
  first
    | exact wpAny_bind (m := Builtin.Tuple.tupleExact _) (wpAny_newObj_type (wpAny_pure ⟨_, rfl, wpAny_pure h⟩) htake)
    | exact wpAny_bind (m := Builtin.Tuple.tupleExact _) (wpAny_newObj_type (wpAny_bind (wpAny_pure (wpAny_pure ⟨_, rfl, wpAny_pure h⟩))) htake)
    | exact wpAny_bind (wpAny_bind (m := Builtin.Tuple.tupleExact _) (wpAny_newObj_type (wpAny_pure (wpAny_pure ⟨_, rfl, wpAny_pure h⟩)) htake))
    | exact wpAny_bind (wpAny_bind (m := Builtin.Tuple.tupleExact _) (wpAny_newObj_type (wpAny_pure ⟨_, rfl, wpAny_pure h⟩) htake))
end
end HT
namespace Cw
open PySem PySem.Spec PyProof.Rows L2
section
variable {X : Cx} {e k : Expr} {te : TE} {tk : TO} {pos p2 : Pos}
def tRevT (K : PySem.W.Frag) (te : TE) (tk : TO) : TE := fun σ H Q => te σ H fun x H1 => tk σ H1 fun o H2 => o = some (-1) ∧ ∃ a xs, x = .ref a ∧ SqT K H2 a xs ∧ ∀ p, H2 p = none → Q (.ref p) (upd H2 p (.tup xs.reverse))
theorem vals_reverse : ∀ {xs : List V} {us : List Value}, Vals xs us → Vals xs.reverse us.reverse
  | _, _, .nil => .nil
  | _, _, .cons h r => by
    rw [List.reverse_cons, List.reverse_cons]
    exact (vals_reverse r).append (.cons h .nil)
/-- t[::-1] -/
theorem pe_revT (he : PE X e te) (hk : PO X (some k) tk) : PE X (.Subscript e (.Slice none none (some k) p2) pos) (tRevT X.K te tk) := by
  refine ⟨fun pins s σ H Q I h => ?_⟩
  refine Subscript_ (thn (he.run pins s σ H _ I h) fun v s1 ⟨x, H1, I1, r1, q1⟩ => ?_)
  refine wpAny_Slice ?_
  rw [evalPart_none]
  refine wpAny_pure (wpAny_pure ?_)
  refine thn (hk.run pins s1 σ H1 _ I1 q1) fun vk s3 ⟨o, H3, I3, pk, q3⟩ => ?_
  obtain ⟨rfl, a, xs, rfl, hx, q⟩ := q3
  cases r1
  have I4 : Inv X pins σ H3 { s3 with heap := s3.heap.push { cls := .type "slice", data := .fields #[.none, .none, vk] } } := I3.kept (t' := s3.toks) fun b ob q => Heap.get?_push_of_some _ q
  obtain ⟨its, r, ht, hz⟩ := I4.tuple hx
  have hlen : its.toArray.size = xs.length := by rw [List.size_toArray]; exact r.length.symm
  show wpAny (model X.prog X.w) X.A (subscriptTail e (.Slice none none (some k) p2) (.ref a) (.ref s3.heap.objs.size)) (EP X pins σ Q) X.xe { s3 with heap := s3.heap.push { cls := .type "slice", data := .fields #[.none, .none, vk] } }
  refine tail_any (ops := [.ref a, .ref s3.heap.objs.size]) ht.typeIs PyProof.Rows.slot_tuple_getitem.lookup ?_ (by with_unfolding_all rfl)
  refine HT.getItem_tuple_rev ht (Heap.IsSliceOf.new ..) pk ?_ (by rw [hlen]; exact hz)
  refine ⟨.ref _, _, I4.laid (t' := s3.toks) (o := .tup xs.reverse) (fun b ob q => Heap.get?_push_of_some _ q) (Nat.le_refl _) ?_, rfl, q _ (I4.hok.fresh (Nat.le_refl _))⟩
  exact ⟨by rw [List.length_reverse]; exact hz, its.reverse, vals_reverse r, IsTup.new _ _⟩
end
end Cw
namespace Cw
open PySem PySem.Spec PyProof.Rows L2
section
variable {X : Cx} {T : String} {name : Str} {id : String} {r : V → List V → Hp → VK → Prop} {o e : Expr} {es : List Expr} {to : TE} {t : TA} {apos cpos : Pos}
theorem pe_bmK {K : PySem.W.Frag} (hK : X.K = K) (pa : PlainAttrs T) (slot : Slot T name id) (hty : typeOf (.builtin id) = pure (.type "method_descriptor")) (hm : MtR X id r) (ho : PE X o to) (ha : PA X (e :: es) t)
    (hbase : attributeBase o name X.env (eval o X.env) = eval o X.env := by rfl)
    (hfew : ((backTo cpos (starEach (e :: es) X.env)).all (fun x => !x.1) && (backToKw cpos (keywordEach [] X.env)).all (fun x => x.1.isSome)
      && decide ((e :: es).length + ([] : List Keyword).length + (if ([] : List Keyword).isEmpty then 0 else 1) < 30)) = true := by rfl)
    (hline : (apos.endLine == cpos.line) = true := by rfl) (hs : starEach (e :: es) X.env = (false, eval e X.env) :: starEach es X.env := by rfl) (hplain : (backTo cpos (starEach es X.env)).any (·.1) = false := by rfl) :
    PE X (.Call (.Attribute o name apos) (e :: es) [] cpos) (tBM K T r to t) := by
  subst hK
  exact pe_bm pa slot hty hm ho ha hbase hfew hline hs hplain
theorem pe_bm0K {K : PySem.W.Frag} (hK : X.K = K) (pa : PlainAttrs T) (slot : Slot T name id) (hty : typeOf (.builtin id) = pure (.type "method_descriptor")) (hm : MtR X id r) (ho : PE X o to)
    (hbase : attributeBase o name X.env (eval o X.env) = eval o X.env := by rfl) (hline : (apos.endLine == cpos.line) = true := by rfl) : PE X (.Call (.Attribute o name apos) [] [] cpos) (tBM0 K T r to) := by
  subst hK
  exact pe_bm0 pa slot hty hm ho hbase hline
end
end Cw
/-! Hanging together along edges, whatever the points are. -/
namespace Pa
open scoped Classical
variable {α : Type}
abbrev Es (α : Type) := List (α × α)
def Adj (es : Es α) (y z : α) : Prop := (y, z) ∈ es ∨ (z, y) ∈ es
inductive Conn (es : Es α) : α → α → Prop
  | refl (y : α) : Conn es y y
  | step {x y z : α} : Conn es x y → Adj es y z → Conn es x z
theorem Adj.symm {es : Es α} {y z : α} (h : Adj es y z) : Adj es z y := Or.symm h
theorem Conn.trans {es : Es α} {x y z : α} (a : Conn es x y) (b : Conn es y z) : Conn es x z := by
  induction b with
  | refl => exact a
  | step _ h ih => exact .step ih h
theorem Conn.one {es : Es α} {x y : α} (h : Adj es x y) : Conn es x y := .step (.refl x) h
theorem Conn.symm {es : Es α} {x y : α} (a : Conn es x y) : Conn es y x := by
  induction a with
  | refl => exact .refl _
  | step _ h ih => exact (Conn.one h.symm).trans ih
theorem Conn.mono {es fs : Es α} (k : ∀ e ∈ es, e ∈ fs) {x y : α} (a : Conn es x y) : Conn fs x y := by
  induction a with
  | refl => exact .refl _
  | step _ h ih => exact .step ih (h.elim (fun z => .inl (k _ z)) (fun z => .inr (k _ z)))
theorem Conn.nil {x y : α} (a : Conn ([] : Es α) x y) : x = y := by
  induction a with
  | refl => rfl
  | step _ h _ => rcases h with h | h <;> cases h
theorem conn_snoc {es : Es α} {u v x y : α} : Conn (es ++ [(u, v)]) x y ↔ Conn es x y ∨ (Conn es x u ∧ Conn es v y) ∨ (Conn es x v ∧ Conn es u y) := by
  have up : ∀ {p q : α}, Conn es p q → Conn (es ++ [(u, v)]) p q := Conn.mono fun e h => List.mem_append_left _ h
  have uv : Conn (es ++ [(u, v)]) u v := .one (.inl (by simp))
  constructor
  · intro a
    induction a with
    | refl => exact .inl (.refl _)
    | @step p q _ h ih =>
      have key : Adj es p q ∨ (p = u ∧ q = v) ∨ (p = v ∧ q = u) := by
        rcases h with h | h <;> rcases List.mem_append.mp h with h | h
        · exact .inl (.inl h)
        · have e := List.mem_singleton.mp h
          cases e
          exact .inr (.inl ⟨rfl, rfl⟩)
        · exact .inl (.inr h)
        · have e := List.mem_singleton.mp h
          cases e
          exact .inr (.inr ⟨rfl, rfl⟩)
      rcases key with k | ⟨rfl, rfl⟩ | ⟨rfl, rfl⟩
      · rcases ih with a | ⟨a, b⟩ | ⟨a, b⟩
        · exact .inl (.step a k)
        · exact .inr (.inl ⟨a, .step b k⟩)
        · exact .inr (.inr ⟨a, .step b k⟩)
      · rcases ih with a | ⟨a, b⟩ | ⟨a, b⟩
        · exact .inr (.inl ⟨a, .refl _⟩)
        · exact .inr (.inl ⟨a, .refl _⟩)
        · exact .inl a
      · rcases ih with a | ⟨a, b⟩ | ⟨a, b⟩
        · exact .inr (.inr ⟨a, .refl _⟩)
        · exact .inl a
        · exact .inr (.inr ⟨a, .refl _⟩)
  · rintro (a | ⟨a, b⟩ | ⟨a, b⟩)
    · exact up a
    · exact ((up a).trans uv).trans (up b)
    · exact ((up a).trans uv.symm).trans (up b)
/-- what is closed holds all that hangs together with one of it -/
theorem Conn.closed {es : Es α} {R : α → Prop} (hc : ∀ y z, R y → Adj es y z → R z) {x y : α} (hx : R x) (a : Conn es x y) : R y := by
  induction a with
  | refl => exact hx
  | step _ h ih => exact hc _ _ ih h
/-- those of the list that hang together with x -/
noncomputable def comp (es : Es α) (ns : List α) (x : α) : List α := ns.filter fun z => decide (Conn es x z)
theorem mem_comp {es : Es α} {ns : List α} {x z : α} : z ∈ comp es ns x ↔ z ∈ ns ∧ Conn es x z := by
  unfold comp
  rw [List.mem_filter, decide_eq_true_iff]
theorem comp_eq {es : Es α} {ns : List α} {x : α} {f : α → Bool} (h : ∀ z ∈ ns, f z = true ↔ Conn es x z) : ns.filter f = comp es ns x := by
  unfold comp
  refine List.filter_congr fun z hz => ?_
  have k := h z hz
  by_cases c : Conn es x z
  · rw [k.mpr c, decide_eq_true c]
  · rw [decide_eq_false c]
    cases e : f z with
    | false => rfl
    | true => exact absurd (k.mp e) c
theorem comp_conn {es : Es α} {ns : List α} {x y : α} (h : Conn es x y) : comp es ns x = comp es ns y := by
  refine (comp_eq fun z hz => ?_).symm.symm
  constructor
  · intro k
    exact h.symm.trans (of_decide_eq_true k)
  · intro k
    exact decide_eq_true (h.trans k)
/-- is the first of its part -/
def First (es : Es α) (ns : List α) (z : α) : Prop := (comp es ns z).head? = some z
theorem first_iff {es : Es α} {ns : List α} (nd : ns.Nodup) {i : Nat} (hi : i < ns.length) : First es ns ns[i] ↔ ∀ x ∈ ns.take i, ¬ Conn es x ns[i] := by
  have split : ns = ns.take i ++ ns[i] :: ns.drop (i + 1) := by rw [List.getElem_cons_drop, List.take_append_drop]
  have cs : comp es ns ns[i] = (ns.take i).filter (fun z => decide (Conn es ns[i] z)) ++ (ns[i] :: (ns.drop (i + 1)).filter (fun z => decide (Conn es ns[i] z))) := by
    unfold comp
    have e := congrArg (List.filter (fun z => decide (Conn es ns[i] z))) split
    rw [List.filter_append, List.filter_cons, if_pos (decide_eq_true (Conn.refl _))] at e
    simpa using e
  constructor
  · intro h x hx c
    unfold First at h
    rw [cs] at h
    have mem : x ∈ (ns.take i).filter (fun z => decide (Conn es ns[i] z)) := List.mem_filter.mpr ⟨hx, decide_eq_true c.symm⟩
    cases e : (ns.take i).filter (fun z => decide (Conn es ns[i] z)) with
    | nil => rw [e] at mem; cases mem
    | cons y r =>
      rw [e] at h
      have ey : y = ns[i] := by simpa using h
      have my : y ∈ ns.take i := (List.mem_filter.mp (by rw [e]; exact List.mem_cons_self)).1
      rw [split] at nd
      exact (List.nodup_append.mp nd).2.2 y my ns[i] List.mem_cons_self ey
  · intro h
    unfold First
    rw [cs]
    have e : (ns.take i).filter (fun z => decide (Conn es ns[i] z)) = [] := by
      rw [List.filter_eq_nil_iff]
      intro x hx k
      exact h x hx (of_decide_eq_true k).symm
    rw [e]
    rfl
/-- the parts of the first i: by their first ones -/
noncomputable def parts (es : Es α) (ns ms : List α) : List (List α) := (ms.filter fun z => decide (First es ns z)).map (comp es ns)
theorem parts_snoc_pos {es : Es α} {ns ms : List α} {z : α} (h : First es ns z) : parts es ns (ms ++ [z]) = parts es ns ms ++ [comp es ns z] := by
  unfold parts
  simp [List.filter_append, h]
theorem parts_snoc_neg {es : Es α} {ns ms : List α} {z : α} (h : ¬ First es ns z) : parts es ns (ms ++ [z]) = parts es ns ms := by
  unfold parts
  simp [List.filter_append, h]
theorem mem_parts {es : Es α} {ns ms : List α} {c : List α} (h : c ∈ parts es ns ms) : ∃ z ∈ ms, First es ns z ∧ c = comp es ns z := by
  unfold parts at h
  obtain ⟨z, hz, rfl⟩ := List.mem_map.mp h
  obtain ⟨h1, h2⟩ := List.mem_filter.mp hz
  exact ⟨z, h1, of_decide_eq_true h2, rfl⟩
/-! ### marks: joined edge by edge -/
theorem marks_step {es : Es α} {u v : α} {ns : List α} {m : α → Int} {lo hi : Int} (hu : u ∈ ns) (hv : v ∈ ns) (hm : ∀ x ∈ ns, ∀ y ∈ ns, m x = m y ↔ Conn es x y)
    (hlh : (lo = m u ∧ hi = m v) ∨ (lo = m v ∧ hi = m u)) : ∀ x ∈ ns, ∀ y ∈ ns, (if m x = hi then lo else m x) = (if m y = hi then lo else m y) ↔ Conn (es ++ [(u, v)]) x y := by
  intro x hx y hy
  rw [conn_snoc, ← hm x hx y hy, ← hm x hx u hu, ← hm v hv y hy, ← hm x hx v hv, ← hm u hu y hy]
  rcases hlh with ⟨rfl, rfl⟩ | ⟨rfl, rfl⟩
  · by_cases h1 : m x = m v
    · by_cases h2 : m y = m v
      · rw [if_pos h1, if_pos h2]
        exact ⟨fun _ => .inl (h1.trans h2.symm), fun _ => rfl⟩
      · rw [if_pos h1, if_neg h2]
        constructor
        · intro e
          exact .inr (.inr ⟨h1, e⟩)
        · rintro (e | ⟨_, e⟩ | ⟨_, e⟩)
          · exact absurd (e.symm.trans h1) h2
          · exact absurd e.symm h2
          · exact e
    · by_cases h2 : m y = m v
      · rw [if_neg h1, if_pos h2]
        constructor
        · intro e
          exact .inr (.inl ⟨e, h2.symm⟩)
        · rintro (e | ⟨e, _⟩ | ⟨e, _⟩)
          · exact absurd (e.trans h2) h1
          · exact e
          · exact absurd e h1
      · rw [if_neg h1, if_neg h2]
        constructor
        · intro e
          exact .inl e
        · rintro (e | ⟨_, e⟩ | ⟨e, _⟩)
          · exact e
          · exact absurd e.symm h2
          · exact absurd e h1
  · by_cases h1 : m x = m u
    · by_cases h2 : m y = m u
      · rw [if_pos h1, if_pos h2]
        exact ⟨fun _ => .inl (h1.trans h2.symm), fun _ => rfl⟩
      · rw [if_pos h1, if_neg h2]
        constructor
        · intro e
          exact .inr (.inl ⟨h1, e⟩)
        · rintro (e | ⟨_, e⟩ | ⟨_, e⟩)
          · exact absurd (e.symm.trans h1) h2
          · exact e
          · exact absurd e.symm h2
    · by_cases h2 : m y = m u
      · rw [if_neg h1, if_pos h2]
        constructor
        · intro e
          exact .inr (.inr ⟨e, h2.symm⟩)
        · rintro (e | ⟨e, _⟩ | ⟨e, _⟩)
          · exact absurd (e.trans h2) h1
          · exact absurd e h1
          · exact e
      · rw [if_neg h1, if_neg h2]
        constructor
        · intro e
          exact .inl e
        · rintro (e | ⟨e, _⟩ | ⟨_, e⟩)
          · exact e
          · exact absurd e h1
          · exact absurd e.symm h2
end Pa
namespace Pa
variable {α : Type}
/-- the search: R reached, W waiting, all else of R looked at but those that ex names -/
structure PInv (es : Es α) (ns : List α) (z : α) (ex : α → Prop) (R W : List α) : Prop where
  nd : R.Nodup
  sub : ∀ y ∈ R, y ∈ ns
  con : ∀ y ∈ R, Conn es z y
  hz : z ∈ R
  hw : ∀ y ∈ W, y ∈ R
  cl : ∀ y ∈ R, y ∉ W → ¬ ex y → ∀ u, Adj es y u → u ∈ R
  le : W.length ≤ R.length
theorem PInv.start {es : Es α} {ns : List α} {z : α} (h : z ∈ ns) : PInv es ns z (fun _ => False) [z] [z] where
  nd := by simp
  sub := fun y hy => by rw [List.mem_singleton.mp hy]; exact h
  con := fun y hy => by rw [List.mem_singleton.mp hy]; exact .refl _
  hz := by simp
  hw := fun y hy => hy
  cl := fun y hy hn => absurd hy hn
  le := Nat.le_refl _
theorem PInv.few {es : Es α} {ns : List α} {z : α} {ex : α → Prop} {R W : List α} (h : PInv es ns z ex R W) : R.length ≤ ns.length := h.nd.length_le_of_subset h.sub
theorem PInv.pop {es : Es α} {ns : List α} {z y0 : α} {R W : List α} (h : PInv es ns z (fun _ => False) R (W ++ [y0])) : PInv es ns z (· = y0) R W where
  nd := h.nd
  sub := h.sub
  con := h.con
  hz := h.hz
  hw := fun y hy => h.hw y (List.mem_append_left _ hy)
  cl := fun y hy hn he => h.cl y hy (fun z => (List.mem_append.mp z).elim hn fun k => he (List.mem_singleton.mp k)) (fun z => z)
  le := by have := h.le; rw [List.length_append] at this; omega
theorem PInv.push {es : Es α} {ns : List α} {z u : α} {ex : α → Prop} {R W : List α} (h : PInv es ns z ex R W) (hn : u ∉ R) (hu : u ∈ ns) (hc : Conn es z u) : PInv es ns z ex (R ++ [u]) (W ++ [u]) where
  nd := List.nodup_append.mpr ⟨h.nd, by simp, fun a ha b hb e => hn (by rw [← List.mem_singleton.mp hb, ← e]; exact ha)⟩
  sub := fun y hy => (List.mem_append.mp hy).elim (h.sub y) fun k => by rw [List.mem_singleton.mp k]; exact hu
  con := fun y hy => (List.mem_append.mp hy).elim (h.con y) fun k => by rw [List.mem_singleton.mp k]; exact hc
  hz := List.mem_append_left _ h.hz
  hw := fun y hy => (List.mem_append.mp hy).elim (fun k => List.mem_append_left _ (h.hw y k)) fun k => List.mem_append_right _ k
  cl := fun y hy hw he v hv => by
    rcases List.mem_append.mp hy with k | k
    · exact List.mem_append_left _ (h.cl y k (fun q => hw (List.mem_append_left _ q)) he v hv)
    · exact absurd (List.mem_append_right _ k) hw
  le := by rw [List.length_append, List.length_append]; have := h.le; omega
theorem PInv.done {es : Es α} {ns : List α} {z y0 : α} {R W : List α} (h : PInv es ns z (· = y0) R W) (hc : ∀ u, Adj es y0 u → u ∈ R) : PInv es ns z (fun _ => False) R W where
  nd := h.nd
  sub := h.sub
  con := h.con
  hz := h.hz
  hw := h.hw
  cl := fun y hy hn _ u hu => by
    by_cases e : y = y0
    · subst e
      exact hc u hu
    · exact h.cl y hy hn e u hu
  le := h.le
theorem PInv.all {es : Es α} {ns : List α} {z : α} {R : List α} (h : PInv es ns z (fun _ => False) R []) : ∀ y, y ∈ R ↔ Conn es z y := fun y =>
  ⟨h.con y, fun c => c.closed (R := (· ∈ R)) (fun _ u ha hu => h.cl _ ha (by simp) (fun z => z) u hu) h.hz⟩
end Pa
namespace Pa
variable {α : Type}
theorem comp_nodup {es : Es α} {ns : List α} {x : α} (h : ns.Nodup) : (comp es ns x).Nodup := by
  unfold comp
  exact h.filter _
theorem comp_len {es : Es α} {ns : List α} {x : α} : (comp es ns x).length ≤ ns.length := by
  unfold comp
  exact List.length_filter_le _ _
/-- those who were seen, of the first i -/
def Seen (es : Es α) (ns : List α) (i : Nat) (S : List α) : Prop := S.Nodup ∧ ∀ y, y ∈ S ↔ y ∈ ns ∧ ∃ x ∈ ns.take i, Conn es x y
theorem Seen.few {es : Es α} {ns : List α} {i : Nat} {S : List α} (h : Seen es ns i S) : S.length ≤ ns.length := h.1.length_le_of_subset fun y hy => ((h.2 y).mp hy).1
theorem Seen.first {es : Es α} {ns : List α} {i : Nat} {S : List α} (h : Seen es ns i S) (nd : ns.Nodup) (hi : i < ns.length) : ns[i] ∉ S ↔ First es ns ns[i] := by
  rw [first_iff nd hi, h.2]
  constructor
  · intro k x hx c
    exact k ⟨List.getElem_mem hi, x, hx, c⟩
  · rintro k ⟨_, x, hx, c⟩
    exact k x hx c
theorem take_snoc {ns : List α} {i : Nat} (hi : i < ns.length) : ns.take (i + 1) = ns.take i ++ [ns[i]] := by
  rw [List.take_add_one, List.getElem?_eq_getElem hi]
  rfl
theorem Seen.old {es : Es α} {ns : List α} {i : Nat} {S : List α} (h : Seen es ns i S) (hi : i < ns.length) (hs : ns[i] ∈ S) : Seen es ns (i + 1) S := by
  refine ⟨h.1, fun y => ?_⟩
  rw [h.2, take_snoc hi]
  obtain ⟨_, x0, hx0, c0⟩ := (h.2 _).mp hs
  constructor
  · rintro ⟨hy, x, hx, c⟩
    exact ⟨hy, x, List.mem_append_left _ hx, c⟩
  · rintro ⟨hy, x, hx, c⟩
    rcases List.mem_append.mp hx with hx | hx
    · exact ⟨hy, x, hx, c⟩
    · rw [List.mem_singleton.mp hx] at c
      exact ⟨hy, x0, hx0, c0.trans c⟩
theorem Seen.apart {es : Es α} {ns : List α} {i : Nat} {S : List α} (h : Seen es ns i S) (hi : i < ns.length) (hs : ns[i] ∉ S) : ∀ y ∈ comp es ns ns[i], y ∉ S := by
  intro y hy k
  obtain ⟨_, x, hx, c⟩ := (h.2 _).mp k
  exact hs ((h.2 _).mpr ⟨List.getElem_mem hi, x, hx, c.trans (mem_comp.mp hy).2.symm⟩)
theorem Seen.new {es : Es α} {ns : List α} {i : Nat} {S : List α} (h : Seen es ns i S) (nd : ns.Nodup) (hi : i < ns.length) (hs : ns[i] ∉ S) : Seen es ns (i + 1) (S ++ comp es ns ns[i]) := by
  refine ⟨List.nodup_append.mpr ⟨h.1, comp_nodup nd, fun a ha b hb e => h.apart hi hs b hb (e ▸ ha)⟩, fun y => ?_⟩
  rw [List.mem_append, h.2, mem_comp, take_snoc hi]
  constructor
  · rintro (⟨hy, x, hx, c⟩ | ⟨hy, c⟩)
    · exact ⟨hy, x, List.mem_append_left _ hx, c⟩
    · exact ⟨hy, ns[i], List.mem_append_right _ (by simp), c⟩
  · rintro ⟨hy, x, hx, c⟩
    rcases List.mem_append.mp hx with hx | hx
    · exact .inl ⟨hy, x, hx, c⟩
    · rw [List.mem_singleton.mp hx] at c
      exact .inr ⟨hy, c⟩
end Pa
namespace Pa
open scoped Classical in
theorem parts_mem {α : Type} {es : Es α} {ns ms : List α} {z : α} (h : z ∈ ms) (hf : First es ns z) : comp es ns z ∈ parts es ns ms := by
  unfold parts
  exact List.mem_map.mpr ⟨z, List.mem_filter.mpr ⟨h, decide_eq_true hf⟩, rfl⟩
end Pa
/-! == and != by an own __eq__, whatever stands at the right; in a list of one; repr by an own __repr__; data shown in an f-string -/
namespace Cw
open PySem PySem.Spec PyProof.Rows L2
section
variable {prog : Program} {w : World} {A : Around} {E : Value → Shared → Prop} {s : Shared} {K : PySem.W.Frag} {x C L f : Addr} {h₀ : Heap} {m : Str → Option Value} {ox : Obj} {od : Option Obj} {b tb : Value}
theorem ne_slot : Slot "object" "__ne__" "object.__ne__" := PySem.F.cmp_object.ne
theorem ne_body {Q : PySem.Fin → Shared → Prop} (hu : A.units < cLine) (kin : K.In s.heap) (I : PySem.W.InstAt s.heap x ox C od)
    (heq : PySem.W.findIn K (.ref C) "__eq__" = some (some (.ref f))) (hf : PySem.W.isFn K (.ref f) = true)
    (h : wpAny (model prog w) A (call (.ref f) [.ref x, b]) (fun v s' => ∃ c, v = .bool c ∧ Q (.done (.ret (.bool (!c)))) s') E s) :
    wpAny (model prog w) A (Builtin.«object.__ne__» ⟨[.ref x, b], []⟩) Q E s := by
  unfold Builtin.«object.__ne__»
  refine wpAny_bind (m := slotArgs "__ne__" 1 _) (wpAny_pure ?_)
  refine wpAny_bind (wpAny_cRoomFor hu ?_)
  refine wpAny_bind (m := callSpecialIfBound? (.ref x) (Str.ofString "__eq__") [b]) (PySem.W.ifBound_K kin I heq hf (wpAny_mono h (fun r s' hr => ?_) fun _ _ e => e))
  obtain ⟨c, rfl, q⟩ := hr
  show wpAny _ _ (truthy (.bool c) >>= fun t => _) _ _ s'
  refine wpAny_bind (wpAny_truthy_bool ?_)
  exact wpAny_pure q
theorem tryNe_K {Q : Option Value → Shared → Prop} (hu : A.units + 1 < cLine) (kin : K.In s.heap) (I : PySem.W.InstAt s.heap x ox C od) (hne : PySem.W.findIn K (.ref C) "__ne__" = some (some (.builtin "object.__ne__")))
    (hm : PySem.W.mroIn K C (.type "object") = some true) (heq : PySem.W.findIn K (.ref C) "__eq__" = some (some (.ref f))) (hf : PySem.W.isFn K (.ref f) = true)
    (h : wpAny (model prog w) A.in1 (call (.ref f) [.ref x, b]) (fun v s' => ∃ c, v = .bool c ∧ Q (some (.bool (!c))) s') E s) : wpAny (model prog w) A (tryCompare (.ref x) "__ne__" b) Q E s := by
  have inst : PySem.W.Looks (model prog w) s.heap (isInstance (.ref x) (.type "object")) true := I.type.andThen (PySem.W.looks_mroIn kin hm)
  have cl : wpAny (model prog w) A (call (.builtin "object.__ne__") [.ref x, b]) (fun v s' => ∃ c, v = .bool (!c) ∧ Q (some (.bool (!c))) s') E s := by
    refine wpAny_call (codeAny_call_builtin ne_slot.plain PySem.F.cmpEntry_ne ?_)
    refine @PySem.W.check_slot (model prog w) _ _ _ "object.__ne__" "object" "__ne__" (.ref x) [b] [] _ PySem.F.cmpKind_ne PySem.F.cmpSplit_ne inst (PySem.F.cmpArgs_ne _ _) ?_
    refine ne_body (A := A.in1) hu kin I heq hf (wpAny_mono h (fun v s' hv => ?_) fun _ _ e => e)
    obtain ⟨c, rfl, q⟩ := hv
    exact ⟨c, rfl, c, rfl, q⟩
  unfold tryCompare
  refine wpAny_bind ?_
  simp only [callSpecialIfBound?, bindSpecialIfBound?]
  refine wpAny_holding (wpAny_bind (wpAny_bind (wpAny_bind (I.type.here ((PySem.W.looks_findIn kin hne).here ?_)))))
  refine wpAny_bind (wpAny_askSetting (wpAny_ite ?_))
  simp only [show bindSpecial (.builtin "object.__ne__") (.ref x) = pure (.builtin "object.__ne__", [.ref x]) from ne_slot.bind _]
  have fin : wpAny (model prog w) A (call (.builtin "object.__ne__") ([.ref x] ++ [b]) >>= fun v => pure (some v)) (fun a s' => wpAny (model prog w) A (match a with
              | some Value.notImplemented => pure none
              | none => pure none
              | some v => pure (some v)) Q E s') E s :=
    wpAny_bind (wpAny_mono cl (fun v s' hv => by
      obtain ⟨c, rfl, q⟩ := hv
      exact wpAny_pure (wpAny_pure q)) fun _ _ e => e)
  split
  · exact wpAny_bind (wpAny_pure (wpAny_pure fin))
  · exact wpAny_tryCatch (wpAny_bind (wpAny_pure (wpAny_pure fin)))
theorem cmpNe_K {Q : Value → Shared → Prop} (hu : A.units + 1 < cLine) (kin : K.In s.heap) (I : PySem.W.InstAt s.heap x ox C od) (hb : PySem.W.Looks (model prog w) s.heap (typeOf b) tb) (hn : PySem.W.notFirst K C tb = true) (hne : PySem.W.findIn K (.ref C) "__ne__" = some (some (.builtin "object.__ne__")))
    (hm : PySem.W.mroIn K C (.type "object") = some true) (heq : PySem.W.findIn K (.ref C) "__eq__" = some (some (.ref f))) (hf : PySem.W.isFn K (.ref f) = true)
    (h : wpAny (model prog w) A.in1 (call (.ref f) [.ref x, b]) (fun v s' => ∃ c, v = .bool c ∧ Q (.bool (!c)) s') E s) : wpAny (model prog w) A (richCompare .NotEq (.ref x) b) Q E s := by
  have one : wpAny (model prog w) A (tryCompare (.ref x) "__ne__" b) (fun r s' => ∃ v, r = some v ∧ Q v s') E s :=
    tryNe_K hu kin I hne hm heq hf (wpAny_mono h (fun v s' hv => by
      obtain ⟨c, rfl, q⟩ := hv
      exact ⟨c, rfl, _, rfl, q⟩) fun _ _ e => e)
  unfold richCompare
  simp only [oneThing_ref]
  refine wpAny_holding (wpAny_bind (wpAny_cRoomFor (Nat.lt_of_succ_lt hu) ?_))
  rw [cmpInfo_NotEq]
  dsimp only
  refine wpAny_bind (I.type.here (wpAny_bind (hb.here ?_)))
  split
  · rename_i q
    have e : PySem.W.subIn K tb (.ref C) = some false := by
      rcases Bool.or_eq_true_iff.mp hn with e | e
      · rw [beq_iff_eq.mp e] at q; simp at q
      · exact beq_iff_eq.mp e
    refine wpAny_bind ((PySem.W.looks_subIn kin e).here ?_)
    simp only [Bool.false_eq_true, if_false]
    refine wpAny_bind (wpAny_mono one (fun r s' z => ?_) fun _ _ e => e)
    obtain ⟨v, rfl, hq⟩ := z
    exact wpAny_pure hq
  · refine wpAny_bind (wpAny_pure ?_)
    simp only [Bool.false_eq_true, if_false]
    refine wpAny_bind (wpAny_mono one (fun r s' z => ?_) fun _ _ e => e)
    obtain ⟨v, rfl, hq⟩ := z
    exact wpAny_pure hq
end
end Cw
namespace GQ
open PySem PySem.SeqAt
open AutoSeq1 (wpAny_loadPart')
open MeetsSeq MeetsSeq2 MeetsSeq3 SeqRoads2
section
variable {prog : Program} {w : World} {A : Around} {R : Result → Shared → Prop}
theorem contains_none (l : Addr) (items : Array Value) (x : Value) (n i : Nat) {s : Shared} (hl : s.heap.get? l = some { cls := .type "list", data := .seq items n }) (hi : items[((i : Nat) : Int).toNat]? = none) (q : R (.ok (.ret (.bool false))) s) :
    wpAny (model prog w) A.in1 (Builtin.«list.__contains__.loop» ⟨[.ref l, x, rawInt i], []⟩) (FinOf prog w A R) (fun e s' => R (.error e) s') s := by
  obtain ⟨hp, g, d, tk, os⟩ := s
  wp_walk using wpAny_loadPart' hl
  rw [hi]
  wp_walk
  exact q
/-- x in [y]: the list is read anew behind == -/
theorem contains_one (l : Addr) (items : Array Value) (y x : Value) (n i : Nat) (I : Bool → Shared → Prop) {s : Shared} (hl : s.heap.get? l = some { cls := .type "list", data := .seq items n }) (hi : items[((i : Nat) : Int).toNat]? = some y) (hi2 : items[((i + 1 : Nat) : Int).toNat]? = none)
    (hs : ∀ s', I false s' → ∃ (items : Array Value) (n : Nat), s'.heap.get? l = some { cls := .type "list", data := .seq items n } ∧ items[((i + 1 : Nat) : Int).toNat]? = none)
    (he : wpAny (model prog w) A.in1 (eqBool y x) I (fun e s' => R (.error e) s') s) (fin : ∀ b s', I b s' → R (.ok (.ret (.bool b))) s') :
    wpAny (model prog w) A.in1 (Builtin.«list.__contains__.loop» ⟨[.ref l, x, rawInt i], []⟩) (FinOf prog w A R) (fun e s' => R (.error e) s') s := by
  obtain ⟨hp, g, d, tk, os⟩ := s
  wp_walk using wpAny_loadPart' hl
  rw [hi]
  refine wpAny_bind (wpAny_mono he (fun r s2 h2 => ?_) fun _ _ x => x)
  cases r with
  | true =>
    have q := fin true s2 h2
    obtain ⟨hp2, g2, d2, tk2, os2⟩ := s2
    wp_walk
    exact q
  | false =>
    have q := fin false s2 h2
    obtain ⟨its, m, hl2, hn⟩ := hs s2 h2
    have k := contains_none (prog := prog) (w := w) (A := A) (R := R) l its x m (i + 1) hl2 hn q
    have hc : ((i : Int) + 1) = ((i + 1 : Nat) : Int) := by omega
    obtain ⟨hp2, g2, d2, tk2, os2⟩ := s2
    wp_walk
    rw [hc]
    refine ⟨plainId_quiet plain_contains_loop _, codeAny_builtin entry_contains_loop ?_⟩
    rw [Around.under_plainId plain_contains_loop _]
    exact k
theorem contains_head (l : Addr) (x : Value) {s : Shared} (k : wpAny (model prog w) A.in1 (Builtin.«list.__contains__.loop» ⟨[.ref l, x, rawInt 0], []⟩) (FinOf prog w A R) (fun e s' => R (.error e) s') s) :
    wpAny (model prog w) A.in1 (Builtin.«list.__contains__» ⟨[.ref l, x], []⟩) (FinOf prog w A R) (fun e s' => R (.error e) s') s := by
  obtain ⟨hp, g, d, tk, os⟩ := s
  wp_walk
  refine ⟨plainId_quiet plain_contains_loop _, codeAny_builtin entry_contains_loop ?_⟩
  rw [Around.under_plainId plain_contains_loop _]
  exact k
end
section
variable {prog : Program} {w : World} {A : Around} {E : Value → Shared → Prop} {s : Shared}
theorem in_one {l : Addr} {y x : Value} {n : Nat} {Q : Value → Shared → Prop} (I : Bool → Shared → Prop) (hl : s.heap.get? l = some { cls := .type "list", data := .seq #[y] n })
    (hs : ∀ s', I false s' → ∃ (y' : Value) (n : Nat), s'.heap.get? l = some { cls := .type "list", data := .seq #[y'] n })
    (he : wpAny (model prog w) A.in1 (eqBool y x) I E s) (fin : ∀ b s', I b s' → Q (.bool b) s') : wpAny (model prog w) A (compareOp .In x (.ref l)) Q E s := by
  show wpAny _ A (do return .bool (← contains (.ref l) x)) Q E s
  have hT : s.TypeIs (.ref l) "list" := ⟨_, hl, rfl⟩
  refine wpAny_bind (wpAny_contains_slot hT F.slot_list_contains (wpAny_mono (call_here (Q := fun v s' => ∃ b, v = .bool b ∧ Q (.bool b) s') F.slot_list_contains hT F.entry_list_contains (F.args_list_contains_2 _ _) (contains_head l x ?_)) (fun v s' hv => ?_) fun _ _ e => e))
  · refine contains_one l #[y] y x n 0 I hl rfl rfl (fun s' q => ?_) he (fun b s' q => ⟨b, rfl, fin b s' q⟩)
    obtain ⟨y', n', e⟩ := hs s' q
    exact ⟨_, _, e, rfl⟩
  · obtain ⟨b, rfl, hq⟩ := hv
    exact wpAny_truthy_bool (wpAny_pure hq)
end
end GQ
namespace Cw
open PySem PySem.Spec PyProof.Rows L2
section
variable {X : Cx} {C f : Addr} {fd : FuncData} {ps : List Str} {sp : Sp} {k : Nat}
theorem tyX_looks {pins : List (Addr × Obj)} {σ : L2.St} {H : Hp} {s : Shared} {x : V} {u t : Value} (I : Inv X pins σ H s) (rx : RelV x u) (ty : TyX X.K H x t) : PySem.W.Looks (model X.prog X.w) s.heap (typeOf u) t := by
  obtain ⟨P, Z, p, _⟩ := kit_of I rx ty
  exact Z.ty _ _ I.kIn p
/-- what the call of an own method of two leads to -/
theorem run_own2 {A : Around} {pins : List (Addr × Obj)} {σ : L2.St} {H : Hp} {s : Shared} {a : Addr} {y : V} {u : Value} {M : VK} (F : FnOk X.prog X.w X.K X.mg X.base CX0 k f fd ps sp) (hr : Room k A) (fr : A.frames = X.A.frames) (hb : Binds X.K fd ps []) (I : Inv X pins σ H s) (ry : RelV y u)
    (h : sp [.ref a, y] H M E0) : wpAny (model X.prog X.w) A (call (.ref f) [.ref a, u]) (fun v s' => ∃ z H', Inv X pins σ H' s' ∧ RelV z v ∧ M z H') X.xe s := by
  have e0 : Env0 X.prog X.w X.K X.mg X.base A X.stack s H := by
    have e := I.env0
    exact ⟨by rw [fr]; exact e.frames, e.mod, e.bs, e.bsz, e.funs, e.frf, e.hok, e.bare⟩
  have hl := F.len _ _ _ _ h
  have r2 : Vals [V.ref a, y] [Value.ref a, u] := .cons rfl (.cons ry .nil)
  refine wpAny_call (codeAny_mono (F.run A X.stack s H ⟨[.ref a, u], []⟩ [.ref a, u] [.ref a, y] _ E0 hr e0 (by
    have := hb s [.ref a, u] I.kIn (by simpa using hl)
    simpa using this) r2 h) fun r s' hq => ?_)
  cases r with
  | error e => exact pass0 pins σ H s e s' I hq
  | ok fl =>
    cases fl with
    | ret w =>
      obtain ⟨z, H', I', rz, q⟩ := I.after hq
      exact ⟨z, H', I', rz, q⟩
    | next => exact False.elim hq
    | brk => exact False.elim hq
    | cont => exact False.elim hq
/-- the left one an instance of the class, the right one anything that is no instance of a class below it -/
def rOwn (K : PySem.W.Frag) (C : Addr) (sp : Sp) (g : Bool → Bool) : R2 := fun x y H Q => ∃ a dx fs t, x = .ref a ∧ H a = some (.ins C dx fs) ∧ TyX K H y t ∧ PySem.W.notFirst K C t = true ∧ sp [.ref a, y] H (fun v H' => ∃ c, v = .bl c ∧ Q (.bl (g c)) H') E0
theorem rc_own {A : Around} {pins : List (Addr × Obj)} {σ : L2.St} {H : Hp} {s : Shared} {a dx : Addr} {fs : List (Str × V)} {y : V} {u t : Value} {M : Bool → Hp → Prop} (F : FnOk X.prog X.w X.K X.mg X.base CX0 k f fd ps sp) (hr : Room k A) (fr : A.frames = X.A.frames) (m : Meth X.K C "__eq__" f) (hb : Binds X.K fd ps []) (I : Inv X pins σ H s) (ry : RelV y u)
    (ha : H a = some (.ins C dx fs)) (ty : TyX X.K H y t) (nf : PySem.W.notFirst X.K C t = true) (h : sp [.ref a, y] H (fun v H' => ∃ c, v = .bl c ∧ M c H') E0) :
    wpAny (model X.prog X.w) A (richCompare .Eq (.ref a) u) (fun v s' => ∃ c H', v = .bool c ∧ Inv X pins σ H' s' ∧ M c H') X.xe s := by
  obtain ⟨mA, J, _⟩ := ins_get I.hok ha
  obtain ⟨od, J, _⟩ := J.look
  obtain ⟨mm, hF⟩ := I.fr
  refine PySem.W.cmp_K (op := .Eq) hr.units0 hF I.ok.mod.kin J (tyX_looks I ry ty) nf m.at_ m.fn (wpAny_mono (run_own2 F hr fr hb I ry h) (fun v s' hv => ?_) fun _ _ e => e)
  obtain ⟨z, H', I', rz, c, rfl, q⟩ := hv
  cases rz
  exact ⟨c, H', rfl, I', q⟩
theorem op_eqO (F : FnOk X.prog X.w X.K X.mg X.base CX0 k f fd ps sp) (hr : Room k X.A) (m : Meth X.K C "__eq__" f) (hb : Binds X.K fd ps []) : OpR X (compareOp .Eq) (rOwn X.K C sp id) := by
  intro pins s σ H x y v u Q I rx ry h
  obtain ⟨a, dx, fs, t, rfl, ha, ty, nf, h⟩ := h
  cases rx
  show wpAny (model X.prog X.w) X.A (richCompare .Eq (.ref a) u) (EP X pins σ Q) X.xe s
  refine wpAny_mono (rc_own (M := fun c H' => Q (.bl c) H') F hr rfl m hb I ry ha ty nf h) (fun r s' z => ?_) fun _ _ e => e
  obtain ⟨c, H', rfl, I', q⟩ := z
  exact ⟨.bl c, H', I', rfl, q⟩
theorem op_neO (F : FnOk X.prog X.w X.K X.mg X.base CX0 k f fd ps sp) (hr : Room (k + 1) X.A) (m : Meth X.K C "__eq__" f) (hb : Binds X.K fd ps []) (hne : PySem.W.findIn X.K (.ref C) "__ne__" = some (some (.builtin "object.__ne__")))
    (hm : PySem.W.mroIn X.K C (.type "object") = some true) : OpR X (compareOp .NotEq) (rOwn X.K C sp not) := by
  intro pins s σ H x y v u Q I rx ry h
  obtain ⟨a, dx, fs, t, rfl, ha, ty, nf, h⟩ := h
  cases rx
  show wpAny (model X.prog X.w) X.A (richCompare .NotEq (.ref a) u) (EP X pins σ Q) X.xe s
  obtain ⟨mA, J, _⟩ := ins_get I.hok ha
  obtain ⟨od, J, _⟩ := J.look
  refine cmpNe_K (by have := hr.un; omega) I.kIn J (tyX_looks I ry ty) nf hne hm m.at_ m.fn (wpAny_mono (run_own2 F hr.in1 rfl hb I ry h) (fun v s' hv => ?_) fun _ _ e => e)
  obtain ⟨z, H', I', rz, c, rfl, q⟩ := hv
  cases rz
  exact ⟨c, rfl, .bl (!c), H', I', rfl, q⟩
/-- x in [y], both instances of the class -/
def rInO (K : PySem.W.Frag) (C : Addr) (sp : Sp) : R2 := fun x y H Q => ∃ a b l dy gs t, x = .ref a ∧ y = .ref l ∧ H l = some (.lst [.ref b]) ∧ H b = some (.ins C dy gs) ∧ TyX K H (.ref a) t ∧ PySem.W.notFirst K C t = true ∧
  (a = b → Q (.bl true) H) ∧ (a ≠ b → sp [.ref b, .ref a] H (fun v H' => ∃ c, v = .bl c ∧ (H' l = some (.lst [.ref b]) ∧ Q (.bl c) H')) E0)
theorem op_inO (F : FnOk X.prog X.w X.K X.mg X.base CX0 k f fd ps sp) (hr : Room (k + 1) X.A) (m : Meth X.K C "__eq__" f) (hb : Binds X.K fd ps []) : OpR X (compareOp .In) (rInO X.K C sp) := by
  intro pins s σ H x y v u Q I rx ry h
  obtain ⟨a, b, l, dy, gs, t, rfl, rfl, hl, hbb, ty, nf, same, h⟩ := h
  cases rx
  cases ry
  have one : ∀ {H : Hp} {s : Shared}, Inv X pins σ H s → H l = some (.lst [.ref b]) → ∃ n, s.heap.get? l = some { cls := .type "list", data := .seq #[.ref b] n } := fun {H s} I e => by
    obtain ⟨_, its, n, rv, ho⟩ := (show ObjOk X.prog X.w H s.heap l (.lst [.ref b]) from I.hok l _ e)
    cases rv with
    | cons r1 r2 =>
      cases r2
      cases r1
      exact ⟨n, ho⟩
  obtain ⟨n, ho⟩ := one I hl
  by_cases hab : b = a
  · subst hab
    refine GQ.in_one (fun r s' => r = true ∧ s' = s) ho (fun s' z => by cases z.1) (SeqAt.EqAt.same (A := X.A.in1) (s := s) (.ref b) X.prog X.w X.xe _ ⟨rfl, rfl⟩) (fun r s' z => ?_)
    obtain ⟨rfl, rfl⟩ := z
    exact ⟨.bl true, H, I, rfl, same rfl⟩
  · refine GQ.in_one (fun r s' => ∃ H', Inv X pins σ H' s' ∧ H' l = some (.lst [.ref b]) ∧ Q (.bl r) H') ho (fun s' z => ?_) (GQ.eqBool_refG hab (wpAny_mono (rc_own (A := X.A.in1) (y := .ref a) (M := fun c H' => H' l = some (.lst [.ref b]) ∧ Q (.bl c) H') F hr.in1 rfl m hb I rfl hbb ty nf (h fun e => hab e.symm)) (fun r s' z => ?_) fun _ _ e => e)) (fun r s' z => ?_)
    · obtain ⟨H', I', e, _⟩ := z
      obtain ⟨n', ho'⟩ := one I' e
      exact ⟨_, n', ho'⟩
    · obtain ⟨c, H', rfl, I', e, q⟩ := z
      exact ⟨c, rfl, H', I', e, q⟩
    · obtain ⟨H', I', e, q⟩ := z
      exact ⟨.bl r, H', I', rfl, q⟩
/-- repr(o), o of a class with an own __repr__ -/
def rReprO (C : Addr) (sp : Sp) : List V → Hp → VK → Prop := fun xs H Q => ∃ a dx fs, xs = [.ref a] ∧ H a = some (.ins C dx fs) ∧ sp [.ref a] H (fun v H' => ∃ z : Str, v = .str z ∧ Q (.str z) H') E0
theorem call_reprO (F : FnG X.prog X.w X.K X.mg X.base CX0 k f fd ps sp) (hg : X.A.guards = some []) (hr : Room (k + 1) X.A) (m : Meth X.K C "__repr__" f) (hb : Binds X.K fd ps []) : CallR X (.builtin "repr") (rReprO C sp) := by
  intro pins s σ H xs us Q I r h
  obtain ⟨a, dx, fs, rfl, ha, hsp⟩ := h
  obtain ⟨u, rfl, r1⟩ := vals1 r
  cases r1
  obtain ⟨mA, J, _⟩ := ins_get I.hok ha
  obtain ⟨od, J, _⟩ := J.look
  obtain ⟨mm, hF⟩ := I.fr
  have hl := F.len _ _ _ _ hsp
  have r2 : Vals [V.ref a] [Value.ref a] := .cons rfl .nil
  refine PySem.W.repr_K hr.in1.units0 hF I.ok.mod.kin J m.at_ m.fn ?_
  refine wpAny_call (codeAny_mono (F.go X.A.in1 X.stack s H ⟨[.ref a], []⟩ [.ref a] [.ref a] _ E0 hg hr.in1 I.env0.in1 (by
    have := hb s [.ref a] I.kIn (by simpa using hl)
    simpa using this) r2 hsp) fun r s' hq => ?_)
  cases r with
  | error e => exact pass0 pins σ H s e s' I hq
  | ok fl =>
    cases fl with
    | ret w =>
      obtain ⟨z, H', I', rz, zz, ez, q⟩ := I.after hq
      subst ez
      obtain ⟨t, rfl⟩ := rz
      exact ⟨.str zz, H', I', ⟨t, rfl⟩, q⟩
    | next => exact False.elim hq
    | brk => exact False.elim hq
    | cont => exact False.elim hq
/-- {e!r}, e data -/
def tFmtX (te : TE) : TE := fun σ H Q => te σ H fun x H1 => ∃ (a : Addr) (d : PyData), x = .ref a ∧ Dx H1 (.ref a) d ∧ d.showable = true ∧ d.depth ≤ 60 ∧ d.shown.length ≤ sizeLine ∧ Q (.str d.shown) H1
theorem pe_fmtX {e : Expr} {te : TE} {pos : Pos} (hg : X.A.guards = some []) (hu : X.A.units + 64 < cLine) (hm : HasMods X.K) (he : PE X e te) : PE X (.FormattedValue e 114 none pos) (tFmtX te) := by
  refine ⟨fun pins s σ H Q I h => ?_⟩
  refine wpAny_FormattedValue_repr (thn (he.run pins s σ H _ I h) fun v s1 hv => ?_)
  obtain ⟨x, H1, I1, r1, a, d, rfl, hd, hs, hdp, hz, q⟩ := hv
  cases r1
  obtain ⟨as, rd, nm⟩ := Dx.reads I1 hm d _ _ hd rfl
  refine pyReprObj_of_reads rd hs (fun _ => nm) hg (by omega) (fun _ _ e => e) (fun h' u tk hk => ?_) hz
  exact wpAny_formatField_str ⟨.str d.shown, H1, I1.kept (t' := tk) hk, ⟨_, rfl⟩, q⟩ ⟨.str d.shown, H1, I1.kept (t' := tk + 1) hk, ⟨_, rfl⟩, q⟩ hz
end
end Cw
/-! rules by K for comprehensions; tuples known to have no dict of their own; repr of a whole number -/
namespace Cw
open PySem PySem.Spec PyProof.Rows L2
section
variable {X : Cx} {C f : Addr} {fd : FuncData} {ps : List Str} {sp : Sp} {k : Nat}
theorem op_eqOK {K : PySem.W.Frag} (hK : X.K = K) (F : FnOk X.prog X.w X.K X.mg X.base CX0 k f fd ps sp) (hr : Room k X.A) (m : Meth X.K C "__eq__" f) (hb : Binds X.K fd ps []) : OpR X (compareOp .Eq) (rOwn K C sp id) := by
  subst hK
  exact op_eqO F hr m hb
theorem op_neOK {K : PySem.W.Frag} (hK : X.K = K) (F : FnOk X.prog X.w X.K X.mg X.base CX0 k f fd ps sp) (hr : Room (k + 1) X.A) (m : Meth X.K C "__eq__" f) (hb : Binds X.K fd ps []) (hne : PySem.W.findIn X.K (.ref C) "__ne__" = some (some (.builtin "object.__ne__")))
    (hm : PySem.W.mroIn X.K C (.type "object") = some true) : OpR X (compareOp .NotEq) (rOwn K C sp not) := by
  subst hK
  exact op_neO F hr m hb hne hm
theorem call_tupleTK {K : PySem.W.Frag} (hK : X.K = K) : CallR X (.type "tuple") (fun xs H Q => ∃ a ys, xs = [.ref a] ∧ SqT K H a ys ∧ Q (.ref a) H) := by
  subst hK
  exact call_tupleT
/-- repr of a whole number -/
theorem call_reprI : CallR X (.builtin "repr") (fun xs H Q => ∃ i : Int, xs = [.int i] ∧ i.natAbs.log2 < 1920 ∧ Q (.str (toString i)) H) := by
  intro pins s σ H xs us Q I r h
  obtain ⟨i, rfl, hz, q⟩ := h
  obtain ⟨u, rfl, r1⟩ := vals1 r
  obtain ⟨t, rfl⟩ := r1
  exact PySem.P.repr_of_int hz ⟨.str (toString i), H, I.tok _, ⟨_, rfl⟩, q⟩
/-- (e, ..), known to have no dict -/
def tTupF (ta : TA) : TE := fun σ H Q => ta σ H fun xs H1 => xs.length ≤ sizeLine ∧ ∀ (p : Addr) (o : Obj), H1 p = none → o.dict = none → Q (.ref p) (upd H1 p (.frz o (.tup xs)))
theorem pe_tupF {es : List Expr} {x1 : Nat} {t : TA} {pos : Pos} (h : PA X es t) : PE X (.Tuple es x1 pos) (tTupF t) := by
  refine ⟨fun pins s σ H Q I hq => ?_⟩
  refine wpAny_Tuple_spliced (thn (h.run pos pins s σ H _ I hq) fun us s1 ⟨xs, H1, I1, r, z, q⟩ => ⟨by rw [← r.length]; exact z, ?_⟩)
  let ob : Obj := { cls := .type "tuple", data := .seq us.toArray }
  have at_ : (s1.heap.push ob).get? s1.heap.objs.size = some ob := Heap.get?_push_size _ rfl
  refine ⟨.ref s1.heap.objs.size, upd H1 s1.heap.objs.size (.frz ob (.tup xs)), I1.laid (t' := s1.toks) (fun b u e => Heap.get?_push_of_some _ e) (Nat.le_refl _) ?_, rfl, q _ ob (I1.hok.fresh (Nat.le_refl _)) rfl⟩
  exact ⟨at_, z, us, r, ⟨_, at_, rfl, _, rfl⟩⟩
/-- t[lo:hi], not the whole of it, known to have no dict -/
def rSlF (K : PySem.W.Frag) : V → Option Int → Option Int → Hp → VK → Prop := fun x lo hi H Q => ∃ a xs, x = .ref a ∧ SqT K H a xs ∧
  ¬ (HT.sIx xs.length 0 lo = 0 ∧ HT.sIx xs.length xs.length hi = xs.length) ∧ ∀ (p : Addr) (o : Obj), H p = none → o.dict = none → Q (.ref p) (upd H p (.frz o (.tup (cutV xs lo hi))))
theorem sl_tupF : SlR X (rSlF X.K) := by
  intro pins s σ H x v vl vu lo hi sl Q I rx hs pl pu h
  obtain ⟨a, xs, rfl, hx, hw, q⟩ := h
  cases rx
  obtain ⟨its, r, ht, hz⟩ := I.tuple hx
  have hlen : its.toArray.size = xs.length := by rw [List.size_toArray]; exact r.length.symm
  refine ⟨"tuple", _, PyProof.Rows.slot_tuple_getitem.lookup, ht.typeIs, ?_⟩
  refine HT.getItem_tuple_cut ht hs pl pu (by rw [hlen]; exact hw) ?_ (by rw [hlen]; exact hz)
  rw [hlen]
  let ob : Obj := { cls := .type "tuple", data := .seq ((its.toArray.toList.drop (HT.sIx xs.length 0 lo)).take (HT.sIx xs.length xs.length hi - HT.sIx xs.length 0 lo)).toArray }
  have at_ : (s.heap.push ob).get? s.heap.objs.size = some ob := Heap.get?_push_size _ rfl
  refine ⟨.ref s.heap.objs.size, upd H s.heap.objs.size (.frz ob (.tup (cutV xs lo hi))), I.laid (t' := s.toks) (fun b ob q => Heap.get?_push_of_some _ q) (Nat.le_refl _) ?_, rfl, q _ ob (I.hok.fresh (Nat.le_refl _)) rfl⟩
  exact ⟨at_, Nat.le_trans (cutV_length xs lo hi) hz, _, (r.drop (HT.sIx xs.length 0 lo)).take (HT.sIx xs.length xs.length hi - HT.sIx xs.length 0 lo), ⟨_, at_, rfl, _, rfl⟩⟩
end
end Cw
/-! set(xs), xs a list of whole numbers; sorted of it -/
namespace Cw
open PySem PySem.Spec PyProof.Rows L2
section
variable {prog : Program} {w : World} {A : Around}
def newI (w : World) : Obj := { cls := .type "set", dict := none, data := .set #[] 0 (.fresh 0 0 (!w.params.followText "set-order")) }
theorem intsAt {us : List Value} {ns : List Int} (h : IntsAre us ns) {i : Nat} {v : Value} (e : us[i]? = some v) : ∃ k t, ns[i]? = some k ∧ v = .int k t := by
  obtain ⟨t, q⟩ := IntsAre.int_at h i v e
  have l := IntsAre.length h
  have hi : i < ns.length := by
    have := (List.getElem?_eq_some_iff.mp e).1
    omega
  refine ⟨ns[i], t, List.getElem?_eq_getElem hi, ?_⟩
  rw [q, List.getD_eq_getElem?_getD, List.getElem?_eq_getElem hi]
  rfl
/-- set.__init__ of a new set with a list of whole numbers -/
theorem initI {s : Shared} {E : Value → Shared → Prop} {l S : Addr} {items : Array Value} {ns : List Int} {R : PySem.Fin → Shared → Prop} (hh : A.handled = none) (hl : s.heap.IsList l items) (hi : IntsAre items.toList ns) (hn : ns.length ≤ 1000)
    (hS : s.heap.get? S = some (newI w)) (ne : l ≠ S)
    (h : ∀ (h' : Heap) (tk c : Nat), SetR w h' S (fun j => decide (j ∈ ns)) c → c ≤ ns.length → (∀ b o, b ≠ S → s.heap.get? b = some o → h'.get? b = some o) → R (.done (.ret .none)) { s with heap := h', toks := tk }) :
    wpAny (model prog w) A (Builtin.«set.__init__» ⟨[.ref S, .ref l], []⟩) R E s := by
  have h1 := hl
  obtain ⟨⟨c, d, da, sl⟩, ho, hc, nl, hd⟩ := hl
  simp only at hc hd
  subst hc
  subst hd
  have hT : s.TypeIs (.ref S) "set" := ⟨_, hS, rfl⟩
  have k1 := PySem.F.sub_list_set
  have k2 := PySem.F.sub_list_frozenset
  have k3 : (Value.type "list" == Value.type "dict") = false := by decide
  unfold Builtin.«set.__init__» noKeywords Builtin.Frozenset.updateFrom newI at *
  generalize hPI : pyIter = PI
  wp_walk
  subst hPI
  refine wpAny_pyIter_list h1 (wpAny_bind (wpAny_runValue ?_))
  have lS : S < s.heap.objs.size := Heap.lt_size hS
  have ll : l < s.heap.objs.size := Heap.lt_size ho
  have sz : items.size = ns.length := by rw [← Array.length_toList, IntsAre.length hi]
  refine set_update_ints ((Walks.list (by simp [hh]) _ l (Nat.ne_of_lt ll) items).toS) S ?_ ns sz (by unfold scanBound; omega) (fun i v hv => intsAt hi (by rw [Array.getElem?_toList]; exact hv)) (items.size - 0) 0 _ (by omega) (Nat.zero_le _)
    ⟨⟨_, Heap.get?_push_size _ rfl, rfl, rfl⟩, h1.push _⟩ ?_ ?_
  · simp only [List.mem_cons, List.mem_singleton, List.not_mem_nil, or_false, not_or]
    exact ⟨Nat.ne_of_lt lS, fun e => ne e.symm⟩
  · have g := Heap.get?_push_of_some (h := s.heap) { cls := .type "list_iterator", data := .fields #[.ref l, .int 0 0] } hS
    exact ⟨0, Nat.le_refl 0, setR_new_at g⟩
  · rintro ⟨h2, g2, d2, t2, o2⟩ c mv hc sO
    obtain rfl : g2 = s.gens := mv.gens
    obtain rfl : d2 = s.drawn := mv.drawn
    obtain rfl : o2 = s.os := mv.os
    refine wpAny_pure (wpAny_pure (h h2 t2 c sO (by omega) fun b o nb e => ?_))
    refine mv.heap b o ?_ (Heap.get?_push_of_some _ e)
    simp only [List.mem_cons, List.mem_singleton, List.not_mem_nil, or_false, not_or]
    exact ⟨nb, Nat.ne_of_lt (Heap.lt_size e)⟩
set_option maxHeartbeats 3200000 in
theorem setOfI {s : Shared} {E : Value → Shared → Prop} {l : Addr} {items : Array Value} {ns : List Int} {Q : Value → Shared → Prop} (hh : A.handled = none) (hl : s.heap.IsList l items) (hi : IntsAre items.toList ns) (hn : ns.length ≤ 1000)
    (h : ∀ (h' : Heap) (tk c : Nat), SetR w h' s.heap.objs.size (fun j => decide (j ∈ ns)) c → c ≤ ns.length → (∀ b o, s.heap.get? b = some o → h'.get? b = some o) → Q (.ref s.heap.objs.size) { s with heap := h', toks := tk }) :
    wpAny (model prog w) A (call (.type "set") [.ref l]) Q E s := by
  obtain ⟨c, tl, m1⟩ := PySem.F.called_set.mro
  have m2 := PySem.F.called_set.made
  have m3 := PySem.F.called_set.sub
  have m4 := PySem.F.called_set.notType
  have m5 := PySem.F.called_set.canCreate
  have m6 := PySem.F.typeCall_set_1 (.ref l)
  refine wpAny_call (codeAny_of_tree ?_)
  refine wpAny_pure ⟨Code.quiet_builtin _ (by decide +kernel), codeAny_builtin PySem.F.entry_type_call ?_⟩
  rw [Around.under_plain (weight_type_call_type "set" [.ref l] []) rfl]
  repeat (any_goals (first | assumption | wp_step))
  refine codeAny_mono (code_set_led1 (.ref l) (E := E) (Q₁ := fun v s1 => v = .ref s.heap.objs.size ∧ s1 = { s with heap := s.heap.push (newI w) }) ⟨rfl, rfl⟩) fun r s1 hr => ?_
  cases r with
  | error e => exact hr
  | ok f =>
    cases f with
    | ret v =>
      obtain ⟨rfl, rfl⟩ := hr
      have g : (s.heap.push (newI w)).get? s.heap.objs.size = some (newI w) := Heap.get?_push_size _ rfl
      have ty : Shared.TypeIs { s with heap := s.heap.push (newI w) } (.ref s.heap.objs.size) "set" := ⟨_, g, rfl⟩
      have i1 := PySem.F.called_set.init.lookup
      have i2 := PySem.F.called_set.init.bind (.ref s.heap.objs.size)
      have ll : l < s.heap.objs.size := by
        obtain ⟨o, ho, _⟩ := hl
        exact Heap.lt_size ho
      repeat (any_goals (first | assumption | wp_step))
      refine codeAny_mono (codeAny_call_builtin (R := wants (fun r s2 => r = .none ∧ Q (.ref s.heap.objs.size) s2) E) PySem.F.called_set.init.plain PySem.F.entry_set_init (check_set_init_1 ty ?_)) fun r2 s2 hr2 => ?_
      · refine initI (by simp [hh]) (hl.push _) hi hn g (Nat.ne_of_lt ll) fun h2 t2 c sO hc k => ⟨rfl, h h2 t2 c sO hc fun b o e => ?_⟩
        exact k b o (Nat.ne_of_lt (Heap.lt_size e)) (Heap.get?_push_of_some _ e)
      · cases r2 with
        | error e => exact hr2
        | ok f2 =>
          cases f2 with
          | ret u =>
            obtain ⟨rfl, q⟩ := hr2
            repeat (any_goals (first | assumption | wp_step))
          | _ => exact hr2.elim
    | _ => exact hr.elim
end
theorem intsOf {ns : List Int} {us : List Value} (h : Vals (ns.map V.int) us) : IntsAre us ns := by
  induction ns generalizing us with
  | nil =>
    cases h
    exact .nil
  | cons z r ih =>
    cases h with
    | cons a b =>
      obtain ⟨k, rfl⟩ := a
      exact .cons z k (ih b)
/-- set(l) -/
def rSetI (K : PySem.W.Frag) (w : World) : List V → Hp → VK → Prop := fun xs H Q => ∃ (l : Addr) (ns : List Int), xs = [.ref l] ∧ SqL K H l (ns.map V.int) ∧ ns.length ≤ 1000 ∧ ∀ (p : Addr) (c : Nat), c ≤ ns.length → H p = none → Q (.ref p) (upd H p (SetO w p (fun j => decide (j ∈ ns)) c))
theorem call_setI {X : Cx} (hc : X.calm = true) : CallR X (.type "set") (rSetI X.K X.w) := by
  intro pins s σ H xs us Q I r h
  obtain ⟨l, ns, rfl, hl, hn, q⟩ := h
  rw [Vals.ref1 r]
  obtain ⟨its, rv, pl, hz⟩ := I.list hl
  refine setOfI (I.ok.hd hc) pl.isList (by simpa using intsOf rv) hn fun h2 tk c sO hc k => ?_
  exact ⟨.ref _, upd H s.heap.objs.size (SetO X.w s.heap.objs.size (fun j => decide (j ∈ ns)) c), I.laid (t' := tk) k (Nat.le_refl _) (setO_new sO), rfl, q _ c hc (I.hok.fresh (Nat.le_refl _))⟩
end Cw
/-! own exceptions over any base: their __init__, raised, caught -/
namespace Cw
open PySem PySem.Spec PyProof.Rows L2
/-! ### own exceptions as values -/
/-- what the written part says of an own exception class, over the built-in one B -/
structure ExT (K : PySem.W.Frag) (C : Addr) (B newId initId : String) (bmB : List Value) : Prop where
  base : ExcBaseFacts B newId initId bmB
  store : StoreFacts B bmB "object.__setattr__" "object"
  isI : PySem.W.excInitIn K C bmB newId = true
  over : PySem.W.excOver K C bmB = true
  sa : PySem.W.findIn K (.ref C) "__setattr__" = some (some (.builtin "object.__setattr__"))
  ga : PySem.W.findIn K (.ref C) "__getattribute__" = some (some (.builtin "BaseException.__getattribute__"))
  gg : PySem.W.findIn K (.ref C) "__getattr__" = some none
  isB : PySem.W.subIn K (.ref C) (.type "BaseException") = some true
  hasD : PySem.W.hasDictIn K C = true
  kp : PySem.W.keepIn K (.ref C) = true
  cl : PySem.W.findIn K (.ref C) "__class__" = some (some (.builtin "object.__class__"))
  cg : PySem.W.specialIn K (.builtin "object.__class__") "__get__" = some (some (.builtin "getset_descriptor.__get__"))
  ct : PySem.W.takesIn K (.builtin "object.__class__") = some true
  cm : PySem.W.mroIn K C (.type "object") = some true
/-- the same as a Bool -/
def exB (K : PySem.W.Frag) (C : Addr) (bmB : List Value) (newId : String) : Bool :=
  PySem.W.excInitIn K C bmB newId && (PySem.W.excOver K C bmB && (decide (PySem.W.findIn K (.ref C) "__setattr__" = some (some (.builtin "object.__setattr__"))) &&
  (decide (PySem.W.findIn K (.ref C) "__getattribute__" = some (some (.builtin "BaseException.__getattribute__"))) && (decide (PySem.W.findIn K (.ref C) "__getattr__" = some none) &&
  (decide (PySem.W.subIn K (.ref C) (.type "BaseException") = some true) && (PySem.W.hasDictIn K C && (PySem.W.keepIn K (.ref C) &&
  (decide (PySem.W.findIn K (.ref C) "__class__" = some (some (.builtin "object.__class__"))) && (decide (PySem.W.specialIn K (.builtin "object.__class__") "__get__" = some (some (.builtin "getset_descriptor.__get__"))) &&
  (decide (PySem.W.takesIn K (.builtin "object.__class__") = some true) && decide (PySem.W.mroIn K C (.type "object") = some true)))))))))))
theorem exB_ok {K : PySem.W.Frag} {C : Addr} {B newId initId : String} {bmB : List Value} (F : ExcBaseFacts B newId initId bmB) (S : StoreFacts B bmB "object.__setattr__" "object") (h : exB K C bmB newId = true) : ExT K C B newId initId bmB := by
  unfold exB at h
  simp only [Bool.and_eq_true, decide_eq_true_eq] at h
  obtain ⟨h1, h2, h3, h4, h5, h6, h7, h8, h9, h10, h11, h12⟩ := h
  exact ⟨F, S, h1, h2, h3, h4, h5, h6, h7, h8, h9, h10, h11, h12⟩
section
variable {X : Cx} {pins : List (Addr × Obj)} {σ : L2.St} {H : Hp} {s : Shared} {a C dx : Addr} {f : Str} {y : V} {u : Value} {fs : List (Str × V)} {B newId initId : String} {bmB : List Value}
open Builtin Builtin.ObjectAttr in
/-- object.__setattr__ of an exception that has no dict yet -/
theorem xsa_new {prog : Program} {w : World} {A : Around} {R : Result → Shared → Prop} {hp : Heap} {g : Array GenState} {d : Drawn} {t : Nat} {os : OsState} {K : PySem.W.Frag} {name : Str} {tk : Tok} {v : Value} {x : Addr} {fv : Array Value}
    (T : ExT K C B newId initId bmB) (kin : K.In hp) (hx : hp.get? x = some { cls := .ref C, data := .fields fv }) (ht : PySem.W.takerIn K C name = some none)
    (hq : ∀ h' tk' dx, (∀ b o, b ≠ x → hp.get? b = some o → h'.get? b = some o) → hp.objs.size ≤ dx → dx ≠ x → h'.get? x = some { cls := .ref C, dict := some dx, data := .fields fv } →
      h'.Ns1 dx (fun y => if y = name then some v else none) → R (.ok (.ret .none)) ⟨h', g, d, tk', os⟩) :
    codeAny (model prog w) A (.call (.builtin "object.__setattr__") ⟨[.ref x, .str name tk, v], []⟩) R ⟨hp, g, d, t, os⟩ := by
  have I : PySem.W.InstAt hp x { cls := .ref C, data := .fields fv } C none := ⟨hx, rfl, rfl, trivial⟩
  refine PySem.W.osa_openX T.store kin I T.over ht fun b => ?_
  have hxs : x ≠ hp.objs.size := Nat.ne_of_lt (Heap.lt_size hx)
  obtain ⟨cd, hcd, hh⟩ := PySem.W.any_some T.hasD
  have hcls : PySem.W.Looks (model prog w) hp (classData C) cd := PySem.W.looks_clsIn kin hcd
  obtain ⟨nm, bs, mro, ns, qn, hd, sn, sb, ab, col, del⟩ := cd
  dsimp only at hh
  subst hh
  unfold storeInOwnDict ownDictForStores
  repeat (first | with_reducible refine PySem.HandSPX.store_in_new ?_ ?_ | with_reducible refine wpAny_loadPart_at hx ?_ | with_reducible refine hcls.at ?_ | wp_step)
  · refine ⟨_, #[], _, (Heap.get?_update_ne _ _ _ _ hxs.symm).trans (Heap.get?_push_at rfl rfl), rfl, ?_, fun _ => rfl⟩
    intro e he
    exact absurd he (by simp)
  · intro h' tk' named same
    have here : (hp.push { cls := .type "dict", data := .dict #[] }).get? x = _ := Heap.get?_push_of_some _ hx
    refine hq h' tk' hp.objs.size ?_ (Nat.le_refl _) hxs.symm ?_ named
    · intro b o hb ho
      refine (same.2 b (Nat.ne_of_lt (Heap.lt_size ho))).trans ?_
      rw [Heap.get?_update_ne _ _ _ _ hb]
      exact Heap.get?_push_of_some _ ho
    · exact (same.2 x hxs).trans (Heap.get?_update_self _ here rfl)
open Builtin Builtin.ObjectAttr in
/-- .. of one that has its dict -/
theorem xsa_old {prog : Program} {w : World} {A : Around} {R : Result → Shared → Prop} {hp : Heap} {g : Array GenState} {d : Drawn} {t : Nat} {os : OsState} {K : PySem.W.Frag} {name : Str} {tk : Tok} {v : Value} {x : Addr} {fv : Array Value} {m0 : Str → Option Value} {nl : List Str}
    (T : ExT K C B newId initId bmB) (kin : K.In hp) (hx : hp.get? x = some { cls := .ref C, dict := some dx, data := .fields fv }) (named : hp.Ns1 dx m0) (wi : Within m0 nl) (hz : nl.length ≤ 1000) (ht : PySem.W.takerIn K C name = some none)
    (hq : ∀ h' tk', (∀ b o, b ≠ dx → hp.get? b = some o → h'.get? b = some o) → h'.Ns1 dx (fun y => if y = name then some v else m0 y) → R (.ok (.ret .none)) ⟨h', g, d, tk', os⟩) :
    codeAny (model prog w) A (.call (.builtin "object.__setattr__") ⟨[.ref x, .str name tk, v], []⟩) R ⟨hp, g, d, t, os⟩ := by
  obtain ⟨oD, _, _, hoD, _, _⟩ := named.count wi
  have I : PySem.W.InstAt hp x { cls := .ref C, dict := some dx, data := .fields fv } C (some oD) := ⟨hx, rfl, rfl, hoD⟩
  refine PySem.W.osa_openX T.store kin I T.over ht fun b => ?_
  obtain ⟨cd, hcd, hh⟩ := PySem.W.any_some T.hasD
  have hcls : PySem.W.Looks (model prog w) hp (classData C) cd := PySem.W.looks_clsIn kin hcd
  obtain ⟨nm, bs, mro, ns, qn, hd, sn, sb, ab, col, del⟩ := cd
  dsimp only at hh
  subst hh
  unfold storeInOwnDict ownDictForStores
  repeat (first | with_reducible refine PySem.OEX.store_in_old named wi hz ?_ | with_reducible refine wpAny_loadPart_at hx ?_ | with_reducible refine hcls.at ?_ | wp_step)
  intro h' tk' n' same
  exact hq h' tk' (fun b o hb ho => (same.2 b hb).trans ho) n'
/-- self.f = y, the first field -/
theorem xset_new {A : Around} {Q : Unit → Shared → Prop} {E : Value → Shared → Prop} (T : ExT X.K C B newId initId bmB) (I : Inv X pins σ H s) (e : H a = some (exo a C none)) (ht : PySem.W.takerIn X.K C f = some none) (ry : RelV y u)
    (h : ∀ dx s', H dx = none → dx ≠ a → Inv X pins σ (upd (upd H dx (exd dx [(f, y)])) a (exo a C (some dx))) s' → Q () s') : wpAny (model X.prog X.w) A (setAttr (.ref a) f u) Q E s := by
  obtain ⟨t1, ho⟩ := exo_at I.hok e
  obtain ⟨hp, g, d, t, os⟩ := s
  refine PySem.W.set_plain I.kIn (ox := { cls := .ref C, dict := none, data := .fields #[.ref t1, .none, .none, .none, .bool false, .none] }) (od := none) ⟨ho, rfl, rfl, trivial⟩ T.sa ?_
  refine xsa_new T I.kIn ho ht fun h' tk' dx k dn dne hx hn => ?_
  have nod : H dx = none := I.hok.fresh dn
  have nd : ∀ {b : Addr} {o : Obj}, hp.get? b = some o → b ≠ dx := fun q => Nat.ne_of_lt (Nat.lt_of_lt_of_le (Heap.lt_size q) dn)
  have na : ∀ {b : Addr}, H b = none → b ≠ a := fun n z => by
    rw [z, e] at n
    cases n
  have U : Un X.fs [] H (upd (upd H dx (exd dx [(f, y)])) a (exo a C (some dx))) hp h' := by
    constructor
    · exact fun b o q n _ _ => k b o (na n) q
    · exact fun b o q n _ _ => ⟨o.slots, k b o (na n) q⟩
    · intro b o q n _
      rw [upd_ne (na n), upd_ne (nd q)]
      exact n
    · intro b o q _
      by_cases hb : b = a
      · exact ⟨_, by rw [hb]; exact hx⟩
      · exact ⟨o, k b o hb q⟩
    · intro b xs q
      rw [upd_ne (at_ne e q exo_tup), upd_ne (ne_of_none q nod)]
      exact q
    · intro b o v q
      rw [upd_ne (at_ne e q exo_frz), upd_ne (ne_of_none q nod)]
      exact q
    · intro b ps q
      refine ⟨#[], ?_⟩
      rw [upd_ne (at_ne e q exo_tbl), upd_ne (ne_of_none q nod), q]
      simp
  refine h dx _ nod dne (I.un (t' := tk') U fun b o q => ?_)
  by_cases hb : b = a
  · subst hb
    rw [upd_same] at q
    cases q
    exact exo_ok hx
  · rw [upd_ne hb] at q
    by_cases hd : b = dx
    · subst hd
      rw [upd_same] at q
      cases q
      exact exd_ok hn (relO_put (fs := []) ry fun g => True.intro)
    · rw [upd_ne hd] at q
      refine (I.hok b o q).stay (fun c v hc z => k c v ?_ z) (fun c hc => ?_) (fun c xs hc => ?_)
      · rcases hc with hc | hc
        · rw [hc]
          exact hb
        · exact at_ne e hc exo_own
      · rw [upd_ne (at_ne e hc exo_own), upd_ne (ne_of_none hc nod)]
        exact hc
      · rw [upd_ne (at_ne e hc exo_tup), upd_ne (ne_of_none hc nod)]
        exact hc
/-- self.f = y, a further field -/
theorem xset_old {A : Around} {Q : Unit → Shared → Prop} {E : Value → Shared → Prop} (T : ExT X.K C B newId initId bmB) (I : Inv X pins σ H s) (e : H a = some (exo a C (some dx))) (ed : H dx = some (exd dx fs)) (hl : fs.length ≤ 900) (ht : PySem.W.takerIn X.K C f = some none) (ry : RelV y u)
    (h : ∀ s', Inv X pins σ (upd H dx (exd dx ((f, y) :: fs))) s' → Q () s') : wpAny (model X.prog X.w) A (setAttr (.ref a) f u) Q E s := by
  obtain ⟨t1, ho⟩ := exo_at I.hok e
  obtain ⟨mA, hns, rel⟩ := exd_at I.hok ed
  have wi := within_of rel
  obtain ⟨hp, g, d, t, os⟩ := s
  obtain ⟨oD, _, _, hoD, _, _⟩ := hns.count wi
  refine PySem.W.set_plain I.kIn (ox := { cls := .ref C, dict := some dx, data := .fields #[.ref t1, .none, .none, .none, .bool false, .none] }) (od := some oD) ⟨ho, rfl, rfl, hoD⟩ T.sa ?_
  refine xsa_old T I.kIn ho hns wi (by rw [List.length_map]; omega) ht fun h' tk' k hn => ?_
  have there : ∃ o, h'.get? dx = some o := by
    obtain ⟨o, _, _, e', _⟩ := hn
    exact ⟨o, e'⟩
  have ok : ObjOk X.prog X.w (upd H dx (exd dx ((f, y) :: fs))) h' dx (exd dx ((f, y) :: fs)) := exd_ok hn (relO_put ry rel)
  exact h _ (I.write (t' := tk') (x := dx) (e := dx) (by rw [ed]; exact True.intro) (.inl rfl) k there ok)
end
/-! ### rules -/
/-- self.f = e of an exception that is being made -/
def tXst (K : PySem.W.Frag) (f : Str) (to te : TE) : TS := fun D σ H => te σ H fun y H1 => to σ H1 fun x H2 => ∃ (a C : Addr) (B newId initId : String) (bmB : List Value), x = .ref a ∧ ExT K C B newId initId bmB ∧ PySem.W.takerIn K C f = some none ∧
  ((H2 a = some (exo a C none) ∧ ∀ dx, H2 dx = none → dx ≠ a → D.nx σ (upd (upd H2 dx (exd dx [(f, y)])) a (exo a C (some dx)))) ∨
    ∃ (dx : Addr) (fs : List (Str × V)), H2 a = some (exo a C (some dx)) ∧ H2 dx = some (exd dx fs) ∧ fs.length ≤ 900 ∧ D.nx σ (upd H2 dx (exd dx ((f, y) :: fs))))
section
variable {X : Cx} {o e : Expr} {es : List Expr} {to te : TE} {ta : TA} {f : Str} {p p' pos : Pos}
theorem ps_xst (ho : PE X o to) (he : PE X e te) (hs : swapsWith e (some (.Attribute o f p')) pos.line X.env = pure false := by rfl) : PS X (.Assign [.Attribute o f p'] e pos) (tXst X.K f to te) := by
  constructor
  intro pins s σ H D I h
  refine plainObj_wpAny_Assign_Attribute (thn (he.run pins s σ H _ I h) fun v s1 z => ?_) hs
  obtain ⟨y, H1, I1, r1, q1⟩ := z
  refine thn (ho.run pins s1 σ H1 _ I1 q1) fun u s2 z => ?_
  obtain ⟨x, H2, I2, r2, a, C, B, nI, iI, bm, ex, T, ht, q⟩ := z
  subst ex
  have eu : u = Value.ref a := r2
  subst eu
  rcases q with ⟨ea, q⟩ | ⟨dx, fs, ea, ed, hl, q⟩
  · exact xset_new T I2 ea ht r1 fun dx s' n ne J => ⟨σ, _, J, q dx n ne⟩
  · exact xset_old T I2 ea ed hl ht r1 fun s' J => ⟨σ, _, J, q⟩
end
/-- __init__ with one field -/
def spI1 (C : Addr) (f : Str) : Sp := fun vs H Q _ => ∃ (a : Addr) (v : V), vs = [.ref a, v] ∧ H a = some (exo a C none) ∧ ∀ dx, H dx = none → dx ≠ a → Q .non (upd (upd H dx (exd dx [(f, v)])) a (exo a C (some dx)))
/-- __init__ with two fields -/
def spI2 (C : Addr) (f g : Str) : Sp := fun vs H Q _ => ∃ (a : Addr) (v u : V), vs = [.ref a, v, u] ∧ H a = some (exo a C none) ∧
  ∀ dx, H dx = none → dx ≠ a → Q .non (upd (upd (upd H dx (exd dx [(f, v)])) a (exo a C (some dx))) dx (exd dx [(g, u), (f, v)]))
section
variable {P : Program} {w : World} {K : PySem.W.Frag} {mg : Str → Option Value} {base : Heap} {B newId initId : String} {bmB : List Value} {C fI : Addr} {fd : FuncData}
theorem ok_init1 {f q : Str} {ar : Arguments} {sc : Scope} {q1 q2 q3 q4 : Pos} (F : FunD K "__init__" q ar [.Assign [.Attribute (.Name "self" q1) f q2] (.Name f q3) q4] sc [] [] fI fd) (S : FnScope ["self", f] ["self", f] sc)
    (T : ExT K C B newId initId bmB) (ht : PySem.W.takerIn K C f = some none) (f1 : (f == ("__debug__" : Str)) = false) (f2 : (f == ("__classdict__" : Str)) = false) : FnOk P w K mg base CX0 1 fI fd ["self", f] (spI1 C f) := by
  refine F.ok S (fun vs H Q E h => ?_) (fun cdv A outer s H vs Q E hr h => ⟨_, PSs.nox (pss_one (ps_xst (pe_var (i := 0) rfl ?_) (pe_var (i := 1) rfl ?_ f1 f2))), ?_⟩)
  · obtain ⟨a, v, rfl, _⟩ := h
    rfl
  · rcases S.par "self" (by simp) with z | z
    · exact .inl z
    · exact .inr (.inl z)
  · rcases S.par f (by simp) with z | z
    · exact .inl z
    · exact .inr (.inl z)
  · obtain ⟨a, v, rfl, ha, q⟩ := h
    exact ⟨_, rfl, _, rfl, a, C, B, newId, initId, bmB, rfl, T, ht, .inl ⟨ha, q⟩⟩
theorem ok_init2 {f g q : Str} {ar : Arguments} {sc : Scope} {q1 q2 q3 q4 q5 q6 q7 q8 : Pos}
    (F : FunD K "__init__" q ar [.Assign [.Attribute (.Name "self" q1) f q2] (.Name f q3) q4, .Assign [.Attribute (.Name "self" q5) g q6] (.Name g q7) q8] sc [] [] fI fd) (S : FnScope ["self", f, g] ["self", f, g] sc)
    (T : ExT K C B newId initId bmB) (ht : PySem.W.takerIn K C f = some none) (hu : PySem.W.takerIn K C g = some none)
    (f1 : (f == ("__debug__" : Str)) = false) (f2 : (f == ("__classdict__" : Str)) = false) (g1 : (g == ("__debug__" : Str)) = false) (g2 : (g == ("__classdict__" : Str)) = false) : FnOk P w K mg base CX0 1 fI fd ["self", f, g] (spI2 C f g) := by
  have vis : ∀ x ∈ (["self", f, g] : List Str), Vis sc x := fun x hx => by
    rcases S.par x hx with z | z
    · exact .inl z
    · exact .inr (.inl z)
  refine F.ok S (fun vs H Q E h => ?_) (fun cdv A outer s H vs Q E hr h => ⟨_, PSs.nox (pss_cons (ps_xst (pe_var (i := 0) rfl (vis _ (by simp))) (pe_var (i := 1) rfl (vis _ (by simp)) f1 f2))
    (pss_one (ps_xst (pe_var (i := 0) rfl (vis _ (by simp))) (pe_var (i := 2) rfl (vis _ (by simp)) g1 g2)))), ?_⟩)
  · obtain ⟨a, v, u, rfl, _⟩ := h
    rfl
  · obtain ⟨a, v, u, rfl, ha, q⟩ := h
    refine ⟨_, rfl, _, rfl, a, C, B, newId, initId, bmB, rfl, T, ht, .inl ⟨ha, fun dx nd nda => ?_⟩⟩
    have e2 : (upd (upd H dx (exd dx [(f, v)])) a (exo a C (some dx))) dx = some (exd dx [(f, v)]) := by rw [upd_ne nda, upd_same]
    exact ⟨_, rfl, _, rfl, a, C, B, newId, initId, bmB, rfl, T, hu, .inr ⟨dx, [(f, v)], upd_same, e2, by show 1 ≤ 900; decide, q dx nd nda⟩⟩
end

section
variable {X : Cx} {e : Expr} {es : List Expr} {ta : TA} {p pos : Pos}
/-- C(e, ..), raised: an own class over any base, by its own __init__ -/
theorem pmk_x {CX : CXT} {x : Str} {C fI : Addr} {k : Nat} {fd : FuncData} {ps : List Str} {sp : Sp} {B newId initId : String} {bmB : List Value} (T : ExT X.K C B newId initId bmB) (tyC : PySem.W.typeIn X.K (.ref C) = some (.type "type"))
    (iC : PySem.W.findIn X.K (.ref C) "__init__" = some (some (.ref fI))) (tI : PySem.W.typeIn X.K (.ref fI) = some (.type "function")) (F1 : FnOk X.prog X.w X.K X.mg X.base CX k fI fd ps sp) (hr : Room (k + 1) X.A) (hb : Binds X.K fd ps [])
    (hx : Passes CX X (fun _ _ _ => False)) (hg : Gl X x) (hm : X.mg x = some (.ref C)) (ha : PA X (e :: es) ta)
    (hdb : (x == ("__debug__" : Str)) = false := by decide) (he : starEach (e :: es) X.env = (false, eval e X.env) :: starEach es X.env := by rfl) (hpl : (backTo pos (starEach es X.env)).any (·.1) = false := by rfl) :
    PMk X (.Call (.Name x p) (e :: es) [] pos) (tMkO C sp [] ta) := by
  intro pins s σ H Q I h
  refine wpAny_Call_Name_kw (ld_glob I hg hm ?_ hdb)
  refine PySem.W.callWith_K (h₀ := X.base) I.ok.mod.kin T.kp (thn (ha.run pos pins s σ H _ I h) fun us s1 z => ?_) he hpl
  obtain ⟨vs, H1, I1, r1, hz, q1⟩ := z
  refine ⟨I1.kIn, ?_⟩
  obtain ⟨nm, N', qn, bs, bm, hdct, sn, sub, ab, col, dd, k0, k1, k2, k3, k5, hC, hT⟩ := PySem.W.excInit_of I1.kIn T.isI
  obtain ⟨hp, g, dr, tk, os⟩ := s1
  have hsz : hp.objs.size ≤ hp.objs.size + 1 := Nat.le_succ _
  have hq := q1 (hp.objs.size + 1) (I1.hok.fresh hsz)
  rw [List.append_nil] at hq
  have kk : ∀ b o, hp.get? b = some o → ((hp.push (PySem.W.kdv_tup us)).push (PySem.HandSPX.excO C hp.objs.size)).get? b = some o := fun b o e => Heap.get?_push_of_some _ (Heap.get?_push_of_some _ e)
  have hget : ((hp.push (PySem.W.kdv_tup us)).push (PySem.HandSPX.excO C hp.objs.size)).get? (hp.objs.size + 1) = some (PySem.HandSPX.excO C hp.objs.size) := by heap_get
  have I2 : Inv X pins σ (upd H1 (hp.objs.size + 1) (exo (hp.objs.size + 1) C none)) ⟨(hp.push (PySem.W.kdv_tup us)).push (PySem.HandSPX.excO C hp.objs.size), g, dr, tk, os⟩ := I1.laid (t' := tk) kk hsz (exo_ok hget)
  have r2 : Vals (V.ref (hp.objs.size + 1) :: vs) (Value.ref (hp.objs.size + 1) :: us) := .cons rfl r1
  have many : (Value.ref (hp.objs.size + 1) :: us ++ []).length = ps.length := by
    rw [List.append_nil, ← r2.length]
    exact F1.len _ _ _ _ hq
  have hus : us.length ≤ sizeLine := by
    rw [← Paired.length r1, sizeLine_eq]
    omega
  have bnd := hb _ (Value.ref (hp.objs.size + 1) :: us) I2.kIn many
  rw [List.append_nil] at bnd
  have go := F1.run _ X.stack _ _ ⟨Value.ref (hp.objs.size + 1) :: us, []⟩ (Value.ref (hp.objs.size + 1) :: us) _ _ (fun _ _ _ => False) (hr.make C us []) (I2.env0.make C us []) bnd r2 hq
  refine wpAny_call (PySem.HandSPX.call_own T.base hT hC (PySem.W.looks_findIn I1.kIn iC) (fun self => PySem.W.bind_fn I1.kIn self tI) hus (codeAny_mono go fun res s' hq' => ?_))
  match res, hq' with
  | .error er, hq' => exact hx pins σ _ _ er s' I2 hq'
  | .ok .next, hq' => exact hq'.elim
  | .ok .brk, hq' => exact hq'.elim
  | .ok .cont, hq' => exact hq'.elim
  | .ok (.ret u), hq' =>
    obtain ⟨v, H2, os2, bare2, un2, hok2, rv, ev, d, fs, ea, ed, hd1, q2⟩ := hq'
    subst ev
    obtain ⟨h2, g2, d2, t2, os'⟩ := s'
    exact ⟨rv, mk_end (raises_own T.isB tyC) I1 hsz kk un2 hok2 os2 bare2 ea ed hd1 q2⟩
theorem PS.nox {st : Stmt} {t : TS} (h : PS X.nox st t) : PS X st t := ⟨fun pins s σ H D I hw =>
  wpAny_mono (h.run pins s σ H D (I.wish _) hw) (fun _ _ q => q.unwish) fun _ _ z => False.elim z⟩
end
/-- an own class with one field, raised -/
structure Rz (P : Program) (w : World) (K : PySem.W.Frag) (mg : Str → Option Value) (base : Heap) (x f : Str) (C : Addr) : Prop where
  g : mg x = some (.ref C)
  how : ∃ (fI : Addr) (fd : FuncData) (B newId initId : String) (bmB : List Value), ExT K C B newId initId bmB ∧ PySem.W.findIn K (.ref C) "__init__" = some (some (.ref fI)) ∧ PySem.W.typeIn K (.ref fI) = some (.type "function") ∧
    FnOk P w K mg base CX0 1 fI fd ["self", f] (spI1 C f) ∧ Binds K fd ["self", f] []
  ty : PySem.W.typeIn K (.ref C) = some (.type "type")
  ex : PySem.W.exmOne K (.ref C) (.ref C) = some true
/-- the heap behind x(v), raised: the exception's dict is new -/
def NewX (f : Str) (v : V) (H : Hp) (d : Addr) (H' : Hp) : Prop := H d = none ∧ H' d = some (.xd [(f, v)]) ∧ Same H H'
def tRz (C : Addr) (f : Str) (W : WX) (te : TE) : TS := fun _ σ H => te σ H fun v H1 => ∀ d H2, NewX f v H1 d H2 → W (.ref C) (some d) σ H2
theorem pe_imp {X : Cx} {e : Expr} {t : TE} (h : PE X e t) : PE X e (fun σ H Q => ∃ Q0 : VK, t σ H Q0 ∧ ∀ v H1, Q0 v H1 → Q v H1) := ⟨fun pins s σ H Q I hw => by
  obtain ⟨Q0, h0, hq⟩ := hw
  exact wpAny_mono (h.run pins s σ H Q0 I h0) (fun _ _ ⟨v, H', I', r, q⟩ => ⟨v, H', I', r, hq _ _ q⟩) fun _ _ z => z⟩
theorem ps_raise1 {X : Cx} {W : WX} {x f : Str} {C : Addr} {e : Expr} {te : TE} {p pos pos2 : Pos} (hc : X.calm = true) (tk : Takes X W) (R : Rz X.prog X.w X.K X.mg X.base x f C) (hr : Room 2 X.A) (hg : Gl X x) (he : PE X e te)
    (hdb : (x == ("__debug__" : Str)) = false := by decide) (hs : starEach [e] X.env = (false, eval e X.env) :: starEach [] X.env := by rfl) : PS X (.Raise (some (.Call (.Name x p) [e] [] pos)) none pos2) (tRz C f W te) := by
  obtain ⟨fI, fd, B, nI, iI, bm, T, iC, tI, G, b⟩ := R.how
  have h := ps_raise (pos := pos2) hc tk (pmk_x (pos := pos) (p := p) (es := []) T R.ty iC tI G hr b pass0 hg R.g (pa_cons (pe_imp he) pa_nil hs) hdb hs (by rfl))
  refine ⟨fun pins s σ H D I hw => h.run pins s σ H D I ?_⟩
  refine ⟨_, hw, fun v H1 q => ⟨by show 1 ≤ 1000; decide, fun a na => ⟨a, v, rfl, upd_same, fun dx ndx hne => ⟨rfl, dx, [(f, v)], upd_same, ?_, ?_, q dx _ ⟨?_, upd_same, fun b o e => ?_⟩⟩⟩⟩⟩
  · rw [upd_ne hne, upd_same]
  · rw [upd_ne hne] at ndx
    exact ndx
  · rw [upd_ne hne] at ndx
    exact ndx
  · rw [upd_ne hne] at ndx
    have nb : b ≠ dx := ne_of_none e ndx
    have na2 : b ≠ a := ne_of_none e na
    rw [upd_ne nb, del_ne na2, upd_ne na2, upd_ne nb, upd_ne na2]
    exact e
/-- what the head shows of an own class with one field -/
def rzB (K : PySem.W.Frag) (C : Addr) (B : String) (f : Str) : Bool := exB K C [.type B, .type "Exception", .type "BaseException", .type "object"] (B ++ ".__new__") && (decide (PySem.W.typeIn K (.ref C) = some (.type "type")) &&
  (decide (PySem.W.exmOne K (.ref C) (.ref C) = some true) && decide (PySem.W.takerIn K C f = some none)))
end Cw
/-! x = {k: v for ..}, x a local -/
namespace Cw
open PySem PySem.Spec PyProof.Rows L2
section
variable {X : Cx}
theorem ps_setDc {i : Nat} {y : Str} {py : Pos} {kx vx tg iter : Expr} {ifs : List Expr} {scope : Scope} {own : List (Str × Nat)} {pos spos : Pos} {wi : TI} {g : TG} {tt : TT} {tk tv : TE} (hc : X.calm = true) (hN : X.N.Nodup) (hy : X.N[i]? = some y) (hyl : X.env.scope.names.lookup y = some .local)
    (hsw : swapsWith (.DictComp kx vx [⟨tg, iter, ifs, 0⟩] scope pos) (some (.Name y py)) spos.line X.env = pure true) (hi : PI X tg iter wi) (ok : BlkOk X.N X.env.scope scope own)
    (hg : ∀ (s : Shared) (H : Hp) (C : Addr) (cl : List (Str × Addr)) (fp : List Addr), PG (X.blk s H scope (compEnvC scope cl C X.env) fp) tg g) (ht : ∀ (s : Shared) (H : Hp) (C : Addr) (cl : List (Str × Addr)) (fp : List Addr), PTs (X.blk s H scope (compEnvC scope cl C X.env) fp) ifs tt)
    (hk : ∀ (s : Shared) (H : Hp) (C : Addr) (cl : List (Str × Addr)) (fp : List Addr), PE (X.blk s H scope (compEnvC scope cl C X.env) fp) kx tk)
    (he : ∀ (s : Shared) (H : Hp) (C : Addr) (cl : List (Str × Addr)) (fp : List Addr), PE (X.blk s H scope (compEnvC scope cl C X.env) fp) vx tv) (hs : ∀ x, foldedSetIterable iter X.env x = pure x := by intro _; rfl) :
    PS X (.Assign [.Name y py] (.DictComp kx vx [⟨tg, iter, ifs, 0⟩] scope pos) spos) (tAsg (tDc wi g tt tk tv (own.map (·.2))) (gName i)) := by
  refine ⟨fun pins s σ H D I h => ?_⟩
  rw [exec_Assign_Name_used _ _ _ _ hsw]
  refine wpAny_bind (wpAny_standAt (wpAny_bind ?_))
  show wpAny _ X.A (do let _ ← comprehension (.DictComp kx vx [⟨tg, iter, ifs, 0⟩] scope pos) scope X.env (firstIterPos [⟨tg, iter, ifs, 0⟩] pos) newDict false (eval iter X.env) (some (assign (.Name y py) X.env))) _ _ s
  have h : tDc wi g tt tk tv (own.map (·.2)) σ H (fun x H1 => gName i x σ H1 D.nx) := h
  refine wpAny_bind (thn (dc_core (Qf := fun _ s' => SP X pins D .next s') hc hN I hi ok hg ht hk he hs h fun L C s' m H' I' q hn f => ?_) fun _ s' hq => wpAny_pure (wpAny_pure hq))
  show wpAny _ _ (assign (.Name y py) X.env (.ref L)) _ _ _
  refine wpAny_assign_Name (store_ok2 (v := V.ref L) I' hN hy (.inl hyl) rfl (fun s2 I2 z => ?_) (.inr hyl))
  obtain ⟨a, sb, ha⟩ := z
  obtain ⟨f0, f1, f2, f3, f4, f5⟩ := f
  have haC : C ≠ a := by
    rcases ha with z | z
    · rw [z]; exact f1
    · exact fun e => f4 y a z e.symm
  refine ⟨m, hn.sameBut sb haC, fun h3 sb3 => ?_⟩
  exact ⟨_, H', I2.turned (t' := s2.toks) (fun b o hb e => (sb3.2 b hb).trans e) f0 f1 f3 f4 f5, q⟩
/-- a test, with what is known behind it said -/
theorem pt_cut {e : Expr} {t : TT} (h : PT X e t) : PT X e (fun σ H Q => ∃ Q0 : Bool → Hp → Prop, t σ H Q0 ∧ ∀ b H1, Q0 b H1 → Q b H1) := ⟨fun pins s σ H Q I hw => by
  obtain ⟨Q0, h0, hq⟩ := hw
  exact wpAny_mono (h.run pins s σ H Q0 I h0) (fun _ _ ⟨H', I', q⟩ => ⟨H', I', hq _ _ q⟩) fun _ _ z => z⟩
theorem sw_trueD {kx vx : Expr} {gs : List Comprehension} {scope : Scope} {pos py : Pos} {y : Str} {l : Nat} {env : Env} (hk : env.scope.kind = .function) (hy : env.scope.names.lookup y = some .local) (hl : (py.line == pos.line) = true)
    (ha : (scope.names.any fun (n, k) => n == y && (k == .local || k == .cell)) = false) : swapsWith (.DictComp kx vx gs scope pos) (some (.Name y py)) l env = pure true := by
  have ky : env.kindOf y = some .local := hy
  have hb : env.blockKind = .function := by unfold Env.blockKind; rw [hk]; rfl
  unfold swapsWith
  simp only [hb, ky, ha, Expr.pos, hl]
  rfl
end
end Cw
/-! isinstance of a caught exception of an own class that has its dict -/
namespace Cw
open PySem PySem.Spec PySem.Calls PyProof.Rows
section
variable {P : Program} {w : World} {A : Around} {E : Value → Shared → Prop} {s : Shared} {K : PySem.W.Frag} {e D : Addr} {oe : Obj} {od : Option Obj}
theorem cls_found {name : Str} {a g : Value} (hc : (PySem.W.clsIn K D).isSome = true) (ha : PySem.W.findIn K (.ref D) name = some (some a)) (hg : PySem.W.specialIn K a "__get__" = some (some g)) (ht : PySem.W.takesIn K a = some true) : PySem.W.findObj K D od name = some (.bind g a) := by
  obtain ⟨cd, z⟩ := Option.isSome_iff_exists.mp hc
  unfold PySem.W.findObj
  rw [z, Option.bind_some, ha, Option.bind_some]
  simp [hg, ht]
theorem own_class {Q : Option Value → Shared → Prop} (T : L2.ExcC K D) (kin : K.In s.heap) (J : PySem.W.InstAt s.heap e oe D od) (q : Q (some (.ref D)) { s with toks := s.toks + 1 }) : wpAny (model P w) A (getAttr? (.ref e) "__class__") Q E s := by
  have some_ : (PySem.W.clsIn K D).isSome = true := by
    obtain ⟨cd, z, _⟩ := PySem.W.any_some T.hd
    rw [z]
    rfl
  have found : PySem.W.findObj K D od "__class__" = some (.bind (.builtin "getset_descriptor.__get__") (.builtin "object.__class__")) := cls_found some_ T.ha T.hn T.ht
  obtain ⟨heap, gens, drawn, tks, os⟩ := s
  have a1 := J.type (M := model P w)
  have a2 := PySem.W.looks_findIn (M := model P w) kin T.hg
  have a3 := PySem.W.looks_findIn (M := model P w) kin T.hk
  have a4 := PySem.W.looks_find (M := model P w) kin J found
  have isExc : PySem.W.Looks (model P w) heap (isInstance (.ref e) (.type "BaseException")) true := a1.andThen (PySem.W.looks_subIn kin T.hs)
  have ne1 : (Value.builtin "BaseException.__getattribute__" == Value.builtin "object.__getattribute__") = false := by decide +kernel
  have ne2 : ¬ (onTheHeap (Value.ref D) && Value.builtin "BaseException.__getattribute__" == Value.builtin "object.__getattribute__") = true := by
    rw [ne1, Bool.and_false]
    exact Bool.false_ne_true
  have ne3 : ¬ (false && onTheHeap (Value.builtin "BaseException.__getattribute__")) = true := fun z => nomatch z
  unfold getAttr? getAttrBy? getAttrBy
  refine wpAny_bind (wpAny_mkText (wpAny_bind (wpAny_attempt (wpAny_holding (wpAny_bind (a1.at (wpAny_bind (a2.at ?_))))))))
  show wpAny _ _ (if (onTheHeap (.ref D) && Value.builtin "BaseException.__getattribute__" == Value.builtin "object.__getattribute__") = true then _ else _) _ _ _
  rw [if_neg ne2]
  unfold getAttrByItsOwn hookBefore
  refine wpAny_bind ?_
  have hp : onTheHeap (Value.ref D) = true := rfl
  rw [if_pos hp]
  refine a3.at (wpAny_bind (wpAny_attempt (wpAny_holding ?_)))
  unfold callGetattribute
  rw [if_neg ne3]
  unfold boundAndCalled
  rw [PySem.F.excAttr_ValueError.ga.bind (.ref e)]
  refine wpAny_bind (wpAny_pure ?_)
  show wpAny _ _ (call (.builtin "BaseException.__getattribute__") [.ref e, .str "__class__" tks]) _ _ _
  refine wpAny_call (codeAny_call_builtin PySem.F.excAttr_ValueError.ga.plain PySem.F.entry_bexc_ga ?_)
  refine @PySem.W.check_slot (model P w) _ _ ⟨heap, gens, drawn, tks + 1, os⟩ "BaseException.__getattribute__" "BaseException" "__getattribute__" (.ref e) [.str "__class__" tks] [] _ (by decide +kernel) (by decide +kernel) isExc (PySem.F.args_bexc_ga (.ref e) (.str "__class__" tks)) ?_
  unfold Builtin.«object.__getattribute__»
  refine wpAny_bind (PySem.wpAny_of_eq (a := ((Value.ref e : Value), [Value.str "__class__" tks])) (by first | rfl | (simp only [slotArgs]; rfl)) ?_)
  refine wpAny_bind (wpAny_pure (wpAny_bind (a1.at (wpAny_bind (a4.at ?_)))))
  show wpAny _ _ (holding [Value.builtin "object.__class__"] (call (.builtin "getset_descriptor.__get__") [.builtin "object.__class__", .ref e, .ref D]) >>= ret) _ _ _
  refine wpAny_bind (wpAny_holding (wpAny_call (PySem.W.class_get (s := ⟨heap, gens, drawn, tks + 1, os⟩) (ox := oe) (od := od) kin J T.hm ?_)))
  refine wpAny_pure ?_
  show wpAny _ _ (handedOut (.ref D)) _ _ _
  rw [PySem.W.handedOut_of (v := .ref D) rfl]
  first
    | exact wpAny_pure (wpAny_pure q)
    | exact wpAny_pure q
    | exact wpAny_pure (wpAny_bind (wpAny_pure (wpAny_pure q)))
/-- what isinstance asks of the exception at e -/
theorem kit_own (T : L2.ExcC K D) : PySem.W.KitX K (.ref e) (.ref D) (fun h => PySem.W.InstAt h e oe D od) := by
  obtain ⟨cd, there, _⟩ := PySem.W.any_some T.hd
  unfold PySem.W.clsIn at there
  refine ⟨fun _ _ _ J => J.type, fun _ h kin _ => ?_, fun h tp dd its n sl kin htp => ?_, fun kin J q => own_class T kin J q⟩
  · split at there
    · rename_i cls dct cdt sls hl
      intro A' Q' E' s' k q
      unfold isType loadHead
      exact wpAny_bind (PySem.wpAny_loadPart (k _ _ (kin _ _ hl)) (wpAny_pure q))
    · cases there
  · split at there
    · rename_i cls dct cdt sls hl
      refine Bool.eq_false_iff.mpr fun z => ?_
      have z := Value.ref.inj (beq_iff_eq.mp z)
      subst z
      have y := (kin _ _ hl).symm.trans htp
      cases y
    · cases there
end
end Cw
namespace Cw
open PySem PySem.Spec PyProof.Rows L2
/-- isinstance(e, c), e the exception that the suite holds, of the class D, its dict at d -/
def rIsD (K : PySem.W.Frag) (a : Addr) (cls : Value) (d : Option Addr) : List V → Hp → VK → Prop := fun xs H Q => ∃ (D dd : Addr) (fs : List (Str × V)) (c : V) (cv : Value) (b : Bool), cls = .ref D ∧ d = some dd ∧ H dd = some (.xd fs) ∧ ExcC K D ∧ xs = [.ref a, c] ∧ ClsV c cv ∧ PySem.W.kitOne K (.ref D) cv = some b ∧ Q (.bl b) H
def rIsDT (K : PySem.W.Frag) (a : Addr) (cls : Value) (d : Option Addr) : List V → Hp → VK → Prop := fun xs H Q => ∃ (D dd : Addr) (fs : List (Str × V)) (tp : Addr) (cs : List V) (us : List Value) (b : Bool), cls = .ref D ∧ d = some dd ∧ H dd = some (.xd fs) ∧ ExcC K D ∧ xs = [.ref a, .ref tp] ∧ H tp = some (.tup cs) ∧ Paired ClsV cs us ∧ PySem.W.kitAny K (.ref D) us = some b ∧ Q (.bl b) H
section
variable {X : Cx} {a : Addr} {cls : Value} {d : Option Addr} {oe : Obj} {pn : List (Addr × Obj)}
theorem zc_at {pins : List (Addr × Obj)} {σ : L2.St} {H : Hp} {s : Shared} {D dd : Addr} {fs : List (Str × V)} (hz : Zc cls d oe) (hf : ∃ vs, oe.data = .fields vs) (e1 : cls = .ref D) (e2 : d = some dd) (hd : H dd = some (.xd fs)) (I : Inv (X.suite a ((a, oe) :: pn)) pins σ H s) : ∃ od, PySem.W.InstAt s.heap a oe D od := by
  obtain ⟨hget, _⟩ := I.pin (a, oe) (List.mem_append.mpr (.inl List.mem_cons_self))
  obtain ⟨vs, hv⟩ := hf
  obtain ⟨mA, ⟨o, es, ep, ho, _⟩, _⟩ := I.hok dd _ hd
  obtain ⟨oc, od, oda, osl⟩ := oe
  obtain ⟨h1, h2⟩ := hz
  dsimp only at h1 h2 hv
  subst h1 h2 hv e1 e2
  exact ⟨some o, hget, rfl, rfl, ho⟩
theorem call_isD (hz : Zc cls d oe) (hf : ∃ vs, oe.data = .fields vs) : CallR (X.suite a ((a, oe) :: pn)) (.builtin "isinstance") (rIsD X.K a cls d) := by
  intro pins s σ H xs us Q I r h
  obtain ⟨D, dd, fs, c, cv, b, e1, e2, hd, T, rfl, k, e, q⟩ := h
  obtain ⟨od, J⟩ := zc_at hz hf e1 e2 hd I
  obtain ⟨u1, u2, rfl, r1, r2⟩ := vals2 r
  have e3 := k.eq r2
  subst e3
  cases r1
  exact PySem.W.kia_one (kit_own (oe := oe) (od := od) T) I.kIn J e (fun z => nomatch z) fun tk => ⟨.bl b, H, I.tok tk, rfl, q⟩
theorem call_isDT (hz : Zc cls d oe) (hf : ∃ vs, oe.data = .fields vs) : CallR (X.suite a ((a, oe) :: pn)) (.builtin "isinstance") (rIsDT X.K a cls d) := by
  intro pins s σ H xs us Q I r h
  obtain ⟨D, dd, fs, tp, cs, ws, b, e1, e2, hd, T, rfl, hT, k, e, q⟩ := h
  obtain ⟨od, J⟩ := zc_at hz hf e1 e2 hd I
  obtain ⟨u1, u2, rfl, r1, r2⟩ := vals2 r
  cases r1
  cases r2
  obtain ⟨_, its, rv, o, h1, h2, n, h3⟩ := (show ObjOk X.prog X.w H s.heap tp (.tup cs) from I.hok tp _ hT)
  have e3 := ClsV.all k rv
  subst e3
  obtain ⟨oc, ox, dt, sl⟩ := o
  dsimp only at h2 h3
  subst h2 h3
  exact PySem.W.kia_tup (kit_own (oe := oe) (od := od) T) I.kIn J h1 e (fun z => nomatch z) fun tk => ⟨.bl b, H, I.tok tk, rfl, q⟩
end
/-- the class is asked rightly -/
def excB (K : PySem.W.Frag) (D : Addr) : Bool := decide (PySem.W.findIn K (.ref D) "__getattribute__" = some (some (.builtin "BaseException.__getattribute__"))) && (decide (PySem.W.findIn K (.ref D) "__getattr__" = some none) && (decide (PySem.W.subIn K (.ref D) (.type "BaseException") = some true) && (PySem.W.hasDictIn K D &&
  (decide (PySem.W.findIn K (.ref D) "__class__" = some (some (.builtin "object.__class__"))) && (decide (PySem.W.specialIn K (.builtin "object.__class__") "__get__" = some (some (.builtin "getset_descriptor.__get__"))) && (decide (PySem.W.takesIn K (.builtin "object.__class__") = some true) && decide (PySem.W.mroIn K D (.type "object") = some true)))))))
theorem excB_ok {K : PySem.W.Frag} {D : Addr} (h : excB K D = true) : ExcC K D := by
  unfold excB at h
  simp only [Bool.and_eq_true, decide_eq_true_eq] at h
  obtain ⟨h1, h2, h3, h4, h5, h6, h7, h8⟩ := h
  exact ⟨h1, h2, h3, h4, h5, h6, h7, h8⟩
end Cw
/-! things of any kind: data, a dict of one text; their types; not in a list of texts -/
namespace Cw
open PySem PySem.Spec PyProof.Rows L2
/-- a thing of any kind -/
inductive Th (H : Hp) : V → PyData → Prop
  | dx {v : V} {d : PyData} : Dx H v d → Th H v d
  | one {a : Addr} {x : Str} {n : Int} : H a = some (.dK [(Sum.inr x, .int n)]) → Th H (.ref a) (.dict [(.str x, .int n)])
theorem Th.same {H H' : Hp} {v : V} {d : PyData} (k : Same H H') : Th H v d → Th H' v d
  | .dx h => .dx (Dx.same k _ _ h)
  | .one h => .one (k _ _ h)
inductive ThAll (H : Hp) : List V → List PyData → Prop
  | nil : ThAll H [] []
  | cons {v : V} {vs : List V} {d : PyData} {ds : List PyData} : Th H v d → ThAll H vs ds → ThAll H (v :: vs) (d :: ds)
theorem ThAll.same {H H' : Hp} (k : Same H H') : ∀ {vs : List V} {ds : List PyData}, ThAll H vs ds → ThAll H' vs ds
  | _, _, .nil => .nil
  | _, _, .cons a b => .cons (a.same k) (b.same k)
theorem ThAll.len {H : Hp} : ∀ {vs : List V} {ds : List PyData}, ThAll H vs ds → vs.length = ds.length
  | _, _, .nil => rfl
  | _, _, .cons _ b => congrArg (· + 1) b.len
theorem ThAll.get {H : Hp} : ∀ {vs : List V} {ds : List PyData}, ThAll H vs ds → ∀ {i : Nat} {v : V}, vs[i]? = some v → ∃ d, ds[i]? = some d ∧ Th H v d
  | _, _, .nil, i, v, h => by simp at h
  | _, _, .cons a b, 0, v, h => by
    cases h
    exact ⟨_, rfl, a⟩
  | _, _, .cons a b, i + 1, v, h => b.get (i := i) h
theorem ThAll.append {H : Hp} : ∀ {vs ws : List V} {ds es : List PyData}, ThAll H vs ds → ThAll H ws es → ThAll H (vs ++ ws) (ds ++ es)
  | _, _, _, _, .nil, h => h
  | _, _, _, _, .cons a b, h => .cons a (b.append h)
theorem thAll_dx {H : Hp} : ∀ {vs : List V} {ds : List PyData}, DxAll H vs ds → ThAll H vs ds
  | _, _, .nil => .nil
  | _, _, .cons a b => .cons (.dx a) (thAll_dx b)
/-- the built-in type's name -/
def tyOf : PyData → String
  | .none => "NoneType"
  | .bool _ => "bool"
  | .int _ => "int"
  | .str _ => "str"
  | .list _ => "list"
  | .tuple _ => "tuple"
  | .dict _ => "dict"
theorem th_ty {K : PySem.W.Frag} {H : Hp} {v : V} {d : PyData} : Th H v d → TyX K H v (.type (tyOf d))
  | .one h => .base (.dK h)
  | .dx h => by
    cases h with
    | non => exact .base .non
    | bl b => exact .base (.bl b)
    | int i => exact .base (.int i)
    | str z => exact .base (.str z)
    | lst e r => exact .base (.lst e)
    | tup e r n => exact .base (.tup e)
    | tupy e r n => exact e.elim (fun e => .base (.tup e)) fun ⟨_, _, e⟩ => .fTuple e
    | emp e => exact .base (.dK e)
def isTup : PyData → Bool | .tuple _ => true | _ => false
def isStr : PyData → Bool | .str _ => true | _ => false
def isIntD : PyData → Bool | .int _ => true | _ => false
def isBoolD : PyData → Bool | .bool _ => true | _ => false
theorem kt_tup (d : PyData) : kitB (tyOf d) "tuple" = some (isTup d) := by cases d <;> (simp only [tyOf, isTup, isStr, isIntD, isBoolD, Bool.or_false, Bool.false_or, Bool.or_self]; decide +kernel)
theorem kt_str (d : PyData) : kitB (tyOf d) "str" = some (isStr d) := by cases d <;> (simp only [tyOf, isTup, isStr, isIntD, isBoolD, Bool.or_false, Bool.false_or, Bool.or_self]; decide +kernel)
theorem kt_int (d : PyData) : kitB (tyOf d) "int" = some (isIntD d || isBoolD d) := by cases d <;> (simp only [tyOf, isTup, isStr, isIntD, isBoolD, Bool.or_false, Bool.false_or, Bool.or_self]; decide +kernel)
theorem kt_bool (d : PyData) : kitB (tyOf d) "bool" = some (isBoolD d) := by cases d <;> (simp only [tyOf, isTup, isStr, isIntD, isBoolD, Bool.or_false, Bool.false_or, Bool.or_self]; decide +kernel)
/-! ### a text is unlike a dict -/
section
variable {A : Around} {s : Shared}
theorem str_eq_dict (b : Str) (u : Tok) (l : Addr) (o : Obj) : Meets (Builtin.«str.__eq__» ⟨[.str b u, .ref l], []⟩) (fun _ R s => s.heap.get? l = some o ∧ o.cls = .type "dict" ∧ (∃ es ep, o.data = .dict es ep) ∧ R (.ok (.ret .notImplemented)) s) :=
  .of_wp fun prog w A R s h => by
    obtain ⟨hp, g, d, tk, os⟩ := s
    obtain ⟨hl, hc, ⟨es, ep, hd⟩, h⟩ := h
    obtain ⟨cls, dd, data, sl⟩ := o
    cases hc
    cases hd
    wp_walk using wpAny_loadPart' hl, wpAny_load hl
    exact ⟨_, rfl, h⟩
theorem dict_eq_str (b : Str) (u : Tok) (l : Addr) (o : Obj) : Meets (Builtin.«dict.__eq__» ⟨[.ref l, .str b u], []⟩) (fun _ R s => s.heap.get? l = some o ∧ o.cls = .type "dict" ∧ (∃ es ep, o.data = .dict es ep) ∧ R (.ok (.ret .notImplemented)) s) :=
  .of_wp fun prog w A R s h => by
    obtain ⟨hp, g, d, tk, os⟩ := s
    obtain ⟨hl, hc, ⟨es, ep, hd⟩, h⟩ := h
    obtain ⟨cls, dd, data, sl⟩ := o
    cases hc
    cases hd
    have f1 := PySem.F.sub_str_dict
    wp_walk using wpAny_loadPart' hl, wpAny_load hl
    exact ⟨_, rfl, h⟩
theorem eqAt_str_dict {l : Addr} {o : Obj} (b : Str) (u : Tok) (ho : s.heap.get? l = some o) (hc : o.cls = .type "dict") (hd : ∃ es ep, o.data = .dict es ep) (hu : A.units < cLine) : SeqAt.EqAt A s (.str b u) (.ref l) false := fun prog w E Q h => by
  have rc : ∀ (Q : Value → Shared → Prop), Q (.bool false) s → wpAny (model prog w) A (richCompare .Eq (.str b u) (.ref l)) Q E s := fun Q hq =>
    SeqAt.rc_eq_decline_or (k := false) (typeIs_str s b u) ⟨_, ho, hc⟩ (by decide) PySem.F.sub_dict_str PySem.F.slot_str_eq PySem.F.slot_dict_eq_refl
      (fun _ hq => call_meets PySem.F.slot_str_eq (typeIs_str s b u) PySem.F.entry_str_eq (PySem.F.args_str_eq_2 _ _) (str_eq_dict b u l o) ⟨ho, hc, hd, hq⟩)
      (fun _ hq => call_meets PySem.F.slot_dict_eq_refl ⟨_, ho, hc⟩ PySem.F.entry_dict_eq (PySem.F.args_dict_eq_2 _ _) (dict_eq_str b u l o) ⟨ho, hc, hd, hq⟩)
      (fun _ hq => wpAny_of_eq (rfl : isSame (.str b u) (.ref l) = pure false) hq) (.inr hu) hq
  unfold eqBool
  refine wpAny_holding ?_
  refine wpAny_ite_split (fun hab => absurd (eq_of_beq hab) nofun) (fun _ => ?_)
  exact wpAny_bind (rc _ (wpAny_truthy_bool h))
end
/-- it is one of these texts -/
def isIn (d : PyData) (ns : List Str) : Bool := match d with | .str z => decide (z ∈ ns) | _ => false
def strIs (d : PyData) (u : Value) : Bool := match d, u with | .str z, .str y _ => y == z | _, _ => false
section
variable {X : Cx} {pins : List (Addr × Obj)} {σ : L2.St} {H : Hp} {s : Shared}
theorem eqAt_th {A : Around} (I : Inv X pins σ H s) (hu : A.units < cLine) {v : V} {d : PyData} {u : Value} (h : Th H v d) (r : RelV v u) (y : Str) (t : Tok) : SeqAt.EqAt A s (.str y t) u (strIs d (.str y t)) := by
  cases h with
  | one e =>
    cases r
    obtain ⟨_, ns, vs, kv, o, es, ep, ho, hx, hd, hn⟩ := I.hok _ _ e
    exact eqAt_str_dict y t ho hx.1 ⟨_, _, hd⟩ hu
  | dx h =>
    cases h with
    | non => cases r; exact SeqAt.EqAt.str_none y t
    | bl b => cases r; exact SeqAt.EqAt.str_bool y t b
    | int i => obtain ⟨t', rfl⟩ := r; exact SeqAt.EqAt.str_int y t i t'
    | str z => obtain ⟨t', rfl⟩ := r; exact SeqAt.EqAt.str_str y t z t'
    | lst e ra =>
      cases r
      obtain ⟨_, its, n, rv, ho⟩ := I.hok _ _ e
      exact SeqAt.EqAt.str_list y t (items := its.toArray) ⟨_, ho, rfl, n, rfl⟩ hu
    | tup e ra n =>
      cases r
      obtain ⟨_, its, rv, o, ho, hc, n, hd⟩ := I.hok _ _ e
      exact SeqAt.EqAt.str_tuple y t (items := its.toArray) ⟨_, ho, hc, n, hd⟩ hu
    | tupy e ra n =>
      cases r
      rcases e with e | ⟨_, _, e⟩
      · obtain ⟨_, its, rv, o, ho, hc, n, hd⟩ := I.hok _ _ e
        exact SeqAt.EqAt.str_tuple y t (items := its.toArray) ⟨_, ho, hc, n, hd⟩ hu
      · obtain ⟨_, _, its, rv, o, ho, hc, n, hd⟩ := I.hok _ _ e
        exact SeqAt.EqAt.str_tuple y t (items := its.toArray) ⟨_, ho, hc, n, hd⟩ hu
    | emp e =>
      cases r
      obtain ⟨_, ns, vs, kv, o, es, ep, ho, hx, hd, hn⟩ := I.hok _ _ e
      exact eqAt_str_dict y t ho hx.1 ⟨_, _, hd⟩ hu
theorem any_strIs {d : PyData} : ∀ {ns : List Str} {us : List Value}, Vals (ns.map V.str) us → us.any (strIs d) = isIn d ns
  | [], us, r => by
    cases r
    cases d <;> simp [isIn]
  | z :: ns, us, r => by
    cases r with
    | cons r1 r2 =>
      obtain ⟨t, rfl⟩ := r1
      rw [List.any_cons, any_strIs r2]
      cases d <;> simp [isIn, strIs]
      rename_i y
      by_cases h : z = y
      · simp [h]
      · have h2 : ¬ y = z := fun w => h w.symm
        simp [h, h2]
theorem strs_eqAt {A : Around} (I : Inv X pins σ H s) (hu : A.units < cLine) {v : V} {d : PyData} {u : Value} (h : Th H v d) (r : RelV v u) : ∀ {ns : List Str} {us : List Value}, Vals (ns.map V.str) us → ∀ w ∈ us, SeqAt.EqAt A s w u (strIs d w)
  | [], us, r' => by
    cases r'
    exact fun w hw => by cases hw
  | z :: ns, us, r' => by
    cases r' with
    | cons r1 r2 =>
      obtain ⟨t, rfl⟩ := r1
      intro w hw
      rcases List.mem_cons.mp hw with rfl | hw
      · exact eqAt_th I hu h r z t
      · exact strs_eqAt I hu h r r2 w hw
end
def rNotInT (K : PySem.W.Frag) : R2 := fun x y H Q => ∃ (d : PyData) (p : Addr) (ns : List Str), y = .ref p ∧ SqL K H p (ns.map V.str) ∧ Th H x d ∧ Q (.bl (!isIn d ns)) H
theorem op_notInT {X : Cx} (hu : X.A.units + 1 < cLine) : OpR X (compareOp .NotIn) (rNotInT X.K) := by
  intro pins s σ H x y v u Q I rx ry h
  obtain ⟨d, p, ns, rfl, hq, hd, q⟩ := h
  cases ry
  obtain ⟨its, r, pl, hz⟩ := I.list hq
  refine SeqAt.notIn_listAt (strIs d) pl.isList (fun w hw => strs_eqAt I hu hd rx r w (by simpa using hw)) ⟨.bl _, H, I, rfl, ?_⟩
  rw [show its.toArray.any (strIs d) = its.any (strIs d) by simp, any_strIs r]
  exact q
end Cw
/-! repr of a tuple of things; a method that may raise -/
namespace Cw
open PySem PySem.Spec PyProof.Rows L2
section
variable {X : Cx} {pins : List (Addr × Obj)} {σ : L2.St} {H : Hp} {s : Shared}
theorem th_reads (I : Inv X pins σ H s) (hm : HasMods X.K) {d : PyData} {v : V} {u : Value} (h : Th H v d) (r : RelV v u) : ∃ as, Reads s.heap u d as ∧ sysModules ∉ as := by
  cases h with
  | dx h => exact Dx.reads I hm _ _ _ h r
  | @one a x n e =>
    cases r
    obtain ⟨_, ns, vs, kv, o, es, ep, ho, hx, hd, hk, hp, hn⟩ := I.hok _ _ e
    cases kv with
    | @cons q q' _ _ kv1 kv2 =>
      cases kv2
      obtain ⟨k1, v1⟩ := q'
      obtain ⟨e1, r1⟩ := kv1
      dsimp only at e1 r1
      subst e1
      obtain ⟨t, rfl⟩ := r1
      revert hp
      generalize hes : es.toList = l
      intro hp
      cases hp with
      | @cons en kv' es' kvs' h1 h2 h3 =>
        cases h3
        dsimp only at h1 h2
        have h1' : keyIs (Sum.inr x) en.key = true := h1
        rcases keyIs_shape h1' with ⟨i, t1, z, _⟩ | ⟨y, t1, z, e3⟩
        · cases z
        · cases z
          have q1 : ReadsAll s.heap (es.toList.map (·.key)) ([(PyData.str x, PyData.int n)].map (·.1)) ([] ++ []) := by
            rw [hes]
            show ReadsAll s.heap [en.key] [PyData.str x] ([] ++ [])
            rw [e3]
            exact .cons (.str x t1) .nil
          have q2 : ReadsAll s.heap (es.toList.map (·.val)) ([(PyData.str x, PyData.int n)].map (·.2)) ([] ++ []) := by
            rw [hes]
            show ReadsAll s.heap [en.val] [PyData.int n] ([] ++ [])
            rw [h2]
            exact .cons (.int n t) .nil
          refine ⟨_, Reads.dict ho hx.1 hd q1 q2, fun z => ?_⟩
          have z2 : sysModules = a := by simpa using z
          rw [z2] at ns
          simp at ns
theorem thAll_reads (I : Inv X pins σ H s) (hm : HasMods X.K) : ∀ {ds : List PyData} {vs : List V} {us : List Value}, ThAll H vs ds → Vals vs us → ∃ as, ReadsAll s.heap us ds as ∧ sysModules ∉ as
  | [], _, _, h, r => by
    cases h
    cases r
    exact ⟨_, ReadsAll.nil, List.not_mem_nil⟩
  | d :: ds, _, _, h, r => by
    cases h with
    | cons h1 h2 =>
      cases r with
      | cons r1 r2 =>
        obtain ⟨as, q1, n1⟩ := th_reads I hm h1 r1
        obtain ⟨bs, q2, n2⟩ := thAll_reads I hm h2 r2
        exact ⟨_, ReadsAll.cons q1 q2, fun z => (List.mem_append.mp z).elim n1 n2⟩
end
section
variable {X : Cx}
/-- repr of a tuple of things -/
def rReprT : List V → Hp → VK → Prop := fun xs H Q => ∃ (a : Addr) (vs : List V) (ds : List PyData), xs = [.ref a] ∧ H a = some (.tup vs) ∧ ThAll H vs ds ∧
    (PyData.tuple ds).showable = true ∧ (PyData.tuple ds).depth ≤ 60 ∧ (PyData.tuple ds).shown.length ≤ sizeLine ∧ Q (.str (PyData.tuple ds).shown) H
theorem call_reprT (hg : X.A.guards = some []) (hu : X.A.units + 64 < cLine) (hm : HasMods X.K) : CallR X (.builtin "repr") rReprT := by
  intro pins s σ H xs us Q I r h
  obtain ⟨a, vs, ds, rfl, e, hd, hs, hdp, hz, q⟩ := h
  obtain ⟨u, rfl, r1⟩ := vals1 r
  cases r1
  obtain ⟨_, its, rv, o, ho, hc, n, hdt⟩ := I.hok _ _ e
  obtain ⟨as, rd, nm⟩ := thAll_reads I hm hd rv
  exact repr_of_reads' (Reads.tuple ho hc hdt rd) hs (fun _ => nm) hg (by omega) (fun _ _ e => e) (fun h' u tk hk => ⟨.str _, H, I.kept (t' := tk) hk, ⟨u, rfl⟩, q⟩) hz
end
section
variable {X : Cx} {CX : CXT} {k : Nat} {f C : Addr} {fd : FuncData} {ps : List Str} {sp : Sp} {E : L2.St → XK} {x m : Str} {p pos apos : Pos} {e o : Expr} {es : List Expr} {ta : TE} {t : TA}
/-- o.m(e, ..), which may raise -/
def tMethE (C : Addr) (m : Str) (sp : Sp) (E : L2.St → XK) (ta : TE) (t : TA) : TE := fun σ H Q => tMeth C m sp [] (E σ) ta t σ H Q
theorem pe_methE {pl : Sem Bool} (he : PE X o ta) (c : Cls X.K C) (hm : Meth X.K C m f) (F : FnOk X.prog X.w X.K X.mg X.base CX k f fd ps sp) (hr : Room k X.A) (hb : Binds X.K fd ps []) (hx : ∀ σ, PassesAt CX X σ (E σ)) (ha : PA X (e :: es) t)
    (hst : starEach (e :: es) X.env = (false, eval e X.env) :: starEach es X.env := by rfl) (hpl : (backTo pos (starEach es X.env)).any (·.1) = false := by rfl)
    (ht : eval (.Call (.Attribute o m apos) (e :: es) [] pos) X.env = (do
      let ov ← eval o X.env
      standAt apos.atName
      let (f, first) ← holding [ov] (getMethod ov m pl)
      callWith pos f first (backTo pos (starEach (e :: es) X.env)) (backToKw pos (keywordEach [] X.env))) := by rfl) :
    PE X (.Call (.Attribute o m apos) (e :: es) [] pos) (tMethE C m sp E ta t) := by
  refine ⟨fun pins s σ H Q I h => ?_⟩
  refine PySem.W.methodCall_KW (pl := pl) (thn (he.run pins s σ H _ I h) fun u s1 z => ?_) ht
  obtain ⟨x, H1, I1, rx, a, dx, fs, ex, ea, l, q⟩ := z
  subst ex
  obtain rfl : u = Value.ref a := rx
  refine getmeth_ok I1 ea c hm l ?_
  refine PySem.W.callWith_K (first := [.ref a]) (h₀ := X.base) I.ok.mod.kin hm.kp (thn (ha.run pos pins s1 σ H1 _ I1 q) fun us s2 z => ?_) hst hpl
  obtain ⟨vs, H2, I2, r, q2⟩ := z
  refine ⟨I2.kIn, ?_⟩
  refine run_fnS (us := .ref a :: us) (vs := .ref a :: vs) F hr hb (hx σ) I2 (.cons rfl r) ?_
  have e := q2
  rw [List.append_nil] at e
  exact e
end
theorem op_notInTK {X : Cx} {K : PySem.W.Frag} (hK : X.K = K) (hu : X.A.units + 1 < cLine) : OpR X (compareOp .NotIn) (rNotInT K) := hK ▸ op_notInT hu
end Cw
/-! an own class with no __init__ of its own, raised with a message -/
namespace Cw
open PySem PySem.Spec PyProof.Rows L2
structure RzM (K : PySem.W.Frag) (mg : Str → Option Value) (x : Str) (C : Addr) : Prop where
  g : mg x = some (.ref C)
  how : ∃ (B newId initId : String) (bmB : List Value), ExcBaseFacts B newId initId bmB ∧ PySem.W.excIn K C bmB newId = true
  kp : PySem.W.keepIn K (.ref C) = true
  isB : PySem.W.subIn K (.ref C) (.type "BaseException") = some true
  ty : PySem.W.typeIn K (.ref C) = some (.type "type")
  ex : PySem.W.exmOne K (.ref C) (.ref C) = some true
def tRzM (C : Addr) (W : WX) : TS := fun _ σ H => W (.ref C) none σ H
theorem ps_raiseM {X : Cx} {W : WX} {x m : Str} {C : Addr} {j : Nat} {p p2 pos pos2 : Pos} (hc : X.calm = true) (tk : Takes X W) (R : RzM X.K X.mg x C) (hg : Gl X x)
    (hdb : (x == ("__debug__" : Str)) = false := by decide) : PS X (.Raise (some (.Call (.Name x p) [.Constant (.str m) j p2] [] pos)) none pos2) (tRzM C W) := by
  obtain ⟨B, nI, iI, bm, F, q⟩ := R.how
  exact ps_raise (pos := pos2) hc tk (pmk_own (m := m) (j := j) (p := p) (p2 := p2) (pos := pos) F q R.g R.kp (raises_own R.isB R.ty) hg hdb)
/-- what the head shows of such a class -/
def rzmB (K : PySem.W.Frag) (C : Addr) (B : String) : Bool := PySem.W.excIn K C [.type B, .type "Exception", .type "BaseException", .type "object"] (B ++ ".__new__") && (PySem.W.keepIn K (.ref C) && (decide (PySem.W.subIn K (.ref C) (.type "BaseException") = some true) &&
  (decide (PySem.W.typeIn K (.ref C) = some (.type "type")) && decide (PySem.W.exmOne K (.ref C) (.ref C) = some true))))
end Cw
/-! a list == [], whatever stands in it; sorted of a tuple of whole numbers; two clauses with names; isinstance of a caught own exception, its dict there or not -/
namespace Cw
open PySem PySem.Spec PySem.Calls PyProof.Rows L2
section
variable {X : Cx}
def rEqNil (K : PySem.W.Frag) : R2 := fun x y H Q => ∃ (p q : Addr) (xs : List V), x = .ref p ∧ y = .ref q ∧ SqL K H p xs ∧ SqL K H q [] ∧ Q (.bl xs.isEmpty) H
theorem op_eqNil (hu : X.A.units + 1 < cLine) : OpR X (compareOp .Eq) (rEqNil X.K) := by
  intro pins s σ H x y v u Q I rx ry h
  obtain ⟨p, q, xs, rfl, rfl, hp, hq, k⟩ := h
  cases rx
  cases ry
  obtain ⟨its, r1, l1, _⟩ := I.list hp
  obtain ⟨jts, r2, l2, _⟩ := I.list hq
  cases r2
  have room : X.A.units < cLine := by omega
  cases xs with
  | nil =>
    cases r1
    refine SeqAt.eq_listAt (e := fun _ => true) l1.isList l2.isList rfl room (fun j h1 _ => absurd h1 (by simp)) ?_
    exact ⟨.bl _, H, I, rfl, k⟩
  | cons a r =>
    cases r1
    refine SeqAt.eq_list_lengthsAt l1.isList l2.isList ?_ room ⟨.bl _, H, I, rfl, k⟩
    simp
/-- sorted(t), t a tuple of whole numbers -/
def rSortedTi (K : PySem.W.Frag) : List V → Hp → VK → Prop := fun vs H Q => ∃ (a : Addr) (ns : List Int), vs = [V.ref a] ∧ SqT K H a (ns.map V.int) ∧ ns.length < 64 ∧
  ∀ (ms : List Int) (p : Addr), ms.Perm ns → ms.Pairwise (· ≤ ·) → H p = none → Q (.ref p) (upd H p (.lst (ms.map V.int)))
theorem cr_sortedTi : CallR X (.builtin "sorted") (rSortedTi X.K) := by
  intro pins s σ H vs us Q I r h
  obtain ⟨a, ns, rfl, ht, few, q⟩ := h
  obtain ⟨its, rv, hl, _⟩ := I.tuple ht
  rw [Vals.ref1 r]
  have hi := rv.ints
  have hlen : its.length < 64 := by rw [hi.length]; exact few
  obtain ⟨o, ho, hc, n, hd⟩ := hl
  refine call_function_entry kind_sorted plain_sorted entry_sorted (args_sorted1 _) ?_
  unfold Builtin.«sorted»
  refine wpAny_bind (m := checkCount "sorted" 1 1 _) (wpAny_pure ?_)
  refine wpAny_bind (wpAny_collect_seq a (.inr rfl) ho hc hd (fun h1 keep => ?_) (by have := small64 hlen; simpa using this))
  refine wpAny_bind (wpAny_newList ?_ (by have := small64 hlen; simpa using this))
  have new : (h1.push (seqObj "list" its.toArray 0)).get? h1.objs.size = some (seqObj "list" its.toArray 0) := Heap.get?_push_size _ rfl
  have J : Inv X pins σ H { s with heap := h1 } := I.kept (t' := s.toks) keep
  refine wpAny_bind (wpAny_holding (wpAny_call_entry slot_list_sort ⟨_, new, rfl⟩ entry_list_sort (list_sort_tree new hi hlen fun out ms m1 m2 m3 => ⟨_, rfl, wpAny_pure ⟨_, rfl, ?_⟩⟩) (args_list_sort _)))
  obtain ⟨ep, at_⟩ := sortedHeap_at (vs := its) (out := out) new
  have size : (ms.map V.int).length ≤ sizeLine := by
    have := small64 few
    rw [List.length_map, m2.length_eq]
    exact this
  have old : ∀ b ob, h1.get? b = some ob → (sortedHeap (h1.push (seqObj "list" its.toArray 0)) h1.objs.size its out).get? b = some ob := fun b ob e => by
    have lt := Heap.lt_size e
    rw [sortedHeap_old (Nat.ne_of_lt lt) (by rw [size_push']; exact Nat.lt_succ_of_lt lt)]
    exact Heap.get?_push_of_some _ e
  exact ⟨.ref h1.objs.size, upd H h1.objs.size (.lst (ms.map V.int)), J.laid (t' := s.toks) old (Nat.le_refl _) ⟨size, out.toList, ep, vals_of_ints m1, at_⟩, rfl, q ms _ m2 m3 (J.hok.fresh (Nat.le_refl _))⟩
end
section
variable {X : Cx} {a : Addr} {cls : Value} {d : Option Addr} {oe : Obj} {pn : List (Addr × Obj)}
/-- the exception's dict is there, or it has none -/
def DOk (d : Option Addr) (H : Hp) : Prop := d = none ∨ ∃ dd fs, d = some dd ∧ H dd = some (.xd fs)
theorem zc_any {pins : List (Addr × Obj)} {σ : L2.St} {H : Hp} {s : Shared} {D : Addr} (hz : Zc cls d oe) (hf : ∃ vs, oe.data = .fields vs) (e1 : cls = .ref D) (hd : DOk d H) (I : Inv (X.suite a ((a, oe) :: pn)) pins σ H s) : ∃ od, PySem.W.InstAt s.heap a oe D od := by
  rcases hd with e2 | ⟨dd, fs, e2, hd⟩
  · obtain ⟨hget, _⟩ := I.pin (a, oe) (List.mem_append.mpr (.inl List.mem_cons_self))
    obtain ⟨vs, hv⟩ := hf
    obtain ⟨oc, od, oda, osl⟩ := oe
    obtain ⟨h1, h2⟩ := hz
    dsimp only at h1 h2 hv
    subst h1 h2 hv e1 e2
    exact ⟨none, hget, rfl, rfl, trivial⟩
  · exact zc_at hz hf e1 e2 hd I
def rIsG (K : PySem.W.Frag) (a : Addr) (cls : Value) (d : Option Addr) : List V → Hp → VK → Prop := fun xs H Q => ∃ (D : Addr) (c : V) (cv : Value) (b : Bool), cls = .ref D ∧ DOk d H ∧ ExcC K D ∧ xs = [.ref a, c] ∧ ClsV c cv ∧ PySem.W.kitOne K (.ref D) cv = some b ∧ Q (.bl b) H
def rIsGT (K : PySem.W.Frag) (a : Addr) (cls : Value) (d : Option Addr) : List V → Hp → VK → Prop := fun xs H Q => ∃ (D tp : Addr) (cs : List V) (us : List Value) (b : Bool), cls = .ref D ∧ DOk d H ∧ ExcC K D ∧ xs = [.ref a, .ref tp] ∧ H tp = some (.tup cs) ∧ Paired ClsV cs us ∧ PySem.W.kitAny K (.ref D) us = some b ∧ Q (.bl b) H
theorem call_isG (hz : Zc cls d oe) (hf : ∃ vs, oe.data = .fields vs) : CallR (X.suite a ((a, oe) :: pn)) (.builtin "isinstance") (rIsG X.K a cls d) := by
  intro pins s σ H xs us Q I r h
  obtain ⟨D, c, cv, b, e1, hd, T, rfl, k, e, q⟩ := h
  obtain ⟨od, J⟩ := zc_any hz hf e1 hd I
  obtain ⟨u1, u2, rfl, r1, r2⟩ := vals2 r
  obtain rfl := k.eq r2
  cases r1
  exact PySem.W.kia_one (kit_own (oe := oe) (od := od) T) I.kIn J e (fun z => nomatch z) fun tk => ⟨.bl b, H, I.tok tk, rfl, q⟩
theorem call_isGT (hz : Zc cls d oe) (hf : ∃ vs, oe.data = .fields vs) : CallR (X.suite a ((a, oe) :: pn)) (.builtin "isinstance") (rIsGT X.K a cls d) := by
  intro pins s σ H xs us Q I r h
  obtain ⟨D, tp, cs, ws, b, e1, hd, T, rfl, hT, k, e, q⟩ := h
  obtain ⟨od, J⟩ := zc_any hz hf e1 hd I
  obtain ⟨u1, u2, rfl, r1, r2⟩ := vals2 r
  cases r1
  cases r2
  obtain ⟨_, its, rv, o, h1, h2, n, h3⟩ := (show ObjOk X.prog X.w H s.heap tp (.tup cs) from I.hok tp _ hT)
  obtain rfl := ClsV.all k rv
  obtain ⟨oc, ox, dt, sl⟩ := o
  dsimp only at h2 h3
  subst h2 h3
  exact PySem.W.kia_tup (kit_own (oe := oe) (od := od) T) I.kIn J h1 e (fun z => nomatch z) fun tk => ⟨.bl b, H, I.tok tk, rfl, q⟩
end
section
variable {X : Cx} {pins : List (Addr × Obj)} {a : Addr} {cls : Value} {d : Option Addr} {σ : L2.St} {H : Hp} {D : Ends} {more : List ExceptHandler} {s : Shared}
/-- an exception of the class cls has come down to this def's own clauses -/
def Fallen (X : Cx) (pins : List (Addr × Obj)) (a : Addr) (cls : Value) (d : Option Addr) (σ : L2.St) (H : Hp) (s : Shared) : Prop := ∃ (B : Heap) (s1 : Shared), Inv X pins σ H s1 ∧ (∀ b o, s1.heap.get? b = some o → b ∉ frs X.stack → B.get? b = some o) ∧
  s1.heap.UpToSlots s.heap ∧ HandSPX.FlyingZ B (X.env :: X.outer) a (Zc cls d) s.heap ∧ H a = none ∧ s.os = s1.os ∧ AllBare s.gens
theorem Fallen.inv (F : Fallen X pins a cls d σ H s) : Inv X pins σ H s ∧ (H a = none ∧ ∃ oe vs, s.heap.get? a = some oe ∧ Zc cls d oe ∧ oe.data = .fields vs) := by
  obtain ⟨B, s1, I, nb, up, fl, na, os, ag⟩ := F
  obtain ⟨oe, vs, e1, e2, e3⟩ := fl.there
  exact ⟨I.landed nb fl.1 up os ag, na, oe, vs, e1, e2, e3⟩
theorem Fallen.off (F : Fallen X pins a cls d σ H s) (hf : X.env.frame = some X.env.locals) : a ≠ X.env.locals ∧ a ∉ X.fs := by
  obtain ⟨B, s1, I, nb, up, fl, na, os, ag⟩ := F
  obtain ⟨oe, vs, e1, e2, e3⟩ := fl.there
  have no : a ∉ frs (X.env :: X.outer) := fun hm => by
    obtain ⟨_, o, e, hnf⟩ := fl.2.2.1.mem hm
    rw [e1] at e
    cases e
    exact hnf _ e3
  refine ⟨fun z => no (List.mem_filterMap.mpr ⟨X.env, List.mem_cons_self, by rw [hf, z]⟩), fun hm => ?_⟩
  obtain ⟨e, he, q⟩ := List.mem_filterMap.mp hm
  exact no (List.mem_filterMap.mpr ⟨e, List.mem_cons_of_mem _ he, q⟩)
/-- none of the clauses was its own -/
theorem fallen_on {Wo : WX} (F : Fallen X pins a cls d σ H s) (hs : X.stack = X.env :: X.outer) (hf : X.env.frame = some X.env.locals) (tk : Takes X Wo) (w : Wo cls d σ H) :
    wpAny (model X.prog X.w) X.A (handleBy (.ref a) X.env []) (SP X pins D) X.xe s := by
  obtain ⟨B, s1, I, nb, up, fl, na, os, ag⟩ := F
  obtain ⟨_, _, _, oe, vs, T, oT, ts', he, hz, hd, h1, hr⟩ := id fl
  have up_ : wpAny (model X.prog X.w) X.A (setFlight (.ref a) X.env.frame) (fun _ s4 => wpAny (model X.prog X.w) X.A (throw (.ref a) : Sem Flow) (SP X pins D) X.xe s4) X.xe s := by
    rw [hf]
    refine HandSPX.setFlight_upZ fl fun h4 hh4 up4 => wpAny_throw (tk _ _ ⟨a, B, s1, pins, σ, H, cls, d, rfl, I, nb, up.trans up4, .inr (.inr ?_), na, os, ag, w⟩)
    rw [hs]
    exact hh4
  refine wpAny_handleBy_nil ?_
  unfold PySem.passOn
  refine wpAny_bind (wpAny_field he hd h1 ?_)
  rw [if_neg (show ¬ ((Value.ref T == Value.none) = true) from by simp)]
  first
    | exact wpAny_bind (wpAny_pure (wpAny_bind up_))
    | exact wpAny_bind up_
/-- 'except x as n: ..': its own, or the next clause's -/
theorem fallen_as {Wo : WX} {x n : Str} {c : Value} {i : Nat} {b0 : Stmt} {suite : List Stmt} {np pc : Pos} {ts : Addr → Value → Option Addr → TS} (F : Fallen X pins a cls d σ H s) (hf : X.env.frame = some X.env.locals) (hN : X.N.Nodup) (hi : X.N[i]? = some n) (hln : X.env.kindOf n = some .local)
    (hc : Names X x c) (hsu : ∀ (a : Addr) (oe : Obj) (cls : Value) (d : Option Addr) (pn : List (Addr × Obj)), Zc cls d oe → (∃ vs, oe.data = .fields vs) → PSs (X.suite a ((a, oe) :: pn)) (b0 :: suite) (ts a cls d))
    (w : wAs X.K c i ts Wo D cls d σ H) (rest : Wo cls d σ H → wpAny (model X.prog X.w) X.A (handleBy (.ref a) X.env more) (SP X pins D) X.xe s) :
    wpAny (model X.prog X.w) X.A (handleBy (.ref a) X.env (.ExceptHandler (some (.Name x np)) (some n) (b0 :: suite) pc :: more)) (SP X pins D) X.xe s := by
  obtain ⟨nL, nF⟩ := F.off hf
  obtain ⟨J, na, oe3, vs3, e3, z3, d3⟩ := F.inv
  obtain ⟨b, hb, yes, no⟩ := w
  have S3 := J.suite e3 d3 na nL nF
  have its : PySem.W.Looks (model X.prog X.w) s.heap (typeOf (.ref a)) cls := fun A Q E s' k q => wpAny_typeOf_ref (k _ _ e3) (by rw [z3.1]; exact q)
  have asks := PySem.W.exm_one (M := model X.prog X.w) J.kIn its hb
  refine wpAny_handleBy_cons (codeAny_handlers_test ?_) (by intro q; cases q)
  have named : ∀ {Q : Value → Shared → Prop} {E : Value → Shared → Prop}, Q c s → wpAny (model X.prog X.w) (X.A.mark (some (.ref a))) (eval (.Name x np) X.env) Q E s := fun {Q E} q => by
    obtain ⟨g1, g2, g3 | ⟨g3, g4, g5⟩⟩ := hc
    · exact ld_glob (X := X.suite a ((a, oe3) :: (X.pn ++ pins))) S3 g1 g3 q g2
    · exact ld_blt (X := X.suite a ((a, oe3) :: (X.pn ++ pins))) S3 g1 g3 g4 q g5 g2
  refine named (asks.here ?_)
  cases b with
  | false => exact rest (no rfl)
  | true =>
    obtain ⟨B, s1, I, nb, up, fl, _, os, ag⟩ := F
    refine codeAny_handlers_suite_as (HandSPX.lands_againZ fl fun h4 fl4 up4 => ?_)
    have F4 : Fallen X pins a cls d σ H { s with heap := h4 } := ⟨B, s1, I, nb, up.trans up4, fl4, na, os, ag⟩
    obtain ⟨J4, _, oe4, vs4, e4, z4, d4⟩ := F4.inv
    have S4 := J4.suite e4 d4 na nL nF
    refine store_ok (X := X.suite a ((a, oe4) :: (X.pn ++ pins))) (v := .ref a) S4 hN hi (.inl hln) rfl (fun s5 S5 => ?_) (.inr hln)
    refine wpAny_mono ((hsu a oe4 cls d (X.pn ++ pins) z4 ⟨_, d4⟩).run [] s5 _ H _ S5 (yes rfl a na)) (fun f s6 out => ?_) fun _ _ z => False.elim z
    have ends : ∀ {σ6 : L2.St} {H6 : Hp} {Q : Shared → Prop}, Inv (X.suite a ((a, oe4) :: (X.pn ++ pins))) [] σ6 H6 s6 → (∀ s7, Inv X pins (σ6.set i none) H6 s7 → Q s7) →
        wpAny (model X.prog X.w) X.A (do bindName X.env n .none; unbindBehindTheSuite X.env n pc) (fun _ s7 => Q s7) X.xe s6 := fun S6 hq => gone_ok (S6.unsuite I.ok) hN hi hln hq
    cases f with
    | next =>
      obtain ⟨σ6, H6, S6, q⟩ := out
      exact ends S6 fun s7 J7 => ⟨_, _, J7, q⟩
    | brk =>
      obtain ⟨σ6, H6, S6, q⟩ := out
      exact ends S6 fun s7 J7 => ⟨_, _, J7, q⟩
    | cont =>
      obtain ⟨σ6, H6, S6, q⟩ := out
      exact ends S6 fun s7 J7 => ⟨_, _, J7, q⟩
    | ret u =>
      obtain ⟨v6, σ6, H6, S6, r6, q⟩ := out
      exact ends S6 fun s7 J7 => ⟨_, _, _, J7, r6, q⟩
/-- try: .. except x as n: .. except y as n: .. -/
theorem ps_try_as2 {x y n m : Str} {c1 c2 : Value} {i j : Nat} {body su1 su2 : List Stmt} {b1 b2 : Stmt} {np1 np2 pc1 pc2 pos : Pos} {tb : WX → TS} {t1 t2 : Addr → Value → Option Addr → TS} {Wo : WX}
    (hs : X.stack = X.env :: X.outer) (hf : X.env.frame = some X.env.locals) (hN : X.N.Nodup) (hi : X.N[i]? = some n) (hj : X.N[j]? = some m) (hl1 : X.env.kindOf n = some .local) (hl2 : X.env.kindOf m = some .local) (hc1 : Names X x c1) (hc2 : Names X y c2) (tk : Takes X Wo)
    (hb : ∀ (W : WX) (pn : List (Addr × Obj)) (xe : Value → Shared → Prop), Takes (X.tr pn xe) W → PassesOwn (model X.prog X.w) X.A X.env xe → PSs (X.tr pn xe) body (tb W))
    (h1 : ∀ (a : Addr) (oe : Obj) (cls : Value) (d : Option Addr) (pn : List (Addr × Obj)), Zc cls d oe → (∃ vs, oe.data = .fields vs) → PSs (X.suite a ((a, oe) :: pn)) (b1 :: su1) (t1 a cls d))
    (h2 : ∀ (a : Addr) (oe : Obj) (cls : Value) (d : Option Addr) (pn : List (Addr × Obj)), Zc cls d oe → (∃ vs, oe.data = .fields vs) → PSs (X.suite a ((a, oe) :: pn)) (b2 :: su2) (t2 a cls d)) :
    PS X (.Try body [.ExceptHandler (some (.Name x np1)) (some n) (b1 :: su1) pc1, .ExceptHandler (some (.Name y np2)) (some m) (b2 :: su2) pc2] [] [] pos) (fun D σ H => tb (wAs X.K c1 i t1 (wAs X.K c2 j t2 Wo D) D) D σ H) := by
  constructor
  intro pins s σ H D I h
  have ok := I.ok
  have hfr : X.A.frames = some (X.env :: X.outer) := ok.frames.trans (congrArg some hs)
  refine wpAny_Try_except (wpAny_mono ((hb (wAs X.K c1 i t1 (wAs X.K c2 j t2 Wo D) D) (X.pn ++ pins) _ (fun u s' xx => ?_) PassesOwn.looking).run [] s σ H D (I.toTry _) h) (fun f s1 out => ?_) fun e s1 he => he)
  · obtain ⟨a, B, s1, pins', σ', H', cls, d, rfl, J', nb, up, sky, na, os, ag, w⟩ := xx
    have sky' : Sky B (X.env :: X.outer) a (Zc cls d) X.env.locals s'.heap := hs ▸ sky
    show wpAny (model X.prog X.w) X.A (noteFrame (.ref a) X.env) _ _ _
    refine Sky.land Zc.steady hfr hf sky' fun h3 fl3 up3 => ?_
    have F : Fallen X pins a cls d σ' H' { s' with heap := h3 } := ⟨B, s1, J'.ofTry ok, nb, up.trans up3, fl3, na, os, ag⟩
    exact fallen_as F hf hN hi hl1 hc1 h1 w fun w => fallen_as F hf hN hj hl2 hc2 h2 w fun w => fallen_on F hs hf tk w
  · cases f with
    | next =>
      obtain ⟨σ6, H6, J, q⟩ := out
      exact wpAny_execs_nil ⟨σ6, H6, J.ofTry ok, q⟩
    | brk =>
      obtain ⟨σ6, H6, J, q⟩ := out
      exact ⟨σ6, H6, J.ofTry ok, q⟩
    | cont =>
      obtain ⟨σ6, H6, J, q⟩ := out
      exact ⟨σ6, H6, J.ofTry ok, q⟩
    | ret u =>
      obtain ⟨v6, σ6, H6, J, r, q⟩ := out
      exact ⟨v6, σ6, H6, J.ofTry ok, r, q⟩
end
section
variable {X : Cx}
theorem call_reprN : CallR X (.builtin "repr") (fun xs H Q => xs = [.non] ∧ Q (.str "None") H) := by
  intro pins s σ H xs us Q I r h
  obtain ⟨rfl, q⟩ := h
  obtain ⟨u, rfl, r1⟩ := vals1 r
  cases r1
  exact PySem.P.repr_of_none ⟨.str _, H, I.tok _, ⟨_, rfl⟩, q⟩
/-- repr of any data -/
theorem call_reprA (hg : X.A.guards = some []) (hu : X.A.units + 64 < cLine) (hm : HasMods X.K) : CallR X (.builtin "repr") (fun xs H Q => ∃ (v : V) (d : PyData), xs = [v] ∧ Dx H v d ∧ d.showable = true ∧ d.depth ≤ 60 ∧ d.shown.length ≤ sizeLine ∧ Q (.str d.shown) H) := by
  intro pins s σ H xs us Q I r h
  obtain ⟨v, d, rfl, hd, hs, hdp, hz, q⟩ := h
  cases v with
  | str z =>
    cases hd
    obtain ⟨u, rfl, r1⟩ := vals1 r
    obtain ⟨t, rfl⟩ := r1
    exact PySem.P.repr_of_str ⟨.str (reprText z), H, I.tok _, ⟨_, rfl⟩, q⟩ hz
  | ref a => exact call_reprX hg hu hm pins s σ H [.ref a] us Q I r ⟨a, d, rfl, hd, hs, hdp, hz, q⟩
  | non =>
    cases hd
    exact call_reprN pins s σ H _ us Q I r ⟨rfl, q⟩
  | int i =>
    cases hd
    exact call_reprI pins s σ H _ us Q I r ⟨i, rfl, of_decide_eq_true hs, q⟩
  | bl b =>
    cases hd
    exact call_reprB pins s σ H _ us Q I r ⟨b, rfl, by cases b <;> exact q⟩
  | _ => cases hd
end
section
variable {X : Cx}
/-- lists of pairs of texts, alike item by item -/
def rEqTS (K : PySem.W.Frag) : R2 := fun x y H Q => ∃ (p q : Addr) (xs ys : List V), x = .ref p ∧ y = .ref q ∧ SqL K H p xs ∧ SqL K H q ys ∧ xs.length = ys.length ∧
  (∀ (j : Nat) (v u : V), xs[j]? = some v → ys[j]? = some u → ∃ a b z1 z2, v = .ref a ∧ u = .ref b ∧ a ≠ b ∧ H a = some (.tup [.str z1, .str z2]) ∧ H b = some (.tup [.str z1, .str z2])) ∧ Q (.bl true) H
theorem vals_at {xs : List V} {us : List Value} (r : Vals xs us) {j : Nat} {u : Value} (h : us[j]? = some u) : ∃ v, xs[j]? = some v ∧ RelV v u := by
  induction r generalizing j with
  | nil => simp at h
  | cons a b ih =>
    cases j with
    | zero => cases h; exact ⟨_, rfl, a⟩
    | succ j => exact ih h
theorem op_eqTS (hu : X.A.units + 64 < cLine) : OpR X (compareOp .Eq) (rEqTS X.K) := by
  intro pins s σ H x y v u Q I rx ry h
  obtain ⟨p, q, xs, ys, rfl, rfl, hp, hq, hl, same, k⟩ := h
  cases rx
  cases ry
  obtain ⟨its, r1, l1, _⟩ := I.list hp
  obtain ⟨jts, r2, l2, _⟩ := I.list hq
  have n1 := r1.length
  have n2 := r2.length
  have pair : ∀ {a : Addr} {z1 z2 : Str}, H a = some (.tup [.str z1, .str z2]) → ∃ t1 t2, s.heap.IsTuple a #[.str z1 t1, .str z2 t2] := fun {a z1 z2} e => by
    obtain ⟨ks, rk, tk, _⟩ := I.tuple (SqT.of e)
    cases rk with
    | cons k1 rk =>
      cases rk with
      | cons k2 rk =>
        cases rk
        obtain ⟨t1, rfl⟩ := k1
        obtain ⟨t2, rfl⟩ := k2
        exact ⟨t1, t2, tk⟩
  refine SeqAt.eq_listAt (e := fun _ => true) l1.isList l2.isList (by simp only [List.size_toArray]; omega) (by omega) (fun j h1 h2 => ?_) ?_
  · simp only [List.size_toArray] at h1 h2
    obtain ⟨v, hv, rv⟩ := vals_at r1 (List.getElem?_eq_getElem h1)
    obtain ⟨u, hw, ru⟩ := vals_at r2 (List.getElem?_eq_getElem h2)
    obtain ⟨a, b, z1, z2, rfl, rfl, ne, ha, hb⟩ := same j v u hv hw
    obtain ⟨t1, t2, ka⟩ := pair ha
    obtain ⟨u1, u2, kb⟩ := pair hb
    simp only [List.getElem_toArray]
    rw [show its[j] = Value.ref a from rv, show jts[j] = Value.ref b from ru]
    have go := SeqAt.RcAt.tuples (A := X.A.in1) (s := s) (e := fun _ => true) ka kb (by show X.A.units + 1 < cLine; omega) (fun i g1 g2 => by
      have e : ∀ (z : Str) (t u : Tok), SeqAt.EqAt X.A.in1.in1 s (.str z t) (.str z u) true := fun z t u => by
        have := SeqAt.EqAt.str_str (A := X.A.in1.in1) (s := s) z t z u
        rw [beq_self_eq_true] at this
        exact this
      match i, g1 with
      | 0, _ => exact e z1 t1 u1
      | 1, _ => exact e z2 t2 u2)
    exact SeqAt.EqAt.of_refs ne go
  · have al : (List.range its.toArray.size).all (fun _ => true) = true := by simp
    rw [al]
    exact ⟨.bl _, H, I, rfl, k⟩
end
end Cw
/-! an own class with two fields, raised; an instance made by an __init__ that may raise -/
namespace Cw
open PySem PySem.Spec PyProof.Rows L2
/-- an own class with two fields, raised -/
structure Rz2 (P : Program) (w : World) (K : PySem.W.Frag) (mg : Str → Option Value) (base : Heap) (x f f2 : Str) (C : Addr) : Prop where
  g : mg x = some (.ref C)
  how : ∃ (fI : Addr) (fd : FuncData) (B newId initId : String) (bmB : List Value), ExT K C B newId initId bmB ∧ PySem.W.findIn K (.ref C) "__init__" = some (some (.ref fI)) ∧ PySem.W.typeIn K (.ref fI) = some (.type "function") ∧
    FnOk P w K mg base CX0 1 fI fd ["self", f, f2] (spI2 C f f2) ∧ Binds K fd ["self", f, f2] []
  ty : PySem.W.typeIn K (.ref C) = some (.type "type")
  ex : PySem.W.exmOne K (.ref C) (.ref C) = some true
def NewX2 (f g : Str) (v u : V) (H : Hp) (d : Addr) (H' : Hp) : Prop := H d = none ∧ H' d = some (.xd [(g, u), (f, v)]) ∧ Same H H'
def tRz2 (C : Addr) (f g : Str) (W : WX) (ta tb : TE) : TS := fun _ σ H => ta σ H fun v H1 => tb σ H1 fun u H2 => ∀ d H3, NewX2 f g v u H2 d H3 → W (.ref C) (some d) σ H3
theorem ps_raise2 {X : Cx} {W : WX} {x f g : Str} {C : Addr} {e1 e2 : Expr} {ta tb : TE} {p pos pos2 : Pos} (hc : X.calm = true) (tk : Takes X W) (R : Rz2 X.prog X.w X.K X.mg X.base x f g C) (hr : Room 2 X.A) (hg : Gl X x) (h1 : PE X e1 ta) (h2 : PE X e2 tb)
    (hdb : (x == ("__debug__" : Str)) = false := by decide) (hs1 : starEach [e1, e2] X.env = (false, eval e1 X.env) :: starEach [e2] X.env := by rfl) (hs2 : starEach [e2] X.env = (false, eval e2 X.env) :: starEach [] X.env := by rfl)
    (hpl : (backTo pos (starEach [e2] X.env)).any (·.1) = false := by rfl) : PS X (.Raise (some (.Call (.Name x p) [e1, e2] [] pos)) none pos2) (tRz2 C f g W ta tb) := by
  obtain ⟨fI, fd, B, nI, iI, bm, T, iC, tI, G, b⟩ := R.how
  have h := ps_raise (pos := pos2) hc tk (pmk_x (pos := pos) (p := p) (es := [e2]) T R.ty iC tI G hr b pass0 hg R.g (pa_cons (pe_imp h1) (pa_cons (pe_imp h2) pa_nil hs2) hs1) hdb hs1 hpl)
  refine ⟨fun pins s σ H D I hw => h.run pins s σ H D I ?_⟩
  refine ⟨_, hw, fun v H1 q => ⟨_, q, fun u H2 q2 => ⟨by show 2 ≤ 1000; decide, fun a na => ⟨a, v, u, rfl, upd_same, fun dx ndx hne => ?_⟩⟩⟩⟩
  rw [upd_ne hne] at ndx
  have ad : a ≠ dx := fun z => hne z.symm
  refine ⟨rfl, dx, [(g, u), (f, v)], ?_, upd_same, ndx, q2 dx _ ⟨ndx, ?_, fun b o e => ?_⟩⟩
  · rw [upd_ne ad, upd_same]
  · rw [upd_same]
  · have nb : b ≠ dx := ne_of_none e ndx
    have na2 : b ≠ a := ne_of_none e na
    rw [upd_ne nb, del_ne na2, upd_ne nb, upd_ne na2, upd_ne nb, upd_ne na2]
    exact e
section
variable {X : Cx} {CX : CXT} {k n : Nat} {f C : Addr} {fd : FuncData} {ps ks : List Str} {sp : Sp} {E : L2.St → XK} {x : Str} {p pos : Pos} {e : Expr} {es : List Expr} {kws : List Keyword} {t tk : TA} {g : List Value → List Value → List Value} {gV : List V → List V → List V}
/-- C(e, .., k = v, ..), whose __init__ may raise -/
theorem pe_makeKS (M : Mk X.K C f) (F : FnOk X.prog X.w X.K X.mg X.base CX k f fd ps sp) (hr : Room (k + 1) X.A) (hg : Gl X x) (hm : X.mg x = some (.ref C)) (hb : KBn X.K fd ps (n + 1) ks g gV) (hx : ∀ σ, PassesAt CX X σ (E σ)) (ha : PA X (e :: es) t) (hkw : PK X kws tk)
    (hall : (backToKw pos (keywordEach kws X.env)).all (·.1.isSome) = true := by rfl) (hks : (backToKw pos (keywordEach kws X.env)).filterMap (·.1) = ks := by rfl) (hdb : (x == ("__debug__" : Str)) = false := by decide)
    (he : starEach (e :: es) X.env = (false, eval e X.env) :: starEach es X.env := by rfl) (hpl : ((backTo pos (starEach (e :: es) X.env)).any (·.1) || (backToKw pos (keywordEach kws X.env)).any (·.1.isNone)) = false := by rfl) :
    PE X (.Call (.Name x p) (e :: es) kws pos) (fun σ H Q => tMakeK C n ks.length sp gV (E σ) t tk σ H Q) := by
  refine ⟨fun pins s σ H Q I h => wpAny_Call_Name_kw (ld_glob I hg hm ?_ hdb)⟩
  refine PySem.W.callWith_KW (h₀ := X.base) I.ok.mod.kin M.kp hall (thn (ha.run pos pins s σ H _ I h) fun us s1 z => ?_) hpl he
  obtain ⟨vs, H1, I1, r, q⟩ := z
  refine thn (hkw.run pos pins s1 σ H1 _ I1 q) fun ws s2 z => ?_
  obtain ⟨zs, H2, I2, rz, l1, l2, q2⟩ := z
  refine ⟨I2.kIn, ?_⟩
  rw [hks]
  have sizes := q2 (s2.heap.objs.size + 1) s2.heap.objs.size (I2.hok.fresh (Nat.le_succ _)) (I2.hok.fresh (Nat.le_refl _)) (Nat.ne_of_lt (Nat.lt_succ_self _))
  have J := Inv.made (C := C) I2
  have me : Vals (V.ref (s2.heap.objs.size + 1) :: vs) (Value.ref (s2.heap.objs.size + 1) :: us) := .cons rfl r
  have len : (Value.ref (s2.heap.objs.size + 1) :: us).length = n + 1 := congrArg (· + 1) (r.length.symm.trans l1)
  have ran := F.run _ X.stack _ _ ⟨Value.ref (s2.heap.objs.size + 1) :: us, ks.zip ws⟩ (g (Value.ref (s2.heap.objs.size + 1) :: us) ws) _ _ (E σ) (hr.make C us (ks.zip ws)) (J.env0.make C us (ks.zip ws))
    (hb.to _ (Value.ref (s2.heap.objs.size + 1) :: us) ws J.kIn len (rz.length.symm.trans l2)) (hb.rel me rz) sizes
  refine wpAny_call (make_map (f := f) I2.kIn M.makes M.init (beq_iff_eq.mp M.fn) (codeAny_mono ran fun res s' out => ?_))
  match res, out with
  | .error er, out => exact hx σ pins _ _ er s' J out
  | .ok .next, out => exact out.elim
  | .ok .brk, out => exact out.elim
  | .ok .cont, out => exact out.elim
  | .ok (.ret u), out =>
    obtain ⟨v, H', J', rv, ev, q3⟩ := J.after out
    subst ev
    exact ⟨rv, ⟨V.ref (s2.heap.objs.size + 1), H', J', rfl, q3⟩⟩
end
end Cw
/-! anything but a list != (), a tuple == () -/
namespace Cw
open PySem PySem.Spec PySem.Calls PyProof.Rows L2
section
variable {A : Around} {s : Shared}
theorem tuple_ne_dict (l b : Addr) (items : Array Value) (n : Nat) (dd : Option Addr) (sl : Array (Option Value)) (o : Obj) : Meets (Builtin.«tuple.__ne__» ⟨[.ref l, .ref b], []⟩) (fun _ R s => s.heap.get? l = some { cls := .type "tuple", dict := dd, data := .seq items n, slots := sl } ∧ s.heap.get? b = some o ∧ o.cls = .type "dict" ∧ R (.ok (.ret .notImplemented)) s) :=
  .of_wp fun prog w A R s h => by
    obtain ⟨hp, g, d, tk, os⟩ := s
    obtain ⟨hl, hb, hc, h⟩ := h
    obtain ⟨cls, d2, data, s2⟩ := o
    cases hc
    have f1 := PySem.F.sub_dict_tuple
    wp_walk using wpAny_loadPart' hl, wpAny_loadPart' hb, wpAny_load hb
    exact ⟨_, rfl, h⟩
theorem dict_ne_tuple (l b : Addr) (items : Array Value) (n : Nat) (dd : Option Addr) (sl : Array (Option Value)) (o : Obj) : Meets (Builtin.«dict.__ne__» ⟨[.ref b, .ref l], []⟩) (fun _ R s => s.heap.get? l = some { cls := .type "tuple", dict := dd, data := .seq items n, slots := sl } ∧ s.heap.get? b = some o ∧ o.cls = .type "dict" ∧ (∃ es ep, o.data = .dict es ep) ∧ R (.ok (.ret .notImplemented)) s) :=
  .of_wp fun prog w A R s h => by
    obtain ⟨hp, g, d, tk, os⟩ := s
    obtain ⟨hl, hb, hc, ⟨es, ep, hd⟩, h⟩ := h
    obtain ⟨cls, d2, data, s2⟩ := o
    cases hc
    cases hd
    have f1 := PySem.F.sub_tuple_dict
    wp_walk using wpAny_loadPart' hl, wpAny_loadPart' hb, wpAny_load hb, wpAny_load hl
    exact ⟨_, rfl, h⟩
theorem rcNe_dict_tuple {l b : Addr} {items : Array Value} {o : Obj} (hl : s.heap.IsTuple l items) (ho2 : s.heap.get? b = some o) (hc2 : o.cls = .type "dict") (hd2 : ∃ es ep, o.data = .dict es ep) (hu : A.units < cLine) : SeqAt.RcNeAt A s (.ref b) (.ref l) true := fun prog w E Q h => by
  obtain ⟨⟨cls, dd, data, sl⟩, ho, hc, n, hd⟩ := id hl
  simp only at hc hd
  subst hc hd
  have hne : b ≠ l := fun z => by
    rw [z, ho] at ho2
    rw [← Option.some.inj ho2] at hc2
    exact absurd hc2 (by simp)
  exact (SeqAt.rc_ne_decline_or (k := false) ⟨_, ho2, hc2⟩ ⟨_, ho, rfl⟩ (by decide) PySem.F.sub_tuple_dict PySem.F.slot_dict_ne PySem.F.slot_tuple_ne_refl
    (fun _ hq => call_meets PySem.F.slot_dict_ne ⟨_, ho2, hc2⟩ PySem.F.entry_dict_ne (PySem.F.args_dict_ne_2 _ _) (dict_ne_tuple l b items n dd sl o) ⟨ho, ho2, hc2, hd2, hq⟩)
    (fun _ hq => call_meets PySem.F.slot_tuple_ne_refl ⟨_, ho, rfl⟩ PySem.F.entry_tuple_ne (PySem.F.args_tuple_ne_2 _ _) (tuple_ne_dict l b items n dd sl o) ⟨ho, ho2, hc2, hq⟩)
    (fun _ hq => wpAny_isSame_ref_other hne ho2 ho (by rw [hc2]; decide) hq) (.inr hu) h)
end
def isNilT : PyData → Bool | .tuple [] => true | _ => false
/-- is it other than the empty tuple -/
def rNeNilT (K : PySem.W.Frag) : R2 := fun x y H Q => ∃ (d : PyData) (q : Addr), y = .ref q ∧ SqT K H q [] ∧ Dx H x d ∧ Q (.bl (!isNilT d)) H
section
variable {X : Cx}
theorem op_neNilT (hu : X.A.units + 1 < cLine) : OpR X (compareOp .NotEq) (rNeNilT X.K) := by
  intro pins s σ H x y v u Q I rx ry h
  obtain ⟨d, q, rfl, hq, hd, k⟩ := h
  cases ry
  obtain ⟨jts, r2, l2, _⟩ := I.tuple hq
  cases r2
  have room : X.A.units < cLine := by omega
  have fin : ∀ {b : Bool}, SeqAt.RcNeAt X.A s v (.ref q) b → b = (!isNilT d) → wpAny (model X.prog X.w) X.A (compareOp .NotEq v (.ref q)) (EP X pins σ Q) X.xe s := fun {b} hb e => hb X.prog X.w _ _ ⟨.bl _, H, I, congrArg Value.bool e, k⟩
  cases hd with
  | non => cases rx; exact fin (SeqAt.RcNeAt.none_tuple l2 room) rfl
  | bl b => cases rx; exact fin (SeqAt.RcNeAt.bool_tuple b l2 room) rfl
  | int i => obtain ⟨t, rfl⟩ := rx; exact fin (SeqAt.RcNeAt.int_tuple i t l2 room) rfl
  | str z => obtain ⟨t, rfl⟩ := rx; exact fin (SeqAt.RcNeAt.str_tuple z t l2 room) rfl
  | lst e ra =>
    cases rx
    obtain ⟨_, its, n, rv, ho⟩ := I.hok _ _ e
    exact fin (SeqAt.RcNeAt.list_tuple (items := its.toArray) ⟨_, ho, rfl, n, rfl⟩ l2 room) rfl
  | @tup a xs ds e ra n =>
    cases rx
    obtain ⟨_, its, rv, o, ho, hc, n', hd⟩ := I.hok _ _ e
    refine fin (SeqAt.RcNeAt.tuples (items := its.toArray) (e := fun _ => true) ⟨_, ho, hc, n', hd⟩ l2 room (fun j _ h2 => absurd h2 (by simp))) ?_
    cases ds with
    | nil => cases n
    | cons a b => 
      cases ra
      cases rv
      simp [isNilT]
  | @tupy a xs ds e ra n =>
    cases rx
    have gen : ∀ its, Vals xs its → s.heap.IsTuple a its.toArray → wpAny (model X.prog X.w) X.A (compareOp .NotEq (.ref a) (.ref q)) (EP X pins σ Q) X.xe s := fun its rv hi => by
      refine fin (SeqAt.RcNeAt.tuples (items := its.toArray) (e := fun _ => true) hi l2 room (fun j _ h2 => absurd h2 (by simp))) ?_
      cases ds with
      | nil => cases ra; cases rv; rfl
      | cons a b =>
        cases ra
        cases rv
        simp [isNilT]
    rcases e with e | ⟨o, dn, e⟩
    · obtain ⟨_, its, rv, o, ho, hc, n', hd⟩ := I.hok _ _ e
      exact gen its rv ⟨_, ho, hc, n', hd⟩
    · obtain ⟨_, _, its, rv, o, ho, hc, n', hd⟩ := I.hok _ _ e
      exact gen its rv ⟨_, ho, hc, n', hd⟩
  | emp e =>
    cases rx
    obtain ⟨_, ns, vs, kv, o, es, ep, ho, hx, hd, hn⟩ := I.hok _ _ e
    exact fin (rcNe_dict_tuple l2 ho hx.1 ⟨_, _, hd⟩ room) rfl
/-- a tuple, is it empty -/
def rEqNilT (K : PySem.W.Frag) : R2 := fun x y H Q => ∃ (p q : Addr) (xs : List V), x = .ref p ∧ y = .ref q ∧ SqT K H p xs ∧ SqT K H q [] ∧ Q (.bl xs.isEmpty) H
theorem op_eqNilT (hu : X.A.units + 1 < cLine) : OpR X (compareOp .Eq) (rEqNilT X.K) := by
  intro pins s σ H x y v u Q I rx ry h
  obtain ⟨p, q, xs, rfl, rfl, hp, hq, k⟩ := h
  cases rx
  cases ry
  obtain ⟨its, r1, l1, _⟩ := I.tuple hp
  obtain ⟨jts, r2, l2, _⟩ := I.tuple hq
  cases r2
  have room : X.A.units < cLine := by omega
  refine SeqAt.RcAt.tuples (items := its.toArray) (e := fun _ => true) l1 l2 room (fun j _ h2 => absurd h2 (by simp)) X.prog X.w _ _ ⟨.bl _, H, I, congrArg Value.bool ?_, k⟩
  cases xs with
  | nil => cases r1; rfl
  | cons a r => cases r1; simp
end
end Cw
/-! xs[lo::2] of a list -/
namespace Cw
open PySem PySem.Spec PyProof.Rows L2
def every2 {α : Type} : List α → List α
  | [] => []
  | [a] => [a]
  | a :: _ :: r => a :: every2 r
theorem every2_map {α β : Type} (f : α → β) : ∀ l : List α, every2 (l.map f) = (every2 l).map f
  | [] => rfl
  | [a] => rfl
  | a :: b :: r => by
    show f a :: every2 (r.map f) = f a :: (every2 r).map f
    rw [every2_map f r]
theorem every2_len {α : Type} : ∀ l : List α, (every2 l).length = (l.length + 1) / 2
  | [] => by simp [every2]
  | [a] => by simp [every2]
  | a :: b :: r => by
    show (every2 r).length + 1 = _
    rw [every2_len r]
    simp only [List.length_cons]
    omega
theorem pick2 {α : Type} (l : List α) : ∀ (c a : Nat), c = (l.length - a + 1) / 2 → (List.range c).filterMap (fun k => l[a + 2 * k]?) = every2 (l.drop a)
  | 0, a, h => by
    have : l.length ≤ a := by omega
    rw [List.drop_of_length_le this]
    rfl
  | c + 1, a, h => by
    have ha : a < l.length := by omega
    rw [List.range_succ_eq_map, List.filterMap_cons, List.filterMap_map]
    have e0 : l[a + 2 * 0]? = some l[a] := by rw [Nat.mul_zero, Nat.add_zero, List.getElem?_eq_getElem ha]
    rw [e0]
    have e1 : ((fun k => l[a + 2 * k]?) ∘ Nat.succ) = fun k => l[a + 2 + 2 * k]? := by
      funext k
      show l[a + 2 * (k + 1)]? = _
      rw [show a + 2 * (k + 1) = a + 2 + 2 * k from by omega]
    rw [e1, pick2 l c (a + 2) (by omega), List.drop_eq_getElem_cons ha]
    by_cases h2 : a + 1 < l.length
    · rw [List.drop_eq_getElem_cons h2]
      rfl
    · rw [List.drop_of_length_le (show l.length ≤ a + 1 by omega), List.drop_of_length_le (show l.length ≤ a + 2 by omega)]
      rfl
theorem slicePick_2 (items : Array Value) (lo : Nat) : slicePick items (some (lo : Int)) none (some 2) = (every2 (items.toList.drop lo)).toArray := by
  have b : sliceBounds (some (lo : Int)) none (some 2) items.size = (((min lo items.size : Nat) : Int), (items.size : Int), 2) := by
    have e : sliceBounds (some (lo : Int)) none (some 2) items.size = (max 0 (min (if (lo : Int) < 0 then (lo : Int) + items.size else (lo : Int)) (items.size : Int)), (items.size : Int), 2) := rfl
    rw [e, if_neg (show ¬ (lo : Int) < 0 by omega)]
    refine Prod.ext ?_ rfl
    show max 0 (min (lo : Int) (items.size : Int)) = _
    omega
  unfold slicePick
  rw [b]
  show ((sliceRange ((min lo items.size : Nat) : Int) (items.size : Int) 2).filterMap (items[·]?)).toArray = _
  have r : sliceRange ((min lo items.size : Nat) : Int) (items.size : Int) 2 = (List.range ((items.toList.length - min lo items.size + 1) / 2)).map fun k => min lo items.size + 2 * k := by
    unfold sliceRange
    rw [if_pos (by decide)]
    have c : (if ((min lo items.size : Nat) : Int) < (items.size : Int) then ((items.size : Int) - ((min lo items.size : Nat) : Int) + 2 - 1) / 2 else 0).toNat = (items.toList.length - min lo items.size + 1) / 2 := by
      rw [Array.length_toList]
      split <;> omega
    show (List.range (if ((min lo items.size : Nat) : Int) < (items.size : Int) then ((items.size : Int) - ((min lo items.size : Nat) : Int) + 2 - 1) / 2 else 0).toNat).map _ = _
    rw [c]
    refine List.map_congr_left fun k _ => ?_
    show (((min lo items.size : Nat) : Int) + 2 * (k : Int)).toNat = _
    omega
  rw [r, List.filterMap_map]
  have f : ((fun x => items[x]?) ∘ fun k => min lo items.size + 2 * k) = fun k => items.toList[min lo items.size + 2 * k]? := by
    funext k
    show items[_]? = items.toList[_]?
    rw [Array.getElem?_toList]
  rw [f, pick2 items.toList _ _ rfl]
  congr 1
  by_cases h : lo ≤ items.size
  · rw [Nat.min_eq_left h]
  · rw [Nat.min_eq_right (by omega), List.drop_of_length_le (l := items.toList) (i := items.size) (by rw [Array.length_toList]; exact Nat.le_refl _), List.drop_of_length_le (by rw [Array.length_toList]; omega)]
section
variable {X : Cx}
def tStep2 (K : PySem.W.Frag) (lo : Nat) (te : TE) : TE := fun σ H Q => te σ H fun x H1 => ∃ a xs, x = .ref a ∧ SqL K H1 a xs ∧ ∀ p, H1 p = none → Q (.ref p) (upd H1 p (.lst (every2 (xs.drop lo))))
theorem every2_rel : ∀ {xs : List V} {its : List Value}, Vals xs its → Vals (every2 xs) (every2 its)
  | [], [], _ => .nil
  | [a], [b], h => h
  | a :: b :: r, c :: d :: q, h => by
    cases h with
    | cons p h =>
      cases h with
      | cons p2 h => exact .cons p (every2_rel h)
  | [], _ :: _, h => by cases h
  | _ :: _, [], h => by cases h
  | [_], _ :: _ :: _, h => by
    cases h with
    | cons _ h => cases h
  | _ :: _ :: _, [_], h => by
    cases h with
    | cons _ h => cases h
theorem pe_step2 {e : Expr} {te : TE} {lo k0 k : Nat} {p0 p1 p3 pos : Pos} (he : PE X e te) : PE X (.Subscript e (.Slice (some (.Constant (.int lo) k0 p0)) none (some (.Constant (.int 2) k p1)) p3) pos) (tStep2 X.K lo te) := by
  refine ⟨fun pins s σ H Q I h => ?_⟩
  refine Subscript_ (thn (he.run pins s σ H _ I h) fun v s1 ⟨x, H1, I1, r1, q1⟩ => ?_)
  obtain ⟨a, xs, ex, hx, q⟩ := q1
  subst ex
  cases r1
  have hlo : PO X (some (.Constant (.int lo) k0 p0)) (tPart (tC (.int lo))) := po_some pe_int
  have hst : PO X (some (.Constant (.int 2) k p1)) (tPart (tC (.int 2))) := po_some pe_int
  refine wpAny_Slice (thn (hlo.run pins s1 σ H1 (fun o H2 => o = some (lo : Int) ∧ H2 = H1) I1 ⟨_, rfl, rfl, rfl⟩) fun vl s2 ⟨l, H2, I2, pl, el, e2⟩ => ?_)
  subst el e2
  refine thn (po_none.run pins s2 σ H2 (fun o H3 => o = none ∧ H3 = H2) I2 ⟨rfl, rfl⟩) fun vu s3 ⟨u, H3, I3, pu, eu, e3⟩ => ?_
  subst eu e3
  refine thn (hst.run pins s3 σ H3 (fun o H4 => o = some 2 ∧ H4 = H3) I3 ⟨_, rfl, rfl, rfl⟩) fun vs s4 ⟨o, H4, I4, ps, eo, e4⟩ => ?_
  subst eo e4
  have I5 : Inv X pins σ H4 { s4 with heap := s4.heap.push { cls := .type "slice", data := .fields #[vl, vu, vs] } } := I4.kept (t' := s4.toks) fun b ob q => Heap.get?_push_of_some _ q
  obtain ⟨its, r, ht, hz⟩ := I5.list hx
  have hlen := r.length
  show wpAny (model X.prog X.w) X.A (subscriptTail e (.Slice (some (.Constant (.int lo) k0 p0)) none (some (.Constant (.int 2) k p1)) p3) (.ref a) (.ref s4.heap.objs.size)) (EP X pins σ Q) X.xe { s4 with heap := s4.heap.push { cls := .type "slice", data := .fields #[vl, vu, vs] } }
  refine tail_any (ops := [.ref a, .ref s4.heap.objs.size]) ht.isList.typeIs (PySem.slot_list_getitem.lookup) ?_ (by with_unfolding_all rfl)
  refine wpAny_getItem_list_slice ht.isList (Heap.IsSliceOf.new _ vl vu vs) pl pu ps (by decide) ?_ (by rw [List.size_toArray]; omega)
  rw [slicePick_2]
  refine ⟨.ref _, _, I5.laid (t' := s4.toks) (o := .lst (every2 (xs.drop lo))) (fun b ob q => Heap.get?_push_of_some _ q) (Nat.le_refl _) ?_, rfl, q _ (I5.hok.fresh (Nat.le_refl _))⟩
  exact ⟨by rw [every2_len, List.length_drop]; omega, _, 0, every2_rel (r.drop lo), Heap.get?_push_size _ rfl⟩
end
end Cw
namespace Cw
open PySem PySem.Spec PyProof.Rows L2
def top (i : Nat) : Stmt := PySem.Challenge.pw_crywalks_k22_whole_texts_spoilt.main.body.getD i (.Pass ⟨0, 0, 0, 0⟩)
abbrev S__wall : Stmt := top 0
abbrev N__wall : List Str := ["k"]
abbrev P__wall : List Str := ["k"]
theorem sc__wall : FnScope N__wall P__wall (defScope S__wall) := ⟨rfl, rfl, rfl, by decide +kernel, rfl, by decide +kernel, by decide +kernel⟩
abbrev S_NoWeb_init : Stmt := inClass (top 3) 0
abbrev N_NoWeb_init : List Str := ["self", "what", "who"]
abbrev P_NoWeb_init : List Str := ["self", "what", "who"]
theorem sc_NoWeb_init : FnScope N_NoWeb_init P_NoWeb_init (defScope S_NoWeb_init) := ⟨rfl, rfl, rfl, by decide +kernel, rfl, by decide +kernel, by decide +kernel⟩
abbrev S_NoText_init : Stmt := inClass (top 4) 0
abbrev N_NoText_init : List Str := ["self", "row"]
abbrev P_NoText_init : List Str := ["self", "row"]
theorem sc_NoText_init : FnScope N_NoText_init P_NoText_init (defScope S_NoText_init) := ⟨rfl, rfl, rfl, by decide +kernel, rfl, by decide +kernel, by decide +kernel⟩
abbrev S_NoWalk_init : Stmt := inClass (top 5) 0
abbrev N_NoWalk_init : List Str := ["self", "number"]
abbrev P_NoWalk_init : List Str := ["self", "number"]
theorem sc_NoWalk_init : FnScope N_NoWalk_init P_NoWalk_init (defScope S_NoWalk_init) := ⟨rfl, rfl, rfl, by decide +kernel, rfl, by decide +kernel, by decide +kernel⟩
abbrev S_NoPaper_init : Stmt := inClass (top 6) 0
abbrev N_NoPaper_init : List Str := ["self", "row"]
abbrev P_NoPaper_init : List Str := ["self", "row"]
theorem sc_NoPaper_init : FnScope N_NoPaper_init P_NoPaper_init (defScope S_NoPaper_init) := ⟨rfl, rfl, rfl, by decide +kernel, rfl, by decide +kernel, by decide +kernel⟩
abbrev S_NoSuch_init : Stmt := inClass (top 9) 0
abbrev N_NoSuch_init : List Str := ["self", "who"]
abbrev P_NoSuch_init : List Str := ["self", "who"]
theorem sc_NoSuch_init : FnScope N_NoSuch_init P_NoSuch_init (defScope S_NoSuch_init) := ⟨rfl, rfl, rfl, by decide +kernel, rfl, by decide +kernel, by decide +kernel⟩
abbrev S_is_whole : Stmt := top 16
abbrev N_is_whole : List Str := ["thing"]
abbrev P_is_whole : List Str := ["thing"]
theorem sc_is_whole : FnScope N_is_whole P_is_whole (defScope S_is_whole) := ⟨rfl, rfl, rfl, by decide +kernel, rfl, by decide +kernel, by decide +kernel⟩
abbrev S_is_name : Stmt := top 17
abbrev N_is_name : List Str := ["thing", "letter"]
abbrev P_is_name : List Str := ["thing"]
theorem sc_is_name : FnScope N_is_name P_is_name (defScope S_is_name) := ⟨rfl, rfl, rfl, by decide +kernel, rfl, by decide +kernel, by decide +kernel⟩
abbrev S_is_state : Stmt := top 18
abbrev N_is_state : List Str := ["thing"]
abbrev P_is_state : List Str := ["thing"]
theorem sc_is_state : FnScope N_is_state P_is_state (defScope S_is_state) := ⟨rfl, rfl, rfl, by decide +kernel, rfl, by decide +kernel, by decide +kernel⟩
abbrev S_is_length : Stmt := top 19
abbrev N_is_length : List Str := ["thing", "rounds"]
abbrev P_is_length : List Str := ["thing", "rounds"]
theorem sc_is_length : FnScope N_is_length P_is_length (defScope S_is_length) := ⟨rfl, rfl, rfl, by decide +kernel, rfl, by decide +kernel, by decide +kernel⟩
abbrev S_is_tuple_of : Stmt := top 20
abbrev N_is_tuple_of : List Str := ["thing", "many"]
abbrev P_is_tuple_of : List Str := ["thing", "many"]
theorem sc_is_tuple_of : FnScope N_is_tuple_of P_is_tuple_of (defScope S_is_tuple_of) := ⟨rfl, rfl, rfl, by decide +kernel, rfl, by decide +kernel, by decide +kernel⟩
abbrev S_are_ends : Stmt := top 21
abbrev N_are_ends : List Str := ["one", "other", "states"]
abbrev P_are_ends : List Str := ["one", "other", "states"]
theorem sc_are_ends : FnScope N_are_ends P_are_ends (defScope S_are_ends) := ⟨rfl, rfl, rfl, by decide +kernel, rfl, by decide +kernel, by decide +kernel⟩
abbrev S_are_hearers : Stmt := top 22
abbrev N_are_hearers : List Str := ["thing", "length", "ahead", "hearer", "place", "state"]
abbrev P_are_hearers : List Str := ["thing", "length"]
theorem sc_are_hearers : FnScope N_are_hearers P_are_hearers (defScope S_are_hearers) := ⟨rfl, rfl, rfl, by decide +kernel, rfl, by decide +kernel, by decide +kernel⟩
abbrev S_checked_persons : Stmt := top 23
abbrev N_checked_persons : List Str := ["persons", "states", "number", "person", "name", "state"]
abbrev P_checked_persons : List Str := ["persons"]
theorem sc_checked_persons : FnScope N_checked_persons P_checked_persons (defScope S_checked_persons) := ⟨rfl, rfl, rfl, by decide +kernel, rfl, by decide +kernel, by decide +kernel⟩
abbrev S_checked_ties : Stmt := top 24
abbrev N_checked_ties : List Str := ["ties", "states", "rounds", "laid", "number", "tie", "name", "one", "other", "length", "hearers", "row", "place", "state"]
abbrev P_checked_ties : List Str := ["ties", "states", "rounds"]
theorem sc_checked_ties : FnScope N_checked_ties P_checked_ties (defScope S_checked_ties) := ⟨rfl, rfl, rfl, by decide +kernel, rfl, by decide +kernel, by decide +kernel⟩
abbrev S_Web_init : Stmt := inClass (top 25) 0
abbrev N_Web_init : List Str := ["self", "persons", "ties", "rounds"]
abbrev P_Web_init : List Str := ["self", "persons", "ties", "rounds"]
theorem sc_Web_init : FnScope N_Web_init P_Web_init (defScope S_Web_init) := ⟨rfl, rfl, rfl, by decide +kernel, rfl, by decide +kernel, by decide +kernel⟩
abbrev S_Web_rounds : Stmt := inClass (top 25) 1
abbrev N_Web_rounds : List Str := ["self"]
abbrev P_Web_rounds : List Str := ["self"]
theorem sc_Web_rounds : FnScope N_Web_rounds P_Web_rounds (defScope S_Web_rounds) := ⟨rfl, rfl, rfl, by decide +kernel, rfl, by decide +kernel, by decide +kernel⟩
abbrev S_Web_persons : Stmt := inClass (top 25) 2
abbrev N_Web_persons : List Str := ["self"]
abbrev P_Web_persons : List Str := ["self"]
theorem sc_Web_persons : FnScope N_Web_persons P_Web_persons (defScope S_Web_persons) := ⟨rfl, rfl, rfl, by decide +kernel, rfl, by decide +kernel, by decide +kernel⟩
abbrev S_Web_ties : Stmt := inClass (top 25) 3
abbrev N_Web_ties : List Str := ["self"]
abbrev P_Web_ties : List Str := ["self"]
theorem sc_Web_ties : FnScope N_Web_ties P_Web_ties (defScope S_Web_ties) := ⟨rfl, rfl, rfl, by decide +kernel, rfl, by decide +kernel, by decide +kernel⟩
abbrev S_Web_has_person : Stmt := inClass (top 25) 4
abbrev N_Web_has_person : List Str := ["self", "thing"]
abbrev P_Web_has_person : List Str := ["self", "thing"]
theorem sc_Web_has_person : FnScope N_Web_has_person P_Web_has_person (defScope S_Web_has_person) := ⟨rfl, rfl, rfl, by decide +kernel, rfl, by decide +kernel, by decide +kernel⟩
abbrev S_Web_has_tie : Stmt := inClass (top 25) 5
abbrev N_Web_has_tie : List Str := ["self", "thing"]
abbrev P_Web_has_tie : List Str := ["self", "thing"]
theorem sc_Web_has_tie : FnScope N_Web_has_tie P_Web_has_tie (defScope S_Web_has_tie) := ⟨rfl, rfl, rfl, by decide +kernel, rfl, by decide +kernel, by decide +kernel⟩
abbrev S_Web_has_hearer : Stmt := inClass (top 25) 6
abbrev N_Web_has_hearer : List Str := ["self", "thing", "tie", "place"]
abbrev P_Web_has_hearer : List Str := ["self", "thing"]
theorem sc_Web_has_hearer : FnScope N_Web_has_hearer P_Web_has_hearer (defScope S_Web_has_hearer) := ⟨rfl, rfl, rfl, by decide +kernel, rfl, by decide +kernel, by decide +kernel⟩
abbrev S_Web_has_spot : Stmt := inClass (top 25) 7
abbrev N_Web_has_spot : List Str := ["self", "thing"]
abbrev P_Web_has_spot : List Str := ["self", "thing"]
theorem sc_Web_has_spot : FnScope N_Web_has_spot P_Web_has_spot (defScope S_Web_has_spot) := ⟨rfl, rfl, rfl, by decide +kernel, rfl, by decide +kernel, by decide +kernel⟩
abbrev S_Web_state : Stmt := inClass (top 25) 8
abbrev N_Web_state : List Str := ["self", "spot", "tie", "place", "told", "state"]
abbrev P_Web_state : List Str := ["self", "spot"]
theorem sc_Web_state : FnScope N_Web_state P_Web_state (defScope S_Web_state) := ⟨rfl, rfl, rfl, by decide +kernel, rfl, by decide +kernel, by decide +kernel⟩
abbrev S_Web_tie_row : Stmt := inClass (top 25) 9
abbrev N_Web_tie_row : List Str := ["self", "tie"]
abbrev P_Web_tie_row : List Str := ["self", "tie"]
theorem sc_Web_tie_row : FnScope N_Web_tie_row P_Web_tie_row (defScope S_Web_tie_row) := ⟨rfl, rfl, rfl, by decide +kernel, rfl, by decide +kernel, by decide +kernel⟩
abbrev S_Web_ends : Stmt := inClass (top 25) 10
abbrev N_Web_ends : List Str := ["self", "tie", "row"]
abbrev P_Web_ends : List Str := ["self", "tie"]
theorem sc_Web_ends : FnScope N_Web_ends P_Web_ends (defScope S_Web_ends) := ⟨rfl, rfl, rfl, by decide +kernel, rfl, by decide +kernel, by decide +kernel⟩
abbrev S_Web_length : Stmt := inClass (top 25) 11
abbrev N_Web_length : List Str := ["self", "tie"]
abbrev P_Web_length : List Str := ["self", "tie"]
theorem sc_Web_length : FnScope N_Web_length P_Web_length (defScope S_Web_length) := ⟨rfl, rfl, rfl, by decide +kernel, rfl, by decide +kernel, by decide +kernel⟩
abbrev S_Web_hearers : Stmt := inClass (top 25) 12
abbrev N_Web_hearers : List Str := ["self", "tie"]
abbrev P_Web_hearers : List Str := ["self", "tie"]
theorem sc_Web_hearers : FnScope N_Web_hearers P_Web_hearers (defScope S_Web_hearers) := ⟨rfl, rfl, rfl, by decide +kernel, rfl, by decide +kernel, by decide +kernel⟩
abbrev S_Web_beside : Stmt := inClass (top 25) 13
abbrev N_Web_beside : List Str := ["self", "person"]
abbrev P_Web_beside : List Str := ["self", "person"]
theorem sc_Web_beside : FnScope N_Web_beside P_Web_beside (defScope S_Web_beside) := ⟨rfl, rfl, rfl, by decide +kernel, rfl, by decide +kernel, by decide +kernel⟩
abbrev S_Web_parts : Stmt := inClass (top 25) 14
abbrev N_Web_parts : List Str := ["self"]
abbrev P_Web_parts : List Str := ["self"]
theorem sc_Web_parts : FnScope N_Web_parts P_Web_parts (defScope S_Web_parts) := ⟨rfl, rfl, rfl, by decide +kernel, rfl, by decide +kernel, by decide +kernel⟩
abbrev S_Web_part : Stmt := inClass (top 25) 15
abbrev N_Web_part : List Str := ["self", "person"]
abbrev P_Web_part : List Str := ["self", "person"]
theorem sc_Web_part : FnScope N_Web_part P_Web_part (defScope S_Web_part) := ⟨rfl, rfl, rfl, by decide +kernel, rfl, by decide +kernel, by decide +kernel⟩
abbrev S_Web_eq : Stmt := inClass (top 25) 16
abbrev N_Web_eq : List Str := ["self", "other"]
abbrev P_Web_eq : List Str := ["self", "other"]
theorem sc_Web_eq : FnScope N_Web_eq P_Web_eq (defScope S_Web_eq) := ⟨rfl, rfl, rfl, by decide +kernel, rfl, by decide +kernel, by decide +kernel⟩
abbrev S_Web_len : Stmt := inClass (top 25) 17
abbrev N_Web_len : List Str := ["self"]
abbrev P_Web_len : List Str := ["self"]
theorem sc_Web_len : FnScope N_Web_len P_Web_len (defScope S_Web_len) := ⟨rfl, rfl, rfl, by decide +kernel, rfl, by decide +kernel, by decide +kernel⟩
abbrev S_Web_repr : Stmt := inClass (top 25) 18
abbrev N_Web_repr : List Str := ["self"]
abbrev P_Web_repr : List Str := ["self"]
theorem sc_Web_repr : FnScope N_Web_repr P_Web_repr (defScope S_Web_repr) := ⟨rfl, rfl, rfl, by decide +kernel, rfl, by decide +kernel, by decide +kernel⟩
abbrev S_tie_words : Stmt := top 28
abbrev N_tie_words : List Str := ["web", "tie", "one", "other", "words", "place", "state"]
abbrev P_tie_words : List Str := ["web", "tie"]
theorem sc_tie_words : FnScope N_tie_words P_tie_words (defScope S_tie_words) := ⟨rfl, rfl, rfl, by decide +kernel, rfl, by decide +kernel, by decide +kernel⟩
abbrev S_web_text : Stmt := top 29
abbrev N_web_text : List Str := ["web", "rows", "person", "tie", "row"]
abbrev P_web_text : List Str := ["web"]
theorem sc_web_text : FnScope N_web_text P_web_text (defScope S_web_text) := ⟨rfl, rfl, rfl, by decide +kernel, rfl, by decide +kernel, by decide +kernel⟩
abbrev S_number_in : Stmt := top 30
abbrev N_number_in : List Str := ["word", "figure", "number"]
abbrev P_number_in : List Str := ["word"]
theorem sc_number_in : FnScope N_number_in P_number_in (defScope S_number_in) := ⟨rfl, rfl, rfl, by decide +kernel, rfl, by decide +kernel, by decide +kernel⟩
abbrev S_tie_in : Stmt := top 31
abbrev N_tie_in : List Str := ["words", "numbers", "hearers", "word", "at"]
abbrev P_tie_in : List Str := ["words"]
theorem sc_tie_in : FnScope N_tie_in P_tie_in (defScope S_tie_in) := ⟨rfl, rfl, rfl, by decide +kernel, rfl, by decide +kernel, by decide +kernel⟩
abbrev S_web_in : Stmt := top 32
abbrev N_web_in : List Str := ["rows", "persons", "ties", "row", "words"]
abbrev P_web_in : List Str := ["rows"]
theorem sc_web_in : FnScope N_web_in P_web_in (defScope S_web_in) := ⟨rfl, rfl, rfl, by decide +kernel, rfl, by decide +kernel, by decide +kernel⟩
abbrev S_read_web : Stmt := top 33
abbrev N_read_web : List Str := ["text", "pieces", "rows", "unended", "web", "many"]
abbrev P_read_web : List Str := ["text"]
theorem sc_read_web : FnScope N_read_web P_read_web (defScope S_read_web) := ⟨rfl, rfl, rfl, by decide +kernel, rfl, by decide +kernel, by decide +kernel⟩
abbrev S_pot : Stmt := top 35
abbrev N_pot : List Str := ["_law_script", "_law_k", "_law_cell"]
abbrev P_pot : List Str := ["_law_script", "_law_k"]
theorem sc_pot : FnScope N_pot P_pot (defScope S_pot) := ⟨rfl, rfl, rfl, by decide +kernel, rfl, by decide +kernel, by decide +kernel⟩
abbrev S_take : Stmt := top 36
abbrev N_take : List Str := ["_law_pot_here", "_law_many", "_law_digit"]
abbrev P_take : List Str := ["_law_pot_here", "_law_many"]
theorem sc_take : FnScope N_take P_take (defScope S_take) := ⟨rfl, rfl, rfl, by decide +kernel, rfl, by decide +kernel, by decide +kernel⟩
abbrev S_among : Stmt := top 37
abbrev N_among : List Str := ["_law_pot_here", "_law_some"]
abbrev P_among : List Str := ["_law_pot_here", "_law_some"]
theorem sc_among : FnScope N_among P_among (defScope S_among) := ⟨rfl, rfl, rfl, by decide +kernel, rfl, by decide +kernel, by decide +kernel⟩
abbrev S_mixed : Stmt := top 38
abbrev N_mixed : List Str := ["_law_pot_here", "_law_some", "_law_pool", "_law_k"]
abbrev P_mixed : List Str := ["_law_pot_here", "_law_some"]
theorem sc_mixed : FnScope N_mixed P_mixed (defScope S_mixed) := ⟨rfl, rfl, rfl, by decide +kernel, rfl, by decide +kernel, by decide +kernel⟩
abbrev S_name : Stmt := top 39
abbrev N_name : List Str := ["_law_pot_here", "_law_taken", "_law_letters", "_law_name_here", "_law_k", "_law_one", "_law_letter"]
abbrev P_name : List Str := ["_law_pot_here", "_law_taken"]
theorem sc_name : FnScope N_name P_name (defScope S_name) := ⟨rfl, rfl, rfl, by decide +kernel, rfl, by decide +kernel, by decide +kernel⟩
abbrev S_length : Stmt := top 40
abbrev N_length : List Str := ["_law_pot_here", "_law_way", "_law_far", "_law_some"]
abbrev P_length : List Str := ["_law_pot_here", "_law_way"]
theorem sc_length : FnScope N_length P_length (defScope S_length) := ⟨rfl, rfl, rfl, by decide +kernel, rfl, by decide +kernel, by decide +kernel⟩
abbrev S_hearers : Stmt := top 41
abbrev N_hearers : List Str := ["_law_pot_here", "_law_length_here", "_law_many", "_law_found", "_law_way", "_law_k", "_law_place", "_law_onward"]
abbrev P_hearers : List Str := ["_law_pot_here", "_law_length_here", "_law_many"]
theorem sc_hearers : FnScope N_hearers P_hearers (defScope S_hearers) := ⟨rfl, rfl, rfl, by decide +kernel, rfl, by decide +kernel, by decide +kernel⟩
abbrev S_persons : Stmt := top 42
abbrev N_persons : List Str := ["_law_pot_here", "_law_many", "_law_names", "_law_k", "_law_name_here"]
abbrev P_persons : List Str := ["_law_pot_here", "_law_many"]
theorem sc_persons : FnScope N_persons P_persons (defScope S_persons) := ⟨rfl, rfl, rfl, by decide +kernel, rfl, by decide +kernel, by decide +kernel⟩
abbrev S_tie : Stmt := top 43
abbrev N_tie : List Str := ["_law_pot_here", "_law_persons_here", "_law_taken", "_law_way", "_law_left", "_law_one", "_law_other", "_law_length_here"]
abbrev P_tie : List Str := ["_law_pot_here", "_law_persons_here", "_law_taken", "_law_way", "_law_left"]
theorem sc_tie : FnScope N_tie P_tie (defScope S_tie) := ⟨rfl, rfl, rfl, by decide +kernel, rfl, by decide +kernel, by decide +kernel⟩
abbrev S_web : Stmt := top 44
abbrev N_web : List Str := ["_law_pot_here", "_law_most_persons", "_law_most_ties", "_law_way", "_law_told_here", "_law_persons_here", "_law_ties", "_law_left", "_law_k", "_law_taken", "_law_name_here", "_law_state", "_law_tie_here"]
abbrev P_web : List Str := ["_law_pot_here", "_law_most_persons", "_law_most_ties", "_law_way", "_law_told_here"]
theorem sc_web : FnScope N_web P_web (defScope S_web) := ⟨rfl, rfl, rfl, by decide +kernel, rfl, by decide +kernel, by decide +kernel⟩
abbrev S_rounds : Stmt := top 45
abbrev N_rounds : List Str := ["_law_pot_here", "_law_most_persons", "_law_most_ties", "_law_persons_here", "_law_ties", "_law_name_here", "_law_one", "_law_other", "_law_length_here", "_law_hearers_here"]
abbrev P_rounds : List Str := ["_law_pot_here", "_law_most_persons", "_law_most_ties"]
theorem sc_rounds : FnScope N_rounds P_rounds (defScope S_rounds) := ⟨rfl, rfl, rfl, by decide +kernel, rfl, by decide +kernel, by decide +kernel⟩
abbrev S_text : Stmt := top 46
abbrev N_text : List Str := ["_law_spec", "_law_is_rounds", "_law_rows", "_law_name_here", "_law_state", "_law_one", "_law_other", "_law_length_here", "_law_hearers_here", "_law_words", "_law_place", "_law_row_here"]
abbrev P_text : List Str := ["_law_spec", "_law_is_rounds"]
theorem sc_text : FnScope N_text P_text (defScope S_text) := ⟨rfl, rfl, rfl, by decide +kernel, rfl, by decide +kernel, by decide +kernel⟩
abbrev S_number : Stmt := top 47
abbrev N_number : List Str := ["_law_word"]
abbrev P_number : List Str := ["_law_word"]
theorem sc_number : FnScope N_number P_number (defScope S_number) := ⟨rfl, rfl, rfl, by decide +kernel, rfl, by decide +kernel, by decide +kernel⟩
abbrev S_l_is_name : Stmt := top 48
abbrev N_l_is_name : List Str := ["_law_word", "_law_sign"]
abbrev P_l_is_name : List Str := ["_law_word"]
theorem sc_l_is_name : FnScope N_l_is_name P_l_is_name (defScope S_l_is_name) := ⟨rfl, rfl, rfl, by decide +kernel, rfl, by decide +kernel, by decide +kernel⟩
abbrev S_person_fits : Stmt := top 49
abbrev N_person_fits : List Str := ["_law_words", "_law_seen"]
abbrev P_person_fits : List Str := ["_law_words", "_law_seen"]
theorem sc_person_fits : FnScope N_person_fits P_person_fits (defScope S_person_fits) := ⟨rfl, rfl, rfl, by decide +kernel, rfl, by decide +kernel, by decide +kernel⟩
abbrev S_tie_fits : Stmt := top 50
abbrev N_tie_fits : List Str := ["_law_words", "_law_seen", "_law_numbers", "_law_length_here", "_law_places", "_law_states", "_law_word", "_law_one", "_law_other"]
abbrev P_tie_fits : List Str := ["_law_words", "_law_seen"]
theorem sc_tie_fits : FnScope N_tie_fits P_tie_fits (defScope S_tie_fits) := ⟨rfl, rfl, rfl, by decide +kernel, rfl, by decide +kernel, by decide +kernel⟩
abbrev S_row_fits : Stmt := top 51
abbrev N_row_fits : List Str := ["_law_number_here", "_law_row_here", "_law_seen", "_law_words"]
abbrev P_row_fits : List Str := ["_law_number_here", "_law_row_here", "_law_seen"]
theorem sc_row_fits : FnScope N_row_fits P_row_fits (defScope S_row_fits) := ⟨rfl, rfl, rfl, by decide +kernel, rfl, by decide +kernel, by decide +kernel⟩
abbrev S_due : Stmt := top 52
abbrev N_due : List Str := ["_law_text_here", "_law_rows", "_law_seen", "_law_number_here"]
abbrev P_due : List Str := ["_law_text_here"]
theorem sc_due : FnScope N_due P_due (defScope S_due) := ⟨rfl, rfl, rfl, by decide +kernel, rfl, by decide +kernel, by decide +kernel⟩
abbrev S_row : Stmt := top 53
abbrev N_row : List Str := ["_law_pot_here", "_law_rows", "_law_some", "_law_words", "_law_at", "_law_word", "_law_more", "_law_one"]
abbrev P_row : List Str := ["_law_pot_here", "_law_rows"]
theorem sc_row : FnScope N_row P_row (defScope S_row) := ⟨rfl, rfl, rfl, by decide +kernel, rfl, by decide +kernel, by decide +kernel⟩
abbrev S_again : Stmt := top 54
abbrev N_again : List Str := ["_law_pot_here", "_law_rows", "_law_some", "_law_words", "_law_row_here"]
abbrev P_again : List Str := ["_law_pot_here", "_law_rows"]
theorem sc_again : FnScope N_again P_again (defScope S_again) := ⟨rfl, rfl, rfl, by decide +kernel, rfl, by decide +kernel, by decide +kernel⟩
abbrev S_spoilt : Stmt := top 55
abbrev N_spoilt : List Str := ["_law_pot_here", "_law_text_here", "_law_signs", "_law_rows", "_law_way", "_law_sign", "_law_at", "_law_spot", "_law_other"]
abbrev P_spoilt : List Str := ["_law_pot_here", "_law_text_here"]
theorem sc_spoilt : FnScope N_spoilt P_spoilt (defScope S_spoilt) := ⟨rfl, rfl, rfl, by decide +kernel, rfl, by decide +kernel, by decide +kernel⟩
abbrev S_told : Stmt := top 56
abbrev N_told : List Str := ["_law_text_here", "_law_found", "_law_web_here", "e", "_law_others"]
abbrev P_told : List Str := ["_law_text_here"]
theorem sc_told : FnScope N_told P_told (defScope S_told) := ⟨rfl, rfl, rfl, by decide +kernel, rfl, by decide +kernel, by decide +kernel⟩
abbrev S_law : Stmt := top 57
abbrev N_law : List Str := ["_law_script", "_law_k", "_law_pot_here", "_law_thing", "_law_is_rounds", "_law_spec", "_law_text_here", "_law_turn", "_law_spoilt_here", "_law_step"]
abbrev P_law : List Str := ["_law_script"]
theorem sc_law : FnScope N_law P_law (defScope S_law) := ⟨rfl, rfl, rfl, by decide +kernel, rfl, by decide +kernel, by decide +kernel⟩

end Cw
namespace Cw
open PySem PySem.Spec PyProof.Rows L2
section
variable {P : Program} {w : World} {K : PySem.W.Frag} {mg : Str → Option Value} {base : Heap}
def spPot (K : PySem.W.Frag) : Sp := fun vs H Q _ => ∃ (a : Addr) (ns : List Int) (k : Int), vs = [.ref a, .int k] ∧ SqL K H a (ns.map V.int) ∧ 0 ≤ k ∧ k ≤ 1000 ∧
  ∀ p H', Same H H' → H p = none → Pot H' p → Q (.ref p) H'
theorem ok_pot {f : Addr} {fd : FuncData} (F : FnP K "_law_pot" "_law_pot" S_pot f fd) (ml : mg "len" = none) (ma : mg "abs" = none) (mm : mg "max" = none) :
    FnOk P w K mg base CX0 1 f fd P_pot (spPot K) := by
  refine F.ok sc_pot (fun vs H Q E h => ?_) (fun cdv A outer s H vs Q E hr h => ⟨_, PSs.nox (pss_cons (ps_set (i := 2) sc_pot.nd rfl (.inl rfl) pe_int)
    (C8.pss_cut (ps_if (pt_cmpR op_lt (pv 1) (pe_callB call_len_seq (by rfl) ml PySem.boot_len (pa_cons (pv 0) pa_nil)) (nomark _))
      (pss_one (ps_set (i := 2) sc_pot.nd rfl (.inl rfl) (pe_callB call_abs (by rfl) ma (by decide +kernel) (pa_cons (pe_ix ix_list (pv 0) (pv 1) (fun _ _ => rfl)) pa_nil)))) pss_nil)
    (pss_one (ps_ret (pe_lst (pa_cons (pe_callB (call_max2 rfl) (by rfl) mm (by decide +kernel) (pa_cons pe_int (pa_cons (pe_op op_sub (pv 2) (pe_op op_pow pe_int pe_int)) pa_nil)))
      (pa_cons (pe_op op_add (pe_op op_mod (pe_op op_pow (pe_op op_add (pe_op op_add (pe_op op_mod (pv 2) pe_int) (pe_op op_mul pe_int (pv 1))) pe_int) pe_int) pe_int) pe_int) pa_nil))))))), ?_⟩)
  · obtain ⟨a, ns, k, rfl, _⟩ := h
    rfl
  · obtain ⟨a, ns, k, rfl, hS, k0, k1, q⟩ := h
    refine ⟨fun σ H' => ∃ c : Int, σ = [some (.ref a), some (.int k), some (.int c)] ∧ H' = H ∧ 0 ≤ c, ⟨_, rfl, _, rfl, a, _, rfl, .inl hS, _, _, rfl, rfl, _, rfl, ite2 (fun h => ?_) (fun h => ?_)⟩, ?_⟩
    · have hk : k.toNat < ns.length := by
        have h2 := of_decide_eq_true h
        rw [List.length_map] at h2
        omega
      have g : atI (ns.map V.int) k = some (.int ns[k.toNat]) := atI_int k0 (by rw [List.getElem?_map, List.getElem?_eq_getElem hk]; rfl)
      exact ⟨_, rfl, _, rfl, a, _, k, _, rfl, rfl, hS, g, _, rfl, _, rfl, rfl, by split <;> omega⟩
    · exact ⟨0, rfl, rfl, by omega⟩
    · rintro σ H' ⟨c, rfl, rfl, hc⟩
      refine ⟨_, rfl, _, _, rfl, rfl, ⟨by decide, by decide, by decide⟩, _, _, rfl, rfl, _, _, rfl, _, rfl, _, _, rfl, rfl, (by decide : (0 : Int) < 2147483543), _, rfl, _, _, rfl, rfl, .inl ⟨by decide, by decide⟩, _, _, rfl, rfl, _, _, rfl, rfl, ?_⟩
      have b1 := Int.emod_nonneg c (by decide : (2147483543 : Int) ≠ 0)
      have b2 := Int.emod_lt_of_pos c (by decide : (0 : Int) < 2147483543)
      refine ⟨_, _, rfl, rfl, ⟨by decide, by decide, ?_⟩, _, _, rfl, rfl, (by decide : (0 : Int) < 2147483497), _, _, rfl, rfl, by show 2 ≤ sizeLine; decide, fun p hp => ?_⟩
      · show (c % 2147483543 + 101 * k + 5).natAbs < 2 ^ 64
        omega
      · refine q p _ (same_new hp) hp ⟨_, _, upd_same, ?_, ?_, ?_⟩
        · show 0 ≤ if c - 10 ^ Int.toNat 18 > 0 then c - 10 ^ Int.toNat 18 else 0
          split <;> omega
        · have := Int.emod_nonneg ((c % 2147483543 + 101 * k + 5) ^ Int.toNat 2) (by decide : (2147483497 : Int) ≠ 0)
          show 0 ≤ (c % 2147483543 + 101 * k + 5) ^ Int.toNat 2 % 2147483497 + 1
          omega
        · have := Int.emod_lt_of_pos ((c % 2147483543 + 101 * k + 5) ^ Int.toNat 2) (by decide : (0 : Int) < 2147483497)
          show (c % 2147483543 + 101 * k + 5) ^ Int.toNat 2 % 2147483497 + 1 ≤ 2147483587
          omega
def spTake : Sp := fun vs H Q _ => ∃ (p : Addr) (m : Int), vs = [.ref p, .int m] ∧ Pot H p ∧ 0 < m ∧ m.natAbs.log2 < 9000 ∧
  ∀ (d : Int) (H' : Hp), 0 ≤ d → d < m → Drew p H H' → Q (.int d) H'
theorem ok_take {f : Addr} {fd : FuncData} (F : FnP K "_law_take" "_law_take" S_take f fd) (md : mg "divmod" = none) :
    FnOk P w K mg base CX0 1 f fd P_take spTake := by
  refine F.ok sc_take (fun vs H Q E h => ?_) (fun cdv A outer s H vs Q E hr h => ⟨_, PSs.nox (pss_cons (ps_if (pt_cmpR op_gt (pe_ix ix_list (pv 0) pe_int (fun _ _ => rfl)) pe_int (nomark _))
      (pss_cons (ps_asg (pe_callB call_divmodL (by rfl) md (by decide +kernel) (pa_cons (pe_ix ix_list (pv 0) pe_int (fun _ _ => rfl)) (pa_cons (pv 1) pa_nil)))
          (pg_tup (by rfl) (pgs_cons (pg_sub (pv 0) pe_int set_list) (pgs_cons (pg_name (i := 2) sc_take.nd rfl (.inl rfl)) pgs_nil))))
        (pss_one (ps_ret (pv 2)))) pss_nil)
    (pss_cons (ps_asg (pe_op op_mod (pe_op op_add (pe_op op_mul (pe_ix ix_list (pv 0) pe_int (fun _ _ => rfl)) pe_int) pe_int) pe_int) (pg_sub (pv 0) pe_int set_list))
    (pss_one (ps_ret (pe_op op_mod (pe_op op_fdiv (pe_op op_mod (pe_op op_mul (pe_ix ix_list (pv 0) pe_int (fun _ _ => rfl)) (pe_ix ix_list (pv 0) pe_int (fun _ _ => rfl))) pe_int) pe_int) (pv 1)))))), ?_⟩)
  · obtain ⟨p, m, rfl, _⟩ := h
    rfl
  · obtain ⟨p, m, rfl, ⟨m0, m1, hp, h0, h1, h2⟩, hm, hm9, q⟩ := h
    refine ⟨_, rfl, p, _, 0, _, rfl, rfl, SqL.of hp, atI_int (by decide) rfl, _, _, rfl, rfl, _, rfl, ite2 (fun h => ?_) (fun h => ?_)⟩
    · refine ⟨_, rfl, p, _, 0, _, rfl, rfl, SqL.of hp, atI_int (by decide) rfl, _, rfl, _, _, rfl, ⟨hm, hm9⟩, fun t nt => ?_⟩
      have npt : p ≠ t := ne_of_none hp nt
      have hp1 : (upd H t (HO.tup [V.int (m0 / m), V.int (m0 % m)])) p = some (.lst [.int m0, .int m1]) := by rw [upd_ne npt]; exact hp
      refine ⟨t, _, rfl, SqT.of upd_same, rfl, _, _, rfl, _, rfl, p, _, 0, 0, rfl, rfl, hp1, rfl, _, _, rfl, rfl, _, rfl, ?_⟩
      refine q _ _ (Int.emod_nonneg _ (by omega)) (Int.emod_lt_of_pos _ hm) ⟨fun b o n e => ?_, ⟨_, _, upd_same, Int.ediv_nonneg h0 (by omega), h1, h2⟩⟩
      rw [upd_ne n, upd_ne (ne_of_none e nt)]
      exact e
    · refine ⟨_, rfl, p, _, 1, _, rfl, rfl, SqL.of hp, atI_int (by decide) rfl, _, _, rfl, rfl, .inl ⟨by show -(2 ^ 64) < m1; omega, by show m1 < 2 ^ 64; omega⟩, _, _, rfl, rfl, _, _, rfl, rfl, (by decide : (0 : Int) < 2147483587), ?_⟩
      have c0 := Int.emod_nonneg (m1 * 44029 + 10133) (by decide : (2147483587 : Int) ≠ 0)
      have c1 := Int.emod_lt_of_pos (m1 * 44029 + 10133) (by decide : (0 : Int) < 2147483587)
      refine ⟨_, rfl, p, _, 1, 1, rfl, rfl, hp, rfl, ?_⟩
      refine ⟨_, rfl, p, _, 1, _, rfl, rfl, SqL.of upd_same, atI_int (by decide) rfl, _, rfl, p, _, 1, _, rfl, rfl, SqL.of upd_same, atI_int (by decide) rfl, _, _, rfl, rfl, .inl ⟨by show -(2 ^ 64) < (m1 * 44029 + 10133) % 2147483587; omega, by show (m1 * 44029 + 10133) % 2147483587 < 2 ^ 64; omega⟩, _, _, rfl, rfl, (by decide : (0 : Int) < 2147483549), _, _, rfl, rfl, ⟨by decide, by decide⟩, _, rfl, _, _, rfl, rfl, hm, ?_⟩
      exact q _ _ (Int.emod_nonneg _ (by omega)) (Int.emod_lt_of_pos _ hm) ⟨but_upd, ⟨_, _, upd_same, h0, c0, by omega⟩⟩
end
end Cw
namespace Cw
open PySem PySem.Spec PyProof.Rows L2
/-- a name: one to eight small letters -/
def IsName (z : Str) : Prop := 1 ≤ z.length ∧ z.length ≤ 8 ∧ ∀ c ∈ TL.tl z, 97 ≤ c ∧ c ≤ 122
theorem tl_len (z : Str) : (TL.tl z).length = z.length := by first | rfl | exact Array.length_toList
abbrev letters : Str := Str.ofString "abcdefghijklmnopqrstuvwxyz"
theorem keepD {p D : Addr} {H H1 H2 : Hp} (k : But p H H1) (nD : H1 D = none) (sm : Same H1 (Off D H2)) : True := trivial
/-- signs drawn one by one -/
theorem signs_end {x3 x4 x5 x6 : Option V} {p l : Addr} {H H1 : Hp} {n : Nat} {D : Addr} {Qd : Hp → Prop} (dr : Drew p H H1) (nD : H1 D = none) (hn : n ≤ 8)
    (q : ∀ (cs : List Nat) (H2 : Hp), cs.length = n → (∀ c ∈ cs, 97 ≤ c ∧ c ≤ 122) → H2 D = some (.lst ((cs.map sign).map V.str)) → Drew p H H2 → Qd H2) :
    LcD (Itr 0 n) (gName 4) tYes (tOp rIxS (tVar 2) (tCall spTake [] E0 (tCons (tVar 0) (tCons (tC (.int 26)) tNil)))) [4] [some (.ref p), some (.ref l), some (.str letters), x3, x4, x5, x6] H1 D Qd := by
  have nDp : D ≠ p := (dr.2.ne nD).symm
  refine lc_range (lo := 0) (n := n) (fun i H2 => ∃ cs : List Nat, H2 D = some (.lst ((cs.map sign).map V.str)) ∧ cs.length = i ∧ (∀ c ∈ cs, 97 ≤ c ∧ c ≤ 122) ∧ Drew p H H2) ?_ ?_ ?_
  · exact ⟨[], upd_same, rfl, (fun c h => by cases h), fun b o n e => same_new nD _ _ (dr.1 b o n e), dr.2.same (same_new nD)⟩
  · rintro i H2 hi ⟨cs, hD, hl, hc, dr2⟩
    refine ⟨rfl, ?_⟩
    dsimp only [tYes]
    rw [if_pos rfl]
    refine ⟨_, rfl, _, rfl, p, _, rfl, dr2.2, by decide, log_small (n := 26) (by decide) (by decide) (by decide), fun x H3 x0 x1 dr3 => ?_⟩
    have hx : x.toNat < 26 := by omega
    refine ⟨_, x, 97 + x.toNat, rfl, rfl, by decide, letter_at x0 hx, ?_⟩
    have hD3 : H3 D = some (.lst ((cs.map sign).map V.str)) := dr3.1 _ _ nDp hD
    refine ⟨_, hD3, by rw [List.length_map, List.length_map, hl]; exact small1000 (by omega), cs ++ [97 + x.toNat], ?_, ?_, ?_, ?_⟩
    · rw [upd_same, List.map_append, List.map_append]
      rfl
    · rw [List.length_append, hl]
      rfl
    · intro c h
      rcases List.mem_append.mp h with h | h
      · exact hc c h
      · rw [List.mem_singleton.mp h]
        omega
    · refine ⟨fun b o n e => ?_, ?_⟩
      · have hb : b ≠ D := fun z => by
          subst z
          have := dr.1 _ _ n e
          rw [nD] at this
          cases this
        rw [upd_ne hb]
        exact dr3.1 b o n (dr2.1 b o n e)
      · obtain ⟨u0, u1, e, r⟩ := dr3.2
        exact ⟨u0, u1, by rw [upd_ne nDp.symm]; exact e, r⟩
  · rintro H2 ⟨cs, hD, hl, hc, dr2⟩
    exact q cs H2 hl hc hD dr2
theorem join_small (cs : List Nat) (h : cs.length ≤ 1000) : (((cs.map sign).map fun x : Str => x.length).sum + (cs.map sign).length * (Str.ofString "").length) ≤ 16777216 := by
  rw [List.map_map, List.length_map]
  have e : ((fun x : Str => x.length) ∘ sign) = fun _ => 1 := rfl
  rw [e, sum_ones]
  show cs.length + cs.length * 0 ≤ 16777216
  omega
theorem word_name {cs : List Nat} (h : ∀ c ∈ cs, 97 ≤ c ∧ c ≤ 122) (h1 : 1 ≤ cs.length) (h2 : cs.length ≤ 8) : IsName (Txt.join (Str.ofString "") (cs.map sign)) := by
  have e := tl_word cs
  have e2 := congrArg List.length e
  rw [tl_len] at e2
  exact ⟨by omega, by omega, by rw [e]; exact h⟩
/-- the names that are taken where all else is -/
def cand (i : Nat) : Str := ⟨#[97 + i, 113]⟩
theorem cand_name (i : Nat) (h : i < 26) : IsName (cand i) := by
  refine ⟨by show 1 ≤ 2; decide, by show 2 ≤ 8; decide, fun c hc => ?_⟩
  have hc2 : c ∈ [97 + i, 113] := hc
  simp only [List.mem_cons, List.not_mem_nil, or_false] at hc2
  omega
theorem cand_inj {i j : Nat} (h : cand i = cand j) : i = j := by
  have e := congrArg TL.tl h
  have e2 : [97 + i, 113] = [97 + j, 113] := e
  simp only [List.cons.injEq] at e2
  omega
theorem cand_free {ys : List Str} (h : ys.length ≤ 24) : ((List.range 26).map cand).filter (fun z => decide (z ∉ ys)) ≠ [] := by
  intro e
  have sub : (List.range 26).map cand ⊆ ys := by
    intro z hz
    by_cases hy : z ∈ ys
    · exact hy
    · have : z ∈ ((List.range 26).map cand).filter (fun z => decide (z ∉ ys)) := List.mem_filter.mpr ⟨hz, decide_eq_true hy⟩
      rw [e] at this
      cases this
  have nd : ((List.range 26).map cand).Nodup := by
    exact List.Pairwise.map cand (fun a b h e => h (cand_inj e)) List.nodup_range
  have := nd.length_le_of_subset sub
  rw [List.length_map, List.length_range] at this
  omega
theorem op_notIn_seqK {X : Cx} {K : PySem.W.Frag} (h : X.K = K) : OpR X (compareOp .NotIn) (rIn K true) := by
  subst h
  exact op_notIn_seq
theorem strOk_name {z : Str} (h : IsName z) : PyData.strOk z = true := by
  unfold PyData.strOk
  rw [Array.all_eq_true']
  intro c hc
  have := h.2.2 c (by show c ∈ z.cps.toList; exact Array.mem_toList_iff.mpr hc)
  exact decide_eq_true (by omega)
theorem can_names : ∀ {ys : List Str}, (∀ y ∈ ys, IsName y) → PyData.canLayAll0 (ys.map PyData.str) = true
  | [], _ => by simp [PyData.canLayAll0]
  | y :: r, h => by
    rw [List.map_cons]
    simp only [PyData.canLayAll0, Bool.and_eq_true]
    exact ⟨by simp only [PyData.canLay0]; exact strOk_name (h y List.mem_cons_self), can_names fun z hz => h z (List.mem_cons_of_mem _ hz)⟩
theorem deep_names : ∀ ys : List Str, PyData.depthAll (ys.map PyData.str) = 0
  | [] => by simp [PyData.depthAll]
  | y :: r => by
    rw [List.map_cons]
    simp only [PyData.depthAll, deep_names r]
    simp [PyData.depth]
theorem shaped_names {ys : List Str} (h : ∀ y ∈ ys, IsName y) : SeqAt.shaped (.list (ys.map PyData.str)) = true := by
  unfold SeqAt.shaped
  have e : (PyData.list (ys.map PyData.str)).canLay0 = true := by
    simp only [PyData.canLay0]
    exact can_names h
  rw [e, Bool.true_and]
  refine decide_eq_true ?_
  simp only [PyData.depth, deep_names]
  omega
theorem dp_strs {K : PySem.W.Frag} {H : Hp} {l : Addr} {ys : List Str} (h : H l = some (.lst (ys.map V.str))) : Dp K H (.ref l) (.list (ys.map PyData.str)) := by
  refine .lst (SqL.of h) ?_
  clear h
  induction ys with
  | nil => exact .nil
  | cons n r ih => exact .cons (.str n) ih
theorem eqv_empty (ys : List Str) : PyData.eqv (.list (ys.map PyData.str)) (.list []) = ys.isEmpty := by
  cases ys with
  | nil => simp [PyData.eqv, PyData.eqvAll]
  | cons y r => simp [PyData.eqv, PyData.eqvAll]
theorem inV_strs (z : Str) (ys : List Str) : inV (.str z) (ys.map V.str) = decide (z ∈ ys) := by
  unfold inV
  induction ys with
  | nil => simp
  | cons y r ih =>
    rw [List.map_cons, List.any_cons, ih]
    show (y == z || decide (z ∈ r)) = decide (z ∈ y :: r)
    by_cases e : y = z
    · subst e
      simp
    · have e1 : (y == z) = false := beq_eq_false_iff_ne.mpr e
      have e2 : ¬ z = y := fun w => e w.symm
      rw [e1, Bool.false_or]
      simp [e2]
theorem flat_strs (ys : List Str) : (ys.map V.str).all flatV = true := by
  rw [List.all_map]
  exact List.all_eq_true.mpr fun _ _ => rfl
theorem tl_cut8 (z : Str) : TL.tl (cutS z none (some 8)) = (TL.tl z).take 8 := by
  unfold cutS
  show (List.take (HT.sIx z.length z.length (some ((8 : Nat) : Int)) - HT.sIx z.length 0 none) (List.drop (HT.sIx z.length 0 none) z.cps.toList)) = _
  rw [HT.sIx_nat, HT.sIx_none, List.drop_zero, Nat.sub_zero]
  show List.take (min 8 z.length) (TL.tl z) = List.take 8 (TL.tl z)
  by_cases h : 8 ≤ z.length
  · rw [Nat.min_eq_left h]
  · have h1 : z.length ≤ 8 := by omega
    rw [Nat.min_eq_right h1, List.take_of_length_le (by rw [tl_len]; exact Nat.le_refl _), List.take_of_length_le (by rw [tl_len]; exact h1)]
theorem cut_name {y z : Str} (hy : IsName y) (hz : IsName z) : IsName (cutS (y ++ z) none (some 8)) := by
  have e := tl_cut8 (y ++ z)
  rw [TL.tl_append] at e
  have l := congrArg List.length e
  rw [tl_len, List.length_take, List.length_append, tl_len, tl_len] at l
  refine ⟨?_, by omega, ?_⟩
  · have := hy.1
    omega
  · rw [e]
    intro c hc
    rcases List.mem_append.mp (List.mem_of_mem_take hc) with h | h
    · exact hy.2.2 c h
    · exact hz.2.2 c h
section
variable {P : Program} {w : World} {K : PySem.W.Frag} {mg : Str → Option Value} {base : Heap}
def spName : Sp := fun vs H Q _ => ∃ (p l : Addr) (ys : List Str), vs = [.ref p, .ref l] ∧ Pot H p ∧ l ≠ p ∧ H l = some (.lst (ys.map V.str)) ∧ (∀ y ∈ ys, IsName y) ∧ ys.length ≤ 24 ∧
  ∀ (z : Str) (H' : Hp), IsName z → z ∉ ys → Drew p H H' → Q (.str z) H'
abbrev TakeOk (P : Program) (w : World) (K : PySem.W.Frag) (mg : Str → Option Value) (base : Heap) : Prop := ∃ (fT : Addr) (fdT : FuncData), FnP K "_law_take" "_law_take" S_take fT fdT ∧ Binds K fdT P_take [] ∧ FnOk P w K mg base CX0 1 fT fdT P_take spTake ∧ mg "_law_take" = some (.ref fT)
theorem ok_name {f : Addr} {fd : FuncData} (F : FnP K "_law_name" "_law_name" S_name f fd) (TK : TakeOk P w K mg base) (mr : mg "range" = none) :
    FnOk P w K mg base CX0 2 f fd P_name spName := by
  obtain ⟨fT, fdT, FT, bT, GT, gT⟩ := TK
  refine F.ok sc_name (fun vs H Q E h => ?_) (fun cdv A outer s H vs Q E hr h => ⟨_, PSs.nox (pss_cons (ps_set (i := 2) sc_name.nd rfl (.inr rfl) pe_str)
    (pss_cons (ps_set (i := 3) sc_name.nd rfl (.inl rfl) (pe_join pe_str (pe_lc (own := [("_law_k", 4)]) (g := gName 4) rfl sc_name.nd
        (pi_range1 rfl mr (pa_cons (pe_ix ix_list (pe_lst (pa_cons pe_int (pa_cons pe_int (pa_cons pe_int (pa_cons pe_int pa_nil))))) (pe_call GT hr rfl gT FT.kp bT .nil pass0 (pa_cons (pv 0) (pa_cons pe_int pa_nil))) (fun _ _ => rfl)) pa_nil))
        (blkOk_by (own := [("_law_k", 4)]) (N := N_name) (sc := defScope S_name) (by decide +kernel)) (fun _ _ _ _ _ => pg_name (i := 4) sc_name.nd rfl (Or.inl rfl)) (fun _ _ _ _ _ => pts_nil)
        (fun _ _ _ _ _ => pe_ix ix_str (pv 2) (pe_call GT hr rfl gT FT.kp bT .nil pass0 (pa_cons (pv 0) (pa_cons pe_int pa_nil))) (fun _ _ => rfl)))))
    (C8.pss_cut (ps_if (PW.pt (pw_and (pt_cmpR (op_neD hr.units) (pv 1) (pe_lst pa_nil) (nomark _)) (pw_and1 (pt_cmpR op_eq (pe_call GT hr rfl gT FT.kp bT .nil pass0 (pa_cons (pv 0) (pa_cons pe_int pa_nil))) pe_int (nomark _)))))
        (pss_one (ps_set (i := 3) sc_name.nd rfl (.inl rfl) (pe_slice sl_str (pe_op op_add_str (pe_ix ix_list (pv 1) (pe_un un_neg pe_int) (fun _ _ => rfl)) (pv 3)) po_none (po_some pe_int)))) pss_nil)
    (C8.pss_cut (ps_if (pt_cmpR op_in_seq (pv 3) (pv 1) (by rfl))
        (pss_one (ps_set (i := 3) sc_name.nd rfl (.inl rfl) (pe_ix ix_list (pe_lc (own := [("_law_one", 5)]) (g := gName 5) rfl sc_name.nd (pi_list (pe_lc (own := [("_law_letter", 6)]) (g := gName 6) rfl sc_name.nd (pi_str (pv 2))
            (blkOk_by (own := [("_law_letter", 6)]) (N := N_name) (sc := defScope S_name) (by decide +kernel)) (fun _ _ _ _ _ => pg_name (i := 6) sc_name.nd rfl (Or.inl rfl)) (fun _ _ _ _ _ => pts_nil) (fun _ _ _ _ _ => pe_op op_add_str (pv 6) pe_str)))
          (blkOk_by (own := [("_law_one", 5)]) (N := N_name) (sc := defScope S_name) (by decide +kernel)) (fun _ _ _ _ _ => pg_name (i := 5) sc_name.nd rfl (Or.inl rfl))
          (fun _ _ _ _ _ => pts_one (pt_cmpR (op_notIn_seqK (K := K) rfl) (pv 5) (pv 1) (by rfl))) (fun _ _ _ _ _ => pv 5)) pe_int (fun _ _ => rfl)))) pss_nil)
    (pss_one (ps_ret (pv 3))))))), ?_⟩)
  · obtain ⟨p, l, ys, rfl, _⟩ := h
    rfl
  · obtain ⟨p, l, ys, rfl, hP, nlp, hl, hN, hlen, q⟩ := h
    refine ⟨⟨_, rfl⟩, by show 4 ≤ sizeLine; decide, fun m nm => ?_⟩
    obtain ⟨s0, m0⟩ := fresh2 (o := .lst [.int 1, .int 2, .int 3, .int 8]) nm
    have P0 := hP.same s0
    refine ⟨_, rfl, p, _, rfl, P0, by decide, log_small (n := 4) (by decide) (by decide) (by decide), fun d H1 d0 d1 dr => ?_⟩
    have nmp : m ≠ p := (hP.ne nm).symm
    have hm1 := dr.1 _ _ nmp m0
    obtain ⟨j, hj, j1, j2⟩ : ∃ j : Int, ([.int 1, .int 2, .int 3, .int 8] : List V)[d.toNat]? = some (.int j) ∧ 1 ≤ j ∧ j ≤ 8 := by
      have h4 : d.toNat < 4 := by omega
      match d.toNat, h4 with
      | 0, _ => exact ⟨1, rfl, by decide, by decide⟩
      | 1, _ => exact ⟨2, rfl, by decide, by decide⟩
      | 2, _ => exact ⟨3, rfl, by decide, by decide⟩
      | 3, _ => exact ⟨8, rfl, by decide, by decide⟩
    refine ⟨m, _, d, _, rfl, rfl, SqL.of hm1, atI_int d0 hj, _, rfl, by omega, by omega, fun D nD => ?_⟩
    have dr0 : Drew p H H1 := ⟨(Same.but s0).trans dr.1, dr.2⟩
    refine signs_end (l := l) dr0 nD (by omega) fun cs H2 lcs hcs hD dr2 => ?_
    refine ⟨_, D, cs.map sign, rfl, rfl, .inl (SqL.of hD), join_small cs (by omega), ?_⟩
    have nz := word_name hcs (by omega) (by omega)
    generalize Txt.join (Str.ofString "") (cs.map sign) = z0 at nz
    refine ⟨fun σ H' => ∃ z, σ = [some (.ref p), some (.ref l), some (.str letters), some (.str z), none, none, none] ∧ IsName z ∧ Drew p H H', ?_, ?_⟩
    · refine ⟨_, rfl, by show 0 ≤ sizeLine; omega, fun e ne => ?_⟩
      obtain ⟨s3, m3⟩ := fresh2 (o := .lst []) ne
      have hl2 := dr2.1 _ _ nlp hl
      have dr3 : Drew p H (upd H2 e (.lst [])) := ⟨dr2.1.trans (Same.but s3), dr2.2.same s3⟩
      refine ⟨_, _, dp_strs (s3 _ _ hl2), dp_strs (ys := []) m3, shaped_names hN, shaped_names (ys := []) (fun _ h => by cases h), ?_⟩
      rw [show (([] : List Str).map PyData.str) = [] from rfl, eqv_empty]
      refine ⟨_, rfl, ?_⟩
      cases ys with
      | nil => exact iteF ⟨z0, rfl, nz, dr3⟩
      | cons y r =>
        refine iteT ?_
        refine ⟨_, rfl, p, _, rfl, dr3.2, by decide, log_small (n := 4) (by decide) (by decide) (by decide), fun x H4 x0 x1 dr4 => ?_⟩
        refine ⟨rfl, _, rfl, ite2 (fun _ => ?_) (fun _ => ?_)⟩
        · have hl4 : H4 l = some (.lst ((y :: r).map V.str)) := dr4.1 _ _ nlp (s3 _ _ hl2)
          have hz : (y :: r).map V.str = (y :: r).dropLast.map V.str ++ [.str ((y :: r).getLast (List.cons_ne_nil _ _))] := by
            rw [← List.map_singleton, ← List.map_append, List.dropLast_concat_getLast]
          have ny : IsName ((y :: r).getLast (List.cons_ne_nil _ _)) := hN _ (List.getLast_mem _)
          refine ⟨_, rfl, _, rfl, l, _, -1, _, rfl, rfl, SqL.of hl4, by rw [hz]; exact atI_last _ _, _, rfl, _, _, rfl, rfl, ?_, ?_⟩
          · have := ny.2.1
            have := nz.2.1
            rw [sizeLine_eq]
            omega
          · refine ⟨_, rfl, _, rfl, ?_, _, rfl, cut_name ny nz, dr3.trans dr4⟩
            rw [Str.length_append]
            have := ny.2.1
            have := nz.2.1
            rw [sizeLine_eq]
            omega
        · exact ⟨z0, rfl, nz, dr3.trans dr4⟩
    · -- the second if
      rintro σ H3 ⟨z, rfl, nz, dr3⟩
      have hl3 := dr3.1 _ _ nlp hl
      refine ⟨fun σ H' => ∃ z, σ = [some (.ref p), some (.ref l), some (.str letters), some (.str z), none, none, none] ∧ IsName z ∧ z ∉ ys ∧ Drew p H H', ?_, ?_⟩
      · refine ⟨_, rfl, _, rfl, l, _, rfl, .inl (SqL.of hl3), rfl, flat_strs ys, _, rfl, ?_⟩
        rw [if_neg Bool.false_ne_true, inV_strs]
        refine ite2 (fun hin => ?_) (fun hin => ⟨z, rfl, nz, fun w => hin (decide_eq_true w), dr3⟩)
        refine ⟨_, rfl, _, rfl, fun D1 n1 => ?_⟩
        refine lc_it (walk_str (z := letters)) (fun i H4 => Same H3 (Off D1 H4) ∧ H4 D1 = some (.lst (((List.range i).map cand).map V.str))) ⟨fun b o e => Off.at (ne_of_none e n1) (same_new n1 _ _ e), upd_same⟩ (fun _ _ _ _ => trivial) ?_ ?_
        · rintro i x H4 H5 hi ⟨sm, hD1⟩ ⟨rfl, c, hc, rfl⟩
          refine ⟨rfl, ?_⟩
          dsimp only [tYes]
          rw [if_pos rfl]
          have hi2 : i < 26 := hi
          have ec : c = 97 + i := by
            have key : ∀ n : Fin 26, letters.cps[n.val]? = some (97 + n.val) := by decide +kernel
            have := key ⟨i, hi2⟩
            rw [this] at hc
            exact (Option.some.inj hc).symm
          subst ec
          refine ⟨_, rfl, _, _, rfl, rfl, by show 1 + 1 ≤ sizeLine; decide, _, hD1, by rw [List.length_map, List.length_map, List.length_range]; exact small1000 (by omega), fun b o e => ?_, ?_⟩
          · have nb : b ≠ D1 := ne_of_none e n1
            exact Off.at nb (by rw [upd_ne nb]; exact Off.same _ _ (sm b o e))
          · rw [upd_same, List.range_succ, List.map_append, List.map_append]
            rfl
        · rintro H4 ⟨sm, hD1⟩
          have s34 : Same H3 H4 := fun b o e => Off.same _ _ (sm b o e)
          refine ⟨D1, rfl, ⟨_, SqL.of hD1⟩, fun D2 n2 => ?_⟩
          have nD12 : D1 ≠ D2 := ne_of_none hD1 n2
          refine lc_list (K := K) (a := D1) (xs := ((List.range 26).map cand).map V.str) (fun i H5 => Same H4 (Off D2 H5) ∧ H5 D2 = some (.lst (((((List.range 26).map cand).take i).filter (fun z => decide (z ∉ ys))).map V.str))) ⟨fun b o e => Off.at (ne_of_none e n2) (same_new n2 _ _ e), upd_same⟩ (fun i H5 _ hh => SqL.of (Off.same _ _ (hh.1 _ _ hD1))) ?_ ?_
          · rintro i x H5 hx ⟨sm5, hD2⟩
            have hi : i < ((List.range 26).map cand).length := by
              have := (List.getElem?_eq_some_iff.mp hx).1
              rw [List.length_map] at this
              exact this
            have ex : x = .str ((List.range 26).map cand)[i] := by
              rw [List.getElem?_map, List.getElem?_eq_getElem hi] at hx
              exact (Option.some.inj hx).symm
            subst ex
            have tk : ((List.range 26).map cand).take (i + 1) = ((List.range 26).map cand).take i ++ [((List.range 26).map cand)[i]] := by rw [List.take_add_one, List.getElem?_eq_getElem hi]; rfl
            have hl5 : H5 l = some (.lst (ys.map V.str)) := Off.same _ _ (sm5 _ _ (s34 _ _ hl3))
            refine ⟨rfl, _, rfl, _, rfl, l, _, rfl, .inl (SqL.of hl5), rfl, flat_strs ys, _, rfl, ?_⟩
            rw [if_pos rfl, inV_strs]
            by_cases hm : ((List.range 26).map cand)[i] ∈ ys
            · rw [decide_eq_true hm]
              refine iteF ⟨sm5, ?_⟩
              rw [hD2, tk, List.filter_append]
              have : [((List.range 26).map cand)[i]].filter (fun z => decide (z ∉ ys)) = [] := by
                rw [List.filter_cons, if_neg (by simpa using hm)]
                rfl
              rw [this, List.append_nil]
            · rw [decide_eq_false hm]
              refine iteT ⟨_, rfl, _, hD2, ?_, fun b o e => ?_, ?_⟩
              · rw [List.length_map]
                refine Nat.lt_of_le_of_lt (List.length_filter_le _ _) ?_
                rw [List.length_take]
                exact Nat.lt_of_le_of_lt (Nat.min_le_right _ _) (by rw [List.length_map, List.length_range]; exact small1000 (by omega))
              · have nb : b ≠ D2 := ne_of_none e n2
                exact Off.at nb (by rw [upd_ne nb]; exact Off.same _ _ (sm5 b o e))
              · rw [upd_same, tk, List.filter_append]
                have : [((List.range 26).map cand)[i]].filter (fun z => decide (z ∉ ys)) = [((List.range 26).map cand)[i]] := by
                  rw [List.filter_cons, if_pos (by simpa using hm)]
                  rfl
                rw [this, List.map_append]
                rfl
          · rintro H5 ⟨sm5, hD2⟩
            rw [List.length_map, List.take_length] at hD2
            have ne := cand_free hlen
            cases ef : ((List.range 26).map cand).filter (fun z => decide (z ∉ ys)) with
            | nil => exact absurd ef ne
            | cons z1 zr =>
              have hz1 : z1 ∈ ((List.range 26).map cand).filter (fun z => decide (z ∉ ys)) := by rw [ef]; exact List.mem_cons_self
              obtain ⟨h1, h2⟩ := List.mem_filter.mp hz1
              obtain ⟨k, hk, rfl⟩ := List.mem_map.mp h1
              rw [ef] at hD2
              have s35 : Same H3 H5 := s34.trans fun b o e => Off.same _ _ (sm5 b o e)
              exact ⟨D2, _, 0, _, rfl, rfl, SqL.of hD2, atI_int (by decide) rfl, _, rfl, cand_name k (List.mem_range.mp hk), of_decide_eq_true h2, dr3.1.trans (Same.but s35), dr3.2.same s35⟩
      · rintro σ H4 ⟨z, rfl, nz, nin, dr4⟩
        exact ⟨_, rfl, q z H4 nz nin dr4⟩
end
end Cw
namespace Cw
open PySem PySem.Spec PyProof.Rows L2
theorem log_long {m : Int} (h0 : 0 < m) (h : m ≤ 10 ^ 30) : m.natAbs.log2 < 9000 := by
  have h1 : m.natAbs < 2 ^ 200 := by omega
  exact Nat.lt_of_lt_of_le (PySem.Flt.log2_lt_of (by decide) h1) (by decide)
section
variable {P : Program} {w : World} {K : PySem.W.Frag} {mg : Str → Option Value} {base : Heap}
def spLen : Sp := fun vs H Q _ => ∃ (p : Addr) (y : Int), vs = [.ref p, .int y] ∧ Pot H p ∧ 0 ≤ y ∧ ∀ (L : Int) (H' : Hp), 2 ≤ L → L ≤ 10 ^ 30 → Drew p H H' → Q (.int L) H'
theorem ok_length {f : Addr} {fd : FuncData} (F : FnP K "_law_length" "_law_length" S_length f fd) (TK : TakeOk P w K mg base) : FnOk P w K mg base CX0 2 f fd P_length spLen := by
  obtain ⟨fT, fdT, FT, bT, GT, gT⟩ := TK
  refine F.ok sc_length (fun vs H Q E h => ?_) (fun cdv A outer s H vs Q E hr h => ⟨_, PSs.nox (pss_cons (ps_if (pt_cmpR op_lt (pv 1) pe_int (nomark _))
      (pss_one (ps_ret (pe_op op_add pe_int (pe_call GT hr rfl gT FT.kp bT .nil pass0 (pa_cons (pv 0) (pa_cons (pe_ix ix_list (pe_lst (pa_cons pe_int (pa_cons pe_int (pa_cons pe_int pa_nil)))) (pv 1) (fun _ _ => rfl)) pa_nil)))))) pss_nil)
    (pss_cons (ps_set (i := 2) sc_length.nd rfl (.inl rfl) (pe_op op_add pe_int (pe_call GT hr rfl gT FT.kp bT .nil pass0 (pa_cons (pv 0) (pa_cons (pe_op op_sub (pe_op op_pow pe_int pe_int) pe_int) pa_nil)))))
    (pss_cons (ps_set (i := 3) sc_length.nd rfl (.inl rfl) (pe_lst (pa_cons (pv 2) (pa_cons (pe_op op_sub (pe_op op_pow pe_int pe_int) (pe_call GT hr rfl gT FT.kp bT .nil pass0 (pa_cons (pv 0) (pa_cons pe_int pa_nil))))
        (pa_cons (pe_op op_add (pe_op op_mul pe_int (pe_op op_pow pe_int pe_int)) (pe_call GT hr rfl gT FT.kp bT .nil pass0 (pa_cons (pv 0) (pa_cons pe_int pa_nil)))) (pa_cons (pe_op op_add pe_int (pe_call GT hr rfl gT FT.kp bT .nil pass0 (pa_cons (pv 0) (pa_cons pe_int pa_nil)))) pa_nil))))))
    (pss_one (ps_ret (pe_ix ix_list (pv 3) (pe_call GT hr rfl gT FT.kp bT .nil pass0 (pa_cons (pv 0) (pa_cons pe_int pa_nil))) (fun _ _ => rfl))))))), ?_⟩)
  · obtain ⟨p, y, rfl, _⟩ := h
    rfl
  · obtain ⟨p, y, rfl, hP, y0, q⟩ := h
    refine ⟨_, rfl, _, _, rfl, rfl, _, rfl, ite2 (fun h => ?_) (fun h => ?_)⟩
    · have hy : y < 3 := of_decide_eq_true h
      refine ⟨_, rfl, by show 3 ≤ sizeLine; decide, fun m nm => ?_⟩
      obtain ⟨s0, m0⟩ := fresh2 (o := .lst [.int 4, .int 11, .int 39]) nm
      obtain ⟨j, hj, j1, j2⟩ : ∃ j : Int, ([.int 4, .int 11, .int 39] : List V)[y.toNat]? = some (.int j) ∧ 0 < j ∧ j ≤ 39 := by
        have h4 : y.toNat < 3 := by omega
        match y.toNat, h4 with
        | 0, _ => exact ⟨4, rfl, by decide, by decide⟩
        | 1, _ => exact ⟨11, rfl, by decide, by decide⟩
        | 2, _ => exact ⟨39, rfl, by decide, by decide⟩
      refine ⟨_, rfl, m, _, y, _, rfl, rfl, SqL.of m0, atI_int y0 hj, p, j, rfl, hP.same s0, j1, log_small (n := 39) j1 (by omega) (by decide), fun d H1 d0 d1 dr => ⟨_, _, rfl, rfl, ?_⟩⟩
      exact q _ _ (by omega) (by omega) ⟨(Same.but s0).trans dr.1, dr.2⟩
    · refine ⟨_, rfl, _, _, rfl, rfl, ⟨by decide, by decide, by decide⟩, _, _, rfl, rfl, p, 10 ^ 30 - 1, rfl, hP, by decide, by decide +kernel, fun d1 H1 a1 b1 dr1 => ⟨_, _, rfl, rfl, ?_⟩⟩
      refine ⟨_, rfl, _, _, rfl, rfl, ⟨by decide, by decide, by decide⟩, _, rfl, p, 3, rfl, dr1.2, by decide, by decide +kernel, fun d2 H2 a2 b2 dr2 => ⟨_, _, rfl, rfl, ?_⟩⟩
      refine ⟨_, _, rfl, rfl, ⟨by decide, by decide, by decide⟩, _, _, rfl, rfl, .inl ⟨by decide, by decide⟩, _, rfl, p, 3, rfl, dr2.2, by decide, by decide +kernel, fun d3 H3 a3 b3 dr3 => ⟨_, _, rfl, rfl, ?_⟩⟩
      refine ⟨_, rfl, p, 9, rfl, dr3.2, by decide, by decide +kernel, fun d4 H4 a4 b4 dr4 => ⟨_, _, rfl, rfl, ?_⟩⟩
      refine ⟨by show 4 ≤ sizeLine; decide, fun m nm => ?_⟩
      have drA := ((dr1.trans dr2).trans dr3).trans dr4
      obtain ⟨s0, m0⟩ := fresh2 (o := .lst [.int (2 + d1), .int (10 ^ 30 - d2), .int (5 * 10 ^ 29 + d3), .int (2 + d4)]) nm
      have P4 := drA.2.same s0
      refine ⟨_, rfl, _, rfl, p, 4, rfl, P4, by decide, by decide +kernel, fun d5 H5 a5 b5 dr5 => ?_⟩
      have nmp : m ≠ p := (drA.2.ne nm).symm
      have hm5 := dr5.1 _ _ nmp m0
      obtain ⟨j, hj, j1, j2⟩ : ∃ j : Int, ([.int (2 + d1), .int (10 ^ 30 - d2), .int (5 * 10 ^ 29 + d3), .int (2 + d4)] : List V)[d5.toNat]? = some (.int j) ∧ 2 ≤ j ∧ j ≤ 10 ^ 30 := by
        have h4 : d5.toNat < 4 := by omega
        match d5.toNat, h4 with
        | 0, _ => exact ⟨_, rfl, by omega, by omega⟩
        | 1, _ => exact ⟨_, rfl, by omega, by omega⟩
        | 2, _ => exact ⟨_, rfl, by omega, by omega⟩
        | 3, _ => exact ⟨_, rfl, by omega, by omega⟩
      exact ⟨m, _, d5, _, rfl, rfl, SqL.of hm5, atI_int a5 hj, q j H5 j1 j2 ⟨(drA.1.trans (Same.but s0)).trans dr5.1, dr5.2⟩⟩
end
end Cw
namespace Cw
open PySem PySem.Spec PyProof.Rows L2
/-- what may be found along a tie of length L: places between its ends, states 1 and 2 -/
structure Found (L : Int) (hs : List (Int × Int)) : Prop where
  nd : (hs.map (·.1)).Nodup
  at_ : ∀ h ∈ hs, 1 ≤ h.1 ∧ h.1 < L ∧ 1 ≤ h.2 ∧ h.2 ≤ 2
/-- the same, places rising -/
structure Hear (L : Int) (hs : List (Int × Int)) : Prop where
  up : hs.Pairwise (fun a b => a.1 < b.1)
  at_ : ∀ h ∈ hs, 1 ≤ h.1 ∧ h.1 < L ∧ 1 ≤ h.2 ∧ h.2 ≤ 2
theorem found_nil {L : Int} : Found L [] := ⟨List.nodup_nil, fun _ h => by cases h⟩
theorem put_found {L k v : Int} {hs : List (Int × Int)} (F : Found L hs) (k1 : 1 ≤ k) (k2 : k < L) (v1 : 1 ≤ v) (v2 : v ≤ 2) : ∃ hs', putK (enc hs) (Sum.inl k) (.int v) = enc hs' ∧ Found L hs' ∧ hs'.length ≤ hs.length + 1 := by
  unfold putK
  by_cases h : ((enc hs).any fun kv => decide (kv.1 = Sum.inl k)) = true
  · rw [if_pos h]
    refine ⟨hs.map fun x => if x.1 = k then (x.1, v) else x, ?_, ⟨?_, ?_⟩, by rw [List.length_map]; omega⟩
    · unfold enc
      rw [List.map_map, List.map_map]
      refine List.map_congr_left fun x _ => ?_
      show (if (Sum.inl x.1 : Key) = Sum.inl k then ((Sum.inl x.1 : Key), V.int v) else (Sum.inl x.1, V.int x.2)) = _
      by_cases e : x.1 = k
      · rw [if_pos (congrArg Sum.inl e)]
        show _ = ((Sum.inl (if x.1 = k then (x.1, v) else x).1 : Key), V.int (if x.1 = k then (x.1, v) else x).2)
        rw [if_pos e]
      · rw [if_neg fun z => e (Sum.inl.inj z)]
        show _ = ((Sum.inl (if x.1 = k then (x.1, v) else x).1 : Key), V.int (if x.1 = k then (x.1, v) else x).2)
        rw [if_neg e]
    · have e : (hs.map fun x => if x.1 = k then (x.1, v) else x).map (·.1) = hs.map (·.1) := by
        rw [List.map_map]
        refine List.map_congr_left fun x _ => ?_
        show (if x.1 = k then (x.1, v) else x).1 = x.1
        split <;> rfl
      rw [e]
      exact F.nd
    · intro x hx
      obtain ⟨y, hy, rfl⟩ := List.mem_map.mp hx
      have := F.at_ y hy
      split
      · exact ⟨this.1, this.2.1, v1, v2⟩
      · exact this
  · rw [if_neg h]
    have nk : k ∉ hs.map (·.1) := fun z => h (by
      obtain ⟨y, hy, e⟩ := List.mem_map.mp z
      refine List.any_eq_true.mpr ⟨(Sum.inl y.1, V.int y.2), List.mem_map.mpr ⟨y, hy, rfl⟩, ?_⟩
      exact decide_eq_true (congrArg Sum.inl e))
    refine ⟨hs ++ [(k, v)], ?_, ⟨?_, ?_⟩, by rw [List.length_append]; exact Nat.le_refl _⟩
    · unfold enc
      rw [List.map_append]
      rfl
    · rw [List.map_append]
      exact nd_snoc F.nd nk
    · intro x hx
      rcases List.mem_append.mp hx with hx | hx
      · exact F.at_ x hx
      · rw [List.mem_singleton.mp hx]
        exact ⟨k1, k2, v1, v2⟩
theorem hear_of {L : Int} {hs hs' : List (Int × Int)} (F : Found L hs) (p : hs'.Perm hs) (u : hs'.Pairwise (fun a b => a.1 < b.1)) : Hear L hs' := ⟨u, fun h hh => F.at_ h (p.mem_iff.mp hh)⟩
theorem paired_imp {α β : Type} {F G : α → β → Prop} : ∀ {xs : List α} {ys : List β}, Paired F xs ys → (∀ x y, x ∈ xs → F x y → G x y) → Paired G xs ys
  | _, _, .nil, _ => .nil
  | _, _, .cons h r, k => .cons (k _ _ List.mem_cons_self h) (paired_imp r fun x y hx => k x y (List.mem_cons_of_mem _ hx))
/-- hearers as data -/
def dHear (h : Int × Int) : PyData := .tuple [.int h.1, .int h.2]
def dHs (hs : List (Int × Int)) : PyData := .tuple (hs.map dHear)
theorem all_hears : ∀ hs : List (Int × Int), allTup (hs.map dHear) = true
  | [] => rfl
  | _ :: r => all_hears r
theorem dx_hears {H : Hp} : ∀ {ts : List Addr} {hs : List (Int × Int)}, Paired (fun (t : Addr) (h : Int × Int) => H t = some (.tup [.int h.1, .int h.2])) ts hs → DxAll H (ts.map V.ref) (hs.map dHear)
  | _, _, .nil => .nil
  | _, _, .cons h r => .cons (.tup h (.cons (.int _) (.cons (.int _) .nil))) (dx_hears r)
section
variable {P : Program} {w : World} {K : PySem.W.Frag} {mg : Str → Option Value} {base : Heap}
def spHear : Sp := fun vs H Q _ => ∃ (p : Addr) (L n : Int), vs = [.ref p, .int L, .int n] ∧ Pot H p ∧ 2 ≤ L ∧ L ≤ 10 ^ 30 ∧ 0 ≤ n ∧ n ≤ 12 ∧
  ∀ (v : V) (hs : List (Int × Int)) (H' : Hp), Dx (Off p H') v (dHs hs) → Hear L hs → (hs.length : Int) ≤ n → Drew p H H' → Q v H'
theorem ok_hearers {f : Addr} {fd : FuncData} (F : FnP K "_law_hearers" "_law_hearers" S_hearers f fd) (TK : TakeOk P w K mg base) (mr : mg "range" = none) (ml : mg "len" = none) (mt : mg "tuple" = none) (ms : mg "sorted" = none) : FnOk P w K mg base CX0 2 f fd P_hearers spHear := by
  obtain ⟨fT, fdT, FT, bT, GT, gT⟩ := TK
  refine F.ok sc_hearers (fun vs H Q E h => ?_) (fun cdv A outer s H vs Q E hr h => ⟨_, PSs.nox (pss_cons (ps_set (i := 3) sc_hearers.nd rfl (.inl rfl) pe_dnewK)
    (pss_cons (ps_set (i := 4) sc_hearers.nd rfl (.inl rfl) (pe_call GT hr rfl gT FT.kp bT .nil pass0 (pa_cons (pv 0) (pa_cons pe_int pa_nil))))
    (C8.pss_cut (ps_if (pt_cmpR op_in_seq (pv 4) (pe_tup (pa_cons pe_int (pa_cons pe_int pa_nil))) (by rfl))
      (pss_one (ps_for PassesOwn.never rfl (pi_range1 rfl mr (pa_cons (pe_call GT hr rfl gT FT.kp bT .nil pass0 (pa_cons (pv 0) (pa_cons (pe_op op_add (pv 2) pe_int) pa_nil))) pa_nil)) (pg_name (i := 5) sc_hearers.nd rfl (Or.inl rfl))
        (pss_one (ps_dput (hu_of hr) (pv 3) (pe_op op_add pe_int (pe_call GT hr rfl gT FT.kp bT .nil pass0 (pa_cons (pv 0) (pa_cons (pe_op op_sub (pv 1) pe_int) pa_nil)))) (pe_op op_add pe_int (pe_call GT hr rfl gT FT.kp bT .nil pass0 (pa_cons (pv 0) (pa_cons pe_int pa_nil)))) rfl)))) pss_nil)
    (C8.pss_cut (ps_if (PW.pt (pw_and (pt_cmpR op_eq (pv 4) pe_int (nomark _)) (pw_and1 (pt_cmpR op_gt (pv 2) pe_int (nomark _)))))
      (pss_one (ps_dput (hu_of hr) (pv 3) (pe_ix ix_list (pe_lst (pa_cons pe_int (pa_cons (pe_op op_sub (pv 1) pe_int) pa_nil))) (pe_call GT hr rfl gT FT.kp bT .nil pass0 (pa_cons (pv 0) (pa_cons pe_int pa_nil))) (fun _ _ => rfl)) (pe_op op_add pe_int (pe_call GT hr rfl gT FT.kp bT .nil pass0 (pa_cons (pv 0) (pa_cons pe_int pa_nil)))) rfl)) pss_nil)
    (C8.pss_cut (ps_if (pt_cmpR op_eq (pv 4) pe_int (nomark _))
      (pss_cons (ps_par (i := 6) (j := 7) (by rfl) sc_hearers.nd rfl rfl (by decide) rfl rfl (pa_cons (pe_op op_add pe_int (pe_call GT hr rfl gT FT.kp bT .nil pass0 (pa_cons (pv 0) (pa_cons (pe_op op_sub (pv 1) pe_int) pa_nil))))
          (pa_cons (pe_ix ix_list (pe_lst (pa_cons pe_int (pa_cons (pe_un un_neg pe_int) pa_nil))) (pe_call GT hr rfl gT FT.kp bT .nil pass0 (pa_cons (pv 0) (pa_cons pe_int pa_nil))) (fun _ _ => rfl)) pa_nil)) (by rfl))
      (pss_one (ps_while PassesOwn.never (PW.pt (pw_and (pt_cmpR op_lt (pe_op op_add (pe_callB call_lenD (by rfl) ml PySem.boot_len (pa_cons (pv 3) pa_nil)) pe_int) (pv 2) (nomark _))
          (pw_and (pt_chain op_lt op_lt pe_int (pv 6) (pv 1)) (pw_and1 (pt_chain op_lt op_lt pe_int (pe_op op_sub (pv 6) (pv 7)) (pv 1))))))
        (pss_cons (ps_asg (pe_tup (pa_cons pe_int (pa_cons pe_int pa_nil))) (pg_tup (by rfl) (pgs_cons (pg_sub (pv 3) (pv 6) (set_dict (hu_of hr))) (pgs_cons (pg_sub (pv 3) (pe_op op_sub (pv 6) (pv 7)) (set_dict (hu_of hr))) pgs_nil))))
        (pss_one (ps_set (i := 6) sc_hearers.nd rfl (.inl rfl) (pe_op op_sub (pv 6) (pe_op op_mul pe_int (pv 7))))))))) pss_nil)
    (pss_one (ps_ret (pe_callTy call_tupleZ (by rfl) mt (by decide +kernel) (pa_cons (pe_sortedItems rfl (pv 3) rfl ms) pa_nil)))))))))  , ?_⟩)
  · obtain ⟨p, L, n, rfl, _⟩ := h
    rfl
  · obtain ⟨p, L, n, rfl, hP, hL2, hL3, n0, n12, q⟩ := h
    intro fa nfa
    obtain ⟨s0, m0⟩ := fresh2 (o := .dK []) nfa
    have nfp : fa ≠ p := (hP.ne nfa).symm
    refine ⟨_, rfl, p, 5, rfl, hP.same s0, by decide, by decide +kernel, fun way H1 w0 w5 dr1 => ?_⟩
    have d1 : Drew p H H1 := ⟨(Same.but s0).trans dr1.1, dr1.2⟩
    have f1 : H1 fa = some (.dK (enc [])) := dr1.1 _ _ nfp m0
    have nH : ∀ b o, H b = some o → b ≠ fa := fun b o e => ne_of_none e nfa
    have step : ∀ {H2 : Hp} {hs : List (Int × Int)} {k v : Int}, H2 fa = some (.dK (enc hs)) → Found L hs → hs.length < 1000 → 1 ≤ k → k < L → 1 ≤ v → v ≤ 2 → Drew p H H2 →
        ∃ hs', DPut H2 fa (.int k) (.int v) (upd H2 fa (.dK (enc hs'))) ∧ Found L hs' ∧ hs'.length ≤ hs.length + 1 ∧ Drew p H (upd H2 fa (.dK (enc hs'))) := by
      intro H2 hs k v e F hl k1 k2 v1 v2 dr
      obtain ⟨hs', e1, F', l'⟩ := put_found F k1 k2 v1 v2
      have le : (enc hs).length = hs.length := List.length_map ..
      refine ⟨hs', ?_, F', l', fun b o n z => ?_, ?_⟩
      · have := DPut.k (k := (Sum.inl k : Key)) (v := .int v) e (small1000 (by omega))
        rw [e1] at this
        exact this
      · rw [upd_ne (nH b o z)]
        exact dr.1 b o n z
      · obtain ⟨u0, u1, z, r⟩ := dr.2
        exact ⟨u0, u1, by rw [upd_ne nfp.symm]; exact z, r⟩
    refine ⟨fun σ H' => ∃ (hs : List (Int × Int)) (vk : Option V), σ = [some (.ref p), some (.int L), some (.int n), some (.ref fa), some (.int way), vk, none, none] ∧ H' fa = some (.dK (enc hs)) ∧ Found L hs ∧ (hs.length : Int) ≤ n ∧ Drew p H H' ∧ (way = 3 ∨ way = 4 → hs = []), ?_, ?_⟩
    · refine ⟨_, rfl, by show 2 ≤ sizeLine; decide, fun tw ntw => ?_⟩
      obtain ⟨s2, m2⟩ := fresh2 (o := .tup [.int 1, .int 2]) ntw
      have d2 : Drew p H (upd H1 tw (.tup [.int 1, .int 2])) := ⟨d1.1.trans (Same.but s2), d1.2.same s2⟩
      refine ⟨tw, _, rfl, .inr (SqT.of m2), rfl, rfl, _, rfl, ?_⟩
      rw [if_neg Bool.false_ne_true]
      refine ite2 (fun h => ?_) (fun h => ⟨[], none, rfl, s2 _ _ f1, found_nil, by simpa using n0, d2, fun _ => rfl⟩)
      have hw : way = 1 ∨ way = 2 := by
        have h' : ((1 : Int) == way || ((2 : Int) == way || false)) = true := h
        simp only [Bool.or_false, Bool.or_eq_true, beq_iff_eq] at h'
        omega
      refine ⟨_, rfl, _, rfl, _, _, rfl, rfl, p, n + 1, rfl, d2.2, by omega, log_small (n := 13) (by omega) (by omega) (by decide), fun m H3 m0' m1' dr3 => ?_⟩
      refine ⟨m, rfl, by omega, by omega, ?_⟩
      have d3 := d2.trans dr3
      refine for_it walk_range (fun i σ H' => ∃ (hs : List (Int × Int)) (vk : Option V), σ = [some (.ref p), some (.int L), some (.int n), some (.ref fa), some (.int way), vk, none, none] ∧ H' fa = some (.dK (enc hs)) ∧ Found L hs ∧ hs.length ≤ i ∧ Drew p H H') ⟨[], none, rfl, dr3.1 _ _ nfp (s2 _ _ f1), found_nil, Nat.le_refl _, d3⟩ (fun _ _ _ _ _ => trivial) ?_ ?_
      · rintro i x σ H4 H4' hi ⟨hs, vk, rfl, e4, F4, l4, d4⟩ ⟨rfl, rfl⟩
        refine ⟨_, rfl, p, 2, rfl, d4.2, by decide, by decide +kernel, fun v H5 v0 v1 dr5 => ⟨_, _, rfl, rfl, _, rfl, _, rfl, _, rfl, _, _, rfl, rfl, p, L - 1, rfl, dr5.2, by omega, log_long (by omega) (by omega), fun k H6 k0 k1 dr6 => ⟨_, _, rfl, rfl, ?_⟩⟩⟩
        have d6 := (d4.trans dr5).trans dr6
        obtain ⟨hs', e1, F', l', d'⟩ := step (dr6.1 _ _ nfp (dr5.1 _ _ nfp e4)) F4 (by omega) (k := 1 + k) (v := 1 + v) (by omega) (by omega) (by omega) (by omega) d6
        exact ⟨fa, _, rfl, e1, hs', _, rfl, upd_same, F', by omega, d'⟩
      · rintro σ H4 ⟨hs, vk, rfl, e4, F4, l4, d4⟩
        exact ⟨hs, vk, rfl, e4, F4, by omega, d4, fun z => by omega⟩
    · rintro σ H2 ⟨hs, vk, rfl, e2, F2, l2, d2, z2⟩
      refine ⟨fun σ H' => ∃ (hs : List (Int × Int)) (vk : Option V), σ = [some (.ref p), some (.int L), some (.int n), some (.ref fa), some (.int way), vk, none, none] ∧ H' fa = some (.dK (enc hs)) ∧ Found L hs ∧ (hs.length : Int) ≤ n ∧ Drew p H H' ∧ (way = 4 → hs = []), ?_, ?_⟩
      · refine ⟨_, rfl, rfl, _, rfl, ite2 (fun h => ?_) (fun h => ⟨hs, vk, rfl, e2, F2, l2, d2, fun z => z2 (.inr z)⟩)⟩
        have hw : way = 3 := V.int.inj (of_decide_eq_true h)
        have hs0 := z2 (.inl hw)
        subst hs0
        refine ⟨_, rfl, _, _, rfl, rfl, _, rfl, ite2 (fun h2 => ?_) (fun h2 => ⟨[], vk, rfl, e2, F2, l2, d2, fun _ => rfl⟩)⟩
        have hn : 0 < n := of_decide_eq_true h2
        refine ⟨_, rfl, p, 2, rfl, d2.2, by decide, by decide +kernel, fun v H3 v0 v1 dr3 => ⟨_, _, rfl, rfl, _, rfl, _, rfl, _, _, rfl, rfl, by show 2 ≤ sizeLine; decide, fun lm nlm => ?_⟩⟩
        obtain ⟨s3, m3⟩ := fresh2 (o := .lst [.int 1, .int (L - 1)]) nlm
        have nlp : lm ≠ p := (dr3.2.ne nlm).symm
        refine ⟨_, rfl, p, 2, rfl, dr3.2.same s3, by decide, by decide +kernel, fun j H4 j0 j1 dr4 => ?_⟩
        have d4 : Drew p H H4 := (d2.trans dr3).trans ⟨(Same.but s3).trans dr4.1, dr4.2⟩
        obtain ⟨k, hk, k1, k2⟩ : ∃ k : Int, ([.int 1, .int (L - 1)] : List V)[j.toNat]? = some (.int k) ∧ 1 ≤ k ∧ k < L := by
          have h4 : j.toNat < 2 := by omega
          match j.toNat, h4 with
          | 0, _ => exact ⟨_, rfl, by omega, by omega⟩
          | 1, _ => exact ⟨_, rfl, by omega, by omega⟩
        obtain ⟨hs', e1, F', l', d'⟩ := step (dr4.1 _ _ nfp (s3 _ _ (dr3.1 _ _ nfp e2))) F2 (by show 0 < 1000; decide) (k := k) (v := 1 + v) k1 k2 (by omega) (by omega) d4
        refine ⟨lm, _, j, _, rfl, rfl, SqL.of (dr4.1 _ _ nlp m3), atI_int j0 hk, fa, _, rfl, e1, hs', _, rfl, upd_same, F', ?_, d', fun z => by omega⟩
        have l'' : hs'.length ≤ 1 := l'
        omega
      · rintro σ H3 ⟨hs, vk, rfl, e3, F3, l3, d3, z3⟩
        refine ⟨fun σ H' => ∃ (hs : List (Int × Int)) (v5 v6 v7 : Option V), σ = [some (.ref p), some (.int L), some (.int n), some (.ref fa), some (.int way), v5, v6, v7] ∧ H' fa = some (.dK (enc hs)) ∧ Found L hs ∧ (hs.length : Int) ≤ n ∧ Drew p H H', ?_, ?_⟩
        · refine ⟨_, rfl, rfl, _, rfl, ite2 (fun h => ?_) (fun h => ⟨hs, vk, none, none, rfl, e3, F3, l3, d3⟩)⟩
          have hw : way = 4 := V.int.inj (of_decide_eq_true h)
          have hs0 := z3 hw
          subst hs0
          refine ⟨_, rfl, _, rfl, _, _, rfl, rfl, p, L - 1, rfl, d3.2, by omega, log_long (by omega) (by omega), fun k H4 k0 k1 dr4 => ⟨_, _, rfl, rfl, _, rfl, by show 2 ≤ sizeLine; decide, fun lm nlm => ?_⟩⟩
          obtain ⟨s4, m4⟩ := fresh2 (o := .lst [.int 1, .int (-1)]) nlm
          have nlp : lm ≠ p := (dr4.2.ne nlm).symm
          refine ⟨_, rfl, p, 2, rfl, dr4.2.same s4, by decide, by decide +kernel, fun j H5 j0 j1 dr5 => ?_⟩
          have d5 : Drew p H H5 := (d3.trans dr4).trans ⟨(Same.but s4).trans dr5.1, dr5.2⟩
          obtain ⟨on, hon, on1⟩ : ∃ on : Int, ([.int 1, .int (-1)] : List V)[j.toNat]? = some (.int on) ∧ (on = 1 ∨ on = -1) := by
            have h4 : j.toNat < 2 := by omega
            match j.toNat, h4 with
            | 0, _ => exact ⟨_, rfl, .inl rfl⟩
            | 1, _ => exact ⟨_, rfl, .inr rfl⟩
          refine ⟨lm, _, j, _, rfl, rfl, SqL.of (dr5.1 _ _ nlp m4), atI_int j0 hon, _, _, rfl, ?_⟩
          refine ⟨fun m σ H' => ∃ (hs : List (Int × Int)) (pl : Int), σ = [some (.ref p), some (.int L), some (.int n), some (.ref fa), some (.int way), vk, some (.int pl), some (.int on)] ∧ H' fa = some (.dK (enc hs)) ∧ Found L hs ∧ (hs.length : Int) ≤ n ∧ Drew p H H' ∧ m = (if on = 1 then pl.toNat else (L - pl).toNat), ⟨_, [], 1 + k, rfl, dr5.1 _ _ nfp (s4 _ _ (dr4.1 _ _ nfp e3)), found_nil, by simpa using n0, d5, rfl⟩, ?_⟩
          rintro m σ H6 ⟨hs, pl, rfl, e6, F6, l6, d6, rfl⟩
          have le : (enc hs).length = hs.length := List.length_map ..
          refine ⟨_, rfl, fa, _, rfl, e6, _, _, rfl, rfl, _, rfl, _, _, rfl, rfl, _, rfl, ite2 (fun h1 => ?_) (fun h1 => ?_)⟩
          · have hlen : (hs.length : Int) + 1 < n := by
              have := of_decide_eq_true h1
              rw [le] at this
              exact this
            refine ⟨_, rfl, _, _, rfl, rfl, _, rfl, ite2 (fun a1 => ?_) (fun a1 => ⟨false, rfl, iteF (iteF ⟨hs, _, _, _, rfl, e6, F6, l6, d6⟩)⟩)⟩
            refine ⟨_, rfl, _, _, rfl, rfl, _, rfl, ite2 (fun a2 => ?_) (fun a2 => iteF ⟨hs, _, _, _, rfl, e6, F6, l6, d6⟩)⟩
            refine ⟨_, rfl, _, rfl, _, _, rfl, rfl, _, _, rfl, rfl, _, rfl, ite2 (fun a3 => ?_) (fun a3 => ⟨false, rfl, iteF ⟨hs, _, _, _, rfl, e6, F6, l6, d6⟩⟩)⟩
            refine ⟨_, rfl, _, _, rfl, rfl, _, rfl, ite2 (fun a4 => ?_) (fun a4 => ⟨hs, _, _, _, rfl, e6, F6, l6, d6⟩)⟩
            have c1 : 0 < pl := of_decide_eq_true a1
            have c2 : pl < L := of_decide_eq_true a2
            have c3 : 0 < pl - on := of_decide_eq_true a3
            have c4 : pl - on < L := of_decide_eq_true a4
            refine ⟨fun σ' H' => ∃ (hs : List (Int × Int)) (pl' : Int), σ' = [some (.ref p), some (.int L), some (.int n), some (.ref fa), some (.int way), vk, some (.int pl'), some (.int on)] ∧ H' fa = some (.dK (enc hs)) ∧ Found L hs ∧ (hs.length : Int) ≤ n ∧ Drew p H H' ∧ (if on = 1 then pl'.toNat else (L - pl').toNat) < (if on = 1 then pl.toNat else (L - pl).toNat), fun σ' H' z => ?_, ?_⟩
            · obtain ⟨hs2, pl2, e1, e2', e3', e4', e5', e6'⟩ := z
              exact ⟨_, e6', hs2, pl2, e1, e2', e3', e4', e5', rfl⟩
            · refine ⟨by show 2 ≤ sizeLine; decide, fun tt ntt => ?_⟩
              obtain ⟨s7, m7⟩ := fresh2 (o := .tup [.int 1, .int 2]) ntt
              have d7 : Drew p H (upd H6 tt (.tup [.int 1, .int 2])) := ⟨d6.1.trans (Same.but s7), d6.2.same s7⟩
              obtain ⟨hs1, g1, F1', l1', d8⟩ := step (s7 _ _ e6) F6 (by omega) (k := pl) (v := 1) (by omega) c2 (by decide) (by decide) d7
              obtain ⟨hs2, g2, F2', l2', d9⟩ := step upd_same F1' (by omega) (k := pl - on) (v := 2) (by omega) c4 (by decide) (by decide) d8
              refine ⟨tt, _, rfl, SqT.of m7, rfl, _, _, rfl, _, rfl, _, rfl, fa, _, rfl, g1, _, _, rfl, _, rfl, _, rfl, _, rfl, _, _, rfl, rfl, fa, _, rfl, g2, rfl, ?_⟩
              refine ⟨_, rfl, _, rfl, _, _, rfl, rfl, .inl ⟨by decide, by decide⟩, _, _, rfl, rfl, hs2, _, rfl, upd_same, F2', by omega, d9, ?_⟩
              rcases on1 with rfl | rfl
              · rw [if_pos rfl, if_pos rfl]
                omega
              · rw [if_neg (by decide), if_neg (by decide)]
                omega
          · exact iteF ⟨hs, _, _, _, rfl, e6, F6, l6, d6⟩
        · rintro σ H4 ⟨hs, v5, v6, v7, rfl, e4, F4, l4, d4⟩
          have le : (enc hs).length = hs.length := List.length_map ..
          refine ⟨_, rfl, fa, hs, rfl, e4, by omega, F4.nd, fun H5 l ts hs' sm nl hl pr pm up => ?_⟩
          refine ⟨l, _, rfl, SqL.of hl, fun t ob nt dn => ?_⟩
          obtain ⟨s6, m6⟩ := fresh2 (o := .frz ob (.tup (ts.map V.ref))) nt
          have ntp : t ≠ p := ((d4.2.same sm).ne nt).symm
          have d6 : Drew p H (upd H5 t (.frz ob (.tup (ts.map V.ref)))) := ⟨(d4.1.trans (Same.but sm)).trans (Same.but s6), (d4.2.same sm).same s6⟩
          have H4p : ∀ a, a ∈ ts → a ≠ p := fun a ha e => by
            obtain ⟨j, h, _, _, z⟩ := LiI.paired_ix pr ha
            obtain ⟨u0, u1, z2, _⟩ := d4.2.same sm
            rw [e, z2] at z
            cases z
          have pr2 : Paired (fun (a : Addr) (h : Int × Int) => Off p (upd H5 t (.frz ob (.tup (ts.map V.ref)))) a = some (.tup [.int h.1, .int h.2])) ts hs' := by
            refine paired_imp pr fun a h ha e => ?_
            exact Off.at (H4p a ha) (s6 _ _ e)
          refine q _ hs' _ (.tupz (Off.at ntp m6) dn (dx_hears pr2) (all_hears hs')) (hear_of F4 pm up) ?_ d6
          rw [pm.length_eq]
          exact l4
end
end Cw
namespace Cw
open PySem PySem.Spec PyProof.Rows L2
/-- a tuple, locked or not -/
def IsT : HO → Prop
  | .tup _ => True
  | .frz _ (.tup _) => True
  | _ => False
/-- tuples stay -/
def TK (H H' : Hp) : Prop := ∀ b o, IsT o → H b = some o → H' b = some o
theorem TK.trans {H H1 H2 : Hp} (a : TK H H1) (b : TK H1 H2) : TK H H2 := fun c o t e => b c o t (a c o t e)
theorem Same.tk {H H' : Hp} (a : Same H H') : TK H H' := fun c o _ e => a c o e
theorem Drew.tk {p : Addr} {H H' : Hp} (hP : Pot H p) (d : Drew p H H') : TK H H' := fun c o t e => d.1 c _ (fun z => by
  obtain ⟨_, _, e2, _⟩ := hP
  rw [z, e2] at e
  cases e
  exact t) e
theorem upd_tk {H : Hp} {D : Addr} {ys : List V} {o : HO} (h : H D = some (.lst ys)) : TK H (upd H D o) := fun c u t e => by
  have n : c ≠ D := fun z => by
    rw [z, h] at e
    cases e
    exact t
  rw [upd_ne n]
  exact e
theorem pot_not_tup {p t : Addr} {H : Hp} {xs : List V} (hP : Pot H p) (e : H t = some (.tup xs)) : t ≠ p := fun z => by
  obtain ⟨_, _, e2, _⟩ := hP
  rw [z, e2] at e
  cases e
/-- persons as data -/
def dPer (f : Str × Int) : PyData := .tuple [.str f.1, .int f.2]
def dFolk (folk : List (Str × Int)) : PyData := .list (folk.map dPer)
abbrev PerAt (H : Hp) (t : Addr) (f : Str × Int) : Prop := H t = some (.tup [.str f.1, .int f.2])
theorem dx_folk {H : Hp} : ∀ {ts : List Addr} {fs : List (Str × Int)}, Paired (PerAt H) ts fs → DxAll H (ts.map V.ref) (fs.map dPer)
  | _, _, .nil => .nil
  | _, _, .cons h r => .cons (.tup h (.cons (.str _) (.cons (.int _) .nil))) (dx_folk r)
theorem paired_tk {H H' : Hp} {ts : List Addr} {fs : List (Str × Int)} (h : Paired (PerAt H) ts fs) (k : TK H H') : Paired (PerAt H') ts fs := paired_imp h fun t f _ e => k _ _ trivial e
theorem paired_snoc {α β : Type} {F : α → β → Prop} : ∀ {xs : List α} {ys : List β} {x : α} {y : β}, Paired F xs ys → F x y → Paired F (xs ++ [x]) (ys ++ [y])
  | _, _, _, _, .nil, h => .cons h .nil
  | _, _, _, _, .cons a r, h => .cons a (paired_snoc r h)
/-- names that are unlike, states that are some -/
structure Folk (fs : List (Str × Int)) : Prop where
  nd : (fs.map (·.1)).Nodup
  nm : ∀ f ∈ fs, IsName f.1
  st : ∀ f ∈ fs, 0 ≤ f.2 ∧ f.2 ≤ 2
theorem ix_listK {X : Cx} {K : PySem.W.Frag} (h : X.K = K) : IxR X (rIxL K) := by
  subst h
  exact ix_list
section
variable {P : Program} {w : World} {K : PySem.W.Frag} {mg : Str → Option Value} {base : Heap}
abbrev NameOk (P : Program) (w : World) (K : PySem.W.Frag) (mg : Str → Option Value) (base : Heap) : Prop := ∃ (fT : Addr) (fdT : FuncData), FnP K "_law_name" "_law_name" S_name fT fdT ∧ Binds K fdT P_name [] ∧ FnOk P w K mg base CX0 2 fT fdT P_name spName ∧ mg "_law_name" = some (.ref fT)
def spPersons : Sp := fun vs H Q _ => ∃ (p : Addr) (m : Int), vs = [.ref p, .int m] ∧ Pot H p ∧ 0 ≤ m ∧ m ≤ 8 ∧
  ∀ (v : V) (fs : List (Str × Int)) (H' : Hp), Dx (Off p H') v (dFolk fs) → Folk fs → (fs.length : Int) = m → Drew p H H' → Q v H'
theorem ok_persons {f : Addr} {fd : FuncData} (F : FnP K "_law_persons" "_law_persons" S_persons f fd) (TK' : TakeOk P w K mg base) (NK : NameOk P w K mg base) (mr : mg "range" = none) : FnOk P w K mg base CX0 3 f fd P_persons spPersons := by
  obtain ⟨fT, fdT, FT, bT, GT, gT⟩ := TK'
  obtain ⟨fN, fdN, FN, bN, GN, gN⟩ := NK
  refine F.ok sc_persons (fun vs H Q E h => ?_) (fun cdv A outer s H vs Q E hr h => ⟨_, PSs.nox (pss_cons (ps_set (i := 2) sc_persons.nd rfl (.inl rfl) (pe_lst pa_nil))
    (C8.pss_cut (ps_for PassesOwn.never rfl (pi_range1 rfl mr (pa_cons (pv 1) pa_nil)) (pg_name (i := 3) sc_persons.nd rfl (Or.inl rfl))
      (pss_one (ps_expr (pe_bm PySem.F.plainAttrs_list PySem.F.slot_list_append PySem.F.type_list_append mt_append (pv 2) (pa_cons (pe_call GN hr rfl gN FN.kp bN .nil pass0 (pa_cons (pv 0) (pa_cons (pv 2) pa_nil))) pa_nil)))))
    (pss_one (ps_ret (pe_lc (own := [("_law_name_here", 4)]) (g := gName 4) rfl sc_persons.nd (pi_list (pv 2)) (blkOk_by (own := [("_law_name_here", 4)]) (N := N_persons) (sc := defScope S_persons) (by decide +kernel))
      (fun _ _ _ _ _ => pg_name (i := 4) sc_persons.nd rfl (Or.inl rfl)) (fun _ _ _ _ _ => pts_nil)
      (fun _ _ _ _ _ => pe_tup (pa_cons (pv 4) (pa_cons (pe_ix (ix_listK (K := K) rfl) (pe_lst (pa_cons pe_int (pa_cons pe_int (pa_cons pe_int (pa_cons pe_int pa_nil))))) (pe_call GT (hr.mono (by decide)) rfl gT FT.kp bT .nil pass0 (pa_cons (pv 0) (pa_cons pe_int pa_nil))) (fun _ _ => rfl)) pa_nil)))))))), ?_⟩)
  · obtain ⟨p, m, rfl, _⟩ := h
    rfl
  · obtain ⟨p, m, rfl, hP, m0, m8, q⟩ := h
    refine ⟨by show 0 ≤ sizeLine; omega, fun ln nln => ?_⟩
    obtain ⟨s0, e0⟩ := fresh2 (o := .lst []) nln
    have nlp : ln ≠ p := (hP.ne nln).symm
    have nH : ∀ b o, H b = some o → b ≠ ln := fun b o e => ne_of_none e nln
    refine ⟨fun σ H' => ∃ (ys : List Str) (v3 : Option V), σ = [some (.ref p), some (.int m), some (.ref ln), v3, none] ∧ H' ln = some (.lst (ys.map V.str)) ∧ (∀ y ∈ ys, IsName y) ∧ ys.Nodup ∧ (ys.length : Int) = m ∧ Drew p H H', ?_, ?_⟩
    · refine ⟨_, rfl, m, rfl, by omega, by omega, ?_⟩
      refine for_it walk_range (fun i σ H' => ∃ (ys : List Str) (v3 : Option V), σ = [some (.ref p), some (.int m), some (.ref ln), v3, none] ∧ H' ln = some (.lst (ys.map V.str)) ∧ (∀ y ∈ ys, IsName y) ∧ ys.Nodup ∧ ys.length = i ∧ Drew p H H') ⟨[], none, rfl, e0, (fun _ h => by cases h), List.nodup_nil, rfl, Same.but s0, hP.same s0⟩ (fun _ _ _ _ _ => trivial) ?_ ?_
      · rintro i x σ H2 H2' hi ⟨ys, v3, rfl, e2, hN, nd, l2, d2⟩ ⟨rfl, rfl⟩
        refine ⟨_, rfl, .inl ⟨rfl, _, SqL.of e2⟩, _, rfl, _, rfl, p, ln, ys, rfl, d2.2, nlp, e2, hN, by omega, fun z H3 nz nin dr3 => ?_⟩
        have e3 := dr3.1 _ _ nlp e2
        refine ⟨ln, _, _, rfl, rfl, e3, by rw [List.length_map]; exact small1000 (by omega), ys ++ [z], _, rfl, ?_, ?_, nd_snoc nd nin, ?_, ?_⟩
        · rw [upd_same, List.map_append]
          rfl
        · intro y hy
          rcases List.mem_append.mp hy with hy | hy
          · exact hN y hy
          · rw [List.mem_singleton.mp hy]
            exact nz
        · rw [List.length_append, l2]
          rfl
        · have d3 := d2.trans dr3
          refine ⟨fun b o n e => ?_, ?_⟩
          · rw [upd_ne (nH b o e)]
            exact d3.1 b o n e
          · obtain ⟨u0, u1, z2, r⟩ := d3.2
            exact ⟨u0, u1, by rw [upd_ne nlp.symm]; exact z2, r⟩
      · rintro σ H2 ⟨ys, v3, rfl, e2, hN, nd, l2, d2⟩
        exact ⟨ys, v3, rfl, e2, hN, nd, by omega, d2⟩
    · rintro σ H2 ⟨ys, v3, rfl, e2, hN, nd, l2, d2⟩
      refine ⟨_, rfl, ln, rfl, ⟨_, SqL.of e2⟩, fun D nD => ?_⟩
      have nDp : D ≠ p := (d2.2.ne nD).symm
      have nDl : ln ≠ D := ne_of_none e2 nD
      have nHD : ∀ b o, b ≠ p → H b = some o → b ≠ D := fun b o n e => ne_of_none (d2.1 b o n e) nD
      refine lc_list (K := K) (a := ln) (xs := ys.map V.str) (fun i H3 => ∃ (ts : List Addr) (fs : List (Str × Int)), H3 D = some (.lst (ts.map V.ref)) ∧ Paired (PerAt H3) ts fs ∧ fs.map (·.1) = ys.take i ∧ (∀ f ∈ fs, 0 ≤ f.2 ∧ f.2 ≤ 2) ∧ H3 ln = some (.lst (ys.map V.str)) ∧ Drew p H H3) ?_ ?_ ?_ ?_
      · refine ⟨[], [], upd_same, .nil, rfl, (fun _ h => by cases h), ?_, fun b o n e => ?_, ?_⟩
        · rw [upd_ne nDl]
          exact e2
        · exact same_new nD _ _ (d2.1 b o n e)
        · exact d2.2.same (same_new nD)
      · rintro i H3 _ ⟨ts, fs, _, _, _, _, e, _⟩
        exact SqL.of e
      · rintro i x H3 hx ⟨ts, fs, hD, pr, en, hst, el, d3⟩
        have hi : i < ys.length := by
          have := (List.getElem?_eq_some_iff.mp hx).1
          rw [List.length_map] at this
          exact this
        have ex : x = .str ys[i] := by
          rw [List.getElem?_map, List.getElem?_eq_getElem hi] at hx
          exact (Option.some.inj hx).symm
        subst ex
        refine ⟨rfl, ?_⟩
        dsimp only [tYes]
        rw [if_pos rfl]
        refine ⟨_, rfl, by show 4 ≤ sizeLine; decide, fun lm nlm => ?_⟩
        obtain ⟨s4, e4⟩ := fresh2 (o := .lst [.int 0, .int 0, .int 1, .int 2]) nlm
        have nmp : lm ≠ p := (d3.2.ne nlm).symm
        refine ⟨_, rfl, p, 4, rfl, d3.2.same s4, by decide, by decide +kernel, fun d H5 d0 d1 dr5 => ?_⟩
        obtain ⟨j, hj, j1, j2⟩ : ∃ j : Int, ([.int 0, .int 0, .int 1, .int 2] : List V)[d.toNat]? = some (.int j) ∧ 0 ≤ j ∧ j ≤ 2 := by
          have h4 : d.toNat < 4 := by omega
          match d.toNat, h4 with
          | 0, _ => exact ⟨_, rfl, by decide, by decide⟩
          | 1, _ => exact ⟨_, rfl, by decide, by decide⟩
          | 2, _ => exact ⟨_, rfl, by decide, by decide⟩
          | 3, _ => exact ⟨_, rfl, by decide, by decide⟩
        refine ⟨lm, _, d, _, rfl, rfl, SqL.of (dr5.1 _ _ nmp e4), atI_int d0 hj, by show 2 ≤ sizeLine; decide, fun t nt => ?_⟩
        obtain ⟨s6, e6⟩ := fresh2 (o := .tup [.str ys[i], .int j]) nt
        have k35 : TK H3 H5 := (Same.tk s4).trans (dr5.tk (d3.2.same s4))
        have hD5 : H5 D = some (.lst (ts.map V.ref)) := dr5.1 _ _ nDp (s4 _ _ hD)
        have hl5 : H5 ln = some (.lst (ys.map V.str)) := dr5.1 _ _ nlp (s4 _ _ el)
        have d5 : Drew p H H5 := d3.trans ⟨(Same.but s4).trans dr5.1, dr5.2⟩
        have lts : ts.length = fs.length := pr.length
        have lfs : fs.length ≤ 8 := by
          have := congrArg List.length en
          rw [List.length_map, List.length_take] at this
          omega
        refine ⟨_, s6 _ _ hD5, by rw [List.length_map]; exact small1000 (by omega), ts ++ [t], fs ++ [(ys[i], j)], ?_, ?_, ?_, ?_, ?_, fun b o n e => ?_, ?_⟩
        · rw [upd_same, List.map_append]
          rfl
        · exact paired_snoc (paired_tk pr (k35.trans ((Same.tk s6).trans (upd_tk (s6 _ _ hD5))))) (upd_tk (s6 _ _ hD5) _ _ trivial e6)
        · rw [List.map_append, en, List.take_add_one, List.getElem?_eq_getElem hi]
          rfl
        · intro f hf
          rcases List.mem_append.mp hf with hf | hf
          · exact hst f hf
          · rw [List.mem_singleton.mp hf]
            exact ⟨j1, j2⟩
        · rw [upd_ne nDl]
          exact s6 _ _ hl5
        · rw [upd_ne (nHD b o n e)]
          exact s6 _ _ (d5.1 b o n e)
        · obtain ⟨u0, u1, z2, r⟩ := d5.2
          exact ⟨u0, u1, by rw [upd_ne nDp.symm]; exact s6 _ _ z2, r⟩
      · rintro H3 ⟨ts, fs, hD, pr, en, hst, el, d3⟩
        rw [List.length_map, List.take_length] at en
        have lf := congrArg List.length en
        rw [List.length_map] at lf
        refine q _ fs H3 (.lst (Off.at nDp hD) (dx_folk (paired_imp pr fun t f _ e => Off.at (pot_not_tup d3.2 e) e))) ⟨by rw [en]; exact nd, fun f hf => ?_, hst⟩ (by omega) d3
        exact hN f.1 (by rw [← en]; exact List.mem_map.mpr ⟨f, hf, rfl⟩)
end
end Cw
namespace Cw
open PySem PySem.Spec PyProof.Rows L2
theorem dxall_len {H : Hp} : ∀ {xs : List V} {ds : List PyData}, DxAll H xs ds → xs.length = ds.length
  | [], _, h => by cases h; rfl
  | _ :: _, _, h => by
    cases h with
    | cons _ r => simp [dxall_len r]
theorem dxall_get {H : Hp} : ∀ {xs : List V} {ds : List PyData} {i : Nat} {d : PyData}, DxAll H xs ds → ds[i]? = some d → ∃ x, xs[i]? = some x ∧ Dx H x d
  | _, [], _, _, _, e => by cases e
  | _, _ :: _, 0, _, h, e => by
    cases h with
    | cons a _ => cases e; exact ⟨_, rfl, a⟩
  | _, _ :: _, i + 1, _, h, e => by
    cases h with
    | cons _ r =>
      obtain ⟨x, e1, e2⟩ := dxall_get (i := i) r e
      exact ⟨x, e1, e2⟩
theorem dx_list {H : Hp} {v : V} {ds : List PyData} (h : Dx H v (.list ds)) : ∃ a xs, v = .ref a ∧ H a = some (.lst xs) ∧ DxAll H xs ds := by
  cases h with
  | lst e r => exact ⟨_, _, rfl, e, r⟩
theorem dx_tuple {H : Hp} {v : V} {ds : List PyData} (h : Dx H v (.tuple ds)) (n : allTup ds = false := by rfl) : ∃ a xs, v = .ref a ∧ H a = some (.tup xs) ∧ DxAll H xs ds := by
  cases h with
  | tup e r => exact ⟨_, _, rfl, e, r⟩
  | tupy e r m => rw [n] at m; cases m
theorem TupY.sq {K : PySem.W.Frag} {H : Hp} {a : Addr} {xs : List V} (h : TupY H a xs) : SqT K H a xs := h.elim (fun e => .inl (.inl e)) fun ⟨o, _, e⟩ => .inl (.inr ⟨o, e⟩)
theorem TupY.same {H H' : Hp} {a : Addr} {xs : List V} (h : TupY H a xs) (k : Same H H') : TupY H' a xs := h.mp (k _)
theorem dx_hs {H : Hp} {v : V} {hs : List (Int × Int)} (h : Dx H v (dHs hs)) : ∃ a xs, v = .ref a ∧ TupY H a xs ∧ DxAll H xs (hs.map dHear) := by
  have al := all_hears hs
  revert h al
  unfold dHs
  generalize hs.map dHear = ds
  intro h al
  cases h with
  | tup e r n => rw [al] at n; cases n
  | tupy e r m => exact ⟨_, _, rfl, e, r⟩
theorem dx_str {H : Hp} {v : V} {z : Str} (h : Dx H v (.str z)) : v = .str z := by cases h; rfl
theorem dx_int {H : Hp} {v : V} {z : Int} (h : Dx H v (.int z)) : v = .int z := by cases h; rfl
/-- a person's tuple -/
theorem dx_per {H : Hp} {v : V} {f : Str × Int} (h : Dx H v (dPer f)) : ∃ a, v = .ref a ∧ H a = some (.tup [.str f.1, .int f.2]) := by
  obtain ⟨a, xs, rfl, e, r⟩ := dx_tuple h
  cases r with
  | cons h1 r =>
    cases r with
    | cons h2 r =>
      cases r
      have e1 := dx_str h1
      have e2 := dx_int h2
      subst e1 e2
      exact ⟨a, rfl, e⟩
/-- a tie, as it is handed in -/
structure Tie where
  nm : Str
  one : Str
  other : Str
  len : Int
  hs : List (Int × Int)
def dTie (t : Tie) : PyData := .tuple [.str t.nm, .str t.one, .str t.other, .int t.len, dHs t.hs]
structure GoodTie (ns : List Str) (t : Tie) : Prop where
  nm : IsName t.nm
  h1 : t.one ∈ ns
  h2 : t.other ∈ ns
  ne : t.one ≠ t.other
  lo : 2 ≤ t.len
  hi : t.len ≤ 10 ^ 30
  hr : Hear t.len t.hs
theorem other_ne {a d n : Int} (a0 : 0 ≤ a) (a1 : a < n) (d0 : 0 ≤ d) (d1 : d < n - 1) : 0 ≤ (a + 1 + d) % n ∧ (a + 1 + d) % n < n ∧ (a + 1 + d) % n ≠ a := by
  refine ⟨Int.emod_nonneg _ (by omega), Int.emod_lt_of_pos _ (by omega), ?_⟩
  by_cases h : a + 1 + d < n
  · rw [Int.emod_eq_of_lt (by omega) h]
    omega
  · have e : a + 1 + d = (a + 1 + d - n) + n := by omega
    rw [e, Int.add_emod_right, Int.emod_eq_of_lt (by omega) (by omega)]
    omega
theorem folk_ne {fs : List (Str × Int)} (F : Folk fs) {i j : Nat} (hi : i < fs.length) (hj : j < fs.length) (ne : i ≠ j) : fs[i].1 ≠ fs[j].1 := by
  intro e
  have h := List.getElem_inj (i := i) (j := j) (h₀ := by rw [List.length_map]; exact hi) (h₁ := by rw [List.length_map]; exact hj) F.nd
  rw [List.getElem_map, List.getElem_map] at h
  exact ne (h.mp e)
section
variable {P : Program} {w : World} {K : PySem.W.Frag} {mg : Str → Option Value} {base : Heap}
abbrev LenOk (P : Program) (w : World) (K : PySem.W.Frag) (mg : Str → Option Value) (base : Heap) : Prop := ∃ (fT : Addr) (fdT : FuncData), FnP K "_law_length" "_law_length" S_length fT fdT ∧ Binds K fdT P_length [] ∧ FnOk P w K mg base CX0 2 fT fdT P_length spLen ∧ mg "_law_length" = some (.ref fT)
abbrev HearOk (P : Program) (w : World) (K : PySem.W.Frag) (mg : Str → Option Value) (base : Heap) : Prop := ∃ (fT : Addr) (fdT : FuncData), FnP K "_law_hearers" "_law_hearers" S_hearers fT fdT ∧ Binds K fdT P_hearers [] ∧ FnOk P w K mg base CX0 2 fT fdT P_hearers spHear ∧ mg "_law_hearers" = some (.ref fT)
def spTie : Sp := fun vs H Q _ => ∃ (p lt : Addr) (vf : V) (fs : List (Str × Int)) (ys : List Str) (way left : Int), vs = [.ref p, vf, .ref lt, .int way, .int left] ∧ Pot H p ∧ Dx (Off p H) vf (dFolk fs) ∧ Folk fs ∧ 2 ≤ fs.length ∧ fs.length ≤ 8 ∧
  lt ≠ p ∧ H lt = some (.lst (ys.map V.str)) ∧ (∀ y ∈ ys, IsName y) ∧ ys.length ≤ 24 ∧ 0 ≤ way ∧ 0 ≤ left ∧ left ≤ 12 ∧
  ∀ (v : V) (t : Tie) (H' : Hp), Dx (Off p H') v (dTie t) → GoodTie (fs.map (·.1)) t → t.nm ∉ ys → (t.hs.length : Int) ≤ left → Drew p H H' → Q v H'
theorem ok_tie {f : Addr} {fd : FuncData} (F : FnP K "_law_tie" "_law_tie" S_tie f fd) (TO : TakeOk P w K mg base) (NO : NameOk P w K mg base) (LO : LenOk P w K mg base) (HO' : HearOk P w K mg base) (ml : mg "len" = none) : FnOk P w K mg base CX0 3 f fd P_tie spTie := by
  obtain ⟨fT, fdT, FT, bT, GT, gT⟩ := TO
  obtain ⟨fN, fdN, FN, bN, GN, gN⟩ := NO
  obtain ⟨fL, fdL, FL, bL, GL, gL⟩ := LO
  obtain ⟨fH, fdH, FH, bH, GH, gH⟩ := HO'
  refine F.ok sc_tie (fun vs H Q E h => ?_) (fun cdv A outer s H vs Q E hr h => ⟨_, PSs.nox (pss_cons (ps_set (i := 5) sc_tie.nd rfl (.inl rfl) (pe_call GT (hr.mono (by decide)) rfl gT FT.kp bT .nil pass0 (pa_cons (pv 0) (pa_cons (pe_callB call_len_seq (by rfl) ml PySem.boot_len (pa_cons (pv 1) pa_nil)) pa_nil))))
    (pss_cons (ps_set (i := 6) sc_tie.nd rfl (.inl rfl) (pe_op op_mod (pe_op op_add (pe_op op_add (pv 5) pe_int) (pe_call GT (hr.mono (by decide)) rfl gT FT.kp bT .nil pass0 (pa_cons (pv 0) (pa_cons (pe_op op_sub (pe_callB call_len_seq (by rfl) ml PySem.boot_len (pa_cons (pv 1) pa_nil)) pe_int) pa_nil)))) (pe_callB call_len_seq (by rfl) ml PySem.boot_len (pa_cons (pv 1) pa_nil))))
    (pss_cons (ps_set (i := 7) sc_tie.nd rfl (.inl rfl) (pe_call GL hr rfl gL FL.kp bL .nil pass0 (pa_cons (pv 0) (pa_cons (pv 3) pa_nil))))
    (pss_one (ps_ret (pe_tup (pa_cons (pe_call GN hr rfl gN FN.kp bN .nil pass0 (pa_cons (pv 0) (pa_cons (pv 2) pa_nil)))
      (pa_cons (pe_ix ix_tup (pe_ix ix_list (pv 1) (pv 5) (fun _ _ => rfl)) pe_int (fun _ _ => rfl)) (pa_cons (pe_ix ix_tup (pe_ix ix_list (pv 1) (pv 6) (fun _ _ => rfl)) pe_int (fun _ _ => rfl)) (pa_cons (pv 7)
      (pa_cons (pe_call GH hr rfl gH FH.kp bH .nil pass0 (pa_cons (pv 0) (pa_cons (pv 7) (pa_cons (pv 4) pa_nil)))) pa_nil))))))))))), ?_⟩)
  · obtain ⟨p, lt, vf, fs, ys, way, left, rfl, _⟩ := h
    rfl
  · obtain ⟨p, lt, vf, fs, ys, way, left, rfl, hP, hf, FO, l2, l8, nlt, hlt, hN, hys, w0, e0, e12, q⟩ := h
    obtain ⟨lf, xs, rfl, hlf, hxs⟩ := dx_list hf
    have lx : xs.length = fs.length := by
      have := dxall_len hxs
      rw [List.length_map] at this
      exact this
    have nfp : lf ≠ p := fun z => by
      unfold Off at hlf
      rw [if_pos z] at hlf
      cases hlf
    have hlf' := Off.same _ _ hlf
    refine ⟨_, rfl, _, rfl, lf, _, rfl, .inl (SqL.of hlf'), p, _, rfl, hP, by omega, log_small (n := 8) (by omega) (by omega) (by decide), fun a H1 a0 a1 dr1 => ?_⟩
    have h1 := dr1.1 _ _ nfp hlf'
    refine ⟨_, rfl, _, _, rfl, rfl, _, rfl, _, rfl, lf, _, rfl, .inl (SqL.of h1), _, _, rfl, rfl, p, _, rfl, dr1.2, by omega, log_small (n := 8) (by omega) (by omega) (by decide), fun d H2 d0 d1 dr2 => ?_⟩
    have h2 := dr2.1 _ _ nfp h1
    refine ⟨_, _, rfl, rfl, _, rfl, lf, _, rfl, .inl (SqL.of h2), _, _, rfl, rfl, by show (0 : Int) < (xs.length : Int); omega, ?_⟩
    obtain ⟨o0, o1, one⟩ := other_ne a0 a1 d0 d1
    generalize hb : (a + 1 + d) % (xs.length : Int) = b at o0 o1 one
    refine ⟨_, rfl, _, rfl, p, way, rfl, dr2.2, w0, fun L H3 L2 L30 dr3 => ?_⟩
    have d3 := (dr1.trans dr2).trans dr3
    refine ⟨_, rfl, _, rfl, p, lt, ys, rfl, dr3.2, nlt, d3.1 _ _ nlt hlt, hN, hys, fun z H4 nz nin dr4 => ?_⟩
    have d4 := d3.trans dr4
    have x4 := Dx.sameAll (Off.but d4.1) _ _ hxs
    have h4 := d4.1 _ _ nfp hlf'
    have ha : a.toNat < fs.length := by omega
    have hb' : b.toNat < fs.length := by omega
    obtain ⟨v1, g1, e1⟩ := dxall_get (i := a.toNat) x4 (by rw [List.getElem?_map, List.getElem?_eq_getElem ha]; rfl)
    obtain ⟨v2, g2, e2⟩ := dxall_get (i := b.toNat) x4 (by rw [List.getElem?_map, List.getElem?_eq_getElem hb']; rfl)
    obtain ⟨t1, rfl, k1⟩ := dx_per e1
    obtain ⟨t2, rfl, k2⟩ := dx_per e2
    refine ⟨_, rfl, _, rfl, lf, _, a, _, rfl, rfl, SqL.of h4, atI_int a0 g1, t1, _, 0, _, rfl, rfl, SqT.of (Off.same _ _ k1), atI_int (by decide) rfl, _, rfl, _, rfl, lf, _, b, _, rfl, ?_, SqL.of h4, atI_int o0 g2, t2, _, 0, _, rfl, rfl, SqT.of (Off.same _ _ k2), atI_int (by decide) rfl, _, rfl, ?_⟩
    · show V.int ((a + 1 + d) % (xs.length : Int)) = .int b
      rw [hb]
    refine ⟨_, rfl, _, rfl, _, rfl, p, L, left, rfl, dr4.2, L2, L30, e0, e12, fun vh hs H5 xh hh lh dr5 => ?_⟩
    refine ⟨by show 5 ≤ sizeLine; decide, fun t nt => ?_⟩
    obtain ⟨s6, m6⟩ := fresh2 (o := .tup [.str z, .str fs[a.toNat].1, .str fs[b.toNat].1, .int L, vh]) nt
    have ntp : t ≠ p := (dr5.2.ne nt).symm
    have d5 := d4.trans dr5
    refine q _ ⟨z, fs[a.toNat].1, fs[b.toNat].1, L, hs⟩ _ (.tup (Off.at ntp m6) (.cons (.str _) (.cons (.str _) (.cons (.str _) (.cons (.int _) (.cons (Dx.same (Off.but (Same.but s6)) _ _ xh) .nil)))))) ⟨nz, ?_, ?_, ?_, L2, L30, hh⟩ nin lh ⟨d5.1.trans (Same.but s6), d5.2.same s6⟩
    · exact List.mem_map.mpr ⟨_, List.getElem_mem ha, rfl⟩
    · exact List.mem_map.mpr ⟨_, List.getElem_mem hb', rfl⟩
    · exact folk_ne FO ha hb' (by omega)
end
end Cw
namespace Cw
open PySem PySem.Spec PyProof.Rows L2
theorem ix_tupK {X : Cx} {K : PySem.W.Frag} (h : X.K = K) : IxR X (rIxT K) := by
  subst h
  exact ix_tup
theorem Off.mono {l : Addr} {A B : Hp} (h : Same A B) : Same (Off l A) (Off l B) := fun b o e => by
  unfold Off at e
  by_cases z : b = l
  · rw [if_pos z] at e
    cases e
  · rw [if_neg z] at e
    exact Off.at z (h b o e)
theorem Off.ne {l b : Addr} {H : Hp} {o : HO} (e : Off l H b = some o) : b ≠ l := fun z => by
  unfold Off at e
  rw [if_pos z] at e
  cases e
theorem Off.upd2 {p l : Addr} {H : Hp} {o : HO} : Same (Off l (Off p H)) (Off l (Off p (upd H l o))) := fun b u e => by
  have n1 := Off.ne e
  have n2 := Off.ne (Off.same _ _ e)
  exact Off.at n1 (Off.at n2 (by rw [upd_ne n1]; exact Off.same _ _ (Off.same _ _ e)))
mutual
/-- data without lists and dicts -/
def noL : PyData → Bool
  | .list _ | .dict _ => false
  | .tuple xs => noLs xs
  | _ => true
def noLs : List PyData → Bool
  | [] => true
  | x :: r => noL x && noLs r
end
mutual
theorem Dx.tk {H H' : Hp} (k : TK H H') : ∀ (d : PyData) (v : V), noL d = true → Dx H v d → Dx H' v d
  | .none, _, _, h => by cases h; exact .non
  | .bool b, _, _, h => by cases h; exact .bl b
  | .int i, _, _, h => by cases h; exact .int i
  | .str x, _, _, h => by cases h; exact .str x
  | .list ds, _, n, h => by simp [noL] at n
  | .tuple ds, _, n, h => by
    cases h with
    | tup e r m => exact .tup (k _ _ trivial e) (Dx.tkAll k ds _ (by simpa [noL] using n) r) m
    | tupy e r m => exact .tupy (e.imp (k _ _ trivial) fun ⟨o, d, e⟩ => ⟨o, d, k _ _ trivial e⟩) (Dx.tkAll k ds _ (by simpa [noL] using n) r) m
  | .dict kvs, _, n, h => by simp [noL] at n
theorem Dx.tkAll {H H' : Hp} (k : TK H H') : ∀ (ds : List PyData) (vs : List V), noLs ds = true → DxAll H vs ds → DxAll H' vs ds
  | [], _, _, h => by cases h; exact .nil
  | d :: ds, _, n, h => by
    cases h with
    | cons h1 h2 =>
      have n' : noL d = true ∧ noLs ds = true := by simpa [noLs] using n
      exact .cons (Dx.tk k d _ n'.1 h1) (Dx.tkAll k ds _ n'.2 h2)
end
theorem TupY.tk {H H' : Hp} {a : Addr} {xs : List V} (h : TupY H a xs) (k : TK H H') : TupY H' a xs := h.imp (k _ _ trivial) fun ⟨o, d, e⟩ => ⟨o, d, k _ _ trivial e⟩
theorem noL_hs : ∀ hs : List (Int × Int), noLs (hs.map dHear) = true
  | [] => by simp [noLs]
  | h :: r => by simp [noLs, noL, dHear, noL_hs r]
theorem noL_tie (t : Tie) : noL (dTie t) = true := by
  simp [dTie, dHs, noL, noLs, noL_hs]
theorem off_tk {l : Addr} {H : Hp} {xs : List V} (h : H l = some (.lst xs)) : TK H (Off l H) := fun b o t e => Off.at (fun z => by
  rw [z, h] at e
  cases e
  exact t) e
theorem dxall_snoc {H : Hp} : ∀ {xs : List V} {ds : List PyData} {x : V} {d : PyData}, DxAll H xs ds → Dx H x d → DxAll H (xs ++ [x]) (ds ++ [d])
  | [], [], _, _, _, h => .cons h .nil
  | [], _ :: _, _, _, h, _ => by cases h
  | _ :: _, [], _, _, h, _ => by cases h
  | _ :: _, _ :: _, _, _, .cons a r, h => .cons a (dxall_snoc r h)
/-- all told hearers of some ties -/
def told : List Tie → Nat
  | [] => 0
  | t :: r => t.hs.length + told r
theorem told_snoc (t : Tie) : ∀ ts : List Tie, told (ts ++ [t]) = told ts + t.hs.length
  | [] => by simp [told]
  | x :: r => by
    show x.hs.length + told (r ++ [t]) = x.hs.length + told r + t.hs.length
    rw [told_snoc t r]
    omega
/-- what a web is made of -/
structure Spec (fs : List (Str × Int)) (ts : List Tie) : Prop where
  fo : Folk fs
  ti : ∀ t ∈ ts, GoodTie (fs.map (·.1)) t
  nd : (fs.map (·.1) ++ ts.map (·.nm)).Nodup
def dSpec (fs : List (Str × Int)) (ts : List Tie) : PyData := .tuple [dFolk fs, .list (ts.map dTie)]
theorem Spec.names {fs : List (Str × Int)} {ts : List Tie} (S : Spec fs ts) : ∀ y ∈ fs.map (·.1) ++ ts.map (·.nm), IsName y := fun y hy => by
  rcases List.mem_append.mp hy with h | h
  · obtain ⟨f, hf, rfl⟩ := List.mem_map.mp h
    exact S.fo.nm f hf
  · obtain ⟨t, ht, rfl⟩ := List.mem_map.mp h
    exact (S.ti t ht).nm
theorem Spec.snoc {fs : List (Str × Int)} {ts : List Tie} {t : Tie} (S : Spec fs ts) (g : GoodTie (fs.map (·.1)) t) (n : t.nm ∉ fs.map (·.1) ++ ts.map (·.nm)) : Spec fs (ts ++ [t]) := by
  refine ⟨S.fo, fun x hx => ?_, ?_⟩
  · rcases List.mem_append.mp hx with h | h
    · exact S.ti x h
    · rw [List.mem_singleton.mp h]
      exact g
  · rw [List.map_append, ← List.append_assoc]
    exact nd_snoc S.nd n
/-- [name for name, state in folk] -/
theorem names_end {K : PySem.W.Frag} {x0 x1 x2 x3 x4 x5 x6 x7 x8 x9 x10 x11 x12 : Option V} {H1 : Hp} {lf D : Addr} {xs : List V} {fs : List (Str × Int)} {Qd : Hp → Prop} (nD : H1 D = none) (hl : H1 lf = some (.lst xs)) (hx : DxAll H1 xs (fs.map dPer)) (hn : fs.length ≤ 1000)
    (q : ∀ H', Same H1 H' → H' D = some (.lst ((fs.map (·.1)).map V.str)) → Qd H') :
    LcD (Itl K lf) (gTup K 2 (gCons (gName 10) (gCons (gName 11) gNil))) tYes (tVar 10) [10, 11] [x0, x1, x2, x3, x4, x5, x6, x7, x8, x9, x10, x11, x12] H1 D Qd := by
  have lx : xs.length = fs.length := by
    have := dxall_len hx
    rw [List.length_map] at this
    exact this
  refine lc_list (K := K) (a := lf) (xs := xs) (fun i H2 => Same H1 (Off D H2) ∧ H2 D = some (.lst (((fs.take i).map (·.1)).map V.str))) ⟨fun b o e => Off.at (ne_of_none e nD) (same_new nD _ _ e), upd_same⟩ (fun i H2 _ hh => SqL.of (Off.same _ _ (hh.1 _ _ hl))) ?_ ?_
  · rintro i x H2 hxi ⟨sm, hD⟩
    have hi : i < fs.length := by
      have := (List.getElem?_eq_some_iff.mp hxi).1
      omega
    obtain ⟨y, e1, e2⟩ := dxall_get (i := i) hx (by rw [List.getElem?_map, List.getElem?_eq_getElem hi]; rfl)
    have exy : x = y := Option.some.inj (hxi.symm.trans e1)
    subst exy
    obtain ⟨t, rfl, ht⟩ := dx_per e2
    refine ⟨t, _, rfl, SqT.of (Off.same _ _ (sm _ _ ht)), rfl, _, _, rfl, _, _, rfl, rfl, rfl, ?_⟩
    dsimp only [tYes]
    rw [if_pos rfl]
    refine ⟨_, rfl, _, hD, ?_, fun b o e => ?_, ?_⟩
    · rw [List.length_map, List.length_map, List.length_take]
      exact Nat.lt_of_le_of_lt (Nat.min_le_right _ _) (small1000 (by omega))
    · have nb : b ≠ D := ne_of_none e nD
      exact Off.at nb (by rw [upd_ne nb]; exact Off.same _ _ (sm b o e))
    · rw [upd_same, List.take_add_one, List.getElem?_eq_getElem hi, List.map_append, List.map_append]
      rfl
  · rintro H2 ⟨sm, hD⟩
    rw [lx, List.take_length] at hD
    exact q H2 (fun b o e => Off.same _ _ (sm b o e)) hD
theorem dx_tie {H : Hp} {v : V} {t : Tie} (h : Dx H v (dTie t)) : ∃ (a : Addr) (vh : V), v = .ref a ∧ H a = some (.tup [.str t.nm, .str t.one, .str t.other, .int t.len, vh]) ∧ Dx H vh (dHs t.hs) := by
  obtain ⟨a, xs, rfl, e, r⟩ := dx_tuple h
  cases r with
  | cons h1 r =>
    cases r with
    | cons h2 r =>
      cases r with
      | cons h3 r =>
        cases r with
        | cons h4 r =>
          cases r with
          | cons h5 r =>
            cases r
            have e1 := dx_str h1
            have e2 := dx_str h2
            have e3 := dx_str h3
            have e4 := dx_int h4
            subst e1 e2 e3 e4
            exact ⟨a, _, rfl, e, h5⟩
/-- [tie[0] for tie in joins] -/
theorem tienames_end {K : PySem.W.Frag} {x0 x1 x2 x3 x4 x5 x6 x7 x8 x9 x10 x11 x12 : Option V} {H1 : Hp} {lj D : Addr} {xs : List V} {ts : List Tie} {Qd : Hp → Prop} (nD : H1 D = none) (hl : H1 lj = some (.lst xs)) (hx : DxAll H1 xs (ts.map dTie)) (hn : ts.length ≤ 1000)
    (q : ∀ H', Same H1 H' → H' D = some (.lst ((ts.map (·.nm)).map V.str)) → Qd H') :
    LcD (Itl K lj) (gName 12) tYes (tOp (rIxT K) (tVar 12) (tC (.int 0))) [12] [x0, x1, x2, x3, x4, x5, x6, x7, x8, x9, x10, x11, x12] H1 D Qd := by
  have lx : xs.length = ts.length := by
    have := dxall_len hx
    rw [List.length_map] at this
    exact this
  refine lc_list (K := K) (a := lj) (xs := xs) (fun i H2 => Same H1 (Off D H2) ∧ H2 D = some (.lst (((ts.take i).map (·.nm)).map V.str))) ⟨fun b o e => Off.at (ne_of_none e nD) (same_new nD _ _ e), upd_same⟩ (fun i H2 _ hh => SqL.of (Off.same _ _ (hh.1 _ _ hl))) ?_ ?_
  · rintro i x H2 hxi ⟨sm, hD⟩
    have hi : i < ts.length := by
      have := (List.getElem?_eq_some_iff.mp hxi).1
      omega
    obtain ⟨y, e1, e2⟩ := dxall_get (i := i) hx (by rw [List.getElem?_map, List.getElem?_eq_getElem hi]; rfl)
    have exy : x = y := Option.some.inj (hxi.symm.trans e1)
    subst exy
    obtain ⟨t, vh, rfl, ht, _⟩ := dx_tie e2
    refine ⟨rfl, ?_⟩
    dsimp only [tYes]
    rw [if_pos rfl]
    refine ⟨_, rfl, t, _, 0, _, rfl, rfl, SqT.of (Off.same _ _ (sm _ _ ht)), atI_int (by decide) rfl, _, hD, ?_, fun b o e => ?_, ?_⟩
    · rw [List.length_map, List.length_map, List.length_take]
      exact Nat.lt_of_le_of_lt (Nat.min_le_right _ _) (small1000 (by omega))
    · have nb : b ≠ D := ne_of_none e nD
      exact Off.at nb (by rw [upd_ne nb]; exact Off.same _ _ (sm b o e))
    · rw [upd_same, List.take_add_one, List.getElem?_eq_getElem hi, List.map_append, List.map_append]
      rfl
  · rintro H2 ⟨sm, hD⟩
    rw [lx, List.take_length] at hD
    exact q H2 (fun b o e => Off.same _ _ (sm b o e)) hD
section
variable {P : Program} {w : World} {K : PySem.W.Frag} {mg : Str → Option Value} {base : Heap}
abbrev PersOk (P : Program) (w : World) (K : PySem.W.Frag) (mg : Str → Option Value) (base : Heap) : Prop := ∃ (fT : Addr) (fdT : FuncData), FnP K "_law_persons" "_law_persons" S_persons fT fdT ∧ Binds K fdT P_persons [] ∧ FnOk P w K mg base CX0 3 fT fdT P_persons spPersons ∧ mg "_law_persons" = some (.ref fT)
abbrev TieOk (P : Program) (w : World) (K : PySem.W.Frag) (mg : Str → Option Value) (base : Heap) : Prop := ∃ (fT : Addr) (fdT : FuncData), FnP K "_law_tie" "_law_tie" S_tie fT fdT ∧ Binds K fdT P_tie [] ∧ FnOk P w K mg base CX0 3 fT fdT P_tie spTie ∧ mg "_law_tie" = some (.ref fT)
def spWeb : Sp := fun vs H Q _ => ∃ (p : Addr) (mp mt way tl : Int), vs = [.ref p, .int mp, .int mt, .int way, .int tl] ∧ Pot H p ∧ 1 ≤ mp ∧ mp ≤ 8 ∧ 0 ≤ mt ∧ mt ≤ 12 ∧ 0 ≤ way ∧ 0 ≤ tl ∧ tl ≤ 12 ∧
  ∀ (v : V) (fs : List (Str × Int)) (ts : List Tie) (H' : Hp), Dx (Off p H') v (dSpec fs ts) → Spec fs ts → 1 ≤ fs.length → fs.length ≤ 8 → ts.length ≤ 12 → (told ts : Int) ≤ tl → Drew p H H' → Q v H'
theorem ok_web {f : Addr} {fd : FuncData} (F : FnP K "_law_web" "_law_web" S_web f fd) (TO : TakeOk P w K mg base) (PO : PersOk P w K mg base) (IO : TieOk P w K mg base) (mr : mg "range" = none) (ml : mg "len" = none) (mi : mg "int" = none) : FnOk P w K mg base CX0 4 f fd P_web spWeb := by
  obtain ⟨fT, fdT, FT, bT, GT, gT⟩ := TO
  obtain ⟨fE, fdE, FE, bE, GE, gE⟩ := PO
  obtain ⟨fI, fdI, FI, bI, GI, gI⟩ := IO
  refine F.ok sc_web (fun vs H Q E h => ?_) (fun cdv A outer s H vs Q E hr h => ⟨_, PSs.nox (pss_cons (ps_set (i := 5) sc_web.nd rfl (.inl rfl) (pe_call GE hr rfl gE FE.kp bE .nil pass0 (pa_cons (pv 0) (pa_cons (pe_ix ix_list (pe_lst (pa_cons (pv 1)
        (pa_cons (pe_op op_add pe_int (pe_call GT (hr.mono (by decide)) rfl gT FT.kp bT .nil pass0 (pa_cons (pv 0) (pa_cons (pv 1) pa_nil)))) pa_nil))) (pe_call GT (hr.mono (by decide)) rfl gT FT.kp bT .nil pass0 (pa_cons (pv 0) (pa_cons pe_int pa_nil))) (fun _ _ => rfl)) pa_nil))))
    (pss_cons (ps_set (i := 6) sc_web.nd rfl (.inl rfl) (pe_lst pa_nil))
    (pss_cons (ps_set (i := 7) sc_web.nd rfl (.inl rfl) (pv 4))
    (C8.pss_cut (ps_for PassesOwn.never rfl (pi_range1 rfl mr (pa_cons (pe_op op_mul (pe_call GT (hr.mono (by decide)) rfl gT FT.kp bT .nil pass0 (pa_cons (pv 0) (pa_cons (pe_op op_add (pv 2) pe_int) pa_nil)))
        (pe_callTy call_int1 (by rfl) mi (by decide +kernel) (pa_cons (pe_cmpR op_gt (pe_callB call_len_seq (by rfl) ml PySem.boot_len (pa_cons (pv 5) pa_nil)) pe_int (nomark _)) pa_nil))) pa_nil)) (pg_name (i := 8) sc_web.nd rfl (Or.inl rfl))
      (pss_cons (ps_set (i := 9) sc_web.nd rfl (.inl rfl) (pe_op op_cat (pe_lc (own := [("_law_name_here", 10), ("_law_state", 11)]) (g := gTup K 2 (gCons (gName 10) (gCons (gName 11) gNil))) rfl sc_web.nd (pi_list (pv 5))
          (blkOk_by (own := [("_law_name_here", 10), ("_law_state", 11)]) (N := N_web) (sc := defScope S_web) (by decide +kernel)) (fun _ _ _ _ _ => pg_tup rfl (pgs_cons (pg_name (i := 10) sc_web.nd rfl (.inl rfl)) (pgs_cons (pg_name (i := 11) sc_web.nd rfl (.inl rfl)) pgs_nil)))
          (fun _ _ _ _ _ => pts_nil) (fun _ _ _ _ _ => pv 10))
        (pe_lc (own := [("_law_tie_here", 12)]) (g := gName 12) rfl sc_web.nd (pi_list (pv 6)) (blkOk_by (own := [("_law_tie_here", 12)]) (N := N_web) (sc := defScope S_web) (by decide +kernel)) (fun _ _ _ _ _ => pg_name (i := 12) sc_web.nd rfl (Or.inl rfl))
          (fun _ _ _ _ _ => pts_nil) (fun _ _ _ _ _ => pe_ix (ix_tupK (K := K) rfl) (pv 12) pe_int (fun _ _ => rfl)))))
      (pss_cons (ps_expr (pe_bm PySem.F.plainAttrs_list PySem.F.slot_list_append PySem.F.type_list_append mt_append (pv 6) (pa_cons (pe_call GI hr rfl gI FI.kp bI .nil pass0 (pa_cons (pv 0) (pa_cons (pv 5) (pa_cons (pv 9) (pa_cons (pv 3) (pa_cons (pv 7) pa_nil)))))) pa_nil)))
      (pss_one (ps_set (i := 7) sc_web.nd rfl (.inl rfl) (pe_op op_sub (pv 7) (pe_callB call_len_seq (by rfl) ml PySem.boot_len (pa_cons (pe_ix ix_tup (pe_ix ix_list (pv 6) (pe_un un_neg pe_int) (fun _ _ => rfl)) pe_int (fun _ _ => rfl)) pa_nil))))))))
    (pss_one (ps_ret (pe_tup (pa_cons (pv 5) (pa_cons (pv 6) pa_nil))))))))), ?_⟩)
  · obtain ⟨p, mp, mt, way, tl, rfl, _⟩ := h
    rfl
  · obtain ⟨p, mp, mt, way, tl, rfl, hP, mp1, mp8, mt0, mt12, w0, tl0, tl12, q⟩ := h
    refine ⟨_, rfl, _, rfl, _, rfl, _, rfl, p, mp, rfl, hP, by omega, log_small (n := 8) (by omega) (by omega) (by decide), fun d H1 d0 d1 dr1 => ⟨_, _, rfl, rfl, by show 2 ≤ sizeLine; decide, fun lm nlm => ?_⟩⟩
    obtain ⟨s1, m1⟩ := fresh2 (o := .lst [.int mp, .int (1 + d)]) nlm
    have nmp : lm ≠ p := (dr1.2.ne nlm).symm
    refine ⟨_, rfl, p, 2, rfl, dr1.2.same s1, by decide, by decide +kernel, fun j H2 j0 j1 dr2 => ?_⟩
    obtain ⟨k, hk, k1, k8⟩ : ∃ k : Int, ([.int mp, .int (1 + d)] : List V)[j.toNat]? = some (.int k) ∧ 1 ≤ k ∧ k ≤ 8 := by
      have h4 : j.toNat < 2 := by omega
      match j.toNat, h4 with
      | 0, _ => exact ⟨_, rfl, by omega, by omega⟩
      | 1, _ => exact ⟨_, rfl, by omega, by omega⟩
    have d2 : Drew p H H2 := dr1.trans ⟨(Same.but s1).trans dr2.1, dr2.2⟩
    refine ⟨lm, _, j, _, rfl, rfl, SqL.of (dr2.1 _ _ nmp m1), atI_int j0 hk, p, k, rfl, d2.2, by omega, k8, fun vf fs H3 xf FO lf8 dr3 => ?_⟩
    have d3 := d2.trans dr3
    obtain ⟨lf, xs, rfl, hlf, hxs⟩ := dx_list xf
    have nfp : lf ≠ p := Off.ne hlf
    have lx : xs.length = fs.length := by
      have := dxall_len hxs
      rw [List.length_map] at this
      exact this
    refine ⟨by show 0 ≤ sizeLine; omega, fun lj nlj => ?_⟩
    obtain ⟨s4, m4⟩ := fresh2 (o := .lst []) nlj
    have njp : lj ≠ p := (d3.2.ne nlj).symm
    have nfj : lf ≠ lj := ne_of_none (Off.same _ _ hlf) nlj
    have zf : Dx (Off lj (Off p (upd H3 lj (.lst [])))) (.ref lf) (dFolk fs) := by
      refine Dx.same (fun b o e => ?_) _ _ xf
      have nb : b ≠ lj := ne_of_none (Off.same _ _ e) nlj
      exact Off.at nb (Off.at (Off.ne e) (s4 _ _ (Off.same _ _ e)))
    have d4 : Drew p H (upd H3 lj (.lst [])) := ⟨d3.1.trans (Same.but s4), d3.2.same s4⟩
    have nHj : ∀ b o, b ≠ p → H b = some o → b ≠ lj := fun b o n e => ne_of_none (d3.1 b o n e) nlj
    refine ⟨_, rfl, ?_⟩
    refine ⟨fun σ H' => ∃ (ts : List Tie) (js : List V) (v7 v8 v9 : Option V), σ = [some (.ref p), some (.int mp), some (.int mt), some (.int way), some (.int tl), some (.ref lf), some (.ref lj), v7, v8, v9, none, none, none] ∧ H' lj = some (.lst js) ∧ DxAll (Off lj (Off p H')) js (ts.map dTie) ∧ Dx (Off lj (Off p H')) (.ref lf) (dFolk fs) ∧ Spec fs ts ∧ ts.length ≤ 12 ∧ (told ts : Int) ≤ tl ∧ Drew p H H', ?_, ?_⟩
    · refine ⟨_, rfl, _, rfl, _, _, rfl, rfl, p, mt + 1, rfl, d4.2, by omega, log_small (n := 13) (by omega) (by omega) (by decide), fun c H5 c0 c1 dr5 => ?_⟩
      have hlf5 : H5 lf = some (.lst xs) := dr5.1 _ _ nfp (s4 _ _ (Off.same _ _ hlf))
      refine ⟨_, rfl, lf, _, rfl, .inl (SqL.of hlf5), _, _, rfl, rfl, .inr ⟨_, rfl, _, _, rfl, rfl, .inl ⟨by omega, by omega⟩, ?_⟩⟩
      have bnd : c * (if decide (1 < (xs.length : Int)) = true then 1 else 0) ≤ 12 ∧ 0 ≤ c * (if decide (1 < (xs.length : Int)) = true then 1 else 0) ∧ (0 < c * (if decide (1 < (xs.length : Int)) = true then 1 else 0) → 2 ≤ fs.length) := by
        by_cases h1 : 1 < (xs.length : Int)
        · rw [decide_eq_true h1, if_pos rfl, Int.mul_one]
          omega
        · rw [decide_eq_false h1, if_neg Bool.false_ne_true, Int.mul_zero]
          omega
      obtain ⟨n, hn⟩ : ∃ n : Int, n = c * (if decide (1 < (xs.length : Int)) = true then 1 else 0) := ⟨_, rfl⟩
      rw [← hn] at bnd
      refine ⟨n, by rw [hn], by omega, by omega, ?_⟩
      refine for_it walk_range (fun i σ H' => ∃ (ts : List Tie) (js : List V) (v8 v9 : Option V), σ = [some (.ref p), some (.int mp), some (.int mt), some (.int way), some (.int tl), some (.ref lf), some (.ref lj), some (.int (tl - (told ts : Int))), v8, v9, none, none, none] ∧ H' lj = some (.lst js) ∧ DxAll (Off lj (Off p H')) js (ts.map dTie) ∧ Dx (Off lj (Off p H')) (.ref lf) (dFolk fs) ∧ Spec fs ts ∧ ts.length = i ∧ (told ts : Int) ≤ tl ∧ Drew p H H') ⟨[], [], none, none, ?_, dr5.1 _ _ njp m4, .nil, Dx.same (Off.mono (Off.but dr5.1)) _ _ zf, ⟨FO, (fun _ h => by cases h), by simpa using FO.nd⟩, rfl, by simpa [told] using tl0, d4.trans dr5⟩ (fun _ _ _ _ _ => trivial) ?_ ?_
      · have e : tl - ((told [] : Nat) : Int) = tl := by simp [told]
        rw [e]
        rfl
      · rintro i x σ H6a H6 hi ⟨ts, js, v8, v9, rfl, hj, hjs, hfo, SP, lt, le, d6⟩ ⟨rfl, rfl⟩
        have f2 : 2 ≤ fs.length := bnd.2.2 (by omega)
        obtain ⟨lf', xs', e1, hlf6, hxs6⟩ := dx_list hfo
        cases e1
        have hlf6' := Off.same _ _ (Off.same _ _ hlf6)
        have toH : Same (Off lj (Off p H6)) H6 := fun b o e => Off.same _ _ (Off.same _ _ e)
        refine ⟨_, rfl, lf, rfl, ⟨_, SqL.of hlf6'⟩, fun D nD => ?_⟩
        refine names_end nD hlf6' (Dx.sameAll toH _ _ hxs6) (by omega) fun H7 s7 h7 => ?_
        refine ⟨_, rfl, lj, rfl, ⟨_, SqL.of (s7 _ _ hj)⟩, fun D2 nD2 => ?_⟩
        refine tienames_end nD2 (s7 _ _ hj) (Dx.sameAll (fun b o e => s7 _ _ (toH b o e)) _ _ hjs) (by omega) fun H8 s8 h8 => ?_
        refine ⟨D, D2, _, _, rfl, rfl, s8 _ _ h7, h8, ?_, fun ln nln => ?_⟩
        · rw [List.length_map, List.length_map, List.length_map, List.length_map, sizeLine_eq]
          omega
        have es : (fs.map (·.1)).map V.str ++ (ts.map (·.nm)).map V.str = (fs.map (·.1) ++ ts.map (·.nm)).map V.str := by rw [List.map_append]
        rw [es]
        obtain ⟨s9, m9⟩ := fresh2 (o := .lst ((fs.map (·.1) ++ ts.map (·.nm)).map V.str)) nln
        have s69 := (s7.trans s8).trans s9
        have P9 := d6.2.same s69
        have nlnp : ln ≠ p := ((d6.2.same (s7.trans s8)).ne nln).symm
        have nDj : lj ≠ D := ne_of_none hj nD
        refine ⟨_, rfl, .inl ⟨rfl, _, SqL.of (s69 _ _ hj)⟩, _, rfl, _, rfl, _, rfl, _, rfl, _, rfl, p, ln, .ref lf, fs, _, way, _, rfl, P9, Dx.same (fun b o e => ?_) _ _ hfo, FO, f2, by omega, nlnp, m9, SP.names, ?_, w0, by omega, by omega, fun v t HA xt gt nin lh drA => ?_⟩
        · have n1 := Off.ne (Off.same _ _ e)
          exact Off.at n1 (s69 _ _ (toH b o e))
        · rw [List.length_append, List.length_map, List.length_map]
          omega
        have hjA : HA lj = some (.lst js) := drA.1 _ _ njp (s69 _ _ hj)
        have dA : Drew p H HA := d6.trans ⟨(Same.but s69).trans drA.1, drA.2⟩
        have ljs : js.length = ts.length := by
          have := dxall_len hjs
          rw [List.length_map] at this
          exact this
        refine ⟨lj, _, _, rfl, rfl, hjA, by rw [ljs]; exact small1000 (by omega), ?_⟩
        obtain ⟨ta, vh, rfl, hta, xh⟩ := dx_tie xt
        obtain ⟨th, hvs, rfl, hth, hhs⟩ := dx_hs xh
        have lhv : hvs.length = t.hs.length := by
          have := dxall_len hhs
          rw [List.length_map] at this
          exact this
        have kA : TK HA (upd HA lj (.lst (js ++ [.ref ta]))) := upd_tk hjA
        refine ⟨_, rfl, _, rfl, _, rfl, lj, _, -1, _, rfl, rfl, SqL.of upd_same, atI_last _ _, ta, _, 4, _, rfl, rfl, SqT.of (kA _ _ trivial (Off.same _ _ hta)), atI_int (by decide) rfl, th, _, rfl, .inr (TupY.tk hth (Same.tk Off.same |>.trans kA)).sq, _, _, rfl, rfl, ?_⟩
        have zz : Same (Off lj (Off p H6)) (Off lj (Off p (upd HA lj (.lst (js ++ [.ref ta]))))) := fun b o e => Off.upd2 b o (Off.mono (Off.but ((Same.but s69).trans drA.1)) b o e)
        have hjO : (Off p HA) lj = some (.lst js) := Off.at njp hjA
        refine ⟨ts ++ [t], js ++ [.ref ta], some (.int (0 + (i : Nat))), some (.ref ln), ?_, upd_same, ?_, Dx.same zz _ _ hfo, SP.snoc gt nin, ?_, ?_, fun b o n e => ?_, ?_⟩
        · have e2 : tl - (told ts : Int) - (hvs.length : Int) = tl - ((told (ts ++ [t]) : Nat) : Int) := by rw [told_snoc, lhv]; omega
          rw [← e2]
          rfl
        · rw [List.map_append]
          exact dxall_snoc (Dx.sameAll zz _ _ hjs) (Dx.same Off.upd2 _ _ (Dx.tk (off_tk hjO) _ _ (noL_tie t) xt))
        · rw [List.length_append, lt]
          rfl
        · rw [told_snoc]
          omega
        · rw [upd_ne (nHj b o n e)]
          exact dA.1 b o n e
        · obtain ⟨u0, u1, z2, r⟩ := dA.2
          exact ⟨u0, u1, by rw [upd_ne njp.symm]; exact z2, r⟩
      · rintro σ H6 ⟨ts, js, v8, v9, rfl, hj, hjs, hfo, SP, lt, le, d6⟩
        exact ⟨ts, js, _, v8, v9, rfl, hj, hjs, hfo, SP, by omega, le, d6⟩
    · rintro σ H6 ⟨ts, js, v7, v8, v9, rfl, hj, hjs, hfo, SP, lt, le, d6⟩
      refine ⟨_, rfl, _, rfl, by show 2 ≤ sizeLine; decide, fun t nt => ?_⟩
      obtain ⟨s7, m7⟩ := fresh2 (o := .tup [.ref lf, .ref lj]) nt
      have ntp : t ≠ p := (d6.2.ne nt).symm
      have up : Same (Off lj (Off p H6)) (Off p (upd H6 t (.tup [.ref lf, .ref lj]))) := fun b o e => by
        have n1 := Off.ne (Off.same _ _ e)
        exact Off.at n1 (s7 _ _ (Off.same _ _ (Off.same _ _ e)))
      refine q _ fs ts _ (.tup (Off.at ntp m7) (.cons (Dx.same up _ _ hfo) (.cons (.lst (Off.at njp (s7 _ _ hj)) (Dx.sameAll up _ _ hjs)) .nil))) SP (by omega) (by omega) lt le ⟨d6.1.trans (Same.but s7), d6.2.same s7⟩
end
end Cw
namespace Cw
open PySem PySem.Spec PyProof.Rows L2
/-- a length that a tie may have, in rounds or in cries -/
def LenR (r : Bool) (n : Int) : Prop := if r = true then n = 1 else 2 ≤ n ∧ n ≤ 10 ^ 30
structure Good (r : Bool) (ns : List Str) (t : Tie) : Prop where
  nm : IsName t.nm
  h1 : t.one ∈ ns
  h2 : t.other ∈ ns
  ne : t.one ≠ t.other
  ln : LenR r t.len
  hr : Hear t.len t.hs
structure Specs (r : Bool) (fs : List (Str × Int)) (ts : List Tie) : Prop where
  fo : Folk fs
  ti : ∀ t ∈ ts, Good r (fs.map (·.1)) t
  nd : (fs.map (·.1) ++ ts.map (·.nm)).Nodup
  f1 : 1 ≤ fs.length
  f8 : fs.length ≤ 8
  t12 : ts.length ≤ 12
  h12 : told ts ≤ 12
theorem Spec.cries {fs : List (Str × Int)} {ts : List Tie} (S : Spec fs ts) (f1 : 1 ≤ fs.length) (f8 : fs.length ≤ 8) (t12 : ts.length ≤ 12) (h : (told ts : Int) ≤ 12) : Specs false fs ts :=
  ⟨S.fo, fun t ht => let g := S.ti t ht; ⟨g.nm, g.h1, g.h2, g.ne, by unfold LenR; rw [if_neg Bool.false_ne_true]; exact ⟨g.lo, g.hi⟩, g.hr⟩, S.nd, f1, f8, t12, by omega⟩
/-- the same tie in rounds -/
def inRounds (t : Tie) : Tie := ⟨t.nm, t.one, t.other, 1, []⟩
theorem told_rounds : ∀ ts : List Tie, told (ts.map inRounds) = 0
  | [] => rfl
  | t :: r => by
    show 0 + told (r.map inRounds) = 0
    rw [told_rounds r]
theorem Spec.rounds {fs : List (Str × Int)} {ts : List Tie} (S : Spec fs ts) (f1 : 1 ≤ fs.length) (f8 : fs.length ≤ 8) (t12 : ts.length ≤ 12) : Specs true fs (ts.map inRounds) := by
  refine ⟨S.fo, fun t ht => ?_, ?_, f1, f8, by rw [List.length_map]; exact t12, by rw [told_rounds]; omega⟩
  · obtain ⟨u, hu, rfl⟩ := List.mem_map.mp ht
    have g := S.ti u hu
    exact ⟨g.nm, g.h1, g.h2, g.ne, rfl, .nil, fun _ h => by cases h⟩
  · have e : (ts.map inRounds).map (·.nm) = ts.map (·.nm) := by
      rw [List.map_map]
      rfl
    rw [e]
    exact S.nd
theorem paired_ties {H : Hp} : ∀ {xs : List V} {ts : List Tie}, Paired (fun (x : V) (t : Tie) => Dx H x (dTie t)) xs ts → DxAll H xs (ts.map dTie)
  | _, _, .nil => .nil
  | _, _, .cons h r => .cons h (paired_ties r)
section
variable {P : Program} {w : World} {K : PySem.W.Frag} {mg : Str → Option Value} {base : Heap}
abbrev WebOk (P : Program) (w : World) (K : PySem.W.Frag) (mg : Str → Option Value) (base : Heap) : Prop := ∃ (fT : Addr) (fdT : FuncData), FnP K "_law_web" "_law_web" S_web fT fdT ∧ Binds K fdT P_web [] ∧ FnOk P w K mg base CX0 4 fT fdT P_web spWeb ∧ mg "_law_web" = some (.ref fT)
def spRounds : Sp := fun vs H Q _ => ∃ (p : Addr) (mp mt : Int), vs = [.ref p, .int mp, .int mt] ∧ Pot H p ∧ 1 ≤ mp ∧ mp ≤ 8 ∧ 0 ≤ mt ∧ mt ≤ 12 ∧
  ∀ (v : V) (fs : List (Str × Int)) (ts : List Tie) (H' : Hp), Dx (Off p H') v (dSpec fs ts) → Specs true fs ts → Drew p H H' → Q v H'
theorem ok_rounds {f : Addr} {fd : FuncData} (F : FnP K "_law_rounds" "_law_rounds" S_rounds f fd) (WO : WebOk P w K mg base) : FnOk P w K mg base CX0 5 f fd P_rounds spRounds := by
  obtain ⟨fT, fdT, FT, bT, GT, gT⟩ := WO
  refine F.ok sc_rounds (fun vs H Q E h => ?_) (fun cdv A outer s H vs Q E hr h => ⟨_, PSs.nox (pss_cons (ps_asg (pe_call GT hr rfl gT FT.kp bT .nil pass0 (pa_cons (pv 0) (pa_cons (pv 1) (pa_cons (pv 2) (pa_cons pe_int (pa_cons pe_int pa_nil))))))
      (pg_tup (by rfl) (pgs_cons (pg_name (i := 3) sc_rounds.nd rfl (.inl rfl)) (pgs_cons (pg_name (i := 4) sc_rounds.nd rfl (.inl rfl)) pgs_nil))))
    (pss_one (ps_ret (pe_tup (pa_cons (pv 3) (pa_cons (pe_lc (own := [("_law_name_here", 5), ("_law_one", 6), ("_law_other", 7), ("_law_length_here", 8), ("_law_hearers_here", 9)]) (g := gTup K 5 (gCons (gName 5) (gCons (gName 6) (gCons (gName 7) (gCons (gName 8) (gCons (gName 9) gNil)))))) rfl sc_rounds.nd (pi_list (pv 4))
      (blkOk_by (own := [("_law_name_here", 5), ("_law_one", 6), ("_law_other", 7), ("_law_length_here", 8), ("_law_hearers_here", 9)]) (N := N_rounds) (sc := defScope S_rounds) (by decide +kernel))
      (fun _ _ _ _ _ => pg_tup rfl (pgs_cons (pg_name (i := 5) sc_rounds.nd rfl (.inl rfl)) (pgs_cons (pg_name (i := 6) sc_rounds.nd rfl (.inl rfl)) (pgs_cons (pg_name (i := 7) sc_rounds.nd rfl (.inl rfl)) (pgs_cons (pg_name (i := 8) sc_rounds.nd rfl (.inl rfl)) (pgs_cons (pg_name (i := 9) sc_rounds.nd rfl (.inl rfl)) pgs_nil))))))
      (fun _ _ _ _ _ => pts_nil) (fun _ _ _ _ _ => pe_tup (pa_cons (pv 5) (pa_cons (pv 6) (pa_cons (pv 7) (pa_cons pe_int (pa_cons pe_tupZ pa_nil))))))) pa_nil)))))), ?_⟩)
  · obtain ⟨p, mp, mt, rfl, _⟩ := h
    rfl
  · obtain ⟨p, mp, mt, rfl, hP, mp1, mp8, mt0, mt12, q⟩ := h
    rw [show L2.start N_rounds [V.ref p, V.int mp, V.int mt] = [some (V.ref p), some (.int mp), some (.int mt), none, none, none, none, none, none, none] from rfl]
    refine ⟨_, rfl, _, rfl, _, rfl, p, mp, mt, 0, 0, rfl, hP, mp1, mp8, mt0, mt12, by decide, by decide, by decide, fun v fs ts H1 xs SP f1 f8 t12 th dr1 => ?_⟩
    obtain ⟨t, ys, rfl, ht, hy⟩ := dx_tuple xs
    cases hy with
    | @cons vf _ _ _ hf hy =>
      cases hy with
      | @cons vj _ _ _ hj hy =>
        cases hy
        refine ⟨t, _, rfl, SqT.of (Off.same _ _ ht), rfl, _, _, rfl, _, _, rfl, rfl, ?_⟩
        obtain ⟨lj, js, rfl, hlj, hjs⟩ := dx_list hj
        have njp : lj ≠ p := Off.ne hlj
        have lx : js.length = ts.length := by
          have := dxall_len hjs
          rw [List.length_map] at this
          exact this
        refine ⟨_, rfl, _, rfl, lj, rfl, ⟨_, SqL.of (Off.same _ _ hlj)⟩, fun D nD => ?_⟩
        have nDp : D ≠ p := (dr1.2.ne nD).symm
        refine lc_list (K := K) (a := lj) (xs := js) (fun i H2 => Same H1 (Off D H2) ∧ ∃ us : List V, H2 D = some (.lst us) ∧ DxAll (Off D (Off p H2)) us ((ts.take i).map fun t => dTie (inRounds t))) ⟨fun b o e => Off.at (ne_of_none e nD) (same_new nD _ _ e), [], upd_same, .nil⟩ (fun i H2 _ hh => SqL.of (Off.same _ _ (hh.1 _ _ (Off.same _ _ hlj)))) ?_ ?_
        · rintro i x H2 hxi ⟨sm, us, hD, hus⟩
          have hi : i < ts.length := by
            have := (List.getElem?_eq_some_iff.mp hxi).1
            omega
          obtain ⟨y, e1, e2⟩ := dxall_get (i := i) hjs (by rw [List.getElem?_map, List.getElem?_eq_getElem hi]; rfl)
          have exy : x = y := Option.some.inj (hxi.symm.trans e1)
          subst exy
          obtain ⟨ta, vh, rfl, hta, _⟩ := dx_tie e2
          have P2 : Pot H2 p := by
            obtain ⟨u0, u1, z2, r⟩ := dr1.2
            exact ⟨u0, u1, Off.same _ _ (sm _ _ z2), r⟩
          refine ⟨ta, [.str ts[i].nm, .str ts[i].one, .str ts[i].other, .int ts[i].len, vh], rfl, SqT.of (Off.same _ _ (sm _ _ (Off.same _ _ hta))), rfl, .str ts[i].nm, [.str ts[i].one, .str ts[i].other, .int ts[i].len, vh], rfl, .str ts[i].one, [.str ts[i].other, .int ts[i].len, vh], rfl, .str ts[i].other, [.int ts[i].len, vh], rfl, .int ts[i].len, [vh], rfl, vh, [], rfl, rfl, by simp only [List.map, wipe, List.set], ?_⟩
          dsimp only [tYes]
          rw [if_pos rfl]
          refine ⟨_, rfl, _, rfl, _, rfl, fun t0 ob nt0 dn => ⟨by show 5 ≤ sizeLine; decide, fun t1 nt1 => ?_⟩⟩
          obtain ⟨s3, m3⟩ := fresh2 (o := .frz ob (.tup [])) nt0
          obtain ⟨s4, m4⟩ := fresh2 (o := .tup [.str ts[i].nm, .str ts[i].one, .str ts[i].other, .int 1, .ref t0]) nt1
          have hD4 := s4 _ _ (s3 _ _ hD)
          have lus : us.length = i := by
            have := dxall_len hus
            rw [List.length_map, List.length_take] at this
            omega
          have n0p : t0 ≠ p := (P2.ne nt0).symm
          have n1p : t1 ≠ p := ((P2.same s3).ne nt1).symm
          have n0D : t0 ≠ D := (ne_of_none hD nt0).symm
          have n1D : t1 ≠ D := (ne_of_none (s3 _ _ hD) nt1).symm
          have up : Same (Off D (Off p H2)) (Off D (Off p (upd (upd (upd H2 t0 (.frz ob (.tup []))) t1 (.tup [.str ts[i].nm, .str ts[i].one, .str ts[i].other, .int 1, .ref t0])) D (.lst (us ++ [.ref t1]))))) := fun b o e => by
            have a1 := Off.ne e
            have a2 := Off.ne (Off.same _ _ e)
            exact Off.at a1 (Off.at a2 (by rw [upd_ne a1]; exact s4 _ _ (s3 _ _ (Off.same _ _ (Off.same _ _ e)))))
          refine ⟨_, hD4, by rw [lus]; exact small1000 (by omega), fun b o e => ?_, us ++ [.ref t1], upd_same, ?_⟩
          · have nb : b ≠ D := ne_of_none e nD
            exact Off.at nb (by rw [upd_ne nb]; exact s4 _ _ (s3 _ _ (Off.same _ _ (sm b o e))))
          · rw [List.take_add_one, List.getElem?_eq_getElem hi, List.map_append]
            refine dxall_snoc (Dx.sameAll up _ _ hus) ?_
            refine .tup (Off.at n1D (Off.at n1p (by rw [upd_ne n1D]; exact m4))) (.cons (.str _) (.cons (.str _) (.cons (.str _) (.cons (.int _) (.cons (.tupz (xs := []) (Off.at n0D (Off.at n0p (by rw [upd_ne n0D]; exact s4 _ _ m3))) dn .nil rfl) .nil)))))
        · rintro H2 ⟨sm, us, hD, hus⟩
          rw [lx, List.take_length] at hus
          have s12 : Same H1 H2 := fun b o e => Off.same _ _ (sm b o e)
          refine ⟨by show 2 ≤ sizeLine; decide, fun tt ntt => ?_⟩
          obtain ⟨s3, m3⟩ := fresh2 (o := .tup [vf, .ref D]) ntt
          have ntp : tt ≠ p := ((dr1.2.same s12).ne ntt).symm
          have s13 := s12.trans s3
          refine q _ fs (ts.map inRounds) _ (.tup (Off.at ntp m3) (.cons (Dx.same (Off.but (Same.but s13)) _ _ hf) (.cons (.lst (Off.at nDp (s3 _ _ hD)) ?_) .nil))) (SP.rounds f1 f8 t12) ⟨dr1.1.trans (Same.but s13), dr1.2.same s13⟩
          rw [List.map_map]
          exact Dx.sameAll (fun b o e => Off.at (Off.ne (Off.same _ _ e)) (s3 _ _ (Off.same _ _ (Off.same _ _ e)))) _ _ hus
end
end Cw
namespace Cw
open PySem PySem.Spec PyProof.Rows L2
/-- the built-in names are as they were -/
structure Blt (mg : Str → Option Value) : Prop where
  isinstance_ : mg "isinstance" = none
  int_ : mg "int" = none
  bool_ : mg "bool" = none
  str_ : mg "str" = none
  list_ : mg "list" = none
  tuple_ : mg "tuple" = none
  dict_ : mg "dict" = none
  len_ : mg "len" = none
  all_ : mg "all" = none
  sum_ : mg "sum" = none
  enumerate_ : mg "enumerate" = none
  range_ : mg "range" = none
  repr_ : mg "repr" = none
  abs_ : mg "abs" = none
  max_ : mg "max" = none
  min_ : mg "min" = none
  divmod_ : mg "divmod" = none
  sorted_ : mg "sorted" = none
theorem qd {p : Prop} [Decidable p] {Q : VK} {H : Hp} (h : p) (q : Q (.bl true) H) : Q (.bl (decide p)) H := by
  rw [decide_eq_true h]
  exact q
section
variable {P : Program} {w : World} {K : PySem.W.Frag} {mg : Str → Option Value} {base : Heap}
/-- a def of the program that keeps its promise, as callers need it -/
def Has (P : Program) (w : World) (K : PySem.W.Frag) (mg : Str → Option Value) (base : Heap) (n : Str) (st : Stmt) (k : Nat) (ps : List Str) (sp : Sp) : Prop := ∃ (fT : Addr) (fdT : FuncData), FnP K n n st fT fdT ∧ Binds K fdT ps [] ∧ FnOk P w K mg base CX0 k fT fdT ps sp ∧ mg n = some (.ref fT)
def spWhole : Sp := fun vs H Q _ => ∃ n : Int, vs = [.int n] ∧ Q (.bl true) H
theorem ok_whole {f : Addr} {fd : FuncData} (F : FnP K "is_whole" "is_whole" S_is_whole f fd) (B : Blt mg) : FnOk P w K mg base CX0 1 f fd P_is_whole spWhole := by
  refine F.ok sc_is_whole (fun vs H Q E h => ?_) (fun cdv A outer s H vs Q E hr h => ⟨_, PSs.nox (pss_one (ps_ret (pe_and (pe_callB call_isi (by rfl) B.isinstance_ (by decide +kernel) (pa_cons (pv 0) (pa_cons (pe_bltn (v := .ty "int") (u := .type "int") (by rfl) B.int_ (by decide +kernel) rfl) pa_nil))) (pe_one (pe_not (pe_callB call_isi (by rfl) B.isinstance_ (by decide +kernel) (pa_cons (pv 0) (pa_cons (pe_bltn (v := .ty "bool") (u := .type "bool") (by rfl) B.bool_ (by decide +kernel) rfl) pa_nil)))))))), ?_⟩)
  · obtain ⟨n, rfl, _⟩ := h
    rfl
  · obtain ⟨n, rfl, q⟩ := h
    exact ⟨_, rfl, _, _, _, _, _, rfl, .ty _, ty_int _, kit_ty k_int_int, true, rfl, iteT ⟨_, rfl, _, _, _, _, _, rfl, .ty _, ty_int _, kit_ty k_int_bool, false, rfl, q⟩⟩
def spState : Sp := fun vs H Q _ => ∃ n : Int, vs = [.int n] ∧ 0 ≤ n ∧ n ≤ 2 ∧ Q (.bl true) H
theorem ok_state {f : Addr} {fd : FuncData} (F : FnP K "is_state" "is_state" S_is_state f fd) (W : Has P w K mg base "is_whole" S_is_whole 1 P_is_whole spWhole) : FnOk P w K mg base CX0 2 f fd P_is_state spState := by
  obtain ⟨fW, fdW, FW, bW, GW, gW⟩ := W
  refine F.ok sc_is_state (fun vs H Q E h => ?_) (fun cdv A outer s H vs Q E hr h => ⟨_, PSs.nox (pss_one (ps_ret (pe_and (pe_call GW hr rfl gW FW.kp bW .nil pass0 (pa_cons (pv 0) pa_nil)) (pe_one (pe_chain op_le op_le pe_int (pv 0) pe_int))))), ?_⟩)
  · obtain ⟨n, rfl, _⟩ := h
    rfl
  · obtain ⟨n, rfl, n0, n2, q⟩ := h
    refine ⟨_, rfl, n, rfl, true, rfl, iteT ⟨_, rfl, _, _, rfl, rfl, _, rfl, ?_⟩⟩
    rw [if_pos (decide_eq_true n0)]
    refine ⟨_, _, rfl, rfl, ?_⟩
    exact qd n2 q
def spLength : Sp := fun vs H Q _ => ∃ (n : Int) (r : Bool), vs = [.int n, .bl r] ∧ LenR r n ∧ Q (.bl true) H
theorem ok_islen {f : Addr} {fd : FuncData} (F : FnP K "is_length" "is_length" S_is_length f fd) (W : Has P w K mg base "is_whole" S_is_whole 1 P_is_whole spWhole) (mL : ∃ t, mg "LONGEST" = some (.int (10 ^ 30) t)) : FnOk P w K mg base CX0 2 f fd P_is_length spLength := by
  obtain ⟨fW, fdW, FW, bW, GW, gW⟩ := W
  obtain ⟨tL, mL⟩ := mL
  refine F.ok sc_is_length (fun vs H Q E h => ?_) (fun cdv A outer s H vs Q E hr h => ⟨_, PSs.nox (pss_cons (ps_if (pt_val (pv 1)) (pss_one (ps_ret (pe_and (pe_call GW hr rfl gW FW.kp bW .nil pass0 (pa_cons (pv 0) pa_nil)) (pe_one (pe_cmpR op_eq (pv 0) pe_int (nomark _)))))) pss_nil)
     (pss_one (ps_ret (pe_and (pe_call GW hr rfl gW FW.kp bW .nil pass0 (pa_cons (pv 0) pa_nil)) (pe_one (pe_chain op_le op_le pe_int (pv 0) (pe_glob (v := .int (10 ^ 30)) rfl mL ⟨_, rfl⟩))))))), ?_⟩)
  · obtain ⟨n, r, rfl, _⟩ := h
    rfl
  · obtain ⟨n, r, rfl, L, q⟩ := h
    cases r with
    | true =>
      have e : n = 1 := L
      subst e
      exact ⟨_, rfl, true, rfl, iteT ⟨_, rfl, 1, rfl, true, rfl, iteT ⟨_, rfl, rfl, q⟩⟩⟩
    | false =>
      obtain ⟨n0, n2⟩ := (show 2 ≤ n ∧ n ≤ 10 ^ 30 from L)
      refine ⟨_, rfl, false, rfl, iteF ⟨_, rfl, n, rfl, true, rfl, iteT ⟨_, rfl, _, _, rfl, rfl, _, rfl, ?_⟩⟩⟩
      rw [if_pos (decide_eq_true n0)]
      refine ⟨_, _, rfl, rfl, ?_⟩
      exact qd n2 q
/-- a tuple of so many, or something that is no tuple -/
def spTupOf (K : PySem.W.Frag) : Sp := fun vs H Q _ => ∃ (v : V) (m : Int), vs = [v, .int m] ∧ ((∃ a xs, v = .ref a ∧ SqT K H a xs ∧ Q (.bl (decide ((xs.length : Int) = m))) H) ∨ ((∃ t, TyX K H v (.type t) ∧ kitB t "tuple" = some false) ∧ Q (.bl false) H))
theorem ok_tupof {f : Addr} {fd : FuncData} (F : FnP K "is_tuple_of" "is_tuple_of" S_is_tuple_of f fd) (B : Blt mg) : FnOk P w K mg base CX0 1 f fd P_is_tuple_of (spTupOf K) := by
  refine F.ok sc_is_tuple_of (fun vs H Q E h => ?_) (fun cdv A outer s H vs Q E hr h => ⟨_, PSs.nox (pss_one (ps_ret (pe_and (pe_callB call_isi (by rfl) B.isinstance_ (by decide +kernel) (pa_cons (pv 0) (pa_cons (pe_bltn (v := .ty "tuple") (u := .type "tuple") (by rfl) B.tuple_ (by decide +kernel) rfl) pa_nil))) (pe_one (pe_cmpR op_eq (pe_callB call_len_seq (by rfl) B.len_ PySem.boot_len (pa_cons (pv 0) pa_nil)) (pv 1) (nomark _)))))), ?_⟩)
  · obtain ⟨v, m, rfl, _⟩ := h
    rfl
  · obtain ⟨v, m, rfl, h⟩ := h
    rcases h with ⟨a, xs, rfl, hx, q⟩ | ⟨⟨t, ht, hk⟩, q⟩
    · refine ⟨_, rfl, _, _, _, _, _, rfl, .ty _, ty_tup hx, kit_ty k_tup_tup, true, rfl, iteT ⟨_, rfl, a, xs, rfl, .inr hx, _, rfl, rfl, ?_⟩⟩
      simpa using q
    · exact ⟨_, rfl, _, _, _, _, _, rfl, .ty _, ht, kit_ty hk, false, rfl, iteF q⟩
/-- states by names -/
def kvF (fs : List (Str × Int)) : List (Key × V) := fs.map fun f => (Sum.inr f.1, .int f.2)
theorem valF : ∀ (fs : List (Str × Int)) (z : Str), (valV (kvF fs) (Sum.inr z)).isSome = decide (z ∈ fs.map (·.1)) := by
  intro fs z
  induction fs with
  | nil => rfl
  | cons f r ih =>
    unfold valV kvF at *
    rw [List.map_cons, List.find?_cons]
    by_cases h : f.1 = z
    · subst h
      simp
    · have h2 : ¬ (z = f.1) := fun e => h e.symm
      have e1 : decide (((Sum.inr f.1 : Key), V.int f.2).1 = Sum.inr z) = false := by
        simp [h]
      rw [e1]
      simp only [List.map_cons, List.mem_cons, h2, false_or]
      exact ih
def spEnds : Sp := fun vs H Q _ => ∃ (a : Addr) (y z : Str) (fs : List (Str × Int)), vs = [.str y, .str z, .ref a] ∧ H a = some (.dK (kvF fs)) ∧ y ∈ fs.map (·.1) ∧ z ∈ fs.map (·.1) ∧ y ≠ z ∧ Q (.bl true) H
theorem ok_ends {f : Addr} {fd : FuncData} (F : FnP K "are_ends" "are_ends" S_are_ends f fd) (B : Blt mg) : FnOk P w K mg base CX0 1 f fd P_are_ends spEnds := by
  refine F.ok sc_are_ends (fun vs H Q E h => ?_) (fun cdv A outer s H vs Q E hr h => ⟨_, PSs.nox (pss_cons (ps_if (PW.pt (pw_or (pt_not (pt_val (pe_callB call_isi (by rfl) B.isinstance_ (by decide +kernel) (pa_cons (pv 0) (pa_cons (pe_bltn (v := .ty "str") (u := .type "str") (by rfl) B.str_ (by decide +kernel) rfl) pa_nil))))) (pw_or1 (pt_not (pt_val (pe_callB call_isi (by rfl) B.isinstance_ (by decide +kernel) (pa_cons (pv 1) (pa_cons (pe_bltn (v := .ty "str") (u := .type "str") (by rfl) B.str_ (by decide +kernel) rfl) pa_nil)))))))) pss_no pss_nil)
     (pss_one (ps_ret (pe_and (pe_cmp (pc_din (hu_of hr) (pv 0) (pv 2))) (pe_and (pe_cmp (pc_din (hu_of hr) (pv 1) (pv 2))) (pe_one (pe_cmpR op_ne (pv 0) (pv 1) (nomark _)))))))), ?_⟩)
  · obtain ⟨a, y, z, fs, rfl, _⟩ := h
    rfl
  · obtain ⟨a, y, z, fs, rfl, ha, hy, hz, ne, q⟩ := h
    refine ⟨_, rfl, _, _, _, _, _, rfl, .ty _, ty_str _, kit_ty k_str_str, true, rfl, iteF ⟨_, rfl, _, _, _, _, _, rfl, .ty _, ty_str _, kit_ty k_str_str, true, rfl, iteF ?_⟩⟩
    refine ⟨_, rfl, _, rfl, a, _, rfl, DGet.k (k := Sum.inr y) ha, _, rfl, ?_⟩
    rw [valF, decide_eq_true hy]
    refine iteT ⟨_, rfl, _, rfl, a, _, rfl, DGet.k (k := Sum.inr z) ha, _, rfl, ?_⟩
    rw [valF, decide_eq_true hz]
    refine iteT ⟨_, rfl, _, rfl, rfl, ?_⟩
    have e : (!decide (V.str y = V.str z)) = true := by
      simp [ne]
    rw [e]
    exact q
end
end Cw
namespace Cw
open PySem PySem.Spec PyProof.Rows L2
theorem le_a {c : Nat} (h : 97 ≤ c) : (!decide ((⟨#[c]⟩ : Str).cps.toList < (Str.ofString "a").cps.toList)) = true := by
  have e : (Str.ofString "a").cps.toList = [97] := by decide +kernel
  rw [e]
  show (!decide (([c] : List Nat) < [97])) = true
  have : ¬ (([c] : List Nat) < [97]) := by
    intro z
    rcases List.cons_lt_cons_iff.mp z with z | ⟨_, z⟩
    · omega
    · exact absurd z (by simp)
  rw [decide_eq_false this]
  rfl
theorem le_z {c : Nat} (h : c ≤ 122) : (!decide ((Str.ofString "z").cps.toList < (⟨#[c]⟩ : Str).cps.toList)) = true := by
  have e : (Str.ofString "z").cps.toList = [122] := by decide +kernel
  rw [e]
  show (!decide (([122] : List Nat) < [c])) = true
  have : ¬ (([122] : List Nat) < [c]) := by
    intro z
    rcases List.cons_lt_cons_iff.mp z with z | ⟨_, z⟩
    · omega
    · exact absurd z (by simp)
  rw [decide_eq_false this]
  rfl
theorem qb {p : Prop} [Decidable p] (h : p) : V.bl (decide p) = V.bl true := by rw [decide_eq_true h]
def ahead (hs : List (Int × Int)) : Nat → Int
  | 0 => 0
  | n + 1 => ((hs[n]?).map (·.1)).getD 0
theorem ahead_lt {L : Int} {hs : List (Int × Int)} (h : Hear L hs) {i : Nat} (hi : i < hs.length) : ahead hs i < hs[i].1 := by
  cases i with
  | zero => exact (h.at_ _ (List.getElem_mem hi)).1
  | succ n =>
    have hn : n < hs.length := Nat.lt_of_succ_lt hi
    show ((hs[n]?).map (·.1)).getD 0 < _
    rw [List.getElem?_eq_getElem hn]
    exact List.pairwise_iff_getElem.mp h.up n (n + 1) hn hi (Nat.lt_succ_self n)
theorem dx_hear {H : Hp} {v : V} {h : Int × Int} (x : Dx H v (dHear h)) : ∃ a, v = .ref a ∧ H a = some (.tup [.int h.1, .int h.2]) := by
  obtain ⟨a, ys, rfl, e, r⟩ := dx_tuple x
  cases r with
  | cons h1 r =>
    cases r with
    | cons h2 r =>
      cases r
      cases dx_int h1
      cases dx_int h2
      exact ⟨a, rfl, e⟩
section
variable {P : Program} {w : World} {K : PySem.W.Frag} {mg : Str → Option Value} {base : Heap}
def spIsName : Sp := fun vs H Q _ => ∃ z : Str, vs = [.str z] ∧ IsName z ∧ ∀ H', Same H H' → Q (.bl true) H'
theorem ok_isname {f : Addr} {fd : FuncData} (F : FnP K "is_name" "is_name" S_is_name f fd) (B : Blt mg) (mL : ∃ t, mg "LONGEST_NAME" = some (.int 8 t)) : FnOk P w K mg base CX0 1 f fd P_is_name spIsName := by
  obtain ⟨tL, mL⟩ := mL
  refine F.ok sc_is_name (fun vs H Q E h => ?_) (fun cdv A outer s H vs Q E hr h => ⟨_, PSs.nox (pss_cons (ps_if (PW.pt (pw_or (pt_not (pt_val (pe_callB call_isi (by rfl) B.isinstance_ (by decide +kernel) (pa_cons (pv 0) (pa_cons (pe_bltn (v := .ty "str") (u := .type "str") (by rfl) B.str_ (by decide +kernel) rfl) pa_nil))))) (pw_or1 (pt_not (pt_chain op_le op_le pe_int (pe_callB call_len_str (by rfl) B.len_ PySem.boot_len (pa_cons (pv 0) pa_nil)) (pe_glob (v := .int 8) rfl mL ⟨_, rfl⟩)))))) pss_no pss_nil)
     (pss_one (ps_ret (pe_callB (cr_all rfl) (by rfl) B.all_ (by decide +kernel) (pa_cons (pe_lc (own := [("letter", 1)]) (g := gName 1) rfl sc_is_name.nd (pi_str (pv 0))
        (blkOk_by (own := [("letter", 1)]) (N := N_is_name) (sc := defScope S_is_name) (by decide +kernel)) (fun _ _ _ _ _ => pg_name (i := 1) sc_is_name.nd rfl (Or.inl rfl)) (fun _ _ _ _ _ => pts_nil) (fun _ _ _ _ _ => pe_chain op_le_str op_le_str pe_str (pv 1) pe_str)) pa_nil))))), ?_⟩)
  · obtain ⟨z, rfl, _⟩ := h
    rfl
  · obtain ⟨z, rfl, ⟨z1, z8, zc⟩, q⟩ := h
    refine ⟨_, rfl, _, _, _, _, _, rfl, .ty _, ty_str _, kit_ty k_str_str, true, rfl, iteF ⟨_, rfl, z, rfl, by rw [sizeLine_eq]; omega, _, _, rfl, rfl, _, rfl, ?_⟩⟩
    rw [if_pos (decide_eq_true (show (1 : Int) ≤ (z.length : Int) by omega))]
    refine ⟨_, _, rfl, rfl, _, rfl, ?_⟩
    rw [decide_eq_true (show (z.length : Int) ≤ 8 by omega)]
    refine iteF ⟨_, rfl, _, rfl, fun D nD => ?_⟩
    refine lc_it (walk_str (z := z)) (fun i H2 => Same H (Off D H2) ∧ H2 D = some (.lst ((List.replicate i true).map V.bl))) ⟨fun b o e => Off.at (ne_of_none e nD) (same_new nD _ _ e), upd_same⟩ (fun _ _ _ _ => trivial) ?_ ?_
    · rintro i x H4 H5 hi ⟨sm, hD⟩ ⟨rfl, c, hc, rfl⟩
      refine ⟨rfl, ?_⟩
      dsimp only [tYes]
      rw [if_pos rfl]
      have cm : c ∈ TL.tl z := by
        show c ∈ z.cps.toList
        exact Array.mem_toList_iff.mpr (Array.mem_of_getElem? hc)
      obtain ⟨c1, c2⟩ := zc c cm
      refine ⟨_, rfl, _, _, rfl, rfl, true, by rw [le_a c1], iteT ⟨_, _, rfl, rfl, ?_⟩⟩
      rw [le_z c2]
      have hi2 : i < z.length := hi
      refine ⟨_, hD, by rw [List.length_map, List.length_replicate]; exact small1000 (by omega), fun b o e => ?_, ?_⟩
      · have nb : b ≠ D := ne_of_none e nD
        exact Off.at nb (by rw [upd_ne nb]; exact Off.same _ _ (sm b o e))
      · rw [upd_same, List.replicate_succ', List.map_append]
        rfl
    · rintro H2 ⟨sm, hD⟩
      refine ⟨D, List.replicate _ true, rfl, SqL.of hD, ?_⟩
      rw [show (List.replicate z.cps.size true).all id = true from by simp]
      exact q _ fun b o e => Off.same _ _ (sm b o e)
def spHearers (K : PySem.W.Frag) : Sp := fun vs H Q _ => ∃ (v : V) (L : Int) (hs : List (Int × Int)), vs = [v, .int L] ∧ Dx H v (dHs hs) ∧ Hear L hs ∧ Q (.bl true) H
theorem ok_arehear {f : Addr} {fd : FuncData} (F : FnP K "are_hearers" "are_hearers" S_are_hearers f fd) (B : Blt mg) (W : Has P w K mg base "is_whole" S_is_whole 1 P_is_whole spWhole) (S : Has P w K mg base "is_state" S_is_state 2 P_is_state spState)
    (T : Has P w K mg base "is_tuple_of" S_is_tuple_of 1 P_is_tuple_of (spTupOf K)) : FnOk P w K mg base CX0 3 f fd P_are_hearers (spHearers K) := by
  obtain ⟨fW, fdW, FW, bW, GW, gW⟩ := W
  obtain ⟨fS, fdS, FS, bS, GS, gS⟩ := S
  obtain ⟨fT, fdT, FT, bT, GT, gT⟩ := T
  refine F.ok sc_are_hearers (fun vs H Q E h => ?_) (fun cdv A outer s H vs Q E hr h => ⟨_, PSs.nox (pss_cons (ps_if (pt_not (pt_val (pe_callB call_isi (by rfl) B.isinstance_ (by decide +kernel) (pa_cons (pv 0) (pa_cons (pe_bltn (v := .ty "tuple") (u := .type "tuple") (by rfl) B.tuple_ (by decide +kernel) rfl) pa_nil))))) pss_no pss_nil)
     (pss_cons (ps_set (i := 2) sc_are_hearers.nd rfl (.inl rfl) pe_int)
     (pss_cons (ps_for PassesOwn.never rfl (pi_tup (pv 0)) (pg_name (i := 3) sc_are_hearers.nd rfl (Or.inl rfl))
        (pss_cons (ps_if (pt_not (pt_val (pe_call GT (hr.mono (by decide)) rfl gT FT.kp bT .nil pass0 (pa_cons (pv 3) (pa_cons pe_int pa_nil))))) pss_no pss_nil)
        (pss_cons (ps_asg (pv 3) (pg_tup (by rfl) (pgs_cons (pg_name (i := 4) sc_are_hearers.nd rfl (.inl rfl)) (pgs_cons (pg_name (i := 5) sc_are_hearers.nd rfl (.inl rfl)) pgs_nil))))
        (pss_cons (ps_if (PW.pt (pw_or (pt_not (pt_val (pe_call GW (hr.mono (by decide)) rfl gW FW.kp bW .nil pass0 (pa_cons (pv 4) pa_nil)))) (pw_or1 (pt_not (pt_chain op_lt op_lt (pv 2) (pv 4) (pv 1)))))) pss_no pss_nil)
        (pss_cons (ps_if (PW.pt (pw_or (pt_not (pt_val (pe_call GS hr rfl gS FS.kp bS .nil pass0 (pa_cons (pv 5) pa_nil)))) (pw_or1 (pt_cmpR op_eq (pv 5) pe_int (nomark _))))) pss_no pss_nil)
        (pss_one (ps_set (i := 2) sc_are_hearers.nd rfl (.inl rfl) (pv 4))))))))
     (pss_one (ps_ret pe_bl))))), ?_⟩)
  · obtain ⟨v, L, hs, rfl, _⟩ := h
    rfl
  · obtain ⟨v, L, hs, rfl, hv, hh, q⟩ := h
    obtain ⟨a, xs, rfl, ha, hx⟩ := dx_hs hv
    have lx : xs.length = hs.length := by
      have := dxall_len hx
      rw [List.length_map] at this
      exact this
    refine ⟨_, rfl, _, _, _, _, _, rfl, .ty _, ty_tup (ha.sq), kit_ty k_tup_tup, true, rfl, iteF ?_⟩
    rw [show L2.start N_are_hearers [V.ref a, V.int L] = [some (V.ref a), some (.int L), none, none, none, none] from rfl]
    refine ⟨_, rfl, a, rfl, ⟨_, ha.sq⟩, ?_⟩
    refine for_it (walk_tup (xs := xs)) (fun i σ H2 => H2 = H ∧ ∃ x3 x4 x5, σ = [some (V.ref a), some (.int L), some (.int (ahead hs i)), x3, x4, x5]) ⟨rfl, none, none, none, rfl⟩ (fun i σ H2 _ h => by rw [h.1]; exact ha.sq) ?_ ?_
    · rintro i x σ H2 H3 hi ⟨rfl, x3, x4, x5, rfl⟩ ⟨rfl, hxi⟩
      have hi2 : i < hs.length := by omega
      obtain ⟨y, e1, e2⟩ := dxall_get (i := i) hx (by rw [List.getElem?_map, List.getElem?_eq_getElem hi2]; rfl)
      have exy : x = y := Option.some.inj (hxi.symm.trans e1)
      subst exy
      obtain ⟨t, rfl, ht⟩ := dx_hear e2
      obtain ⟨b1, b2, b3, b4⟩ := hh.at_ _ (List.getElem_mem hi2)
      have al := ahead_lt hh hi2
      refine ⟨_, rfl, _, 2, rfl, .inl ⟨t, _, rfl, SqT.of ht, true, rfl, iteF ?_⟩⟩
      refine ⟨_, rfl, t, _, rfl, SqT.of ht, rfl, _, _, rfl, _, _, rfl, rfl, ?_⟩
      refine ⟨_, rfl, _, rfl, true, rfl, iteF ⟨_, rfl, _, rfl, _, _, rfl, rfl, _, rfl, ?_⟩⟩
      rw [if_pos (decide_eq_true al)]
      refine ⟨_, rfl, _, _, rfl, rfl, true, qb b2, iteF ?_⟩
      refine ⟨_, rfl, _, rfl, by omega, by omega, true, rfl, iteF ⟨_, rfl, rfl, _, rfl, ?_⟩⟩
      have e0 : decide (V.int hs[i].2 = V.int 0) = false := decide_eq_false fun z => by
        have := V.int.inj z
        omega
      rw [e0]
      have e1 : ahead hs (i + 1) = hs[i].1 := by
        show ((hs[i]?).map (·.1)).getD 0 = _
        rw [List.getElem?_eq_getElem hi2]
        rfl
      rw [e1]
      exact iteF ⟨_, rfl, rfl, some (V.ref t), some (V.int hs[i].1), some (V.int hs[i].2), rfl⟩
    · rintro σ H2 ⟨rfl, x3, x4, x5, rfl⟩
      exact q
end
end Cw
namespace Cw
open PySem PySem.Spec PyProof.Rows L2
theorem valF_none {fs : List (Str × Int)} {z : Str} (h : z ∉ fs.map (·.1)) : valV (kvF fs) (Sum.inr z) = none := by
  have e := valF fs z
  rw [decide_eq_false h] at e
  cases hv : valV (kvF fs) (Sum.inr z) with
  | none => rfl
  | some v => rw [hv] at e; cases e
theorem put_new {kvs : List (Key × V)} {k : Key} {v : V} (h : valV kvs k = none) : putK kvs k v = kvs ++ [(k, v)] := by
  have e : (kvs.any fun kv => decide (kv.1 = k)) = false := by
    unfold valV at h
    have h1 : kvs.find? (fun kv => decide (kv.1 = k)) = none := by
      cases hf : kvs.find? (fun kv => decide (kv.1 = k)) with
      | none => rfl
      | some x => rw [hf] at h; cases h
    rw [List.find?_eq_none] at h1
    rw [List.any_eq_false]
    exact h1
  unfold putK
  rw [e]
  simp
section
variable {P : Program} {w : World} {K : PySem.W.Frag} {mg : Str → Option Value} {base : Heap}
def spChP : Sp := fun vs H Q _ => ∃ (v : V) (fs : List (Str × Int)), vs = [v] ∧ Dx H v (dFolk fs) ∧ Folk fs ∧ 1 ≤ fs.length ∧ fs.length ≤ 8 ∧ ∀ (d : Addr) (H' : Hp), Same H H' → H d = none → H' d = some (.dK (kvF fs)) → Q (.ref d) H'
theorem ok_chp {f : Addr} {fd : FuncData} (F : FnP K "checked_persons" "checked_persons" S_checked_persons f fd) (B : Blt mg) (mP : ∃ t, mg "MOST_PERSONS" = some (.int 8 t)) (N : Has P w K mg base "is_name" S_is_name 1 P_is_name spIsName) (S : Has P w K mg base "is_state" S_is_state 2 P_is_state spState)
    (T : Has P w K mg base "is_tuple_of" S_is_tuple_of 1 P_is_tuple_of (spTupOf K)) : FnOk P w K mg base CX0 3 f fd P_checked_persons spChP := by
  obtain ⟨tP, mP⟩ := mP
  obtain ⟨fN, fdN, FN, bN, GN, gN⟩ := N
  obtain ⟨fS, fdS, FS, bS, GS, gS⟩ := S
  obtain ⟨fT, fdT, FT, bT, GT, gT⟩ := T
  refine F.ok sc_checked_persons (fun vs H Q E h => ?_) (fun cdv A outer s H vs Q E hr h => ⟨_, PSs.nox (pss_cons (ps_if (pt_not (pt_val (pe_callB call_isi (by rfl) B.isinstance_ (by decide +kernel) (pa_cons (pv 0) (pa_cons (pe_bltn (v := .ty "list") (u := .type "list") (by rfl) B.list_ (by decide +kernel) rfl) pa_nil))))) pss_no pss_nil)
     (pss_cons (ps_set (i := 1) sc_checked_persons.nd rfl (.inl rfl) pe_dnewK)
     (pss_cons (ps_for PassesOwn.never rfl (pi_enum (by rfl) B.enumerate_ (pa_cons (pv 0) pa_nil)) (pg_tup (by rfl) (pgs_cons (pg_name (i := 2) sc_checked_persons.nd rfl (.inl rfl)) (pgs_cons (pg_name (i := 3) sc_checked_persons.nd rfl (.inl rfl)) pgs_nil)))
        (pss_cons (ps_if (pt_not (pt_val (pe_call GT (hr.mono (by decide)) rfl gT FT.kp bT .nil pass0 (pa_cons (pv 3) (pa_cons pe_int pa_nil))))) pss_no pss_nil)
        (pss_cons (ps_asg (pv 3) (pg_tup (by rfl) (pgs_cons (pg_name (i := 4) sc_checked_persons.nd rfl (.inl rfl)) (pgs_cons (pg_name (i := 5) sc_checked_persons.nd rfl (.inl rfl)) pgs_nil))))
        (pss_cons (ps_if (pt_not (pt_val (pe_call GN (hr.mono (by decide)) rfl gN FN.kp bN .nil pass0 (pa_cons (pv 4) pa_nil)))) pss_no pss_nil)
        (pss_cons (ps_if (pt_cmp (pc_din (hu_of hr) (pv 4) (pv 1))) pss_no pss_nil)
        (pss_cons (ps_if (pt_not (pt_val (pe_call GS hr rfl gS FS.kp bS .nil pass0 (pa_cons (pv 5) pa_nil)))) pss_no pss_nil)
        (pss_one (ps_dput (hu_of hr) (pv 1) (pv 4) (pv 5) rfl))))))))
     (pss_cons (ps_if (pt_not (pt_chain op_le op_le pe_int (pe_callB call_lenD (by rfl) B.len_ PySem.boot_len (pa_cons (pv 1) pa_nil)) (pe_glob (v := .int 8) rfl mP ⟨_, rfl⟩))) pss_no pss_nil)
     (pss_one (ps_ret (pv 1))))))), ?_⟩)
  · obtain ⟨v, fs, rfl, _⟩ := h
    rfl
  · obtain ⟨v, fs, rfl, hv, fo, f1, f8, q⟩ := h
    obtain ⟨a, xs, rfl, ha, hx⟩ := dx_list hv
    have lx : xs.length = fs.length := by
      have := dxall_len hx
      rw [List.length_map] at this
      exact this
    refine ⟨_, rfl, _, _, _, _, _, rfl, .ty _, ty_lst ha, kit_ty k_lst_lst, true, rfl, iteF ?_⟩
    rw [show L2.start N_checked_persons [V.ref a] = [some (V.ref a), none, none, none, none, none] from rfl]
    intro d nd
    refine ⟨_, rfl, a, xs, rfl, SqL.of (same_new nd _ _ ha), ?_⟩
    refine for_it (walk_enum (xs := xs)) (fun i σ H2 => Same H (Off d H2) ∧ H2 d = some (.dK (kvF (fs.take i))) ∧ ∃ x2 x3 x4 x5, σ = [some (V.ref a), some (.ref d), x2, x3, x4, x5]) ⟨fun b o e => Off.at (ne_of_none e nd) (same_new nd _ _ e), upd_same, none, none, none, none, rfl⟩ (fun i σ H2 _ h => SqL.of (Off.same _ _ (h.1 _ _ ha))) ?_ ?_
    · rintro i x σ H2 H3 hi ⟨sm, hd, x2, x3, x4, x5, rfl⟩ ⟨tt, u, y, rfl, nt, rfl, hu1, hxi⟩
      cases hu1
      have hi2 : i < fs.length := by omega
      obtain ⟨y', e1, e2⟩ := dxall_get (i := i) hx (by rw [List.getElem?_map, List.getElem?_eq_getElem hi2]; rfl)
      have exy : y = y' := Option.some.inj (hxi.symm.trans e1)
      subst exy
      obtain ⟨t, rfl, ht⟩ := dx_per e2
      obtain ⟨s3, m3⟩ := fresh2 (o := .tup [V.int (i : Int), V.ref t]) nt
      have ht3 := s3 _ _ (Off.same _ _ (sm _ _ ht))
      have hd3 := s3 _ _ hd
      have hf := List.getElem_mem hi2
      refine ⟨tt, _, rfl, SqT.of m3, rfl, _, _, rfl, _, _, rfl, rfl, ?_⟩
      refine ⟨_, rfl, _, 2, rfl, .inl ⟨t, _, rfl, SqT.of ht3, true, rfl, iteF ?_⟩⟩
      refine ⟨_, rfl, t, _, rfl, SqT.of ht3, rfl, _, _, rfl, _, _, rfl, rfl, ?_⟩
      refine ⟨_, rfl, _, rfl, fo.nm _ hf, fun H4 s4 => ⟨true, rfl, iteF ?_⟩⟩
      have hd4 := s4 _ _ hd3
      have fresh : fs[i].1 ∉ (fs.take i).map (·.1) := by
        intro z
        have e : fs.map (·.1) = (fs.take i).map (·.1) ++ (fs.drop i).map (·.1) := by rw [← List.map_append, List.take_append_drop]
        have nd := fo.nd
        rw [e] at nd
        refine (List.nodup_append.mp nd).2.2 _ z fs[i].1 ?_ rfl
        rw [List.drop_eq_getElem_cons hi2]
        exact List.mem_cons_self
      refine ⟨_, rfl, _, rfl, d, _, rfl, DGet.k (k := Sum.inr fs[i].1) hd4, _, rfl, ?_⟩
      rw [valF_none fresh]
      refine iteF ⟨_, rfl, _, rfl, (fo.st _ hf).1, (fo.st _ hf).2, true, rfl, iteF ?_⟩
      refine ⟨_, rfl, _, rfl, _, rfl, d, _, rfl, DPut.k (k := Sum.inr fs[i].1) hd4 ?_, fun b o e => ?_, ?_, some (.int (i : Int)), some (.ref t), some (.str fs[i].1), some (.int fs[i].2), rfl⟩
      · unfold kvF
        rw [List.length_map, List.length_take]
        exact small1000 (by omega)
      · have nb : b ≠ d := ne_of_none e nd
        exact Off.at nb (by rw [upd_ne nb]; exact s4 _ _ (s3 _ _ (Off.same _ _ (sm b o e))))
      · rw [upd_same, put_new (valF_none fresh), List.take_add_one, List.getElem?_eq_getElem hi2]
        unfold kvF
        rw [List.map_append]
        rfl
    · rintro σ H2 ⟨sm, hd, x2, x3, x4, x5, rfl⟩
      rw [lx, List.take_length] at hd
      have lk : ((kvF fs).length : Int) = fs.length := by
        unfold kvF
        rw [List.length_map]
      refine ⟨_, rfl, d, _, rfl, hd, _, _, rfl, rfl, _, rfl, ?_⟩
      rw [lk, if_pos (decide_eq_true (show (1 : Int) ≤ (fs.length : Int) by omega))]
      refine ⟨_, _, rfl, rfl, true, qb (by omega), iteF ⟨_, rfl, ?_⟩⟩
      exact q d H2 (fun b o e => Off.same _ _ (sm b o e)) nd hd
end
end Cw
namespace Cw
open PySem PySem.Spec PyProof.Rows L2
def rLenK (K : PySem.W.Frag) : List V → Hp → VK → Prop := fun xs H Q => ∃ p ys, xs = [.ref p] ∧ (SqL K H p ys ∨ SqT K H p ys) ∧ Q (.int ys.length) H
theorem call_lenK {X : Cx} {K : PySem.W.Frag} (h : X.K = K) : CallR X (.builtin "len") (rLenK K) := by
  subst h
  exact call_len_seq
/-- what is new in H', ahead of which was H -/
def Nw (H H' : Hp) : Hp := fun b => match H b with
  | none => H' b
  | some _ => none
theorem Nw.at {H H' : Hp} {b : Addr} {o : HO} (n : H b = none) (e : H' b = some o) : Nw H H' b = some o := by
  unfold Nw
  rw [n]
  exact e
theorem Nw.get {H H' : Hp} {b : Addr} {o : HO} (e : Nw H H' b = some o) : H b = none ∧ H' b = some o := by
  unfold Nw at e
  cases h : H b with
  | none =>
    rw [h] at e
    exact ⟨rfl, e⟩
  | some x =>
    rw [h] at e
    cases e
theorem Nw.same {H H' : Hp} : Same (Nw H H') H' := fun b o e => (Nw.get e).2
theorem Nw.mono {H H1 H2 : Hp} (k : Same H1 H2) : Same (Nw H H1) (Nw H H2) := fun b o e => Nw.at (Nw.get e).1 (k _ _ (Nw.get e).2)
theorem Nw.base {H0 H1 H2 : Hp} (k : Same H0 H1) : Same (Nw H1 H2) (Nw H0 H2) := fun b o e => by
  obtain ⟨n, e⟩ := Nw.get e
  refine Nw.at ?_ e
  cases h : H0 b with
  | none => rfl
  | some x => rw [k _ _ h] at n; cases n
theorem none_of {H0 H1 : Hp} {b : Addr} (k : Same H0 H1) (n : H1 b = none) : H0 b = none := by
  cases h : H0 b with
  | none => rfl
  | some x => rw [k _ _ h] at n; cases n
/-- [(place, state) for place, state in hearers] -/
theorem hears_end {K : PySem.W.Frag} {x0 x1 x2 x3 x4 x5 x6 x7 x8 x9 x10 x11 x12 x13 : Option V} {H1 : Hp} {a D : Addr} {xs : List V} {hs : List (Int × Int)} {Qd : Hp → Prop} (nD : H1 D = none) (hl : TupY H1 a xs) (hx : DxAll H1 xs (hs.map dHear)) (hn : hs.length ≤ 10000000)
    (q : ∀ H' us, Same H1 H' → H' D = some (.lst us) → DxAll (Off D (Nw H1 H')) us (hs.map dHear) → Qd H') :
    LcD (Itt K a) (gTup K 2 (gCons (gName 12) (gCons (gName 13) gNil))) tYes (tTup (tCons (tVar 12) (tCons (tVar 13) tNil))) [12, 13] [x0, x1, x2, x3, x4, x5, x6, x7, x8, x9, x10, x11, x12, x13] H1 D Qd := by
  have lx : xs.length = hs.length := by
    have := dxall_len hx
    rw [List.length_map] at this
    exact this
  refine lc_it (walk_tup (K := K) (a := a) (xs := xs)) (fun i H2 => Same H1 (Off D H2) ∧ ∃ us, H2 D = some (.lst us) ∧ DxAll (Off D (Nw H1 H2)) us ((hs.take i).map dHear)) ⟨fun b o e => Off.at (ne_of_none e nD) (same_new nD _ _ e), [], upd_same, .nil⟩ (fun i H2 _ hh => (hl.same (fun b o e => Off.same _ _ (hh.1 b o e))).sq) ?_ ?_
  · rintro i x H2 H2' hi0 ⟨sm, us, hD, hus⟩ ⟨rfl, hxi⟩
    have hi : i < hs.length := by omega
    obtain ⟨y, e1, e2⟩ := dxall_get (i := i) hx (by rw [List.getElem?_map, List.getElem?_eq_getElem hi]; rfl)
    have exy : x = y := Option.some.inj (hxi.symm.trans e1)
    subst exy
    obtain ⟨t, rfl, ht⟩ := dx_hear e2
    refine ⟨t, [.int hs[i].1, .int hs[i].2], rfl, SqT.of (Off.same _ _ (sm _ _ ht)), rfl, .int hs[i].1, [.int hs[i].2], rfl, .int hs[i].2, [], rfl, rfl, by simp only [wipe, List.set], ?_⟩
    dsimp only [tYes]
    rw [if_pos rfl]
    refine ⟨_, rfl, _, rfl, by show 2 ≤ sizeLine; decide, fun p np => ?_⟩
    obtain ⟨s3, m3⟩ := fresh2 (o := .tup [.int hs[i].1, .int hs[i].2]) np
    have npD : p ≠ D := (ne_of_none hD np).symm
    have lus : us.length = i := by
      have := dxall_len hus
      rw [List.length_map, List.length_take] at this
      omega
    refine ⟨_, s3 _ _ hD, by rw [lus]; exact (by rw [sizeLine_eq]; omega), fun b o e => ?_, us ++ [.ref p], upd_same, ?_⟩
    · have nb : b ≠ D := ne_of_none e nD
      exact Off.at nb (by rw [upd_ne nb]; exact s3 _ _ (Off.same _ _ (sm b o e)))
    · rw [List.take_add_one, List.getElem?_eq_getElem hi, List.map_append]
      have n1 : H1 p = none := none_of (fun b o e => Off.same _ _ (sm b o e)) np
      refine dxall_snoc (Dx.sameAll (fun b o e => ?_) _ _ hus) (.tup (Off.at npD (Nw.at n1 (by rw [upd_ne npD]; exact m3))) (.cons (.int _) (.cons (.int _) .nil)))
      have nb := Off.ne e
      obtain ⟨e1, e2⟩ := Nw.get (Off.same _ _ e)
      exact Off.at nb (Nw.at e1 (by rw [upd_ne nb]; exact s3 _ _ e2))
  · rintro H2 ⟨sm, us, hD, hus⟩
    rw [lx, List.take_length] at hus
    exact q H2 us (fun b o e => Off.same _ _ (sm b o e)) hD hus
/-- [len(row[4]) for row in laid.values()] -/
theorem lens_end {K : PySem.W.Frag} {x0 x1 x2 x3 x4 x5 x6 x7 x8 x9 x10 x11 x12 x13 : Option V} {H1 : Hp} {d D : Addr} {o : Obj} {kvs : List (Key × V)} {ts : List Tie} {Qd : Hp → Prop} (nD : H1 D = none) (hl : H1 d = some (.frz o (.dK kvs))) (hx : DxAll H1 (kvs.map (·.2)) (ts.map dTie)) (hn : ts.length ≤ 1000)
    (q : ∀ H', Same H1 H' → H' D = some (.lst ((ts.map fun t => (t.hs.length : Int)).map V.int)) → Qd H') :
    LcD (Itd d o kvs) (gName 11) tYes (tCB (rLenK K) (tCons (tOp (rIxT K) (tVar 11) (tC (.int 4))) tNil)) [11] [x0, x1, x2, x3, x4, x5, x6, x7, x8, x9, x10, x11, x12, x13] H1 D Qd := by
  have lx : kvs.length = ts.length := by
    have := dxall_len hx
    rw [List.length_map, List.length_map] at this
    exact this
  refine lc_it (walk_values (d := d) (o := o) (kvs := kvs)) (fun i H2 => Same H1 (Off D H2) ∧ H2 D = some (.lst (((ts.take i).map fun t => (t.hs.length : Int)).map V.int))) ⟨fun b o e => Off.at (ne_of_none e nD) (same_new nD _ _ e), upd_same⟩ (fun i H2 _ hh => Off.same _ _ (hh.1 _ _ hl)) ?_ ?_
  · rintro i x H2 H2' hi0 ⟨sm, hD⟩ ⟨rfl, k, hxi⟩
    have hi : i < ts.length := by omega
    obtain ⟨y, e1, e2⟩ := dxall_get (i := i) hx (by rw [List.getElem?_map, List.getElem?_eq_getElem hi]; rfl)
    rw [List.getElem?_map, hxi] at e1
    have exy : x = y := Option.some.inj e1
    subst exy
    obtain ⟨t, vh, rfl, ht, hvh⟩ := dx_tie e2
    obtain ⟨b, ys, rfl, hb, hys⟩ := dx_hs hvh
    refine ⟨rfl, ?_⟩
    dsimp only [tYes]
    rw [if_pos rfl]
    refine ⟨_, rfl, t, _, 4, _, rfl, rfl, SqT.of (Off.same _ _ (sm _ _ ht)), atI_int (by decide) rfl, b, ys, rfl, .inr (hb.same (fun b o e => Off.same _ _ (sm b o e))).sq, _, hD, ?_, fun b o e => ?_, ?_⟩
    · rw [List.length_map, List.length_map, List.length_take]
      exact Nat.lt_of_le_of_lt (Nat.min_le_right _ _) (small1000 (by omega))
    · have nb : b ≠ D := ne_of_none e nD
      exact Off.at nb (by rw [upd_ne nb]; exact Off.same _ _ (sm b o e))
    · have ly : ys.length = ts[i].hs.length := by
        have := dxall_len hys
        rw [List.length_map] at this
        exact this
      rw [upd_same, List.take_add_one, List.getElem?_eq_getElem hi, List.map_append, List.map_append, ly]
      rfl
  · rintro H2 ⟨sm, hD⟩
    rw [lx, List.take_length] at hD
    exact q H2 (fun b o e => Off.same _ _ (sm b o e)) hD
theorem sum_told : ∀ ts : List Tie, (ts.map fun t => (t.hs.length : Int)).sum = (told ts : Int)
  | [] => rfl
  | t :: r => by
    rw [List.map_cons, List.sum_cons, sum_told r]
    show _ = ((t.hs.length + told r : Nat) : Int)
    omega
/-- ties by names -/
def kvT (ts : List Tie) (xs : List V) : List (Key × V) := (ts.zip xs).map fun p => (Sum.inr p.1.nm, p.2)
theorem kvT_snd : ∀ {ts : List Tie} {xs : List V}, ts.length = xs.length → (kvT ts xs).map (·.2) = xs
  | [], [], _ => rfl
  | [], _ :: _, h => by cases h
  | _ :: _, [], h => by cases h
  | t :: ts, x :: xs, h => by
    show x :: (kvT ts xs).map (·.2) = x :: xs
    rw [kvT_snd (by simpa using h)]
theorem kvT_snoc {t : Tie} {x : V} : ∀ {ts : List Tie} {xs : List V}, ts.length = xs.length → kvT (ts ++ [t]) (xs ++ [x]) = kvT ts xs ++ [(Sum.inr t.nm, x)]
  | [], [], _ => rfl
  | [], _ :: _, h => by cases h
  | _ :: _, [], h => by cases h
  | u :: ts, y :: xs, h => by
    show _ :: kvT (ts ++ [t]) (xs ++ [x]) = _ :: (kvT ts xs ++ _)
    rw [kvT_snoc (by simpa using h)]
theorem kvT_none {z : Str} : ∀ {ts : List Tie} {xs : List V}, z ∉ ts.map (·.nm) → valV (kvT ts xs) (Sum.inr z) = none
  | [], _, _ => rfl
  | _ :: _, [], _ => rfl
  | t :: ts, x :: xs, h => by
    have h1 : ¬ (z = t.nm) := fun e => h (by rw [e]; exact List.mem_cons_self)
    have h2 : z ∉ ts.map (·.nm) := fun e => h (List.mem_cons_of_mem _ e)
    show valV ((Sum.inr t.nm, x) :: kvT ts xs) (Sum.inr z) = none
    rw [valV_neg (fun e => h1 (Sum.inr.inj e).symm)]
    exact kvT_none h2
theorem kvT_get : ∀ {ts : List Tie} {xs : List V}, ts.length = xs.length → (ts.map (·.nm)).Nodup → ∀ {i : Nat} {t : Tie} {x : V}, ts[i]? = some t → xs[i]? = some x → valV (kvT ts xs) (Sum.inr t.nm) = some x
  | [], _, _, _, i, t, x, h, _ => by simp at h
  | _ :: _, [], h, _, _, _, _, _, _ => by cases h
  | u :: ts, y :: xs, hl, nd, i, t, x, h1, h2 => by
    show valV ((Sum.inr u.nm, y) :: kvT ts xs) (Sum.inr t.nm) = some x
    cases i with
    | zero =>
      cases h1
      cases h2
      exact valV_pos rfl
    | succ j =>
      have nd' := List.nodup_cons.mp nd
      have hm : t.nm ∈ ts.map (·.nm) := List.mem_map.mpr ⟨t, List.mem_of_getElem? h1, rfl⟩
      rw [valV_neg (fun e => nd'.1 (by show u.nm ∈ _; rw [show u.nm = t.nm from Sum.inr.inj e]; exact hm))]
      exact kvT_get (by simpa using hl) nd'.2 h1 h2
theorem kvT_len {ts : List Tie} {xs : List V} (h : ts.length = xs.length) : (kvT ts xs).length = ts.length := by
  unfold kvT
  rw [List.length_map, List.length_zip]
  omega
end Cw
namespace Cw
open PySem PySem.Spec PyProof.Rows L2
theorem SqT.same {K : PySem.W.Frag} {H H' : Hp} {a : Addr} {xs : List V} (h : SqT K H a xs) (k : Same H H') : SqT K H' a xs := by
  rcases h with (h | ⟨o, h⟩) | h
  · exact .inl (.inl (k _ _ h))
  · exact .inl (.inr ⟨o, k _ _ h⟩)
  · exact .inr h
theorem qf {p : Prop} [Decidable p] (h : ¬ p) : V.bl (decide p) = V.bl false := by rw [decide_eq_false h]
theorem told_mem : ∀ {ts : List Tie} {t : Tie}, t ∈ ts → t.hs.length ≤ told ts
  | u :: r, t, h => by
    show t.hs.length ≤ u.hs.length + told r
    rcases List.mem_cons.mp h with e | h
    · subst e
      omega
    · have := told_mem h
      omega
section
variable {P : Program} {w : World} {K : PySem.W.Frag} {mg : Str → Option Value} {base : Heap}
/-- the list of ties that is handed in, or the tuple of nothing -/
def TiesIn (K : PySem.W.Frag) (H : Hp) (v : V) (ts : List Tie) : Prop := Dx H v (.list (ts.map dTie)) ∨ ∃ a, v = .ref a ∧ SqT K H a [] ∧ ts = []
def spChT (K : PySem.W.Frag) : Sp := fun vs H Q _ => ∃ (v : V) (ds : Addr) (r : Bool) (fs : List (Str × Int)) (ts : List Tie), vs = [v, .ref ds, .bl r] ∧ TiesIn K H v ts ∧ H ds = some (.dK (kvF fs)) ∧ Specs r fs ts ∧
  ∀ (d : Addr) (xs : List V) (H' : Hp), Same H H' → H d = none → H' d = some (.dK (kvT ts xs)) → DxAll (Off d (Nw H H')) xs (ts.map dTie) → Q (.ref d) H'
theorem ok_cht {f : Addr} {fd : FuncData} (F : FnP K "checked_ties" "checked_ties" S_checked_ties f fd) (B : Blt mg) (mT : ∃ t, mg "MOST_TIES" = some (.int 12 t)) (mH : ∃ t, mg "MOST_HEARERS" = some (.int 12 t)) (N : Has P w K mg base "is_name" S_is_name 1 P_is_name spIsName)
    (T : Has P w K mg base "is_tuple_of" S_is_tuple_of 1 P_is_tuple_of (spTupOf K)) (E' : Has P w K mg base "are_ends" S_are_ends 1 P_are_ends spEnds) (L : Has P w K mg base "is_length" S_is_length 2 P_is_length spLength) (R : Has P w K mg base "are_hearers" S_are_hearers 3 P_are_hearers (spHearers K)) : FnOk P w K mg base CX0 4 f fd P_checked_ties (spChT K) := by
  obtain ⟨tT, mT⟩ := mT
  obtain ⟨tH, mH⟩ := mH
  obtain ⟨fN, fdN, FN, bN, GN, gN⟩ := N
  obtain ⟨fT, fdT, FT, bT, GT, gT⟩ := T
  obtain ⟨fE, fdE, FE, bE, GE, gE⟩ := E'
  obtain ⟨fL, fdL, FL, bL, GL, gL⟩ := L
  obtain ⟨fR, fdR, FR, bR, GR, gR⟩ := R
  have nd := sc_checked_ties.nd
  refine F.ok sc_checked_ties (fun vs H Q E h => ?_) (fun cdv A outer s H vs Q E hr h => ⟨_, PSs.nox (C8.pss_cut (ps_if (PW.pt (pw_and (pt_not (pt_val (pe_callB call_isi (by rfl) B.isinstance_ (by decide +kernel) (pa_cons (pv 0) (pa_cons (pe_bltn (v := .ty "list") (u := .type "list") (by rfl) B.list_ (by decide +kernel) rfl) pa_nil))))) (pw_and1 (pt_not (pt_val (pe_call GT (hr.mono (by decide)) rfl gT FT.kp bT .nil pass0 (pa_cons (pv 0) (pa_cons pe_int pa_nil)))))))) pss_no pss_nil)
     (pss_cons (ps_set (i := 3) nd rfl (.inl rfl) pe_dnewK)
     (C8.pss_cut (ps_for PassesOwn.never rfl (pi_enum2 (by rfl) B.enumerate_ (pa_cons (pv 0) pa_nil)) (pg_tup (by rfl) (pgs_cons (pg_name (i := 4) nd rfl (.inl rfl)) (pgs_cons (pg_name (i := 5) nd rfl (.inl rfl)) pgs_nil)))
        (pss_cons (ps_if (pt_not (pt_val (pe_call GT (hr.mono (by decide)) rfl gT FT.kp bT .nil pass0 (pa_cons (pv 5) (pa_cons pe_int pa_nil))))) pss_no pss_nil)
        (pss_cons (ps_asg (pv 5) (pg_tup (by rfl) (pgs_cons (pg_name (i := 6) nd rfl (.inl rfl)) (pgs_cons (pg_name (i := 7) nd rfl (.inl rfl)) (pgs_cons (pg_name (i := 8) nd rfl (.inl rfl)) (pgs_cons (pg_name (i := 9) nd rfl (.inl rfl)) (pgs_cons (pg_name (i := 10) nd rfl (.inl rfl)) pgs_nil)))))))
        (pss_cons (ps_if (pt_not (pt_val (pe_call GN (hr.mono (by decide)) rfl gN FN.kp bN .nil pass0 (pa_cons (pv 6) pa_nil)))) pss_no pss_nil)
        (pss_cons (ps_if (PW.pt (pw_or (pt_cmp (pc_din (hu_of hr) (pv 6) (pv 1))) (pw_or1 (pt_cmp (pc_din (hu_of hr) (pv 6) (pv 3)))))) pss_no pss_nil)
        (pss_cons (ps_if (pt_not (pt_val (pe_call GE (hr.mono (by decide)) rfl gE FE.kp bE .nil pass0 (pa_cons (pv 7) (pa_cons (pv 8) (pa_cons (pv 1) pa_nil)))))) pss_no pss_nil)
        (pss_cons (ps_if (pt_not (pt_val (pe_call GL (hr.mono (by decide)) rfl gL FL.kp bL .nil pass0 (pa_cons (pv 9) (pa_cons (pv 2) pa_nil))))) pss_no pss_nil)
        (pss_cons (ps_if (pt_not (pt_val (pe_call GR hr rfl gR FR.kp bR .nil pass0 (pa_cons (pv 10) (pa_cons (pv 9) pa_nil))))) pss_no pss_nil)
        (pss_one (ps_dput (hu_of hr) (pv 3) (pv 6) (pe_tup (pa_cons (pv 6) (pa_cons (pv 7) (pa_cons (pv 8) (pa_cons (pv 9) (pa_cons (pe_callTy call_tupleZ (by rfl) B.tuple_ (by decide +kernel) (pa_cons (pe_lc (own := [("place", 12), ("state", 13)]) (g := gTup K 2 (gCons (gName 12) (gCons (gName 13) gNil))) rfl nd (pi_tup (pv 10))
            (blkOk_by (own := [("place", 12), ("state", 13)]) (N := N_checked_ties) (sc := defScope S_checked_ties) (by decide +kernel))
            (fun _ _ _ _ _ => pg_tup rfl (pgs_cons (pg_name (i := 12) nd rfl (.inl rfl)) (pgs_cons (pg_name (i := 13) nd rfl (.inl rfl)) pgs_nil)))
            (fun _ _ _ _ _ => pts_nil) (fun _ _ _ _ _ => pe_tup (pa_cons (pv 12) (pa_cons (pv 13) pa_nil)))) pa_nil)) pa_nil)))))) rfl))))))))))
     (pss_cons (ps_if (pt_cmpR op_gt (pe_callB call_lenD (by rfl) B.len_ PySem.boot_len (pa_cons (pv 3) pa_nil)) (pe_glob (v := .int 12) rfl mT ⟨_, rfl⟩) (nomark _)) pss_no pss_nil)
     (pss_cons (ps_if (pt_cmpR op_gt (pe_callB (cr_sum rfl) (by rfl) B.sum_ (by decide +kernel) (pa_cons (pe_lock (pe_lc (own := [("row", 11)]) (g := gName 11) rfl nd (pi_values (pv 3))
            (blkOk_by (own := [("row", 11)]) (N := N_checked_ties) (sc := defScope S_checked_ties) (by decide +kernel)) (fun _ _ _ _ _ => pg_name (i := 11) nd rfl (Or.inl rfl)) (fun _ _ _ _ _ => pts_nil)
            (fun _ _ _ _ _ => pe_callB (call_lenK (K := K) rfl) (by rfl) B.len_ PySem.boot_len (pa_cons (pe_ix (ix_tupK (K := K) rfl) (pv 11) pe_int (fun _ _ => rfl)) pa_nil)))) pa_nil)) (pe_glob (v := .int 12) rfl mH ⟨_, rfl⟩) (nomark _)) pss_no pss_nil)
     (pss_one (ps_ret (pv 3)))))))), ?_⟩)
  · obtain ⟨v, ds, r, fs, ts, rfl, _⟩ := h
    rfl
  · obtain ⟨v, ds, r, fs, ts, rfl, hv, hds, SP, q⟩ := h
    rw [show L2.start N_checked_ties [v, V.ref ds, V.bl r] = [some v, some (.ref ds), some (.bl r), none, none, none, none, none, none, none, none, none, none, none] from rfl]
    refine ⟨fun σ H' => σ = [some v, some (.ref ds), some (.bl r), none, none, none, none, none, none, none, none, none, none, none] ∧ H' = H, ?_, ?_⟩
    · rcases hv with hv | ⟨a, rfl, ha, rfl⟩
      · obtain ⟨a, xs, rfl, ha, hx⟩ := dx_list hv
        exact ⟨_, rfl, _, _, _, _, _, rfl, .ty _, ty_lst ha, kit_ty k_lst_lst, true, rfl, iteF ⟨rfl, rfl⟩⟩
      · exact ⟨_, rfl, _, _, _, _, _, rfl, .ty _, ty_tup ha, kit_ty k_tup_lst, false, rfl, iteT ⟨_, rfl, _, 0, rfl, .inl ⟨a, _, rfl, ha, true, rfl, iteF ⟨rfl, rfl⟩⟩⟩⟩
    rintro σ H' ⟨rfl, rfl⟩
    intro d ndd
    refine ⟨fun σ H2 => ∃ xs x4 x5 x6 x7 x8 x9 x10 x11 x12 x13, σ = [some v, some (.ref ds), some (.bl r), some (.ref d), x4, x5, x6, x7, x8, x9, x10, x11, x12, x13] ∧ Same H' (Off d H2) ∧ H2 d = some (.dK (kvT ts xs)) ∧ DxAll (Off d (Nw H' H2)) xs (ts.map dTie), ?_, ?_⟩
    · rcases hv with hv | ⟨a, rfl, ha, rfl⟩
      · obtain ⟨a, ys, rfl, ha, hx⟩ := dx_list hv
        have lx : ys.length = ts.length := by
          have := dxall_len hx
          rw [List.length_map] at this
          exact this
        refine ⟨_, rfl, a, rfl, .inl ⟨ys, SqL.of (same_new ndd _ _ ha), ?_⟩⟩
        refine for_it (walk_enum (xs := ys)) (fun i σ H2 => ∃ xs x4 x5 x6 x7 x8 x9 x10 x11 x12 x13, σ = [some (V.ref a), some (.ref ds), some (.bl r), some (.ref d), x4, x5, x6, x7, x8, x9, x10, x11, x12, x13] ∧ Same H' (Off d H2) ∧ H2 d = some (.dK (kvT (ts.take i) xs)) ∧ DxAll (Off d (Nw H' H2)) xs ((ts.take i).map dTie))
          ⟨[], none, none, none, none, none, none, none, none, none, none, rfl, fun b o e => Off.at (ne_of_none e ndd) (same_new ndd _ _ e), upd_same, .nil⟩ (fun i σ H2 _ h => by obtain ⟨xs, x4, x5, x6, x7, x8, x9, x10, x11, x12, x13, _, sm, _⟩ := h; exact SqL.of (Off.same _ _ (sm _ _ ha))) ?_ ?_
        · rintro i x σ H2 H3 hi ⟨xs, x4, x5, x6, x7, x8, x9, x10, x11, x12, x13, rfl, sm, hd, hxs⟩ ⟨tt, u, y, rfl, nt, rfl, hu1, hxi⟩
          cases hu1
          have hi2 : i < ts.length := by omega
          obtain ⟨y', e1, e2⟩ := dxall_get (i := i) hx (by rw [List.getElem?_map, List.getElem?_eq_getElem hi2]; rfl)
          have exy : y = y' := Option.some.inj (hxi.symm.trans e1)
          subst exy
          obtain ⟨t, vh, rfl, ht, hvh⟩ := dx_tie e2
          obtain ⟨s3, m3⟩ := fresh2 (o := .tup [V.int (i : Int), V.ref t]) nt
          have ht3 := s3 _ _ (Off.same _ _ (sm _ _ ht))
          have hd3 := s3 _ _ hd
          have hds3 := s3 _ _ (Off.same _ _ (sm _ _ hds))
          have hf := List.getElem_mem hi2
          have G := SP.ti _ hf
          refine ⟨tt, _, rfl, SqT.of m3, rfl, _, _, rfl, _, _, rfl, rfl, ?_⟩
          refine ⟨_, rfl, _, 5, rfl, .inl ⟨t, _, rfl, SqT.of ht3, true, rfl, iteF ?_⟩⟩
          refine ⟨_, rfl, t, [.str ts[i].nm, .str ts[i].one, .str ts[i].other, .int ts[i].len, vh], rfl, SqT.of ht3, rfl, .str ts[i].nm, [.str ts[i].one, .str ts[i].other, .int ts[i].len, vh], rfl, .str ts[i].one, [.str ts[i].other, .int ts[i].len, vh], rfl, .str ts[i].other, [.int ts[i].len, vh], rfl, .int ts[i].len, [vh], rfl, vh, [], rfl, rfl, ?_⟩
          simp only [List.set]
          refine ⟨_, rfl, _, rfl, G.nm, fun H4 s4 => ⟨true, rfl, iteF ?_⟩⟩
          have nd2 : (fs.map (·.1) ++ ts.map (·.nm)).Nodup := SP.nd
          have tn : ts[i].nm ∈ ts.map (·.nm) := List.mem_map.mpr ⟨_, hf, rfl⟩
          have f1 : ts[i].nm ∉ fs.map (·.1) := fun z => (List.nodup_append.mp nd2).2.2 _ z _ tn rfl
          have f2 : ts[i].nm ∉ (ts.take i).map (·.nm) := by
            intro z
            have e : ts.map (·.nm) = (ts.take i).map (·.nm) ++ (ts.drop i).map (·.nm) := by rw [← List.map_append, List.take_append_drop]
            have nd3 := (List.nodup_append.mp nd2).2.1
            rw [e] at nd3
            refine (List.nodup_append.mp nd3).2.2 _ z ts[i].nm ?_ rfl
            rw [List.drop_eq_getElem_cons hi2]
            exact List.mem_cons_self
          refine ⟨_, rfl, _, rfl, ds, _, rfl, DGet.k (k := Sum.inr ts[i].nm) (s4 _ _ hds3), _, rfl, ?_⟩
          rw [valF_none f1]
          refine iteF ⟨_, rfl, _, rfl, d, _, rfl, DGet.k (k := Sum.inr ts[i].nm) (s4 _ _ hd3), _, rfl, ?_⟩
          rw [kvT_none f2]
          refine iteF ?_
          refine ⟨_, rfl, _, rfl, _, rfl, ds, _, _, fs, rfl, s4 _ _ hds3, G.h1, G.h2, G.ne, true, rfl, iteF ?_⟩
          refine ⟨_, rfl, _, rfl, _, _, rfl, G.ln, true, rfl, iteF ?_⟩
          have s04 : Same H' H4 := fun b o e => s4 _ _ (s3 _ _ (Off.same _ _ (sm b o e)))
          have hvh4 := Dx.same s04 _ _ hvh
          refine ⟨_, rfl, _, rfl, _, _, _, rfl, hvh4, G.hr, true, rfl, iteF ?_⟩
          obtain ⟨ah, zs, rfl, hah, hzs⟩ := dx_hs hvh4
          have lh : ts[i].hs.length ≤ 1000 := by
            have h1 := SP.h12
            have h2 : ts[i].hs.length ≤ told ts := told_mem hf
            omega
          refine ⟨_, rfl, _, rfl, _, rfl, _, rfl, _, rfl, ah, rfl, ⟨_, hah.sq⟩, fun D nD => ?_⟩
          refine hears_end nD hah hzs (Nat.le_trans lh (by decide)) fun H5 us s5 hD hus => ?_
          refine ⟨D, us, rfl, SqL.of hD, fun l ob nl dn => ?_⟩
          obtain ⟨s6, m6⟩ := fresh2 (o := .frz ob (.tup us)) nl
          refine ⟨by show 5 ≤ sizeLine; decide, fun p np => ?_⟩
          obtain ⟨s7, m7⟩ := fresh2 (o := .tup [.str ts[i].nm, .str ts[i].one, .str ts[i].other, .int ts[i].len, .ref l]) np
          have s37 := (s5.trans s6).trans s7
          have hd7 := s37 _ _ (s4 _ _ hd3)
          have dD : D ≠ d := (ne_of_none (s4 _ _ hd3) nD).symm
          have dl : l ≠ d := (ne_of_none (s5 _ _ (s4 _ _ hd3)) nl).symm
          have dp : p ≠ d := (ne_of_none (s6 _ _ (s5 _ _ (s4 _ _ hd3))) np).symm
          have lus : us.length = ts[i].hs.length := by
            have := dxall_len hus
            rw [List.length_map] at this
            exact this
          have lxs : (ts.take i).length = xs.length := by
            have := dxall_len hxs
            rw [List.length_map] at this
            exact this.symm
          have up : Same (Off d (Nw H' H2)) (Off d (Nw H' (upd (upd (upd H5 l (.frz ob (.tup us))) p (.tup [.str ts[i].nm, .str ts[i].one, .str ts[i].other, .int ts[i].len, .ref l])) d (.dK (kvT (ts.take i) xs ++ [(Sum.inr ts[i].nm, .ref p)]))))) := fun b o e => by
            have nb := Off.ne e
            obtain ⟨e1, e2⟩ := Nw.get (Off.same _ _ e)
            exact Off.at nb (Nw.at e1 (by rw [upd_ne nb]; exact s37 _ _ (s4 _ _ (s3 _ _ e2))))
          have hus2 : DxAll (Off d (Nw H' (upd (upd (upd H5 l (.frz ob (.tup us))) p (.tup [.str ts[i].nm, .str ts[i].one, .str ts[i].other, .int ts[i].len, .ref l])) d (.dK (kvT (ts.take i) xs ++ [(Sum.inr ts[i].nm, .ref p)]))))) us (ts[i].hs.map dHear) := by
            refine Dx.tkAll (fun b zz tz e => ?_) _ _ (noL_hs _) hus
            obtain ⟨e0, e'⟩ := Nw.get (Off.same _ _ e)
            have nb : b ≠ d := fun z => by
              subst z
              rw [s5 _ _ (s4 _ _ hd3)] at e'
              cases e'
              exact tz
            exact Off.at nb (Nw.at (none_of s04 e0) (by rw [upd_ne nb]; exact s7 _ _ (s6 _ _ e')))
          refine ⟨_, rfl, _, rfl, d, _, rfl, DPut.k (k := Sum.inr ts[i].nm) hd7 ?_, xs ++ [.ref p], some (.int (i : Int)), some (.ref t), some (.str ts[i].nm), some (.str ts[i].one), some (.str ts[i].other), some (.int ts[i].len), some (.ref ah), x11, x12, x13, rfl, fun b o e => ?_, ?_, ?_⟩
          · rw [kvT_len lxs, List.length_take]
            have := SP.t12
            exact small1000 (by omega)
          · have nb : b ≠ d := ne_of_none e ndd
            exact Off.at nb (by rw [upd_ne nb]; exact s37 _ _ (s04 b o e))
          · rw [upd_same, put_new (kvT_none f2), List.take_add_one, List.getElem?_eq_getElem hi2]
            show _ = some (HO.dK (kvT (ts.take i ++ [ts[i]]) (xs ++ [V.ref p])))
            rw [kvT_snoc lxs]
          · rw [put_new (kvT_none f2), List.take_add_one, List.getElem?_eq_getElem hi2, List.map_append]
            have n1 : H' l = none := none_of (s04.trans s5) nl
            have n2 : H' p = none := none_of (s04.trans (s5.trans s6)) np
            refine dxall_snoc (Dx.sameAll up _ _ hxs) (.tup (Off.at dp (Nw.at n2 (by rw [upd_ne dp]; exact m7))) (.cons (.str _) (.cons (.str _) (.cons (.str _) (.cons (.int _) (.cons (.tupz (Off.at dl (Nw.at n1 (by rw [upd_ne dl]; exact s7 _ _ m6))) dn hus2 (all_hears _)) .nil))))))
        · rintro σ H2 ⟨xs, x4, x5, x6, x7, x8, x9, x10, x11, x12, x13, rfl, sm, hd, hxs⟩
          rw [lx, List.take_length] at hd hxs
          exact ⟨xs, x4, x5, x6, x7, x8, x9, x10, x11, x12, x13, rfl, sm, hd, hxs⟩
      · refine ⟨_, rfl, a, rfl, .inr ⟨?_, ?_⟩⟩
        · exact SqT.same ha (same_new ndd)
        · refine for_it walk_none (fun i σ H2 => σ = [some (V.ref a), some (.ref ds), some (.bl r), some (.ref d), none, none, none, none, none, none, none, none, none, none] ∧ H2 = upd H' d (.dK [])) ⟨rfl, rfl⟩ (fun i σ H2 _ h => ?_) (fun i x σ H2 H3 hi => absurd hi (Nat.not_lt_zero _)) ?_
          · rw [h.2]
            exact SqT.same ha (same_new ndd)
          · rintro σ H2 ⟨rfl, rfl⟩
            exact ⟨[], none, none, none, none, none, none, none, none, none, none, rfl, fun b o e => Off.at (ne_of_none e ndd) (same_new ndd _ _ e), upd_same, .nil⟩
    · rintro σ H2 ⟨xs, x4, x5, x6, x7, x8, x9, x10, x11, x12, x13, rfl, sm, hd, hxs⟩
      have lxs : ts.length = xs.length := by
        have := dxall_len hxs
        rw [List.length_map] at this
        exact this.symm
      have s02 : Same H' H2 := fun b o e => Off.same _ _ (sm b o e)
      refine ⟨_, rfl, d, _, rfl, hd, _, _, rfl, rfl, false, qf (by rw [kvT_len lxs]; have := SP.t12; omega), iteF ?_⟩
      refine ⟨d, _, hd, trivial, fun od => ?_⟩
      have lk : Same (Off d (Nw H' H2)) (upd H2 d (.frz od (.dK (kvT ts xs)))) := fun b o e => by rw [upd_ne (Off.ne e)]; exact Nw.same _ _ (Off.same _ _ e)
      refine ⟨_, rfl, d, od, _, rfl, upd_same, fun D nD => ?_⟩
      refine lens_end nD upd_same (by rw [kvT_snd lxs]; exact Dx.sameAll lk _ _ hxs) (by have := SP.t12; omega) fun H3 s3 hD => ?_
      have hd3 := s3 _ _ (upd_same (H := H2) (a := d))
      have nDd : D ≠ d := fun z => by
        subst z
        rw [upd_same] at nD
        cases nD
      refine ⟨hd3, D, _, rfl, SqL.of (by rw [upd_ne nDd]; exact hD), ?_⟩
      rw [sum_told]
      refine ⟨_, _, rfl, rfl, false, qf (by have := SP.h12; omega), iteF ?_⟩
      have s23 : Same H2 (upd H3 d (.dK (kvT ts xs))) := fun b o e => by
        by_cases hb : b = d
        · subst hb
          rw [hd] at e
          cases e
          exact upd_same
        · rw [upd_ne hb]
          exact s3 _ _ (by rw [upd_ne hb]; exact e)
      exact ⟨_, rfl, q d xs _ (s02.trans s23) ndd upd_same (Dx.sameAll (Off.mono (Nw.mono s23)) _ _ hxs)⟩
end
end Cw
namespace Cw
open PySem PySem.Spec PyProof.Rows L2
abbrev webFs (r : Bool) (ds dl pr tr : Addr) : List (Str × V) := [("in_rounds", .bl r), ("states", .ref ds), ("laid", .ref dl), ("person_rows", .ref pr), ("tie_rows", .ref tr)]
/-- a web as it stands in the heap -/
def WebAt (C : Addr) (H : Hp) (a : Addr) (r : Bool) (fs : List (Str × Int)) (ts : List Tie) : Prop := ∃ (dx ds dl pr tr : Addr) (xs : List V), H a = some (.ins C dx (webFs r ds dl pr tr)) ∧ H ds = some (.dK (kvF fs)) ∧ H dl = some (.dK (kvT ts xs)) ∧ DxAll H xs (ts.map dTie) ∧ Dx H (.ref pr) (dFolk fs) ∧ Dx H (.ref tr) (.list (ts.map dTie))
theorem WebAt.same {C : Addr} {H H' : Hp} {a : Addr} {r : Bool} {fs : List (Str × Int)} {ts : List Tie} (h : WebAt C H a r fs ts) (k : Same H H') : WebAt C H' a r fs ts := by
  obtain ⟨dx, ds, dl, pr, tr, xs, h1, h2, h3, h4, h5, h6⟩ := h
  exact ⟨dx, ds, dl, pr, tr, xs, k _ _ h1, k _ _ h2, k _ _ h3, Dx.sameAll k _ _ h4, Dx.same k _ _ h5, Dx.same k _ _ h6⟩
/-- what is known of the class -/
structure WebCls (K : PySem.W.Frag) (C : Addr) : Prop where
  cl : Cls K C
  n1 : NoAttr K C "in_rounds"
  n2 : NoAttr K C "states"
  n3 : NoAttr K C "laid"
  n4 : NoAttr K C "person_rows"
  n5 : NoAttr K C "tie_rows"
theorem paired_folk {H : Hp} : ∀ {as : List Addr} {fs : List (Str × Int)}, Paired (fun (t : Addr) (q : Key × V) => H t = some (.tup [kV q.1, q.2])) as (kvF fs) → Paired (PerAt H) as fs
  | [], [], .nil => .nil
  | _ :: _, _ :: _, .cons h t => .cons h (paired_folk t)
theorem putF_ne {f g : Str} {v x : V} {r : List (Str × V)} (h : g ≠ f) : putF f v ((g, x) :: r) = (g, x) :: putF f v r := by
  show (if g = f then _ else _) = _
  rw [if_neg h]
abbrev fs1 (r : V) : List (Str × V) := [("in_rounds", r)]
abbrev fs2 (r v : V) : List (Str × V) := [("in_rounds", r), ("states", v)]
abbrev fs3 (r v u : V) : List (Str × V) := [("in_rounds", r), ("states", v), ("laid", u)]
abbrev fs4 (r v u x : V) : List (Str × V) := [("in_rounds", r), ("states", v), ("laid", u), ("person_rows", x)]
abbrev fs5 (r v u x y : V) : List (Str × V) := [("in_rounds", r), ("states", v), ("laid", u), ("person_rows", x), ("tie_rows", y)]
theorem putF_1 (r : V) : putF "in_rounds" r [] = fs1 r := rfl
theorem putF_2 {r : V} (v : V) : putF "states" v (fs1 r) = fs2 r v := by rw [putF_ne (by decide)]; rfl
theorem putF_3 {r v : V} (u : V) : putF "laid" u (fs2 r v) = fs3 r v u := by rw [putF_ne (by decide), putF_ne (by decide)]; rfl
theorem putF_4 {r v u : V} (x : V) : putF "person_rows" x (fs3 r v u) = fs4 r v u x := by rw [putF_ne (by decide), putF_ne (by decide), putF_ne (by decide)]; rfl
theorem putF_5 {r v u x : V} (y : V) : putF "tie_rows" y (fs4 r v u x) = fs5 r v u x y := by rw [putF_ne (by decide), putF_ne (by decide), putF_ne (by decide), putF_ne (by decide)]; rfl
theorem off_upd {a : Addr} {H : Hp} {o : HO} : Same (Off a H) (upd H a o) := fun b x e => by rw [upd_ne (Off.ne e)]; exact Off.same _ _ e
theorem off_upd2 {a : Addr} {H : Hp} {o : HO} : Same (Off a H) (Off a (upd H a o)) := fun b x e => Off.at (Off.ne e) (off_upd _ _ e)
theorem TiesIn.same {K : PySem.W.Frag} {H H' : Hp} {v : V} {ts : List Tie} (h : TiesIn K H v ts) (k : Same H H') : TiesIn K H' v ts := by
  rcases h with h | ⟨a, e1, e2, e3⟩
  · exact .inl (Dx.same k _ _ h)
  · exact .inr ⟨a, e1, SqT.same e2 k, e3⟩
theorem noL_ties : ∀ ts : List Tie, noLs (ts.map dTie) = true
  | [] => rfl
  | t :: r => by
    show (noL (dTie t) && noLs (r.map dTie)) = true
    rw [noL_tie, noL_ties r]
    rfl
section
variable {P : Program} {w : World} {K : PySem.W.Frag} {mg : Str → Option Value} {base : Heap}
def spInit (K : PySem.W.Frag) (C : Addr) : Sp := fun vs H Q _ => ∃ (a dx : Addr) (v u : V) (r : Bool) (fs : List (Str × Int)) (ts : List Tie), vs = [.ref a, v, u, .bl r] ∧ H a = some (.ins C dx []) ∧ Dx (Off a H) v (dFolk fs) ∧ TiesIn K (Off a H) u ts ∧ Specs r fs ts ∧ ∀ H', Same (Off a H) (Off a H') → WebAt C (Nw (Off a H) H') a r fs ts → Q .non H'
abbrev FnI (K : PySem.W.Frag) (f : Addr) (fd : FuncData) (e : Addr) : Prop := FunD K "__init__" "Web.__init__" (defArgs S_Web_init) (defBody S_Web_init) (defScope S_Web_init) [.ref e] [("rounds", .bl false)] f fd
theorem ok_init {f e : Addr} {fd : FuncData} {C : Addr} (F : FnI K f fd e) (WC : WebCls K C) (B : Blt mg) (p' : Has P w K mg base "checked_persons" S_checked_persons 3 P_checked_persons spChP) (T : Has P w K mg base "checked_ties" S_checked_ties 4 P_checked_ties (spChT K)) : FnOk P w K mg base CX0 5 f fd P_Web_init (spInit K C) := by
  obtain ⟨fP, fdP, FP, bP, GP, gP⟩ := p'
  obtain ⟨fT, fdT, FT, bT, GT, gT⟩ := T
  refine F.ok sc_Web_init (fun vs H Q E h => ?_) (fun cdv A outer s H vs Q E hr h => ⟨_, PSs.nox (pss_cons (ps_fld (pv 0) (pe_callTy call_bool1 (by rfl) B.bool_ (by decide +kernel) (pa_cons (pv 3) pa_nil)) rfl)
     (pss_cons (ps_fld (pv 0) (pe_call GP (hr.mono (by decide)) rfl gP FP.kp bP .nil pass0 (pa_cons (pv 1) pa_nil)) rfl)
     (pss_cons (ps_fld (pv 0) (pe_call GT hr rfl gT FT.kp bT .nil pass0 (pa_cons (pv 2) (pa_cons (pe_fld (pv 0) rfl) (pa_cons (pe_fld (pv 0) rfl) pa_nil)))) rfl)
     (pss_cons (ps_fld (pv 0) (LiI.pe_listItems rfl (pe_fld (pv 0) rfl) (by rfl) B.list_ (by decide +kernel)) rfl)
     (pss_one (ps_fld (pv 0) (pe_listVals rfl (pe_fld (pv 0) rfl) (by rfl) B.list_ (by decide +kernel)) rfl)))))), ?_⟩)
  · obtain ⟨a, dx, v, u, r, fs, ts, rfl, _⟩ := h
    rfl
  · obtain ⟨a, dx, v, u, r, fs, ts, rfl, ha, hv, hu, SP, q⟩ := h
    rw [show L2.start N_Web_init [V.ref a, v, u, V.bl r] = [some (V.ref a), some v, some u, some (.bl r)] from rfl]
    refine ⟨_, rfl, .inr ⟨r, rfl, ?_⟩⟩
    refine ⟨_, rfl, a, C, dx, _, rfl, ha, WC.cl, WC.n1, by show 0 < 1000; decide, ?_⟩
    rw [putF_1]
    have k1 : Same (Off a H) (Off a (upd H a (HO.ins C dx (fs1 (.bl r))))) := off_upd2
    refine ⟨_, rfl, _, fs, rfl, Dx.same off_upd _ _ hv, SP.fo, SP.f1, SP.f8, fun ds H2 s2 n2 hds => ?_⟩
    have ha2 := s2 _ _ (upd_same (H := H) (a := a))
    have k2 := k1.trans (Off.mono s2)
    have nsa : ds ≠ a := (ne_of_none (upd_same (H := H) (a := a)) n2).symm
    refine ⟨_, rfl, a, C, dx, _, rfl, ha2, WC.cl, WC.n2, by show 1 < 1000; decide, ?_⟩
    rw [putF_2]
    have k3 : Same (Off a H) (Off a (upd H2 a (HO.ins C dx (fs2 (.bl r) (.ref ds))))) := k2.trans off_upd2
    have hds3 : (upd H2 a (HO.ins C dx (fs2 (.bl r) (.ref ds)))) ds = some (.dK (kvF fs)) := by rw [upd_ne nsa]; exact hds
    refine ⟨_, rfl, _, rfl, a, C, dx, _, _, rfl, upd_same, WC.cl, WC.n2, rfl, ?_⟩
    refine ⟨_, rfl, a, C, dx, _, _, rfl, upd_same, WC.cl, WC.n1, rfl, ?_⟩
    refine ⟨u, ds, r, fs, ts, rfl, TiesIn.same hu (k3.trans Off.same), hds3, SP, fun dl xs H4 s4 n4 hdl hxs => ?_⟩
    have ha4 := s4 _ _ (upd_same (H := H2) (a := a))
    have k4 := k3.trans (Off.mono s4)
    have nla : dl ≠ a := (ne_of_none (upd_same (H := H2) (a := a)) n4).symm
    have hds4 := s4 _ _ hds3
    have lxs : ts.length = xs.length := by
      have := dxall_len hxs
      rw [List.length_map] at this
      exact this.symm
    refine ⟨_, rfl, a, C, dx, _, rfl, ha4, WC.cl, WC.n3, by show 2 < 1000; decide, ?_⟩
    rw [putF_3]
    have k5 : Same (Off a H) (Off a (upd H4 a (HO.ins C dx (fs3 (.bl r) (.ref ds) (.ref dl))))) := k4.trans off_upd2
    have hds5 : (upd H4 a (HO.ins C dx (fs3 (.bl r) (.ref ds) (.ref dl)))) ds = some (.dK (kvF fs)) := by rw [upd_ne nsa]; exact hds4
    have hdl5 : (upd H4 a (HO.ins C dx (fs3 (.bl r) (.ref ds) (.ref dl)))) dl = some (.dK (kvT ts xs)) := by rw [upd_ne nla]; exact hdl
    refine ⟨_, rfl, a, C, dx, _, _, rfl, upd_same, WC.cl, WC.n2, rfl, ds, _, rfl, hds5, fun H6 pr as s6 n6 n6t _ hpr hpa => ?_⟩
    have ha6 := s6 _ _ (upd_same (H := H4) (a := a))
    have k6 := k5.trans (Off.mono s6)
    have npa : pr ≠ a := (ne_of_none (upd_same (H := H4) (a := a)) n6).symm
    refine ⟨_, rfl, a, C, dx, _, rfl, ha6, WC.cl, WC.n4, by show 3 < 1000; decide, ?_⟩
    rw [putF_4]
    have hdl7 : (upd H6 a (HO.ins C dx (fs4 (.bl r) (.ref ds) (.ref dl) (.ref pr)))) dl = some (.dK (kvT ts xs)) := by rw [upd_ne nla]; exact s6 _ _ hdl5
    refine ⟨_, rfl, a, C, dx, _, _, rfl, upd_same, WC.cl, WC.n3, rfl, dl, _, rfl, hdl7, fun tr ntr => ?_⟩
    rw [kvT_snd lxs]
    obtain ⟨s8, m8⟩ := fresh2 (o := .lst xs) ntr
    have ha8 := s8 _ _ (upd_same (H := H6) (a := a))
    have nta : tr ≠ a := (ne_of_none (upd_same (H := H6) (a := a)) ntr).symm
    refine ⟨_, rfl, a, C, dx, _, rfl, ha8, WC.cl, WC.n5, by show 4 < 1000; decide, ?_⟩
    rw [putF_5]
    have k8 := (k6.trans off_upd2).trans ((Off.mono s8).trans (off_upd2 (o := HO.ins C dx (fs5 (.bl r) (.ref ds) (.ref dl) (.ref pr) (.ref tr)))))
    have z6 : Same (Off a H6) (Off a (upd (upd (upd H6 a (HO.ins C dx (fs4 (.bl r) (.ref ds) (.ref dl) (.ref pr)))) tr (.lst xs)) a (HO.ins C dx (fs5 (.bl r) (.ref ds) (.ref dl) (.ref pr) (.ref tr))))) := off_upd2.trans ((Off.mono s8).trans off_upd2)
    have z4 := (off_upd2 (a := a) (H := H4) (o := HO.ins C dx (fs3 (.bl r) (.ref ds) (.ref dl)))).trans ((Off.mono s6).trans z6)
    have y6 : Same (Off a H6) _ := z6.trans Off.same
    have y4 : Same (Off a H4) _ := z4.trans Off.same
    have a0 : Off a H a = none := by
      unfold Off
      rw [if_pos rfl]
    have b3 : Same (Off a H) (upd H2 a (HO.ins C dx (fs2 (.bl r) (.ref ds)))) := k3.trans Off.same
    have b5 : Same (Off a H) (upd H4 a (HO.ins C dx (fs3 (.bl r) (.ref ds) (.ref dl)))) := k5.trans Off.same
    have b7 : Same (Off a H) (upd H6 a (HO.ins C dx (fs4 (.bl r) (.ref ds) (.ref dl) (.ref pr)))) := (k6.trans off_upd2).trans Off.same
    have cx : Same (Off dl (Nw (upd H2 a (HO.ins C dx (fs2 (.bl r) (.ref ds)))) H4)) (Nw (Off a H) (upd (upd (upd H6 a (HO.ins C dx (fs4 (.bl r) (.ref ds) (.ref dl) (.ref pr)))) tr (.lst xs)) a (HO.ins C dx (fs5 (.bl r) (.ref ds) (.ref dl) (.ref pr) (.ref tr))))) := fun b o e => by
      obtain ⟨e1, e2⟩ := Nw.get (Off.same _ _ e)
      have nb : b ≠ a := (ne_of_none (upd_same (H := H2) (a := a)) e1).symm
      exact Nw.at (none_of b3 e1) (y4 _ _ (Off.at nb e2))
    refine q _ k8 ⟨dx, ds, dl, pr, tr, xs, Nw.at a0 upd_same, Nw.at (none_of off_upd n2) (y4 _ _ (Off.at nsa hds4)), Nw.at (none_of b3 n4) (y4 _ _ (Off.at nla hdl)), Dx.sameAll cx _ _ hxs, ?_, .lst (Nw.at (none_of b7 ntr) (by rw [upd_ne nta]; exact m8)) (Dx.sameAll cx _ _ hxs)⟩
    refine .lst (Nw.at (none_of b5 n6) (y6 _ _ (Off.at npa hpr))) ?_
    have pf := paired_folk hpa
    refine dx_folk (paired_imp pf fun t f ht e => Nw.at (none_of b5 (n6t t ht)) (y6 _ _ (Off.at (fun z => ?_) e)))
    subst z
    have e' := ha6.symm.trans e
    cases e'
end
end Cw
namespace Cw
open PySem PySem.Spec PyProof.Rows L2
/-- len(o), o of a class with an own __len__ -/
def rLenOwn (C : Addr) (sp : Sp) : List V → Hp → VK → Prop := fun xs H Q => ∃ a dx fs, xs = [.ref a] ∧ H a = some (.ins C dx fs) ∧ sp [.ref a] H (fun v H' => ∃ n : Nat, v = .int n ∧ n ≤ 1000 ∧ Q (.int n) H') E0
theorem call_lenOwn {X : Cx} {C f : Addr} {fd : FuncData} {ps : List Str} {sp : Sp} {k : Nat} (F : FnOk X.prog X.w X.K X.mg X.base CX0 k f fd ps sp) (hr : Room (k + 1) X.A) (hs : PySem.W.findIn X.K (.ref C) "__len__" = some (some (.ref f))) (hf : PySem.W.isFn X.K (.ref f) = true) (hb : Binds X.K fd ps []) :
    CallR X (.builtin "len") (rLenOwn C sp) := by
  intro pins s σ H xs us Q I r h
  obtain ⟨a, dx, fs, rfl, ha, hsp⟩ := h
  obtain ⟨u, rfl, r1⟩ := vals1 r
  cases r1
  obtain ⟨mA, J, _⟩ := ins_get I.hok ha
  obtain ⟨od, J, _⟩ := J.look
  obtain ⟨m, hF⟩ := I.fr
  have hl := F.len _ _ _ _ hsp
  have r2 : Vals [V.ref a] [Value.ref a] := .cons rfl .nil
  refine PySem.W.len_K hF I.ok.mod.kin J hs hf ?_
  refine wpAny_call (codeAny_mono (F.run X.A.in1 X.stack s H ⟨[.ref a], []⟩ [.ref a] [.ref a] _ E0 hr.in1 I.env0.in1 (by
    have := hb s [.ref a] I.kIn (by simpa using hl)
    simpa using this) r2 hsp) fun r s' hq => ?_)
  cases r with
  | error e => exact pass0 pins σ H s e s' I hq
  | ok fl =>
    cases fl with
    | ret w =>
      obtain ⟨z, H', I', rz, n, ez, hn, q⟩ := I.after hq
      subst ez
      obtain ⟨t, rfl⟩ := rz
      exact ⟨⟨by omega, by omega⟩, ⟨.int n, H', I'.tok _, ⟨_, rfl⟩, q⟩⟩
    | next => exact False.elim hq
    | brk => exact False.elim hq
    | cont => exact False.elim hq
section
variable {P : Program} {w : World} {K : PySem.W.Frag} {mg : Str → Option Value} {base : Heap} {C : Addr}
/-- a method, as callers need it -/
def HasM (P : Program) (w : World) (K : PySem.W.Frag) (mg : Str → Option Value) (base : Heap) (C : Addr) (n q : Str) (st : Stmt) (k : Nat) (ps : List Str) (sp : Sp) : Prop := ∃ (fT : Addr) (fdT : FuncData), FnP K n q st fT fdT ∧ Binds K fdT ps [] ∧ FnOk P w K mg base CX0 k fT fdT ps sp ∧ Meth K C n fT
def spMRounds (C : Addr) : Sp := fun vs H Q _ => ∃ (a : Addr) (r : Bool) (fs : List (Str × Int)) (ts : List Tie), vs = [.ref a] ∧ WebAt C H a r fs ts ∧ Q (.bl r) H
theorem ok_mrounds {f : Addr} {fd : FuncData} (F : FnP K "rounds" "Web.rounds" S_Web_rounds f fd) (WC : WebCls K C) : FnOk P w K mg base CX0 1 f fd P_Web_rounds (spMRounds C) := by
  refine F.ok sc_Web_rounds (fun vs H Q E h => ?_) (fun cdv A outer s H vs Q E hr h => ⟨_, PSs.nox (pss_one (ps_ret (pe_fld (pv 0) rfl))), ?_⟩)
  · obtain ⟨a, r, fs, ts, rfl, _⟩ := h
    rfl
  · obtain ⟨a, r, fs, ts, rfl, ⟨dx, ds, dl, pr, tr, xs, h1, h2, h3, h4, h5, h6⟩, q⟩ := h
    exact ⟨_, rfl, a, C, dx, _, _, rfl, h1, WC.cl, WC.n1, rfl, q⟩
def spMPersons (C : Addr) : Sp := fun vs H Q _ => ∃ (a : Addr) (r : Bool) (fs : List (Str × Int)) (ts : List Tie), vs = [.ref a] ∧ WebAt C H a r fs ts ∧ ∀ l, H l = none → Q (.ref l) (upd H l (.lst ((fs.map (·.1)).map V.str)))
theorem keysF : ∀ fs : List (Str × Int), (kvF fs).map (fun kv => kV kv.1) = (fs.map (·.1)).map V.str
  | [] => rfl
  | f :: r => by
    show kV (Sum.inr f.1) :: (kvF r).map (fun kv => kV kv.1) = _
    rw [keysF r]
    rfl
theorem keysT : ∀ {ts : List Tie} {xs : List V}, ts.length = xs.length → (kvT ts xs).map (fun kv => kV kv.1) = (ts.map (·.nm)).map V.str
  | [], [], _ => rfl
  | [], _ :: _, h => by cases h
  | _ :: _, [], h => by cases h
  | t :: ts, x :: xs, h => by
    show kV (Sum.inr t.nm) :: (kvT ts xs).map (fun kv => kV kv.1) = _
    rw [keysT (by simpa using h)]
    rfl
theorem ok_mpersons {f : Addr} {fd : FuncData} (F : FnP K "persons" "Web.persons" S_Web_persons f fd) (WC : WebCls K C) (B : Blt mg) : FnOk P w K mg base CX0 1 f fd P_Web_persons (spMPersons C) := by
  refine F.ok sc_Web_persons (fun vs H Q E h => ?_) (fun cdv A outer s H vs Q E hr h => ⟨_, PSs.nox (pss_one (ps_ret (pe_callTy (call_list_dK rfl) (by rfl) B.list_ (by decide +kernel) (pa_cons (pe_fld (pv 0) rfl) pa_nil)))), ?_⟩)
  · obtain ⟨a, r, fs, ts, rfl, _⟩ := h
    rfl
  · obtain ⟨a, r, fs, ts, rfl, ⟨dx, ds, dl, pr, tr, xs, h1, h2, h3, h4, h5, h6⟩, q⟩ := h
    refine ⟨_, rfl, a, C, dx, _, _, rfl, h1, WC.cl, WC.n2, rfl, ds, _, rfl, h2, fun l nl => ?_⟩
    rw [keysF]
    exact q l nl
def spMTies (C : Addr) : Sp := fun vs H Q _ => ∃ (a : Addr) (r : Bool) (fs : List (Str × Int)) (ts : List Tie), vs = [.ref a] ∧ WebAt C H a r fs ts ∧ ∀ l, H l = none → Q (.ref l) (upd H l (.lst ((ts.map (·.nm)).map V.str)))
theorem ok_mties {f : Addr} {fd : FuncData} (F : FnP K "ties" "Web.ties" S_Web_ties f fd) (WC : WebCls K C) (B : Blt mg) : FnOk P w K mg base CX0 1 f fd P_Web_ties (spMTies C) := by
  refine F.ok sc_Web_ties (fun vs H Q E h => ?_) (fun cdv A outer s H vs Q E hr h => ⟨_, PSs.nox (pss_one (ps_ret (pe_callTy (call_list_dK rfl) (by rfl) B.list_ (by decide +kernel) (pa_cons (pe_fld (pv 0) rfl) pa_nil)))), ?_⟩)
  · obtain ⟨a, r, fs, ts, rfl, _⟩ := h
    rfl
  · obtain ⟨a, r, fs, ts, rfl, ⟨dx, ds, dl, pr, tr, xs, h1, h2, h3, h4, h5, h6⟩, q⟩ := h
    refine ⟨_, rfl, a, C, dx, _, _, rfl, h1, WC.cl, WC.n3, rfl, dl, _, rfl, h3, fun l nl => ?_⟩
    have lxs : ts.length = xs.length := by
      have := dxall_len h4
      rw [List.length_map] at this
      exact this.symm
    rw [keysT lxs]
    exact q l nl
def spMLen (C : Addr) : Sp := fun vs H Q _ => ∃ (a : Addr) (r : Bool) (fs : List (Str × Int)) (ts : List Tie), vs = [.ref a] ∧ WebAt C H a r fs ts ∧ Q (.int (fs.length : Nat)) H
theorem ok_mlen {f : Addr} {fd : FuncData} (F : FnP K "__len__" "Web.__len__" S_Web_len f fd) (WC : WebCls K C) (B : Blt mg) : FnOk P w K mg base CX0 1 f fd P_Web_len (spMLen C) := by
  refine F.ok sc_Web_len (fun vs H Q E h => ?_) (fun cdv A outer s H vs Q E hr h => ⟨_, PSs.nox (pss_one (ps_ret (pe_callB call_len_seq (by rfl) B.len_ PySem.boot_len (pa_cons (pe_fld (pv 0) rfl) pa_nil)))), ?_⟩)
  · obtain ⟨a, r, fs, ts, rfl, _⟩ := h
    rfl
  · obtain ⟨a, r, fs, ts, rfl, ⟨dx, ds, dl, pr, tr, xs, h1, h2, h3, h4, h5, h6⟩, q⟩ := h
    obtain ⟨_, ys, e, hp, hy⟩ := dx_list h5
    cases e
    refine ⟨_, rfl, a, C, dx, _, _, rfl, h1, WC.cl, WC.n4, rfl, pr, ys, rfl, .inl (SqL.of hp), ?_⟩
    have ly : ys.length = fs.length := by
      have := dxall_len hy
      rw [List.length_map] at this
      exact this
    rw [ly]
    exact q
/-- a thing that is no text, by its type -/
def NoStr (K : PySem.W.Frag) (H : Hp) (v : V) : Prop := ∃ t, TyX K H v (.type t) ∧ kitB t "str" = some false
def spMHasP (K : PySem.W.Frag) (C : Addr) : Sp := fun vs H Q _ => ∃ (a : Addr) (v : V) (r : Bool) (fs : List (Str × Int)) (ts : List Tie), vs = [.ref a, v] ∧ WebAt C H a r fs ts ∧ ((∃ z, v = .str z ∧ Q (.bl (decide (z ∈ fs.map (·.1)))) H) ∨ (NoStr K H v ∧ Q (.bl false) H))
theorem ok_mhasp {f : Addr} {fd : FuncData} (F : FnP K "has_person" "Web.has_person" S_Web_has_person f fd) (WC : WebCls K C) (B : Blt mg) : FnOk P w K mg base CX0 1 f fd P_Web_has_person (spMHasP K C) := by
  refine F.ok sc_Web_has_person (fun vs H Q E h => ?_) (fun cdv A outer s H vs Q E hr h => ⟨_, PSs.nox (pss_one (ps_ret (pe_and (pe_callB call_isi (by rfl) B.isinstance_ (by decide +kernel) (pa_cons (pv 1) (pa_cons (pe_bltn (v := .ty "str") (u := .type "str") (by rfl) B.str_ (by decide +kernel) rfl) pa_nil))) (pe_one (pe_cmp (pc_din (hu_of hr) (pv 1) (pe_fld (pv 0) rfl))))))), ?_⟩)
  · obtain ⟨a, v, r, fs, ts, rfl, _⟩ := h
    rfl
  · obtain ⟨a, v, r, fs, ts, rfl, ⟨dx, ds, dl, pr, tr, xs, h1, h2, h3, h4, h5, h6⟩, q⟩ := h
    rcases q with ⟨z, rfl, q⟩ | ⟨⟨t, ht, hk⟩, q⟩
    · refine ⟨_, rfl, _, _, _, _, _, rfl, .ty _, ty_str _, kit_ty k_str_str, true, rfl, iteT ⟨_, rfl, _, rfl, a, C, dx, _, _, rfl, h1, WC.cl, WC.n2, rfl, ds, _, rfl, DGet.k (k := Sum.inr z) h2, ?_⟩⟩
      rw [valF]
      exact q
    · exact ⟨_, rfl, _, _, _, _, _, rfl, .ty _, ht, kit_ty hk, false, rfl, iteF q⟩
theorem valT (ts : List Tie) (xs : List V) (hl : ts.length = xs.length) (z : Str) : (valV (kvT ts xs) (Sum.inr z)).isSome = decide (z ∈ ts.map (·.nm)) := by
  induction ts generalizing xs with
  | nil => rfl
  | cons t r ih =>
    cases xs with
    | nil => cases hl
    | cons x xs =>
      show (valV ((Sum.inr t.nm, x) :: kvT r xs) (Sum.inr z)).isSome = _
      by_cases h : t.nm = z
      · rw [valV_pos (by rw [h])]
        subst h
        simp
      · rw [valV_neg (fun e => h (Sum.inr.inj e)), ih xs (by simpa using hl)]
        have h2 : ¬ (z = t.nm) := fun e => h e.symm
        simp [h2]
def spMHasT (K : PySem.W.Frag) (C : Addr) : Sp := fun vs H Q _ => ∃ (a : Addr) (v : V) (r : Bool) (fs : List (Str × Int)) (ts : List Tie), vs = [.ref a, v] ∧ WebAt C H a r fs ts ∧ ((∃ z, v = .str z ∧ Q (.bl (decide (z ∈ ts.map (·.nm)))) H) ∨ (NoStr K H v ∧ Q (.bl false) H))
theorem ok_mhast {f : Addr} {fd : FuncData} (F : FnP K "has_tie" "Web.has_tie" S_Web_has_tie f fd) (WC : WebCls K C) (B : Blt mg) : FnOk P w K mg base CX0 1 f fd P_Web_has_tie (spMHasT K C) := by
  refine F.ok sc_Web_has_tie (fun vs H Q E h => ?_) (fun cdv A outer s H vs Q E hr h => ⟨_, PSs.nox (pss_one (ps_ret (pe_and (pe_callB call_isi (by rfl) B.isinstance_ (by decide +kernel) (pa_cons (pv 1) (pa_cons (pe_bltn (v := .ty "str") (u := .type "str") (by rfl) B.str_ (by decide +kernel) rfl) pa_nil))) (pe_one (pe_cmp (pc_din (hu_of hr) (pv 1) (pe_fld (pv 0) rfl))))))), ?_⟩)
  · obtain ⟨a, v, r, fs, ts, rfl, _⟩ := h
    rfl
  · obtain ⟨a, v, r, fs, ts, rfl, ⟨dx, ds, dl, pr, tr, xs, h1, h2, h3, h4, h5, h6⟩, q⟩ := h
    have lxs : ts.length = xs.length := by
      have := dxall_len h4
      rw [List.length_map] at this
      exact this.symm
    rcases q with ⟨z, rfl, q⟩ | ⟨⟨t, ht, hk⟩, q⟩
    · refine ⟨_, rfl, _, _, _, _, _, rfl, .ty _, ty_str _, kit_ty k_str_str, true, rfl, iteT ⟨_, rfl, _, rfl, a, C, dx, _, _, rfl, h1, WC.cl, WC.n3, rfl, dl, _, rfl, DGet.k (k := Sum.inr z) h3, ?_⟩⟩
      rw [valT ts xs lxs]
      exact q
    · exact ⟨_, rfl, _, _, _, _, _, rfl, .ty _, ht, kit_ty hk, false, rfl, iteF q⟩
def spMRow (C : Addr) : Sp := fun vs H Q _ => ∃ (a : Addr) (r : Bool) (fs : List (Str × Int)) (ts : List Tie) (t : Tie), vs = [.ref a, .str t.nm] ∧ WebAt C H a r fs ts ∧ t ∈ ts ∧ (ts.map (·.nm)).Nodup ∧ ∀ x, Dx H x (dTie t) → Q x H
theorem ok_mrow {f : Addr} {fd : FuncData} (F : FnP K "tie_row" "Web.tie_row" S_Web_tie_row f fd) (WC : WebCls K C) (HT : HasM P w K mg base C "has_tie" "Web.has_tie" S_Web_has_tie 1 P_Web_has_tie (spMHasT K C)) : FnOk P w K mg base CX0 2 f fd P_Web_tie_row (spMRow C) := by
  obtain ⟨fT, fdT, FT, bT, GT, mT⟩ := HT
  refine F.ok sc_Web_tie_row (fun vs H Q E h => ?_) (fun cdv A outer s H vs Q E hr h => ⟨_, PSs.nox (pss_cons (ps_if (pt_not (pt_val (pe_meth (pv 0) WC.cl mT GT hr bT .nil pass0 (pa_cons (pv 1) pa_nil)))) pss_no pss_nil)
     (pss_one (ps_ret (pe_dget (hu_of hr) (pe_fld (pv 0) rfl) (pv 1) (fun _ _ => rfl))))), ?_⟩)
  · obtain ⟨a, r, fs, ts, t, rfl, _⟩ := h
    rfl
  · obtain ⟨a, r, fs, ts, t, rfl, W0, ht, nd, q⟩ := h
    have W := W0
    obtain ⟨dx, ds, dl, pr, tr, xs, h1, h2, h3, h4, h5, h6⟩ := W0
    have lxs : ts.length = xs.length := by
      have := dxall_len h4
      rw [List.length_map] at this
      exact this.symm
    obtain ⟨i, hi, rfl⟩ := List.getElem_of_mem ht
    obtain ⟨x, e1, e2⟩ := dxall_get (i := i) h4 (by rw [List.getElem?_map, List.getElem?_eq_getElem hi]; rfl)
    refine ⟨_, rfl, a, dx, _, rfl, h1, rfl, _, rfl, a, _, r, fs, ts, rfl, W, .inl ⟨_, rfl, true, qb (List.mem_map.mpr ⟨_, ht, rfl⟩), iteF ?_⟩⟩
    refine ⟨_, rfl, a, C, dx, _, _, rfl, h1, WC.cl, WC.n3, rfl, _, rfl, dl, x, rfl, ?_, q x e2⟩
    have g := kvT_get lxs nd (List.getElem?_eq_getElem hi) e1
    have d := DGet.k (k := Sum.inr ts[i].nm) h3
    rw [g] at d
    exact d
end
end Cw
namespace Cw
open PySem PySem.Spec PyProof.Rows L2
theorem valF_at : ∀ {fs : List (Str × Int)} {g : Str × Int}, (fs.map (·.1)).Nodup → g ∈ fs → valV (kvF fs) (Sum.inr g.1) = some (.int g.2)
  | [], _, _, h => by cases h
  | f :: r, g, nd, h => by
    have nd' := List.nodup_cons.mp nd
    show valV ((Sum.inr f.1, V.int f.2) :: kvF r) (Sum.inr g.1) = _
    rcases List.mem_cons.mp h with e | h
    · subst e
      exact valV_pos rfl
    · rw [valV_neg (fun e => nd'.1 (by show f.1 ∈ _; rw [show f.1 = g.1 from Sum.inr.inj e]; exact List.mem_map.mpr ⟨_, h, rfl⟩))]
      exact valF_at nd'.2 h
/-- the state of who stands at a place -/
def look (hs : List (Int × Int)) (n : Int) : Int := ((hs.find? fun h => decide (h.1 = n)).map (·.2)).getD 0
theorem look_none {hs : List (Int × Int)} {n : Int} (h : ∀ x ∈ hs, x.1 ≠ n) : look hs n = 0 := by
  unfold look
  rw [List.find?_eq_none.mpr fun x hx => by simpa using h x hx]
  rfl
theorem look_at {hs : List (Int × Int)} {n : Int} {i : Nat} (hi : i < hs.length) (e : hs[i].1 = n) (no : ∀ x ∈ hs.take i, x.1 ≠ n) : look hs n = hs[i].2 := by
  unfold look
  have es : hs = hs.take i ++ hs[i] :: hs.drop (i + 1) := by rw [List.getElem_cons_drop, List.take_append_drop]
  have ef : hs.find? (fun h => decide (h.1 = n)) = some hs[i] := by
    have e2 := congrArg (List.find? (fun h : Int × Int => decide (h.1 = n))) es
    rw [e2, List.find?_append, List.find?_eq_none.mpr fun x hx => by simpa using no x hx]
    rw [List.find?_cons, show decide (hs[i].1 = n) = true from decide_eq_true e]
    rfl
  rw [ef]
  rfl
section
variable {P : Program} {w : World} {K : PySem.W.Frag} {mg : Str → Option Value} {base : Heap} {C : Addr}
abbrev RowM (P : Program) (w : World) (K : PySem.W.Frag) (mg : Str → Option Value) (base : Heap) (C : Addr) : Prop := HasM P w K mg base C "tie_row" "Web.tie_row" S_Web_tie_row 2 P_Web_tie_row (spMRow C)
def spMEnds (C : Addr) : Sp := fun vs H Q _ => ∃ (a : Addr) (r : Bool) (fs : List (Str × Int)) (ts : List Tie) (t : Tie), vs = [.ref a, .str t.nm] ∧ WebAt C H a r fs ts ∧ t ∈ ts ∧ (ts.map (·.nm)).Nodup ∧ ∀ p, H p = none → Q (.ref p) (upd H p (.tup [.str t.one, .str t.other]))
theorem ok_mends {f : Addr} {fd : FuncData} (F : FnP K "ends" "Web.ends" S_Web_ends f fd) (WC : WebCls K C) (R : RowM P w K mg base C) : FnOk P w K mg base CX0 3 f fd P_Web_ends (spMEnds C) := by
  obtain ⟨fR, fdR, FR, bR, GR, mR⟩ := R
  refine F.ok sc_Web_ends (fun vs H Q E h => ?_) (fun cdv A outer s H vs Q E hr h => ⟨_, PSs.nox (pss_cons (ps_set (i := 2) sc_Web_ends.nd rfl (.inl rfl) (pe_meth (pv 0) WC.cl mR GR hr bR .nil pass0 (pa_cons (pv 1) pa_nil)))
     (pss_one (ps_ret (pe_tup (pa_cons (pe_ix ix_tup (pv 2) pe_int (fun _ _ => rfl)) (pa_cons (pe_ix ix_tup (pv 2) pe_int (fun _ _ => rfl)) pa_nil)))))), ?_⟩)
  · obtain ⟨a, r, fs, ts, t, rfl, _⟩ := h
    rfl
  · obtain ⟨a, r, fs, ts, t, rfl, W, ht, nd, q⟩ := h
    obtain ⟨dx, ds, dl, pr, tr, xs, h1, _⟩ := W
    refine ⟨_, rfl, a, dx, _, rfl, h1, rfl, _, rfl, a, r, fs, ts, t, rfl, ⟨dx, ds, dl, pr, tr, xs, h1, ‹_›⟩, ht, nd, fun x hx => ?_⟩
    obtain ⟨p, vh, rfl, hp, _⟩ := dx_tie hx
    refine ⟨_, rfl, p, _, 1, _, rfl, rfl, SqT.of hp, atI_int (by decide) rfl, _, rfl, p, _, 2, _, rfl, rfl, SqT.of hp, atI_int (by decide) rfl, by show 2 ≤ sizeLine; decide, fun l nl => q l nl⟩
def spMLength (C : Addr) : Sp := fun vs H Q _ => ∃ (a : Addr) (r : Bool) (fs : List (Str × Int)) (ts : List Tie) (t : Tie), vs = [.ref a, .str t.nm] ∧ WebAt C H a r fs ts ∧ t ∈ ts ∧ (ts.map (·.nm)).Nodup ∧ Q (.int t.len) H
theorem ok_mlength {f : Addr} {fd : FuncData} (F : FnP K "length" "Web.length" S_Web_length f fd) (WC : WebCls K C) (R : RowM P w K mg base C) : FnOk P w K mg base CX0 3 f fd P_Web_length (spMLength C) := by
  obtain ⟨fR, fdR, FR, bR, GR, mR⟩ := R
  refine F.ok sc_Web_length (fun vs H Q E h => ?_) (fun cdv A outer s H vs Q E hr h => ⟨_, PSs.nox (pss_one (ps_ret (pe_ix ix_tup (pe_meth (pv 0) WC.cl mR GR hr bR .nil pass0 (pa_cons (pv 1) pa_nil)) pe_int (fun _ _ => rfl)))), ?_⟩)
  · obtain ⟨a, r, fs, ts, t, rfl, _⟩ := h
    rfl
  · obtain ⟨a, r, fs, ts, t, rfl, W, ht, nd, q⟩ := h
    obtain ⟨dx, ds, dl, pr, tr, xs, h1, _⟩ := W
    refine ⟨_, rfl, a, dx, _, rfl, h1, rfl, _, rfl, a, r, fs, ts, t, rfl, ⟨dx, ds, dl, pr, tr, xs, h1, ‹_›⟩, ht, nd, fun x hx => ?_⟩
    obtain ⟨p, vh, rfl, hp, _⟩ := dx_tie hx
    exact ⟨p, _, 3, _, rfl, rfl, SqT.of hp, atI_int (by decide) rfl, q⟩
def spMHear (C : Addr) : Sp := fun vs H Q _ => ∃ (a : Addr) (r : Bool) (fs : List (Str × Int)) (ts : List Tie) (t : Tie), vs = [.ref a, .str t.nm] ∧ WebAt C H a r fs ts ∧ t ∈ ts ∧ (ts.map (·.nm)).Nodup ∧ ∀ x, Dx H x (dHs t.hs) → Q x H
theorem ok_mhear {f : Addr} {fd : FuncData} (F : FnP K "hearers" "Web.hearers" S_Web_hearers f fd) (WC : WebCls K C) (R : RowM P w K mg base C) : FnOk P w K mg base CX0 3 f fd P_Web_hearers (spMHear C) := by
  obtain ⟨fR, fdR, FR, bR, GR, mR⟩ := R
  refine F.ok sc_Web_hearers (fun vs H Q E h => ?_) (fun cdv A outer s H vs Q E hr h => ⟨_, PSs.nox (pss_one (ps_ret (pe_ix ix_tup (pe_meth (pv 0) WC.cl mR GR hr bR .nil pass0 (pa_cons (pv 1) pa_nil)) pe_int (fun _ _ => rfl)))), ?_⟩)
  · obtain ⟨a, r, fs, ts, t, rfl, _⟩ := h
    rfl
  · obtain ⟨a, r, fs, ts, t, rfl, W, ht, nd, q⟩ := h
    obtain ⟨dx, ds, dl, pr, tr, xs, h1, _⟩ := W
    refine ⟨_, rfl, a, dx, _, rfl, h1, rfl, _, rfl, a, r, fs, ts, t, rfl, ⟨dx, ds, dl, pr, tr, xs, h1, ‹_›⟩, ht, nd, fun x hx => ?_⟩
    obtain ⟨p, vh, rfl, hp, hh⟩ := dx_tie hx
    exact ⟨p, _, 4, _, rfl, rfl, SqT.of hp, atI_int (by decide) rfl, q vh hh⟩
abbrev HasTM (P : Program) (w : World) (K : PySem.W.Frag) (mg : Str → Option Value) (base : Heap) (C : Addr) : Prop := HasM P w K mg base C "has_tie" "Web.has_tie" S_Web_has_tie 1 P_Web_has_tie (spMHasT K C)
/-- a person's or somebody's name, or a hearer's tuple of a tie that there is -/
def spMHasH (K : PySem.W.Frag) (C : Addr) : Sp := fun vs H Q _ => ∃ (a : Addr) (v : V) (r : Bool) (fs : List (Str × Int)) (ts : List Tie), vs = [.ref a, v] ∧ WebAt C H a r fs ts ∧ (ts.map (·.nm)).Nodup ∧
  ((∃ z, v = .str z ∧ Q (.bl false) H) ∨ (∃ (p : Addr) (t : Tie) (n : Int), v = .ref p ∧ SqT K H p [.str t.nm, .int n] ∧ t ∈ ts ∧ Q (.bl (decide (0 < n ∧ n < t.len))) H))
theorem ok_mhash {f : Addr} {fd : FuncData} (F : FnP K "has_hearer" "Web.has_hearer" S_Web_has_hearer f fd) (WC : WebCls K C) (HT : HasTM P w K mg base C) (L : HasM P w K mg base C "length" "Web.length" S_Web_length 3 P_Web_length (spMLength C))
    (W' : Has P w K mg base "is_whole" S_is_whole 1 P_is_whole spWhole) (T : Has P w K mg base "is_tuple_of" S_is_tuple_of 1 P_is_tuple_of (spTupOf K)) : FnOk P w K mg base CX0 4 f fd P_Web_has_hearer (spMHasH K C) := by
  obtain ⟨fH, fdH, FH, bH, GH, mH⟩ := HT
  obtain ⟨fL, fdL, FL, bL, GL, mL⟩ := L
  obtain ⟨fW, fdW, FW, bW, GW, gW⟩ := W'
  obtain ⟨fT, fdT, FT, bT, GT, gT⟩ := T
  refine F.ok sc_Web_has_hearer (fun vs H Q E h => ?_) (fun cdv A outer s H vs Q E hr h => ⟨_, PSs.nox (pss_cons (ps_if (pt_not (pt_val (pe_call GT (hr.mono (by decide)) rfl gT FT.kp bT .nil pass0 (pa_cons (pv 1) (pa_cons pe_int pa_nil))))) (pss_one (ps_ret pe_bl)) pss_nil)
     (pss_cons (ps_asg (pv 1) (pg_tup (by rfl) (pgs_cons (pg_name (i := 2) sc_Web_has_hearer.nd rfl (.inl rfl)) (pgs_cons (pg_name (i := 3) sc_Web_has_hearer.nd rfl (.inl rfl)) pgs_nil))))
     (pss_one (ps_ret (pe_and (pe_meth (pv 0) WC.cl mH GH (hr.mono (by decide)) bH .nil pass0 (pa_cons (pv 2) pa_nil)) (pe_and (pe_call GW (hr.mono (by decide)) rfl gW FW.kp bW .nil pass0 (pa_cons (pv 3) pa_nil)) (pe_one (pe_chain op_lt op_lt pe_int (pv 3) (pe_meth (pv 0) WC.cl mL GL hr bL .nil pass0 (pa_cons (pv 2) pa_nil)))))))))), ?_⟩)
  · obtain ⟨a, v, r, fs, ts, rfl, _⟩ := h
    rfl
  · obtain ⟨a, v, r, fs, ts, rfl, W, nd, q⟩ := h
    have W0 := W
    obtain ⟨dx, ds, dl, pr, tr, xs, h1, _⟩ := W
    rcases q with ⟨z, rfl, q⟩ | ⟨p, t, n, rfl, hp, ht, q⟩
    · exact ⟨_, rfl, _, 2, rfl, .inr ⟨⟨_, ty_str _, k_str_tup⟩, false, rfl, iteT q⟩⟩
    · refine ⟨_, rfl, _, 2, rfl, .inl ⟨p, _, rfl, hp, true, rfl, iteF ?_⟩⟩
      refine ⟨_, rfl, p, _, rfl, hp, rfl, _, _, rfl, _, _, rfl, rfl, ?_⟩
      refine ⟨_, rfl, a, dx, _, rfl, h1, rfl, _, rfl, a, _, r, fs, ts, rfl, W0, .inl ⟨_, rfl, true, qb (List.mem_map.mpr ⟨_, ht, rfl⟩), iteT ?_⟩⟩
      refine ⟨_, rfl, n, rfl, true, rfl, iteT ⟨_, rfl, _, _, rfl, rfl, _, rfl, ?_⟩⟩
      by_cases h0 : 0 < n
      · rw [if_pos (decide_eq_true h0)]
        refine ⟨_, rfl, a, dx, _, rfl, h1, rfl, _, rfl, a, r, fs, ts, t, rfl, W0, ht, nd, _, _, rfl, rfl, ?_⟩
        have e : decide (0 < n ∧ n < t.len) = decide (n < t.len) := by simp [h0]
        rw [e] at q
        exact q
      · rw [if_neg (by rw [decide_eq_false h0]; exact Bool.false_ne_true)]
        have e : decide (0 < n ∧ n < t.len) = false := decide_eq_false fun z => h0 z.1
        rw [e] at q
        exact q
theorem nostr_tup {H : Hp} {p : Addr} {xs : List V} (h : SqT K H p xs) : NoStr K H (.ref p) := ⟨_, ty_tup h, k_tup_str⟩
def spMState (K : PySem.W.Frag) (C : Addr) : Sp := fun vs H Q _ => ∃ (a : Addr) (v : V) (r : Bool) (fs : List (Str × Int)) (ts : List Tie), vs = [.ref a, v] ∧ WebAt C H a r fs ts ∧ (ts.map (·.nm)).Nodup ∧ (fs.map (·.1)).Nodup ∧
  ((∃ f, f ∈ fs ∧ v = .str f.1 ∧ Q (.int f.2) H) ∨ (∃ (p : Addr) (t : Tie) (n : Int), v = .ref p ∧ SqT K H p [.str t.nm, .int n] ∧ t ∈ ts ∧ 0 < n ∧ n < t.len ∧ Q (.int (look t.hs n)) H))
theorem ok_mstate {f : Addr} {fd : FuncData} (F : FnP K "state" "Web.state" S_Web_state f fd) (WC : WebCls K C) (HP : HasM P w K mg base C "has_person" "Web.has_person" S_Web_has_person 1 P_Web_has_person (spMHasP K C))
    (HH : HasM P w K mg base C "has_hearer" "Web.has_hearer" S_Web_has_hearer 4 P_Web_has_hearer (spMHasH K C)) (HR : HasM P w K mg base C "hearers" "Web.hearers" S_Web_hearers 3 P_Web_hearers (spMHear C)) : FnOk P w K mg base CX0 5 f fd P_Web_state (spMState K C) := by
  obtain ⟨fP, fdP, FP, bP, GP, mP⟩ := HP
  obtain ⟨fH, fdH, FH, bH, GH, mH⟩ := HH
  obtain ⟨fR, fdR, FR, bR, GR, mR⟩ := HR
  have nd := sc_Web_state.nd
  refine F.ok sc_Web_state (fun vs H Q E h => ?_) (fun cdv A outer s H vs Q E hr h => ⟨_, PSs.nox (pss_cons (ps_if (pt_val (pe_meth (pv 0) WC.cl mP GP (hr.mono (by decide)) bP .nil pass0 (pa_cons (pv 1) pa_nil))) (pss_one (ps_ret (pe_dget (hu_of hr) (pe_fld (pv 0) rfl) (pv 1) (fun _ _ => rfl)))) pss_nil)
     (pss_cons (ps_if (pt_not (pt_val (pe_meth (pv 0) WC.cl mH GH hr bH .nil pass0 (pa_cons (pv 1) pa_nil)))) pss_no pss_nil)
     (pss_cons (ps_asg (pv 1) (pg_tup (by rfl) (pgs_cons (pg_name (i := 2) nd rfl (.inl rfl)) (pgs_cons (pg_name (i := 3) nd rfl (.inl rfl)) pgs_nil))))
     (pss_cons (ps_for PassesOwn.never rfl (pi_tup (pe_meth (pv 0) WC.cl mR GR (hr.mono (by decide)) bR .nil pass0 (pa_cons (pv 2) pa_nil))) (pg_tup (by rfl) (pgs_cons (pg_name (i := 4) nd rfl (.inl rfl)) (pgs_cons (pg_name (i := 5) nd rfl (.inl rfl)) pgs_nil)))
        (pss_one (ps_if (pt_cmpR op_eq (pv 4) (pv 3) (nomark _)) (pss_one (ps_ret (pv 5))) pss_nil)))
     (pss_one (ps_ret pe_int)))))), ?_⟩)
  · obtain ⟨a, v, r, fs, ts, rfl, _⟩ := h
    rfl
  · obtain ⟨a, v, r, fs, ts, rfl, W, ndt, ndf, q⟩ := h
    have W0 := W
    obtain ⟨dx, ds, dl, pr, tr, xs, h1, h2, _⟩ := W
    rcases q with ⟨g, hg, rfl, q⟩ | ⟨p, t, n, rfl, hp, ht, n0, nl, q⟩
    · refine ⟨_, rfl, a, dx, _, rfl, h1, rfl, _, rfl, a, _, r, fs, ts, rfl, W0, .inl ⟨_, rfl, true, qb (List.mem_map.mpr ⟨_, hg, rfl⟩), iteT ?_⟩⟩
      refine ⟨_, rfl, a, C, dx, _, _, rfl, h1, WC.cl, WC.n2, rfl, _, rfl, ds, _, rfl, ?_, q⟩
      have d := DGet.k (k := Sum.inr g.1) h2
      rw [valF_at ndf hg] at d
      exact d
    · refine ⟨_, rfl, a, dx, _, rfl, h1, rfl, _, rfl, a, _, r, fs, ts, rfl, W0, .inr ⟨nostr_tup hp, false, rfl, iteF ?_⟩⟩
      refine ⟨_, rfl, a, dx, _, rfl, h1, rfl, _, rfl, a, _, r, fs, ts, rfl, W0, ndt, .inr ⟨p, t, n, rfl, hp, ht, true, qb ⟨n0, nl⟩, iteF ?_⟩⟩
      refine ⟨_, rfl, p, _, rfl, hp, rfl, _, _, rfl, _, _, rfl, rfl, ?_⟩
      refine ⟨_, rfl, a, dx, _, rfl, h1, rfl, _, rfl, a, r, fs, ts, t, rfl, W0, ht, ndt, fun x hx => ?_⟩
      obtain ⟨b, ys, rfl, hb, hy⟩ := dx_hs hx
      have ly : ys.length = t.hs.length := by
        have := dxall_len hy
        rw [List.length_map] at this
        exact this
      refine ⟨b, rfl, ⟨_, hb.sq⟩, ?_⟩
      refine for_it (walk_tup (xs := ys)) (fun i σ H2 => H2 = H ∧ (∀ h ∈ t.hs.take i, h.1 ≠ n) ∧ ∃ x4 x5, σ = [some (V.ref a), some (.ref p), some (.str t.nm), some (.int n), x4, x5]) ⟨rfl, fun h hh => by simp at hh, none, none, rfl⟩ (fun i σ H2 _ h => by rw [h.1]; exact hb.sq) ?_ ?_
      · rintro i x σ H2 H3 hi ⟨rfl, no, x4, x5, rfl⟩ ⟨rfl, hxi⟩
        have hi2 : i < t.hs.length := by omega
        obtain ⟨y, e1, e2⟩ := dxall_get (i := i) hy (by rw [List.getElem?_map, List.getElem?_eq_getElem hi2]; rfl)
        have exy : x = y := Option.some.inj (hxi.symm.trans e1)
        subst exy
        obtain ⟨u, rfl, hu⟩ := dx_hear e2
        refine ⟨u, _, rfl, SqT.of hu, rfl, _, _, rfl, _, _, rfl, rfl, ?_⟩
        refine ⟨_, rfl, _, rfl, rfl, _, rfl, ite2 (fun e => ?_) (fun e => ?_)⟩
        · have e : t.hs[i].1 = n := V.int.inj (of_decide_eq_true e)
          refine ⟨_, rfl, ?_⟩
          have lk : look t.hs n = t.hs[i].2 := look_at hi2 e no
          rw [lk] at q
          exact q
        · refine ⟨rfl, fun h hh => ?_, some (.int t.hs[i].1), some (.int t.hs[i].2), rfl⟩
          rw [List.take_add_one, List.getElem?_eq_getElem hi2] at hh
          rcases List.mem_append.mp hh with hh | hh
          · exact no h hh
          · have : h = t.hs[i] := by simpa using hh
            subst this
            exact fun z => e (decide_eq_true (by rw [z]))
      · rintro σ H2 ⟨rfl, no, x4, x5, rfl⟩
        rw [ly, List.take_length] at no
        rw [look_none no] at q
        exact q
end
end Cw
namespace Cw
open PySem PySem.Spec PyProof.Rows L2
section
variable {P : Program} {w : World} {K : PySem.W.Frag} {mg : Str → Option Value} {base : Heap} {C : Addr}
theorem bind_kw {f e : Addr} {fd : FuncData} (F : FnI K f fd e) : ∃ its mv : List Value, KBn K fd P_Web_init 2 ["rounds"] (fun us ws => us ++ (its ++ ws)) (fun vs zs => vs ++ ([V.ref e] ++ zs)) := by
  refine F.kbinds (n := 2) (ks := ["rounds"]) (ms := []) (g := fun us its mv ws => us ++ (its ++ ws)) (by simp) (by simp) (by simp) (fun a b c d => a.append (b.append d)) ?_
  intro T D doc pm an cdv ct us its mv ws h1 h2 h3 h4
  match us, h1, its, h2, mv, h3, ws, h4 with
  | [u1, u2], _, [i1], _, [], _, [w1], _ =>
    refine ⟨_, rfl, ?_⟩
    exact rfl
def names3 {α : Type} (us ws : List α) : List α := match ws with
  | [a, b, c] => us ++ [b, a, c]
  | _ => us
theorem vals3 {vs zs : List V} {us ws : List Value} (a : Vals vs us) (d : Vals zs ws) : Vals (names3 vs zs) (names3 us ws) := by
  cases d with
  | nil => exact a
  | cons d1 d =>
    cases d with
    | nil => exact a
    | cons d2 d =>
      cases d with
      | nil => exact a
      | cons d3 d =>
        cases d with
        | nil => exact a.append (.cons d2 (.cons d1 (.cons d3 .nil)))
        | cons d4 d => exact a
theorem bind_all {f e : Addr} {fd : FuncData} (F : FnI K f fd e) : ∃ its mv : List Value, KBn K fd P_Web_init 1 ["ties", "persons", "rounds"] (fun us ws => names3 us ws) (fun vs zs => names3 vs zs) := by
  refine F.kbinds (n := 1) (ks := ["ties", "persons", "rounds"]) (ms := []) (g := fun us its mv ws => names3 us ws) (by simp) (by simp) (by simp) (fun a b c d => vals3 a d) ?_
  intro T D doc pm an cdv ct us its mv ws h1 h2 h3 h4
  match us, h1, its, h2, mv, h3, ws, h4 with
  | [u1], _, [i1], _, [], _, [w1, w2, w3], _ =>
    refine ⟨_, rfl, ?_⟩
    exact rfl
theorem bind_two {f e : Addr} {fd : FuncData} (F : FnI K f fd e) : ∃ ds, Vals [V.bl false] ds ∧ Binds K fd P_Web_init ds := by
  refine F.binds (n := 3) (j := 1) (by simp) (by rfl) ?_ (by simp)
  intro T D doc pm an cdv ct us its ks h1 h2 h3
  match us, h1, its, h2, ks, h3 with
  | [u1, u2, u3], _, [i1], _, [k1], _ =>
    refine ⟨_, rfl, ?_⟩
    exact ⟨_, _, _, _, _, _, rfl, rfl, rfl⟩
end
end Cw
namespace Cw
open PySem PySem.Spec PyProof.Rows L2
theorem sh_name {z : Str} (h : IsName z) : Sh (.str z) 8 0 := sh_str h.2.1 fun c hc => by
  have := h.2.2 c hc
  omega
theorem lenR_le {r : Bool} {n : Int} (h : LenR r n) : 1 ≤ n ∧ n ≤ 10 ^ 30 := by
  cases r with
  | true =>
    have e : n = 1 := h
    subst e
    exact ⟨by decide, by decide⟩
  | false =>
    obtain ⟨a, b⟩ := (show 2 ≤ n ∧ n ≤ 10 ^ 30 from h)
    exact ⟨by omega, b⟩
theorem sh_hs {L : Int} {hs : List (Int × Int)} (hL : L ≤ 10 ^ 30) (h : Hear L hs) (hn : hs.length ≤ 12) : Sh (dHs hs) 36 2 := by
  refine sh_tup (b := 2) (p := 1) (n := 12) (fun d hd => ?_) (by rw [List.length_map]; exact hn)
  obtain ⟨x, hx, rfl⟩ := List.mem_map.mp hd
  obtain ⟨b1, b2, b3, b4⟩ := h.at_ x hx
  refine sh_tup (b := 0) (p := 0) (n := 2) (fun d hd => ?_) (Nat.le_refl _)
  simp only [List.mem_cons, List.not_mem_nil, or_false] at hd
  rcases hd with rfl | rfl
  · exact sh_int (by omega)
  · exact sh_int (by omega)
theorem sh_tie {r : Bool} {ns : List Str} {t : Tie} (hns : ∀ y ∈ ns, IsName y) (g : Good r ns t) (hn : t.hs.length ≤ 12) : Sh (dTie t) 185 3 := by
  have l := lenR_le g.ln
  refine sh_tup (b := 36) (p := 2) (n := 5) (fun d hd => ?_) (Nat.le_refl _)
  simp only [List.mem_cons, List.not_mem_nil, or_false] at hd
  rcases hd with rfl | rfl | rfl | rfl | rfl
  · exact (sh_name g.nm).mono (by decide) (by decide)
  · exact (sh_name (hns _ g.h1)).mono (by decide) (by decide)
  · exact (sh_name (hns _ g.h2)).mono (by decide) (by decide)
  · exact (sh_int (by omega)).mono (by decide) (by decide)
  · exact sh_hs l.2 g.hr hn
theorem Specs.names {r : Bool} {fs : List (Str × Int)} {ts : List Tie} (S : Specs r fs ts) : ∀ y ∈ fs.map (·.1), IsName y := fun y hy => by
  obtain ⟨f, hf, rfl⟩ := List.mem_map.mp hy
  exact S.fo.nm f hf
theorem Specs.sh1 {r : Bool} {fs : List (Str × Int)} {ts : List Tie} (S : Specs r fs ts) {t : Tie} (ht : t ∈ ts) : Sh (dTie t) 185 3 := sh_tie S.names (S.ti t ht) (Nat.le_trans (told_mem ht) S.h12)
theorem Specs.shT {r : Bool} {fs : List (Str × Int)} {ts : List Tie} (S : Specs r fs ts) : Sh (.list (ts.map dTie)) 2232 4 := by
  refine sh_list (b := 185) (p := 3) (n := 12) (fun d hd => ?_) (by rw [List.length_map]; exact S.t12)
  obtain ⟨t, ht, rfl⟩ := List.mem_map.mp hd
  exact S.sh1 ht
theorem eqv_no (ts : List Tie) : PyData.eqv (.list (ts.map dTie)) (.list []) = ts.isEmpty := by
  cases ts with
  | nil => simp [PyData.eqv, PyData.eqvAll]
  | cons y r => simp [PyData.eqv, PyData.eqvAll]
/-- a comprehension that gives a plain value for each item -/
theorem lc_map {J : It} {xs ys : List V} {G : Hp → Prop} (w : Walk J xs.length G (YAt xs)) {g : TG} {te : TE} {vs : List Nat} {σ : L2.St} {H1 : Hp} {D : Addr} {Qd : Hp → Prop} (nD : H1 D = none) (hG : ∀ H, Same H1 H → G H) (hl : ys.length = xs.length) (hn : xs.length ≤ 1000)
    (step : ∀ (i : Nat) (x y : V) (H2 : Hp) (k : V → Hp → Prop), xs[i]? = some x → ys[i]? = some y → Same H1 H2 → (∀ H4, Same H2 H4 → k y H4) → g x (wipe σ vs) H2 fun σ2 H3 => wipe σ2 vs = wipe σ vs ∧ te σ2 H3 k)
    (q : ∀ H', Same H1 H' → H' D = some (.lst ys) → Qd H') : LcD J g tYes te vs σ H1 D Qd := by
  refine lc_it w (fun i H2 => Same H1 (Off D H2) ∧ H2 D = some (.lst (ys.take i))) ⟨fun b o e => Off.at (ne_of_none e nD) (same_new nD _ _ e), upd_same⟩ (fun i H2 _ hh => hG H2 (fun b o e => Off.same _ _ (hh.1 b o e))) ?_ ?_
  · rintro i x H2 H2' hi ⟨sm, hD⟩ ⟨rfl, hxi⟩
    have hy : i < ys.length := by omega
    have e := step i x ys[i] H2' (fun y H4 => ∃ acc, H4 D = some (.lst acc) ∧ acc.length < sizeLine ∧ (Same H1 (Off D (upd H4 D (.lst (acc ++ [y])))) ∧ (upd H4 D (.lst (acc ++ [y]))) D = some (.lst (ys.take (i + 1))))) hxi (List.getElem?_eq_getElem hy) (fun b o e => Off.same _ _ (sm b o e)) (fun H4 s4 => ?_)
    · exact e
    · refine ⟨_, s4 _ _ hD, by rw [List.length_take]; exact small1000 (by omega), fun b o e => ?_, ?_⟩
      · have nb : b ≠ D := ne_of_none e nD
        exact Off.at nb (by rw [upd_ne nb]; exact s4 _ _ (Off.same _ _ (sm b o e)))
      · rw [upd_same, List.take_add_one, List.getElem?_eq_getElem hy]
        rfl
  · rintro H2 ⟨sm, hD⟩
    rw [← hl, List.take_length] at hD
    exact q H2 (fun b o e => Off.same _ _ (sm b o e)) hD
theorem dxall_at {H : Hp} {xs : List V} {α : Type} {as : List α} {d : α → PyData} (h : DxAll H xs (as.map d)) {i : Nat} {x : V} (hx : xs[i]? = some x) : ∃ (hi : i < as.length), Dx H x (d as[i]) := by
  have l := dxall_len h
  rw [List.length_map] at l
  have h1 := (List.getElem?_eq_some_iff.mp hx).1
  have hi : i < as.length := by omega
  obtain ⟨y, e1, e2⟩ := dxall_get (i := i) h (by rw [List.getElem?_map, List.getElem?_eq_getElem hi]; rfl)
  have exy : x = y := Option.some.inj (hx.symm.trans e1)
  subst exy
  exact ⟨hi, e2⟩
theorem dx_ints {H : Hp} : ∀ ns : List Int, DxAll H (ns.map V.int) (ns.map PyData.int)
  | [] => .nil
  | n :: r => .cons (.int n) (dx_ints r)
theorem dx_strs {H : Hp} : ∀ ns : List Str, DxAll H (ns.map V.str) (ns.map PyData.str)
  | [] => .nil
  | n :: r => .cons (.str n) (dx_strs r)
theorem hear_no {L : Int} {hs : List (Int × Int)} (h : Hear L hs) {j : Nat} (hj : j < hs.length) : ∀ x ∈ hs.take j, x.1 ≠ hs[j].1 := by
  intro x hx
  obtain ⟨i, hi, rfl⟩ := List.getElem_of_mem hx
  rw [List.length_take] at hi
  have hij : i < j := by omega
  rw [List.getElem_take]
  have := List.pairwise_iff_getElem.mp h.up i j (by omega) hj hij
  omega
theorem hears_inv {H : Hp} : ∀ {zs : List V} {hs : List (Int × Int)}, DxAll H zs (hs.map dHear) → ∃ ps : List Addr, zs = ps.map V.ref ∧ Paired (fun (p : Addr) (h : Int × Int) => H p = some (.tup [.int h.1, .int h.2])) ps hs
  | [], [], _ => ⟨[], rfl, .nil⟩
  | [], _ :: _, h => by cases h
  | _ :: _, [], h => by cases h
  | z :: zs, x :: hs, h => by
    cases h with
    | cons a r =>
      obtain ⟨ps, e, q⟩ := hears_inv r
      obtain ⟨p, rfl, hp⟩ := dx_hear a
      exact ⟨p :: ps, by rw [e]; rfl, .cons hp q⟩
theorem hears_enc {K : PySem.W.Frag} {H : Hp} : ∀ {ps : List Addr} {hs : List (Int × Int)}, Paired (fun (p : Addr) (h : Int × Int) => H p = some (.tup [.int h.1, .int h.2])) ps hs → Paired (fun p kv => SqT K H p [kV kv.1, kv.2]) ps (enc hs)
  | _, _, .nil => .nil
  | _, _, .cons h r => .cons (SqT.of h) (hears_enc r)
theorem hear_keys {L : Int} {hs : List (Int × Int)} (h : Hear L hs) : (([] : List (Key × V)).map (·.1) ++ (enc hs).map (·.1)).Nodup := by
  show ((enc hs).map (·.1)).Nodup
  unfold enc
  rw [List.map_map]
  refine List.pairwise_map.mpr (h.up.imp fun {a b} z e => ?_)
  have : a.1 = b.1 := Sum.inl.inj e
  omega
theorem val_enc : ∀ (hs : List (Int × Int)) (n : Int), (valV (enc hs) (Sum.inl n)).getD (.int 0) = .int (look hs n)
  | [], _ => rfl
  | h :: r, n => by
    by_cases e : h.1 = n
    · show (valV ((Sum.inl h.1, V.int h.2) :: enc r) (Sum.inl n)).getD (.int 0) = _
      rw [valV_pos (by rw [e])]
      unfold look
      rw [List.find?_cons, show decide (h.1 = n) = true from decide_eq_true e]
      rfl
    · show (valV ((Sum.inl h.1, V.int h.2) :: enc r) (Sum.inl n)).getD (.int 0) = _
      rw [valV_neg (fun z => e (Sum.inl.inj z)), val_enc r n]
      unfold look
      rw [List.find?_cons, show decide (h.1 = n) = false from decide_eq_false e]
theorem six (L : Int) (h : 1 ≤ L) : ([0, 1, L - 1, L, L + 1, -1].map fun n : Int => V.bl (decide (0 < n ∧ n < L))) = [.bl false, .bl (decide (1 < L)), .bl (decide (1 < L)), .bl false, .bl false, .bl false] := by
  have e1 : decide ((0 : Int) < 0 ∧ 0 < L) = false := decide_eq_false fun z => by omega
  have e2 : decide ((0 : Int) < 1 ∧ 1 < L) = decide (1 < L) := by simp
  have e3 : decide (0 < L - 1 ∧ L - 1 < L) = decide (1 < L) := by
    rw [decide_eq_decide]
    omega
  have e4 : decide (0 < L ∧ L < L) = false := decide_eq_false fun z => by omega
  have e5 : decide (0 < L + 1 ∧ L + 1 < L) = false := decide_eq_false fun z => by omega
  have e6 : decide ((0 : Int) < -1 ∧ -1 < L) = false := decide_eq_false fun z => by omega
  simp only [List.map, e1, e2, e3, e4, e5, e6]
theorem eqv_len : ∀ {xs ys : List PyData}, PyData.eqvAll xs ys = true → xs.length = ys.length
  | [], [], _ => rfl
  | [], _ :: _, h => by simp [PyData.eqvAll] at h
  | _ :: _, [], h => by simp [PyData.eqvAll] at h
  | x :: xs, y :: ys, h => by
    simp only [PyData.eqvAll, Bool.and_eq_true] at h
    simp [eqv_len h.2]
theorem SqL.same {K : PySem.W.Frag} {H H' : Hp} {a : Addr} {xs : List V} (h : SqL K H a xs) (k : Same H H') : SqL K H' a xs := by
  rcases h with (h | ⟨o, h⟩) | h
  · exact .inl (.inl (k _ _ h))
  · exact .inl (.inr ⟨o, k _ _ h⟩)
  · exact .inr h
section
variable {P : Program} {w : World} {K : PySem.W.Frag} {mg : Str → Option Value} {base : Heap} {C : Addr}
/-- the class, as those who make webs need it -/
def MakesW (P : Program) (w : World) (K : PySem.W.Frag) (mg : Str → Option Value) (base : Heap) (C : Addr) : Prop := ∃ (fT e : Addr) (fdT : FuncData), FnI K fT fdT e ∧ SqT K (fun _ => none) e [] ∧ FnOk P w K mg base CX0 5 fT fdT P_Web_init (spInit K C) ∧ Mk K C fT ∧ mg "Web" = some (.ref C)
/-- a def that shows things, as callers need it -/
def HasG (P : Program) (w : World) (K : PySem.W.Frag) (mg : Str → Option Value) (base : Heap) (n : Str) (st : Stmt) (k : Nat) (ps : List Str) (sp : Sp) : Prop := ∃ (fT : Addr) (fdT : FuncData), FnP K n n st fT fdT ∧ Binds K fdT ps [] ∧ FnG P w K mg base CX0 k fT fdT ps sp ∧ mg n = some (.ref fT)
end
end Cw
namespace Cw
open PySem PySem.Spec PyProof.Rows L2

theorem op_in_seqK {X : Cx} {K : PySem.W.Frag} (h : X.K = K) : OpR X (compareOp .In) (rIn K false) := by
  subst h
  exact op_in_seq
theorem lc_filt {J : It} {xs : List V} {G : Hp → Prop} (w : Walk J xs.length G (YAt xs)) {g : TG} {tt : TT} {te : TE} {vs : List Nat} {σ : L2.St} {H1 : Hp} {D : Addr} {Qd : Hp → Prop} (pr : V → Bool) (fn : V → V) (nD : H1 D = none) (hG : ∀ H, Same H1 H → G H) (hn : xs.length ≤ 1000)
    (step : ∀ (i : Nat) (x : V) (H2 : Hp) (kt : V → Hp → Prop) (kf : Hp → Prop), xs[i]? = some x → Same H1 H2 → (pr x = true → ∀ H4, Same H2 H4 → kt (fn x) H4) → (pr x = false → ∀ H4, Same H2 H4 → kf H4) → g x (wipe σ vs) H2 fun σ2 H3 => wipe σ2 vs = wipe σ vs ∧ tt σ2 H3 fun b H4 => if b = true then te σ2 H4 kt else kf H4)
    (q : ∀ H', Same H1 H' → H' D = some (.lst ((xs.filter pr).map fn)) → Qd H') : LcD J g tt te vs σ H1 D Qd := by
  refine lc_it w (fun i H2 => Same H1 (Off D H2) ∧ H2 D = some (.lst (((xs.take i).filter pr).map fn))) ⟨fun b o e => Off.at (ne_of_none e nD) (same_new nD _ _ e), upd_same⟩ (fun i H2 _ hh => hG H2 (fun b o e => Off.same _ _ (hh.1 b o e))) ?_ ?_
  · rintro i x H2 H2' hi ⟨sm, hD⟩ ⟨rfl, hxi⟩
    have tk : xs.take (i + 1) = xs.take i ++ [x] := by rw [List.take_add_one, hxi]; rfl
    refine step i x H2' (fun y H4 => ∃ acc, H4 D = some (.lst acc) ∧ acc.length < sizeLine ∧ (Same H1 (Off D (upd H4 D (.lst (acc ++ [y])))) ∧ (upd H4 D (.lst (acc ++ [y]))) D = some (.lst (((xs.take (i + 1)).filter pr).map fn)))) (fun H3 => Same H1 (Off D H3) ∧ H3 D = some (.lst (((xs.take (i + 1)).filter pr).map fn))) hxi (fun b o e => Off.same _ _ (sm b o e)) (fun e H4 s4 => ?_) (fun e H4 s4 => ?_)
    · refine ⟨_, s4 _ _ hD, ?_, fun b o e => ?_, ?_⟩
      · rw [List.length_map]
        have h1 := List.length_filter_le pr (xs.take i)
        rw [List.length_take] at h1
        exact small1000 (by omega)
      · have nb : b ≠ D := ne_of_none e nD
        exact Off.at nb (by rw [upd_ne nb]; exact s4 _ _ (Off.same _ _ (sm b o e)))
      · rw [upd_same, tk, List.filter_append, List.map_append, List.filter_cons, if_pos e]
        rfl
    · refine ⟨fun b o e => Off.at (ne_of_none e nD) (s4 _ _ (Off.same _ _ (sm b o e))), ?_⟩
      rw [s4 _ _ hD, tk, List.filter_append, List.filter_cons, if_neg (by rw [e]; exact Bool.false_ne_true)]
      simp
  · rintro H2 ⟨sm, hD⟩
    rw [List.take_length] at hD
    exact q H2 (fun b o e => Off.same _ _ (sm b o e)) hD
theorem tie_inj {ts : List Tie} (nd : (ts.map (·.nm)).Nodup) {t u : Tie} (ht : t ∈ ts) (hu : u ∈ ts) (e : t.nm = u.nm) : t = u := by
  obtain ⟨i, hi, rfl⟩ := List.getElem_of_mem ht
  obtain ⟨j, hj, rfl⟩ := List.getElem_of_mem hu
  have k := List.pairwise_iff_getElem.mp nd
  by_cases h1 : i < j
  · have := k i j (by rw [List.length_map]; exact hi) (by rw [List.length_map]; exact hj) h1
    rw [List.getElem_map, List.getElem_map] at this
    exact absurd e this
  · by_cases h2 : j < i
    · have := k j i (by rw [List.length_map]; exact hj) (by rw [List.length_map]; exact hi) h2
      rw [List.getElem_map, List.getElem_map] at this
      exact absurd e.symm this
    · have : i = j := by omega
      subst this
      rfl
def strP (p : Str → Bool) : V → Bool
  | .str n => p n
  | _ => false
theorem strP_map (p : Str → Bool) (l : List Str) : ((l.map V.str).filter (strP p)).map id = (l.filter p).map V.str := by
  rw [List.map_id, List.filter_map]
  rfl
def But2 (d l : Addr) (H H' : Hp) : Prop := ∀ b o, b ≠ d → b ≠ l → H b = some o → H' b = some o
theorem But2.trans {d l : Addr} {H H1 H2 : Hp} (a : But2 d l H H1) (b : But2 d l H1 H2) : But2 d l H H2 := fun c o n m e => b c o n m (a c o n m e)
theorem Same.but2 {d l : Addr} {H H1 : Hp} (a : Same H H1) : But2 d l H H1 := fun c o _ _ e => a c o e
theorem snocCases {α : Type} (l : List α) : l = [] ∨ ∃ ys y, l = ys ++ [y] := by
  cases l with
  | nil => exact .inl rfl
  | cons a r => exact .inr ⟨(a :: r).dropLast, (a :: r).getLast (by simp), (List.dropLast_concat_getLast _).symm⟩
theorem erase_perm {α : Type} : ∀ {l : List α} {i : Nat} (h : i < l.length), (l[i] :: l.eraseIdx i).Perm l
  | a :: r, 0, _ => .refl _
  | a :: r, i + 1, h => by
    have h2 : i < r.length := by simpa using h
    have ih := erase_perm h2
    show (r[i] :: a :: r.eraseIdx i).Perm (a :: r)
    exact (List.Perm.swap _ _ _).trans (.cons _ ih)
theorem lc_data {J : It} {xs : List V} {G : Hp → Prop} (w : Walk J xs.length G (YAt xs)) {g : TG} {te : TE} {vs : List Nat} {σ : L2.St} {H1 : Hp} {D : Addr} {Qd : Hp → Prop} (ds : List PyData) (nD : H1 D = none) (hG : ∀ H, Same H1 H → G H) (hl : ds.length = xs.length) (hn : xs.length ≤ 1000)
    (step : ∀ (i : Nat) (x : V) (d : PyData) (H2 : Hp) (k : V → Hp → Prop), xs[i]? = some x → ds[i]? = some d → Same H1 H2 → (∀ y H4, Same H2 H4 → Dx (Nw H2 H4) y d → k y H4) → g x (wipe σ vs) H2 fun σ2 H3 => wipe σ2 vs = wipe σ vs ∧ te σ2 H3 k)
    (q : ∀ H' us, Same H1 H' → H' D = some (.lst us) → DxAll (Off D (Nw H1 H')) us ds → Qd H') : LcD J g tYes te vs σ H1 D Qd := by
  refine lc_it w (fun i H2 => Same H1 (Off D H2) ∧ ∃ us, H2 D = some (.lst us) ∧ DxAll (Off D (Nw H1 H2)) us (ds.take i)) ⟨fun b o e => Off.at (ne_of_none e nD) (same_new nD _ _ e), [], upd_same, .nil⟩ (fun i H2 _ hh => hG H2 (fun b o e => Off.same _ _ (hh.1 b o e))) ?_ ?_
  · rintro i x H2 H2' hi ⟨sm, us, hD, hus⟩ ⟨rfl, hxi⟩
    have hy : i < ds.length := by omega
    have s12 : Same H1 H2' := fun b o e => Off.same _ _ (sm b o e)
    have lus : us.length = i := by
      have := dxall_len hus
      rw [List.length_take] at this
      omega
    have e := step i x ds[i] H2' (fun y H4 => ∃ acc, H4 D = some (.lst acc) ∧ acc.length < sizeLine ∧ (Same H1 (Off D (upd H4 D (.lst (acc ++ [y])))) ∧ ∃ us', (upd H4 D (.lst (acc ++ [y]))) D = some (.lst us') ∧ DxAll (Off D (Nw H1 (upd H4 D (.lst (acc ++ [y]))))) us' (ds.take (i + 1)))) hxi (List.getElem?_eq_getElem hy) s12 (fun y H4 s4 hy4 => ?_)
    · exact e
    · refine ⟨us, s4 _ _ hD, by rw [lus]; exact small1000 (by omega), fun b o e => ?_, us ++ [y], upd_same, ?_⟩
      · have nb : b ≠ D := ne_of_none e nD
        exact Off.at nb (by rw [upd_ne nb]; exact s4 _ _ (s12 _ _ e))
      · rw [List.take_add_one, List.getElem?_eq_getElem hy]
        refine dxall_snoc (Dx.sameAll (fun b o e => ?_) _ _ hus) (Dx.same (fun b o e => ?_) _ _ hy4)
        · have nb := Off.ne e
          obtain ⟨e1, e2⟩ := Nw.get (Off.same _ _ e)
          exact Off.at nb (Nw.at e1 (by rw [upd_ne nb]; exact s4 _ _ e2))
        · obtain ⟨e1, e2⟩ := Nw.get e
          have nb : b ≠ D := (ne_of_none hD e1).symm
          exact Off.at nb (Nw.at (none_of s12 e1) (by rw [upd_ne nb]; exact e2))
  · rintro H2 ⟨sm, us, hD, hus⟩
    rw [← hl, List.take_length] at hus
    exact q H2 us (fun b o e => Off.same _ _ (sm b o e)) hD hus
theorem dxall_rev {H : Hp} : ∀ {xs : List V} {ds : List PyData}, DxAll H xs ds → DxAll H xs.reverse ds.reverse
  | _, _, .nil => .nil
  | _, _, .cons h r => by
    rw [List.reverse_cons, List.reverse_cons]
    exact dxall_snoc (dxall_rev r) h
def turn (t : Tie) : Tie := ⟨t.nm, t.other, t.one, t.len, t.hs.reverse.map fun h => (t.len - h.1, h.2)⟩
theorem Good.turn {r : Bool} {ns : List Str} {t : Tie} (g : Good r ns t) : Good r ns (turn t) where
  nm := g.nm
  h1 := g.h2
  h2 := g.h1
  ne := fun e => g.ne e.symm
  ln := g.ln
  hr := by
    refine ⟨?_, fun h hh => ?_⟩
    · show (t.hs.reverse.map fun h => (t.len - h.1, h.2)).Pairwise (fun a b => a.1 < b.1)
      rw [List.pairwise_map, List.pairwise_reverse]
      refine g.hr.up.imp fun {a b} z => ?_
      show t.len - b.1 < t.len - a.1
      omega
    · obtain ⟨x, hx, rfl⟩ := List.mem_map.mp hh
      obtain ⟨b1, b2, b3, b4⟩ := g.hr.at_ x (List.mem_reverse.mp hx)
      show 1 ≤ t.len - x.1 ∧ t.len - x.1 < t.len ∧ 1 ≤ x.2 ∧ x.2 ≤ 2
      omega
theorem lc_dataY {J : It} {n : Nat} {G : Hp → Prop} {Y : Nat → Hp → V → Hp → Prop} (w : Walk J n G Y) {g : TG} {te : TE} {vs : List Nat} {σ : L2.St} {H1 : Hp} {D : Addr} {Qd : Hp → Prop} (ds : List PyData) (nD : H1 D = none) (hG : ∀ H, Same H1 H → G H) (hl : ds.length = n) (hn : n ≤ 1000)
    (step : ∀ (i : Nat) (x : V) (d : PyData) (H2 H2' : Hp) (k : V → Hp → Prop), i < n → ds[i]? = some d → Same H1 H2 → Y i H2 x H2' → (∀ y H4, Same H2 H4 → Dx (Nw H2 H4) y d → k y H4) → g x (wipe σ vs) H2' fun σ2 H3 => wipe σ2 vs = wipe σ vs ∧ te σ2 H3 k)
    (q : ∀ H' us, Same H1 H' → H' D = some (.lst us) → DxAll (Off D (Nw H1 H')) us ds → Qd H') : LcD J g tYes te vs σ H1 D Qd := by
  refine lc_it w (fun i H2 => Same H1 (Off D H2) ∧ ∃ us, H2 D = some (.lst us) ∧ DxAll (Off D (Nw H1 H2)) us (ds.take i)) ⟨fun b o e => Off.at (ne_of_none e nD) (same_new nD _ _ e), [], upd_same, .nil⟩ (fun i H2 _ hh => hG H2 (fun b o e => Off.same _ _ (hh.1 b o e))) ?_ ?_
  · rintro i x H2 H2' hi ⟨sm, us, hD, hus⟩ hY
    have hy : i < ds.length := by omega
    have s12 : Same H1 H2 := fun b o e => Off.same _ _ (sm b o e)
    have lus : us.length = i := by
      have := dxall_len hus
      rw [List.length_take] at this
      omega
    have e := step i x ds[i] H2 H2' (fun y H4 => ∃ acc, H4 D = some (.lst acc) ∧ acc.length < sizeLine ∧ (Same H1 (Off D (upd H4 D (.lst (acc ++ [y])))) ∧ ∃ us', (upd H4 D (.lst (acc ++ [y]))) D = some (.lst us') ∧ DxAll (Off D (Nw H1 (upd H4 D (.lst (acc ++ [y]))))) us' (ds.take (i + 1)))) hi (List.getElem?_eq_getElem hy) s12 hY (fun y H4 s4 hy4 => ?_)
    · exact e
    · refine ⟨us, s4 _ _ hD, by rw [lus]; exact small1000 (by omega), fun b o e => ?_, us ++ [y], upd_same, ?_⟩
      · have nb : b ≠ D := ne_of_none e nD
        exact Off.at nb (by rw [upd_ne nb]; exact s4 _ _ (s12 _ _ e))
      · rw [List.take_add_one, List.getElem?_eq_getElem hy]
        refine dxall_snoc (Dx.sameAll (fun b o e => ?_) _ _ hus) (Dx.same (fun b o e => ?_) _ _ hy4)
        · have nb := Off.ne e
          obtain ⟨e1, e2⟩ := Nw.get (Off.same _ _ e)
          exact Off.at nb (Nw.at e1 (by rw [upd_ne nb]; exact s4 _ _ e2))
        · obtain ⟨e1, e2⟩ := Nw.get e
          have nb : b ≠ D := (ne_of_none hD e1).symm
          exact Off.at nb (Nw.at (none_of s12 e1) (by rw [upd_ne nb]; exact e2))
  · rintro H2 ⟨sm, us, hD, hus⟩
    rw [← hl, List.take_length] at hus
    exact q H2 us (fun b o e => Off.same _ _ (sm b o e)) hD hus
theorem pers_inv {K : PySem.W.Frag} {H : Hp} : ∀ {us : List V} {gs : List (Str × Int)}, DxAll H us (gs.map dPer) → ∃ ps : List Addr, us = ps.map V.ref ∧ Paired (fun p kv => SqT K H p [kV kv.1, kv.2]) ps (kvF gs)
  | [], [], _ => ⟨[], rfl, .nil⟩
  | [], _ :: _, h => by cases h
  | _ :: _, [], h => by cases h
  | u :: us, f :: gs, h => by
    cases h with
    | cons a r =>
      obtain ⟨ps, e, q⟩ := pers_inv (K := K) r
      obtain ⟨p, rfl, hp⟩ := dx_per a
      exact ⟨p :: ps, by rw [e]; rfl, .cons (SqT.of hp) q⟩
theorem merge_kvF {gs : List (Str × Int)} (nd : (gs.map (·.1)).Nodup) : mergeK [] (kvF gs) = kvF gs := by
  refine (merge_new _ [] ?_).trans (List.nil_append _)
  show ((kvF gs).map (·.1)).Nodup
  unfold kvF
  rw [List.map_map]
  rw [List.Nodup, List.pairwise_map] at *
  exact nd.imp fun {a b} z e => z (Sum.inr.inj e)
theorem perm2 {ns : List Int} {x y : Int} (h : ns.Perm [x, y]) : ∃ a b, ns = [a, b] ∧ ((a = x ∧ b = y) ∨ (a = y ∧ b = x)) := by
  have l := h.length_eq
  match ns, l with
  | [a, b], _ =>
    refine ⟨a, b, rfl, ?_⟩
    have ha : a ∈ [x, y] := h.mem_iff.mp (by simp)
    rcases List.mem_cons.mp ha with e | e
    · subst e
      have := (List.perm_cons a).mp h
      have e2 := List.perm_singleton.mp this
      cases e2
      exact .inl ⟨rfl, rfl⟩
    · have e := List.mem_singleton.mp e
      subst e
      have := (List.perm_cons a).mp (h.trans (List.Perm.swap _ _ _))
      have e2 := List.perm_singleton.mp this
      cases e2
      exact .inr ⟨rfl, rfl⟩
theorem map_fst (ns : List Str) (mk : Str → Int) : (ns.map fun z => (z, mk z)).map (·.1) = ns := by
  rw [List.map_map]
  exact List.map_id _
theorem idx_at {ns : List Str} (nd : ns.Nodup) {i : Nat} (hi : i < ns.length) : ns.idxOf ns[i] = i := by
  exact nd.idxOf_getElem i hi
theorem lc_filtY {α : Type} {J : It} {n : Nat} {G : Hp → Prop} {Y : Nat → Hp → V → Hp → Prop} (w : Walk J n G Y) {g : TG} {tt : TT} {te : TE} {vs : List Nat} {σ : L2.St} {H1 : Hp} {D : Addr} {Qd : Hp → Prop} (as : List α) (pr : α → Bool) (fn : α → V) (nD : H1 D = none) (hG : ∀ H, Same H1 H → G H) (hl : as.length = n) (hn : n ≤ 1000)
    (step : ∀ (i : Nat) (x : V) (a : α) (H2 H2' : Hp) (kt : V → Hp → Prop) (kf : Hp → Prop), i < n → as[i]? = some a → Same H1 H2 → Y i H2 x H2' → (pr a = true → ∀ H4, Same H2 H4 → kt (fn a) H4) → (pr a = false → ∀ H4, Same H2 H4 → kf H4) → g x (wipe σ vs) H2' fun σ2 H3 => wipe σ2 vs = wipe σ vs ∧ tt σ2 H3 fun b H4 => if b = true then te σ2 H4 kt else kf H4)
    (q : ∀ H', Same H1 H' → H' D = some (.lst ((as.filter pr).map fn)) → Qd H') : LcD J g tt te vs σ H1 D Qd := by
  refine lc_it w (fun i H2 => Same H1 (Off D H2) ∧ H2 D = some (.lst (((as.take i).filter pr).map fn))) ⟨fun b o e => Off.at (ne_of_none e nD) (same_new nD _ _ e), upd_same⟩ (fun i H2 _ hh => hG H2 (fun b o e => Off.same _ _ (hh.1 b o e))) ?_ ?_
  · rintro i x H2 H2' hi ⟨sm, hD⟩ hY
    have ha : i < as.length := by omega
    have tk : as.take (i + 1) = as.take i ++ [as[i]] := by rw [List.take_add_one, List.getElem?_eq_getElem ha]; rfl
    refine step i x as[i] H2 H2' (fun y H4 => ∃ acc, H4 D = some (.lst acc) ∧ acc.length < sizeLine ∧ (Same H1 (Off D (upd H4 D (.lst (acc ++ [y])))) ∧ (upd H4 D (.lst (acc ++ [y]))) D = some (.lst (((as.take (i + 1)).filter pr).map fn)))) (fun H3 => Same H1 (Off D H3) ∧ H3 D = some (.lst (((as.take (i + 1)).filter pr).map fn))) hi (List.getElem?_eq_getElem ha) (fun b o e => Off.same _ _ (sm b o e)) hY (fun e H4 s4 => ?_) (fun e H4 s4 => ?_)
    · refine ⟨_, s4 _ _ hD, ?_, fun b o e => ?_, ?_⟩
      · rw [List.length_map]
        have h1 := List.length_filter_le pr (as.take i)
        rw [List.length_take] at h1
        exact small1000 (by omega)
      · have nb : b ≠ D := ne_of_none e nD
        exact Off.at nb (by rw [upd_ne nb]; exact s4 _ _ (Off.same _ _ (sm b o e)))
      · rw [upd_same, tk, List.filter_append, List.map_append, List.filter_cons, if_pos e]
        rfl
    · refine ⟨fun b o e => Off.at (ne_of_none e nD) (s4 _ _ (Off.same _ _ (sm b o e))), ?_⟩
      rw [s4 _ _ hD, tk, List.filter_append, List.filter_cons, if_neg (by rw [e]; exact Bool.false_ne_true)]
      simp
  · rintro H2 ⟨sm, hD⟩
    rw [← hl, List.take_length] at hD
    exact q H2 (fun b o e => Off.same _ _ (sm b o e)) hD
theorem dspec_inv {H : Hp} {v : V} {fs : List (Str × Int)} {ts : List Tie} (h : Dx H v (dSpec fs ts)) : ∃ t lf lj xs js, v = .ref t ∧ H t = some (.tup [.ref lf, .ref lj]) ∧ H lf = some (.lst xs) ∧ H lj = some (.lst js) ∧ DxAll H xs (fs.map dPer) ∧ DxAll H js (ts.map dTie) ∧ xs.length = fs.length ∧ js.length = ts.length := by
  obtain ⟨t0, ys, rfl, ht0, hy⟩ := dx_tuple h
  cases hy with
  | @cons vf _ _ _ hf hy =>
  cases hy with
  | @cons vj _ _ _ hj hy =>
  cases hy
  obtain ⟨lf, xs, rfl, hlf, hxs⟩ := dx_list hf
  obtain ⟨lj, js, rfl, hlj, hjs⟩ := dx_list hj
  refine ⟨t0, lf, lj, xs, js, rfl, ht0, hlf, hlj, hxs, hjs, ?_, ?_⟩
  · have := dxall_len hxs
    rw [List.length_map] at this
    exact this
  · have := dxall_len hjs
    rw [List.length_map] at this
    exact this
theorem get_kvF {H : Hp} {d : Addr} {ns : List Str} {mk : Str → Int} (hd : H d = some (.dK (kvF (ns.map fun z => (z, mk z))))) (nd : ns.Nodup) {z : Str} (hz : z ∈ ns) : DGet H d (.str z) (some (.int (mk z))) := by
  have nfs : ((ns.map fun z => (z, mk z)).map (·.1)).Nodup := by rw [map_fst]; exact nd
  have v1 := valF_at (g := (z, mk z)) nfs (List.mem_map.mpr ⟨_, hz, rfl⟩)
  have g1 := DGet.k (k := Sum.inr z) hd
  rw [show (valV (kvF (ns.map fun z => (z, mk z))) (Sum.inr z)) = some (.int (mk z)) from v1] at g1
  exact g1
theorem strs_inv {H : Hp} : ∀ {cs : List V} {zs : List Str}, DxAll H cs (zs.map PyData.str) → cs = zs.map V.str
  | [], [], _ => rfl
  | [], _ :: _, h => by cases h
  | _ :: _, [], h => by cases h
  | c :: cs, z :: zs, h => by
    cases h with
    | cons a r =>
      rw [strs_inv r]
      cases a
      rfl
section
variable {P : Program} {w : World} {K : PySem.W.Frag} {mg : Str → Option Value} {base : Heap} {C : Addr}
theorem bind_2_rounds {f e : Addr} {fd : FuncData} (F : FnI K f fd e) : ∃ its mv : List Value, KBn K fd P_Web_init 3 ["rounds"] (fun us ws => us ++ ws) (fun vs zs => vs ++ zs) := by
  refine F.kbinds (n := 3) (ks := ["rounds"]) (ms := []) (g := fun us its mv ws => us ++ ws) (by simp) (by simp) (by simp) (fun a b c d => a.append d) ?_
  intro T D doc pm an cdv ct us its mv ws h1 h2 h3 h4
  match us, h1, its, h2, mv, h3, ws, h4 with
  | [u1, u2, u3], _, [i1], _, [], _, [w1], _ =>
    refine ⟨_, rfl, ?_⟩
    exact rfl
end
section
variable {P : Program} {w : World} {K : PySem.W.Frag} {mg : Str → Option Value} {base : Heap} {C : Addr}
theorem init_new {Hm : Hp} {x dx : Addr} {v u : V} {r : Bool} {fs : List (Str × Int)} {ts : List Tie} {M : Hp → Prop} (nx : Hm x = none) (ndx : Hm dx = none) (hf : Dx Hm v (dFolk fs)) (hu : TiesIn K Hm u ts) (SP : Specs r fs ts)
    (k : ∀ H', Same Hm H' → WebAt C (Nw Hm H') x r fs ts → M H') : spInit K C [.ref x, v, u, .bl r] (upd (upd Hm dx (.own x)) x (.ins C dx [])) (fun z H3 => z = .non ∧ M H3) E0 := by
  have sx : Same Hm (Off x (upd (upd Hm dx (.own x)) x (.ins C dx []))) := fun b o eb => by
    have b1 := ne_of_none eb nx
    have b2 := ne_of_none eb ndx
    exact Off.at b1 (by rw [upd_ne b1, upd_ne b2]; exact eb)
  refine ⟨x, dx, _, u, r, fs, ts, rfl, upd_same, Dx.same sx _ _ hf, TiesIn.same hu sx, SP, fun H' kk W => ⟨rfl, k H' (fun b o eb => Off.same _ _ (kk _ _ (sx _ _ eb))) (WebAt.same W fun b o eb => ?_)⟩⟩
  obtain ⟨e1, e2⟩ := Nw.get eb
  exact Nw.at (none_of sx e1) e2
end
theorem dxall_perm {α : Type} {H : Hp} {d : α → PyData} {xs ys : List V} (p : ys.Perm xs) : ∀ {as : List α}, DxAll H xs (as.map d) → ∃ bs : List α, bs.Perm as ∧ DxAll H ys (bs.map d) := by
  induction p with
  | nil => intro as h; exact ⟨as, .refl _, h⟩
  | cons x _ ih =>
    intro as h
    cases as with
    | nil => cases h
    | cons a r =>
      cases h with
      | cons h1 h2 =>
        obtain ⟨bs, pb, hb⟩ := ih h2
        exact ⟨a :: bs, .cons _ pb, .cons h1 hb⟩
  | swap x y l =>
    intro as h
    match as, h with
    | a :: b :: r, .cons h1 (.cons h2 h3) => exact ⟨b :: a :: r, .swap _ _ _, .cons h2 (.cons h1 h3)⟩
  | trans _ _ ih1 ih2 =>
    intro as h
    obtain ⟨bs, pb, hb⟩ := ih2 h
    obtain ⟨cs, pc, hc⟩ := ih1 hb
    exact ⟨cs, pc.trans pb, hc⟩
theorem told_perm {ts us : List Tie} (p : ts.Perm us) : told ts = told us := by
  induction p with
  | nil => rfl
  | cons x _ ih => show _ + _ = _ + _; rw [ih]
  | swap x y l => show _ + (_ + _) = _ + (_ + _); omega
  | trans _ _ i1 i2 => exact i1.trans i2
end Cw
namespace Cw
open PySem PySem.Spec PyProof.Rows L2
/-! texts of numbers, rows, and whole texts; calls by names alone -/
abbrev numS (n : Int) : Str := Str.ofString (toString n)
theorem tl_numS {n : Int} (h : 0 ≤ n) : TL.tl (numS n) = TL.numL n.toNat := by
  have e : n = ((n.toNat : Nat) : Int) := by omega
  have := TL.tl_num n.toNat
  rw [← e] at this
  exact this
theorem digs_numS {n : Int} (h : 0 ≤ n) : ∀ c ∈ TL.tl (numS n), 48 ≤ c ∧ c ≤ 57 := by
  intro c hc
  rw [tl_numS h] at hc
  refine ⟨?_, ?_⟩
  · refine Nat.le_of_not_lt fun z => ?_
    exact TL.numL_free (n := n.toNat) (s := c) (.inl z) hc
  · refine Nat.le_of_not_lt fun z => ?_
    exact TL.numL_free (n := n.toNat) (s := c) (.inr z) hc
theorem len_numS {n : Int} (h : 0 ≤ n) (hi : n ≤ 10 ^ 30) : 1 ≤ (numS n).length ∧ (numS n).length ≤ 31 := by
  rw [TL.len_tl, tl_numS h]
  refine ⟨?_, TL.numL_len (k := 31) (by decide) (by omega)⟩
  have := TL.numL_ne n.toNat
  cases e : TL.numL n.toNat with
  | nil => exact absurd e this
  | cons a l => simp
theorem int_numS {n : Int} (h : 0 ≤ n) (hi : n ≤ 10 ^ 30) : intText? (numS n) = some n := by
  have e : n = ((n.toNat : Nat) : Int) := by omega
  have l := (len_numS h hi).2
  rw [TL.len_tl, tl_numS h] at l
  have := TL.int_num (n := n.toNat) (by omega)
  rw [← e] at this
  exact this
theorem head_num : ∀ n : Nat, 1 ≤ n → ∀ l, TL.numL n ≠ 48 :: l := by
  intro n
  induction n using Nat.strongRecOn with
  | ind n ih =>
    intro h1 l e
    by_cases h : n < 10
    · rw [TL.numL_lt h] at e
      have := (List.cons.inj e).1
      omega
    · rw [TL.numL_step (by omega)] at e
      cases e2 : TL.numL (n / 10) with
      | nil => exact TL.numL_ne _ e2
      | cons a r =>
        rw [e2, List.cons_append] at e
        have := (List.cons.inj e).1
        subst this
        exact ih (n / 10) (by omega) (by omega) r e2
def wordsP (f : Str × Int) : List Str := [Str.ofString "person", f.1, numS f.2]
def hsW (hs : List (Int × Int)) : List Str := hs.flatMap fun h => [numS h.1, numS h.2]
def wordsT (t : Tie) : List Str := [Str.ofString "tie", t.nm, t.one, t.other, numS t.len] ++ hsW t.hs
abbrev blank : Str := Str.ofString " "
abbrev feed : Str := Str.ofString "\n"
def rowP (f : Str × Int) : Str := Txt.join blank (wordsP f)
def rowT (t : Tie) : Str := Txt.join blank (wordsT t)
def headS (r : Bool) : Str := if r then Str.ofString "rounds" else Str.ofString "cries"
def rowsS (r : Bool) (fs : List (Str × Int)) (ts : List Tie) : List Str := headS r :: (fs.map rowP ++ ts.map rowT)
def txL (rows : List Str) : List Nat := rows.flatMap fun x => TL.tl x ++ [10]
def txS (rows : List Str) : Str := ⟨(txL rows).toArray⟩
theorem tl_txS (rows : List Str) : TL.tl (txS rows) = txL rows := TL.tl_mk _
theorem tl_feed : TL.tl feed = [10] := by decide
theorem tl_blank : TL.tl blank = [32] := by decide
theorem txL_snoc (rows : List Str) (x : Str) : txL (rows ++ [x]) = txL rows ++ (TL.tl x ++ [10]) := by
  unfold txL
  rw [List.flatMap_append]
  simp
theorem txS_snoc (rows : List Str) (x : Str) : txS rows ++ x ++ feed = txS (rows ++ [x]) := by
  apply TL.ext_tl
  rw [TL.tl_append, TL.tl_append, tl_txS, tl_txS, txL_snoc, tl_feed, List.append_assoc]
theorem joinL_feed : ∀ rows : List (List Nat), TL.joinL [10] (rows ++ [[]]) = rows.flatMap fun x => x ++ [10]
  | [] => rfl
  | [x] => by simp [TL.joinL]
  | x :: y :: r => by
    have := joinL_feed (y :: r)
    rw [List.cons_append, List.cons_append] at *
    show x ++ ([10] ++ TL.joinL [10] (y :: (r ++ [[]]))) = _
    rw [this]
    simp
theorem joinL_none : ∀ rows : List (List Nat), TL.joinL [] rows = rows.flatten
  | [] => rfl
  | [x] => by simp [TL.joinL]
  | x :: y :: r => by
    have := joinL_none (y :: r)
    show x ++ ([] ++ TL.joinL [] (y :: r)) = _
    rw [this]
    simp
theorem join_none (rows : List Str) : Txt.join (Str.ofString "") (rows.map fun x => x ++ feed) = txS rows := by
  apply TL.ext_tl
  rw [TL.join_eq, TL.tl_join, tl_txS]
  rw [show TL.tl (Str.ofString "") = [] from by decide, joinL_none, List.map_map]
  unfold txL
  rw [List.flatMap_def]
  congr 1
  apply List.map_congr_left
  intro x _
  show TL.tl (x ++ feed) = _
  rw [TL.tl_append, tl_feed]
theorem split_txS {rows : List Str} (h : ∀ x ∈ rows, 10 ∉ TL.tl x) : Txt.split (txS rows) feed = rows ++ [Str.ofString ""] := by
  have e : txS rows = Txt.join feed (rows ++ [Str.ofString ""]) := by
    apply TL.ext_tl
    rw [TL.join_eq, TL.tl_join, tl_txS, tl_feed, List.map_append]
    rw [show List.map TL.tl [Str.ofString ""] = [[]] from by decide, joinL_feed]
    unfold txL
    rw [List.flatMap_map]
  rw [e]
  refine TL.split_join (s := 10) (S := []) tl_feed (by decide +kernel) (by simp) ?_
  intro p hp
  rcases List.mem_append.mp hp with h1 | h1
  · exact h p h1
  · rw [List.mem_singleton.mp h1, show TL.tl (Str.ofString "") = [] from by decide]
    simp
theorem split_row {ws : List Str} (hne : ws ≠ []) (h : ∀ x ∈ ws, 32 ∉ TL.tl x) : Txt.split (Txt.join blank ws) blank = ws :=
  TL.split_join (s := 32) (S := []) tl_blank (by decide +kernel) hne h
theorem joinL_snoc (S x : List Nat) : ∀ {l : List (List Nat)}, l ≠ [] → TL.joinL S (l ++ [x]) = TL.joinL S l ++ (S ++ x)
  | [], h => absurd rfl h
  | [a], _ => by
    show a ++ (S ++ x) = a ++ (S ++ x)
    rfl
  | a :: b :: r, _ => by
    have := joinL_snoc S x (l := b :: r) (by simp)
    show a ++ (S ++ TL.joinL S ((b :: r) ++ [x])) = a ++ (S ++ TL.joinL S (b :: r)) ++ (S ++ x)
    rw [this]
    simp only [List.append_assoc]
theorem join_snoc {ws : List Str} {x : Str} (h : ws ≠ []) : Txt.join blank (ws ++ [x]) = Txt.join blank ws ++ blank ++ x := by
  apply TL.ext_tl
  rw [TL.tl_append, TL.tl_append, TL.join_eq, TL.join_eq, TL.tl_join, TL.tl_join, tl_blank, List.map_append]
  show TL.joinL [32] (ws.map TL.tl ++ [TL.tl x]) = _
  rw [joinL_snoc _ _ (by simpa using h), List.append_assoc]
theorem join_two {ws : List Str} {x y : Str} (h : ws ≠ []) : Txt.join blank (ws ++ [x, y]) = Txt.join blank ws ++ blank ++ x ++ blank ++ y := by
  rw [show ws ++ [x, y] = (ws ++ [x]) ++ [y] from by simp, join_snoc (by simp), join_snoc h]
theorem str_assoc (a b c : Str) : a ++ b ++ c = a ++ (b ++ c) := by
  apply TL.ext_tl
  simp only [TL.tl_append, List.append_assoc]
theorem join_one (x : Str) : Txt.join blank [x] = x := by
  apply TL.ext_tl
  rw [TL.join_eq, TL.tl_join]
  rfl
theorem rowP_eq (f : Str × Int) : rowP f = Str.ofString "person " ++ f.1 ++ blank ++ numS f.2 := by
  unfold rowP wordsP
  rw [show [Str.ofString "person", f.1, numS f.2] = [Str.ofString "person"] ++ [f.1, numS f.2] from rfl, join_two (by simp), join_one]
  have : Str.ofString "person" ++ blank = Str.ofString "person " := by decide +kernel
  rw [this]
theorem name_free {z : Str} (h : IsName z) {s : Nat} (hs : s < 97) : s ∉ TL.tl z := fun m => by
  have := (h.2.2 s m).1
  omega
theorem num_free {n : Int} (h : 0 ≤ n) {s : Nat} (hs : s < 48) : s ∉ TL.tl (numS n) := fun m => by
  have := (digs_numS h s m).1
  omega
theorem Good.at0 {r : Bool} {ns : List Str} {t : Tie} (g : Good r ns t) : 0 ≤ t.len ∧ t.len ≤ 10 ^ 30 := by
  have := g.ln
  unfold LenR at this
  split at this <;> omega
theorem free_hsW {L : Int} {hs : List (Int × Int)} (h : Hear L hs) {s : Nat} (hs' : s < 48) : ∀ x ∈ hsW hs, s ∉ TL.tl x := by
  intro x hx
  obtain ⟨p, hp, hx⟩ := List.mem_flatMap.mp hx
  have := h.at_ p hp
  simp only [List.mem_cons, List.not_mem_nil, or_false] at hx
  rcases hx with rfl | rfl
  · exact num_free (by omega) hs'
  · exact num_free (by omega) hs'
theorem Specs.isName {r : Bool} {fs : List (Str × Int)} {ts : List Tie} (S : Specs r fs ts) {z : Str} (h : z ∈ fs.map (·.1)) : IsName z := by
  obtain ⟨f, hf, rfl⟩ := List.mem_map.mp h
  exact S.fo.nm f hf
/-- what is known of each word of a row -/
structure Word (x : Str) : Prop where
  f : ∀ s, s ≤ 32 → s ∉ TL.tl x
  l : x.length ≤ 31
theorem wordOf_name {z : Str} (h : IsName z) : Word z := ⟨fun s hs => name_free h (by omega), by have := h.2.1; omega⟩
theorem word_num {n : Int} (h : 0 ≤ n) (hi : n ≤ 10 ^ 30) : Word (numS n) := ⟨fun s hs => num_free h (by omega), (len_numS h hi).2⟩
theorem word_lit {x : Str} (h : (TL.tl x).all (fun c => decide (32 < c)) = true) (l : x.length ≤ 31) : Word x := by
  refine ⟨fun s hs m => ?_, l⟩
  have := of_decide_eq_true (List.all_eq_true.mp h s m)
  omega
theorem words_hs {L : Int} {hs : List (Int × Int)} (h : Hear L hs) (hL : L ≤ 10 ^ 30) : ∀ x ∈ hsW hs, Word x := by
  intro x hx
  obtain ⟨p, hp, hx⟩ := List.mem_flatMap.mp hx
  have := h.at_ p hp
  simp only [List.mem_cons, List.not_mem_nil, or_false] at hx
  rcases hx with rfl | rfl
  · exact word_num (by omega) (by omega)
  · exact word_num (by omega) (by omega)
theorem words_per {r : Bool} {fs : List (Str × Int)} {ts : List Tie} (S : Specs r fs ts) {f : Str × Int} (hf : f ∈ fs) : ∀ x ∈ wordsP f, Word x := by
  intro x hx
  simp only [wordsP, List.mem_cons, List.not_mem_nil, or_false] at hx
  have := S.fo.st f hf
  rcases hx with rfl | rfl | rfl
  · exact word_lit (by decide +kernel) (by decide +kernel)
  · exact wordOf_name (S.fo.nm f hf)
  · exact word_num (by omega) (by omega)
theorem words_tie {r : Bool} {fs : List (Str × Int)} {ts : List Tie} (S : Specs r fs ts) {t : Tie} (ht : t ∈ ts) : ∀ x ∈ wordsT t, Word x := by
  intro x hx
  have g := S.ti t ht
  have a := g.at0
  unfold wordsT at hx
  rcases List.mem_append.mp hx with hx | hx
  · simp only [List.mem_cons, List.not_mem_nil, or_false] at hx
    rcases hx with rfl | rfl | rfl | rfl | rfl
    · exact word_lit (by decide +kernel) (by decide +kernel)
    · exact wordOf_name g.nm
    · exact wordOf_name (S.isName g.h1)
    · exact wordOf_name (S.isName g.h2)
    · exact word_num a.1 a.2
  · exact words_hs g.hr a.2 x hx
theorem hsW_len : ∀ hs : List (Int × Int), (hsW hs).length = 2 * hs.length
  | [] => rfl
  | h :: r => by
    have := hsW_len r
    unfold hsW at *
    rw [List.flatMap_cons, List.length_append, this]
    simp only [List.length_cons, List.length_nil]
    omega
theorem mem_joinL {S : List Nat} {c : Nat} : ∀ {l : List (List Nat)}, c ∈ TL.joinL S l → c ∈ S ∨ ∃ p ∈ l, c ∈ p
  | [], h => by cases h
  | [a], h => .inr ⟨a, by simp, h⟩
  | a :: b :: r, h => by
    have h : c ∈ a ++ (S ++ TL.joinL S (b :: r)) := h
    rcases List.mem_append.mp h with h | h
    · exact .inr ⟨a, by simp, h⟩
    · rcases List.mem_append.mp h with h | h
      · exact .inl h
      · rcases mem_joinL h with h | ⟨p, hp, h⟩
        · exact .inl h
        · exact .inr ⟨p, List.mem_cons_of_mem _ hp, h⟩
theorem row_free {ws : List Str} (h : ∀ x ∈ ws, Word x) : 10 ∉ TL.tl (Txt.join blank ws) := by
  rw [TL.join_eq, TL.tl_join, tl_blank]
  intro m
  rcases mem_joinL m with m | ⟨p, hp, m⟩
  · simp at m
  · obtain ⟨x, hx, rfl⟩ := List.mem_map.mp hp
    exact (h x hx).f 10 (by decide) m
theorem len_joinL {m : Nat} {S : List Nat} : ∀ {l : List (List Nat)}, (∀ p ∈ l, p.length ≤ m) → (TL.joinL S l).length ≤ l.length * (m + S.length)
  | [], _ => Nat.zero_le _
  | [a], h => by
    have := h a (by simp)
    show a.length ≤ 1 * (m + S.length)
    omega
  | a :: b :: r, h => by
    have h1 := h a (by simp)
    have h2 := len_joinL (S := S) (l := b :: r) fun p hp => h p (List.mem_cons_of_mem _ hp)
    show (a ++ (S ++ TL.joinL S (b :: r))).length ≤ ((b :: r).length + 1) * (m + S.length)
    rw [List.length_append, List.length_append, Nat.add_mul]
    omega
theorem row_len {ws : List Str} (h : ∀ x ∈ ws, Word x) (l : ws.length ≤ 29) : (Txt.join blank ws).length ≤ 928 := by
  rw [TL.len_tl, TL.join_eq, TL.tl_join, tl_blank]
  have := len_joinL (m := 31) (S := [32]) (l := ws.map TL.tl) (fun p hp => by
    obtain ⟨x, hx, rfl⟩ := List.mem_map.mp hp
    rw [← TL.len_tl]
    exact (h x hx).l)
  rw [List.length_map] at this
  simp only [List.length_cons, List.length_nil] at this
  omega
theorem txL_len {m : Nat} : ∀ {rows : List Str}, (∀ x ∈ rows, x.length ≤ m) → (txL rows).length ≤ rows.length * (m + 1)
  | [], _ => Nat.zero_le _
  | a :: r, h => by
    have h1 := h a (by simp)
    have h2 := txL_len (rows := r) fun p hp => h p (List.mem_cons_of_mem _ hp)
    unfold txL at *
    rw [List.flatMap_cons, List.length_append, List.length_append, ← TL.len_tl, show (a :: r).length = r.length + 1 from rfl, Nat.add_mul]
    simp only [List.length_cons, List.length_nil]
    omega
theorem wordsT_len {r : Bool} {fs : List (Str × Int)} {ts : List Tie} (S : Specs r fs ts) {t : Tie} (ht : t ∈ ts) : (wordsT t).length = 5 + 2 * t.hs.length ∧ (wordsT t).length ≤ 29 := by
  have a := told_mem ht
  have b := S.h12
  have : (wordsT t).length = 5 + 2 * t.hs.length := by
    unfold wordsT
    rw [List.length_append, hsW_len]
    rfl
  omega
/-- what is known of each row -/
theorem rows_ok {r : Bool} {fs : List (Str × Int)} {ts : List Tie} (S : Specs r fs ts) : ∀ x ∈ rowsS r fs ts, 10 ∉ TL.tl x ∧ x.length ≤ 928 := by
  intro x hx
  unfold rowsS at hx
  rcases List.mem_cons.mp hx with rfl | hx
  · cases r
    · exact ⟨by decide +kernel, by decide +kernel⟩
    · exact ⟨by decide +kernel, by decide +kernel⟩
  · rcases List.mem_append.mp hx with hx | hx
    · obtain ⟨f, hf, rfl⟩ := List.mem_map.mp hx
      exact ⟨row_free (words_per S hf), row_len (words_per S hf) (show (3 : Nat) ≤ 29 by decide)⟩
    · obtain ⟨t, ht, rfl⟩ := List.mem_map.mp hx
      exact ⟨row_free (words_tie S ht), row_len (words_tie S ht) (wordsT_len S ht).2⟩
theorem rows_many {r : Bool} {fs : List (Str × Int)} {ts : List Tie} : (rowsS r fs ts).length = 1 + fs.length + ts.length := by
  unfold rowsS
  simp only [List.length_cons, List.length_append, List.length_map]
  omega
theorem text_len {r : Bool} {fs : List (Str × Int)} {ts : List Tie} (S : Specs r fs ts) : (txS (rowsS r fs ts)).length ≤ 20000 := by
  rw [TL.len_tl, tl_txS]
  have := txL_len (m := 928) fun x hx => (rows_ok S x hx).2
  have a := rows_many (r := r) (fs := fs) (ts := ts)
  have := S.f8
  have := S.t12
  have : (rowsS r fs ts).length * (928 + 1) ≤ 21 * (928 + 1) := Nat.mul_le_mul_right _ (by omega)
  omega
theorem rows_take {r : Bool} {fs : List (Str × Int)} {ts : List Tie} (k : Nat) : (rowsS r fs ts).take (k + 1) = rowsS r (fs.take k) (ts.take (k - fs.length)) := by
  unfold rowsS
  rw [List.take_succ_cons, List.take_append, List.length_map, List.map_take, List.map_take]
theorem told_take : ∀ (k : Nat) (ts : List Tie), told (ts.take k) ≤ told ts
  | 0, ts => by simp [told]
  | k + 1, [] => by simp [told]
  | k + 1, t :: r => by
    have := told_take k r
    show t.hs.length + told (r.take k) ≤ t.hs.length + told r
    omega
theorem Specs.take {r : Bool} {fs : List (Str × Int)} {ts : List Tie} (S : Specs r fs ts) {k : Nat} (hk : 1 ≤ k) : Specs r (fs.take k) (ts.take (k - fs.length)) := by
  have sub : ∀ f ∈ fs.take k, f ∈ fs := fun f h => List.mem_of_mem_take h
  have f1 := S.f1
  have f8 := S.f8
  have t12 := S.t12
  have h12 := told_take (k - fs.length) ts
  have hh := S.h12
  refine ⟨⟨?_, fun f h => S.fo.nm f (sub f h), fun f h => S.fo.st f (sub f h)⟩, ?_, ?_, ?_, ?_, ?_, by omega⟩
  · rw [List.map_take]
    exact S.fo.nd.sublist (List.take_sublist _ _)
  · intro t ht
    by_cases hl : k ≤ fs.length
    · rw [Nat.sub_eq_zero_of_le hl] at ht
      cases ht
    · rw [List.take_of_length_le (by omega)]
      exact S.ti t (List.mem_of_mem_take ht)
  · refine S.nd.sublist (List.Sublist.append ?_ ?_)
    · rw [List.map_take]
      exact List.take_sublist _ _
    · rw [List.map_take]
      exact List.take_sublist _ _
  · rw [List.length_take]
    omega
  · rw [List.length_take]
    omega
  · rw [List.length_take]
    omega
theorem str_empty_append (z : Str) : Str.ofString "" ++ z = z := by
  obtain ⟨c⟩ := z
  show (⟨(Str.ofString "").cps ++ c⟩ : Str) = ⟨c⟩
  rw [show (Str.ofString "").cps = #[] from rfl, Array.empty_append]
end Cw
namespace Cw
open PySem PySem.Spec PyProof.Rows L2
section
variable {P : Program} {w : World} {K : PySem.W.Frag} {mg : Str → Option Value} {base : Heap} {C : Addr}
abbrev EndsM (P : Program) (w : World) (K : PySem.W.Frag) (mg : Str → Option Value) (base : Heap) (C : Addr) : Prop := HasM P w K mg base C "ends" "Web.ends" S_Web_ends 3 P_Web_ends (spMEnds C)
abbrev LengthM (P : Program) (w : World) (K : PySem.W.Frag) (mg : Str → Option Value) (base : Heap) (C : Addr) : Prop := HasM P w K mg base C "length" "Web.length" S_Web_length 3 P_Web_length (spMLength C)
abbrev HearM (P : Program) (w : World) (K : PySem.W.Frag) (mg : Str → Option Value) (base : Heap) (C : Addr) : Prop := HasM P w K mg base C "hearers" "Web.hearers" S_Web_hearers 3 P_Web_hearers (spMHear C)
theorem log_num {n : Int} (h0 : 0 ≤ n) (h : n ≤ 10 ^ 30) : n.natAbs.log2 < 1920 := by
  have h1 : n.natAbs < 2 ^ 200 := by omega
  exact Nat.lt_of_lt_of_le (PySem.Flt.log2_lt_of (by decide) h1) (by decide)
def spWords (C : Addr) : Sp := fun vs H Q _ => ∃ (a : Addr) (r : Bool) (fs : List (Str × Int)) (ts : List Tie) (t : Tie), vs = [.ref a, .str t.nm] ∧ WebAt C H a r fs ts ∧ Specs r fs ts ∧ t ∈ ts ∧ ∀ p H', Same H H' → H' p = some (.lst ((wordsT t).map V.str)) → Q (.ref p) H'
theorem ok_words {f : Addr} {fd : FuncData} (F : FnP K "tie_words" "tie_words" S_tie_words f fd) (WC : WebCls K C) (H_m_ends : EndsM P w K mg base C) (H_m_length : LengthM P w K mg base C) (H_m_hearers : HearM P w K mg base C) (B : Blt mg) : FnOk P w K mg base CX0 4 f fd P_tie_words (spWords C) := by
  obtain ⟨f_m_ends, fd_m_ends, F_m_ends, b_m_ends, G_m_ends, m_ends⟩ := H_m_ends
  obtain ⟨f_m_length, fd_m_length, F_m_length, b_m_length, G_m_length, m_length⟩ := H_m_length
  obtain ⟨f_m_hearers, fd_m_hearers, F_m_hearers, b_m_hearers, G_m_hearers, m_hearers⟩ := H_m_hearers
  have nd := sc_tie_words.nd
  refine F.ok sc_tie_words (fun vs H Q E h => ?_) (fun cdv A outer s H vs Q E hr h => ⟨_, PSs.nox (pss_cons (ps_asg (pe_meth (pv 0) WC.cl m_ends G_m_ends (hr.mono (by first | decide | omega)) b_m_ends .nil pass0 (pa_cons (pv 1) pa_nil)) (pg_tup (by rfl) (pgs_cons (pg_name (i := 2) nd rfl (.inl rfl)) (pgs_cons (pg_name (i := 3) nd rfl (.inl rfl)) pgs_nil))))
     (pss_cons (ps_set (i := 4) nd rfl (.inl rfl) (pe_lst (pa_cons pe_str (pa_cons (pv 1) (pa_cons (pv 2) (pa_cons (pv 3) (pa_cons (pe_callTy call_str_int (by rfl) B.str_ (by decide +kernel) (pa_cons (pe_meth (pv 0) WC.cl m_length G_m_length (hr.mono (by first | decide | omega)) b_m_length .nil pass0 (pa_cons (pv 1) pa_nil)) pa_nil)) pa_nil)))))))
     (C8.pss_cut (ps_for PassesOwn.never rfl (pi_tup (pe_meth (pv 0) WC.cl m_hearers G_m_hearers (hr.mono (by first | decide | omega)) b_m_hearers .nil pass0 (pa_cons (pv 1) pa_nil))) (pg_tup (by rfl) (pgs_cons (pg_name (i := 5) nd rfl (.inl rfl)) (pgs_cons (pg_name (i := 6) nd rfl (.inl rfl)) pgs_nil)))
      (pss_cons (ps_expr (pe_bm PySem.F.plainAttrs_list PySem.F.slot_list_append PySem.F.type_list_append mt_append (pv 4) (pa_cons (pe_callTy call_str_int (by rfl) B.str_ (by decide +kernel) (pa_cons (pv 5) pa_nil)) pa_nil)))
     (pss_one (ps_expr (pe_bm PySem.F.plainAttrs_list PySem.F.slot_list_append PySem.F.type_list_append mt_append (pv 4) (pa_cons (pe_callTy call_str_int (by rfl) B.str_ (by decide +kernel) (pa_cons (pv 6) pa_nil)) pa_nil))))))
     (pss_one (ps_ret (pv 4)))))), ?_⟩)
  · obtain ⟨a, r, fs, ts, t, rfl, _⟩ := h
    rfl
  · obtain ⟨a, r, fs, ts, t, rfl, W, SP, ht, q⟩ := h
    rw [show L2.start N_tie_words [V.ref a, V.str t.nm] = [some (V.ref a), some (V.str t.nm), none, none, none, none, none] from rfl]
    have W0 := W
    obtain ⟨dx, ds, dl, pr, tr, xs, h1, _⟩ := W
    have nd2 : (ts.map (·.nm)).Nodup := (List.nodup_append.mp SP.nd).2.1
    have g := SP.ti t ht
    have ga := g.at0
    have wl := wordsT_len SP ht
    refine ⟨_, rfl, a, dx, _, rfl, h1, rfl, _, rfl, a, r, fs, ts, t, rfl, W0, ht, nd2, fun p np => ?_⟩
    have s1 : Same H (upd H p (.tup [.str t.one, .str t.other])) := same_new np
    refine ⟨p, _, rfl, SqT.of upd_same, rfl, _, _, rfl, _, _, rfl, rfl, ?_⟩
    generalize upd H p (.tup [.str t.one, .str t.other]) = H1 at s1 ⊢
    refine ⟨_, rfl, _, rfl, _, rfl, _, rfl, a, dx, _, rfl, s1 _ _ h1, rfl, _, rfl, a, r, fs, ts, t, rfl, WebAt.same W0 s1, ht, nd2, t.len, rfl, log_num ga.1 ga.2, Nat.le_of_lt (small1000 (show (5 : Nat) ≤ 1000 by decide)), fun l nl => ?_⟩
    obtain ⟨s2, m2⟩ := fresh2 (o := .lst [V.str (Str.ofString "tie"), V.str t.nm, V.str t.one, V.str t.other, V.str (Str.ofString (toString t.len))]) nl
    have s02 := s1.trans s2
    have nHl : ∀ b o, H b = some o → b ≠ l := fun b o e => ne_of_none (s1 _ _ e) nl
    refine ⟨fun σ H2 => ∃ x5 x6, σ = [some (V.ref a), some (V.str t.nm), some (V.str t.one), some (V.str t.other), some (V.ref l), x5, x6] ∧ Same H H2 ∧ H2 l = some (.lst ((wordsT t).map V.str)), ?_, ?_⟩
    · refine ⟨_, rfl, a, dx, _, rfl, s02 _ _ h1, rfl, _, rfl, a, r, fs, ts, t, rfl, WebAt.same W0 s02, ht, nd2, fun x hx => ?_⟩
      obtain ⟨b, ys, rfl, hb, hy⟩ := dx_hs hx
      have ly : ys.length = t.hs.length := by
        have := dxall_len hy
        rw [List.length_map] at this
        exact this
      generalize hH3 : upd H1 l (.lst [V.str (Str.ofString "tie"), V.str t.nm, V.str t.one, V.str t.other, V.str (Str.ofString (toString t.len))]) = H3 at *
      have hb' : TupY (Off l H3) b ys := by
        rcases hb with e | ⟨o, dn, e⟩
        · refine .inl (Off.at (fun e2 => ?_) e)
          rw [e2, m2] at e
          cases e
        · refine .inr ⟨o, dn, Off.at (fun e2 => ?_) e⟩
          rw [e2, m2] at e
          cases e
      refine ⟨b, rfl, ⟨_, hb.sq⟩, ?_⟩
      refine for_it (walk_tup (xs := ys)) (fun i σ H4 => Same (Off l H3) H4 ∧ H4 l = some (.lst (([Str.ofString "tie", t.nm, t.one, t.other, numS t.len] ++ hsW (t.hs.take i)).map V.str)) ∧ ∃ x5 x6, σ = [some (V.ref a), some (V.str t.nm), some (V.str t.one), some (V.str t.other), some (V.ref l), x5, x6]) ⟨Off.same, m2, none, none, rfl⟩ (fun i σ H4 _ h => (hb'.same h.1).sq) ?_ ?_
      · rintro i x σ H4 H5 hi ⟨s4, m4, x5, x6, rfl⟩ ⟨rfl, hxi⟩
        have hi2 : i < t.hs.length := by omega
        obtain ⟨y, e1, e2⟩ := dxall_get (i := i) hy (by rw [List.getElem?_map, List.getElem?_eq_getElem hi2]; rfl)
        have exy : x = y := Option.some.inj (hxi.symm.trans e1)
        subst exy
        obtain ⟨u, rfl, hu⟩ := dx_hear e2
        have nu : u ≠ l := fun e => by
          rw [e, m2] at hu
          cases hu
        have hu4 := s4 _ _ (Off.at nu hu)
        have ah := g.hr.at_ t.hs[i] (List.getElem_mem hi2)
        have hw : ([Str.ofString "tie", t.nm, t.one, t.other, numS t.len] ++ hsW (t.hs.take i)).length ≤ 40 := by
          rw [List.length_append, hsW_len, List.length_take]
          have := wl.1
          have := wl.2
          simp only [List.length_cons, List.length_nil]
          omega
        refine ⟨u, _, rfl, SqT.of hu4, rfl, _, _, rfl, _, _, rfl, rfl, ?_⟩
        refine ⟨_, rfl, .inl ⟨rfl, _, SqL.of m4⟩, _, rfl, _, rfl, log_num (by omega) (by omega), l, _, _, rfl, rfl, m4, by rw [List.length_map]; exact small1000 (by omega), ?_⟩
        refine ⟨_, rfl, .inl ⟨rfl, _, SqL.of upd_same⟩, _, rfl, _, rfl, log_num (by omega) (by omega), l, _, _, rfl, rfl, upd_same, by rw [List.length_append, List.length_map]; exact small1000 (by simp only [List.length_cons, List.length_nil]; omega), ?_⟩
        refine ⟨fun b o e => ?_, ?_, _, _, rfl⟩
        · have nb : b ≠ l := fun e2 => by
            rw [e2] at e
            unfold Off at e
            rw [if_pos rfl] at e
            cases e
          rw [upd_ne nb, upd_ne nb]
          exact s4 _ _ e
        · rw [upd_same]
          rw [List.take_add_one, List.getElem?_eq_getElem hi2]
          unfold hsW
          rw [List.flatMap_append]
          simp only [List.map_append, List.append_assoc]
          rfl
      · rintro σ H4 ⟨s4, m4, x5, x6, rfl⟩
        refine ⟨x5, x6, rfl, fun b o e => ?_, ?_⟩
        · exact s4 _ _ (Off.at (nHl b o e) (s02 _ _ e))
        · rw [m4, ly, List.take_length]
          rfl
    · rintro σ H2 ⟨x5, x6, rfl, s3, m3⟩
      exact ⟨_, rfl, q l H2 s3 m3⟩
end
end Cw
namespace Cw
open PySem PySem.Spec PyProof.Rows L2
section
variable {P : Program} {w : World} {K : PySem.W.Frag} {mg : Str → Option Value} {base : Heap} {C : Addr}
abbrev RoundsM (P : Program) (w : World) (K : PySem.W.Frag) (mg : Str → Option Value) (base : Heap) (C : Addr) : Prop := HasM P w K mg base C "rounds" "Web.rounds" S_Web_rounds 1 P_Web_rounds (spMRounds C)
abbrev PersonsM (P : Program) (w : World) (K : PySem.W.Frag) (mg : Str → Option Value) (base : Heap) (C : Addr) : Prop := HasM P w K mg base C "persons" "Web.persons" S_Web_persons 1 P_Web_persons (spMPersons C)
abbrev TiesM (P : Program) (w : World) (K : PySem.W.Frag) (mg : Str → Option Value) (base : Heap) (C : Addr) : Prop := HasM P w K mg base C "ties" "Web.ties" S_Web_ties 1 P_Web_ties (spMTies C)
abbrev StateM (P : Program) (w : World) (K : PySem.W.Frag) (mg : Str → Option Value) (base : Heap) (C : Addr) : Prop := HasM P w K mg base C "state" "Web.state" S_Web_state 5 P_Web_state (spMState K C)
theorem sum_le {m : Nat} : ∀ {ws : List Str}, (∀ x ∈ ws, x.length ≤ m) → (ws.map (·.length)).sum ≤ ws.length * m
  | [], _ => Nat.zero_le _
  | a :: r, h => by
    have h1 := h a (by simp)
    have h2 := sum_le (ws := r) fun x hx => h x (List.mem_cons_of_mem _ hx)
    rw [List.map_cons, List.sum_cons, List.length_cons, Nat.add_mul]
    omega
def spText (C : Addr) : Sp := fun vs H Q _ => ∃ (a : Addr) (r : Bool) (fs : List (Str × Int)) (ts : List Tie), vs = [.ref a] ∧ WebAt C H a r fs ts ∧ Specs r fs ts ∧ ∀ H', Same H H' → Q (.str (txS (rowsS r fs ts))) H'
theorem ok_text {f : Addr} {fd : FuncData} (F : FnP K "web_text" "web_text" S_web_text f fd) (WC : WebCls K C) (H_m_rounds : RoundsM P w K mg base C) (H_m_persons : PersonsM P w K mg base C) (H_m_ties : TiesM P w K mg base C) (H_m_state : StateM P w K mg base C) (H_tie_words : Has P w K mg base "tie_words" S_tie_words 4 P_tie_words (spWords C)) (B : Blt mg) : FnOk P w K mg base CX0 6 f fd P_web_text (spText C) := by
  obtain ⟨f_m_rounds, fd_m_rounds, F_m_rounds, b_m_rounds, G_m_rounds, m_rounds⟩ := H_m_rounds
  obtain ⟨f_m_persons, fd_m_persons, F_m_persons, b_m_persons, G_m_persons, m_persons⟩ := H_m_persons
  obtain ⟨f_m_state, fd_m_state, F_m_state, b_m_state, G_m_state, m_state⟩ := H_m_state
  obtain ⟨f_m_ties, fd_m_ties, F_m_ties, b_m_ties, G_m_ties, m_ties⟩ := H_m_ties
  obtain ⟨f_tie_words, fd_tie_words, F_tie_words, b_tie_words, G_tie_words, g_tie_words⟩ := H_tie_words
  have nd := sc_web_text.nd
  refine F.ok sc_web_text (fun vs H Q E h => ?_) (fun cdv A outer s H vs Q E hr h => ⟨_, PSs.nox (C8.pss_cut (ps_set (i := 1) nd rfl (.inl rfl) (pe_lst (pa_cons (pe_ifExp (pt_val (pe_meth0 (pv 0) WC.cl m_rounds G_m_rounds (hr.mono (by first | decide | omega)) b_m_rounds .nil pass0)) pe_str pe_str) pa_nil)))
     (C8.pss_cut (ps_for PassesOwn.never rfl (pi_list (pe_meth0 (pv 0) WC.cl m_persons G_m_persons (hr.mono (by first | decide | omega)) b_m_persons .nil pass0)) (pg_name (i := 2) nd rfl (.inl rfl))
      (pss_one (ps_expr (pe_bm PySem.F.plainAttrs_list PySem.F.slot_list_append PySem.F.type_list_append mt_append (pv 1) (pa_cons (pe_joined (PJ.cons pe_str (PJ.cons (pe_fmt (pv 2)) (PJ.cons pe_str (PJ.cons (pe_fmt (pe_meth (pv 0) WC.cl m_state G_m_state (hr.mono (by first | decide | omega)) b_m_state .nil pass0 (pa_cons (pv 2) pa_nil))) PJ.nil))))) pa_nil)))))
     (C8.pss_cut (ps_for PassesOwn.never rfl (pi_list (pe_meth0 (pv 0) WC.cl m_ties G_m_ties (hr.mono (by first | decide | omega)) b_m_ties .nil pass0)) (pg_name (i := 3) nd rfl (.inl rfl))
      (pss_one (ps_expr (pe_bm PySem.F.plainAttrs_list PySem.F.slot_list_append PySem.F.type_list_append mt_append (pv 1) (pa_cons (pe_join pe_str (pe_call G_tie_words (hr.mono (by first | decide | omega)) rfl g_tie_words F_tie_words.kp b_tie_words .nil pass0 (pa_cons (pv 0) (pa_cons (pv 3) pa_nil)))) pa_nil)))))
     (pss_one (ps_ret (pe_join pe_str (pe_lc (own := [("row", 4)]) (g := gName 4) rfl nd (pi_list (pv 1)) (blkOk_by (own := [("row", 4)]) (N := N_web_text) (sc := defScope S_web_text) (by decide +kernel)) (fun _ _ _ _ _ => (pg_name (i := 4) nd rfl (.inl rfl))) (fun _ _ _ _ _ => pts_nil) (fun _ _ _ _ _ => (pe_op op_add_str (pv 4) pe_str))))))))), ?_⟩)
  · obtain ⟨a, r, fs, ts, rfl, _⟩ := h
    rfl
  · obtain ⟨a, r, fs, ts, rfl, W, SP, q⟩ := h
    rw [show L2.start N_web_text [V.ref a] = [some (V.ref a), none, none, none, none] from rfl]
    have W0 := W
    obtain ⟨dx, ds, dl, pr, tr, xs, h1, _⟩ := W
    have nd1 : (fs.map (·.1)).Nodup := (List.nodup_append.mp SP.nd).1
    have nd2 : (ts.map (·.nm)).Nodup := (List.nodup_append.mp SP.nd).2.1
    have f8 := SP.f8
    have t12 := SP.t12
    refine ⟨fun σ H1 => ∃ l, σ = [some (V.ref a), some (V.ref l), none, none, none] ∧ Same H H1 ∧ H l = none ∧ H1 l = some (.lst [V.str (headS r)]), ?_, ?_⟩
    · refine ⟨_, rfl, a, dx, _, rfl, h1, rfl, a, r, fs, ts, rfl, W0, r, rfl, ?_⟩
      cases r with
      | true => exact iteT ⟨Nat.le_of_lt (small1000 (show (1 : Nat) ≤ 1000 by decide)), fun l nl => ⟨l, rfl, same_new nl, nl, upd_same⟩⟩
      | false => exact iteF ⟨Nat.le_of_lt (small1000 (show (1 : Nat) ≤ 1000 by decide)), fun l nl => ⟨l, rfl, same_new nl, nl, upd_same⟩⟩
    · rintro σ H1 ⟨l, rfl, s1, nl, m1⟩
      refine ⟨fun σ H2 => ∃ x2, σ = [some (V.ref a), some (V.ref l), x2, none, none] ∧ Same H H2 ∧ H2 l = some (.lst ((headS r :: fs.map rowP).map V.str)), ?_, ?_⟩
      · refine ⟨_, rfl, a, dx, _, rfl, s1 _ _ h1, rfl, a, r, fs, ts, rfl, WebAt.same W0 s1, fun lp np => ?_⟩
        refine ⟨lp, rfl, ⟨_, SqL.of upd_same⟩, ?_⟩
        have nlp : lp ≠ l := fun e => by
          rw [e, m1] at np
          cases np
        refine for_it (walk_list (xs := (fs.map (·.1)).map V.str)) (fun i σ H4 => Same H H4 ∧ H4 lp = some (.lst ((fs.map (·.1)).map V.str)) ∧ H4 l = some (.lst ((headS r :: (fs.take i).map rowP).map V.str)) ∧ ∃ x2, σ = [some (V.ref a), some (V.ref l), x2, none, none]) ⟨s1.trans (same_new np), upd_same, by rw [upd_ne nlp.symm]; exact m1, none, rfl⟩ (fun i σ H4 _ h => SqL.of h.2.1) ?_ ?_
        · rintro i x σ H4 H5 hi ⟨s4, mp, m4, x2, rfl⟩ ⟨rfl, hxi⟩
          have hi2 : i < fs.length := by simpa using hi
          rw [List.getElem?_map, List.getElem?_map, List.getElem?_eq_getElem hi2] at hxi
          cases hxi
          have fm := List.getElem_mem hi2
          have wn := SP.fo.nm _ fm
          have wst := SP.fo.st _ fm
          have ln := len_numS (n := fs[i].2) (by omega) (by omega)
          have w8 := wn.2.1
          refine ⟨_, rfl, .inl ⟨rfl, _, SqL.of m4⟩, ?_⟩
          have e0 : ∀ z : Str, Str.empty ++ z = z := fun z => str_empty_append z
          refine ⟨_, rfl, ?_, _, rfl, .inl ⟨_, rfl, by rw [sizeLine_eq]; show fs[i].1.length ≤ _; omega, _, rfl, ?_, _, rfl, ?_, _, rfl, a, dx, _, rfl, s4 _ _ h1, rfl, _, rfl, a, _, r, fs, ts, rfl, WebAt.same W0 s4, nd2, nd1, .inl ⟨fs[i], fm, rfl, .inr ⟨_, rfl, log_num (by omega) (by omega), _, rfl, ?_, l, _, _, rfl, rfl, m4, ?_, ?_⟩⟩⟩⟩
          · rw [sizeLine_eq]
            decide +kernel
          · simp only [e0, Str.length_append]
            rw [sizeLine_eq, show (Str.ofString "person ").length = 7 from rfl]
            show 7 + fs[i].1.length ≤ _
            omega
          · simp only [e0, Str.length_append]
            rw [sizeLine_eq, show (Str.ofString "person ").length = 7 from rfl, show (Str.ofString " ").length = 1 from rfl]
            show 7 + fs[i].1.length + 1 ≤ _
            omega
          · simp only [e0, Str.length_append]
            rw [sizeLine_eq, show (Str.ofString "person ").length = 7 from rfl, show (Str.ofString " ").length = 1 from rfl]
            show 7 + fs[i].1.length + 1 + (numS fs[i].2).length ≤ _
            omega
          · refine small1000 ?_
            simp only [List.length_map, List.length_cons, List.length_take]
            omega
          · refine ⟨fun b o e => ?_, ?_, ?_, _, rfl⟩
            · rw [upd_ne (ne_of_none e nl)]
              exact s4 _ _ e
            · rw [upd_ne nlp]
              exact mp
            · rw [upd_same, e0, List.take_add_one, List.getElem?_eq_getElem hi2, List.map_append, ← List.cons_append, List.map_append]
              rw [show List.map V.str (List.map rowP (some fs[i]).toList) = [V.str (rowP fs[i])] from rfl, rowP_eq]
        · rintro σ H4 ⟨s4, mp, m4, x2, rfl⟩
          refine ⟨x2, rfl, s4, ?_⟩
          rw [m4, List.length_map, List.length_map, List.take_length]
      · rintro σ H2 ⟨x2, rfl, s2, m2⟩
        refine ⟨fun σ H3 => ∃ x2 x3, σ = [some (V.ref a), some (V.ref l), x2, x3, none] ∧ Same H H3 ∧ H3 l = some (.lst ((rowsS r fs ts).map V.str)), ?_, ?_⟩
        · refine ⟨_, rfl, a, dx, _, rfl, s2 _ _ h1, rfl, a, r, fs, ts, rfl, WebAt.same W0 s2, fun lp np => ?_⟩
          refine ⟨lp, rfl, ⟨_, SqL.of upd_same⟩, ?_⟩
          have nlp : lp ≠ l := fun e => by
            rw [e, m2] at np
            cases np
          refine for_it (walk_list (xs := (ts.map (·.nm)).map V.str)) (fun i σ H4 => Same H H4 ∧ H4 lp = some (.lst ((ts.map (·.nm)).map V.str)) ∧ H4 l = some (.lst ((headS r :: (fs.map rowP ++ (ts.take i).map rowT)).map V.str)) ∧ ∃ x3, σ = [some (V.ref a), some (V.ref l), x2, x3, none]) ⟨s2.trans (same_new np), upd_same, by rw [upd_ne nlp.symm, m2]; simp, none, rfl⟩ (fun i σ H4 _ h => SqL.of h.2.1) ?_ ?_
          · rintro i x σ H4 H5 hi ⟨s4, mp, m4, x3, rfl⟩ ⟨rfl, hxi⟩
            have hi2 : i < ts.length := by simpa using hi
            rw [List.getElem?_map, List.getElem?_map, List.getElem?_eq_getElem hi2] at hxi
            cases hxi
            have tm := List.getElem_mem hi2
            have ww := words_tie SP tm
            refine ⟨_, rfl, .inl ⟨rfl, _, SqL.of m4⟩, ⟨_, rfl⟩, _, rfl, _, rfl, a, r, fs, ts, ts[i], rfl, WebAt.same W0 s4, SP, tm, fun p H6 s6 m6 => ?_⟩
            refine ⟨blank, p, wordsT ts[i], rfl, rfl, .inl (SqL.of m6), ?_, l, _, _, rfl, rfl, s6 _ _ m4, ?_, ?_⟩
            · have b1 := sum_le (m := 31) fun x hx => (ww x hx).l
              have b2 := (wordsT_len SP tm).2
              rw [show blank.length = 1 from rfl]
              omega
            · refine small1000 ?_
              simp only [List.length_map, List.length_cons, List.length_take, List.length_append]
              omega
            · refine ⟨fun b o e => ?_, ?_, ?_, _, rfl⟩
              · rw [upd_ne (ne_of_none e nl)]
                exact s6 _ _ (s4 _ _ e)
              · rw [upd_ne nlp]
                exact s6 _ _ mp
              · rw [upd_same, List.take_add_one, List.getElem?_eq_getElem hi2]
                simp only [List.map_append, List.map_cons, List.append_assoc, List.cons_append, Option.toList_some, List.map_nil]
                rfl
          · rintro σ H4 ⟨s4, mp, m4, x3, rfl⟩
            refine ⟨x2, x3, rfl, s4, ?_⟩
            rw [m4, List.length_map, List.length_map, List.take_length]
            rfl
        · rintro σ H3 ⟨x2, x3, rfl, s3, m3⟩
          have lr := rows_many (r := r) (fs := fs) (ts := ts)
          have ro := rows_ok SP
          refine ⟨⟨_, rfl⟩, _, rfl, l, rfl, ⟨_, SqL.of m3⟩, fun D nD => ?_⟩
          refine lc_map (ys := ((rowsS r fs ts).map fun x => x ++ feed).map V.str) (walk_list (K := K) (a := l) (xs := (rowsS r fs ts).map V.str)) nD (fun H' s' => SqL.of (s' _ _ m3)) (by simp only [List.length_map]) (by rw [List.length_map]; omega) ?_ ?_
          · rintro i x y H4 k hx hy s4 hk
            rw [List.getElem?_map] at hx hy
            rw [List.getElem?_map] at hy
            cases e : (rowsS r fs ts)[i]? with
            | none =>
              rw [e] at hx
              cases hx
            | some z =>
              rw [e] at hx hy
              cases hx
              cases hy
              have := (ro z (List.mem_of_getElem? e)).2
              refine ⟨rfl, _, rfl, _, _, rfl, rfl, ?_, hk H4 fun _ _ e => e⟩
              rw [sizeLine_eq, show (Str.ofString "\n").length = 1 from rfl]
              omega
          · intro H4 s4 hD
            refine ⟨Str.ofString "", D, (rowsS r fs ts).map fun x => x ++ feed, rfl, rfl, .inl (SqL.of hD), ?_, ?_⟩
            · have b1 := sum_le (m := 929) (ws := (rowsS r fs ts).map fun x => x ++ feed) fun x hx => by
                obtain ⟨z, hz, rfl⟩ := List.mem_map.mp hx
                have := (ro z hz).2
                rw [Str.length_append, show feed.length = 1 from rfl]
                omega
              rw [List.length_map] at b1
              have b2 : (rowsS r fs ts).length * 929 ≤ 21 * 929 := Nat.mul_le_mul_right _ (by omega)
              rw [show (Str.ofString "").length = 0 from rfl]
              omega
            · rw [join_none]
              exact q H4 (s3.trans s4)
end
end Cw
namespace Cw
open PySem PySem.Spec PyProof.Rows L2
section
variable {P : Program} {w : World} {K : PySem.W.Frag} {mg : Str → Option Value} {base : Heap} {C NS NW0 : Addr}
theorem th_str {H : Hp} {v : V} {z : Str} (h : Th H v (.str z)) : v = .str z := by
  cases h with
  | dx h => cases h; rfl
theorem th_int {H : Hp} {v : V} {n : Int} (h : Th H v (.int n)) : v = .int n := by
  cases h with
  | dx h => cases h; rfl
theorem th_nostr {K : PySem.W.Frag} {H : Hp} {v : V} {d : PyData} (h : Th H v d) (e : isStr d = false) : NoStr K H v := ⟨_, th_ty h, by rw [kt_str, e]⟩
theorem th_cases {K : PySem.W.Frag} {H : Hp} {v : V} {d : PyData} (h : Th H v d) : (∃ z, v = .str z ∧ d = .str z) ∨ (NoStr K H v ∧ isStr d = false) := by
  cases d with
  | str z => exact .inl ⟨z, th_str h, rfl⟩
  | _ => exact .inr ⟨th_nostr h rfl, rfl⟩
def spWholeT (K : PySem.W.Frag) : Sp := fun vs H Q _ => ∃ (v : V) (d : PyData), vs = [v] ∧ Th H v d ∧ Q (.bl (isIntD d)) H
theorem ok_wholeT {f : Addr} {fd : FuncData} (F : FnP K "is_whole" "is_whole" S_is_whole f fd) (B : Blt mg) : FnOk P w K mg base CX0 1 f fd P_is_whole (spWholeT K) := by
  refine F.ok sc_is_whole (fun vs H Q E h => ?_) (fun cdv A outer s H vs Q E hr h => ⟨_, PSs.nox (pss_one (ps_ret (pe_and (pe_callB call_isi (by rfl) B.isinstance_ (by decide +kernel) (pa_cons (pv 0) (pa_cons (pe_bltn (v := .ty "int") (u := .type "int") (by rfl) B.int_ (by decide +kernel) rfl) pa_nil))) (pe_one (pe_not (pe_callB call_isi (by rfl) B.isinstance_ (by decide +kernel) (pa_cons (pv 0) (pa_cons (pe_bltn (v := .ty "bool") (u := .type "bool") (by rfl) B.bool_ (by decide +kernel) rfl) pa_nil)))))))), ?_⟩)
  · obtain ⟨n, d, rfl, _⟩ := h
    rfl
  · obtain ⟨n, d, rfl, hd, q⟩ := h
    refine ⟨_, rfl, _, _, _, _, _, rfl, .ty _, th_ty hd, kit_ty (kt_int d), _, rfl, ?_⟩
    cases d with
    | int i => exact iteT ⟨_, rfl, _, _, _, _, _, rfl, .ty _, th_ty hd, kit_ty (kt_bool _), false, rfl, q⟩
    | bool b => exact iteT ⟨_, rfl, _, _, _, _, _, rfl, .ty _, th_ty hd, kit_ty (kt_bool _), true, rfl, q⟩
    | _ => exact iteF q
/-- a small letter -/
def chOk (c : Nat) : Bool := decide (97 ≤ c ∧ c ≤ 122)
def nameB (d : PyData) : Bool := match d with
  | .str z => decide (1 ≤ z.length ∧ z.length ≤ 8) && z.cps.toList.all chOk
  | _ => false
def SmallS (d : PyData) : Prop := ∀ z, d = .str z → z.length ≤ 10000000
theorem le_aG (c : Nat) : (!decide ((⟨#[c]⟩ : Str).cps.toList < (Str.ofString "a").cps.toList)) = decide (97 ≤ c) := by
  by_cases h : 97 ≤ c
  · rw [le_a h, decide_eq_true h]
  · have e : (Str.ofString "a").cps.toList = [97] := by decide +kernel
    rw [e, decide_eq_false h]
    show (!decide (([c] : List Nat) < [97])) = false
    rw [decide_eq_true (List.cons_lt_cons_iff.mpr (.inl (by omega)))]
    rfl
theorem le_zG (c : Nat) : (!decide ((Str.ofString "z").cps.toList < (⟨#[c]⟩ : Str).cps.toList)) = decide (c ≤ 122) := by
  by_cases h : c ≤ 122
  · rw [le_z h, decide_eq_true h]
  · have e : (Str.ofString "z").cps.toList = [122] := by decide +kernel
    rw [e, decide_eq_false h]
    show (!decide (([122] : List Nat) < [c])) = false
    rw [decide_eq_true (List.cons_lt_cons_iff.mpr (.inl (by omega)))]
    rfl
def spNameT : Sp := fun vs H Q _ => ∃ (v : V) (d : PyData), vs = [v] ∧ Th H v d ∧ SmallS d ∧ ∀ H', Same H H' → Q (.bl (nameB d)) H'
theorem ok_isnameT {f : Addr} {fd : FuncData} (F : FnP K "is_name" "is_name" S_is_name f fd) (B : Blt mg) (mL : ∃ t, mg "LONGEST_NAME" = some (.int 8 t)) : FnOk P w K mg base CX0 1 f fd P_is_name spNameT := by
  obtain ⟨tL, mL⟩ := mL
  refine F.ok sc_is_name (fun vs H Q E h => ?_) (fun cdv A outer s H vs Q E hr h => ⟨_, PSs.nox (pss_cons (ps_if (PW.pt (pw_or (pt_not (pt_val (pe_callB call_isi (by rfl) B.isinstance_ (by decide +kernel) (pa_cons (pv 0) (pa_cons (pe_bltn (v := .ty "str") (u := .type "str") (by rfl) B.str_ (by decide +kernel) rfl) pa_nil))))) (pw_or1 (pt_not (pt_chain op_le op_le pe_int (pe_callB call_len_str (by rfl) B.len_ PySem.boot_len (pa_cons (pv 0) pa_nil)) (pe_glob (v := .int 8) rfl mL ⟨_, rfl⟩)))))) (pss_one (ps_ret pe_bl)) pss_nil)
     (pss_one (ps_ret (pe_callB (cr_all rfl) (by rfl) B.all_ (by decide +kernel) (pa_cons (pe_lc (own := [("letter", 1)]) (g := gName 1) rfl sc_is_name.nd (pi_str (pv 0))
        (blkOk_by (own := [("letter", 1)]) (N := N_is_name) (sc := defScope S_is_name) (by decide +kernel)) (fun _ _ _ _ _ => pg_name (i := 1) sc_is_name.nd rfl (Or.inl rfl)) (fun _ _ _ _ _ => pts_nil) (fun _ _ _ _ _ => pe_chain op_le_str op_le_str pe_str (pv 1) pe_str)) pa_nil))))), ?_⟩)
  · obtain ⟨v, d, rfl, _⟩ := h
    rfl
  · obtain ⟨v, d, rfl, hd, sm, q⟩ := h
    refine ⟨_, rfl, _, _, _, _, _, rfl, .ty _, th_ty hd, kit_ty (kt_str d), _, rfl, ?_⟩
    cases d with
    | str z =>
      have ev := th_str hd
      subst ev
      have z1000 := sm z rfl
      refine iteF ⟨_, rfl, z, rfl, by rw [sizeLine_eq]; omega, _, _, rfl, rfl, _, rfl, ?_⟩
      by_cases z1 : (1 : Int) ≤ (z.length : Int)
      · rw [if_pos (decide_eq_true z1)]
        refine ⟨_, _, rfl, rfl, _, rfl, ?_⟩
        by_cases z8 : (z.length : Int) ≤ 8
        · rw [decide_eq_true z8]
          have eq8 : nameB (.str z) = z.cps.toList.all chOk := by
            show (decide (1 ≤ z.length ∧ z.length ≤ 8) && _) = _
            rw [decide_eq_true (show 1 ≤ z.length ∧ z.length ≤ 8 by omega)]
            rfl
          refine iteF ⟨_, rfl, _, rfl, fun D nD => ?_⟩
          refine lc_it (walk_str (z := z)) (fun i H2 => Same H (Off D H2) ∧ H2 D = some (.lst (((z.cps.toList.take i).map chOk).map V.bl))) ⟨fun b o e => Off.at (ne_of_none e nD) (same_new nD _ _ e), upd_same⟩ (fun _ _ _ _ => trivial) ?_ ?_
          · rintro i x H4 H5 hi ⟨sm4, hD⟩ ⟨rfl, c, hc, rfl⟩
            refine ⟨rfl, ?_⟩
            dsimp only [tYes]
            rw [if_pos rfl]
            have hi2 : i < z.length := hi
            have hc2 : z.cps.toList[i]? = some c := by
              rw [Array.getElem?_toList]
              exact hc
            have fin : ∀ b, b = chOk c → ∃ ys, H5 D = some (.lst ys) ∧ ys.length < sizeLine ∧ (Same H (Off D (upd H5 D (.lst (ys ++ [V.bl b])))) ∧ (upd H5 D (.lst (ys ++ [V.bl b]))) D = some (.lst (((z.cps.toList.take (i + 1)).map chOk).map V.bl))) := fun b e => by
              refine ⟨_, hD, by rw [List.length_map, List.length_map, sizeLine_eq]; have := List.length_take_le i z.cps.toList; omega, fun b' o e' => ?_, ?_⟩
              · have nb : b' ≠ D := ne_of_none e' nD
                exact Off.at nb (by rw [upd_ne nb]; exact Off.same _ _ (sm4 b' o e'))
              · rw [upd_same, List.take_add_one, hc2, List.map_append, List.map_append, e]
                rfl
            refine ⟨_, rfl, _, _, rfl, rfl, _, rfl, ?_⟩
            rw [le_aG]
            by_cases c1 : 97 ≤ c
            · rw [decide_eq_true c1]
              refine iteT ⟨_, _, rfl, rfl, ?_⟩
              rw [le_zG]
              exact fin _ (by unfold chOk; simp [c1])
            · rw [decide_eq_false c1]
              exact iteF (fin _ (by unfold chOk; simp [c1]))
          · rintro H2 ⟨sm2, hD⟩
            refine ⟨D, _, rfl, SqL.of hD, ?_⟩
            rw [show (((z.cps.toList.take z.cps.size).map chOk).all id) = z.cps.toList.all chOk from by
              rw [List.take_of_length_le (by simp), List.all_map]
              rfl, ← eq8]
            exact q _ fun b o e => Off.same _ _ (sm2 b o e)
        · rw [decide_eq_false z8]
          have e : nameB (.str z) = false := by
            show (decide (1 ≤ z.length ∧ z.length ≤ 8) && _) = _
            rw [decide_eq_false (show ¬ (1 ≤ z.length ∧ z.length ≤ 8) by omega)]
            rfl
          rw [e] at q
          exact iteT (q _ fun _ _ e => e)
      · rw [if_neg (by rw [decide_eq_false z1]; exact Bool.false_ne_true)]
        have e : nameB (.str z) = false := by
          show (decide (1 ≤ z.length ∧ z.length ≤ 8) && _) = _
          rw [decide_eq_false (show ¬ (1 ≤ z.length ∧ z.length ≤ 8) by omega)]
          rfl
        rw [e] at q
        exact ⟨false, rfl, iteT (q _ fun _ _ e => e)⟩
    | _ => exact iteT (q _ fun _ _ e => e)
/-- a whole number from lo to hi -/
def rngB (lo hi : Int) (d : PyData) : Bool := match d with
  | .int n => decide (lo ≤ n ∧ n ≤ hi)
  | _ => false
theorem rng_int {lo hi : Int} {d : PyData} (h : rngB lo hi d = true) : ∃ n, d = .int n ∧ lo ≤ n ∧ n ≤ hi := by
  cases d with
  | int n => exact ⟨n, rfl, of_decide_eq_true h⟩
  | _ => cases h
def spStateT : Sp := fun vs H Q _ => ∃ (v : V) (d : PyData), vs = [v] ∧ Th H v d ∧ Q (.bl (rngB 0 2 d)) H
theorem ok_stateT {f : Addr} {fd : FuncData} (F : FnP K "is_state" "is_state" S_is_state f fd) (H_is_whole : Has P w K mg base "is_whole" S_is_whole 1 P_is_whole (spWholeT K)) : FnOk P w K mg base CX0 2 f fd P_is_state spStateT := by
  obtain ⟨f_is_whole, fd_is_whole, F_is_whole, b_is_whole, G_is_whole, g_is_whole⟩ := H_is_whole
  have nd := sc_is_state.nd
  refine F.ok sc_is_state (fun vs H Q E h => ?_) (fun cdv A outer s H vs Q E hr h => ⟨_, PSs.nox (pss_one (ps_ret (pe_and (pe_call G_is_whole (hr.mono (by first | decide | omega)) rfl g_is_whole F_is_whole.kp b_is_whole .nil pass0 (pa_cons (pv 0) pa_nil)) (pe_one (pe_chain op_le op_le pe_int (pv 0) pe_int))))), ?_⟩)
  · obtain ⟨v, d, rfl, _⟩ := h
    rfl
  · obtain ⟨v, d, rfl, hd, q⟩ := h
    rw [show L2.start N_is_state [v] = [some v] from rfl]
    refine ⟨_, rfl, v, d, rfl, hd, _, rfl, ?_⟩
    cases d with
    | int n =>
      have ev := th_int hd
      subst ev
      refine iteT ⟨_, rfl, _, _, rfl, rfl, _, rfl, ?_⟩
      by_cases h0 : 0 ≤ n
      · rw [if_pos (decide_eq_true h0)]
        refine ⟨_, _, rfl, rfl, ?_⟩
        rw [show rngB 0 2 (.int n) = decide (n ≤ 2) from decide_eq_decide.mpr ⟨fun z => z.2, fun z => ⟨h0, z⟩⟩] at q
        exact q
      · rw [if_neg (by rw [decide_eq_false h0]; exact Bool.false_ne_true)]
        rw [show rngB 0 2 (.int n) = false from decide_eq_false fun z => h0 z.1] at q
        exact q
    | _ => exact iteF q
def lenB (r : Bool) (d : PyData) : Bool := if r then rngB 1 1 d else rngB 2 (10 ^ 30) d
def spLenT : Sp := fun vs H Q _ => ∃ (v : V) (d : PyData) (r : Bool), vs = [v, .bl r] ∧ Th H v d ∧ Q (.bl (lenB r d)) H
theorem ok_lenT {f : Addr} {fd : FuncData} (F : FnP K "is_length" "is_length" S_is_length f fd) (H_is_whole : Has P w K mg base "is_whole" S_is_whole 1 P_is_whole (spWholeT K)) (cLO : ∃ t, mg "LONGEST" = some (.int (10 ^ 30) t)) : FnOk P w K mg base CX0 2 f fd P_is_length spLenT := by
  obtain ⟨f_is_whole, fd_is_whole, F_is_whole, b_is_whole, G_is_whole, g_is_whole⟩ := H_is_whole
  obtain ⟨t_cLO, cLO⟩ := cLO
  have nd := sc_is_length.nd
  refine F.ok sc_is_length (fun vs H Q E h => ?_) (fun cdv A outer s H vs Q E hr h => ⟨_, PSs.nox (C8.pss_cut (ps_if (pt_val (pv 1)) (pss_one (ps_ret (pe_and (pe_call G_is_whole (hr.mono (by first | decide | omega)) rfl g_is_whole F_is_whole.kp b_is_whole .nil pass0 (pa_cons (pv 0) pa_nil)) (pe_one (pe_cmpR op_eq (pv 0) pe_int (nomark _)))))) pss_nil)
     (pss_one (ps_ret (pe_and (pe_call G_is_whole (hr.mono (by first | decide | omega)) rfl g_is_whole F_is_whole.kp b_is_whole .nil pass0 (pa_cons (pv 0) pa_nil)) (pe_one (pe_chain op_le op_le pe_int (pv 0) (pe_glob (v := .int (10 ^ 30)) rfl cLO ⟨_, rfl⟩))))))), ?_⟩)
  · obtain ⟨v, d, r, rfl, _⟩ := h
    rfl
  · obtain ⟨v, d, r, rfl, hd, q⟩ := h
    rw [show L2.start N_is_length [v, V.bl r] = [some v, some (.bl r)] from rfl]
    refine ⟨fun σ H' => σ = [some v, some (.bl r)] ∧ H' = H ∧ r = false, ?_, ?_⟩
    · refine ⟨_, rfl, r, rfl, ?_⟩
      cases r with
      | false => exact iteF ⟨rfl, rfl, rfl⟩
      | true =>
        refine iteT ⟨_, rfl, v, d, rfl, hd, _, rfl, ?_⟩
        cases d with
        | int n =>
          have ev := th_int hd
          subst ev
          refine iteT ⟨_, rfl, rfl, ?_⟩
          rw [show decide (V.int n = V.int 1) = lenB true (.int n) from decide_eq_decide.mpr ⟨fun z => by cases z; exact ⟨Int.le_refl _, Int.le_refl _⟩, fun z => congrArg V.int (by omega)⟩]
          exact q
        | _ => exact iteF q
    · rintro σ H' ⟨rfl, rfl, rfl⟩
      refine ⟨_, rfl, v, d, rfl, hd, _, rfl, ?_⟩
      cases d with
      | int n =>
        have ev := th_int hd
        subst ev
        refine iteT ⟨_, rfl, _, _, rfl, rfl, _, rfl, ?_⟩
        by_cases h0 : 2 ≤ n
        · rw [if_pos (decide_eq_true h0)]
          refine ⟨_, _, rfl, rfl, ?_⟩
          rw [show lenB false (.int n) = decide (n ≤ 10 ^ 30) from decide_eq_decide.mpr ⟨fun z => z.2, fun z => ⟨h0, z⟩⟩] at q
          exact q
        · rw [if_neg (by rw [decide_eq_false h0]; exact Bool.false_ne_true)]
          rw [show lenB false (.int n) = false from decide_eq_false fun z => h0 z.1] at q
          exact q
      | _ => exact iteF q
/-- two unlike persons -/
def endsB (ns : List Str) (d e : PyData) : Bool := match d, e with
  | .str y, .str z => decide (y ∈ ns) && (decide (z ∈ ns) && decide (y ≠ z))
  | _, _ => false
def spEndsT : Sp := fun vs H Q _ => ∃ (a : Addr) (u v : V) (d e : PyData) (fs : List (Str × Int)), vs = [u, v, .ref a] ∧ H a = some (.dK (kvF fs)) ∧ Th H u d ∧ Th H v e ∧ Q (.bl (endsB (fs.map (·.1)) d e)) H
theorem ok_endsT {f : Addr} {fd : FuncData} (F : FnP K "are_ends" "are_ends" S_are_ends f fd) (B : Blt mg) : FnOk P w K mg base CX0 1 f fd P_are_ends spEndsT := by
  have nd := sc_are_ends.nd
  refine F.ok sc_are_ends (fun vs H Q E h => ?_) (fun cdv A outer s H vs Q E hr h => ⟨_, PSs.nox (C8.pss_cut (ps_if (PW.pt (pw_or (pt_not (pt_val (pe_callB call_isi (by rfl) B.isinstance_ (by decide +kernel) (pa_cons (pv 0) (pa_cons (pe_bltn (v := .ty "str") (u := .type "str") (by rfl) B.str_ (by decide +kernel) rfl) pa_nil))))) (pw_or1 (pt_not (pt_val (pe_callB call_isi (by rfl) B.isinstance_ (by decide +kernel) (pa_cons (pv 1) (pa_cons (pe_bltn (v := .ty "str") (u := .type "str") (by rfl) B.str_ (by decide +kernel) rfl) pa_nil)))))))) (pss_one (ps_ret pe_bl)) pss_nil)
     (pss_one (ps_ret (pe_and (pe_cmp (pc_din (hu_of hr) (pv 0) (pv 2))) (pe_and (pe_cmp (pc_din (hu_of hr) (pv 1) (pv 2))) (pe_one (pe_cmpR op_ne (pv 0) (pv 1) (nomark _)))))))), ?_⟩)
  · obtain ⟨a, u, v, d, e, fs, rfl, _⟩ := h
    rfl
  · obtain ⟨a, u, v, d, e, fs, rfl, ha, hu, hv, q⟩ := h
    rw [show L2.start N_are_ends [u, v, V.ref a] = [some u, some v, some (.ref a)] from rfl]
    refine ⟨fun σ H' => σ = [some u, some v, some (.ref a)] ∧ H' = H ∧ ∃ y z, d = .str y ∧ e = .str z, ?_, ?_⟩
    · refine ⟨_, rfl, _, _, _, _, _, rfl, .ty _, th_ty hu, kit_ty (kt_str d), _, rfl, ?_⟩
      cases d with
      | str y =>
        refine iteF ⟨_, rfl, _, _, _, _, _, rfl, .ty _, th_ty hv, kit_ty (kt_str e), _, rfl, ?_⟩
        cases e with
        | str z => exact iteF ⟨rfl, rfl, y, z, rfl, rfl⟩
        | _ => exact iteT q
      | _ => exact iteT q
    rintro σ H' ⟨rfl, rfl, y, z, rfl, rfl⟩
    have eu := th_str hu
    subst eu
    have ev := th_str hv
    subst ev
    have q : Q (.bl (decide (y ∈ fs.map (·.1)) && (decide (z ∈ fs.map (·.1)) && decide (y ≠ z)))) H' := q
    refine ⟨_, rfl, _, rfl, a, _, rfl, DGet.k (k := Sum.inr y) ha, _, rfl, ?_⟩
    rw [valF]
    by_cases hy : y ∈ fs.map (·.1)
    · rw [decide_eq_true hy] at q ⊢
      refine iteT ⟨_, rfl, _, rfl, a, _, rfl, DGet.k (k := Sum.inr z) ha, _, rfl, ?_⟩
      rw [valF]
      by_cases hz : z ∈ fs.map (·.1)
      · rw [decide_eq_true hz] at q ⊢
        refine iteT ⟨_, rfl, _, rfl, rfl, ?_⟩
        have e : (!decide (V.str y = V.str z)) = decide (y ≠ z) := by
          by_cases e : y = z
          · simp [e]
          · simp [e]
        rw [e]
        exact q
      · rw [decide_eq_false hz] at q ⊢
        exact iteF q
    · rw [decide_eq_false hy] at q ⊢
      exact iteF q
/-- hearers, rising behind a place, of things -/
def hearL (L : Int) : Int → List PyData → Option (List (Int × Int))
  | _, [] => some []
  | a, .tuple [.int p, .int s] :: r => if a < p ∧ p < L ∧ 1 ≤ s ∧ s ≤ 2 then (hearL L p r).map ((p, s) :: ·) else none
  | _, _ :: _ => none
def hearOf (L : Int) (d : PyData) : Option (List (Int × Int)) := match d with
  | .tuple ds => hearL L 0 ds
  | _ => none
theorem hearL_no {L a : Int} {d : PyData} {r : List PyData} (h : ∀ p s, d = .tuple [.int p, .int s] → ¬ (a < p ∧ p < L ∧ 1 ≤ s ∧ s ≤ 2)) : hearL L a (d :: r) = none := by
  unfold hearL
  split
  · rename_i h0
    cases h0
  · rename_i h0
    injection h0 with h1 h2
    rw [if_neg (h _ _ h1)]
  · rfl
theorem hearL_yes {L a p s : Int} {r : List PyData} (h : a < p ∧ p < L ∧ 1 ≤ s ∧ s ≤ 2) : (hearL L a (.tuple [.int p, .int s] :: r)).isSome = (hearL L p r).isSome := by
  show (if a < p ∧ p < L ∧ 1 ≤ s ∧ s ≤ 2 then (hearL L p r).map ((p, s) :: ·) else none).isSome = _
  rw [if_pos h]
  simp
def spHearT : Sp := fun vs H Q _ => ∃ (v : V) (d : PyData) (L : Int), vs = [v, .int L] ∧ Dx H v d ∧ Q (.bl (hearOf L d).isSome) H
theorem ok_hearT {f : Addr} {fd : FuncData} (F : FnP K "are_hearers" "are_hearers" S_are_hearers f fd) (H_is_whole : Has P w K mg base "is_whole" S_is_whole 1 P_is_whole (spWholeT K)) (H_is_tuple_of : Has P w K mg base "is_tuple_of" S_is_tuple_of 1 P_is_tuple_of (spTupOf K)) (H_is_state : Has P w K mg base "is_state" S_is_state 2 P_is_state spStateT) (B : Blt mg) : FnOk P w K mg base CX0 3 f fd P_are_hearers spHearT := by
  obtain ⟨f_is_tuple_of, fd_is_tuple_of, F_is_tuple_of, b_is_tuple_of, G_is_tuple_of, g_is_tuple_of⟩ := H_is_tuple_of
  obtain ⟨f_is_whole, fd_is_whole, F_is_whole, b_is_whole, G_is_whole, g_is_whole⟩ := H_is_whole
  obtain ⟨f_is_state, fd_is_state, F_is_state, b_is_state, G_is_state, g_is_state⟩ := H_is_state
  have nd := sc_are_hearers.nd
  refine F.ok sc_are_hearers (fun vs H Q E h => ?_) (fun cdv A outer s H vs Q E hr h => ⟨_, PSs.nox (C8.pss_cut (ps_if (pt_not (pt_val (pe_callB call_isi (by rfl) B.isinstance_ (by decide +kernel) (pa_cons (pv 0) (pa_cons (pe_bltn (v := .ty "tuple") (u := .type "tuple") (by rfl) B.tuple_ (by decide +kernel) rfl) pa_nil))))) (pss_one (ps_ret pe_bl)) pss_nil)
     (pss_cons (ps_set (i := 2) nd rfl (.inl rfl) pe_int)
     (C8.pss_cut (ps_for PassesOwn.never rfl (pi_tup (pv 0)) (pg_name (i := 3) nd rfl (.inl rfl))
      (C8.pss_cut (ps_if (pt_not (pt_val (pe_call G_is_tuple_of (hr.mono (by first | decide | omega)) rfl g_is_tuple_of F_is_tuple_of.kp b_is_tuple_of .nil pass0 (pa_cons (pv 3) (pa_cons pe_int pa_nil))))) (pss_one (ps_ret pe_bl)) pss_nil)
     (pss_cons (ps_asg (pv 3) (pg_tup (by rfl) (pgs_cons (pg_name (i := 4) nd rfl (.inl rfl)) (pgs_cons (pg_name (i := 5) nd rfl (.inl rfl)) pgs_nil))))
     (C8.pss_cut (ps_if (PW.pt (pw_or (pt_not (pt_val (pe_call G_is_whole (hr.mono (by first | decide | omega)) rfl g_is_whole F_is_whole.kp b_is_whole .nil pass0 (pa_cons (pv 4) pa_nil)))) (pw_or1 (pt_not (pt_chain op_lt op_lt (pv 2) (pv 4) (pv 1)))))) (pss_one (ps_ret pe_bl)) pss_nil)
     (C8.pss_cut (ps_if (PW.pt (pw_or (pt_not (pt_val (pe_call G_is_state (hr.mono (by first | decide | omega)) rfl g_is_state F_is_state.kp b_is_state .nil pass0 (pa_cons (pv 5) pa_nil)))) (pw_or1 (pt_cmpR op_eq (pv 5) pe_int (nomark _))))) (pss_one (ps_ret pe_bl)) pss_nil)
     (pss_one (ps_set (i := 2) nd rfl (.inl rfl) (pv 4))))))))
     (pss_one (ps_ret pe_bl))))), ?_⟩)
  · obtain ⟨v, d, L, rfl, _⟩ := h
    rfl
  · obtain ⟨v, d, L, rfl, hv, q⟩ := h
    rw [show L2.start N_are_hearers [v, V.int L] = [some v, some (.int L), none, none, none, none] from rfl]
    refine ⟨fun σ H' => H' = H ∧ σ = [some v, some (.int L), none, none, none, none] ∧ ∃ p ys ds, v = .ref p ∧ d = .tuple ds ∧ SqT K H p ys ∧ DxAll H ys ds, ?_, ?_⟩
    · refine ⟨_, rfl, _, _, _, _, _, rfl, .ty _, th_ty (.dx hv), kit_ty (kt_tup d), _, rfl, ?_⟩
      cases hv with
      | tup e r n => exact iteF ⟨rfl, rfl, _, _, _, rfl, rfl, SqT.of e, r⟩
      | tupy e r n => exact iteF ⟨rfl, rfl, _, _, _, rfl, rfl, e.sq, r⟩
      | _ => exact iteT q
    rintro σ H' ⟨rfl, rfl, p, ys, ds, rfl, rfl, hp, hys⟩
    have q : Q (.bl (hearL L 0 ds).isSome) H' := q
    simp only [List.set]
    have ly := dxall_len hys
    refine ⟨fun σ H2 => H2 = H' ∧ (hearL L 0 ds).isSome = true, ?_, ?_⟩
    · refine ⟨_, rfl, p, rfl, ⟨_, hp⟩, ?_⟩
      refine for_it (walk_tup (xs := ys)) (fun i σ H2 => H2 = H' ∧ ∃ a x3 x4 x5, σ = [some (V.ref p), some (.int L), some (.int a), x3, x4, x5] ∧ (hearL L 0 ds).isSome = (hearL L a (ds.drop i)).isSome) ⟨rfl, 0, none, none, none, rfl, rfl⟩ (fun i σ H2 _ h => by rw [h.1]; exact hp) ?_ ?_
      · rintro i x σ H2 H3 hi ⟨rfl, a, x3, x4, x5, rfl, inv⟩ ⟨rfl, hxi⟩
        obtain ⟨hi2, e0⟩ : ∃ h : i < ds.length, Dx H3 x ds[i] := by
          have h : i < ds.length := by omega
          obtain ⟨y, e1, e2⟩ := dxall_get (i := i) hys (List.getElem?_eq_getElem h)
          have exy : x = y := Option.some.inj (hxi.symm.trans e1)
          subst exy
          exact ⟨h, e2⟩
        rw [List.drop_eq_getElem_cons hi2] at inv
        generalize ds[i] = e at e0 inv
        have bad : (∀ p s, e = .tuple [.int p, .int s] → ¬ (a < p ∧ p < L ∧ 1 ≤ s ∧ s ≤ 2)) → Q (.bl false) H3 := fun h => by
          rw [hearL_no h] at inv
          rw [inv] at q
          exact q
        simp only [List.set]
        refine ⟨fun σ H2 => H2 = H3 ∧ ∃ t u1 u2 d1 d2, x = .ref t ∧ e = .tuple [d1, d2] ∧ SqT K H3 t [u1, u2] ∧ Dx H3 u1 d1 ∧ Dx H3 u2 d2 ∧ σ = [some (V.ref p), some (.int L), some (.int a), some x, x4, x5], ?_, ?_⟩
        · by_cases tup : isTup e = true
          · obtain ⟨t, us, es, rfl, rfl, ht, hus⟩ : ∃ t us es, x = .ref t ∧ e = .tuple es ∧ SqT K H3 t us ∧ DxAll H3 us es := by
              cases e0 with
              | tup e r n => exact ⟨_, _, _, rfl, rfl, SqT.of e, r⟩
              | tupy e r n => exact ⟨_, _, _, rfl, rfl, e.sq, r⟩
              | _ => cases tup
            have lu := dxall_len hus
            refine ⟨_, rfl, _, 2, rfl, .inl ⟨t, _, rfl, ht, _, rfl, ?_⟩⟩
            by_cases l2 : us.length = 2
            · rw [show decide (((us.length : Nat) : Int) = 2) = true from decide_eq_true (by omega)]
              obtain ⟨u1, u2, rfl⟩ : ∃ u1 u2, us = [u1, u2] := match us, l2 with | [x, y], _ => ⟨x, y, rfl⟩
              cases hus with
              | cons h1 hus =>
                cases hus with
                | cons h2 hus =>
                  cases hus
                  exact iteF ⟨rfl, t, u1, u2, _, _, rfl, rfl, ht, h1, h2, rfl⟩
            · rw [show decide (((us.length : Nat) : Int) = 2) = false from decide_eq_false (by omega)]
              refine iteT (bad fun p s e1 => ?_)
              cases e1
              exact absurd lu (by simpa using l2)
          · rw [Bool.not_eq_true] at tup
            refine ⟨_, rfl, _, 2, rfl, .inr ⟨⟨_, th_ty (.dx e0), by rw [kt_tup, tup]⟩, false, rfl, iteT (bad fun p s e1 => ?_)⟩⟩
            rw [e1] at tup
            cases tup
        rintro σ H2 ⟨e2, t, u1, u2, d1, d2, rfl, rfl, ht, h1, h2, rfl⟩
        rw [e2]
        clear e2 H2
        refine ⟨_, rfl, t, _, rfl, ht, rfl, _, _, rfl, _, _, rfl, rfl, ?_⟩
        simp only [List.set]
        refine ⟨fun σ H2 => H2 = H3 ∧ ∃ pl, d1 = .int pl ∧ u1 = .int pl ∧ a < pl ∧ pl < L ∧ σ = [some (V.ref p), some (.int L), some (.int a), some (.ref t), some u1, some u2], ?_, ?_⟩
        · refine ⟨_, rfl, u1, d1, rfl, .dx h1, _, rfl, ?_⟩
          cases d1 with
          | int pl =>
            have ev := th_int (.dx h1)
            subst ev
            refine iteF ⟨_, rfl, _, rfl, _, _, rfl, rfl, _, rfl, ?_⟩
            by_cases c1 : a < pl
            · rw [if_pos (decide_eq_true c1)]
              refine ⟨_, rfl, _, _, rfl, rfl, _, rfl, ?_⟩
              by_cases c2 : pl < L
              · rw [decide_eq_true c2]
                exact iteF ⟨rfl, pl, rfl, rfl, c1, c2, rfl⟩
              · rw [decide_eq_false c2]
                exact iteT (bad fun p s e1 => by cases e1; exact fun z => c2 z.2.1)
            · rw [if_neg (by rw [decide_eq_false c1]; exact Bool.false_ne_true)]
              exact ⟨false, rfl, iteT (bad fun p s e1 => by cases e1; exact fun z => c1 z.1)⟩
          | _ => exact iteT (bad fun p s e1 => by cases e1)
        rintro σ H2 ⟨e2, pl, rfl, rfl, c1, c2, rfl⟩
        rw [e2]
        clear e2 H2
        refine ⟨fun σ H2 => H2 = H3 ∧ (∃ s, d2 = .int s ∧ 1 ≤ s ∧ s ≤ 2) ∧ σ = [some (V.ref p), some (.int L), some (.int a), some (.ref t), some (.int pl), some u2], ?_, ?_⟩
        · refine ⟨_, rfl, u2, d2, rfl, .dx h2, _, rfl, ?_⟩
          by_cases c3 : rngB 0 2 d2 = true
          · obtain ⟨s, rfl, s0, s1⟩ := rng_int c3
            have ev := th_int (.dx h2)
            subst ev
            rw [c3]
            refine iteF ⟨_, rfl, rfl, _, rfl, ?_⟩
            by_cases c4 : s = 0
            · rw [decide_eq_true (congrArg V.int c4)]
              exact iteT (bad fun p s' e1 => by cases e1; exact fun z => by omega)
            · rw [decide_eq_false fun z => c4 (V.int.inj z)]
              exact iteF ⟨rfl, ⟨s, rfl, by omega, s1⟩, rfl⟩
          · rw [Bool.not_eq_true] at c3
            rw [c3]
            exact iteT (bad fun p s e1 => by
              cases e1
              have c3 : decide (0 ≤ s ∧ s ≤ 2) = false := c3
              have := of_decide_eq_false c3
              omega)
        rintro σ H2 ⟨e2, ⟨s, rfl, s0, s1⟩, rfl⟩
        rw [e2]
        clear e2 H2
        rw [hearL_yes ⟨c1, c2, s0, s1⟩] at inv
        exact ⟨_, rfl, rfl, pl, _, _, _, rfl, inv⟩
      · rintro σ H2 ⟨rfl, a, x3, x4, x5, rfl, inv⟩
        rw [List.drop_eq_nil_of_le (by omega)] at inv
        exact ⟨rfl, inv⟩
    · rintro σ H2 ⟨rfl, h⟩
      rw [h] at q
      exact q
end
end Cw
namespace Cw
open PySem PySem.Spec PyProof.Rows L2
theorem num_small {i : Nat} (h : i ≤ 1000) : ((i : Nat) : Int).natAbs.log2 < 1920 := Nat.lt_of_lt_of_le (PySem.Flt.log2_lt_of (by decide) (show ((i : Nat) : Int).natAbs < 2 ^ 200 by omega)) (by decide)
def isLst : PyData → Bool | .list _ => true | _ => false
theorem kt_lst (d : PyData) : kitB (tyOf d) "list" = some (isLst d) := by cases d <;> (simp only [tyOf, isLst]; decide +kernel)
def numN (i : Nat) : Str := Str.ofString (toString (i : Int))
/-- what is wrong of a person's row behind these -/
inductive WrP (fs : List (Str × Int)) : PyData → Str → Str → Prop
  | pair {d : PyData} : (∀ x y, d ≠ .tuple [x, y]) → WrP fs d (Str.ofString "person") (numN fs.length)
  | name {x y : PyData} : nameB x = false → WrP fs (.tuple [x, y]) (Str.ofString "name") (numN fs.length)
  | again {z : Str} {y : PyData} : nameB (.str z) = true → z ∈ fs.map (·.1) → WrP fs (.tuple [.str z, y]) (Str.ofString "again") z
  | state {z : Str} {y : PyData} : nameB (.str z) = true → z ∉ fs.map (·.1) → rngB 0 2 y = false → WrP fs (.tuple [.str z, y]) (Str.ofString "state") z
theorem name_of {z : Str} (h : nameB (.str z) = true) : IsName z := by
  have h : (decide (1 ≤ z.length ∧ z.length ≤ 8) && z.cps.toList.all chOk) = true := h
  rw [Bool.and_eq_true] at h
  obtain ⟨h1, h2⟩ := of_decide_eq_true h.1
  refine ⟨h1, h2, fun c hc => ?_⟩
  have := List.all_eq_true.mp h.2 c hc
  exact of_decide_eq_true this
theorem of_name {z : Str} (h : IsName z) : nameB (.str z) = true := by
  show (decide (1 ≤ z.length ∧ z.length ≤ 8) && z.cps.toList.all chOk) = true
  rw [decide_eq_true ⟨h.1, h.2.1⟩, Bool.true_and]
  exact List.all_eq_true.mpr fun c hc => decide_eq_true (h.2.2 c hc)
theorem name_str {d : PyData} (h : nameB d = true) : ∃ z, d = .str z := by
  cases d with
  | str z => exact ⟨z, rfl⟩
  | _ => cases h
/-- any row: a person's, behind these, or wrong -/
theorem per_split (fs : List (Str × Int)) (d : PyData) : (∃ x : Str × Int, d = dPer x ∧ IsName x.1 ∧ x.1 ∉ fs.map (·.1) ∧ 0 ≤ x.2 ∧ x.2 ≤ 2) ∨ ∃ wt wo, WrP fs d wt wo := by
  by_cases h : ∃ x y, d = .tuple [x, y]
  · obtain ⟨x, y, rfl⟩ := h
    by_cases hn : nameB x = true
    · obtain ⟨z, rfl⟩ := name_str hn
      by_cases ha : z ∈ fs.map (·.1)
      · exact .inr ⟨_, _, .again hn ha⟩
      · by_cases hs : rngB 0 2 y = true
        · obtain ⟨n, rfl, n0, n1⟩ := rng_int hs
          exact .inl ⟨(z, n), rfl, name_of hn, ha, n0, n1⟩
        · exact .inr ⟨_, _, .state hn ha (Bool.eq_false_iff.mpr hs)⟩
    · exact .inr ⟨_, _, .name (Bool.eq_false_iff.mpr hn)⟩
  · exact .inr ⟨_, _, .pair fun x y e => h ⟨x, y, e⟩⟩
/-- the persons, or what is wrong of them -/
def PerDue (d : PyData) (wt wo : Str) : Prop :=
  ((∀ ds, d ≠ .list ds) ∧ wt = Str.ofString "persons" ∧ wo = Str.ofString "") ∨
  (∃ fs e rest, d = .list (fs.map dPer ++ e :: rest) ∧ Folk fs ∧ WrP fs e wt wo) ∨
  (∃ fs, d = dFolk fs ∧ Folk fs ∧ ¬ (1 ≤ fs.length ∧ fs.length ≤ 8) ∧ wt = Str.ofString "many" ∧ wo = Str.ofString "persons")
theorem folk_snoc {fs : List (Str × Int)} {x : Str × Int} (F : Folk fs) (h1 : IsName x.1) (h2 : x.1 ∉ fs.map (·.1)) (h3 : 0 ≤ x.2) (h4 : x.2 ≤ 2) : Folk (fs ++ [x]) := by
  refine ⟨?_, fun y hy => ?_, fun y hy => ?_⟩
  · rw [List.map_append, List.nodup_append]
    refine ⟨F.nd, by simp, fun a ha b hb e => ?_⟩
    rw [e] at ha
    have : b = x.1 := by simpa using hb
    rw [this] at ha
    exact h2 ha
  · rcases List.mem_append.mp hy with hy | hy
    · exact F.nm y hy
    · rw [List.mem_singleton.mp hy]
      exact h1
  · rcases List.mem_append.mp hy with hy | hy
    · exact F.st y hy
    · rw [List.mem_singleton.mp hy]
      exact ⟨h3, h4⟩
section
variable {P : Program} {w : World} {K : PySem.W.Frag} {mg : Str → Option Value} {base : Heap} {C NS NW0 : Addr}
def spChPE (NW0 : Addr) : Sp := fun vs H Q E => ∃ (v : V) (d : PyData) (wt wo : Str), vs = [v] ∧ Dx H v d ∧ (∀ ds, d = .list ds → ds.length ≤ 1000 ∧ ∀ e ∈ ds, e.bulk ≤ 10000000) ∧ PerDue d wt wo ∧ ∀ x H' H'', Same H H' → NewX2 "what" "who" (.str wt) (.str wo) H' x H'' → E (.ref NW0) (some x) H''
theorem ok_chpE {f : Addr} {fd : FuncData} (F : FnP K "checked_persons" "checked_persons" S_checked_persons f fd) (R_NoWeb : Rz2 P w K mg base "NoWeb" "what" "who" NW0) (H_is_tuple_of : Has P w K mg base "is_tuple_of" S_is_tuple_of 1 P_is_tuple_of (spTupOf K)) (H_is_name : Has P w K mg base "is_name" S_is_name 1 P_is_name spNameT) (H_is_state : Has P w K mg base "is_state" S_is_state 2 P_is_state spStateT) (cMP : ∃ t, mg "MOST_PERSONS" = some (.int 8 t)) (B : Blt mg) : FnOk P w K mg base (L2.CX P w) 3 f fd P_checked_persons (spChPE NW0) := by
  obtain ⟨f_is_tuple_of, fd_is_tuple_of, F_is_tuple_of, b_is_tuple_of, G_is_tuple_of, g_is_tuple_of⟩ := H_is_tuple_of
  obtain ⟨f_is_name, fd_is_name, F_is_name, b_is_name, G_is_name, g_is_name⟩ := H_is_name
  obtain ⟨f_is_state, fd_is_state, F_is_state, b_is_state, G_is_state, g_is_state⟩ := H_is_state
  obtain ⟨t_cMP, cMP⟩ := cMP
  have nd := sc_checked_persons.nd
  refine F.ok sc_checked_persons (fun vs H Q E h => ?_) (fun cdv A outer s H vs Q E hr h => ⟨_, (pss_cons (ps_if (pt_not (pt_val (pe_callB call_isi (by rfl) B.isinstance_ (by decide +kernel) (pa_cons (pv 0) (pa_cons (pe_bltn (v := .ty "list") (u := .type "list") (by rfl) B.list_ (by decide +kernel) rfl) pa_nil))))) (pss_one (ps_raise2 rfl (takes_of rfl rfl rfl rfl) R_NoWeb (hr.mono (by first | decide | omega)) rfl pe_str pe_str)) pss_nil)
     (pss_cons (ps_set (i := 1) nd rfl (.inl rfl) pe_dnewK)
     (C8.pss_cut (ps_for (passes_of rfl) rfl (pi_enum (by rfl) B.enumerate_ (pa_cons (pv 0) pa_nil)) (pg_tup (by rfl) (pgs_cons (pg_name (i := 2) nd rfl (.inl rfl)) (pgs_cons (pg_name (i := 3) nd rfl (.inl rfl)) pgs_nil)))
      (pss_cons (ps_if (pt_not (pt_val (pe_call G_is_tuple_of (hr.mono (by first | decide | omega)) rfl g_is_tuple_of F_is_tuple_of.kp b_is_tuple_of .nil pass0 (pa_cons (pv 3) (pa_cons pe_int pa_nil))))) (pss_one (ps_raise2 rfl (takes_of rfl rfl rfl rfl) R_NoWeb (hr.mono (by first | decide | omega)) rfl pe_str (pe_callTy call_str_int (by rfl) B.str_ (by decide +kernel) (pa_cons (pv 2) pa_nil)))) pss_nil)
     (pss_cons (ps_asg (pv 3) (pg_tup (by rfl) (pgs_cons (pg_name (i := 4) nd rfl (.inl rfl)) (pgs_cons (pg_name (i := 5) nd rfl (.inl rfl)) pgs_nil))))
     (pss_cons (ps_if (pt_not (pt_val (pe_call G_is_name (hr.mono (by first | decide | omega)) rfl g_is_name F_is_name.kp b_is_name .nil pass0 (pa_cons (pv 4) pa_nil)))) (pss_one (ps_raise2 rfl (takes_of rfl rfl rfl rfl) R_NoWeb (hr.mono (by first | decide | omega)) rfl pe_str (pe_callTy call_str_int (by rfl) B.str_ (by decide +kernel) (pa_cons (pv 2) pa_nil)))) pss_nil)
     (pss_cons (ps_if (pt_cmp (pc_din (hu_of hr) (pv 4) (pv 1))) (pss_one (ps_raise2 rfl (takes_of rfl rfl rfl rfl) R_NoWeb (hr.mono (by first | decide | omega)) rfl pe_str (pv 4))) pss_nil)
     (pss_cons (ps_if (pt_not (pt_val (pe_call G_is_state (hr.mono (by first | decide | omega)) rfl g_is_state F_is_state.kp b_is_state .nil pass0 (pa_cons (pv 5) pa_nil)))) (pss_one (ps_raise2 rfl (takes_of rfl rfl rfl rfl) R_NoWeb (hr.mono (by first | decide | omega)) rfl pe_str (pv 4))) pss_nil)
     (pss_one (ps_dput (hu_of hr) (pv 1) (pv 4) (pv 5) rfl))))))))
     (pss_cons (ps_if (pt_not (pt_chain op_le op_le pe_int (pe_callB call_lenD (by rfl) B.len_ PySem.boot_len (pa_cons (pv 1) pa_nil)) (pe_glob (v := .int 8) rfl cMP ⟨_, rfl⟩))) (pss_one (ps_raise2 rfl (takes_of rfl rfl rfl rfl) R_NoWeb (hr.mono (by first | decide | omega)) rfl pe_str pe_str)) pss_nil)
     (pss_one (ps_ret (pv 1))))))), ?_⟩)
  · obtain ⟨v, d, wt, wo, rfl, _⟩ := h
    rfl
  · obtain ⟨v, d, wt, wo, rfl, hv, few, due, q⟩ := h
    rw [show L2.start N_checked_persons [v] = [some v, none, none, none, none, none] from rfl]
    rcases due with ⟨nl, rfl, rfl⟩ | due
    · refine ⟨_, rfl, _, _, _, _, _, rfl, .ty _, th_ty (.dx hv), kit_ty (kt_lst d), _, rfl, ?_⟩
      cases d with
      | list ds => exact absurd rfl (nl ds)
      | _ => exact iteT fun x H2 nx => q x H H2 (fun _ _ e => e) nx
    obtain ⟨fs, tail, rfl, fo, cas⟩ : ∃ fs tail, d = .list (fs.map dPer ++ tail) ∧ Folk fs ∧ ((∃ e rest, tail = e :: rest ∧ WrP fs e wt wo) ∨ (tail = [] ∧ ¬ (1 ≤ fs.length ∧ fs.length ≤ 8) ∧ wt = Str.ofString "many" ∧ wo = Str.ofString "persons")) := by
      rcases due with ⟨fs, e, rest, rfl, fo, w⟩ | ⟨fs, rfl, fo, h⟩
      · exact ⟨fs, _, rfl, fo, .inl ⟨e, rest, rfl, w⟩⟩
      · exact ⟨fs, [], by rw [List.append_nil]; rfl, fo, .inr ⟨rfl, h⟩⟩
    obtain ⟨l1000, small⟩ := few _ rfl
    simp only [List.length_append, List.length_map] at l1000
    cases hv with
    | @lst a xs _ ha hx =>
    have lx := dxall_len hx
    simp only [List.length_append, List.length_map] at lx
    refine ⟨_, rfl, _, _, _, _, _, rfl, .ty _, ty_lst ha, kit_ty k_lst_lst, true, rfl, iteF ?_⟩
    intro dd nd
    simp only [List.set]
    refine ⟨fun σ H2 => tail = [] ∧ Same H (Off dd H2) ∧ H2 dd = some (.dK (kvF fs)) ∧ ∃ x2 x3 x4 x5, σ = [some (V.ref a), some (.ref dd), x2, x3, x4, x5], ?_, ?_⟩
    · refine ⟨_, rfl, a, xs, rfl, SqL.of (same_new nd _ _ ha), ?_⟩
      refine for_it (walk_enum (xs := xs)) (fun i σ H2 => i ≤ fs.length ∧ Same H (Off dd H2) ∧ H2 dd = some (.dK (kvF (fs.take i))) ∧ ∃ x2 x3 x4 x5, σ = [some (V.ref a), some (.ref dd), x2, x3, x4, x5]) ⟨Nat.zero_le _, fun b o e => Off.at (ne_of_none e nd) (same_new nd _ _ e), upd_same, none, none, none, none, rfl⟩ (fun i σ H2 _ h => SqL.of (Off.same _ _ (h.2.1 _ _ ha))) ?_ ?_
      · rintro i x σ H2 H3 hi ⟨il, sm, hd, x2, x3, x4, x5, rfl⟩ ⟨tt, u, y, rfl, nt, rfl, hu1, hxi⟩
        cases hu1
        obtain ⟨s3, m3⟩ := fresh2 (o := .tup [V.int (i : Nat), y]) nt
        have s03 : Same H _ := fun b o e => s3 _ _ (Off.same _ _ (sm b o e))
        have hd3 := s3 _ _ hd
        have so3 : Same H (Off dd (upd H2 tt (.tup [V.int (i : Nat), y]))) := fun b o e => Off.at (ne_of_none e nd) (s03 _ _ e)
        generalize upd H2 tt (.tup [V.int (i : Nat), y]) = H3 at s3 m3 s03 hd3 so3 ⊢
        obtain ⟨e, he, de0⟩ : ∃ e, (fs.map dPer ++ tail)[i]? = some e ∧ Dx H y e := by
          have hi3 : i < (fs.map dPer ++ tail).length := by rw [List.length_append, List.length_map]; omega
          obtain ⟨y', e1, e2⟩ := dxall_get (i := i) hx (List.getElem?_eq_getElem hi3)
          have exy : y = y' := Option.some.inj (hxi.symm.trans e1)
          subst exy
          exact ⟨_, List.getElem?_eq_getElem hi3, e2⟩
        have de := Dx.same s03 _ _ de0
        have bk := small e (List.mem_of_getElem? he)
        have here : (∃ h : i < fs.length, e = dPer fs[i]) ∨ (i = fs.length ∧ WrP fs e wt wo) := by
          by_cases hi2 : i < fs.length
          · refine .inl ⟨hi2, ?_⟩
            rw [List.getElem?_append_left (by rw [List.length_map]; exact hi2), List.getElem?_map, List.getElem?_eq_getElem hi2] at he
            exact (Option.some.inj he).symm
          · have ei : i = fs.length := by omega
            rcases cas with ⟨w, rest, rfl, hw⟩ | ⟨rfl, _⟩
            · refine .inr ⟨ei, ?_⟩
              subst ei
              rw [List.getElem?_append_right (by rw [List.length_map]; omega), List.length_map, Nat.sub_self] at he
              cases he
              exact hw
            · rw [List.append_nil, List.getElem?_eq_none (by rw [List.length_map]; omega)] at he
              cases he
        refine ⟨tt, _, rfl, SqT.of m3, rfl, _, _, rfl, _, _, rfl, rfl, ?_⟩
        simp only [List.set]
        have num : ((i : Nat) : Int).natAbs.log2 < 1920 := num_small (by omega)
        by_cases tup : ∃ t u1 u2 d1 d2, y = .ref t ∧ e = .tuple [d1, d2] ∧ SqT K H3 t [u1, u2] ∧ Dx H3 u1 d1 ∧ Dx H3 u2 d2
        · obtain ⟨t, u1, u2, d1, d2, rfl, rfl, ht, h1, h2⟩ := tup
          refine ⟨_, rfl, _, 2, rfl, .inl ⟨t, _, rfl, ht, true, rfl, iteF ?_⟩⟩
          refine ⟨_, rfl, t, _, rfl, ht, rfl, _, _, rfl, _, _, rfl, rfl, ?_⟩
          simp only [List.set]
          have sm1 : SmallS d1 := fun z ez => by
            subst ez
            simp [PyData.bulk, PyData.bulkAll] at bk
            show z.cps.size ≤ 10000000
            omega
          refine ⟨_, rfl, u1, d1, rfl, .dx h1, sm1, fun H4 s4 => ?_⟩
          have hd4 := s4 _ _ hd3
          have s04 := s03.trans s4
          have h2' := Dx.same s4 _ _ h2
          rcases here with ⟨hi2, he1⟩ | ⟨ei, w⟩
          · have he1 : PyData.tuple [d1, d2] = .tuple [.str fs[i].1, .int fs[i].2] := he1
            cases he1
            have hf := List.getElem_mem hi2
            have ev := th_int (.dx h2)
            subst ev
            have ev := th_str (.dx h1)
            subst ev
            rw [of_name (fo.nm _ hf)]
            refine ⟨true, rfl, iteF ?_⟩
            have fresh : fs[i].1 ∉ (fs.take i).map (·.1) := by
              intro z
              have e : fs.map (·.1) = (fs.take i).map (·.1) ++ (fs.drop i).map (·.1) := by rw [← List.map_append, List.take_append_drop]
              have nd := fo.nd
              rw [e] at nd
              refine (List.nodup_append.mp nd).2.2 _ z fs[i].1 ?_ rfl
              rw [List.drop_eq_getElem_cons hi2]
              exact List.mem_cons_self
            refine ⟨_, rfl, _, rfl, dd, _, rfl, DGet.k (k := Sum.inr fs[i].1) hd4, _, rfl, ?_⟩
            rw [valF_none fresh]
            refine iteF ⟨_, rfl, .int fs[i].2, .int fs[i].2, rfl, .dx (.int _), ?_⟩
            rw [show rngB 0 2 (.int fs[i].2) = true from decide_eq_true (fo.st _ hf)]
            refine ⟨true, rfl, iteF ?_⟩
            refine ⟨_, rfl, _, rfl, _, rfl, dd, _, rfl, DPut.k (k := Sum.inr fs[i].1) hd4 ?_, hi2, fun b o e => ?_, ?_, _, _, _, _, rfl⟩
            · unfold kvF
              rw [List.length_map, List.length_take]
              exact small1000 (by omega)
            · have nb : b ≠ dd := ne_of_none e nd
              exact Off.at nb (by rw [upd_ne nb]; exact s04 b o e)
            · rw [upd_same, put_new (valF_none fresh), List.take_add_one, List.getElem?_eq_getElem hi2]
              unfold kvF
              rw [List.map_append]
              rfl
          · subst ei
            rw [List.take_length] at hd4
            cases w with
            | pair h => exact absurd rfl (h d1 d2)
            | name hn =>
              rw [hn]
              exact ⟨false, rfl, iteT ⟨_, rfl, _, rfl, num, fun x H' nx => q x _ H' s04 nx⟩⟩
            | again hn ha' =>
              have ev := th_str (.dx h1)
              subst ev
              rw [hn]
              refine ⟨true, rfl, iteF ⟨_, rfl, _, rfl, dd, _, rfl, DGet.k (k := Sum.inr _) hd4, _, rfl, ?_⟩⟩
              rw [valF, decide_eq_true ha']
              exact iteT ⟨_, rfl, fun x H' nx => q x _ H' s04 nx⟩
            | state hn ha' hs =>
              have ev := th_str (.dx h1)
              subst ev
              rw [hn]
              refine ⟨true, rfl, iteF ⟨_, rfl, _, rfl, dd, _, rfl, DGet.k (k := Sum.inr _) hd4, _, rfl, ?_⟩⟩
              rw [valF, decide_eq_false ha']
              refine iteF ⟨_, rfl, u2, d2, rfl, .dx h2', ?_⟩
              rw [hs]
              exact ⟨false, rfl, iteT ⟨_, rfl, fun x H' nx => q x _ H' s04 nx⟩⟩
        · have notp : ∀ x y, e ≠ .tuple [x, y] := fun x y ee => by
            subst ee
            refine tup ?_
            cases de with
            | tup e r n =>
              cases r with
              | cons h1 r =>
                cases r with
                | cons h2 r =>
                  cases r
                  exact ⟨_, _, _, _, _, rfl, rfl, SqT.of e, h1, h2⟩
            | tupy e r n =>
              cases r with
              | cons h1 r =>
                cases r with
                | cons h2 r =>
                  cases r
                  exact ⟨_, _, _, _, _, rfl, rfl, e.sq, h1, h2⟩
          obtain ⟨ei, ewt, ewo⟩ : i = fs.length ∧ wt = Str.ofString "person" ∧ wo = numN fs.length := by
            rcases here with ⟨hi2, he1⟩ | ⟨ei, w⟩
            · exact absurd he1 (notp _ _)
            · cases w with
              | pair h => exact ⟨ei, rfl, rfl⟩
              | name hn => exact absurd rfl (notp _ _)
              | again hn ha' => exact absurd rfl (notp _ _)
              | state hn ha' hs => exact absurd rfl (notp _ _)
          subst ewt ewo ei
          by_cases tp : isTup e = true
          · obtain ⟨t, us, es, rfl, rfl, ht, hus⟩ : ∃ t us es, y = .ref t ∧ e = .tuple es ∧ SqT K H3 t us ∧ DxAll H3 us es := by
              cases de with
              | tup e r n => exact ⟨_, _, _, rfl, rfl, SqT.of e, r⟩
              | tupy e r n => exact ⟨_, _, _, rfl, rfl, e.sq, r⟩
              | _ => cases tp
            have lu := dxall_len hus
            refine ⟨_, rfl, _, 2, rfl, .inl ⟨t, _, rfl, ht, _, rfl, ?_⟩⟩
            have ne2 : us.length ≠ 2 := fun l2 => by
              match es, (lu.symm.trans l2) with
              | [x, y], _ => exact notp x y rfl
            rw [show decide (((us.length : Nat) : Int) = 2) = false from decide_eq_false (by omega)]
            exact iteT ⟨_, rfl, _, rfl, num, fun x H' nx => q x _ H' s03 nx⟩
          · rw [Bool.not_eq_true] at tp
            exact ⟨_, rfl, _, 2, rfl, .inr ⟨⟨_, th_ty (.dx de), by rw [kt_tup, tp]⟩, false, rfl, iteT ⟨_, rfl, _, rfl, num, fun x H' nx => q x _ H' s03 nx⟩⟩⟩
      · rintro σ H2 ⟨il, sm, hd, x2, x3, x4, x5, rfl⟩
        have t0 : tail = [] := List.eq_nil_of_length_eq_zero (by omega)
        rw [lx, t0] at hd
        rw [List.take_of_length_le (by simp)] at hd
        exact ⟨t0, sm, hd, x2, x3, x4, x5, rfl⟩
    · rintro σ H2 ⟨rfl, sm, hd, x2, x3, x4, x5, rfl⟩
      have lk : ((kvF fs).length : Int) = fs.length := by
        unfold kvF
        rw [List.length_map]
      obtain ⟨many, rfl, rfl⟩ : ¬ (1 ≤ fs.length ∧ fs.length ≤ 8) ∧ wt = Str.ofString "many" ∧ wo = Str.ofString "persons" := by
        rcases cas with ⟨e, rest, h, _⟩ | ⟨_, h⟩
        · cases h
        · exact h
      have s02 : Same H H2 := fun b o e => Off.same _ _ (sm b o e)
      refine ⟨_, rfl, dd, _, rfl, hd, _, _, rfl, rfl, _, rfl, ?_⟩
      rw [lk]
      by_cases c1 : (1 : Int) ≤ (fs.length : Int)
      · rw [if_pos (decide_eq_true c1)]
        refine ⟨_, _, rfl, rfl, false, qf (by omega), iteT fun x H' nx => q x _ H' s02 nx⟩
      · rw [if_neg (by rw [decide_eq_false c1]; exact Bool.false_ne_true)]
        exact ⟨false, rfl, iteT fun x H' nx => q x _ H' s02 nx⟩
end
end Cw
namespace Cw
open PySem PySem.Spec PyProof.Rows L2
theorem hearL_hs {L : Int} : ∀ {ds : List PyData} {a : Int} {hs : List (Int × Int)}, hearL L a ds = some hs → ds = hs.map dHear ∧ hs.Pairwise (fun a b => a.1 < b.1) ∧ ∀ h ∈ hs, a < h.1 ∧ h.1 < L ∧ 1 ≤ h.2 ∧ h.2 ≤ 2
  | [], a, hs, h => by
    cases h
    exact ⟨rfl, List.Pairwise.nil, fun _ h => by cases h⟩
  | d :: r, a, hs, h => by
    by_cases g : ∃ p s, d = .tuple [.int p, .int s] ∧ (a < p ∧ p < L ∧ 1 ≤ s ∧ s ≤ 2)
    · obtain ⟨p, s, rfl, c⟩ := g
      have e : hearL L a (.tuple [.int p, .int s] :: r) = (hearL L p r).map ((p, s) :: ·) := by
        show (if a < p ∧ p < L ∧ 1 ≤ s ∧ s ≤ 2 then _ else none) = _
        rw [if_pos c]
      rw [e] at h
      cases h2 : hearL L p r with
      | none => rw [h2] at h; cases h
      | some t =>
        rw [h2] at h
        cases h
        obtain ⟨e1, e2, e3⟩ := hearL_hs h2
        refine ⟨by rw [e1]; rfl, List.pairwise_cons.mpr ⟨fun b hb => (e3 b hb).1, e2⟩, fun x hx => ?_⟩
        rcases List.mem_cons.mp hx with hx | hx
        · rw [hx]
          exact c
        · have := e3 x hx
          exact ⟨by omega, this.2⟩
    · rw [hearL_no fun p s e c => g ⟨p, s, e, c⟩] at h
      cases h
theorem hearL_some {L : Int} : ∀ {hs : List (Int × Int)} {a : Int}, hs.Pairwise (fun a b => a.1 < b.1) → (∀ h ∈ hs, a < h.1 ∧ h.1 < L ∧ 1 ≤ h.2 ∧ h.2 ≤ 2) → hearL L a (hs.map dHear) = some hs
  | [], a, _, _ => rfl
  | (p, s) :: r, a, pw, al => by
    have c := al (p, s) List.mem_cons_self
    show (if a < p ∧ p < L ∧ 1 ≤ s ∧ s ≤ 2 then (hearL L p (r.map dHear)).map ((p, s) :: ·) else none) = _
    rw [if_pos c, hearL_some (List.pairwise_cons.mp pw).2 fun x hx => ⟨(List.pairwise_cons.mp pw).1 x hx, (al x (List.mem_cons_of_mem _ hx)).2⟩]
    rfl
theorem hear_some {L : Int} {hs : List (Int × Int)} (h : Hear L hs) : hearOf L (dHs hs) = some hs := hearL_some h.up fun x hx => ⟨by have := (h.at_ x hx).1; omega, (h.at_ x hx).2⟩
theorem hear_hs {L : Int} {d : PyData} {hs : List (Int × Int)} (h : hearOf L d = some hs) : d = dHs hs ∧ Hear L hs := by
  cases d with
  | tuple ds =>
    obtain ⟨e1, e2, e3⟩ := hearL_hs (show hearL L 0 ds = some hs from h)
    exact ⟨congrArg PyData.tuple e1, e2, fun x hx => ⟨by have := (e3 x hx).1; omega, (e3 x hx).2⟩⟩
  | _ => cases h
theorem len_int {r : Bool} {n : Int} : lenB r (.int n) = true ↔ LenR r n := by
  cases r with
  | true => exact ⟨fun h => by have h := of_decide_eq_true (show decide (1 ≤ n ∧ n ≤ 1) = true from h); show n = 1; omega, fun h => decide_eq_true (by have h : n = 1 := h; omega)⟩
  | false => exact ⟨fun h => by
    have h' : 2 ≤ n ∧ n ≤ 10 ^ 30 := of_decide_eq_true h
    exact h', fun h => by
    have h : 2 ≤ n ∧ n ≤ 10 ^ 30 := h
    show decide (2 ≤ n ∧ n ≤ 10 ^ 30) = true
    exact decide_eq_true h⟩
theorem len_str {r : Bool} {d : PyData} (h : lenB r d = true) : ∃ n, d = .int n := by
  cases r with
  | true => obtain ⟨n, e, _⟩ := rng_int (show rngB 1 1 d = true from h); exact ⟨n, e⟩
  | false => obtain ⟨n, e, _⟩ := rng_int (show rngB 2 (10 ^ 30) d = true from h); exact ⟨n, e⟩
theorem ends_str {ns : List Str} {d e : PyData} (h : endsB ns d e = true) : ∃ y z, d = .str y ∧ e = .str z ∧ y ∈ ns ∧ z ∈ ns ∧ y ≠ z := by
  cases d with
  | str y =>
    cases e with
    | str z =>
      have h : (decide (y ∈ ns) && (decide (z ∈ ns) && decide (y ≠ z))) = true := h
      rw [Bool.and_eq_true, Bool.and_eq_true] at h
      exact ⟨y, z, rfl, rfl, of_decide_eq_true h.1, of_decide_eq_true h.2.1, of_decide_eq_true h.2.2⟩
    | _ => cases h
  | _ => cases h
theorem of_ends {ns : List Str} {y z : Str} (h1 : y ∈ ns) (h2 : z ∈ ns) (h3 : y ≠ z) : endsB ns (.str y) (.str z) = true := by
  show (decide (y ∈ ns) && (decide (z ∈ ns) && decide (y ≠ z))) = true
  rw [decide_eq_true h1, decide_eq_true h2, decide_eq_true h3]
  rfl
/-- what is wrong of a tie's row behind these -/
inductive WrT (r : Bool) (ns tn : List Str) : PyData → Str → Str → Prop
  | tie {d : PyData} : (∀ a b c e f, d ≠ .tuple [a, b, c, e, f]) → WrT r ns tn d (Str.ofString "tie") (numN tn.length)
  | name {a b c e f : PyData} : nameB a = false → WrT r ns tn (.tuple [a, b, c, e, f]) (Str.ofString "name") (numN tn.length)
  | again {z : Str} {b c e f : PyData} : nameB (.str z) = true → (z ∈ ns ∨ z ∈ tn) → WrT r ns tn (.tuple [.str z, b, c, e, f]) (Str.ofString "again") z
  | ends {z : Str} {b c e f : PyData} : nameB (.str z) = true → z ∉ ns → z ∉ tn → endsB ns b c = false → WrT r ns tn (.tuple [.str z, b, c, e, f]) (Str.ofString "ends") z
  | length {z : Str} {b c e f : PyData} : nameB (.str z) = true → z ∉ ns → z ∉ tn → endsB ns b c = true → lenB r e = false → WrT r ns tn (.tuple [.str z, b, c, e, f]) (Str.ofString "length") z
  | hearers {z : Str} {b c f : PyData} {L : Int} : nameB (.str z) = true → z ∉ ns → z ∉ tn → endsB ns b c = true → lenB r (.int L) = true → hearOf L f = none → WrT r ns tn (.tuple [.str z, b, c, .int L, f]) (Str.ofString "hearers") z
def Ties0 (r : Bool) (fs : List (Str × Int)) (ts : List Tie) : Prop := (∀ t ∈ ts, Good r (fs.map (·.1)) t) ∧ (fs.map (·.1) ++ ts.map (·.nm)).Nodup
theorem tie_split (r : Bool) (ns tn : List Str) (d : PyData) : (∃ t, d = dTie t ∧ Good r ns t ∧ t.nm ∉ ns ∧ t.nm ∉ tn) ∨ ∃ wt wo, WrT r ns tn d wt wo := by
  by_cases h : ∃ a b c e f, d = .tuple [a, b, c, e, f]
  · obtain ⟨a, b, c, e, f, rfl⟩ := h
    by_cases hn : nameB a = true
    · obtain ⟨z, rfl⟩ := name_str hn
      by_cases ha : z ∈ ns ∨ z ∈ tn
      · exact .inr ⟨_, _, .again hn ha⟩
      · have h1 : z ∉ ns := fun x => ha (.inl x)
        have h2 : z ∉ tn := fun x => ha (.inr x)
        by_cases he : endsB ns b c = true
        · by_cases hl : lenB r e = true
          · obtain ⟨L, rfl⟩ := len_str hl
            cases hh : hearOf L f with
            | none => exact .inr ⟨_, _, .hearers hn h1 h2 he hl hh⟩
            | some hs =>
              obtain ⟨rfl, hr⟩ := hear_hs hh
              obtain ⟨y, y2, rfl, rfl, e1, e2, e3⟩ := ends_str he
              exact .inl ⟨⟨z, y, y2, L, hs⟩, rfl, ⟨name_of hn, e1, e2, e3, len_int.mp hl, hr⟩, h1, h2⟩
          · exact .inr ⟨_, _, .length hn h1 h2 he (Bool.eq_false_iff.mpr hl)⟩
        · exact .inr ⟨_, _, .ends hn h1 h2 (Bool.eq_false_iff.mpr he)⟩
    · exact .inr ⟨_, _, .name (Bool.eq_false_iff.mpr hn)⟩
  · exact .inr ⟨_, _, .tie fun a b c e f x => h ⟨a, b, c, e, f, x⟩⟩
theorem ties0_snoc {r : Bool} {fs : List (Str × Int)} {ts : List Tie} {t : Tie} (T : Ties0 r fs ts) (G : Good r (fs.map (·.1)) t) (h1 : t.nm ∉ fs.map (·.1)) (h2 : t.nm ∉ ts.map (·.nm)) : Ties0 r fs (ts ++ [t]) := by
  refine ⟨fun x hx => ?_, ?_⟩
  · rcases List.mem_append.mp hx with hx | hx
    · exact T.1 x hx
    · rw [List.mem_singleton.mp hx]
      exact G
  · rw [List.map_append, ← List.append_assoc, List.nodup_append]
    refine ⟨T.2, by simp, fun a ha b hb e => ?_⟩
    have : b = t.nm := by simpa using hb
    rw [e, this] at ha
    exact (List.mem_append.mp ha).elim h1 h2
/-- what is wrong of the ties, behind good persons -/
def TieDue (r : Bool) (fs : List (Str × Int)) (d : PyData) (wt wo : Str) : Prop :=
  ((∀ ds, d ≠ .list ds) ∧ d ≠ .tuple [] ∧ wt = Str.ofString "ties" ∧ wo = Str.ofString "") ∨
  (∃ ts e rest, d = .list (ts.map dTie ++ e :: rest) ∧ Ties0 r fs ts ∧ WrT r (fs.map (·.1)) (ts.map (·.nm)) e wt wo) ∨
  (∃ ts, d = .list (ts.map dTie) ∧ Ties0 r fs ts ∧ wt = Str.ofString "many" ∧ ((12 < ts.length ∧ wo = Str.ofString "ties") ∨ (ts.length ≤ 12 ∧ 12 < told ts ∧ wo = Str.ofString "hearers")))
theorem qt {p : Prop} [Decidable p] (h : p) : V.bl (decide p) = V.bl true := by rw [decide_eq_true h]
theorem bulk_hs : ∀ hs : List (Int × Int), hs.length ≤ PyData.bulkAll (hs.map dHear)
  | [] => Nat.zero_le _
  | h :: r => by
    have := bulk_hs r
    simp only [List.map_cons, List.length_cons, PyData.bulkAll, dHear, PyData.bulk]
    omega
theorem few_hs {t : Tie} (h : (dTie t).bulk ≤ 10000000) : t.hs.length ≤ 10000000 := by
  have := bulk_hs t.hs
  simp only [dTie, dHs, PyData.bulk, PyData.bulkAll] at h
  omega
section
variable {P : Program} {w : World} {K : PySem.W.Frag} {mg : Str → Option Value} {base : Heap} {C NS NW0 : Addr}
def spChTE (NW0 : Addr) : Sp := fun vs H Q E => ∃ (v : V) (ds : Addr) (r : Bool) (fs : List (Str × Int)) (d : PyData) (wt wo : Str), vs = [v, .ref ds, .bl r] ∧ Dx H v d ∧ H ds = some (.dK (kvF fs)) ∧ (∀ ds, d = .list ds → ds.length ≤ 1000 ∧ ∀ e ∈ ds, e.bulk ≤ 10000000) ∧ TieDue r fs d wt wo ∧ ∀ x H' H'', Same H H' → NewX2 "what" "who" (.str wt) (.str wo) H' x H'' → E (.ref NW0) (some x) H''
theorem ok_chtE {f : Addr} {fd : FuncData} (F : FnP K "checked_ties" "checked_ties" S_checked_ties f fd) (R_NoWeb : Rz2 P w K mg base "NoWeb" "what" "who" NW0) (H_is_tuple_of : Has P w K mg base "is_tuple_of" S_is_tuple_of 1 P_is_tuple_of (spTupOf K)) (H_is_name : Has P w K mg base "is_name" S_is_name 1 P_is_name spNameT) (H_are_ends : Has P w K mg base "are_ends" S_are_ends 1 P_are_ends spEndsT) (H_is_length : Has P w K mg base "is_length" S_is_length 2 P_is_length spLenT) (H_are_hearers : Has P w K mg base "are_hearers" S_are_hearers 3 P_are_hearers spHearT) (cMT : ∃ t, mg "MOST_TIES" = some (.int 12 t)) (cMH : ∃ t, mg "MOST_HEARERS" = some (.int 12 t)) (B : Blt mg) : FnOk P w K mg base (L2.CX P w) 4 f fd P_checked_ties (spChTE NW0) := by
  obtain ⟨f_is_tuple_of, fd_is_tuple_of, F_is_tuple_of, b_is_tuple_of, G_is_tuple_of, g_is_tuple_of⟩ := H_is_tuple_of
  obtain ⟨f_is_name, fd_is_name, F_is_name, b_is_name, G_is_name, g_is_name⟩ := H_is_name
  obtain ⟨f_are_ends, fd_are_ends, F_are_ends, b_are_ends, G_are_ends, g_are_ends⟩ := H_are_ends
  obtain ⟨f_is_length, fd_is_length, F_is_length, b_is_length, G_is_length, g_is_length⟩ := H_is_length
  obtain ⟨f_are_hearers, fd_are_hearers, F_are_hearers, b_are_hearers, G_are_hearers, g_are_hearers⟩ := H_are_hearers
  obtain ⟨t_cMH, cMH⟩ := cMH
  obtain ⟨t_cMT, cMT⟩ := cMT
  have nd := sc_checked_ties.nd
  refine F.ok sc_checked_ties (fun vs H Q E h => ?_) (fun cdv A outer s H vs Q E hr h => ⟨_, (pss_cons (ps_if (PW.pt (pw_and (pt_not (pt_val (pe_callB call_isi (by rfl) B.isinstance_ (by decide +kernel) (pa_cons (pv 0) (pa_cons (pe_bltn (v := .ty "list") (u := .type "list") (by rfl) B.list_ (by decide +kernel) rfl) pa_nil))))) (pw_and1 (pt_not (pt_val (pe_call G_is_tuple_of (hr.mono (by first | decide | omega)) rfl g_is_tuple_of F_is_tuple_of.kp b_is_tuple_of .nil pass0 (pa_cons (pv 0) (pa_cons pe_int pa_nil)))))))) (pss_one (ps_raise2 rfl (takes_of rfl rfl rfl rfl) R_NoWeb (hr.mono (by first | decide | omega)) rfl pe_str pe_str)) pss_nil)
     (pss_cons (ps_set (i := 3) nd rfl (.inl rfl) pe_dnewK)
     (C8.pss_cut (ps_for (passes_of rfl) rfl (pi_enum (by rfl) B.enumerate_ (pa_cons (pv 0) pa_nil)) (pg_tup (by rfl) (pgs_cons (pg_name (i := 4) nd rfl (.inl rfl)) (pgs_cons (pg_name (i := 5) nd rfl (.inl rfl)) pgs_nil)))
      (pss_cons (ps_if (pt_not (pt_val (pe_call G_is_tuple_of (hr.mono (by first | decide | omega)) rfl g_is_tuple_of F_is_tuple_of.kp b_is_tuple_of .nil pass0 (pa_cons (pv 5) (pa_cons pe_int pa_nil))))) (pss_one (ps_raise2 rfl (takes_of rfl rfl rfl rfl) R_NoWeb (hr.mono (by first | decide | omega)) rfl pe_str (pe_callTy call_str_int (by rfl) B.str_ (by decide +kernel) (pa_cons (pv 4) pa_nil)))) pss_nil)
     (pss_cons (ps_asg (pv 5) (pg_tup (by rfl) (pgs_cons (pg_name (i := 6) nd rfl (.inl rfl)) (pgs_cons (pg_name (i := 7) nd rfl (.inl rfl)) (pgs_cons (pg_name (i := 8) nd rfl (.inl rfl)) (pgs_cons (pg_name (i := 9) nd rfl (.inl rfl)) (pgs_cons (pg_name (i := 10) nd rfl (.inl rfl)) pgs_nil)))))))
     (pss_cons (ps_if (pt_not (pt_val (pe_call G_is_name (hr.mono (by first | decide | omega)) rfl g_is_name F_is_name.kp b_is_name .nil pass0 (pa_cons (pv 6) pa_nil)))) (pss_one (ps_raise2 rfl (takes_of rfl rfl rfl rfl) R_NoWeb (hr.mono (by first | decide | omega)) rfl pe_str (pe_callTy call_str_int (by rfl) B.str_ (by decide +kernel) (pa_cons (pv 4) pa_nil)))) pss_nil)
     (pss_cons (ps_if (PW.pt (pw_or (pt_cmp (pc_din (hu_of hr) (pv 6) (pv 1))) (pw_or1 (pt_cmp (pc_din (hu_of hr) (pv 6) (pv 3)))))) (pss_one (ps_raise2 rfl (takes_of rfl rfl rfl rfl) R_NoWeb (hr.mono (by first | decide | omega)) rfl pe_str (pv 6))) pss_nil)
     (pss_cons (ps_if (pt_not (pt_val (pe_call G_are_ends (hr.mono (by first | decide | omega)) rfl g_are_ends F_are_ends.kp b_are_ends .nil pass0 (pa_cons (pv 7) (pa_cons (pv 8) (pa_cons (pv 1) pa_nil)))))) (pss_one (ps_raise2 rfl (takes_of rfl rfl rfl rfl) R_NoWeb (hr.mono (by first | decide | omega)) rfl pe_str (pv 6))) pss_nil)
     (pss_cons (ps_if (pt_not (pt_val (pe_call G_is_length (hr.mono (by first | decide | omega)) rfl g_is_length F_is_length.kp b_is_length .nil pass0 (pa_cons (pv 9) (pa_cons (pv 2) pa_nil))))) (pss_one (ps_raise2 rfl (takes_of rfl rfl rfl rfl) R_NoWeb (hr.mono (by first | decide | omega)) rfl pe_str (pv 6))) pss_nil)
     (pss_cons (ps_if (pt_not (pt_val (pe_call G_are_hearers (hr.mono (by first | decide | omega)) rfl g_are_hearers F_are_hearers.kp b_are_hearers .nil pass0 (pa_cons (pv 10) (pa_cons (pv 9) pa_nil))))) (pss_one (ps_raise2 rfl (takes_of rfl rfl rfl rfl) R_NoWeb (hr.mono (by first | decide | omega)) rfl pe_str (pv 6))) pss_nil)
     (pss_one (ps_dput (hu_of hr) (pv 3) (pv 6) (pe_tup (pa_cons (pv 6) (pa_cons (pv 7) (pa_cons (pv 8) (pa_cons (pv 9) (pa_cons (pe_callTy call_tupleZ (by rfl) B.tuple_ (by decide +kernel) (pa_cons (pe_lc (own := [("place", 12), ("state", 13)]) (g := gTup K 2 (gCons (gName 12) (gCons (gName 13) gNil))) rfl nd (pi_tup (pv 10)) (blkOk_by (own := [("place", 12), ("state", 13)]) (N := N_checked_ties) (sc := defScope S_checked_ties) (by decide +kernel)) (fun _ _ _ _ _ => (pg_tup rfl (pgs_cons (pg_name (i := 12) nd rfl (.inl rfl)) (pgs_cons (pg_name (i := 13) nd rfl (.inl rfl)) pgs_nil)))) (fun _ _ _ _ _ => pts_nil) (fun _ _ _ _ _ => (pe_tup (pa_cons (pv 12) (pa_cons (pv 13) pa_nil))))) pa_nil)) pa_nil)))))) rfl))))))))))
     (pss_cons (ps_if (pt_cmpR op_gt (pe_callB call_lenD (by rfl) B.len_ PySem.boot_len (pa_cons (pv 3) pa_nil)) (pe_glob (v := .int 12) rfl cMT ⟨_, rfl⟩) (nomark _)) (pss_one (ps_raise2 rfl (takes_of rfl rfl rfl rfl) R_NoWeb (hr.mono (by first | decide | omega)) rfl pe_str pe_str)) pss_nil)
     (pss_cons (ps_if (pt_cmpR op_gt (pe_callB (cr_sum rfl) (by rfl) B.sum_ (by decide +kernel) (pa_cons (pe_lock (pe_lc (own := [("row", 11)]) (g := gName 11) rfl nd (pi_values (pv 3)) (blkOk_by (own := [("row", 11)]) (N := N_checked_ties) (sc := defScope S_checked_ties) (by decide +kernel)) (fun _ _ _ _ _ => (pg_name (i := 11) nd rfl (.inl rfl))) (fun _ _ _ _ _ => pts_nil) (fun _ _ _ _ _ => (pe_callB (call_lenK (K := K) rfl) (by rfl) B.len_ PySem.boot_len (pa_cons (pe_ix (ix_tupK (K := K) rfl) (pv 11) pe_int (fun _ _ => rfl)) pa_nil))))) pa_nil)) (pe_glob (v := .int 12) rfl cMH ⟨_, rfl⟩) (nomark _)) (pss_one (ps_raise2 rfl (takes_of rfl rfl rfl rfl) R_NoWeb (hr.mono (by first | decide | omega)) rfl pe_str pe_str)) pss_nil)
     (pss_one (ps_ret (pv 3)))))))), ?_⟩)
  · obtain ⟨v, ds, r, fs, d, wt, wo, rfl, _⟩ := h
    rfl
  · obtain ⟨v, ds, r, fs, d, wt, wo, rfl, hv, hds, few, due, q⟩ := h
    rw [show L2.start N_checked_ties [v, V.ref ds, V.bl r] = [some v, some (.ref ds), some (.bl r), none, none, none, none, none, none, none, none, none, none, none] from rfl]
    rcases due with ⟨nl, nt, rfl, rfl⟩ | due
    · refine ⟨_, rfl, _, _, _, _, _, rfl, .ty _, th_ty (.dx hv), kit_ty (kt_lst d), _, rfl, ?_⟩
      have el : isLst d = false := by
        cases d with
        | list ds => exact absurd rfl (nl ds)
        | _ => rfl
      rw [el]
      refine iteT ?_
      by_cases tp : isTup d = true
      · obtain ⟨t, us, es, rfl, rfl, ht, hus⟩ : ∃ t us es, v = .ref t ∧ d = .tuple es ∧ SqT K H t us ∧ DxAll H us es := by
          cases hv with
          | tup e r n => exact ⟨_, _, _, rfl, rfl, SqT.of e, r⟩
          | tupy e r n => exact ⟨_, _, _, rfl, rfl, e.sq, r⟩
          | _ => cases tp
        have lu := dxall_len hus
        refine ⟨_, rfl, _, 0, rfl, .inl ⟨t, _, rfl, ht, _, rfl, ?_⟩⟩
        have ne0 : us.length ≠ 0 := fun l0 => nt (by rw [List.eq_nil_of_length_eq_zero (lu.symm.trans l0)])
        rw [show decide (((us.length : Nat) : Int) = 0) = false from decide_eq_false (by omega)]
        exact iteT fun x H2 nx => q x H H2 (fun _ _ e => e) nx
      · rw [Bool.not_eq_true] at tp
        exact ⟨_, rfl, _, 0, rfl, .inr ⟨⟨_, th_ty (.dx hv), by rw [kt_tup, tp]⟩, false, rfl, iteT fun x H2 nx => q x H H2 (fun _ _ e => e) nx⟩⟩
    obtain ⟨ts, tail, rfl, T0, cas⟩ : ∃ ts tail, d = .list (ts.map dTie ++ tail) ∧ Ties0 r fs ts ∧ ((∃ e rest, tail = e :: rest ∧ WrT r (fs.map (·.1)) (ts.map (·.nm)) e wt wo) ∨ (tail = [] ∧ wt = Str.ofString "many" ∧ ((12 < ts.length ∧ wo = Str.ofString "ties") ∨ (ts.length ≤ 12 ∧ 12 < told ts ∧ wo = Str.ofString "hearers")))) := by
      rcases due with ⟨ts, e, rest, rfl, fo, w⟩ | ⟨ts, rfl, fo, h⟩
      · exact ⟨ts, _, rfl, fo, .inl ⟨e, rest, rfl, w⟩⟩
      · exact ⟨ts, [], by rw [List.append_nil], fo, .inr ⟨rfl, h⟩⟩
    obtain ⟨l1000, small⟩ := few _ rfl
    simp only [List.length_append, List.length_map] at l1000
    cases hv with
    | @lst a ys _ ha hx =>
    have lx := dxall_len hx
    simp only [List.length_append, List.length_map] at lx
    refine ⟨_, rfl, _, _, _, _, _, rfl, .ty _, ty_lst ha, kit_ty k_lst_lst, true, rfl, iteF ?_⟩
    intro dd ndd
    simp only [List.set]
    refine ⟨fun σ H2 => tail = [] ∧ ∃ xs x4 x5 x6 x7 x8 x9 x10 x11 x12 x13, σ = [some (V.ref a), some (.ref ds), some (.bl r), some (.ref dd), x4, x5, x6, x7, x8, x9, x10, x11, x12, x13] ∧ Same H (Off dd H2) ∧ H2 dd = some (.dK (kvT ts xs)) ∧ DxAll (Off dd (Nw H H2)) xs (ts.map dTie), ?_, ?_⟩
    · refine ⟨_, rfl, a, ys, rfl, SqL.of (same_new ndd _ _ ha), ?_⟩
      refine for_it (walk_enum (xs := ys)) (fun i σ H2 => i ≤ ts.length ∧ ∃ xs x4 x5 x6 x7 x8 x9 x10 x11 x12 x13, σ = [some (V.ref a), some (.ref ds), some (.bl r), some (.ref dd), x4, x5, x6, x7, x8, x9, x10, x11, x12, x13] ∧ Same H (Off dd H2) ∧ H2 dd = some (.dK (kvT (ts.take i) xs)) ∧ DxAll (Off dd (Nw H H2)) xs ((ts.take i).map dTie))
        ⟨Nat.zero_le _, [], none, none, none, none, none, none, none, none, none, none, rfl, fun b o e => Off.at (ne_of_none e ndd) (same_new ndd _ _ e), upd_same, .nil⟩ (fun i σ H2 _ h => by obtain ⟨_, xs, x4, x5, x6, x7, x8, x9, x10, x11, x12, x13, _, sm, _⟩ := h; exact SqL.of (Off.same _ _ (sm _ _ ha))) ?_ ?_
      · rintro i x σ H2 H3 hi ⟨il, xs, x4, x5, x6, x7, x8, x9, x10, x11, x12, x13, rfl, sm, hd, hxs⟩ ⟨tt, u, y, rfl, nt, rfl, hu1, hxi⟩
        cases hu1
        obtain ⟨s3, m3⟩ := fresh2 (o := .tup [V.int (i : Nat), y]) nt
        have s03 : Same H (upd H2 tt (.tup [V.int (i : Nat), y])) := fun b o e => s3 _ _ (Off.same _ _ (sm b o e))
        have hd3 := s3 _ _ hd
        have hds3 := s03 _ _ hds
        have s23 := s3
        generalize upd H2 tt (.tup [V.int (i : Nat), y]) = H3 at s3 m3 s03 hd3 hds3 s23 ⊢
        obtain ⟨e, he, de0⟩ : ∃ e, (ts.map dTie ++ tail)[i]? = some e ∧ Dx H y e := by
          have hi3 : i < (ts.map dTie ++ tail).length := by rw [List.length_append, List.length_map]; omega
          obtain ⟨y', e1, e2⟩ := dxall_get (i := i) hx (List.getElem?_eq_getElem hi3)
          have exy : y = y' := Option.some.inj (hxi.symm.trans e1)
          subst exy
          exact ⟨_, List.getElem?_eq_getElem hi3, e2⟩
        have de := Dx.same s03 _ _ de0
        have bk := small e (List.mem_of_getElem? he)
        have here : (∃ h : i < ts.length, e = dTie ts[i]) ∨ (i = ts.length ∧ WrT r (fs.map (·.1)) (ts.map (·.nm)) e wt wo) := by
          by_cases hi2 : i < ts.length
          · refine .inl ⟨hi2, ?_⟩
            rw [List.getElem?_append_left (by rw [List.length_map]; exact hi2), List.getElem?_map, List.getElem?_eq_getElem hi2] at he
            exact (Option.some.inj he).symm
          · have ei : i = ts.length := by omega
            rcases cas with ⟨w, rest, rfl, hw⟩ | ⟨rfl, _⟩
            · refine .inr ⟨ei, ?_⟩
              subst ei
              rw [List.getElem?_append_right (by rw [List.length_map]; omega), List.length_map, Nat.sub_self] at he
              cases he
              exact hw
            · rw [List.append_nil, List.getElem?_eq_none (by rw [List.length_map]; omega)] at he
              cases he
        have lxs : (ts.take i).length = xs.length := by
          have := dxall_len hxs
          rw [List.length_map] at this
          exact this.symm
        refine ⟨tt, _, rfl, SqT.of m3, rfl, _, _, rfl, _, _, rfl, rfl, ?_⟩
        simp only [List.set]
        have num : ((i : Nat) : Int).natAbs.log2 < 1920 := num_small (by omega)
        rcases here with ⟨hi2, rfl⟩ | ⟨ei, w⟩
        · obtain ⟨t, vh, rfl, ht3, hvh⟩ := dx_tie de
          obtain ⟨t', vh', e0, ht0, hvh0⟩ := dx_tie de0
          cases e0
          have hf := List.getElem_mem hi2
          have G := T0.1 _ hf
          have z8 := G.nm.2.1
          refine ⟨_, rfl, _, 5, rfl, .inl ⟨t, _, rfl, SqT.of ht3, true, rfl, iteF ?_⟩⟩
          refine ⟨_, rfl, t, [.str ts[i].nm, .str ts[i].one, .str ts[i].other, .int ts[i].len, vh], rfl, SqT.of ht3, rfl, .str ts[i].nm, [.str ts[i].one, .str ts[i].other, .int ts[i].len, vh], rfl, .str ts[i].one, [.str ts[i].other, .int ts[i].len, vh], rfl, .str ts[i].other, [.int ts[i].len, vh], rfl, .int ts[i].len, [vh], rfl, vh, [], rfl, rfl, ?_⟩
          simp only [List.set]
          refine ⟨_, rfl, _, .str ts[i].nm, rfl, .dx (.str _), fun z ez => by cases ez; omega, fun H4 s4 => ?_⟩
          rw [of_name G.nm]
          refine ⟨true, rfl, iteF ?_⟩
          have nd2 : (fs.map (·.1) ++ ts.map (·.nm)).Nodup := T0.2
          have tn : ts[i].nm ∈ ts.map (·.nm) := List.mem_map.mpr ⟨_, hf, rfl⟩
          have f1 : ts[i].nm ∉ fs.map (·.1) := fun z => (List.nodup_append.mp nd2).2.2 _ z _ tn rfl
          have f2 : ts[i].nm ∉ (ts.take i).map (·.nm) := by
            intro z
            have e : ts.map (·.nm) = (ts.take i).map (·.nm) ++ (ts.drop i).map (·.nm) := by rw [← List.map_append, List.take_append_drop]
            have nd3 := (List.nodup_append.mp nd2).2.1
            rw [e] at nd3
            refine (List.nodup_append.mp nd3).2.2 _ z ts[i].nm ?_ rfl
            rw [List.drop_eq_getElem_cons hi2]
            exact List.mem_cons_self
          refine ⟨_, rfl, _, rfl, ds, _, rfl, DGet.k (k := Sum.inr ts[i].nm) (s4 _ _ hds3), _, rfl, ?_⟩
          rw [valF_none f1]
          refine iteF ⟨_, rfl, _, rfl, dd, _, rfl, DGet.k (k := Sum.inr ts[i].nm) (s4 _ _ hd3), _, rfl, ?_⟩
          rw [kvT_none f2]
          refine iteF ?_
          refine ⟨_, rfl, _, rfl, _, rfl, ds, _, _, .str ts[i].one, .str ts[i].other, fs, rfl, s4 _ _ hds3, .dx (.str _), .dx (.str _), ?_⟩
          rw [of_ends G.h1 G.h2 G.ne]
          refine ⟨true, rfl, iteF ?_⟩
          refine ⟨_, rfl, _, rfl, _, .int ts[i].len, r, rfl, .dx (.int _), ?_⟩
          rw [len_int.mpr G.ln]
          refine ⟨true, rfl, iteF ?_⟩
          have s04 : Same H H4 := s03.trans s4
          have hvh4 := Dx.same s4 _ _ hvh
          have hvh5 := Dx.same s04 _ _ hvh0
          have ev : vh = vh' := by
            have this : H3 t = _ := s03 _ _ ht0
            rw [ht3] at this
            cases this
            rfl
          subst ev
          refine ⟨_, rfl, _, rfl, _, dHs ts[i].hs, ts[i].len, rfl, hvh4, ?_⟩
          rw [hear_some G.hr]
          refine ⟨true, rfl, iteF ?_⟩
          obtain ⟨ah, zs, rfl, hah, hzs⟩ := dx_hs hvh4
          have lh : ts[i].hs.length ≤ 10000000 := few_hs bk
          refine ⟨_, rfl, _, rfl, _, rfl, _, rfl, _, rfl, ah, rfl, ⟨_, hah.sq⟩, fun D nD => ?_⟩
          refine hears_end nD hah hzs lh fun H5 us s5 hD hus => ?_
          refine ⟨D, us, rfl, SqL.of hD, fun l ob nl dn => ?_⟩
          obtain ⟨s6, m6⟩ := fresh2 (o := .frz ob (.tup us)) nl
          refine ⟨by show 5 ≤ sizeLine; decide, fun p np => ?_⟩
          obtain ⟨s7, m7⟩ := fresh2 (o := .tup [.str ts[i].nm, .str ts[i].one, .str ts[i].other, .int ts[i].len, .ref l]) np
          have s37 := (s5.trans s6).trans s7
          have hd7 := s37 _ _ (s4 _ _ hd3)
          have dD : D ≠ dd := (ne_of_none (s4 _ _ hd3) nD).symm
          have dl : l ≠ dd := (ne_of_none (s5 _ _ (s4 _ _ hd3)) nl).symm
          have dp : p ≠ dd := (ne_of_none (s6 _ _ (s5 _ _ (s4 _ _ hd3))) np).symm
          have up : Same (Off dd (Nw H H2)) (Off dd (Nw H (upd (upd (upd H5 l (.frz ob (.tup us))) p (.tup [.str ts[i].nm, .str ts[i].one, .str ts[i].other, .int ts[i].len, .ref l])) dd (.dK (kvT (ts.take i) xs ++ [(Sum.inr ts[i].nm, .ref p)]))))) := fun b o e => by
            have nb := Off.ne e
            obtain ⟨e1, e2⟩ := Nw.get (Off.same _ _ e)
            exact Off.at nb (Nw.at e1 (by rw [upd_ne nb]; exact s37 _ _ (s4 _ _ (s23 _ _ e2))))
          have hus2 : DxAll (Off dd (Nw H (upd (upd (upd H5 l (.frz ob (.tup us))) p (.tup [.str ts[i].nm, .str ts[i].one, .str ts[i].other, .int ts[i].len, .ref l])) dd (.dK (kvT (ts.take i) xs ++ [(Sum.inr ts[i].nm, .ref p)]))))) us (ts[i].hs.map dHear) := by
            refine Dx.tkAll (fun b zz tz e => ?_) _ _ (noL_hs _) hus
            obtain ⟨e0, e'⟩ := Nw.get (Off.same _ _ e)
            have nb : b ≠ dd := fun z => by
              subst z
              rw [s5 _ _ (s4 _ _ hd3)] at e'
              cases e'
              exact tz
            exact Off.at nb (Nw.at (none_of s04 e0) (by rw [upd_ne nb]; exact s7 _ _ (s6 _ _ e')))
          refine ⟨_, rfl, _, rfl, dd, _, rfl, DPut.k (k := Sum.inr ts[i].nm) hd7 ?_, hi2, xs ++ [.ref p], some (.int (i : Int)), some (.ref t), some (.str ts[i].nm), some (.str ts[i].one), some (.str ts[i].other), some (.int ts[i].len), some (.ref ah), x11, x12, x13, rfl, fun b o e => ?_, ?_, ?_⟩
          · rw [kvT_len lxs, List.length_take]
            exact small1000 (by omega)
          · have nb : b ≠ dd := ne_of_none e ndd
            exact Off.at nb (by rw [upd_ne nb]; exact s37 _ _ (s04 b o e))
          · rw [upd_same, put_new (kvT_none f2), List.take_add_one, List.getElem?_eq_getElem hi2]
            show _ = some (HO.dK (kvT (ts.take i ++ [ts[i]]) (xs ++ [V.ref p])))
            rw [kvT_snoc lxs]
          · rw [put_new (kvT_none f2), List.take_add_one, List.getElem?_eq_getElem hi2, List.map_append]
            have n1 : H l = none := none_of (s04.trans s5) nl
            have n2 : H p = none := none_of (s04.trans (s5.trans s6)) np
            refine dxall_snoc (Dx.sameAll up _ _ hxs) (.tup (Off.at dp (Nw.at n2 (by rw [upd_ne dp]; exact m7))) (.cons (.str _) (.cons (.str _) (.cons (.str _) (.cons (.int _) (.cons (.tupz (Off.at dl (Nw.at n1 (by rw [upd_ne dl]; exact s7 _ _ m6))) dn hus2 (all_hears _)) .nil))))))
        subst ei
        rw [List.take_length] at hd3 lxs
        by_cases tup : ∃ t u1 u2 u3 u4 u5 d1 d2 d3 d4 d5, y = .ref t ∧ e = .tuple [d1, d2, d3, d4, d5] ∧ SqT K H3 t [u1, u2, u3, u4, u5] ∧ Dx H3 u1 d1 ∧ Dx H3 u2 d2 ∧ Dx H3 u3 d3 ∧ Dx H3 u4 d4 ∧ Dx H3 u5 d5
        · obtain ⟨t, u1, u2, u3, u4, u5, d1, d2, d3, d4, d5, rfl, rfl, ht, h1, h2, h3, h4, h5⟩ := tup
          refine ⟨_, rfl, _, 5, rfl, .inl ⟨t, _, rfl, ht, true, rfl, iteF ?_⟩⟩
          refine ⟨_, rfl, t, _, rfl, ht, rfl, _, _, rfl, _, _, rfl, _, _, rfl, _, _, rfl, _, _, rfl, rfl, ?_⟩
          simp only [List.set]
          have sm1 : SmallS d1 := fun z ez => by
            subst ez
            simp [PyData.bulk, PyData.bulkAll] at bk
            show z.cps.size ≤ 10000000
            omega
          refine ⟨_, rfl, u1, d1, rfl, .dx h1, sm1, fun H4 s4 => ?_⟩
          have hd4 := s4 _ _ hd3
          have hds4 := s4 _ _ hds3
          have s04 := s03.trans s4
          have h2 := Dx.same s4 _ _ h2
          have h3 := Dx.same s4 _ _ h3
          have h4 := Dx.same s4 _ _ h4
          have h5 := Dx.same s4 _ _ h5
          cases w with
          | tie h => exact absurd rfl (h d1 d2 d3 d4 d5)
          | name hn =>
            rw [hn]
            exact ⟨false, rfl, iteT ⟨_, rfl, _, rfl, num, fun x H' nx => q x _ H' s04 (by rw [List.length_map]; exact nx)⟩⟩
          | @again _ b c e f hn ag =>
            have ev := th_str (.dx h1)
            subst ev
            rw [hn]
            refine ⟨true, rfl, iteF ⟨_, rfl, _, rfl, ds, _, rfl, DGet.k (k := Sum.inr wo) hds4, _, rfl, ?_⟩⟩
            rw [valF]
            by_cases h1' : wo ∈ fs.map (·.1)
            · rw [decide_eq_true h1']
              exact iteT ⟨_, rfl, fun x H' nx => q x _ H' s04 nx⟩
            · rw [decide_eq_false h1']
              refine iteF ⟨_, rfl, _, rfl, dd, _, rfl, DGet.k (k := Sum.inr wo) hd4, _, rfl, ?_⟩
              rw [valT _ _ lxs, decide_eq_true (ag.resolve_left h1')]
              exact iteT ⟨_, rfl, fun x H' nx => q x _ H' s04 nx⟩
          | @ends _ b c e f hn n1 n2 he' =>
            have ev := th_str (.dx h1)
            subst ev
            rw [hn]
            refine ⟨true, rfl, iteF ⟨_, rfl, _, rfl, ds, _, rfl, DGet.k (k := Sum.inr wo) hds4, _, rfl, ?_⟩⟩
            rw [valF_none n1]
            refine iteF ⟨_, rfl, _, rfl, dd, _, rfl, DGet.k (k := Sum.inr wo) hd4, _, rfl, ?_⟩
            rw [kvT_none n2]
            refine iteF ⟨_, rfl, _, rfl, _, rfl, ds, _, _, _, _, fs, rfl, hds4, .dx h2, .dx h3, ?_⟩
            rw [he']
            exact ⟨false, rfl, iteT ⟨_, rfl, fun x H' nx => q x _ H' s04 nx⟩⟩
          | @length _ b c e f hn n1 n2 he' hl' =>
            have ev := th_str (.dx h1)
            subst ev
            rw [hn]
            refine ⟨true, rfl, iteF ⟨_, rfl, _, rfl, ds, _, rfl, DGet.k (k := Sum.inr wo) hds4, _, rfl, ?_⟩⟩
            rw [valF_none n1]
            refine iteF ⟨_, rfl, _, rfl, dd, _, rfl, DGet.k (k := Sum.inr wo) hd4, _, rfl, ?_⟩
            rw [kvT_none n2]
            refine iteF ⟨_, rfl, _, rfl, _, rfl, ds, _, _, _, _, fs, rfl, hds4, .dx h2, .dx h3, ?_⟩
            rw [he']
            refine ⟨true, rfl, iteF ⟨_, rfl, _, rfl, _, _, r, rfl, .dx h4, ?_⟩⟩
            rw [hl']
            exact ⟨false, rfl, iteT ⟨_, rfl, fun x H' nx => q x _ H' s04 nx⟩⟩
          | @hearers _ b c f L hn n1 n2 he' hl' hh' =>
            have ev := th_str (.dx h1)
            subst ev
            have ev := th_int (.dx h4)
            subst ev
            rw [hn]
            refine ⟨true, rfl, iteF ⟨_, rfl, _, rfl, ds, _, rfl, DGet.k (k := Sum.inr wo) hds4, _, rfl, ?_⟩⟩
            rw [valF_none n1]
            refine iteF ⟨_, rfl, _, rfl, dd, _, rfl, DGet.k (k := Sum.inr wo) hd4, _, rfl, ?_⟩
            rw [kvT_none n2]
            refine iteF ⟨_, rfl, _, rfl, _, rfl, ds, _, _, _, _, fs, rfl, hds4, .dx h2, .dx h3, ?_⟩
            rw [he']
            refine ⟨true, rfl, iteF ⟨_, rfl, _, rfl, _, .int L, r, rfl, .dx (.int _), ?_⟩⟩
            rw [hl']
            refine ⟨true, rfl, iteF ⟨_, rfl, _, rfl, _, _, L, rfl, h5, ?_⟩⟩
            rw [hh']
            exact ⟨false, rfl, iteT ⟨_, rfl, fun x H' nx => q x _ H' s04 nx⟩⟩
        · have notp : ∀ a b c d f, e ≠ .tuple [a, b, c, d, f] := fun a b c d f ee => by
            subst ee
            refine tup ?_
            have gen : ∀ t us, SqT K H3 t us → DxAll H3 us [a, b, c, d, f] → ∃ t' u1 u2 u3 u4 u5 d1 d2 d3 d4 d5, V.ref t = .ref t' ∧ PyData.tuple [a, b, c, d, f] = .tuple [d1, d2, d3, d4, d5] ∧ SqT K H3 t' [u1, u2, u3, u4, u5] ∧ Dx H3 u1 d1 ∧ Dx H3 u2 d2 ∧ Dx H3 u3 d3 ∧ Dx H3 u4 d4 ∧ Dx H3 u5 d5 := fun t us e r => by
              cases r with
              | cons h1 r =>
                cases r with
                | cons h2 r =>
                  cases r with
                  | cons h3 r =>
                    cases r with
                    | cons h4 r =>
                      cases r with
                      | cons h5 r =>
                        cases r
                        exact ⟨_, _, _, _, _, _, _, _, _, _, _, rfl, rfl, e, h1, h2, h3, h4, h5⟩
            cases de with
            | tup e r n => exact gen _ _ (SqT.of e) r
            | tupy e r n => exact gen _ _ e.sq r
          obtain ⟨ewt, ewo⟩ : wt = Str.ofString "tie" ∧ wo = numN ts.length := by
            cases w with
            | tie h => exact ⟨rfl, by rw [List.length_map]⟩
            | _ => exact absurd rfl (notp _ _ _ _ _)
          subst ewt ewo
          by_cases tp : isTup e = true
          · obtain ⟨t, us, es, rfl, rfl, ht, hus⟩ : ∃ t us es, y = .ref t ∧ e = .tuple es ∧ SqT K H3 t us ∧ DxAll H3 us es := by
              cases de with
              | tup e r n => exact ⟨_, _, _, rfl, rfl, SqT.of e, r⟩
              | tupy e r n => exact ⟨_, _, _, rfl, rfl, e.sq, r⟩
              | _ => cases tp
            have lu := dxall_len hus
            refine ⟨_, rfl, _, 5, rfl, .inl ⟨t, _, rfl, ht, _, rfl, ?_⟩⟩
            have ne5 : us.length ≠ 5 := fun l5 => by
              match es, (lu.symm.trans l5) with
              | [a, b, c, d, f], _ => exact notp a b c d f rfl
            rw [show decide (((us.length : Nat) : Int) = 5) = false from decide_eq_false (by omega)]
            exact iteT ⟨_, rfl, _, rfl, num, fun x H' nx => q x _ H' s03 nx⟩
          · rw [Bool.not_eq_true] at tp
            exact ⟨_, rfl, _, 5, rfl, .inr ⟨⟨_, th_ty (.dx de), by rw [kt_tup, tp]⟩, false, rfl, iteT ⟨_, rfl, _, rfl, num, fun x H' nx => q x _ H' s03 nx⟩⟩⟩
      · rintro σ H2 ⟨il, xs, x4, x5, x6, x7, x8, x9, x10, x11, x12, x13, rfl, sm, hd, hxs⟩
        have t0 : tail = [] := List.eq_nil_of_length_eq_zero (by omega)
        rw [lx, t0] at hd hxs
        rw [List.take_of_length_le (by simp)] at hd hxs
        exact ⟨t0, xs, x4, x5, x6, x7, x8, x9, x10, x11, x12, x13, rfl, sm, hd, hxs⟩
    · rintro σ H2 ⟨rfl, xs, x4, x5, x6, x7, x8, x9, x10, x11, x12, x13, rfl, sm, hd, hxs⟩
      have lxs : ts.length = xs.length := by
        have := dxall_len hxs
        rw [List.length_map] at this
        exact this.symm
      have s02 : Same H H2 := fun b o e => Off.same _ _ (sm b o e)
      obtain ⟨rfl, many⟩ : wt = Str.ofString "many" ∧ ((12 < ts.length ∧ wo = Str.ofString "ties") ∨ (ts.length ≤ 12 ∧ 12 < told ts ∧ wo = Str.ofString "hearers")) := by
        rcases cas with ⟨e, rest, h, _⟩ | ⟨_, h⟩
        · cases h
        · exact h
      rcases many with ⟨m, rfl⟩ | ⟨m1, m2, rfl⟩
      · refine ⟨_, rfl, dd, _, rfl, hd, _, _, rfl, rfl, true, qt (by rw [kvT_len lxs]; omega), iteT fun x H' nx => q x _ H' s02 nx⟩
      refine ⟨_, rfl, dd, _, rfl, hd, _, _, rfl, rfl, false, qf (by rw [kvT_len lxs]; omega), iteF ?_⟩
      refine ⟨dd, _, hd, trivial, fun od => ?_⟩
      have lk : Same (Off dd (Nw H H2)) (upd H2 dd (.frz od (.dK (kvT ts xs)))) := fun b o e => by rw [upd_ne (Off.ne e)]; exact Nw.same _ _ (Off.same _ _ e)
      refine ⟨_, rfl, dd, od, _, rfl, upd_same, fun D nD => ?_⟩
      refine lens_end nD upd_same (by rw [kvT_snd lxs]; exact Dx.sameAll lk _ _ hxs) (by omega) fun H3 s3 hD => ?_
      have hd3 := s3 _ _ (upd_same (H := H2) (a := dd))
      have nDd : D ≠ dd := fun z => by
        subst z
        rw [upd_same] at nD
        cases nD
      refine ⟨hd3, D, _, rfl, SqL.of (by rw [upd_ne nDd]; exact hD), ?_⟩
      rw [sum_told]
      have s23 : Same H2 (upd H3 dd (.dK (kvT ts xs))) := fun b o e => by
        by_cases hb : b = dd
        · subst hb
          rw [hd] at e
          cases e
          exact upd_same
        · rw [upd_ne hb]
          exact s3 _ _ (by rw [upd_ne hb]; exact e)
      refine ⟨_, _, rfl, rfl, true, qt (by omega), iteT fun x H' nx => q x _ H' (s02.trans s23) nx⟩
end
end Cw
namespace Cw
open PySem PySem.Spec PyProof.Rows L2
section
variable {P : Program} {w : World} {K : PySem.W.Frag} {mg : Str → Option Value} {base : Heap} {C NS NW0 : Addr}
theorem fn_toCX {k : Nat} {f : Addr} {fd : FuncData} {ps : List Str} {sp : Sp} (F : FnOk P w K mg base CX0 k f fd ps sp) : FnOk P w K mg base (L2.CX P w) k f fd ps sp :=
  ⟨F.len, fun A outer s H args us vs Q E hr he hb hv hs => codeAny_mono (F.run A outer s H args us vs Q E hr he hb hv hs) fun r s' hq => by
    cases r with
    | error e => exact hq.elim
    | ok fl => cases fl <;> exact hq⟩
theorem fn_or {CX : CXT} {k : Nat} {f : Addr} {fd : FuncData} {ps : List Str} {sp sp' : Sp} (F : FnOk P w K mg base CX k f fd ps sp) (G : FnOk P w K mg base CX k f fd ps sp') : FnOk P w K mg base CX k f fd ps (fun vs H Q E => sp vs H Q E ∨ sp' vs H Q E) :=
  ⟨fun vs H Q E h => h.elim (F.len vs H Q E) (G.len vs H Q E), fun A outer s H args us vs Q E hr he hb hv hs => hs.elim (F.run A outer s H args us vs Q E hr he hb hv) (G.run A outer s H args us vs Q E hr he hb hv)⟩
def HasE (P : Program) (w : World) (K : PySem.W.Frag) (mg : Str → Option Value) (base : Heap) (n : Str) (st : Stmt) (k : Nat) (ps : List Str) (sp : Sp) : Prop := ∃ (fT : Addr) (fdT : FuncData), FnP K n n st fT fdT ∧ Binds K fdT ps [] ∧ FnOk P w K mg base (L2.CX P w) k fT fdT ps sp ∧ mg n = some (.ref fT)
def Few (d : PyData) : Prop := ∀ ds, d = .list ds → ds.length ≤ 1000 ∧ ∀ e ∈ ds, e.bulk ≤ 10000000
/-- Web(..) refused: of its persons, or of its ties behind good persons -/
def WebBad (r : Bool) (d e : PyData) (wt wo : Str) : Prop := PerDue d wt wo ∨ ∃ fs, d = dFolk fs ∧ Folk fs ∧ 1 ≤ fs.length ∧ fs.length ≤ 8 ∧ TieDue r fs e wt wo
def spInitE (C NW0 : Addr) : Sp := fun vs H Q E => ∃ (a dx : Addr) (v u : V) (r : Bool) (d e : PyData) (wt wo : Str), vs = [.ref a, v, u, .bl r] ∧ H a = some (.ins C dx []) ∧ Dx (Off a H) v d ∧ Dx (Off a H) u e ∧ Few d ∧ Few e ∧ WebBad r d e wt wo ∧ ∀ x H' H'', Same (Off a H) (Off a H') → NewX2 "what" "who" (.str wt) (.str wo) H' x H'' → E (.ref NW0) (some x) H''
theorem ok_initE {f e : Addr} {fd : FuncData} (F : FnI K f fd e) (WC : WebCls K C) (B : Blt mg) (p' : HasE P w K mg base "checked_persons" S_checked_persons 3 P_checked_persons (fun vs H Q E => spChP vs H Q E ∨ spChPE NW0 vs H Q E)) (T : HasE P w K mg base "checked_ties" S_checked_ties 4 P_checked_ties (fun vs H Q E => spChT K vs H Q E ∨ spChTE NW0 vs H Q E)) : FnOk P w K mg base (L2.CX P w) 5 f fd P_Web_init (spInitE C NW0) := by
  obtain ⟨fP, fdP, FP, bP, GP, gP⟩ := p'
  obtain ⟨fT, fdT, FT, bT, GT, gT⟩ := T
  refine F.ok sc_Web_init (fun vs H Q E h => ?_) (fun cdv A outer s H vs Q E hr h => ⟨_, (pss_cons (ps_fld (pv 0) (pe_callTy call_bool1 (by rfl) B.bool_ (by decide +kernel) (pa_cons (pv 3) pa_nil)) rfl)
     (pss_cons (ps_fld (pv 0) (pe_callS GP (hr.mono (by decide)) rfl gP FP.kp bP (fun σ => passAt (takes_of rfl rfl rfl rfl) σ) (pa_cons (pv 1) pa_nil)) rfl)
     (pss_cons (ps_fld (pv 0) (pe_callS GT hr rfl gT FT.kp bT (fun σ => passAt (takes_of rfl rfl rfl rfl) σ) (pa_cons (pv 2) (pa_cons (pe_fld (pv 0) rfl) (pa_cons (pe_fld (pv 0) rfl) pa_nil)))) rfl)
     (pss_cons (ps_fld (pv 0) (LiI.pe_listItems rfl (pe_fld (pv 0) rfl) (by rfl) B.list_ (by decide +kernel)) rfl)
     (pss_one (ps_fld (pv 0) (pe_listVals rfl (pe_fld (pv 0) rfl) (by rfl) B.list_ (by decide +kernel)) rfl)))))), ?_⟩)
  · obtain ⟨a, dx, v, u, r, d, e, wt, wo, rfl, _⟩ := h
    rfl
  · obtain ⟨a, dx, v, u, r, d, e, wt, wo, rfl, ha, hv, hu, fd', fe', bad, q⟩ := h
    rw [show L2.start N_Web_init [V.ref a, v, u, V.bl r] = [some (V.ref a), some v, some u, some (.bl r)] from rfl]
    refine ⟨_, rfl, .inr ⟨r, rfl, ?_⟩⟩
    refine ⟨_, rfl, a, C, dx, _, rfl, ha, WC.cl, WC.n1, by show 0 < 1000; decide, ?_⟩
    rw [putF_1]
    have k1 : Same (Off a H) (Off a (upd H a (HO.ins C dx (fs1 (.bl r))))) := off_upd2
    rcases bad with bad | ⟨fs, rfl, fo, l1, l8, bad⟩
    · refine ⟨_, rfl, .inr ⟨v, d, wt, wo, rfl, Dx.same off_upd _ _ hv, fd', bad, fun x H' H'' s' nx => q x H' H'' (k1.trans (Off.mono s')) nx⟩⟩
    refine ⟨_, rfl, .inl ⟨_, fs, rfl, Dx.same off_upd _ _ hv, fo, l1, l8, fun ds H2 s2 n2 hds => ?_⟩⟩
    have ha2 := s2 _ _ (upd_same (H := H) (a := a))
    have k2 := k1.trans (Off.mono s2)
    have nsa : ds ≠ a := (ne_of_none (upd_same (H := H) (a := a)) n2).symm
    refine ⟨_, rfl, a, C, dx, _, rfl, ha2, WC.cl, WC.n2, by show 1 < 1000; decide, ?_⟩
    rw [putF_2]
    have k3 : Same (Off a H) (Off a (upd H2 a (HO.ins C dx (fs2 (.bl r) (.ref ds))))) := k2.trans off_upd2
    have hds3 : (upd H2 a (HO.ins C dx (fs2 (.bl r) (.ref ds)))) ds = some (.dK (kvF fs)) := by rw [upd_ne nsa]; exact hds
    refine ⟨_, rfl, _, rfl, a, C, dx, _, _, rfl, upd_same, WC.cl, WC.n2, rfl, ?_⟩
    refine ⟨_, rfl, a, C, dx, _, _, rfl, upd_same, WC.cl, WC.n1, rfl, ?_⟩
    exact .inr ⟨u, ds, r, fs, _, wt, wo, rfl, Dx.same (k3.trans Off.same) _ _ hu, hds3, fe', bad, fun x H' H'' s' nx => q x H' H'' (k3.trans (Off.mono s')) nx⟩
end
end Cw
/-! words and rows of any text -/
namespace Cw
open PySem PySem.Spec PyProof.Rows L2
open scoped Classical
/-- the number of some figures, one behind another -/
def valN (l : List Nat) : Int := l.foldl (fun (t : Int) (c : Nat) => 10 * t + ((c : Int) - 48)) 0
theorem valN_snoc (l : List Nat) (c : Nat) : valN (l ++ [c]) = 10 * valN l + ((c : Int) - 48) := by
  unfold valN
  rw [List.foldl_append]
  rfl
theorem valN_num : ∀ n : Nat, valN (TL.numL n) = (n : Int) := by
  intro n
  induction n using Nat.strongRecOn with
  | ind n ih =>
    by_cases h : n < 10
    · rw [TL.numL_lt h]
      show 10 * (0 : Int) + (((48 + n : Nat) : Int) - 48) = n
      omega
    · rw [TL.numL_step (by omega), valN_snoc, ih (n / 10) (by omega)]
      have := Nat.div_add_mod n 10
      omega
def digL (l : List Nat) : Bool := l.all fun c => decide (48 ≤ c) && decide (c ≤ 57)
theorem digL_mem {l : List Nat} : digL l = true ↔ ∀ c ∈ l, 48 ≤ c ∧ c ≤ 57 := by
  unfold digL
  rw [List.all_eq_true]
  exact ⟨fun h c hc => by have := h c hc; rwa [Bool.and_eq_true, decide_eq_true_eq, decide_eq_true_eq] at this, fun h c hc => by rw [Bool.and_eq_true, decide_eq_true_eq, decide_eq_true_eq]; exact h c hc⟩
/-- figures without noughts ahead are those of their number -/
theorem num_valN : ∀ (n : Nat) (l : List Nat), l.length = n + 1 → digL l = true → (∀ r, l = 48 :: r → r = []) → 0 ≤ valN l ∧ TL.numL (valN l).toNat = l ∧ (n ≠ 0 → 10 ≤ valN l)
  | 0, l, hl, hd, _ => by
    match l, hl with
    | [c], _ => ?_
    have h := digL_mem.mp hd c List.mem_cons_self
    have e : valN [c] = (c : Int) - 48 := by
      show 10 * (0 : Int) + ((c : Int) - 48) = _
      omega
    rw [e]
    refine ⟨by omega, ?_, fun z => absurd rfl z⟩
    rw [TL.numL_lt (by omega)]
    congr 1
    omega
  | n + 1, l, hl, hd, h0 => by
    obtain ⟨l', c, rfl⟩ : ∃ l' c, l = l' ++ [c] := by
      have ne : l ≠ [] := fun z => by rw [z] at hl; cases hl
      exact ⟨l.dropLast, l.getLast ne, (List.dropLast_concat_getLast ne).symm⟩
    have hl' : l'.length = n + 1 := by
      rw [List.length_append] at hl
      simpa using hl
    have hd' : digL l' = true := digL_mem.mpr fun c hc => digL_mem.mp hd c (List.mem_append_left _ hc)
    have hc := digL_mem.mp hd c (List.mem_append_right _ List.mem_cons_self)
    have h0' : ∀ r, l' = 48 :: r → r = [] := fun r e => by
      have := h0 (r ++ [c]) (by rw [e]; rfl)
      simp at this
    obtain ⟨p1, p2, p3⟩ := num_valN n l' hl' hd' h0'
    have ge1 : 1 ≤ valN l' := by
      cases n with
      | zero =>
        match l', hl' with
        | [d], _ =>
          have hd1 := digL_mem.mp hd' d List.mem_cons_self
          have e : valN [d] = (d : Int) - 48 := by
            show 10 * (0 : Int) + ((d : Int) - 48) = _
            omega
          rw [e]
          have : d ≠ 48 := fun z => by
            subst z
            have := h0 [c] rfl
            cases this
          omega
      | succ m => have := p3 (by omega); omega
    rw [valN_snoc]
    refine ⟨by omega, ?_, fun _ => by omega⟩
    have e1 : (10 * valN l' + ((c : Int) - 48)).toNat = 10 * (valN l').toNat + (c - 48) := by omega
    rw [e1, TL.numL_step (by omega)]
    have e2 : (10 * (valN l').toNat + (c - 48)) / 10 = (valN l').toNat := by omega
    have e3 : (10 * (valN l').toNat + (c - 48)) % 10 = c - 48 := by omega
    rw [e2, e3, p2]
    congr 2
    omega
/-- the number that a word is in figures -/
noncomputable def numW (z : Str) : Option Int := if TL.tl z ≠ [] ∧ digL (TL.tl z) = true ∧ (∀ r, TL.tl z = 48 :: r → r = []) then some (valN (TL.tl z)) else none
theorem numW_some {z : Str} {n : Int} (h : numW z = some n) : 0 ≤ n ∧ z = numS n := by
  unfold numW at h
  split at h
  · rename_i c
    cases h
    obtain ⟨ne, hd, h0⟩ := c
    have l1 := List.length_pos_iff.mpr ne
    obtain ⟨p1, p2, _⟩ := num_valN ((TL.tl z).length - 1) (TL.tl z) (by omega) hd h0
    refine ⟨p1, TL.ext_tl ?_⟩
    rw [tl_numS p1, p2]
  · cases h
theorem numW_num {n : Int} (h : 0 ≤ n) : numW (numS n) = some n := by
  unfold numW
  have e := tl_numS h
  have dg := digs_numS h
  rw [if_pos]
  · rw [e, valN_num]
    congr 1
    omega
  · refine ⟨by rw [e]; exact TL.numL_ne _, digL_mem.mpr dg, fun r hr => ?_⟩
    rw [e] at hr
    by_cases z : n = 0
    · subst z
      rw [show (0 : Int).toNat = 0 from rfl, TL.numL_lt (by decide)] at hr
      exact (List.cons.inj hr).2.symm
    · exact absurd hr (head_num n.toNat (by omega) r)
theorem numS_inj {m n : Int} (h0 : 0 ≤ m) (h1 : 0 ≤ n) (h : numS m = numS n) : m = n := by
  have a := numW_num h0
  rw [h, numW_num h1] at a
  exact (Option.some.inj a).symm
/-! ### the data of a row -/
def dO : Option Int → PyData
  | some n => .int n
  | none => .none
noncomputable def pairsD : List Str → List PyData
  | a :: b :: r => .tuple [dO (numW a), dO (numW b)] :: pairsD r
  | _ => []
noncomputable def perD (y s : Str) : PyData := .tuple [.str y, dO (numW s)]
noncomputable def tieD (y a b l : Str) (r : List Str) : PyData := .tuple [.str y, .str a, .str b, dO (numW l), .tuple (pairsD r)]
theorem dO_int {z : Str} {n : Int} (h : dO (numW z) = .int n) : 0 ≤ n ∧ z = numS n := by
  cases e : numW z with
  | none => rw [e] at h; cases h
  | some m =>
    rw [e] at h
    cases h
    exact numW_some e
theorem perD_per {y s : Str} {f : Str × Int} (h : perD y s = dPer f) : [Str.ofString "person", y, s] = wordsP f := by
  unfold perD dPer at h
  have h1 := PyData.tuple.inj h
  have h2 := List.cons.inj h1
  have h3 := List.cons.inj h2.2
  have e1 := PyData.str.inj h2.1
  obtain ⟨_, e2⟩ := dO_int h3.1
  rw [e1, e2]
  rfl
theorem pairs_hs : ∀ (r : List Str) (hs : List (Int × Int)), r.length % 2 = 0 → pairsD r = hs.map dHear → r = hsW hs
  | [], [], _, _ => rfl
  | [], h :: t, _, e => by cases e
  | [a], _, h, _ => by cases h
  | a :: b :: r, [], _, e => by cases e
  | a :: b :: r, h :: t, hl, e => by
    have h1 := List.cons.inj (show (PyData.tuple [dO (numW a), dO (numW b)] :: pairsD r) = dHear h :: t.map dHear from e)
    have h2 := PyData.tuple.inj h1.1
    have h3 := List.cons.inj h2
    have h4 := List.cons.inj h3.2
    obtain ⟨_, e1⟩ := dO_int h3.1
    obtain ⟨_, e2⟩ := dO_int h4.1
    have ih := pairs_hs r t (by simp only [List.length_cons] at hl; omega) h1.2
    rw [ih]
    show a :: b :: hsW t = [numS h.1, numS h.2] ++ hsW t
    rw [e1, e2]
    rfl
theorem tieD_tie {y a b l : Str} {r : List Str} {t : Tie} (hl : r.length % 2 = 0) (h : tieD y a b l r = dTie t) : Str.ofString "tie" :: y :: a :: b :: l :: r = wordsT t := by
  unfold tieD dTie at h
  have h1 := List.cons.inj (PyData.tuple.inj h)
  have h2 := List.cons.inj h1.2
  have h3 := List.cons.inj h2.2
  have h4 := List.cons.inj h3.2
  have h5 := List.cons.inj h4.2
  obtain ⟨_, e4⟩ := dO_int h4.1
  have e5 := pairs_hs r t.hs hl (PyData.tuple.inj h5.1)
  rw [PyData.str.inj h1.1, PyData.str.inj h2.1, PyData.str.inj h3.1, e4, e5]
  rfl
theorem hs_pairs : ∀ hs : List (Int × Int), (∀ h ∈ hs, 0 ≤ h.1 ∧ 0 ≤ h.2) → pairsD (hsW hs) = hs.map dHear
  | [], _ => rfl
  | h :: t, g => by
    have g1 := g h List.mem_cons_self
    show (PyData.tuple [dO (numW (numS h.1)), dO (numW (numS h.2))] :: pairsD (hsW t)) = dHear h :: t.map dHear
    rw [numW_num g1.1, numW_num g1.2, hs_pairs t fun x hx => g x (List.mem_cons_of_mem _ hx)]
    rfl
/-! ### rows read one behind another -/
/-- a row more -/
def Nxt (r : Bool) (fs : List (Str × Int)) (ts : List Tie) (ws : List Str) (fs' : List (Str × Int)) (ts' : List Tie) : Prop :=
  Specs r fs' ts' ∧ ((∃ f, ws = wordsP f ∧ ts = [] ∧ fs' = fs ++ [f] ∧ ts' = []) ∨ ∃ t, ws = wordsT t ∧ fs' = fs ∧ ts' = ts ++ [t])
theorem hsW_inj : ∀ {hs hs' : List (Int × Int)}, (∀ h ∈ hs, 0 ≤ h.1 ∧ 0 ≤ h.2) → (∀ h ∈ hs', 0 ≤ h.1 ∧ 0 ≤ h.2) → hsW hs = hsW hs' → hs = hs'
  | [], [], _, _, _ => rfl
  | [], _ :: _, _, _, e => by cases e
  | _ :: _, [], _, _, e => by cases e
  | h :: t, h' :: t', g, g', e => by
    have e1 := List.cons.inj (show numS h.1 :: numS h.2 :: hsW t = numS h'.1 :: numS h'.2 :: hsW t' from e)
    have e2 := List.cons.inj e1.2
    have a := g h List.mem_cons_self
    have b := g' h' List.mem_cons_self
    rw [hsW_inj (fun x hx => g x (List.mem_cons_of_mem _ hx)) (fun x hx => g' x (List.mem_cons_of_mem _ hx)) e2.2, Prod.ext (numS_inj a.1 b.1 e1.1) (numS_inj a.2 b.2 e2.1)]
theorem Good.hs0 {r : Bool} {ns : List Str} {t : Tie} (g : Good r ns t) : ∀ h ∈ t.hs, 0 ≤ h.1 ∧ 0 ≤ h.2 := fun h hh => by
  have := g.hr.at_ h hh
  omega
theorem Nxt.uniq {r : Bool} {fs : List (Str × Int)} {ts : List Tie} {ws : List Str} {a c : List (Str × Int)} {b d : List Tie} (h : Nxt r fs ts ws a b) (g : Nxt r fs ts ws c d) : a = c ∧ b = d := by
  obtain ⟨S1, h⟩ := h
  obtain ⟨S2, g⟩ := g
  rcases h with ⟨f, e1, z, rfl, rfl⟩ | ⟨t, e1, rfl, rfl⟩ <;> rcases g with ⟨f', e2, z', rfl, rfl⟩ | ⟨t', e2, rfl, rfl⟩
  · rw [e1] at e2
    have h1 := List.cons.inj (List.cons.inj e2).2
    have h2 := List.cons.inj h1.2
    have m1 := S1.fo.st f (by simp)
    have m2 := S2.fo.st f' (by simp)
    have : f = f' := Prod.ext h1.1 (numS_inj m1.1 m2.1 h2.1)
    rw [this]
    exact ⟨rfl, rfl⟩
  · rw [e1] at e2
    exact absurd (List.cons.inj e2).1 (by decide +kernel)
  · rw [e1] at e2
    exact absurd (List.cons.inj e2).1 (by decide +kernel)
  · rw [e1] at e2
    have h1 := List.cons.inj (List.cons.inj e2).2
    have h2 := List.cons.inj h1.2
    have h3 := List.cons.inj h2.2
    have h4 := List.cons.inj h3.2
    have G1 := S1.ti t (by simp)
    have G2 := S2.ti t' (by simp)
    have : t = t' := by
      cases t
      cases t'
      have a1 := h1.1
      have a2 := h2.1
      have a3 := h3.1
      have a4 := numS_inj G1.at0.1 G2.at0.1 h4.1
      have a5 := hsW_inj G1.hs0 G2.hs0 h4.2
      simp only at a1 a2 a3 a4 a5
      rw [a1, a2, a3, a4, a5]
    rw [this]
    exact ⟨rfl, rfl⟩
noncomputable def runF (r : Bool) : List (List Str) → List (Str × Int) → List Tie → Nat → Nat ⊕ (List (Str × Int) × List Tie)
  | [], fs, ts, _ => .inr (fs, ts)
  | ws :: R, fs, ts, k => if h : ∃ p : List (Str × Int) × List Tie, Nxt r fs ts ws p.1 p.2 then runF r R (Classical.choose h).1 (Classical.choose h).2 (k + 1) else .inl (k + 1)
theorem run_step {r : Bool} {ws : List Str} {R : List (List Str)} {fs fs' : List (Str × Int)} {ts ts' : List Tie} {k : Nat} (h : Nxt r fs ts ws fs' ts') : runF r (ws :: R) fs ts k = runF r R fs' ts' (k + 1) := by
  have ex : ∃ p : List (Str × Int) × List Tie, Nxt r fs ts ws p.1 p.2 := ⟨(fs', ts'), h⟩
  obtain ⟨e1, e2⟩ := (Classical.choose_spec ex).uniq h
  show (if h : ∃ p : List (Str × Int) × List Tie, Nxt r fs ts ws p.1 p.2 then runF r R (Classical.choose h).1 (Classical.choose h).2 (k + 1) else .inl (k + 1)) = _
  rw [dif_pos ex, e1, e2]
theorem run_stop {r : Bool} {ws : List Str} {R : List (List Str)} {fs : List (Str × Int)} {ts : List Tie} {k : Nat} (h : ∀ fs' ts', ¬ Nxt r fs ts ws fs' ts') : runF r (ws :: R) fs ts k = .inl (k + 1) := by
  show (if h : ∃ p : List (Str × Int) × List Tie, Nxt r fs ts ws p.1 p.2 then runF r R (Classical.choose h).1 (Classical.choose h).2 (k + 1) else .inl (k + 1)) = _
  rw [dif_neg fun ⟨p, hp⟩ => h _ _ hp]
def headOk (x : Str) : Prop := x = Str.ofString "cries" ∨ x = Str.ofString "rounds"
/-- the row that is due: none where it is a web's text -/
noncomputable def dueF (ps : List Str) : Option Nat := match ps.dropLast with
  | [] => some 1
  | x :: R => if headOk x then (match runF (decide (x = Str.ofString "rounds")) (R.map fun y => Txt.split y (Str.ofString " ")) [] [] 1 with
      | .inl k => some k
      | .inr (fs, _) => if fs ≠ [] ∧ ps.getLast? = some (Str.ofString "") then none else some ps.length)
    else some 1
theorem dueF_nil (un : Str) : dueF ([] ++ [un]) = some 1 := rfl
theorem dueF_bad {x un : Str} {R : List Str} (h : ¬ headOk x) : dueF (x :: R ++ [un]) = some 1 := by
  unfold dueF
  rw [List.dropLast_concat]
  show (if headOk x then _ else some 1) = some 1
  rw [if_neg h]
theorem head_ok (r : Bool) : headOk (headS r) := by
  cases r
  · exact .inl rfl
  · exact .inr rfl
theorem head_r (r : Bool) : decide (headS r = Str.ofString "rounds") = r := by
  cases r
  · exact decide_eq_false (by decide +kernel)
  · exact decide_eq_true rfl
theorem dueF_inl {r : Bool} {un : Str} {R : List Str} {k : Nat} (h : runF r (R.map fun y => Txt.split y (Str.ofString " ")) [] [] 1 = .inl k) : dueF (headS r :: R ++ [un]) = some k := by
  unfold dueF
  rw [List.dropLast_concat]
  show (if headOk (headS r) then _ else some 1) = some k
  rw [if_pos (head_ok r), head_r, h]
theorem dueF_good {r : Bool} {un : Str} {R : List Str} {fs : List (Str × Int)} {ts : List Tie} (h : runF r (R.map fun y => Txt.split y (Str.ofString " ")) [] [] 1 = .inr (fs, ts)) (hf : fs ≠ []) (hu : un = Str.ofString "") : dueF (headS r :: R ++ [un]) = none := by
  unfold dueF
  rw [List.dropLast_concat]
  show (if headOk (headS r) then _ else some 1) = none
  rw [if_pos (head_ok r), head_r, h]
  show (if fs ≠ [] ∧ (headS r :: R ++ [un]).getLast? = some (Str.ofString "") then none else _) = none
  rw [if_pos ⟨hf, by rw [List.getLast?_concat, hu]⟩]
theorem dueF_end {r : Bool} {un : Str} {R : List Str} {fs : List (Str × Int)} {ts : List Tie} (h : runF r (R.map fun y => Txt.split y (Str.ofString " ")) [] [] 1 = .inr (fs, ts)) (hf : fs = [] ∨ un ≠ Str.ofString "") : dueF (headS r :: R ++ [un]) = some (R.length + 2) := by
  unfold dueF
  rw [List.dropLast_concat]
  show (if headOk (headS r) then _ else some 1) = _
  rw [if_pos (head_ok r), head_r, h]
  show (if fs ≠ [] ∧ (headS r :: R ++ [un]).getLast? = some (Str.ofString "") then none else some ((headS r :: R ++ [un]).length)) = _
  rw [if_neg, List.length_append]
  · rfl
  · rw [List.getLast?_concat]
    rintro ⟨h1, h2⟩
    rcases hf with h | h
    · exact h1 h
    · exact h (Option.some.inj h2)
/-! ### a web, or not -/
theorem per_total : ∀ (ps : List PyData) (fs : List (Str × Int)), Folk fs → (∃ gs, ps = gs.map dPer ∧ Folk (fs ++ gs)) ∨ ∃ gs e rest wt wo, ps = gs.map dPer ++ e :: rest ∧ Folk (fs ++ gs) ∧ WrP (fs ++ gs) e wt wo
  | [], fs, F => .inl ⟨[], rfl, by rw [List.append_nil]; exact F⟩
  | e :: ps, fs, F => by
    rcases per_split fs e with ⟨x, rfl, h1, h2, h3, h4⟩ | ⟨wt, wo, h⟩
    · have F' := folk_snoc F h1 h2 h3 h4
      rcases per_total ps (fs ++ [x]) F' with ⟨gs, rfl, hg⟩ | ⟨gs, e, rest, wt, wo, rfl, hg, hw⟩
      · exact .inl ⟨x :: gs, rfl, by rw [List.append_assoc] at hg; exact hg⟩
      · rw [List.append_assoc] at hg hw
        exact .inr ⟨x :: gs, e, rest, wt, wo, rfl, hg, hw⟩
    · exact .inr ⟨[], e, ps, wt, wo, rfl, by rw [List.append_nil]; exact F, by rw [List.append_nil]; exact h⟩
theorem tie_total {r : Bool} {fs : List (Str × Int)} : ∀ (es : List PyData) (ts : List Tie), Ties0 r fs ts → (∃ us, es = us.map dTie ∧ Ties0 r fs (ts ++ us)) ∨ ∃ us e rest wt wo, es = us.map dTie ++ e :: rest ∧ Ties0 r fs (ts ++ us) ∧ WrT r (fs.map (·.1)) ((ts ++ us).map (·.nm)) e wt wo
  | [], ts, T => .inl ⟨[], rfl, by rw [List.append_nil]; exact T⟩
  | e :: es, ts, T => by
    rcases tie_split r (fs.map (·.1)) (ts.map (·.nm)) e with ⟨t, rfl, g, h1, h2⟩ | ⟨wt, wo, h⟩
    · have T' := ties0_snoc T g h1 h2
      rcases tie_total es (ts ++ [t]) T' with ⟨us, rfl, hg⟩ | ⟨us, e, rest, wt, wo, rfl, hg, hw⟩
      · exact .inl ⟨t :: us, rfl, by rw [List.append_assoc] at hg; exact hg⟩
      · rw [List.append_assoc] at hg hw
        exact .inr ⟨t :: us, e, rest, wt, wo, rfl, hg, hw⟩
    · exact .inr ⟨[], e, es, wt, wo, rfl, by rw [List.append_nil]; exact T, by rw [List.append_nil]; exact h⟩
theorem web_total (r : Bool) (ps es : List PyData) : (∃ fs ts, PyData.list ps = dFolk fs ∧ es = ts.map dTie ∧ Specs r fs ts) ∨ ∃ wt wo, WebBad r (.list ps) (.list es) wt wo := by
  have F0 : Folk [] := ⟨List.nodup_nil, fun _ h => (by cases h), fun _ h => (by cases h)⟩
  rcases per_total ps [] F0 with ⟨fs, rfl, F⟩ | ⟨gs, e, rest, wt, wo, rfl, hg, hw⟩
  · rw [List.nil_append] at F
    by_cases c : 1 ≤ fs.length ∧ fs.length ≤ 8
    · have T0 : Ties0 r fs [] := ⟨fun _ h => (by cases h), by simpa using F.nd⟩
      rcases tie_total es [] T0 with ⟨ts, rfl, T⟩ | ⟨us, e, rest, wt, wo, rfl, hg, hw⟩
      · rw [List.nil_append] at T
        by_cases c1 : ts.length ≤ 12
        · by_cases c2 : told ts ≤ 12
          · exact .inl ⟨fs, ts, rfl, rfl, ⟨F, T.1, T.2, c.1, c.2, c1, c2⟩⟩
          · exact .inr ⟨_, _, .inr ⟨fs, rfl, F, c.1, c.2, .inr (.inr ⟨ts, rfl, T, rfl, .inr ⟨c1, by omega, rfl⟩⟩)⟩⟩
        · exact .inr ⟨_, _, .inr ⟨fs, rfl, F, c.1, c.2, .inr (.inr ⟨ts, rfl, T, rfl, .inl ⟨by omega, rfl⟩⟩)⟩⟩
      · rw [List.nil_append] at hg hw
        exact .inr ⟨wt, wo, .inr ⟨fs, rfl, F, c.1, c.2, .inr (.inl ⟨us, e, rest, rfl, hg, hw⟩)⟩⟩
    · exact .inr ⟨_, _, .inl (.inr (.inr ⟨fs, rfl, F, c, rfl, rfl⟩))⟩
  · rw [List.nil_append] at hg hw
    exact .inr ⟨wt, wo, .inl (.inr (.inl ⟨gs, e, rest, rfl, hg, hw⟩))⟩
theorem map_per_inj : ∀ {fs gs : List (Str × Int)}, fs.map dPer = gs.map dPer → fs = gs
  | [], [], _ => rfl
  | [], _ :: _, e => by cases e
  | _ :: _, [], e => by cases e
  | f :: r, g :: q, e => by
    have h := List.cons.inj (show dPer f :: r.map dPer = dPer g :: q.map dPer from e)
    have h1 := List.cons.inj (PyData.tuple.inj h.1)
    have h2 := List.cons.inj h1.2
    rw [map_per_inj h.2, Prod.ext (PyData.str.inj h1.1) (PyData.int.inj h2.1)]
/-! ### texts cut at one sign -/
theorem spl_inv (s : Nat) : ∀ (l acc : List Nat), s ∉ acc → TL.spl [s] 0 acc l ≠ [] ∧ (∀ p ∈ TL.spl [s] 0 acc l, s ∉ p) ∧ TL.joinL [s] (TL.spl [s] 0 acc l) = acc ++ l
  | [], acc, h => by
    rw [TL.spl_nil]
    refine ⟨by simp, fun p hp => ?_, ?_⟩
    · rw [List.mem_singleton.mp hp]
      exact h
    · show acc = _
      rw [List.append_nil]
  | c :: r, acc, h => by
    by_cases e : c = s
    · subst e
      have hp : TL.pre [c] (c :: r) = true := TL.pre_self [c] r
      rw [TL.spl_hit hp]
      obtain ⟨n, f, j⟩ := spl_inv c r [] (by simp)
      refine ⟨by simp, fun p hp => ?_, ?_⟩
      · rcases List.mem_cons.mp hp with rfl | hp
        · exact h
        · exact f p hp
      · cases q : TL.spl [c] ([c].length - 1) [] r with
        | nil => exact absurd q n
        | cons x y =>
          have j' : TL.joinL [c] (x :: y) = r := by rw [← q]; exact j
          show acc ++ ([c] ++ TL.joinL [c] (x :: y)) = _
          rw [j']
          rfl
    · have hp : TL.pre [s] (c :: r) = false := TL.pre_of_head [] r e
      rw [TL.spl_miss hp]
      obtain ⟨n, f, j⟩ := spl_inv s r (acc ++ [c]) (by simp [h, Ne.symm e])
      exact ⟨n, f, by rw [j, List.append_assoc]; rfl⟩
theorem joinL_size {S : List Nat} : ∀ {ps : List (List Nat)}, 1 ≤ S.length → ps ≠ [] → ps.length ≤ (TL.joinL S ps).length + 1 ∧ ∀ p ∈ ps, p.length ≤ (TL.joinL S ps).length
  | [], _, h => absurd rfl h
  | [x], _, _ => by
    show (1 ≤ x.length + 1) ∧ ∀ p ∈ [x], p.length ≤ x.length
    exact ⟨by omega, fun p hp => by rw [List.mem_singleton.mp hp]; exact Nat.le_refl _⟩
  | x :: y :: r, h1, _ => by
    have ih := joinL_size (S := S) (ps := y :: r) h1 (by simp)
    have e : (TL.joinL S (x :: y :: r)).length = x.length + (S.length + (TL.joinL S (y :: r)).length) := by
      show (x ++ (S ++ TL.joinL S (y :: r))).length = _
      rw [List.length_append, List.length_append]
    rw [e, List.length_cons]
    refine ⟨by omega, fun p hp => ?_⟩
    rcases List.mem_cons.mp hp with rfl | hp
    · omega
    · have := ih.2 p hp
      omega
structure Cut (z S : Str) (c : Nat) (ws : List Str) : Prop where
  ne : ws ≠ []
  free : ∀ x ∈ ws, c ∉ TL.tl x
  join : Txt.join S ws = z
  small : ∀ x ∈ ws, x.length ≤ z.length
  many : ws.length ≤ z.length + 1
theorem cut_ok (z : Str) {S : Str} {c : Nat} (hS : TL.tl S = [c]) (hk : S.cps.all (· < 256) = true) : Cut z S c (Txt.split z S) := by
  have e := TL.split_spl z S (by rw [hS]; simp) (TL.kind_ok hk)
  rw [hS] at e
  obtain ⟨n, f, j⟩ := spl_inv c (TL.tl z) [] (by simp)
  rw [← e] at n f j
  have ne : Txt.split z S ≠ [] := fun q => n (by rw [q]; rfl)
  have sz := joinL_size (S := [c]) (ps := (Txt.split z S).map TL.tl) (by simp) n
  rw [j, List.length_map] at sz
  refine ⟨ne, fun x hx => f _ (List.mem_map.mpr ⟨x, hx, rfl⟩), ?_, fun x hx => ?_, ?_⟩
  · rw [TL.join_eq]
    apply TL.ext_tl
    rw [TL.tl_join, hS, j]
    rfl
  · have := sz.2 _ (List.mem_map.mpr ⟨x, hx, rfl⟩)
    rw [TL.len_tl, TL.len_tl]
    exact this
  · have := sz.1
    rw [TL.len_tl]
    exact this
theorem cut_blank (z : Str) : Cut z (Str.ofString " ") 32 (Txt.split z (Str.ofString " ")) := cut_ok z (by decide +kernel) (by decide +kernel)
theorem cut_feed (z : Str) : Cut z (Str.ofString "\n") 10 (Txt.split z (Str.ofString "\n")) := cut_ok z (by decide +kernel) (by decide +kernel)
/-! ### a prefix and one row more -/
def Pre (r : Bool) (fs : List (Str × Int)) (ts : List Tie) : Prop := (fs = [] ∧ ts = []) ∨ Specs r fs ts
def Cand (ws : List Str) (fs : List (Str × Int)) (ts : List Tie) (ps es : List PyData) : Prop :=
  (∃ y s, ws = [Str.ofString "person", y, s] ∧ ts = [] ∧ ps = fs.map dPer ++ [perD y s] ∧ es = []) ∨
  ∃ y a b z q, ws = Str.ofString "tie" :: y :: a :: b :: z :: q ∧ q.length % 2 = 0 ∧ ps = fs.map dPer ∧ es = ts.map dTie ++ [tieD y a b z q]
theorem map_tie_app {ts' ts : List Tie} {d : PyData} (h : ts.map dTie ++ [d] = ts'.map dTie) : ∃ us t, ts' = us ++ [t] ∧ us.map dTie = ts.map dTie ∧ d = dTie t := by
  have ne : ts' ≠ [] := fun z => by rw [z] at h; simp at h
  have e := (List.dropLast_concat_getLast ne).symm
  rw [e, List.map_append] at h
  have h2 := List.append_inj' h rfl
  exact ⟨ts'.dropLast, ts'.getLast ne, e, h2.1.symm, by simpa using h2.2⟩
theorem map_per_app {fs' fs : List (Str × Int)} {d : PyData} (h : fs.map dPer ++ [d] = fs'.map dPer) : ∃ f, fs' = fs ++ [f] ∧ d = dPer f := by
  have ne : fs' ≠ [] := fun z => by rw [z] at h; simp at h
  have e := (List.dropLast_concat_getLast ne).symm
  rw [e, List.map_append] at h
  have h2 := List.append_inj' h rfl
  exact ⟨fs'.getLast ne, by rw [map_per_inj h2.1]; exact e, by simpa using h2.2⟩
theorem map_hear_inj : ∀ {hs gs : List (Int × Int)}, hs.map dHear = gs.map dHear → hs = gs
  | [], [], _ => rfl
  | [], _ :: _, e => by cases e
  | _ :: _, [], e => by cases e
  | f :: r, g :: q, e => by
    have h := List.cons.inj (show dHear f :: r.map dHear = dHear g :: q.map dHear from e)
    have h1 := List.cons.inj (PyData.tuple.inj h.1)
    have h2 := List.cons.inj h1.2
    rw [map_hear_inj h.2, Prod.ext (PyData.int.inj h1.1) (PyData.int.inj h2.1)]
theorem dTie_inj {t u : Tie} (h : dTie t = dTie u) : t = u := by
  cases t
  cases u
  unfold dTie at h
  have h1 := List.cons.inj (PyData.tuple.inj h)
  have h2 := List.cons.inj h1.2
  have h3 := List.cons.inj h2.2
  have h4 := List.cons.inj h3.2
  have h5 := List.cons.inj h4.2
  have a1 := PyData.str.inj h1.1
  have a2 := PyData.str.inj h2.1
  have a3 := PyData.str.inj h3.1
  have a4 := PyData.int.inj h4.1
  have a5 := map_hear_inj (PyData.tuple.inj h5.1)
  simp only at a1 a2 a3 a4 a5
  rw [a1, a2, a3, a4, a5]
theorem map_tie_inj : ∀ {ts us : List Tie}, ts.map dTie = us.map dTie → ts = us
  | [], [], _ => rfl
  | [], _ :: _, e => by cases e
  | _ :: _, [], e => by cases e
  | f :: r, g :: q, e => by
    have h := List.cons.inj (show dTie f :: r.map dTie = dTie g :: q.map dTie from e)
    rw [map_tie_inj h.2, dTie_inj h.1]
theorem cand_nxt {r : Bool} {ws : List Str} {fs fs' : List (Str × Int)} {ts ts' : List Tie} {ps es : List PyData} (h : Cand ws fs ts ps es) (e1 : PyData.list ps = dFolk fs') (e2 : es = ts'.map dTie) (S : Specs r fs' ts') : Nxt r fs ts ws fs' ts' := by
  have e1 := PyData.list.inj e1
  rcases h with ⟨y, s, rfl, rfl, rfl, rfl⟩ | ⟨y, a, b, z, q, rfl, hq, rfl, rfl⟩
  · obtain ⟨f, rfl, hd⟩ := map_per_app e1
    have : ts' = [] := by
      cases ts' with
      | nil => rfl
      | cons a b => cases e2
    subst this
    exact ⟨S, .inl ⟨f, perD_per hd, rfl, rfl, rfl⟩⟩
  · obtain ⟨us, t, rfl, hu, hd⟩ := map_tie_app e2
    have := map_tie_inj hu
    subst this
    have := map_per_inj e1
    subst this
    exact ⟨S, .inr ⟨t, tieD_tie hq hd, rfl, rfl⟩⟩
theorem perD_words (f : Str × Int) (h : 0 ≤ f.2) : perD f.1 (numS f.2) = dPer f := by
  unfold perD
  rw [numW_num h]
  rfl
theorem tieD_words (t : Tie) (h0 : 0 ≤ t.len) (h : ∀ x ∈ t.hs, 0 ≤ x.1 ∧ 0 ≤ x.2) : tieD t.nm t.one t.other (numS t.len) (hsW t.hs) = dTie t := by
  unfold tieD
  rw [numW_num h0, hs_pairs t.hs h]
  rfl
theorem nxt_cand {r : Bool} {ws : List Str} {fs fs' : List (Str × Int)} {ts ts' : List Tie} {ps es : List PyData} (h : Cand ws fs ts ps es) (N : Nxt r fs ts ws fs' ts') : ps = fs'.map dPer ∧ es = ts'.map dTie := by
  obtain ⟨S, N⟩ := N
  rcases h with ⟨y, s, rfl, rfl, rfl, rfl⟩ | ⟨y, a, b, z, q, rfl, hq, rfl, rfl⟩ <;> rcases N with ⟨f, e, z, rfl, rfl⟩ | ⟨t, e, rfl, rfl⟩
  · have h1 := List.cons.inj (List.cons.inj e).2
    have h2 := List.cons.inj h1.2
    have m := S.fo.st f (by simp)
    rw [h1.1, h2.1, perD_words f m.1, List.map_append]
    exact ⟨rfl, rfl⟩
  · exact absurd (List.cons.inj e).1 (by decide +kernel)
  · exact absurd (List.cons.inj e).1 (by decide +kernel)
  · have h1 := List.cons.inj (List.cons.inj e).2
    have h2 := List.cons.inj h1.2
    have h3 := List.cons.inj h2.2
    have h4 := List.cons.inj h3.2
    have G := S.ti t (by simp)
    rw [h1.1, h2.1, h3.1, h4.1, show q = hsW t.hs from h4.2, tieD_words t G.at0.1 G.hs0, List.map_append]
    exact ⟨rfl, rfl⟩
theorem bulk_pairs : ∀ q : List Str, PyData.bulkAll (pairsD q) ≤ 3 * (q.length / 2)
  | [] => by simp [pairsD, PyData.bulkAll]
  | [_] => by simp [pairsD, PyData.bulkAll]
  | a :: b :: r => by
    have ih := bulk_pairs r
    have b0 : ∀ o, (dO o).bulk = 0 := fun o => by cases o <;> simp [dO, PyData.bulk]
    show PyData.bulkAll (PyData.tuple [dO (numW a), dO (numW b)] :: pairsD r) ≤ _
    simp only [PyData.bulkAll, PyData.bulk, b0, List.length_cons]
    omega
theorem cand_few {ws : List Str} {fs : List (Str × Int)} {ts : List Tie} {ps es : List PyData} {r : Bool} (h : Cand ws fs ts ps es) (hp : Pre r fs ts) (hw : ∀ x ∈ ws, x.length ≤ 600000) (hn : ws.length ≤ 600001) : Few (.list ps) ∧ Few (.list es) := by
  have b0 : ∀ o, (dO o).bulk = 0 := fun o => by cases o <;> simp [dO, PyData.bulk]
  have f1 : fs.length ≤ 8 ∧ ts.length ≤ 12 ∧ (∀ x ∈ fs.map dPer, x.bulk ≤ 10000000) ∧ ∀ x ∈ ts.map dTie, x.bulk ≤ 10000000 := by
    rcases hp with ⟨rfl, rfl⟩ | S
    · exact ⟨by decide, by decide, (fun x hx => by cases hx), fun x hx => by cases hx⟩
    · refine ⟨S.f8, S.t12, fun x hx => ?_, fun x hx => ?_⟩
      · obtain ⟨f, hf, rfl⟩ := List.mem_map.mp hx
        have := (S.fo.nm f hf).2.1
        simp only [dPer, PyData.bulk, PyData.bulkAll]
        have : f.1.cps.size ≤ 8 := this
        omega
      · obtain ⟨t, ht, rfl⟩ := List.mem_map.mp hx
        have := (S.sh1 ht).bk
        omega
  rcases h with ⟨y, s, rfl, rfl, rfl, rfl⟩ | ⟨y, a, b, z, q, rfl, hq, rfl, rfl⟩
  · refine ⟨fun ds e => ?_, fun ds e => ?_⟩
    · cases e
      refine ⟨by rw [List.length_append, List.length_map]; simp only [List.length_cons, List.length_nil]; omega, fun x hx => ?_⟩
      rcases List.mem_append.mp hx with hx | hx
      · exact f1.2.2.1 x hx
      · rw [List.mem_singleton.mp hx]
        have : y.cps.size ≤ 600000 := hw y (by simp)
        simp only [perD, PyData.bulk, PyData.bulkAll, b0]
        omega
    · cases e
      exact ⟨by simp, fun x hx => by cases hx⟩
  · refine ⟨fun ds e => ?_, fun ds e => ?_⟩
    · cases e
      exact ⟨by rw [List.length_map]; omega, f1.2.2.1⟩
    · cases e
      refine ⟨by rw [List.length_append, List.length_map]; simp only [List.length_cons, List.length_nil]; omega, fun x hx => ?_⟩
      rcases List.mem_append.mp hx with hx | hx
      · exact f1.2.2.2 x hx
      · rw [List.mem_singleton.mp hx]
        have h1 : y.cps.size ≤ 600000 := hw y (by simp)
        have h2 : a.cps.size ≤ 600000 := hw a (by simp)
        have h3 : b.cps.size ≤ 600000 := hw b (by simp)
        have h4 := bulk_pairs q
        simp only [List.length_cons] at hn
        simp only [tieD, PyData.bulk, PyData.bulkAll, b0]
        omega
/-! long lists by comprehensions -/
theorem lc_mapL {J : It} {xs ys : List V} {G : Hp → Prop} (w : Walk J xs.length G (YAt xs)) {g : TG} {te : TE} {vs : List Nat} {σ : L2.St} {H1 : Hp} {D : Addr} {Qd : Hp → Prop} (nD : H1 D = none) (hG : ∀ H, Same H1 H → G H) (hl : ys.length = xs.length) (hn : xs.length ≤ 1000000)
    (step : ∀ (i : Nat) (x y : V) (H2 : Hp) (k : V → Hp → Prop), xs[i]? = some x → ys[i]? = some y → Same H1 H2 → (∀ H4, Same H2 H4 → k y H4) → g x (wipe σ vs) H2 fun σ2 H3 => wipe σ2 vs = wipe σ vs ∧ te σ2 H3 k)
    (q : ∀ H', Same H1 H' → H' D = some (.lst ys) → Qd H') : LcD J g tYes te vs σ H1 D Qd := by
  refine lc_it w (fun i H2 => Same H1 (Off D H2) ∧ H2 D = some (.lst (ys.take i))) ⟨fun b o e => Off.at (ne_of_none e nD) (same_new nD _ _ e), upd_same⟩ (fun i H2 _ hh => hG H2 (fun b o e => Off.same _ _ (hh.1 b o e))) ?_ ?_
  · rintro i x H2 H2' hi ⟨sm, hD⟩ ⟨rfl, hxi⟩
    have hy : i < ys.length := by omega
    have e := step i x ys[i] H2' (fun y H4 => ∃ acc, H4 D = some (.lst acc) ∧ acc.length < sizeLine ∧ (Same H1 (Off D (upd H4 D (.lst (acc ++ [y])))) ∧ (upd H4 D (.lst (acc ++ [y]))) D = some (.lst (ys.take (i + 1))))) hxi (List.getElem?_eq_getElem hy) (fun b o e => Off.same _ _ (sm b o e)) (fun H4 s4 => ?_)
    · exact e
    · refine ⟨_, s4 _ _ hD, by rw [List.length_take]; rw [sizeLine_eq]; omega, fun b o e => ?_, ?_⟩
      · have nb : b ≠ D := ne_of_none e nD
        exact Off.at nb (by rw [upd_ne nb]; exact s4 _ _ (Off.same _ _ (sm b o e)))
      · rw [upd_same, List.take_add_one, List.getElem?_eq_getElem hy]
        rfl
  · rintro H2 ⟨sm, hD⟩
    rw [← hl, List.take_length] at hD
    exact q H2 (fun b o e => Off.same _ _ (sm b o e)) hD
theorem lc_dxL {J : It} {n : Nat} {G : Hp → Prop} {Y : Nat → Hp → V → Hp → Prop} (w : Walk J n G Y) {g : TG} {te : TE} {vs : List Nat} {σ : L2.St} {H1 : Hp} {D : Addr} {Qd : Hp → Prop} (ds : List PyData) (hl : ds.length = n) (hn : n ≤ 1000000) (nD : H1 D = none) (hG : ∀ H, Same H1 H → G H)
    (step : ∀ (i : Nat) (x : V) (H2 H3 : Hp) (d : PyData) (k : V → Hp → Prop), ds[i]? = some d → Same H1 H2 → (∃ us, H2 D = some (.lst us)) → Y i H2 x H3 → (∀ y H4, Same H2 H4 → Dx (Off D (Nw H1 H4)) y d → k y H4) → g x (wipe σ vs) H3 fun σ2 H5 => wipe σ2 vs = wipe σ vs ∧ te σ2 H5 k)
    (q : ∀ H' us, Same H1 H' → H' D = some (.lst us) → us.length = n → DxAll (Off D (Nw H1 H')) us ds → Qd H') : LcD J g tYes te vs σ H1 D Qd := by
  refine lc_it w (fun i H2 => Same H1 (Off D H2) ∧ ∃ us, H2 D = some (.lst us) ∧ DxAll (Off D (Nw H1 H2)) us (ds.take i)) ⟨fun b o e => Off.at (ne_of_none e nD) (same_new nD _ _ e), [], upd_same, .nil⟩ (fun i H2 _ hh => hG H2 (fun b o e => Off.same _ _ (hh.1 b o e))) ?_ ?_
  · rintro i x H2 H3 hi ⟨sm, us, hD, hx⟩ hY
    have hi2 : i < ds.length := by omega
    refine step i x H2 H3 ds[i] _ (List.getElem?_eq_getElem hi2) (fun b o e => Off.same _ _ (sm b o e)) ⟨us, hD⟩ hY fun y H4 s4 hy => ?_
    have hD4 := s4 _ _ hD
    have lus := dxall_len hx
    rw [List.length_take] at lus
    have up : Same (Off D (Nw H1 H4)) (Off D (Nw H1 (upd H4 D (.lst (us ++ [y]))))) := fun b o e => by
      have nb := Off.ne e
      obtain ⟨e1, e2⟩ := Nw.get (Off.same _ _ e)
      exact Off.at nb (Nw.at e1 (by rw [upd_ne nb]; exact e2))
    refine ⟨us, hD4, by rw [sizeLine_eq]; omega, fun b o e => ?_, us ++ [y], upd_same, ?_⟩
    · have nb := ne_of_none e nD
      exact Off.at nb (by rw [upd_ne nb]; exact s4 _ _ (Off.same _ _ (sm b o e)))
    · rw [List.take_add_one, List.getElem?_eq_getElem hi2]
      exact dxall_snoc (Dx.sameAll up _ _ (Dx.sameAll (Off.mono (Nw.mono s4)) _ _ hx)) (Dx.same up _ _ hy)
  · rintro H2 ⟨sm, us, hD, hx⟩
    rw [List.take_of_length_le (by omega)] at hx
    have := dxall_len hx
    exact q H2 us (fun b o e => Off.same _ _ (sm b o e)) hD (by omega) hx
end Cw
namespace Cw
open PySem PySem.Spec PyProof.Rows L2
section
variable {P : Program} {w : World} {K : PySem.W.Frag} {mg : Str → Option Value} {base : Heap} {C : Addr}
theorem le_n0 {c : Nat} : (!decide ((⟨#[c]⟩ : Str).cps.toList < (Str.ofString "0").cps.toList)) = decide (48 ≤ c) := by
  rw [show (Str.ofString "0").cps.toList = [48] from by decide +kernel]
  show (!decide (([c] : List Nat) < [48])) = _
  by_cases h : 48 ≤ c
  · have : ¬ (([c] : List Nat) < [48]) := fun z => by
      rcases List.cons_lt_cons_iff.mp z with z | ⟨_, z⟩
      · omega
      · exact absurd z (by simp)
    rw [decide_eq_false this, decide_eq_true h]
    rfl
  · have : (([c] : List Nat) < [48]) := List.cons_lt_cons_iff.mpr (.inl (by omega))
    rw [decide_eq_true this, decide_eq_false h]
    rfl
theorem le_n9 {c : Nat} : (!decide ((Str.ofString "9").cps.toList < (⟨#[c]⟩ : Str).cps.toList)) = decide (c ≤ 57) := by
  rw [show (Str.ofString "9").cps.toList = [57] from by decide +kernel]
  show (!decide (([57] : List Nat) < [c])) = _
  by_cases h : c ≤ 57
  · have : ¬ (([57] : List Nat) < [c]) := fun z => by
      rcases List.cons_lt_cons_iff.mp z with z | ⟨_, z⟩
      · omega
      · exact absurd z (by simp)
    rw [decide_eq_false this, decide_eq_true h]
    rfl
  · have : (([57] : List Nat) < [c]) := List.cons_lt_cons_iff.mpr (.inl (by omega))
    rw [decide_eq_true this, decide_eq_false h]
    rfl
theorem int_fig {c : Nat} (h0 : 48 ≤ c) (h9 : c ≤ 57) : intText? (⟨#[c]⟩ : Str) = some ((c : Int) - 48) := by
  have e : (⟨#[c]⟩ : Str) = numS ((c : Int) - 48) := by
    have e2 : TL.tl (numS ((c : Int) - 48)) = [c] := by
      rw [tl_numS (by omega), TL.numL_lt (by omega)]
      congr 1
      omega
    have e3 : (numS ((c : Int) - 48)).cps = #[c] := by
      apply Array.toList_inj.mp
      exact e2
    cases hz : numS ((c : Int) - 48) with
    | mk a =>
      rw [hz] at e3
      rw [show a = #[c] from e3]
  rw [e]
  exact int_numS (by omega) (by omega)
def optV : Option Int → V
  | some n => .int n
  | none => .non
theorem optV_dx {H : Hp} (o : Option Int) : Dx H (optV o) (dO o) := by
  cases o with
  | none => exact .non
  | some n => exact .int n
def spNumW : Sp := fun vs H Q _ => ∃ z : Str, vs = [.str z] ∧ z.length ≤ 1000000 ∧ ∀ H', Same H H' → Q (optV (numW z)) H'
theorem ok_num {f : Addr} {fd : FuncData} (F : FnP K "number_in" "number_in" S_number_in f fd) (B : Blt mg) : FnOk P w K mg base CX0 1 f fd P_number_in spNumW := by
  have nd := sc_number_in.nd
  refine F.ok sc_number_in (fun vs H Q E h => ?_) (fun cdv A outer s H vs Q E hr h => ⟨_, PSs.nox (C8.pss_cut (ps_if (PW.pt (pw_or (pt_cmpR op_eq (pv 0) pe_str (nomark _)) (pw_or1 (pt_not (pt_val (pe_callB (cr_all rfl) (by rfl) B.all_ (by decide +kernel) (pa_cons (pe_lc (own := [("figure", 1)]) (g := gName 1) rfl nd (pi_str (pv 0)) (blkOk_by (own := [("figure", 1)]) (N := N_number_in) (sc := defScope S_number_in) (by decide +kernel)) (fun _ _ _ _ _ => (pg_name (i := 1) nd rfl (.inl rfl))) (fun _ _ _ _ _ => pts_nil) (fun _ _ _ _ _ => (pe_chain op_le_str op_le_str pe_str (pv 1) pe_str))) pa_nil))))))) (pss_one (ps_ret pe_non)) pss_nil)
     (C8.pss_cut (ps_if (PW.pt (pw_and (pt_cmpR op_eq (pe_ix ix_str (pv 0) pe_int (fun _ _ => rfl)) pe_str (nomark _)) (pw_and1 (pt_cmpR op_ne (pv 0) pe_str (nomark _))))) (pss_one (ps_ret pe_non)) pss_nil)
     (pss_cons (ps_set (i := 2) nd rfl (.inl rfl) pe_int)
     (C8.pss_cut (ps_for PassesOwn.never rfl (pi_str (pv 0)) (pg_name (i := 1) nd rfl (.inl rfl))
      (pss_one (ps_set (i := 2) nd rfl (.inl rfl) (pe_op op_add (pe_op op_mul pe_int (pv 2)) (pe_callTy call_int_str (by rfl) B.int_ (by decide +kernel) (pa_cons (pv 1) pa_nil))))))
     (pss_one (ps_ret (pv 2))))))), ?_⟩)
  · obtain ⟨z, rfl, _⟩ := h
    rfl
  · obtain ⟨z, rfl, hz, q⟩ := h
    rw [show L2.start N_number_in [V.str z] = [some (V.str z), none, none] from rfl]
    have none_ : ∀ H', Same H H' → ¬ (TL.tl z ≠ [] ∧ digL (TL.tl z) = true ∧ (∀ r, TL.tl z = 48 :: r → r = [])) → Q .non H' := fun H' s c => by
      have := q H' s
      unfold numW at this
      rwa [if_neg c] at this
    have some_ : ∀ H', Same H H' → (TL.tl z ≠ [] ∧ digL (TL.tl z) = true ∧ (∀ r, TL.tl z = 48 :: r → r = [])) → Q (.int (valN (TL.tl z))) H' := fun H' s c => by
      have := q H' s
      unfold numW at this
      rwa [if_pos c] at this
    have z0 : z = Str.ofString "" ↔ TL.tl z = [] := ⟨fun e => by rw [e]; decide +kernel, fun e => TL.ext_tl (by rw [e]; decide +kernel)⟩
    refine ⟨fun σ H2 => Same H H2 ∧ TL.tl z ≠ [] ∧ digL (TL.tl z) = true ∧ σ = [some (V.str z), none, none], ?_, ?_⟩
    · refine ⟨_, rfl, rfl, _, rfl, ?_⟩
      by_cases c0 : z = Str.ofString ""
      · rw [decide_eq_true (by rw [c0])]
        exact iteT (none_ _ (fun _ _ e => e) fun c => c.1 (z0.mp c0))
      rw [decide_eq_false fun e => c0 (V.str.inj e)]
      refine iteF ⟨_, rfl, _, rfl, fun D nD => ?_⟩
      have ne : TL.tl z ≠ [] := fun e => c0 (z0.mpr e)
      refine lc_it (walk_str (z := z)) (fun i H2 => Same H (Off D H2) ∧ H2 D = some (.lst ((((TL.tl z).take i).map fun c => decide (48 ≤ c) && decide (c ≤ 57)).map V.bl))) ⟨fun b o e => Off.at (ne_of_none e nD) (same_new nD _ _ e), upd_same⟩ (fun _ _ _ _ => trivial) ?_ ?_
      · rintro i x H4 H5 hi2 ⟨sm, hD⟩ ⟨rfl, c, hc, rfl⟩
        refine ⟨rfl, ?_⟩
        dsimp only [tYes]
        rw [if_pos rfl]
        have hc' : (TL.tl z)[i]? = some c := by
          show z.cps.toList[i]? = some c
          rw [Array.getElem?_toList]
          exact hc
        have fin : ∀ b, b = (decide (48 ≤ c) && decide (c ≤ 57)) → ∃ acc, H5 D = some (.lst acc) ∧ acc.length < sizeLine ∧ (Same H (Off D (upd H5 D (.lst (acc ++ [.bl b])))) ∧ (upd H5 D (.lst (acc ++ [.bl b]))) D = some (.lst ((((TL.tl z).take (i + 1)).map fun c => decide (48 ≤ c) && decide (c ≤ 57)).map V.bl))) := fun b eb => by
          refine ⟨_, hD, by rw [List.length_map, List.length_map, List.length_take, sizeLine_eq]; have : i < z.length := hi2; omega, fun b o e => ?_, ?_⟩
          · have nb : b ≠ D := ne_of_none e nD
            exact Off.at nb (by rw [upd_ne nb]; exact Off.same _ _ (sm b o e))
          · rw [upd_same, List.take_add_one, hc', eb, List.map_append, List.map_append]
            rfl
        refine ⟨_, rfl, _, _, rfl, rfl, _, by rw [le_n0], ?_⟩
        by_cases c1 : 48 ≤ c
        · rw [decide_eq_true c1]
          refine iteT ⟨_, _, rfl, rfl, ?_⟩
          rw [le_n9]
          exact fin _ (by rw [decide_eq_true c1, Bool.true_and])
        · rw [decide_eq_false c1]
          exact iteF (fin _ (by rw [decide_eq_false c1, Bool.false_and]))
      · rintro H2 ⟨sm, hD⟩
        have ez : (TL.tl z).take z.cps.size = TL.tl z := List.take_of_length_le (by show z.cps.toList.length ≤ z.cps.size; simp)
        rw [ez] at hD
        refine ⟨D, _, rfl, SqL.of hD, ?_⟩
        rw [show ((TL.tl z).map fun c => decide (48 ≤ c) && decide (c ≤ 57)).all id = digL (TL.tl z) from by unfold digL; rw [List.all_map]; rfl]
        have s2 : Same H H2 := fun b o e => Off.same _ _ (sm b o e)
        cases hd : digL (TL.tl z) with
        | false => exact ⟨false, rfl, iteT (none_ _ s2 fun c => by rw [hd] at c; cases c.2.1)⟩
        | true => exact ⟨true, rfl, iteF ⟨s2, ne, rfl, rfl⟩⟩
    rintro σ H2 ⟨s2, ne, hd, rfl⟩
    have dg := digL_mem.mp hd
    obtain ⟨c, l, hcl⟩ : ∃ c l, TL.tl z = c :: l := by
      cases e : TL.tl z with
      | nil => exact absurd e ne
      | cons c l => exact ⟨c, l, rfl⟩
    have at0 : atI z.cps.toList 0 = some c := by
      show atI (TL.tl z) ((0 : Nat) : Int) = some c
      rw [hcl]
      exact atI_nat rfl
    have e0 : (Str.ofString "0") = ⟨#[48]⟩ := by decide +kernel
    have zz : z = Str.ofString "0" ↔ TL.tl z = [48] := ⟨fun e => by rw [e]; decide +kernel, fun e => TL.ext_tl (by rw [e]; decide +kernel)⟩
    refine ⟨fun σ H3 => H3 = H2 ∧ (∀ r, TL.tl z = 48 :: r → r = []) ∧ σ = [some (V.str z), none, none], ?_, ?_⟩
    · refine ⟨_, rfl, z, 0, c, rfl, rfl, by rw [sizeLine_eq]; omega, at0, rfl, _, rfl, ?_⟩
      by_cases hc : c = 48
      · rw [decide_eq_true (by rw [hc, e0])]
        refine iteT ⟨_, rfl, rfl, _, rfl, ?_⟩
        by_cases c2 : z = Str.ofString "0"
        · rw [decide_eq_true (by rw [c2])]
          refine iteF ⟨rfl, fun r hr => ?_, rfl⟩
          rw [zz.mp c2] at hr
          exact (List.cons.inj hr).2.symm
        · rw [decide_eq_false fun e => c2 (V.str.inj e)]
          refine iteT (none_ _ s2 fun cc => c2 (zz.mpr ?_))
          rw [hcl, hc, cc.2.2 l (by rw [hcl, hc])]
      · rw [decide_eq_false (fun e => hc (by
          rw [e0] at e
          have e := congrArg Str.cps (V.str.inj e)
          simpa using e))]
        refine iteF ⟨rfl, fun r hr => ?_, rfl⟩
        rw [hcl] at hr
        exact absurd (List.cons.inj hr).1 hc
    rintro σ H3 ⟨rfl, h0, rfl⟩
    refine ⟨fun σ H3' => ∃ x1, σ = [some (V.str z), x1, some (.int (valN (TL.tl z)))] ∧ H3' = H3, ?_, ?_⟩
    · refine ⟨_, rfl, _, rfl, ?_⟩
      refine for_it (walk_str (z := z)) (fun i σ H3' => ∃ x1, σ = [some (V.str z), x1, some (.int (valN ((TL.tl z).take i)))] ∧ H3' = H3) ⟨_, rfl, rfl⟩ (fun _ _ _ _ _ => trivial) ?_ ?_
      · rintro i x σ H4 H5 hi2 ⟨x1, rfl, rfl⟩ ⟨rfl, c, hc, rfl⟩
        have cm : c ∈ TL.tl z := Array.mem_toList_iff.mpr (Array.mem_of_getElem? hc)
        obtain ⟨c1, c2⟩ := dg c cm
        refine ⟨_, rfl, _, _, rfl, rfl, .inl ⟨by decide, by decide⟩, _, rfl, _, _, rfl, int_fig c1 c2, by show 1 ≤ 640; decide, _, _, rfl, rfl, ?_⟩
        have hc' : (TL.tl z)[i]? = some c := by
          show z.cps.toList[i]? = some c
          rw [Array.getElem?_toList]
          exact hc
        refine ⟨some (V.str ⟨#[c]⟩), ?_, rfl⟩
        rw [List.take_add_one, hc']
        show _ = [some (V.str z), some (V.str ⟨#[c]⟩), some (V.int (valN ((TL.tl z).take i ++ [c])))]
        rw [valN_snoc]
        rfl
      · rintro σ H3' ⟨x1, rfl, rfl⟩
        refine ⟨x1, ?_, rfl⟩
        rw [show (TL.tl z).take z.cps.size = TL.tl z from List.take_of_length_le (by show z.cps.toList.length ≤ z.cps.size; simp)]
    · rintro σ H3' ⟨x1, rfl, rfl⟩
      exact ⟨_, rfl, some_ _ s2 ⟨ne, hd, h0⟩⟩
end
end Cw
namespace Cw
open PySem PySem.Spec PyProof.Rows L2
theorem cut_from (xs : List V) (k : Nat) : cutV xs (some (k : Int)) none = xs.drop k := by
  unfold cutV
  rw [HT.sIx_nat, HT.sIx_none]
  by_cases h : k ≤ xs.length
  · rw [Nat.min_eq_left h, List.take_of_length_le (by rw [List.length_drop]; omega)]
  · rw [Nat.min_eq_right (by omega), List.drop_of_length_le (Nat.le_refl _), List.drop_of_length_le (by omega), List.take_nil]
theorem cut_to (xs : List V) (k : Nat) : cutV xs none (some (k : Int)) = xs.take k := by
  unfold cutV
  rw [HT.sIx_nat, HT.sIx_none, List.drop_zero, Nat.sub_zero]
  by_cases h : k ≤ xs.length
  · rw [Nat.min_eq_left h]
  · rw [Nat.min_eq_right (by omega), List.take_length, List.take_of_length_le (by omega)]
theorem prs_at : ∀ (r : List Str) (i : Nat), i < r.length / 2 → ∃ a b, r[2 * i]? = some a ∧ r[2 * i + 1]? = some b ∧ (pairsD r)[i]? = some (.tuple [dO (numW a), dO (numW b)])
  | [], i, h => absurd h (by simp)
  | [_], i, h => absurd h (by simp)
  | a :: b :: r, 0, _ => ⟨a, b, rfl, rfl, rfl⟩
  | a :: b :: r, i + 1, h => by
    obtain ⟨x, y, h1, h2, h3⟩ := prs_at r i (by simp only [List.length_cons] at h; omega)
    exact ⟨x, y, h1, h2, h3⟩
theorem pairs_len : ∀ r : List Str, (pairsD r).length = r.length / 2
  | [] => by simp [pairsD]
  | [_] => by simp [pairsD]
  | a :: b :: r => by
    show (pairsD r).length + 1 = _
    rw [pairs_len r]
    simp only [List.length_cons]
    omega
theorem all_pairs : ∀ r : List Str, allTup (pairsD r) = true
  | [] => by simp [pairsD, allTup]
  | [_] => by simp [pairsD, allTup]
  | a :: b :: r => by
    have h := all_pairs r
    show allTup (pairsD r) = true
    exact h
theorem nt_dO (o p : Option Int) : allTup [dO o, dO p] = false := by cases o <;> rfl
theorem rgW (m : Nat) (hm : m ≤ 500000) : RgC 1 ((2 * m + 1 : Nat) : Int) 2 m := by
  have sz : Builtin.Range.rangeSize 1 ((2 * m + 1 : Nat) : Int) 2 = m := by
    unfold Builtin.Range.rangeSize
    rw [if_pos (by decide)]
    split
    · omega
    · omega
  have fit : ∀ x : Int, 0 ≤ x → x ≤ 6000000 → Builtin.Range.rangeFitsLong x = true := fun x h0 h1 => by
    unfold Builtin.Range.rangeFitsLong
    simp only [Bool.and_eq_true, decide_eq_true_eq]
    omega
  refine ⟨by decide, by decide, ?_, sz⟩
  unfold Builtin.Range.small
  rw [sz, fit 1 (by decide) (by decide), fit _ (by omega) (by omega), fit 2 (by decide) (by decide), fit (m : Int) (by omega) (by omega), if_pos (by decide), fit _ (by omega) (by omega)]
  simp
section
variable {P : Program} {w : World} {K : PySem.W.Frag} {mg : Str → Option Value} {base : Heap} {C : Addr}
def spTieInW : Sp := fun vs H Q _ => ∃ (l : Addr) (w0 y a b z : Str) (r : List Str), vs = [.ref l] ∧ H l = some (.lst ((w0 :: y :: a :: b :: z :: r).map V.str)) ∧ r.length % 2 = 0 ∧ r.length ≤ 900000 ∧ (∀ x ∈ z :: r, x.length ≤ 1000000) ∧ ∀ x H', Same H H' → Dx (Nw H H') x (tieD y a b z r) → Q x H'
theorem ok_tiein {f : Addr} {fd : FuncData} (F : FnP K "tie_in" "tie_in" S_tie_in f fd) (H_number_in : Has P w K mg base "number_in" S_number_in 1 P_number_in spNumW) (B : Blt mg) : FnOk P w K mg base CX0 2 f fd P_tie_in spTieInW := by
  obtain ⟨f_number_in, fd_number_in, F_number_in, b_number_in, G_number_in, g_number_in⟩ := H_number_in
  have nd := sc_tie_in.nd
  refine F.ok sc_tie_in (fun vs H Q E h => ?_) (fun cdv A outer s H vs Q E hr h => ⟨_, PSs.nox (pss_cons (ps_set (i := 1) nd rfl (.inr rfl) (pe_lc (own := [("word", 3)]) (g := gName 3) rfl nd (pi_list (pe_slice sl_list (pv 0) (po_some pe_int) po_none)) (blkOk_by (own := [("word", 3)]) (N := N_tie_in) (sc := defScope S_tie_in) (by decide +kernel)) (fun _ _ _ _ _ => (pg_name (i := 3) nd rfl (.inl rfl))) (fun _ _ _ _ _ => pts_nil) (fun _ _ _ _ _ => (pe_call G_number_in (hr.mono (by first | decide | omega)) rfl g_number_in F_number_in.kp b_number_in .nil pass0 (pa_cons (pv 3) pa_nil)))))
     (pss_cons (ps_setLc (i := 2) (own := [("at", 4)]) (g := gName 4) rfl nd rfl rfl (by rfl) (pi_range3 rfl B.range_ (pa_cons pe_int (pa_cons (pe_callB call_len_seq (by rfl) B.len_ PySem.boot_len (pa_cons (pv 1) pa_nil)) (pa_cons pe_int pa_nil)))) (blkOk_by (own := [("at", 4)]) (N := N_tie_in) (sc := defScope S_tie_in) (by decide +kernel)) (fun _ _ _ _ _ => (pg_name (i := 4) nd rfl (.inl rfl))) (fun _ _ _ _ _ => pts_nil) (fun _ _ _ _ _ => (pe_tup (pa_cons (pe_ix (ix_listK (K := K) rfl) (pv 1) (pv 4) (fun _ _ => rfl)) (pa_cons (pe_ix (ix_listK (K := K) rfl) (pv 1) (pe_op op_add (pv 4) pe_int) (fun _ _ => rfl)) pa_nil)))))
     (pss_one (ps_ret (pe_tup (pa_cons (pe_ix ix_list (pv 0) pe_int (fun _ _ => rfl)) (pa_cons (pe_ix ix_list (pv 0) pe_int (fun _ _ => rfl)) (pa_cons (pe_ix ix_list (pv 0) pe_int (fun _ _ => rfl)) (pa_cons (pe_ix ix_list (pv 1) pe_int (fun _ _ => rfl)) (pa_cons (pe_callTy call_tupleZ (by rfl) B.tuple_ (by decide +kernel) (pa_cons (pv 2) pa_nil)) pa_nil)))))))))), ?_⟩)
  · obtain ⟨l, w0, y, a, b, z, r, rfl, _⟩ := h
    rfl
  · obtain ⟨l, w0, y, a, b, z, r, rfl, hl, r2, rl, small, q⟩ := h
    rw [show L2.start N_tie_in [V.ref l] = [some (V.ref l), none, none, none, none] from rfl]
    refine ⟨_, rfl, 4, rfl, l, _, rfl, SqL.of hl, fun l1 n1 => ⟨l1, rfl, ⟨_, SqL.of upd_same⟩, fun D nD => ?_⟩⟩
    have ec : cutV ((w0 :: y :: a :: b :: z :: r).map V.str) (some 4) none = (z :: r).map V.str := by
      rw [show (4 : Int) = ((4 : Nat) : Int) from rfl, cut_from]
      rfl
    rw [ec] at nD ⊢
    obtain ⟨s1, m1⟩ := fresh2 (o := .lst ((z :: r).map V.str)) n1
    generalize upd H l1 (.lst ((z :: r).map V.str)) = H1 at s1 m1 nD ⊢
    have ln : (z :: r).length = 2 * (r.length / 2) + 1 := by
      rw [List.length_cons]
      omega
    refine lc_mapL (ys := ((z :: r).map fun x => optV (numW x))) (walk_list (K := K) (a := l1) (xs := (z :: r).map V.str)) nD (fun H' s' => SqL.of (s' _ _ m1)) (by simp only [List.length_map]) (by rw [List.length_map, ln]; omega) ?_ ?_
    · rintro i x y H4 k hx hy s4 hk
      rw [List.getElem?_map] at hx hy
      cases e : (z :: r)[i]? with
      | none =>
        rw [e] at hx
        cases hx
      | some n =>
        rw [e] at hx hy
        cases hx
        cases hy
        exact ⟨rfl, _, rfl, n, rfl, small n (List.mem_of_getElem? e), fun H5 s5 => hk H5 s5⟩
    · intro H2 s2 hD
      have s02 := s1.trans s2
      have m := rgW (r.length / 2) (by omega)
      rw [← ln] at m
      refine ⟨_, rfl, D, _, rfl, .inl (SqL.of hD), 1, (((z :: r).length : Nat) : Int), 2, r.length / 2, ?_, m, fun D2 nD2 => ?_⟩
      · rw [List.length_map]
      · refine lc_dxL (walk_rangeC (lo := 1) (c := 2) (n := r.length / 2)) (pairsD r) (pairs_len r) (by omega) nD2 (fun _ _ => trivial) ?_ ?_
        · rintro i x H4 H4' d k hd s4 ⟨us0, hD20⟩ ⟨rfl, rfl⟩ kk
          have hi : i < r.length / 2 := by
            have := (List.getElem?_eq_some_iff.mp hd).1
            rw [pairs_len] at this
            exact this
          obtain ⟨u, v, h1, h2, h3⟩ := prs_at r i hi
          rw [hd] at h3
          cases h3
          have hD4 := s4 _ _ hD
          have a1 : atI ((z :: r).map fun x => optV (numW x)) (1 + (i : Nat) * 2) = some (optV (numW u)) := atI_int (by omega) (by
            rw [show (1 + ((i : Nat) : Int) * 2).toNat = 2 * i + 1 from by omega, List.getElem?_map]
            show Option.map _ (r[2 * i]?) = _
            rw [h1]
            rfl)
          have a2 : atI ((z :: r).map fun x => optV (numW x)) (1 + (i : Nat) * 2 + 1) = some (optV (numW v)) := atI_int (by omega) (by
            rw [show (1 + ((i : Nat) : Int) * 2 + 1).toNat = 2 * i + 1 + 1 from by omega, List.getElem?_map]
            show Option.map _ (r[2 * i + 1]?) = _
            rw [h2]
            rfl)
          refine ⟨rfl, _, rfl, _, rfl, D, _, _, _, rfl, rfl, SqL.of hD4, a1, _, rfl, _, rfl, _, _, rfl, rfl, D, _, _, _, rfl, rfl, SqL.of hD4, a2, by show 2 ≤ sizeLine; decide, fun c nc => ?_⟩
          obtain ⟨s5, m5⟩ := fresh2 (o := .tup [optV (numW u), optV (numW v)]) nc
          exact kk _ _ s5 (.tup (Off.at (ne_of_none hD20 nc).symm (Nw.at (none_of s4 nc) m5)) (.cons (optV_dx _) (.cons (optV_dx _) .nil)) (nt_dO _ _))
        · intro H4 us s4 hD4 lus hus
          have s04 := s02.trans s4
          have hl4 := s04 _ _ hl
          have hD' := s4 _ _ hD
          refine ⟨_, rfl, l, _, 1, _, rfl, rfl, SqL.of hl4, atI_int (by decide) rfl, ?_⟩
          refine ⟨_, rfl, l, _, 2, _, rfl, rfl, SqL.of hl4, atI_int (by decide) rfl, ?_⟩
          refine ⟨_, rfl, l, _, 3, _, rfl, rfl, SqL.of hl4, atI_int (by decide) rfl, ?_⟩
          refine ⟨_, rfl, D, _, 0, _, rfl, rfl, SqL.of hD', atI_int (by decide) rfl, ?_⟩
          refine ⟨_, rfl, D2, us, rfl, SqL.of hD4, fun l5 ob n5 dn => ?_⟩
          obtain ⟨s5, m5⟩ := fresh2 (o := .frz ob (.tup us)) n5
          refine ⟨by show 5 ≤ sizeLine; decide, fun c nc => ?_⟩
          obtain ⟨s6, m6⟩ := fresh2 (o := .tup [.str y, .str a, .str b, optV (numW z), .ref l5]) nc
          have s06 := (s04.trans s5).trans s6
          refine q _ _ s06 (.tup (Nw.at (none_of s04 (none_of s5 nc)) m6) (.cons (.str _) (.cons (.str _) (.cons (.str _) (.cons (optV_dx _) (.cons (.tupy (.inr ⟨ob, dn, Nw.at (none_of s04 n5) (s6 _ _ m5)⟩) (Dx.sameAll (fun b o e => ?_) _ _ hus) (all_pairs _)) .nil))))))
          obtain ⟨e1, e2⟩ := Nw.get (Off.same _ _ e)
          exact Nw.at (none_of s02 e1) (s6 _ _ (s5 _ _ e2))
end
end Cw
namespace Cw
open PySem PySem.Spec PyProof.Rows L2
section
variable {P : Program} {w : World} {K : PySem.W.Frag} {mg : Str → Option Value} {base : Heap} {C NW0 : Addr}
/-- Web(..), told and refused -/
def MakesE (P : Program) (w : World) (K : PySem.W.Frag) (mg : Str → Option Value) (base : Heap) (C NW0 : Addr) : Prop := ∃ (fT e : Addr) (fdT : FuncData), FnI K fT fdT e ∧ SqT K (fun _ => none) e [] ∧ FnOk P w K mg base (L2.CX P w) 5 fT fdT P_Web_init (fun vs H Q E => spInit K C vs H Q E ∨ spInitE C NW0 vs H Q E) ∧ Mk K C fT ∧ mg "Web" = some (.ref C)
/-- what two lists that are being filled, new since H, hold -/
abbrev Nw2 (H H2 : Hp) (lp lt : Addr) : Hp := Off lt (Off lp (Nw H H2))
theorem off_get {p b : Addr} {H : Hp} {o : HO} (e : Off p H b = some o) : b ≠ p ∧ H b = some o := by
  unfold Off at e
  split at e
  · cases e
  · exact ⟨by assumption, e⟩
theorem nw2_get {H H2 : Hp} {lp lt b : Addr} {o : HO} (e : Nw2 H H2 lp lt b = some o) : b ≠ lt ∧ b ≠ lp ∧ H b = none ∧ H2 b = some o := by
  obtain ⟨h1, e⟩ := off_get e
  obtain ⟨h2, e⟩ := off_get e
  obtain ⟨h3, e⟩ := Nw.get e
  exact ⟨h1, h2, h3, e⟩
theorem nw2_at {H H2 : Hp} {lp lt b : Addr} {o : HO} (h1 : b ≠ lt) (h2 : b ≠ lp) (h3 : H b = none) (e : H2 b = some o) : Nw2 H H2 lp lt b = some o := Off.at h1 (Off.at h2 (Nw.at h3 e))
def spWebIn (C : Addr) : Sp := fun vs H Q _ => ∃ (l : Addr) (r : Bool) (fs : List (Str × Int)) (ts : List Tie) (z : Str), vs = [.ref l] ∧ H l = some (.lst ((rowsS r fs ts ++ [z]).map V.str)) ∧ Pre r fs ts ∧ z.length ≤ 600000 ∧
  (∀ fs' ts' a H', Nxt r fs ts (Txt.split z (Str.ofString " ")) fs' ts' → Same H H' → WebAt C (Nw H H') a r fs' ts' → Q (.ref a) H') ∧ ∀ H', (∀ fs' ts', ¬ Nxt r fs ts (Txt.split z (Str.ofString " ")) fs' ts') → Same H H' → Q .non H'
theorem ok_webin {f : Addr} {fd : FuncData} (F : FnP K "web_in" "web_in" S_web_in f fd) (R_NoWeb : Rz2 P w K mg base "NoWeb" "what" "who" NW0) (EC : ExcC K NW0) (XF_NoWeb : XfC K NW0) (H_number_in : Has P w K mg base "number_in" S_number_in 1 P_number_in spNumW) (H_tie_in : Has P w K mg base "tie_in" S_tie_in 2 P_tie_in spTieInW) (MW : MakesE P w K mg base C NW0) (B : Blt mg) : FnOk P w K mg base CX0 7 f fd P_web_in (spWebIn C) := by
  obtain ⟨f_number_in, fd_number_in, F_number_in, b_number_in, G_number_in, g_number_in⟩ := H_number_in
  obtain ⟨f_tie_in, fd_tie_in, F_tie_in, b_tie_in, G_tie_in, g_tie_in⟩ := H_tie_in
  obtain ⟨fI, eI, fdI, FI, heI, GI, MI, gI⟩ := MW
  obtain ⟨_, _, k_2_rounds⟩ := bind_2_rounds FI
  have nd := sc_web_in.nd
  refine F.ok sc_web_in (fun vs H Q E h => ?_) (fun cdv A outer s H vs Q E hr h => ⟨_, PSs.nox (pss_cons (ps_set (i := 1) nd rfl (.inl rfl) (pe_lst pa_nil))
     (pss_cons (ps_set (i := 2) nd rfl (.inl rfl) (pe_lst pa_nil))
     (C8.pss_cut (ps_for PassesOwn.never rfl (pi_list (pe_slice sl_list (pv 0) (po_some pe_int) po_none)) (pg_name (i := 3) nd rfl (.inl rfl))
      (pss_cons (ps_set (i := 4) nd rfl (.inl rfl) (pe_split (pv 3) pe_str))
     (pss_one (ps_if (pt_cut (PW.pt (pw_and (pt_cmpR op_eq (pe_ix ix_list (pv 4) pe_int (fun _ _ => rfl)) pe_str (nomark _)) (pw_and (pt_cmpR op_eq (pe_callB call_len_seq (by rfl) B.len_ PySem.boot_len (pa_cons (pv 4) pa_nil)) pe_int (nomark _)) (pw_and1 (pt_not (pt_truth (pv 2) (fun _ => rfl)))))))) (pss_one (ps_expr (pe_bm PySem.F.plainAttrs_list PySem.F.slot_list_append PySem.F.type_list_append mt_append (pv 1) (pa_cons (pe_tup (pa_cons (pe_ix ix_list (pv 4) pe_int (fun _ _ => rfl)) (pa_cons (pe_call G_number_in (hr.mono (by first | decide | omega)) rfl g_number_in F_number_in.kp b_number_in .nil pass0 (pa_cons (pe_ix ix_list (pv 4) pe_int (fun _ _ => rfl)) pa_nil)) pa_nil))) pa_nil)))) (pss_one (ps_if (pt_cut (PW.pt (pw_and (pt_cmpR op_eq (pe_ix ix_list (pv 4) pe_int (fun _ _ => rfl)) pe_str (nomark _)) (pw_and (pt_cmpR op_ge (pe_callB call_len_seq (by rfl) B.len_ PySem.boot_len (pa_cons (pv 4) pa_nil)) pe_int (nomark _)) (pw_and1 (pt_cmpR op_eq (pe_op op_mod (pe_callB call_len_seq (by rfl) B.len_ PySem.boot_len (pa_cons (pv 4) pa_nil)) pe_int) pe_int (nomark _))))))) (pss_one (ps_expr (pe_bm PySem.F.plainAttrs_list PySem.F.slot_list_append PySem.F.type_list_append mt_append (pv 2) (pa_cons (pe_call G_tie_in (hr.mono (by first | decide | omega)) rfl g_tie_in F_tie_in.kp b_tie_in .nil pass0 (pa_cons (pv 4) pa_nil)) pa_nil)))) (pss_one (ps_ret pe_non))))))))
     (pss_one (ps_try_only rfl rfl ⟨rfl, by decide, .inl R_NoWeb.g⟩ takes0 (fun W pn xe tk _ => (pss_one (ps_ret (pe_makeKS MI GI (hr.mono (by first | decide | omega)) rfl gI k_2_rounds (fun σ => passAt tk σ) (pa_cons (pv 1) (pa_cons (pv 2) pa_nil)) (pk_cons (pe_cmpR op_eq (pe_ix (ix_listK (K := K) rfl) (pv 0) pe_int (fun _ _ => rfl)) pe_str (nomark _)) pk_nil))))) (fun a oe cls d pn _ _ => (pss_one (ps_ret pe_non)))))))), ?_⟩)
  · obtain ⟨l, r, fs, ts, z, rfl, _⟩ := h
    rfl
  · obtain ⟨l, r, fs, ts, z, rfl, hl, hP, hz, q1, q2⟩ := h
    rw [show L2.start N_web_in [V.ref l] = [some (V.ref l), none, none, none, none] from rfl]
    have hf : fs.length ≤ 8 ∧ ts.length ≤ 12 := by
      rcases hP with ⟨rfl, rfl⟩ | S
      · exact ⟨by decide, by decide⟩
      · exact ⟨S.f8, S.t12⟩
    obtain ⟨f8, t12⟩ := hf
    have kz := cut_blank z
    generalize hws : Txt.split z (Str.ofString " ") = ws at kz q1 q2
    refine ⟨by show 0 ≤ sizeLine; exact Nat.zero_le _, fun lp np => ?_⟩
    obtain ⟨s1, m1⟩ := fresh2 (o := .lst []) np
    generalize upd H lp (.lst []) = H1 at s1 m1 ⊢
    refine ⟨by show 0 ≤ sizeLine; exact Nat.zero_le _, fun lt nt => ?_⟩
    obtain ⟨s2, m2⟩ := fresh2 (o := .lst []) nt
    have nlt : lt ≠ lp := fun e => by
      rw [e, m1] at nt
      cases nt
    have m1 := s2 _ _ m1
    have nt0 : H lt = none := none_of s1 nt
    have s2 := s1.trans s2
    generalize upd H1 lt (.lst []) = H2 at s2 m2 m1 ⊢
    refine ⟨fun σ H4 => ∃ xs ys x3 x4 ps es, σ = [some (V.ref l), some (V.ref lp), some (V.ref lt), x3, x4] ∧ Same H H4 ∧ H4 lp = some (.lst xs) ∧ H4 lt = some (.lst ys) ∧ DxAll (Nw2 H H4 lp lt) xs ps ∧ DxAll (Nw2 H H4 lp lt) ys es ∧ Cand ws fs ts ps es, ?_, ?_⟩
    · refine ⟨_, rfl, 1, rfl, l, _, rfl, SqL.of (s2 _ _ hl), fun l3 n3 => ⟨l3, rfl, ⟨_, SqL.of upd_same⟩, ?_⟩⟩
      have ec : cutV ((rowsS r fs ts ++ [z]).map V.str) (some 1) none = ((fs.map rowP ++ ts.map rowT) ++ [z]).map V.str := by
        rw [show (1 : Int) = ((1 : Nat) : Int) from rfl, cut_from]
        rfl
      rw [ec]
      obtain ⟨s3, m3⟩ := fresh2 (o := .lst (((fs.map rowP ++ ts.map rowT) ++ [z]).map V.str)) n3
      have np3 : l3 ≠ lp := fun e => by
        rw [e, m1] at n3
        cases n3
      have nt3 : l3 ≠ lt := fun e => by
        rw [e, m2] at n3
        cases n3
      have n30 : H l3 = none := none_of s2 n3
      have m1 := s3 _ _ m1
      have m2 := s3 _ _ m2
      have s3 := s2.trans s3
      generalize upd H2 l3 (.lst (((fs.map rowP ++ ts.map rowT) ++ [z]).map V.str)) = H3 at s3 m3 m2 m1 ⊢
      have hlen : (((fs.map rowP ++ ts.map rowT) ++ [z]).map V.str).length = fs.length + ts.length + 1 := by
        rw [List.length_map, List.length_append, List.length_append, List.length_map, List.length_map]
        rfl
      refine for_it (walk_list (xs := ((fs.map rowP ++ ts.map rowT) ++ [z]).map V.str)) (fun i σ H4 => ∃ xs ys x3 x4 ps es, σ = [some (V.ref l), some (V.ref lp), some (V.ref lt), x3, x4] ∧ Same H H4 ∧ H4 l3 = some (.lst (((fs.map rowP ++ ts.map rowT) ++ [z]).map V.str)) ∧ H4 lp = some (.lst xs) ∧ H4 lt = some (.lst ys) ∧ DxAll (Nw2 H H4 lp lt) xs ps ∧ DxAll (Nw2 H H4 lp lt) ys es ∧
          ((i ≤ fs.length + ts.length ∧ ps = (fs.take i).map dPer ∧ es = (ts.take (i - fs.length)).map dTie) ∨ (i = fs.length + ts.length + 1 ∧ Cand ws fs ts ps es)))
        ⟨[], [], none, none, [], [], rfl, s3, m3, m1, m2, .nil, .nil, .inl ⟨Nat.zero_le _, rfl, by rw [Nat.zero_sub]; rfl⟩⟩ (fun i σ H4 _ ⟨_, _, _, _, _, _, _, _, h, _⟩ => SqL.of h) ?_ ?_
      · rintro i x σ H4 H5 hi ⟨xs, ys, x3, x4, ps, es, rfl, s4, m4, mp, mt, dp, dt, st⟩ ⟨rfl, hxi⟩
        rw [hlen] at hi
        obtain ⟨hin, eps, ees⟩ : i ≤ fs.length + ts.length ∧ ps = (fs.take i).map dPer ∧ es = (ts.take (i - fs.length)).map dTie := by
          rcases st with st | ⟨st, _⟩
          · exact st
          · omega
        obtain ⟨y, rfl, hy, row⟩ : ∃ y : Str, x = .str y ∧ y.length ≤ 600000 ∧ ((∃ f, i < fs.length ∧ fs[i]? = some f ∧ 0 ≤ f.2 ∧ Txt.split y (Str.ofString " ") = wordsP f) ∨ (∃ t, fs.length ≤ i ∧ i < fs.length + ts.length ∧ ts[i - fs.length]? = some t ∧ 0 ≤ t.len ∧ (∀ h ∈ t.hs, 0 ≤ h.1 ∧ 0 ≤ h.2) ∧ Txt.split y (Str.ofString " ") = wordsT t) ∨ (i = fs.length + ts.length ∧ y = z)) := by
          rw [List.getElem?_map] at hxi
          by_cases c : i < fs.length + ts.length
          · have SP : Specs r fs ts := by
              rcases hP with ⟨rfl, rfl⟩ | S
              · exact absurd c (by simp)
              · exact S
            rw [List.getElem?_append_left (by rw [List.length_append, List.length_map, List.length_map]; exact c)] at hxi
            by_cases hif : i < fs.length
            · rw [List.getElem?_append_left (by rw [List.length_map]; exact hif), List.getElem?_map, List.getElem?_eq_getElem hif] at hxi
              cases hxi
              have fm := List.getElem_mem hif
              have ww := words_per SP fm
              have rl := (rows_ok SP (rowP fs[i]) (List.mem_cons_of_mem _ (List.mem_append_left _ (List.mem_map.mpr ⟨_, fm, rfl⟩)))).2
              exact ⟨_, rfl, by omega, .inl ⟨fs[i], hif, List.getElem?_eq_getElem hif, (SP.fo.st _ fm).1, split_row (by unfold wordsP; simp) fun x hx => (ww x hx).f 32 (by decide)⟩⟩
            · rw [List.getElem?_append_right (by rw [List.length_map]; omega), List.length_map, List.getElem?_map] at hxi
              have hjt : i - fs.length < ts.length := by omega
              rw [List.getElem?_eq_getElem hjt] at hxi
              cases hxi
              have tm := List.getElem_mem hjt
              have ww := words_tie SP tm
              have g := SP.ti _ tm
              have rl := (rows_ok SP (rowT ts[i - fs.length]) (List.mem_cons_of_mem _ (List.mem_append_right _ (List.mem_map.mpr ⟨_, tm, rfl⟩)))).2
              exact ⟨_, rfl, by omega, .inr (.inl ⟨ts[i - fs.length], by omega, c, List.getElem?_eq_getElem hjt, g.at0.1, g.hs0, split_row (by unfold wordsT; simp) fun x hx => (ww x hx).f 32 (by decide)⟩)⟩
          · rw [List.getElem?_append_right (by rw [List.length_append, List.length_map, List.length_map]; omega), List.length_append, List.length_map, List.length_map, show i - (fs.length + ts.length) = 0 from by omega] at hxi
            cases hxi
            exact ⟨_, rfl, hz, .inr (.inr ⟨by omega, rfl⟩)⟩
        have ky := cut_blank y
        refine ⟨_, rfl, ⟨_, rfl⟩, _, _, rfl, rfl, by decide +kernel, by rw [sizeLine_eq]; omega, fun lw nw => ?_⟩
        generalize hu : Txt.split y (Str.ofString " ") = us at ky row ⊢
        obtain ⟨s5, m5⟩ := fresh2 (o := .lst (us.map V.str)) nw
        generalize upd H5 lw (.lst (us.map V.str)) = H6 at s5 m5 ⊢
        obtain ⟨u0, ur, rfl⟩ : ∃ u0 ur, us = u0 :: ur := by
          cases us with
          | nil => exact absurd rfl ky.ne
          | cons a b => exact ⟨a, b, rfl⟩
        have tdiff : Str.ofString "tie" ≠ Str.ofString "person" := by decide +kernel
        have newP : ∀ a s, u0 :: ur = [Str.ofString "person", a, s] → es = [] → (i + 1 ≤ fs.length + ts.length ∧ ps ++ [perD a s] = (fs.take (i + 1)).map dPer ∧ es = (ts.take (i + 1 - fs.length)).map dTie) ∨ (i + 1 = fs.length + ts.length + 1 ∧ Cand ws fs ts (ps ++ [perD a s]) es) := fun a s e e0 => by
          rcases row with ⟨f, c, hf, h0, ew⟩ | ⟨t, _, _, _, _, _, ew⟩ | ⟨c, rfl⟩
          · rw [e] at ew
            have h1 := List.cons.inj (List.cons.inj ew).2
            have h2 := List.cons.inj h1.2
            refine .inl ⟨by omega, ?_, ?_⟩
            · rw [h1.1, h2.1, perD_words f h0, eps, List.take_add_one, hf, List.map_append]
              rfl
            · rw [e0, Nat.sub_eq_zero_of_le c]
              rfl
          · rw [e] at ew
            exact absurd (List.cons.inj ew).1.symm tdiff
          · have tn : ts = [] := by
              rw [e0, c, Nat.add_sub_cancel_left, List.take_length] at ees
              cases ts with
              | nil => rfl
              | cons p q => cases ees
            rw [hws] at hu
            refine .inr ⟨by omega, .inl ⟨a, s, hu.trans e, tn, ?_, e0⟩⟩
            rw [eps, List.take_of_length_le (by omega)]
        have newT : ∀ a b c d q, u0 :: ur = Str.ofString "tie" :: a :: b :: c :: d :: q → q.length % 2 = 0 → (i + 1 ≤ fs.length + ts.length ∧ ps = (fs.take (i + 1)).map dPer ∧ es ++ [tieD a b c d q] = (ts.take (i + 1 - fs.length)).map dTie) ∨ (i + 1 = fs.length + ts.length + 1 ∧ Cand ws fs ts ps (es ++ [tieD a b c d q])) := fun a b c d q e e0 => by
          rcases row with ⟨f, ci, hf, h0, ew⟩ | ⟨t, c1, c2, ht, h0, h1, ew⟩ | ⟨ci, rfl⟩
          · rw [e] at ew
            exact absurd (List.cons.inj ew).1 tdiff
          · rw [e] at ew
            have g1 := List.cons.inj (List.cons.inj ew).2
            have g2 := List.cons.inj g1.2
            have g3 := List.cons.inj g2.2
            have g4 := List.cons.inj g3.2
            refine .inl ⟨by omega, ?_, ?_⟩
            · rw [eps, List.take_of_length_le c1, List.take_of_length_le (by omega)]
            · rw [g1.1, g2.1, g3.1, g4.1, show q = hsW t.hs from g4.2, tieD_words t h0 h1, ees, show i + 1 - fs.length = i - fs.length + 1 from by omega, List.take_add_one, ht, List.map_append]
              rfl
          · rw [hws] at hu
            refine .inr ⟨by omega, .inr ⟨a, b, c, d, q, hu.trans e, e0, ?_, ?_⟩⟩
            · rw [eps, List.take_of_length_le (by omega)]
            · rw [ees, List.take_of_length_le (by omega)]
        have neither : ¬ (u0 = Str.ofString "person" ∧ ur.length = 2 ∧ es = []) → ¬ (u0 = Str.ofString "tie" ∧ 4 ≤ ur.length ∧ ur.length % 2 = 0) → ∀ H', Same H H' → Q .non H' := fun n1 n2 H' s' => by
          have tw : ∀ t : Tie, u0 :: ur = wordsT t → u0 = Str.ofString "tie" ∧ 4 ≤ ur.length ∧ ur.length % 2 = 0 := fun t e => by
            have e2 : ur = [t.nm, t.one, t.other, numS t.len] ++ hsW t.hs := (List.cons.inj e).2
            refine ⟨(List.cons.inj e).1, ?_, ?_⟩ <;> rw [e2, List.length_append, hsW_len] <;> simp only [List.length_cons, List.length_nil] <;> omega
          rcases row with ⟨f, c, hf, h0, ew⟩ | ⟨t, c1, c2, ht, h0, h1, ew⟩ | ⟨c, rfl⟩
          · refine absurd ⟨(List.cons.inj ew).1, by rw [(List.cons.inj ew).2]; rfl, ?_⟩ n1
            rw [ees, Nat.sub_eq_zero_of_le (Nat.le_of_lt c)]
            rfl
          · exact absurd (tw t ew) n2
          · rw [hws] at hu
            refine q2 H' (fun fs' ts' N => ?_) s'
            rcases N.2 with ⟨f, e, e2, _⟩ | ⟨t, e, _⟩
            · rw [hu] at e
              refine n1 ⟨(List.cons.inj e).1, by rw [(List.cons.inj e).2]; rfl, ?_⟩
              rw [ees, e2]
              simp
            · rw [hu] at e
              exact n2 (tw t e)
        have yse : ys = [] ↔ es = [] := by
          have := dxall_len dt
          constructor
          · rintro rfl
            exact List.eq_nil_of_length_eq_zero this.symm
          · rintro rfl
            exact List.eq_nil_of_length_eq_zero this
        have ly : ys.length ≤ 12 := by
          rw [dxall_len dt, ees, List.length_map, List.length_take]
          omega
        have lx : xs.length ≤ 8 := by
          rw [dxall_len dp, eps, List.length_map, List.length_take]
          omega
        simp only [List.set]
        refine ⟨fun b H' => H' = H6 ∧ (b = true → u0 = Str.ofString "person" ∧ ur.length = 2 ∧ ys = []) ∧ (b = false → ¬ (u0 = Str.ofString "person" ∧ ur.length = 2 ∧ ys = [])), ?_, ?_⟩
        · refine ⟨_, rfl, lw, _, 0, _, rfl, rfl, SqL.of m5, atI_int (by decide) rfl, rfl, _, rfl, ?_⟩
          by_cases c0 : u0 = Str.ofString "person"
          · rw [decide_eq_true (by rw [c0])]
            refine iteT ⟨_, rfl, lw, _, rfl, .inl (SqL.of m5), rfl, _, rfl, ?_⟩
            by_cases c1 : ur.length = 2
            · rw [decide_eq_true (by rw [List.length_map, List.length_cons, c1]; rfl)]
              refine iteT ⟨_, rfl, _, .inl ⟨_, SqL.of (s5 _ _ mt), rfl⟩, ?_⟩
              cases hys : ys with
              | nil => exact ⟨rfl, fun _ => ⟨c0, c1, rfl⟩, fun h => by cases h⟩
              | cons p q => exact ⟨rfl, fun h => (by cases h), fun _ h => by cases h.2.2⟩
            · rw [decide_eq_false fun e => c1 (by have := V.int.inj e; rw [List.length_map, List.length_cons] at this; omega)]
              exact iteF ⟨rfl, fun h => (by cases h), fun _ h => c1 h.2.1⟩
          · rw [decide_eq_false fun e => c0 (V.str.inj e)]
            exact iteF ⟨rfl, fun h => (by cases h), fun _ h => c0 h.1⟩
        rintro b H7 ⟨rfl, hb1, hb0⟩
        cases b with
        | true =>
          obtain ⟨rfl, ur2, rfl⟩ := hb1 rfl
          obtain ⟨a, s', rfl⟩ : ∃ a s', ur = [a, s'] := by
            match ur, ur2 with
            | [a, s'], _ => exact ⟨a, s', rfl⟩
          have small := ky.small s' (by simp)
          refine iteT ⟨_, rfl, .inl ⟨rfl, _, SqL.of (s5 _ _ mp)⟩, _, rfl, lw, _, 1, _, rfl, rfl, SqL.of m5, atI_int (by decide) rfl, _, rfl, lw, _, 2, _, rfl, rfl, SqL.of m5, atI_int (by decide) rfl, s', rfl, by omega, fun H7 s7 => ?_⟩
          refine ⟨by show 2 ≤ sizeLine; decide, fun c nc => ?_⟩
          obtain ⟨s8, m8⟩ := fresh2 (o := .tup [.str a, optV (numW s')]) nc
          have s58 := (s5.trans s7).trans s8
          have mp8 := s58 _ _ mp
          have mt8 := s58 _ _ mt
          refine ⟨lp, _, _, rfl, rfl, mp8, small1000 (by omega), ?_⟩
          have nc5 : H5 c = none := none_of (s5.trans s7) nc
          have ncp : c ≠ lp := fun e => by
            rw [e, mp] at nc5
            cases nc5
          have nct : c ≠ lt := fun e => by
            rw [e, mt] at nc5
            cases nc5
          have sD : Same (Nw2 H H5 lp lt) (Nw2 H (upd (upd H7 c (.tup [.str a, optV (numW s')])) lp (.lst (xs ++ [.ref c]))) lp lt) := fun b o e => by
            obtain ⟨e1, e2, e3, e4⟩ := nw2_get e
            refine nw2_at e1 e2 e3 ?_
            rw [upd_ne e2]
            exact s58 _ _ e4
          refine ⟨xs ++ [.ref c], [], _, _, ps ++ [perD a s'], es, rfl, fun b o e => ?_, ?_, upd_same, ?_, ?_, Dx.sameAll sD _ _ dt, newP a s' rfl (yse.mp rfl)⟩
          · rw [upd_ne (ne_of_none e np)]
            exact s58 _ _ (s4 _ _ e)
          · rw [upd_ne np3]
            exact s58 _ _ m4
          · rw [upd_ne nlt]
            exact mt8
          · refine dxall_snoc (Dx.sameAll sD _ _ dp) (.tup (nw2_at nct ncp (none_of s4 nc5) ?_) (.cons (.str _) (.cons (optV_dx _) .nil)))
            rw [upd_ne ncp]
            exact m8
        | false =>
          have nP := hb0 rfl
          refine iteF ?_
          refine ⟨fun b H' => H' = H7 ∧ (b = true → u0 = Str.ofString "tie" ∧ 4 ≤ ur.length ∧ ur.length % 2 = 0) ∧ (b = false → ¬ (u0 = Str.ofString "tie" ∧ 4 ≤ ur.length ∧ ur.length % 2 = 0)), ?_, ?_⟩
          · refine ⟨_, rfl, lw, _, 0, _, rfl, rfl, SqL.of m5, atI_int (by decide) rfl, rfl, _, rfl, ?_⟩
            by_cases c0 : u0 = Str.ofString "tie"
            · rw [decide_eq_true (by rw [c0])]
              refine iteT ⟨_, rfl, lw, _, rfl, .inl (SqL.of m5), _, _, rfl, rfl, _, rfl, ?_⟩
              by_cases c1 : 4 ≤ ur.length
              · rw [decide_eq_true (by rw [List.length_map, List.length_cons]; omega)]
                refine iteT ⟨_, rfl, lw, _, rfl, .inl (SqL.of m5), _, _, rfl, rfl, (show (0 : Int) < 2 by decide), rfl, _, rfl, ?_⟩
                by_cases c2 : ur.length % 2 = 0
                · rw [decide_eq_true (by rw [List.length_map, List.length_cons]; exact congrArg V.int (by omega))]
                  exact ⟨rfl, fun _ => ⟨c0, c1, c2⟩, fun h => by cases h⟩
                · rw [decide_eq_false fun e => c2 (by have := V.int.inj e; rw [List.length_map, List.length_cons] at this; omega)]
                  exact ⟨rfl, fun h => (by cases h), fun _ h => c2 h.2.2⟩
              · rw [decide_eq_false (by rw [List.length_map, List.length_cons]; omega)]
                exact iteF ⟨rfl, fun h => (by cases h), fun _ h => c1 h.2.1⟩
            · rw [decide_eq_false fun e => c0 (V.str.inj e)]
              exact iteF ⟨rfl, fun h => (by cases h), fun _ h => c0 h.1⟩
          rintro b H8 ⟨rfl, hb1, hb0⟩
          cases b with
          | true =>
            obtain ⟨rfl, ur4, ur2⟩ := hb1 rfl
            obtain ⟨a, b, c, d, q, rfl⟩ : ∃ a b c d q, ur = a :: b :: c :: d :: q := by
              match ur, ur4 with
              | a :: b :: c :: d :: q, _ => exact ⟨a, b, c, d, q, rfl⟩
            have ql : q.length % 2 = 0 := by simp only [List.length_cons] at ur2; omega
            have qm := ky.many
            simp only [List.length_cons] at qm
            refine iteT ⟨_, rfl, .inl ⟨rfl, _, SqL.of (s5 _ _ mt)⟩, _, rfl, lw, _, a, b, c, d, q, rfl, m5, ql, by omega, fun x hx => by have := ky.small x (by rcases List.mem_cons.mp hx with rfl | hx <;> simp [*]); omega, fun x H7 s7 d7 => ?_⟩
            have s57 := s5.trans s7
            refine ⟨lt, _, _, rfl, rfl, s57 _ _ mt, small1000 (by omega), ?_⟩
            have sD : Same (Nw2 H H5 lp lt) (Nw2 H (upd H7 lt (.lst (ys ++ [x]))) lp lt) := fun b o e => by
              obtain ⟨e1, e2, e3, e4⟩ := nw2_get e
              refine nw2_at e1 e2 e3 ?_
              rw [upd_ne e1]
              exact s57 _ _ e4
            have sE : Same (Nw H8 H7) (Nw2 H (upd H7 lt (.lst (ys ++ [x]))) lp lt) := fun b o e => by
              obtain ⟨e1, e2⟩ := Nw.get e
              have e3 := none_of s5 e1
              have n1 : b ≠ lt := fun z => by
                rw [z, mt] at e3
                cases e3
              have n2 : b ≠ lp := fun z => by
                rw [z, mp] at e3
                cases e3
              refine nw2_at n1 n2 (none_of s4 e3) ?_
              rw [upd_ne n1]
              exact e2
            refine ⟨xs, ys ++ [x], _, _, ps, es ++ [tieD a b c d q], rfl, fun b o e => ?_, ?_, ?_, upd_same, Dx.sameAll sD _ _ dp, dxall_snoc (Dx.sameAll sD _ _ dt) (Dx.same sE _ _ d7), newT a b c d q rfl ql⟩
            · rw [upd_ne (ne_of_none e nt0)]
              exact s57 _ _ (s4 _ _ e)
            · rw [upd_ne nt3]
              exact s57 _ _ m4
            · rw [upd_ne nlt.symm]
              exact s57 _ _ mp
          | false =>
            exact iteF (neither (fun h => nP ⟨h.1, h.2.1, yse.mpr h.2.2⟩) (hb0 rfl) _ (s4.trans s5))
      · rintro σ H4 ⟨xs, ys, x3, x4, ps, es, rfl, s4, m4, mp, mt, dp, dt, st⟩
        rw [hlen] at st
        rcases st with ⟨st, _⟩ | ⟨_, st⟩
        · omega
        · exact ⟨xs, ys, x3, x4, ps, es, rfl, s4, mp, mt, dp, dt, st⟩
    rintro σ H4 ⟨xs, ys, x3, x4, ps, es, rfl, s4, mp, mt, dp, dt, cand⟩
    have er : decide (V.str (headS r) = V.str (Str.ofString "rounds")) = r := by
      cases r
      · exact decide_eq_false (fun e => absurd (V.str.inj e) (by decide +kernel))
      · exact decide_eq_true rfl
    obtain ⟨few1, few2⟩ := cand_few cand hP (fun x hx => Nat.le_trans (kz.small x hx) hz) (by have := kz.many; omega)
    have sN : Same (Nw2 H H4 lp lt) H4 := fun b o e => (nw2_get e).2.2.2
    have h1 := Dx.lst mp (Dx.sameAll sN _ _ dp)
    have h2 := Dx.lst mt (Dx.sameAll sN _ _ dt)
    refine ⟨_, rfl, _, rfl, _, rfl, l, _, 0, _, rfl, rfl, SqL.of (s4 _ _ hl), atI_int (by decide) rfl, rfl, rfl, rfl, fun x dx nx ndx ne => ?_⟩
    rw [er]
    have sx : Same H4 (Off x (upd (upd H4 dx (.own x)) x (.ins C dx []))) := fun b o eb => by
      have b1 := ne_of_none eb nx
      have b2 := ne_of_none eb ndx
      exact Off.at b1 (by rw [upd_ne b1, upd_ne b2]; exact eb)
    by_cases hN : ∃ fs' ts', Nxt r fs ts ws fs' ts'
    · obtain ⟨fs', ts', N⟩ := hN
      obtain ⟨rfl, rfl⟩ := nxt_cand cand N
      exact .inl (init_new nx ndx h1 (.inl h2) N.1 fun H5 s5 W5 => q1 fs' ts' x H5 N (s4.trans s5) (WebAt.same W5 (Nw.base s4)))
    · rcases web_total r ps es with ⟨fs', ts', e1, e2, S⟩ | ⟨wt, wo, bad⟩
      · exact absurd ⟨fs', ts', cand_nxt cand e1 e2 S⟩ hN
      · refine .inr ⟨x, dx, _, _, r, _, _, wt, wo, rfl, upd_same, Dx.same sx _ _ h1, Dx.same sx _ _ h2, few1, few2, bad, fun y H' H'' s' nx' => ?_⟩
        obtain ⟨_, hd, s2⟩ := nx'
        have s02 : Same H4 H'' := fun b o e => s2 _ _ (Off.same _ _ (s' _ _ (sx _ _ e)))
        refine ⟨true, R_NoWeb.ex, fun _ _ _ => q2 _ (fun fs' ts' N => hN ⟨fs', ts', N⟩) (s4.trans s02), fun z => Bool.noConfusion z⟩
end
end Cw
namespace Cw
open PySem PySem.Spec PyProof.Rows L2
theorem cut_last (xs : List V) : cutV xs none (some (-1)) = xs.dropLast := by
  have e1 : HT.sIx xs.length 0 none = 0 := rfl
  have e2 : HT.sIx xs.length xs.length (some (-1)) = xs.length - 1 := by
    show (if (-1 : Int) < 0 then ((-1 : Int) + (xs.length : Int)).toNat else min (-1 : Int).toNat xs.length) = _
    rw [if_pos (by decide)]
    omega
  unfold cutV
  rw [e1, e2, List.drop_zero, Nat.sub_zero, List.dropLast_eq_take]
theorem txS_join (rows : List Str) : Txt.join (Str.ofString "\n") (rows ++ [Str.ofString ""]) = txS rows := by
  apply TL.ext_tl
  rw [TL.join_eq, TL.tl_join, tl_txS, List.map_append, show TL.tl (Str.ofString "\n") = [10] from by decide +kernel, show [Str.ofString ""].map TL.tl = [[]] from by decide +kernel, joinL_feed]
  unfold txL
  rw [List.flatMap_map]
theorem nxt_rows {r : Bool} {fs fs' : List (Str × Int)} {ts ts' : List Tie} {y : Str} (N : Nxt r fs ts (Txt.split y (Str.ofString " ")) fs' ts') : (fs.map rowP ++ ts.map rowT) ++ [y] = fs'.map rowP ++ ts'.map rowT := by
  have j := (cut_blank y).join
  rcases N.2 with ⟨f, e, rfl, rfl, rfl⟩ | ⟨t, e, rfl, rfl⟩
  · rw [e] at j
    have : rowP f = y := j
    rw [← this]
    simp
  · rw [e] at j
    have : rowT t = y := j
    rw [← this]
    simp
section
variable {P : Program} {w : World} {K : PySem.W.Frag} {mg : Str → Option Value} {base : Heap} {C NT : Addr}
def spRead (C NT : Addr) : Sp := fun vs H Q E => ∃ (v : V) (d : PyData), vs = [v] ∧ Dx H v d ∧ (∀ z, d = .str z → z.length ≤ 600000) ∧
  ((∀ z, d ≠ .str z) → ∀ x H' H'', Same H H' → NewX "row" (.int 0) H' x H'' → E (.ref NT) (some x) H'') ∧
  ∀ z, d = .str z → (∀ k : Nat, dueF (Txt.split z (Str.ofString "\n")) = some k → ∀ x H' H'', Same H H' → NewX "row" (.int k) H' x H'' → E (.ref NT) (some x) H'') ∧
    (dueF (Txt.split z (Str.ofString "\n")) = none → ∀ r fs ts a H', Specs r fs ts → z = txS (rowsS r fs ts) → Same H H' → WebAt C (Nw H H') a r fs ts → Q (.ref a) H')
theorem ok_read {f : Addr} {fd : FuncData} (F : FnP K "read_web" "read_web" S_read_web f fd) {aHD : Addr} (R_NoText : Rz P w K mg base "NoText" "row" NT) (gHD : mg "HEADS" = some (.ref aHD)) (hHD : ∀ H : Hp, SqT K H aHD [.str (Str.ofString "cries"), .str (Str.ofString "rounds")]) (H_web_in : Has P w K mg base "web_in" S_web_in 7 P_web_in (spWebIn C)) (B : Blt mg) : FnOk P w K mg base (L2.CX P w) 8 f fd P_read_web (spRead C NT) := by
  obtain ⟨f_web_in, fd_web_in, F_web_in, b_web_in, G_web_in, g_web_in⟩ := H_web_in
  have nd := sc_read_web.nd
  refine F.ok sc_read_web (fun vs H Q E h => ?_) (fun cdv A outer s H vs Q E hr h => ⟨_, (pss_cons (ps_if (pt_not (pt_val (pe_callB call_isi (by rfl) B.isinstance_ (by decide +kernel) (pa_cons (pv 0) (pa_cons (pe_bltn (v := .ty "str") (u := .type "str") (by rfl) B.str_ (by decide +kernel) rfl) pa_nil))))) (pss_one (ps_raise1 rfl (takes_of rfl rfl rfl rfl) R_NoText (hr.mono (by first | decide | omega)) rfl pe_int)) pss_nil)
     (pss_cons (ps_set (i := 1) nd rfl (.inl rfl) (pe_split (pv 0) pe_str))
     (pss_cons (ps_set (i := 2) nd rfl (.inl rfl) (pe_slice sl_list (pv 1) po_none (po_some (pe_un un_neg pe_int))))
     (pss_cons (ps_set (i := 3) nd rfl (.inl rfl) (pe_ix ix_list (pv 1) (pe_un un_neg pe_int) (fun _ _ => rfl)))
     (C8.pss_cut (ps_if (PW.pt (pw_and (pt_truth (pv 2) (fun _ => rfl)) (pw_and1 (pt_cmpR op_notIn_seq (pe_ix ix_list (pv 2) pe_int (fun _ _ => rfl)) (pe_glob (v := .ref aHD) rfl gHD rfl) (by rfl))))) (pss_one (ps_raise1 rfl (takes_of rfl rfl rfl rfl) R_NoText (hr.mono (by first | decide | omega)) rfl pe_int)) pss_nil)
     (pss_cons (ps_set (i := 4) nd rfl (.inl rfl) pe_non)
     (C8.pss_cut (ps_for (passes_of rfl) rfl (pi_range2 rfl B.range_ (pa_cons pe_int (pa_cons (pe_op op_add (pe_callB call_len_seq (by rfl) B.len_ PySem.boot_len (pa_cons (pv 2) pa_nil)) pe_int) pa_nil))) (pg_name (i := 5) nd rfl (.inl rfl))
      (pss_cons (ps_set (i := 4) nd rfl (.inl rfl) (pe_call G_web_in (hr.mono (by first | decide | omega)) rfl g_web_in F_web_in.kp b_web_in .nil pass0 (pa_cons (pe_slice sl_list (pv 2) po_none (po_some (pv 5))) pa_nil)))
     (pss_one (ps_if (pt_cmpR op_isN (pv 4) pe_non (nomark _)) (pss_one (ps_raise1 rfl (takes_of rfl rfl rfl rfl) R_NoText (hr.mono (by first | decide | omega)) rfl (pv 5))) pss_nil))))
     (C8.pss_cut (ps_if (PW.pt (pw_or (pt_cmpR op_isN (pv 4) pe_non (nomark _)) (pw_or1 (pt_cmpR op_ne (pv 3) pe_str (nomark _))))) (pss_one (ps_raise1 rfl (takes_of rfl rfl rfl rfl) R_NoText (hr.mono (by first | decide | omega)) rfl (pe_op op_add (pe_callB call_len_seq (by rfl) B.len_ PySem.boot_len (pa_cons (pv 2) pa_nil)) pe_int))) pss_nil)
     (pss_one (ps_ret (pv 4))))))))))), ?_⟩)
  · obtain ⟨v, d, rfl, _⟩ := h
    rfl
  · obtain ⟨v, d, rfl, hd, hz, q0, q1⟩ := h
    rw [show L2.start N_read_web [v] = [some v, none, none, none, none, none] from rfl]
    refine ⟨_, rfl, _, _, _, _, _, rfl, .ty _, th_ty (.dx hd), kit_ty (kt_str d), _, rfl, ?_⟩
    by_cases hs : ∃ z, d = .str z
    case neg =>
      have nz : ∀ z, d ≠ .str z := fun z e => hs ⟨z, e⟩
      cases d with
      | str z => exact absurd rfl (nz z)
      | _ => exact iteT fun x H2 nx => q0 (fun z e => by cases e) x _ H2 (fun _ _ e => e) nx
    obtain ⟨z, rfl⟩ := hs
    cases hd
    have hz := hz z rfl
    obtain ⟨qe, qg⟩ := q1 z rfl
    refine iteF ?_
    refine ⟨_, rfl, ⟨_, rfl⟩, _, _, rfl, rfl, by decide +kernel, by rw [sizeLine_eq]; omega, fun lq nq => ?_⟩
    have kz := cut_feed z
    generalize hps : Txt.split z (Str.ofString "\n") = ps at kz qe qg ⊢
    obtain ⟨R, un, rfl⟩ : ∃ R un, ps = R ++ [un] := ⟨ps.dropLast, ps.getLast kz.ne, (List.dropLast_concat_getLast kz.ne).symm⟩
    have lr := kz.many
    rw [List.length_append] at lr
    simp only [List.length_cons, List.length_nil] at lr
    obtain ⟨s1, m1⟩ := fresh2 (o := .lst ((R ++ [un]).map V.str)) nq
    generalize upd H lq (.lst ((R ++ [un]).map V.str)) = H1 at s1 m1 ⊢
    refine ⟨_, rfl, _, rfl, -1, rfl, lq, _, rfl, SqL.of m1, fun l n2 => ?_⟩
    rw [cut_last, List.map_append, show List.map V.str [un] = [V.str un] from rfl, List.dropLast_concat]
    obtain ⟨s2, m2⟩ := fresh2 (o := .lst (R.map V.str)) n2
    have s02 := s1.trans s2
    have m12 := s2 _ _ m1
    generalize upd H1 l (.lst (R.map V.str)) = H2 at s2 m2 s02 m12 ⊢
    rw [List.map_append, show List.map V.str [un] = [V.str un] from rfl] at m12
    have at1 : atI (R.map V.str ++ [V.str un]) (-1) = some (V.str un) := atI_last _ _
    refine ⟨_, rfl, _, rfl, lq, _, -1, _, rfl, rfl, SqL.of m12, at1, ?_⟩
    simp only [List.set]
    refine ⟨fun σ H' => H' = H2 ∧ σ = [some (V.str z), some (V.ref lq), some (V.ref l), some (V.str un), none, none] ∧ (R = [] ∨ ∃ r R', R = headS r :: R'), ?_, ?_⟩
    · cases R with
      | nil => exact ⟨_, rfl, false, .inl ⟨_, SqL.of m2, rfl⟩, iteF (iteF ⟨rfl, rfl, .inl rfl⟩)⟩
      | cons x R' =>
        refine ⟨_, rfl, true, .inl ⟨_, SqL.of m2, rfl⟩, iteT ⟨_, rfl, l, _, 0, _, rfl, rfl, SqL.of m2, atI_int (by decide) rfl, aHD, _, rfl, .inr (hHD _), rfl, rfl, _, rfl, ?_⟩⟩
        by_cases hx : headOk x
        · have hx' : ∃ r, x = headS r := by
            rcases hx with rfl | rfl
            · exact ⟨false, rfl⟩
            · exact ⟨true, rfl⟩
          obtain ⟨r, rfl⟩ := hx'
          rw [show (if true = true then !inV (V.str (headS r)) [V.str (Str.ofString "cries"), V.str (Str.ofString "rounds")] else inV (V.str (headS r)) [V.str (Str.ofString "cries"), V.str (Str.ofString "rounds")]) = false from by cases r <;> decide +kernel]
          exact iteF ⟨rfl, rfl, .inr ⟨r, R', rfl⟩⟩
        · have h1 : x ≠ Str.ofString "cries" := fun e => hx (.inl e)
          have h2 : x ≠ Str.ofString "rounds" := fun e => hx (.inr e)
          have e : inV (V.str x) [V.str (Str.ofString "cries"), V.str (Str.ofString "rounds")] = false := by
            simp [inV, eqV, Ne.symm h1, Ne.symm h2]
          rw [e]
          exact iteT fun y H3 nx => qe 1 (dueF_bad hx) y _ H3 s02 nx
    rintro σ H' ⟨rfl, rfl, hR⟩
    rcases hR with rfl | ⟨r, R', rfl⟩
    · refine ⟨fun σ H4 => H4 = H' ∧ ∃ x5, σ = [some (V.str z), some (V.ref lq), some (V.ref l), some (V.str un), some .non, x5], ?_, ?_⟩
      · refine ⟨_, rfl, l, _, rfl, .inl (SqL.of m2), _, _, rfl, rfl, 2, 1, rfl, by decide, ?_⟩
        refine for_it (walk_range (lo := 2) (n := 0)) (fun i σ H4 => H4 = H' ∧ ∃ x5, σ = [some (V.str z), some (V.ref lq), some (V.ref l), some (V.str un), some .non, x5]) ⟨rfl, none, rfl⟩ (fun _ _ _ _ _ => trivial) (fun i x σ H4 H5 hi => absurd hi (Nat.not_lt_zero _)) fun σ H4 h => h
      · rintro σ H4 ⟨rfl, x5, rfl⟩
        exact ⟨fun _ _ => False, ⟨_, rfl, rfl, _, rfl, iteT (iteT ⟨_, rfl, l, _, rfl, .inl (SqL.of m2), _, _, rfl, rfl, fun y H3 nx => qe 1 (dueF_nil un) y _ H3 s02 nx⟩)⟩, fun _ _ h => h.elim⟩
    have hrun0 : ∀ k, runF r (R'.map fun y => Txt.split y (Str.ofString " ")) [] [] 1 = .inl k → dueF (headS r :: R' ++ [un]) = some k := fun k h => dueF_inl h
    have ll : (((headS r :: R').map V.str).length : Nat) = R'.length + 1 := by rw [List.length_map, List.length_cons]
    have lr' : R'.length ≤ 600000 := by
      rw [List.length_cons] at lr
      omega
    have zr : ∀ x ∈ R', x.length ≤ 600000 := fun x hx => Nat.le_trans (kz.small x (by simp [hx])) hz
    refine ⟨fun σ H4 => ∃ fs ts vw x5, σ = [some (V.str z), some (V.ref lq), some (V.ref l), some (V.str un), some vw, x5] ∧ Same H H4 ∧ H4 l = some (.lst ((headS r :: R').map V.str)) ∧ R' = fs.map rowP ++ ts.map rowT ∧ runF r (R'.map fun y => Txt.split y (Str.ofString " ")) [] [] 1 = .inr (fs, ts) ∧ ((fs = [] ∧ vw = .non) ∨ (Specs r fs ts ∧ ∃ a, vw = .ref a ∧ WebAt C (Nw H H4) a r fs ts)), ?_, ?_⟩
    · refine ⟨_, rfl, l, _, rfl, .inl (SqL.of m2), _, _, rfl, rfl, 2, ((R'.length + 1 : Nat) : Int) + 1, by rw [ll], by omega, ?_⟩
      rw [show (((R'.length + 1 : Nat) : Int) + 1 - 2).toNat = R'.length from by omega]
      refine for_it walk_range (fun i σ H4 => ∃ fs ts vw x5, σ = [some (V.str z), some (V.ref lq), some (V.ref l), some (V.str un), some vw, x5] ∧ Same H H4 ∧ H4 l = some (.lst ((headS r :: R').map V.str)) ∧ R'.take i = fs.map rowP ++ ts.map rowT ∧ Pre r fs ts ∧ runF r (R'.map fun y => Txt.split y (Str.ofString " ")) [] [] 1 = runF r ((R'.drop i).map fun y => Txt.split y (Str.ofString " ")) fs ts (1 + i) ∧ ((fs = [] ∧ vw = .non) ∨ (Specs r fs ts ∧ ∃ a, vw = .ref a ∧ WebAt C (Nw H H4) a r fs ts)))
        ⟨[], [], .non, none, rfl, s02, m2, rfl, .inl ⟨rfl, rfl⟩, rfl, .inl ⟨rfl, rfl⟩⟩ (fun _ _ _ _ _ => trivial) ?_ ?_
      · rintro i x σ H4 H5 hi ⟨fs, ts, vw, x5, rfl, s4, m4, tk, hP, hrun, _⟩ ⟨rfl, rfl⟩
        have hi' : i < R'.length := hi
        refine ⟨_, rfl, _, rfl, 2 + (i : Int), rfl, l, _, rfl, SqL.of m4, fun l5 n5 => ?_⟩
        have tk2 : R'.take (i + 1) = R'.take i ++ [R'[i]] := by rw [List.take_add_one, List.getElem?_eq_getElem hi']; rfl
        have ec : cutV ((headS r :: R').map V.str) none (some (2 + (i : Int))) = (rowsS r fs ts ++ [R'[i]]).map V.str := by
          rw [show (2 : Int) + (i : Int) = ((i + 1 + 1 : Nat) : Int) from by omega, cut_to, ← List.map_take, List.take_succ_cons, tk2, tk]
          rfl
        rw [ec]
        obtain ⟨s5, m5⟩ := fresh2 (o := .lst ((rowsS r fs ts ++ [R'[i]]).map V.str)) n5
        generalize upd H5 l5 (.lst ((rowsS r fs ts ++ [R'[i]]).map V.str)) = H6 at s5 m5 ⊢
        have dr : (R'.drop i).map (fun y => Txt.split y (Str.ofString " ")) = Txt.split R'[i] (Str.ofString " ") :: (R'.drop (i + 1)).map fun y => Txt.split y (Str.ofString " ") := by
          rw [List.drop_eq_getElem_cons hi', List.map_cons]
        refine ⟨l5, r, fs, ts, R'[i], rfl, m5, hP, zr _ (List.getElem_mem hi'), fun fs' ts' a H7 N s7 W7 => ?_, fun H7 nN s7 => ?_⟩
        · have s47 := s5.trans s7
          refine ⟨_, rfl, rfl, _, rfl, ?_⟩
          rw [decide_eq_false (fun e => by cases e)]
          refine iteF ⟨fs', ts', .ref a, _, rfl, s4.trans s47, s47 _ _ m4, ?_, .inr N.1, ?_, .inr ⟨N.1, a, rfl, WebAt.same W7 (Nw.base (s4.trans s5))⟩⟩
          · rw [tk2, tk, nxt_rows N]
          · rw [hrun, dr, run_step N, show 1 + i + 1 = 1 + (i + 1) from by omega]
        · have s47 := s5.trans s7
          refine ⟨_, rfl, rfl, _, rfl, ?_⟩
          rw [decide_eq_true (by rfl)]
          refine iteT ⟨_, rfl, fun y H8 nx => ?_⟩
          refine qe (1 + i + 1) (hrun0 _ ?_) y _ H8 (s4.trans s47) ?_
          · rw [hrun, dr, run_stop nN]
          · rw [show (((1 + i + 1 : Nat) : Nat) : Int) = 2 + (i : Int) from by omega]
            exact nx
      · rintro σ H4 ⟨fs, ts, vw, x5, rfl, s4, m4, tk, hP, hrun, hw⟩
        rw [List.take_length] at tk
        rw [List.drop_length] at hrun
        exact ⟨fs, ts, vw, x5, rfl, s4, m4, tk, hrun, hw⟩
    rintro σ H4 ⟨fs, ts, vw, x5, rfl, s4, m4, tk, hrun, hw⟩
    have fin : ∀ (h : fs = [] ∨ un ≠ Str.ofString ""), ∀ y H3, NewX "row" (.int (((((headS r :: R').map V.str).length : Nat) : Int) + 1)) H4 y H3 → E (.ref NT) (some y) H3 := fun h y H3 nx => by
      refine qe (R'.length + 2) (dueF_end hrun h) y _ H3 s4 ?_
      rw [ll] at nx
      rw [show ((R'.length + 2 : Nat) : Int) = ((R'.length + 1 : Nat) : Int) + 1 from by omega]
      exact nx
    rcases hw with ⟨f0, rfl⟩ | ⟨SP, a, rfl, W⟩
    · exact ⟨fun _ _ => False, ⟨_, rfl, rfl, _, rfl, iteT (iteT ⟨_, rfl, l, _, rfl, .inl (SqL.of m4), _, _, rfl, rfl, fun y H3 nx => fin (.inl f0) y H3 nx⟩)⟩, fun _ _ h => h.elim⟩
    · refine ⟨fun σ H5 => H5 = H4 ∧ un = Str.ofString "" ∧ σ = [some (V.str z), some (V.ref lq), some (V.ref l), some (V.str un), some (.ref a), x5], ?_, ?_⟩
      · refine ⟨_, rfl, rfl, _, rfl, ?_⟩
        rw [decide_eq_false (fun e => by cases e)]
        refine iteF ⟨_, rfl, rfl, _, rfl, ?_⟩
        by_cases hu : un = Str.ofString ""
        · rw [decide_eq_true (by rw [hu])]
          exact iteF ⟨rfl, hu, rfl⟩
        · rw [decide_eq_false fun e => hu (V.str.inj e)]
          exact iteT ⟨_, rfl, l, _, rfl, .inl (SqL.of m4), _, _, rfl, rfl, fun y H3 nx => fin (.inr hu) y H3 nx⟩
      · rintro σ H5 ⟨rfl, hu, rfl⟩
        refine ⟨_, rfl, ?_⟩
        have fne : fs ≠ [] := fun e => by have := SP.f1; rw [e] at this; exact absurd this (by decide)
        refine qg (dueF_good hrun fne hu) r fs ts a _ SP ?_ s4 W
        have j := kz.join
        rw [hu, txS_join] at j
        rw [← j]
        show txS (headS r :: R') = txS (headS r :: (fs.map rowP ++ ts.map rowT))
        rw [tk]
end
end Cw
namespace Cw
open PySem PySem.Spec PyProof.Rows L2
/-- signs that the law's texts are made of -/
def Asc (z : Str) : Prop := ∀ c ∈ TL.tl z, c < 128
theorem isdigit_sign {c : Nat} (h : c < 128) : Unicode.isDigit c = (decide (48 ≤ c) && decide (c ≤ 57)) := by
  have k : ∀ n : Fin 128, Unicode.isDigit n.val = (decide (48 ≤ n.val) && decide (n.val ≤ 57)) := by decide +kernel
  exact k ⟨c, h⟩
theorem dig_lt : ∀ (l : List Nat) (acc : Nat), (∀ c ∈ l, c ≤ 57) → l.foldl (fun acc c => acc * 10 + (c - 48)) acc < (acc + 1) * 10 ^ l.length
  | [], acc, _ => by simp
  | c :: r, acc, h => by
    have ih := dig_lt r (acc * 10 + (c - 48)) fun d hd => h d (List.mem_cons_of_mem _ hd)
    have hc := h c List.mem_cons_self
    rw [List.foldl_cons, List.length_cons, Nat.pow_succ]
    refine Nat.lt_of_lt_of_le ih ?_
    have : acc * 10 + (c - 48) + 1 ≤ (acc + 1) * 10 := by omega
    calc (acc * 10 + (c - 48) + 1) * 10 ^ r.length ≤ ((acc + 1) * 10) * 10 ^ r.length := Nat.mul_le_mul_right _ this
      _ = (acc + 1) * (10 ^ r.length * 10) := by rw [Nat.mul_assoc, Nat.mul_comm 10]
theorem all_sign : ∀ l : List Nat, (∀ c ∈ l, c < 128) → l.all Unicode.isDigit = l.all fun c => decide (48 ≤ c) && decide (c ≤ 57)
  | [], _ => rfl
  | c :: r, h => by
    rw [List.all_cons, List.all_cons, isdigit_sign (h c List.mem_cons_self), all_sign r fun d hd => h d (List.mem_cons_of_mem _ hd)]
section
variable {P : Program} {w : World} {K : PySem.W.Frag} {mg : Str → Option Value} {base : Heap} {C NT : Addr}
noncomputable def lnum (z : Str) : V := optV (if z.length ≤ 60 then numW z else none)
def spLNum : Sp := fun vs H Q _ => ∃ z : Str, vs = [.str z] ∧ z.length ≤ 1000000 ∧ Asc z ∧ ∀ H', Same H H' → Q (lnum z) H'
theorem ok_lnum {f : Addr} {fd : FuncData} (F : FnP K "_law_number" "_law_number" S_number f fd) (B : Blt mg) : FnOk P w K mg base CX0 1 f fd P_number spLNum := by
  have nd := sc_number.nd
  refine F.ok sc_number (fun vs H Q E h => ?_) (fun cdv A outer s H vs Q E hr h => ⟨_, PSs.nox (C8.pss_cut (ps_if (PW.pt (pw_or (pt_cmpR op_eq (pv 0) pe_str (nomark _)) (pw_or (pt_cmpR op_gt (pe_callB call_len_str (by rfl) B.len_ PySem.boot_len (pa_cons (pv 0) pa_nil)) pe_int (nomark _)) (pw_or (pt_not (pt_val (pe_bm0 PySem.F.plainAttrs_str PySem.F.slot_str_isdigit PySem.F.type_str_isdigit mt_isdigit (pv 0)))) (pw_or1 (pt_cmpR op_ne (pe_callTy call_str_int (by rfl) B.str_ (by decide +kernel) (pa_cons (pe_callTy call_int_str (by rfl) B.int_ (by decide +kernel) (pa_cons (pv 0) pa_nil)) pa_nil)) (pv 0) (nomark _))))))) (pss_one (ps_ret pe_non)) pss_nil)
     (pss_one (ps_ret (pe_callTy call_int_str (by rfl) B.int_ (by decide +kernel) (pa_cons (pv 0) pa_nil))))), ?_⟩)
  · obtain ⟨z, rfl, _⟩ := h
    rfl
  · obtain ⟨z, rfl, hz, ha, q⟩ := h
    rw [show L2.start N_number [V.str z] = [some (V.str z)] from rfl]
    have z0 : z = Str.ofString "" ↔ TL.tl z = [] := ⟨fun e => by rw [e]; decide +kernel, fun e => TL.ext_tl (by rw [e]; decide +kernel)⟩
    have no : ¬ (z.length ≤ 60 ∧ ∃ n, numW z = some n) → ∀ H', Same H H' → Q .non H' := fun c H' s => by
      have := q H' s
      unfold lnum at this
      by_cases l : z.length ≤ 60
      · rw [if_pos l] at this
        cases e : numW z with
        | none => rw [e] at this; exact this
        | some n => exact absurd ⟨l, n, e⟩ c
      · rw [if_neg l] at this
        exact this
    have dg : ∀ n, numW z = some n → TL.tl z ≠ [] ∧ digL (TL.tl z) = true := fun n e => by
      unfold numW at e
      split at e
      · rename_i c
        exact ⟨c.1, c.2.1⟩
      · cases e
    refine ⟨fun σ H' => H' = H ∧ σ = [some (V.str z)] ∧ z.length ≤ 60 ∧ ∃ n : Nat, numW z = some (n : Int) ∧ intText? z = some (n : Int), ?_, ?_⟩
    · refine ⟨_, rfl, rfl, _, rfl, ?_⟩
      by_cases c0 : z = Str.ofString ""
      · rw [decide_eq_true (by rw [c0])]
        exact iteT (no (fun ⟨_, n, e⟩ => (dg n e).1 (z0.mp c0)) _ fun _ _ e => e)
      rw [decide_eq_false fun e => c0 (V.str.inj e)]
      have ne : TL.tl z ≠ [] := fun e => c0 (z0.mpr e)
      refine iteF ⟨_, rfl, z, rfl, by rw [sizeLine_eq]; omega, _, _, rfl, rfl, _, rfl, ?_⟩
      by_cases c1 : (60 : Int) < (z.length : Int)
      · rw [decide_eq_true c1]
        exact iteT (no (fun ⟨l, _⟩ => by omega) _ fun _ _ e => e)
      rw [decide_eq_false c1]
      have l60 : z.length ≤ 60 := by omega
      have di : Txt.isdigit z = digL (TL.tl z) := by
        unfold Txt.isdigit
        have h1 : decide (z.length > 0) = true := decide_eq_true (by rw [TL.len_tl]; exact List.length_pos_iff.mpr ne)
        rw [h1, Bool.true_and]
        unfold digL
        rw [← Array.all_toList]
        show (TL.tl z).all _ = (TL.tl z).all _
        exact all_sign _ ha
      refine iteF ⟨_, rfl, rfl, z, rfl, rfl, trivial, _, rfl, ?_⟩
      rw [di]
      cases hd : digL (TL.tl z) with
      | false => exact iteT (no (fun ⟨_, n, e⟩ => by rw [hd] at dg; cases (dg n e).2) _ fun _ _ e => e)
      | true =>
        have it := intText_digits (x := z) (digL_mem.mp hd) ne (by omega)
        have lt := dig_lt z.cps.toList 0 fun c hc => (digL_mem.mp hd c hc).2
        have lt60 : NumText.digitsVal z.cps.toList < 10 ^ 60 := by
          refine Nat.lt_of_lt_of_le lt ?_
          rw [Nat.zero_add, Nat.one_mul]
          exact Nat.pow_le_pow_right (by decide) (by rw [Array.length_toList]; exact l60)
        generalize hv : (NumText.digitsVal z.cps.toList) = n at it lt60
        have lg : ((n : Nat) : Int).natAbs.log2 < 1920 := Nat.lt_of_lt_of_le (PySem.Flt.log2_lt_of (by decide) (show ((n : Nat) : Int).natAbs < 2 ^ 200 by
          have : (10 : Nat) ^ 60 ≤ 2 ^ 200 := by decide
          omega)) (by decide)
        refine iteF ⟨_, rfl, z, n, rfl, it, by omega, n, rfl, lg, _, rfl, rfl, _, rfl, ?_⟩
        by_cases c2 : numS (n : Int) = z
        · rw [show (!decide (V.str (Str.ofString (toString ((n : Nat) : Int))) = V.str z)) = false from by rw [decide_eq_true (by rw [← c2])]; rfl]
          exact iteF ⟨rfl, rfl, l60, n, by rw [← c2]; exact numW_num (by omega), it⟩
        · rw [show (!decide (V.str (Str.ofString (toString ((n : Nat) : Int))) = V.str z)) = true from by rw [decide_eq_false fun e => c2 (V.str.inj e)]; rfl]
          refine iteT (no (fun ⟨_, m, e⟩ => c2 ?_) _ fun _ _ e => e)
          obtain ⟨m0, em⟩ := numW_some e
          have l := l60
          rw [em, TL.len_tl, tl_numS m0] at l
          have h := TL.int_num (n := m.toNat) (by omega)
          rw [show ((m.toNat : Nat) : Int) = m from by omega] at h
          rw [em, show intText? (numS m) = some m from h] at it
          rw [em, Option.some.inj it]
    · rintro σ H' ⟨rfl, rfl, l60, n, e, it⟩
      refine ⟨_, rfl, z, n, rfl, it, by omega, ?_⟩
      have := q _ (fun _ _ e => e)
      unfold lnum at this
      rw [if_pos l60, e] at this
      exact this
end
end Cw
namespace Cw
open PySem PySem.Spec PyProof.Rows L2
theorem abc_range : (Str.ofString "abcdefghijklmnopqrstuvwxyz").cps.toList = List.range' 97 26 := by decide +kernel
theorem abc_mem (c : Nat) : decide (c ∈ (Str.ofString "abcdefghijklmnopqrstuvwxyz").cps.toList) = chOk c := by
  rw [abc_range]
  unfold chOk
  exact decide_eq_decide.mpr (by rw [List.mem_range']; exact ⟨fun ⟨i, h, e⟩ => by omega, fun h => ⟨c - 97, by omega, by omega⟩⟩)
section
variable {P : Program} {w : World} {K : PySem.W.Frag} {mg : Str → Option Value} {base : Heap} {C NT : Addr}
def spLNameS : Sp := fun vs H Q _ => ∃ z : Str, vs = [.str z] ∧ z.length ≤ 1000000 ∧ ∀ H', Same H H' → Q (.bl (nameB (.str z))) H'
theorem ok_lnameS {f : Addr} {fd : FuncData} (F : FnP K "_law_is_name" "_law_is_name" S_l_is_name f fd) (B : Blt mg) : FnOk P w K mg base CX0 1 f fd P_l_is_name spLNameS := by
  have nd := sc_l_is_name.nd
  refine F.ok sc_l_is_name (fun vs H Q E h => ?_) (fun cdv A outer s H vs Q E hr h => ⟨_, PSs.nox (pss_one (ps_ret (pe_and (pe_chain op_le op_le pe_int (pe_callB call_len_str (by rfl) B.len_ PySem.boot_len (pa_cons (pv 0) pa_nil)) pe_int) (pe_one (pe_callB (cr_all rfl) (by rfl) B.all_ (by decide +kernel) (pa_cons (pe_lc (own := [("_law_sign", 1)]) (g := gName 1) rfl nd (pi_str (pv 0)) (blkOk_by (own := [("_law_sign", 1)]) (N := N_l_is_name) (sc := defScope S_l_is_name) (by decide +kernel)) (fun _ _ _ _ _ => (pg_name (i := 1) nd rfl (.inl rfl))) (fun _ _ _ _ _ => pts_nil) (fun _ _ _ _ _ => (pe_cmpR op_in_sign (pv 1) pe_str (by rfl)))) pa_nil)))))), ?_⟩)
  · obtain ⟨z, rfl, _⟩ := h
    rfl
  · obtain ⟨z, rfl, hz, q⟩ := h
    rw [show L2.start N_l_is_name [V.str z] = [some (V.str z), none] from rfl]
    have bad : ¬ (1 ≤ z.length ∧ z.length ≤ 8) → Q (.bl false) H := fun n => by
      have e : nameB (.str z) = false := by
        show (decide (1 ≤ z.length ∧ z.length ≤ 8) && _) = _
        rw [decide_eq_false n]
        rfl
      rw [e] at q
      exact q _ fun _ _ e => e
    refine ⟨_, rfl, z, rfl, by rw [sizeLine_eq]; omega, _, _, rfl, rfl, _, rfl, ?_⟩
    by_cases z1 : (1 : Int) ≤ (z.length : Int)
    · rw [if_pos (decide_eq_true z1)]
      refine ⟨_, _, rfl, rfl, _, rfl, ?_⟩
      by_cases z8 : (z.length : Int) ≤ 8
      · rw [decide_eq_true z8]
        refine iteT ⟨_, rfl, _, rfl, fun D nD => ?_⟩
        refine lc_it (walk_str (z := z)) (fun i H2 => Same H (Off D H2) ∧ H2 D = some (.lst (((z.cps.toList.take i).map chOk).map V.bl))) ⟨fun b o e => Off.at (ne_of_none e nD) (same_new nD _ _ e), upd_same⟩ (fun _ _ _ _ => trivial) ?_ ?_
        · rintro i x H4 H5 hi ⟨sm4, hD⟩ ⟨rfl, c, hc, rfl⟩
          refine ⟨rfl, ?_⟩
          dsimp only [tYes]
          rw [if_pos rfl]
          have hi2 : i < z.length := hi
          have hc2 : z.cps.toList[i]? = some c := by
            rw [Array.getElem?_toList]
            exact hc
          refine ⟨_, rfl, c, _, rfl, rfl, ?_⟩
          rw [abc_mem]
          refine ⟨_, hD, by rw [List.length_map, List.length_map, List.length_take, sizeLine_eq]; omega, fun b' o e' => ?_, ?_⟩
          · have nb : b' ≠ D := ne_of_none e' nD
            exact Off.at nb (by rw [upd_ne nb]; exact Off.same _ _ (sm4 b' o e'))
          · rw [upd_same, List.take_add_one, hc2, List.map_append, List.map_append]
            rfl
        · rintro H2 ⟨sm2, hD⟩
          rw [List.take_of_length_le (by simp)] at hD
          refine ⟨D, _, rfl, SqL.of hD, ?_⟩
          have e : ((z.cps.toList.map chOk).all id) = nameB (.str z) := by
            show _ = (decide (1 ≤ z.length ∧ z.length ≤ 8) && z.cps.toList.all chOk)
            rw [decide_eq_true ⟨by omega, by omega⟩, Bool.true_and, List.all_map]
            rfl
          rw [e]
          exact q _ fun b o e => Off.same _ _ (sm2 b o e)
      · rw [decide_eq_false z8]
        exact iteF (bad fun h => by omega)
    · rw [decide_eq_false z1, if_neg Bool.false_ne_true]
      exact ⟨false, rfl, iteF (bad fun h => by omega)⟩
end
end Cw
namespace Cw
open PySem PySem.Spec PyProof.Rows L2
open scoped Classical
def seenKv (lp ln : Addr) (r : Bool) (ts : List Tie) : List (Key × V) := [(.inr (Str.ofString "persons"), .ref lp), (.inr (Str.ofString "names"), .ref ln), (.inr (Str.ofString "ties"), .int ts.length), (.inr (Str.ofString "told"), .int (told ts)), (.inr (Str.ofString "rounds"), .bl r)]
/-- what was seen of a web so far -/
structure SeenAt (H : Hp) (d lp ln : Addr) (r : Bool) (fs : List (Str × Int)) (ts : List Tie) : Prop where
  d : H d = some (.dK (seenKv lp ln r ts))
  p : H lp = some (.lst ((fs.map (·.1)).map V.str))
  n : H ln = some (.lst ((fs.map (·.1) ++ ts.map (·.nm)).map V.str))
theorem SeenAt.same {H H' : Hp} {d lp ln : Addr} {r : Bool} {fs : List (Str × Int)} {ts : List Tie} (S : SeenAt H d lp ln r fs ts) (k : Same H H') : SeenAt H' d lp ln r fs ts := ⟨k _ _ S.d, k _ _ S.p, k _ _ S.n⟩
theorem seen_get {H : Hp} {d lp ln : Addr} {r : Bool} {fs : List (Str × Int)} {ts : List Tie} (S : SeenAt H d lp ln r fs ts) : DGet H d (.str (Str.ofString "persons")) (some (.ref lp)) ∧ DGet H d (.str (Str.ofString "names")) (some (.ref ln)) ∧ DGet H d (.str (Str.ofString "ties")) (some (.int ts.length)) ∧ DGet H d (.str (Str.ofString "told")) (some (.int (told ts))) ∧ DGet H d (.str (Str.ofString "rounds")) (some (.bl r)) := by
  have g : ∀ (k : Str) (v : V), valV (seenKv lp ln r ts) (Sum.inr k) = some v → DGet H d (.str k) (some v) := fun k v e => by
    have := DGet.k (k := (Sum.inr k : Key)) S.d
    rw [e] at this
    exact this
  have n : ∀ {a b : Str}, a ≠ b → (Sum.inr a : Key) ≠ Sum.inr b := fun h e => h (Sum.inr.inj e)
  refine ⟨g _ _ (valV_pos rfl), g _ _ ?_, g _ _ ?_, g _ _ ?_, g _ _ ?_⟩
  · unfold seenKv
    rw [valV_neg (n (by decide +kernel)), valV_pos rfl]
  · unfold seenKv
    rw [valV_neg (n (by decide +kernel)), valV_neg (n (by decide +kernel)), valV_pos rfl]
  · unfold seenKv
    rw [valV_neg (n (by decide +kernel)), valV_neg (n (by decide +kernel)), valV_neg (n (by decide +kernel)), valV_pos rfl]
  · unfold seenKv
    rw [valV_neg (n (by decide +kernel)), valV_neg (n (by decide +kernel)), valV_neg (n (by decide +kernel)), valV_neg (n (by decide +kernel)), valV_pos rfl]
def perOk (ws : List Str) (fs : List (Str × Int)) (ts : List Tie) : Prop := ∃ w0 y s, ws = [w0, y, s] ∧ ts = [] ∧ fs.length ≠ 8 ∧ nameB (.str y) = true ∧ y ∉ fs.map (·.1) ∧ (s = Str.ofString "0" ∨ s = Str.ofString "1" ∨ s = Str.ofString "2")
structure WordsIn (H : Hp) (l : Addr) (ws : List Str) : Prop where
  l : H l = some (.lst (ws.map V.str))
  sm : ∀ x ∈ ws, x.length ≤ 600000
  mn : ws.length ≤ 600001
  asc : ∀ x ∈ ws, Asc x
  ne : ws ≠ []
section
variable {P : Program} {w : World} {K : PySem.W.Frag} {mg : Str → Option Value} {base : Heap} {C NT : Addr}
def spPFits : Sp := fun vs H Q _ => ∃ (l d lp ln : Addr) (ws : List Str) (r : Bool) (fs : List (Str × Int)) (ts : List Tie), vs = [.ref l, .ref d] ∧ WordsIn H l ws ∧ SeenAt H d lp ln r fs ts ∧ Pre r fs ts ∧ ∀ H', Same H H' → Q (.bl (decide (perOk ws fs ts))) H'
theorem ok_pfits {f : Addr} {fd : FuncData} (F : FnP K "_law_person_fits" "_law_person_fits" S_person_fits f fd) (H_l_is_name : Has P w K mg base "_law_is_name" S_l_is_name 1 P_l_is_name spLNameS) (B : Blt mg) : FnOk P w K mg base CX0 2 f fd P_person_fits spPFits := by
  obtain ⟨f_l_is_name, fd_l_is_name, F_l_is_name, b_l_is_name, G_l_is_name, g_l_is_name⟩ := H_l_is_name
  have nd := sc_person_fits.nd
  refine F.ok sc_person_fits (fun vs H Q E h => ?_) (fun cdv A outer s H vs Q E hr h => ⟨_, PSs.nox (C8.pss_cut (ps_if (PW.pt (pw_or (pt_cmpR op_ne (pe_callB call_len_seq (by rfl) B.len_ PySem.boot_len (pa_cons (pv 0) pa_nil)) pe_int (nomark _)) (pw_or (pt_cmpR op_gt (pe_dget (hu_of hr) (pv 1) pe_str (fun _ _ => rfl)) pe_int (nomark _)) (pw_or (pt_cmpR op_eq (pe_callB call_len_seq (by rfl) B.len_ PySem.boot_len (pa_cons (pe_dget (hu_of hr) (pv 1) pe_str (fun _ _ => rfl)) pa_nil)) pe_int (nomark _)) (pw_or1 (pt_not (pt_val (pe_call G_l_is_name (hr.mono (by first | decide | omega)) rfl g_l_is_name F_l_is_name.kp b_l_is_name .nil pass0 (pa_cons (pe_ix ix_list (pv 0) pe_int (fun _ _ => rfl)) pa_nil))))))))) (pss_one (ps_ret pe_bl)) pss_nil)
     (pss_one (ps_ret (pe_and (pe_cmpR op_notIn_seq (pe_ix ix_list (pv 0) pe_int (fun _ _ => rfl)) (pe_dget (hu_of hr) (pv 1) pe_str (fun _ _ => rfl)) (by rfl)) (pe_one (pe_cmpR op_in_seq (pe_ix ix_list (pv 0) pe_int (fun _ _ => rfl)) (pe_tup (pa_cons pe_str (pa_cons pe_str (pa_cons pe_str pa_nil)))) (by rfl))))))), ?_⟩)
  · obtain ⟨l, d, lp, ln, ws, r, fs, ts, rfl, _⟩ := h
    rfl
  · obtain ⟨l, d, lp, ln, ws, r, fs, ts, rfl, hw, hS, hP, q⟩ := h
    rw [show L2.start N_person_fits [V.ref l, V.ref d] = [some (V.ref l), some (V.ref d)] from rfl]
    have no : ¬ perOk ws fs ts → ∀ H', Same H H' → Q (.bl false) H' := fun n H' s => by
      have := q H' s
      rwa [decide_eq_false n] at this
    obtain ⟨gp, gn, gt, gc, gr⟩ := seen_get hS
    have S0 : Same H H := fun _ _ e => e
    have cont : ws.length = 3 → ts = [] → fs.length ≠ 8 → ∀ y, ws[1]? = some y → nameB (.str y) = true → True := fun _ _ _ _ _ _ => trivial
    refine ⟨fun σ H2 => ∃ w0 y s', ws = [w0, y, s'] ∧ ts = [] ∧ fs.length ≠ 8 ∧ nameB (.str y) = true ∧ Same H H2 ∧ σ = [some (V.ref l), some (V.ref d)], ?_, ?_⟩
    · refine ⟨_, rfl, l, _, rfl, .inl (SqL.of hw.l), rfl, _, rfl, ?_⟩
      by_cases c3 : ws.length = 3
      case neg =>
        rw [show (!decide (V.int ((ws.map V.str).length : Nat) = V.int 3)) = true from by rw [decide_eq_false fun e => c3 (by have := V.int.inj e; rw [List.length_map] at this; omega)]; rfl]
        exact iteT (no (fun ⟨_, _, _, e, _⟩ => c3 (by rw [e]; rfl)) _ S0)
      rw [show (!decide (V.int ((ws.map V.str).length : Nat) = V.int 3)) = false from by rw [decide_eq_true (by rw [List.length_map, c3]; rfl)]; rfl]
      obtain ⟨w0, y, s', rfl⟩ : ∃ w0 y s', ws = [w0, y, s'] := by
        match ws, c3 with
        | [a, b, c], _ => exact ⟨a, b, c, rfl⟩
      have ly := hw.sm y (by simp)
      refine iteF ⟨_, rfl, d, _, rfl, gt, _, _, rfl, rfl, _, rfl, ?_⟩
      by_cases ct : ts = []
      case neg =>
        have := List.length_pos_iff.mpr ct
        rw [decide_eq_true (by omega)]
        exact iteT (no (fun ⟨_, _, _, _, e, _⟩ => ct e) _ S0)
      subst ct
      rw [decide_eq_false (by decide)]
      refine iteF ⟨_, rfl, d, _, rfl, gp, lp, _, rfl, .inl (SqL.of hS.p), rfl, _, rfl, ?_⟩
      by_cases c8 : fs.length = 8
      · rw [decide_eq_true (by rw [List.length_map, List.length_map, c8]; rfl)]
        exact iteT (no (fun ⟨_, _, _, _, _, e, _⟩ => e c8) _ S0)
      rw [decide_eq_false fun e => c8 (by have := V.int.inj e; rw [List.length_map, List.length_map] at this; omega)]
      refine iteF ⟨_, rfl, l, _, 1, _, rfl, rfl, SqL.of hw.l, atI_int (by decide) rfl, y, rfl, by omega, fun H2 s2 => ⟨_, rfl, ?_⟩⟩
      cases hn : nameB (.str y) with
      | false => exact iteT (no (fun ⟨_, _, _, e, _, _, e2, _⟩ => by cases e; rw [hn] at e2; cases e2) _ s2)
      | true =>
        exact iteF ⟨w0, y, s', rfl, rfl, c8, hn, s2, rfl⟩
    rintro σ H2 ⟨w0, y, s', rfl, rfl, c8, hn, s2, rfl⟩
    have hS2 := hS.same s2
    refine ⟨_, rfl, l, _, 1, _, rfl, rfl, SqL.of (s2 _ _ hw.l), atI_int (by decide) rfl, _, rfl, d, _, rfl, (seen_get hS2).2.1, ln, _, rfl, .inl (SqL.of hS2.n), rfl, by simp [flatV], _, rfl, ?_⟩
    rw [if_pos rfl, inV_strs, List.map_nil, List.append_nil]
    by_cases ca : y ∈ fs.map (·.1)
    · rw [decide_eq_true ca]
      exact iteF (no (fun ⟨_, _, _, e, _, _, _, e2, _⟩ => by cases e; exact e2 ca) _ s2)
    rw [decide_eq_false ca]
    refine iteT ⟨_, rfl, l, _, 2, _, rfl, rfl, SqL.of (s2 _ _ hw.l), atI_int (by decide) rfl, by show 3 ≤ sizeLine; decide, fun t3 n3 => ?_⟩
    obtain ⟨s3, m3⟩ := fresh2 (o := .tup [.str (Str.ofString "0"), .str (Str.ofString "1"), .str (Str.ofString "2")]) n3
    refine ⟨t3, _, rfl, .inr (SqT.of m3), rfl, rfl, ?_⟩
    rw [if_neg Bool.false_ne_true, show ([V.str (Str.ofString "0"), V.str (Str.ofString "1"), V.str (Str.ofString "2")] : List V) = [Str.ofString "0", Str.ofString "1", Str.ofString "2"].map V.str from rfl, inV_strs]
    have := q _ (s2.trans s3)
    rw [show decide (s' ∈ [Str.ofString "0", Str.ofString "1", Str.ofString "2"]) = decide (perOk [w0, y, s'] fs []) from decide_eq_decide.mpr ⟨fun h => ⟨w0, y, s', rfl, rfl, c8, hn, ca, by simpa using h⟩, fun ⟨_, _, _, e, _, _, _, _, h⟩ => by cases e; simpa using h⟩]
    exact this
end
end Cw
namespace Cw
open PySem PySem.Spec PyProof.Rows L2
open scoped Classical
def tieOk (r : Bool) (ws : List Str) (fs : List (Str × Int)) (ts : List Tie) : Prop := ∃ t, ws.tail = (wordsT t).tail ∧ Good r (fs.map (·.1)) t ∧ t.nm ∉ fs.map (·.1) ++ ts.map (·.nm) ∧ ts.length ≠ 12 ∧ told ts + t.hs.length ≤ 12
noncomputable def lnO (z : Str) : Option Int := if z.length ≤ 60 then numW z else none
def flatH (hs : List (Int × Int)) : List Int := hs.flatMap fun h => [h.1, h.2]
theorem lnO_num {n : Int} (h0 : 0 ≤ n) (h : n ≤ 10 ^ 30) : lnO (numS n) = some n := by
  unfold lnO
  rw [if_pos (Nat.le_trans (len_numS h0 h).2 (by decide)), numW_num h0]
theorem lnO_some {z : Str} {n : Int} (h : lnO z = some n) : 0 ≤ n ∧ z = numS n := by
  unfold lnO at h
  split at h
  · exact numW_some h
  · cases h
theorem lnum_eq (z : Str) : lnum z = optV (lnO z) := rfl
theorem Good.hs30 {r : Bool} {ns : List Str} {t : Tie} (g : Good r ns t) : ∀ h ∈ t.hs, h.1 ≤ 10 ^ 30 ∧ h.2 ≤ 10 ^ 30 := fun h hh => by
  have := g.hr.at_ h hh
  have := g.at0
  omega
theorem tail_inj {r : Bool} {ns : List Str} {t u : Tie} (g : Good r ns t) (h0 : 0 ≤ u.len) (h1 : ∀ h ∈ u.hs, 0 ≤ h.1 ∧ 0 ≤ h.2) (e : (wordsT u).tail = (wordsT t).tail) : u = t := by
  have e1 := List.cons.inj (show u.nm :: u.one :: u.other :: numS u.len :: hsW u.hs = t.nm :: t.one :: t.other :: numS t.len :: hsW t.hs from e)
  have e2 := List.cons.inj e1.2
  have e3 := List.cons.inj e2.2
  have e4 := List.cons.inj e3.2
  have a4 := numS_inj h0 g.at0.1 e4.1
  have a5 := hsW_inj h1 g.hs0 e4.2
  cases u
  cases t
  simp only at e1 e2 e3 a4 a5
  rw [e1.1, e2.1, e3.1, a4, a5]
theorem tieOk_iff {r : Bool} {w0 : Str} {T : Tie} {fs : List (Str × Int)} {ts : List Tie} (h0 : 0 ≤ T.len) (h1 : ∀ h ∈ T.hs, 0 ≤ h.1 ∧ 0 ≤ h.2) : tieOk r (w0 :: (wordsT T).tail) fs ts ↔ Good r (fs.map (·.1)) T ∧ T.nm ∉ fs.map (·.1) ++ ts.map (·.nm) ∧ ts.length ≠ 12 ∧ told ts + T.hs.length ≤ 12 := by
  constructor
  · rintro ⟨t, e, g, rest⟩
    have := tail_inj g h0 h1 e
    subst this
    exact ⟨g, rest⟩
  · rintro ⟨g, rest⟩
    exact ⟨T, rfl, g, rest⟩
theorem hs_lnO : ∀ hs : List (Int × Int), (∀ h ∈ hs, 0 ≤ h.1 ∧ 0 ≤ h.2) → (∀ h ∈ hs, h.1 ≤ 10 ^ 30 ∧ h.2 ≤ 10 ^ 30) → (hsW hs).map lnO = (flatH hs).map some
  | [], _, _ => rfl
  | h :: t, a, b => by
    have a1 := a h List.mem_cons_self
    have b1 := b h List.mem_cons_self
    have ih := hs_lnO t (fun x hx => a x (List.mem_cons_of_mem _ hx)) (fun x hx => b x (List.mem_cons_of_mem _ hx))
    show lnO (numS h.1) :: lnO (numS h.2) :: (hsW t).map lnO = some h.1 :: some h.2 :: (flatH t).map some
    rw [lnO_num a1.1 b1.1, lnO_num a1.2 b1.2, ih]
theorem tieOk_words {r : Bool} {ws : List Str} {fs : List (Str × Int)} {ts : List Tie} (hne : ws ≠ []) (h : tieOk r ws fs ts) : 5 ≤ ws.length ∧ ws.length % 2 = 1 ∧ none ∉ (ws.drop 4).map lnO ∧ ts.length ≠ 12 ∧ ∀ y, ws[1]? = some y → nameB (.str y) = true := by
  obtain ⟨t, e, g, _, h12, _⟩ := h
  obtain ⟨w0, wr, rfl⟩ : ∃ w0 wr, ws = w0 :: wr := by
    cases ws with
    | nil => exact absurd rfl hne
    | cons a b => exact ⟨a, b, rfl⟩
  have e : wr = t.nm :: t.one :: t.other :: numS t.len :: hsW t.hs := e
  subst e
  refine ⟨by simp only [List.length_cons]; omega, by simp only [List.length_cons, hsW_len]; omega, ?_, h12, fun y hy => ?_⟩
  · show none ∉ lnO (numS t.len) :: (hsW t.hs).map lnO
    rw [lnO_num g.at0.1 g.at0.2, hs_lnO t.hs g.hs0 g.hs30]
    simp
  · cases hy
    exact of_name g.nm
theorem split_hs : ∀ q : List Str, q.length % 2 = 0 → none ∉ q.map lnO → ∃ hs, q = hsW hs ∧ (∀ h ∈ hs, 0 ≤ h.1 ∧ 0 ≤ h.2) ∧ q.map lnO = (flatH hs).map some
  | [], _, _ => ⟨[], rfl, (fun _ h => by cases h), rfl⟩
  | [a], h, _ => by cases h
  | a :: b :: q, h, n => by
    obtain ⟨hs, rfl, h0, h1⟩ := split_hs q (by simp only [List.length_cons] at h; omega) (fun z => n (List.mem_cons_of_mem _ (List.mem_cons_of_mem _ z)))
    cases ea : lnO a with
    | none => exact absurd (List.mem_map.mpr ⟨a, by simp, ea⟩) n
    | some x =>
      cases eb : lnO b with
      | none => exact absurd (List.mem_map.mpr ⟨b, by simp, eb⟩) n
      | some y =>
        obtain ⟨x0, rfl⟩ := lnO_some ea
        obtain ⟨y0, rfl⟩ := lnO_some eb
        refine ⟨(x, y) :: hs, rfl, fun h hh => ?_, ?_⟩
        · rcases List.mem_cons.mp hh with rfl | hh
          · exact ⟨x0, y0⟩
          · exact h0 h hh
        · show lnO (numS x) :: lnO (numS y) :: (hsW hs).map lnO = some x :: some y :: (flatH hs).map some
          rw [ea, eb, h1]
theorem every2_flat : ∀ hs : List (Int × Int), every2 (flatH hs) = hs.map (·.1) ∧ every2 ((flatH hs).drop 1) = hs.map (·.2)
  | [] => ⟨rfl, rfl⟩
  | [h] => ⟨rfl, rfl⟩
  | h :: g :: t => by
    have ih := every2_flat (g :: t)
    constructor
    · show h.1 :: every2 (flatH (g :: t)) = _
      rw [ih.1]
      rfl
    · show every2 (h.2 :: g.1 :: (flatH (g :: t)).drop 1) = _
      show h.2 :: every2 ((flatH (g :: t)).drop 1) = _
      rw [ih.2]
      rfl
theorem cut_24 (xs : List V) (h : 5 ≤ xs.length) : cutV xs (some 2) (some 4) = (xs.drop 2).take 2 := by
  unfold cutV
  rw [show (2 : Int) = ((2 : Nat) : Int) from rfl, show (4 : Int) = ((4 : Nat) : Int) from rfl, HT.sIx_nat, HT.sIx_nat, Nat.min_eq_left (by omega), Nat.min_eq_left (by omega)]
theorem zip_up : ∀ (ps : List Int) (lo n : Int), (((lo :: ps).zip (ps ++ [n])).all fun p => decide (p.1 < p.2)) = true ↔ (ps.Pairwise (· < ·) ∧ (∀ p ∈ ps, lo < p ∧ p < n) ∧ lo < n)
  | [], lo, n => by simp
  | p :: r, lo, n => by
    show (decide (lo < p) && ((p :: r).zip (r ++ [n])).all fun p => decide (p.1 < p.2)) = true ↔ _
    rw [Bool.and_eq_true, decide_eq_true_eq, zip_up r p n, List.pairwise_cons]
    constructor
    · rintro ⟨h1, h2, h3, h4⟩
      refine ⟨⟨fun q hq => (h3 q hq).1, h2⟩, fun q hq => ?_, by omega⟩
      rcases List.mem_cons.mp hq with rfl | hq
      · exact ⟨h1, h4⟩
      · have := h3 q hq
        omega
    · rintro ⟨⟨h1, h2⟩, h3, h4⟩
      have := h3 p List.mem_cons_self
      exact ⟨this.1, h2, fun q hq => ⟨h1 q hq, (h3 q (List.mem_cons_of_mem _ hq)).2⟩, this.2⟩
theorem hear_iff {n : Int} {hs : List (Int × Int)} : Hear n hs ↔ (hs.map (·.1)).Pairwise (· < ·) ∧ (∀ p ∈ hs.map (·.1), 0 < p ∧ p < n) ∧ ∀ s ∈ hs.map (·.2), s = 1 ∨ s = 2 := by
  constructor
  · intro h
    refine ⟨List.pairwise_map.mpr h.up, fun p hp => ?_, fun s hs => ?_⟩
    · obtain ⟨x, hx, rfl⟩ := List.mem_map.mp hp
      have := h.at_ x hx
      omega
    · obtain ⟨x, hx, rfl⟩ := List.mem_map.mp hs
      have := h.at_ x hx
      omega
  · rintro ⟨h1, h2, h3⟩
    refine ⟨List.pairwise_map.mp h1, fun h hh => ?_⟩
    have a := h2 _ (List.mem_map.mpr ⟨h, hh, rfl⟩)
    have b := h3 _ (List.mem_map.mpr ⟨h, hh, rfl⟩)
    omega
section
variable {P : Program} {w : World} {K : PySem.W.Frag} {mg : Str → Option Value} {base : Heap} {C NT : Addr}
def spTFits : Sp := fun vs H Q _ => ∃ (l d lp ln : Addr) (ws : List Str) (r : Bool) (fs : List (Str × Int)) (ts : List Tie), vs = [.ref l, .ref d] ∧ WordsIn H l ws ∧ SeenAt H d lp ln r fs ts ∧ Pre r fs ts ∧ ∀ H', Same H H' → Q (.bl (decide (tieOk r ws fs ts))) H'
theorem ok_tfits {f : Addr} {fd : FuncData} (F : FnP K "_law_tie_fits" "_law_tie_fits" S_tie_fits f fd) (H_number : Has P w K mg base "_law_number" S_number 1 P_number spLNum) (H_l_is_name : Has P w K mg base "_law_is_name" S_l_is_name 1 P_l_is_name spLNameS) (B : Blt mg) (mZip : mg "zip" = none) : FnOk P w K mg base CX0 2 f fd P_tie_fits spTFits := by
  obtain ⟨f_number, fd_number, F_number, b_number, G_number, g_number⟩ := H_number
  obtain ⟨f_l_is_name, fd_l_is_name, F_l_is_name, b_l_is_name, G_l_is_name, g_l_is_name⟩ := H_l_is_name
  have nd := sc_tie_fits.nd
  refine F.ok sc_tie_fits (fun vs H Q E h => ?_) (fun cdv A outer s H vs Q E hr h => ⟨_, PSs.nox (pss_cons (ps_setLc (i := 2) (own := [("_law_word", 6)]) (g := gName 6) rfl nd rfl rfl (by rfl) (pi_list (pe_slice sl_list (pv 0) (po_some pe_int) po_none)) (blkOk_by (own := [("_law_word", 6)]) (N := N_tie_fits) (sc := defScope S_tie_fits) (by decide +kernel)) (fun _ _ _ _ _ => (pg_name (i := 6) nd rfl (.inl rfl))) (fun _ _ _ _ _ => pts_nil) (fun _ _ _ _ _ => (pe_call G_number (hr.mono (by first | decide | omega)) rfl g_number F_number.kp b_number .nil pass0 (pa_cons (pv 6) pa_nil))))
     (C8.pss_cut (ps_if (PW.pt (pw_or (pt_cmpR op_lt (pe_callB call_len_seq (by rfl) B.len_ PySem.boot_len (pa_cons (pv 0) pa_nil)) pe_int (nomark _)) (pw_or (pt_cmpR op_eq (pe_op op_mod (pe_callB call_len_seq (by rfl) B.len_ PySem.boot_len (pa_cons (pv 0) pa_nil)) pe_int) pe_int (nomark _)) (pw_or (pt_cmpR op_in_seq pe_non (pv 2) (by rfl)) (pw_or (pt_cmpR op_eq (pe_dget (hu_of hr) (pv 1) pe_str (fun _ _ => rfl)) pe_int (nomark _)) (pw_or1 (pt_not (pt_val (pe_call G_l_is_name (hr.mono (by first | decide | omega)) rfl g_l_is_name F_l_is_name.kp b_l_is_name .nil pass0 (pa_cons (pe_ix ix_list (pv 0) pe_int (fun _ _ => rfl)) pa_nil)))))))))) (pss_one (ps_ret pe_bl)) pss_nil)
     (C8.pss_cut (ps_if (PW.pt (pw_or (pt_cmpR op_in_seq (pe_ix ix_list (pv 0) pe_int (fun _ _ => rfl)) (pe_dget (hu_of hr) (pv 1) pe_str (fun _ _ => rfl)) (by rfl)) (pw_or (pt_cmpR op_eq (pe_ix ix_list (pv 0) pe_int (fun _ _ => rfl)) (pe_ix ix_list (pv 0) pe_int (fun _ _ => rfl)) (nomark _)) (pw_or1 (pt_not (pt_val (pe_callB (cr_all rfl) (by rfl) B.all_ (by decide +kernel) (pa_cons (pe_lc (own := [("_law_one", 7)]) (g := gName 7) rfl nd (pi_list (pe_slice sl_list (pv 0) (po_some pe_int) (po_some pe_int))) (blkOk_by (own := [("_law_one", 7)]) (N := N_tie_fits) (sc := defScope S_tie_fits) (by decide +kernel)) (fun _ _ _ _ _ => (pg_name (i := 7) nd rfl (.inl rfl))) (fun _ _ _ _ _ => pts_nil) (fun _ _ _ _ _ => (pe_cmpR (op_in_seqK (K := K) rfl) (pv 7) (pe_dget (hu_of hr) (pv 1) pe_str (fun _ _ => rfl)) (by rfl)))) pa_nil)))))))) (pss_one (ps_ret pe_bl)) pss_nil)
     (pss_cons (ps_par3 (i := 3) (j := 4) (l := 5) (by rfl) nd rfl rfl rfl (by decide) (by decide) (by decide) rfl rfl rfl (pa_cons (pe_ix ix_list (pv 2) pe_int (fun _ _ => rfl)) (pa_cons (pe_step2 (lo := 1) (pv 2)) (pa_cons (pe_step2 (lo := 2) (pv 2)) pa_nil))) (by rfl))
     (C8.pss_cut (ps_if (pt_val (pe_dget (hu_of hr) (pv 1) pe_str (fun _ _ => rfl))) (pss_one (ps_ret (pe_cmpR (op_eqD hr.units) (pv 2) (pe_lst (pa_cons pe_int pa_nil)) (nomark _)))) pss_nil)
     (C8.pss_cut (ps_if (PW.pt (pw_or (pt_not (pt_chain op_le op_le pe_int (pv 3) (pe_op op_pow pe_int pe_int))) (pw_or (pt_cmpR op_gt (pe_op op_add (pe_dget (hu_of hr) (pv 1) pe_str (fun _ _ => rfl)) (pe_callB call_len_seq (by rfl) B.len_ PySem.boot_len (pa_cons (pv 4) pa_nil))) pe_int (nomark _)) (pw_or1 (pt_not (pt_val (pe_callB (cr_all rfl) (by rfl) B.all_ (by decide +kernel) (pa_cons (pe_lc (own := [("_law_one", 7)]) (g := gName 7) rfl nd (pi_list (pv 5)) (blkOk_by (own := [("_law_one", 7)]) (N := N_tie_fits) (sc := defScope S_tie_fits) (by decide +kernel)) (fun _ _ _ _ _ => (pg_name (i := 7) nd rfl (.inl rfl))) (fun _ _ _ _ _ => pts_nil) (fun _ _ _ _ _ => (pe_cmpR (op_in_seqK (K := K) rfl) (pv 7) (pe_tup (pa_cons pe_int (pa_cons pe_int pa_nil))) (by rfl)))) pa_nil)))))))) (pss_one (ps_ret pe_bl)) pss_nil)
     (pss_one (ps_ret (pe_callB (cr_all rfl) (by rfl) B.all_ (by decide +kernel) (pa_cons (pe_lc (own := [("_law_one", 7), ("_law_other", 8)]) (g := gTup K 2 (gCons (gName 7) (gCons (gName 8) gNil))) rfl nd (pi_zip (by rfl) mZip (pa_cons (pe_op op_cat (pe_lst (pa_cons pe_int pa_nil)) (pv 4)) (pa_cons (pe_op op_cat (pv 4) (pe_lst (pa_cons (pv 3) pa_nil))) pa_nil))) (blkOk_by (own := [("_law_one", 7), ("_law_other", 8)]) (N := N_tie_fits) (sc := defScope S_tie_fits) (by decide +kernel)) (fun _ _ _ _ _ => (pg_tup rfl (pgs_cons (pg_name (i := 7) nd rfl (.inl rfl)) (pgs_cons (pg_name (i := 8) nd rfl (.inl rfl)) pgs_nil)))) (fun _ _ _ _ _ => pts_nil) (fun _ _ _ _ _ => (pe_cmpR op_lt (pv 7) (pv 8) (nomark _)))) pa_nil)))))))))), ?_⟩)
  · obtain ⟨l, d, lp, ln, ws, r, fs, ts, rfl, _⟩ := h
    rfl
  · obtain ⟨l, d, lp, ln, ws, r, fs, ts, rfl, hw, hS, hP, q⟩ := h
    have no : ¬ tieOk r ws fs ts → ∀ H', Same H H' → Q (.bl false) H' := fun n H' s => by
      have := q H' s
      rwa [decide_eq_false n] at this
    have S0 : Same H H := fun _ _ e => e
    have m1 := hw.mn
    rw [show L2.start N_tie_fits [V.ref l, V.ref d] = [some (V.ref l), some (V.ref d), none, none, none, none, none, none, none] from rfl]
    refine ⟨_, rfl, 4, rfl, l, _, rfl, SqL.of hw.l, fun l1 n1 => ⟨l1, rfl, ⟨_, SqL.of upd_same⟩, fun D nD => ?_⟩⟩
    have ec : cutV (ws.map V.str) (some 4) none = (ws.drop 4).map V.str := by
      rw [show (4 : Int) = ((4 : Nat) : Int) from rfl, cut_from, List.map_drop]
    rw [ec] at nD ⊢
    obtain ⟨s1, k1⟩ := fresh2 (o := .lst ((ws.drop 4).map V.str)) n1
    generalize upd H l1 (.lst ((ws.drop 4).map V.str)) = H1 at s1 k1 nD ⊢
    refine lc_mapL (ys := (((ws.drop 4).map lnO).map optV)) (walk_list (K := K) (a := l1) (xs := (ws.drop 4).map V.str)) nD (fun H' s' => SqL.of (s' _ _ k1)) (by simp only [List.length_map]) (by rw [List.length_map, List.length_drop]; omega) ?_ ?_
    · rintro i x y H4 k hx hy s4 hk
      rw [List.getElem?_map] at hx hy
      rw [List.getElem?_map] at hy
      cases e : (ws.drop 4)[i]? with
      | none =>
        rw [e] at hx
        cases hx
      | some n =>
        rw [e] at hx hy
        cases hx
        cases hy
        have nm := List.mem_of_mem_drop (List.mem_of_getElem? e)
        have ns := hw.sm n nm
        exact ⟨rfl, _, rfl, n, rfl, by omega, hw.asc n nm, fun H5 s5 => hk H5 s5⟩
    intro H2 s2 hD
    have s02 := s1.trans s2
    simp only [List.set]
    refine ⟨fun σ H3 => ∃ w0 T, ws = w0 :: (wordsT T).tail ∧ 0 ≤ T.len ∧ (∀ h ∈ T.hs, 0 ≤ h.1 ∧ 0 ≤ h.2) ∧ nameB (.str T.nm) = true ∧ ts.length ≠ 12 ∧ Same H H3 ∧ H3 D = some (.lst ((T.len :: flatH T.hs).map V.int)) ∧ ∃ x6, σ = [some (V.ref l), some (V.ref d), some (V.ref D), none, none, none, x6, none, none], ?_, ?_⟩
    · refine ⟨_, rfl, l, _, rfl, .inl (SqL.of (s02 _ _ hw.l)), _, _, rfl, rfl, _, rfl, ?_⟩
      by_cases c5 : 5 ≤ ws.length
      case neg =>
        rw [decide_eq_true (by rw [List.length_map]; omega)]
        exact iteT (no (fun h => c5 (tieOk_words hw.ne h).1) _ s02)
      rw [decide_eq_false (by rw [List.length_map]; omega)]
      refine iteF ⟨_, rfl, l, _, rfl, .inl (SqL.of (s02 _ _ hw.l)), _, _, rfl, rfl, (show (0 : Int) < 2 by decide), rfl, _, rfl, ?_⟩
      by_cases c2 : ws.length % 2 = 1
      case neg =>
        rw [decide_eq_true (by rw [List.length_map]; exact congrArg V.int (by omega))]
        exact iteT (no (fun h => c2 (tieOk_words hw.ne h).2.1) _ s02)
      rw [decide_eq_false fun e => by have := V.int.inj e; rw [List.length_map] at this; omega]
      have nin : inV .non (((ws.drop 4).map lnO).map optV) = decide (none ∈ (ws.drop 4).map lnO) := by
        generalize (ws.drop 4).map lnO = os
        induction os with
        | nil => rfl
        | cons o r ih =>
          show (eqV (optV o) .non || inV .non (r.map optV)) = _
          rw [ih]
          cases o <;> simp [optV, eqV]
      refine iteF ⟨_, rfl, D, _, rfl, .inl (SqL.of hD), rfl, ?_, _, rfl, ?_⟩
      · rw [List.all_map, List.all_eq_true]
        intro o _
        cases o <;> rfl
      rw [if_neg Bool.false_ne_true, nin]
      by_cases cn : none ∈ (ws.drop 4).map lnO
      · rw [decide_eq_true cn]
        exact iteT (no (fun h => (tieOk_words hw.ne h).2.2.1 cn) _ s02)
      rw [decide_eq_false cn]
      have hS2 := hS.same s02
      refine iteF ⟨_, rfl, d, _, rfl, (seen_get hS2).2.2.1, rfl, _, rfl, ?_⟩
      by_cases c12 : ts.length = 12
      · rw [decide_eq_true (congrArg V.int (by omega))]
        exact iteT (no (fun h => (tieOk_words hw.ne h).2.2.2.1 c12) _ s02)
      rw [decide_eq_false fun e => c12 (by have := V.int.inj e; omega)]
      obtain ⟨w0, y, a, b, z, qq, rfl⟩ : ∃ w0 y a b z qq, ws = w0 :: y :: a :: b :: z :: qq := by
        match ws, c5 with
        | w0 :: y :: a :: b :: z :: qq, _ => exact ⟨w0, y, a, b, z, qq, rfl⟩
      have ly := hw.sm y (by simp)
      refine iteF ⟨_, rfl, l, _, 1, _, rfl, rfl, SqL.of (s02 _ _ hw.l), atI_int (by decide) rfl, y, rfl, by omega, fun H3 s3 => ⟨_, rfl, ?_⟩⟩
      cases hn : nameB (.str y) with
      | false => exact iteT (no (fun h => by have := (tieOk_words hw.ne h).2.2.2.2 y rfl; rw [hn] at this; cases this) _ (s02.trans s3))
      | true =>
        have cn' : none ∉ lnO z :: qq.map lnO := cn
        obtain ⟨hs, rfl, h0, h1⟩ := split_hs qq (by simp only [List.length_cons] at c2; omega) (fun z' => cn' (List.mem_cons_of_mem _ z'))
        cases ez : lnO z with
        | none => exact absurd (by rw [ez]; exact List.mem_cons_self) cn'
        | some n0 =>
          obtain ⟨n00, rfl⟩ := lnO_some ez
          refine iteF ⟨w0, ⟨y, a, b, n0, hs⟩, rfl, n00, h0, hn, c12, s02.trans s3, ?_, _, rfl⟩
          rw [s3 _ _ hD]
          show some (HO.lst (optV (lnO (numS n0)) :: ((hsW hs).map lnO).map optV)) = _
          rw [ez, h1, List.map_map]
          rfl
    rintro σ H3 ⟨w0, T, rfl, t0, h0, hn, c12, s3, hD3, x6, rfl⟩
    have hS3 := hS.same s3
    have hw3 := s3 _ _ hw.l
    have iff := tieOk_iff (r := r) (w0 := w0) (fs := fs) (ts := ts) t0 h0
    have len5 : 5 ≤ ((w0 :: (wordsT T).tail).map V.str).length := by
      rw [List.length_map]
      show 5 ≤ (hsW T.hs).length + 1 + 1 + 1 + 1 + 1
      omega
    refine ⟨fun σ H4 => T.nm ∉ fs.map (·.1) ++ ts.map (·.nm) ∧ T.one ≠ T.other ∧ T.one ∈ fs.map (·.1) ∧ T.other ∈ fs.map (·.1) ∧ Same H3 H4 ∧ ∃ x6 x7, σ = [some (V.ref l), some (V.ref d), some (V.ref D), none, none, none, x6, x7, none], ?_, ?_⟩
    · refine ⟨_, rfl, l, _, 1, _, rfl, rfl, SqL.of hw3, atI_int (by decide) rfl, _, rfl, d, _, rfl, (seen_get hS3).2.1, ln, _, rfl, .inl (SqL.of hS3.n), rfl, by simp [flatV], _, rfl, ?_⟩
      rw [if_neg Bool.false_ne_true, inV_strs]
      by_cases c6 : T.nm ∈ fs.map (·.1) ++ ts.map (·.nm)
      · rw [decide_eq_true c6]
        exact iteT (no (fun h => (iff.mp h).2.1 c6) _ s3)
      rw [decide_eq_false c6]
      refine iteF ⟨_, rfl, l, _, 2, _, rfl, rfl, SqL.of hw3, atI_int (by decide) rfl, _, rfl, l, _, 3, _, rfl, rfl, SqL.of hw3, atI_int (by decide) rfl, rfl, _, rfl, ?_⟩
      by_cases c7 : T.one = T.other
      · rw [decide_eq_true (by rw [c7])]
        exact iteT (no (fun h => (iff.mp h).1.ne c7) _ s3)
      rw [decide_eq_false fun e => c7 (V.str.inj e)]
      refine iteF ⟨_, rfl, 2, rfl, 4, rfl, l, _, rfl, SqL.of hw3, fun l5 n5 => ⟨l5, rfl, ⟨_, SqL.of upd_same⟩, fun D2 nD2 => ?_⟩⟩
      rw [cut_24 _ len5] at nD2 ⊢
      have ex : (((w0 :: (wordsT T).tail).map V.str).drop 2).take 2 = [V.str T.one, V.str T.other] := rfl
      rw [ex] at nD2 ⊢
      obtain ⟨s5, m5⟩ := fresh2 (o := .lst [V.str T.one, V.str T.other]) n5
      generalize upd H3 l5 (.lst [V.str T.one, V.str T.other]) = H5 at s5 m5 nD2 ⊢
      refine lc_mapL (xs := [V.str T.one, V.str T.other]) (ys := [.bl (decide (T.one ∈ fs.map (·.1))), .bl (decide (T.other ∈ fs.map (·.1)))]) (walk_list (K := K) (a := l5) (xs := [V.str T.one, V.str T.other])) nD2 (fun H' s' => SqL.of (s' _ _ m5)) rfl (by simp) ?_ ?_
      · intro i x y H6 k hx hy s6 hk
        have hS6 := (hS3.same s5).same s6
        match i, hx, hy with
        | 0, hx, hy =>
          cases hx
          cases hy
          refine ⟨rfl, _, rfl, _, rfl, d, _, rfl, (seen_get hS6).1, lp, _, rfl, .inl (SqL.of hS6.p), rfl, by simp [flatV], ?_⟩
          rw [if_neg Bool.false_ne_true, inV_strs]
          exact hk H6 fun _ _ e => e
        | 1, hx, hy =>
          cases hx
          cases hy
          refine ⟨rfl, _, rfl, _, rfl, d, _, rfl, (seen_get hS6).1, lp, _, rfl, .inl (SqL.of hS6.p), rfl, by simp [flatV], ?_⟩
          rw [if_neg Bool.false_ne_true, inV_strs]
          exact hk H6 fun _ _ e => e
        | n + 2, hx, hy => cases hx
      · intro H6 s6 hD6
        have hD6' : H6 D2 = some (.lst ([decide (T.one ∈ fs.map (·.1)), decide (T.other ∈ fs.map (·.1))].map V.bl)) := hD6
        refine ⟨D2, _, rfl, SqL.of hD6', _, rfl, ?_⟩
        by_cases a1 : T.one ∈ fs.map (·.1)
        · by_cases a2 : T.other ∈ fs.map (·.1)
          · rw [decide_eq_true a1, decide_eq_true a2]
            exact iteF ⟨c6, c7, a1, a2, s5.trans s6, _, _, rfl⟩
          · rw [decide_eq_true a1, decide_eq_false a2]
            exact iteT (no (fun h => a2 (iff.mp h).1.h2) _ (s3.trans (s5.trans s6)))
        · rw [decide_eq_false a1]
          exact iteT (no (fun h => a1 (iff.mp h).1.h1) _ (s3.trans (s5.trans s6)))
    rintro σ H4 ⟨c6, c7, a1, a2, s4, x6, x7, rfl⟩
    have s04 := s3.trans s4
    have hD4 := s4 _ _ hD3
    refine ⟨_, rfl, D, _, 0, _, rfl, rfl, SqL.of hD4, atI_int (by decide) rfl, _, rfl, D, _, rfl, SqL.of hD4, fun pl npl => ?_⟩
    have e1 : every2 (((T.len :: flatH T.hs).map V.int).drop 1) = (T.hs.map (·.1)).map V.int := by
      show every2 ((flatH T.hs).map V.int) = _
      rw [every2_map, (every2_flat T.hs).1]
    have e2 : every2 (((T.len :: flatH T.hs).map V.int).drop 2) = (T.hs.map (·.2)).map V.int := by
      show every2 (((flatH T.hs).map V.int).drop 1) = _
      rw [← List.map_drop, every2_map, (every2_flat T.hs).2]
    rw [e1]
    obtain ⟨s5, mpl⟩ := fresh2 (o := .lst ((T.hs.map (·.1)).map V.int)) npl
    generalize upd H4 pl (.lst ((T.hs.map (·.1)).map V.int)) = H5 at s5 mpl ⊢
    refine ⟨_, rfl, D, _, rfl, SqL.of (s5 _ _ hD4), fun st nst => ?_⟩
    rw [e2]
    obtain ⟨s6, mst⟩ := fresh2 (o := .lst ((T.hs.map (·.2)).map V.int)) nst
    have mpl := s6 _ _ mpl
    have s06 := (s04.trans s5).trans s6
    have hD6 := s6 _ _ (s5 _ _ hD4)
    generalize upd H5 st (.lst ((T.hs.map (·.2)).map V.int)) = H6 at s6 mst mpl s06 hD6 ⊢
    have hS6 := hS.same s06
    refine ⟨_, _, _, rfl, ?_⟩
    simp only [List.set]
    have eqL : PyData.eqv (.list ((T.len :: flatH T.hs).map PyData.int)) (.list [.int 1]) = decide (T.len = 1 ∧ T.hs = []) := by
      cases hT : T.hs with
      | nil =>
        by_cases h1 : T.len = 1 <;> simp [flatH, PyData.eqv, PyData.eqvAll, h1]
      | cons h t =>
        simp [flatH, PyData.eqv, PyData.eqvAll]
    have dps : ∀ {HH : Hp} (ns : List Int), DpAll K HH (ns.map V.int) (ns.map PyData.int) := fun {HH} ns => by
      induction ns with
      | nil => exact .nil
      | cons n r ih => exact .cons (.int n) ih
    have shp : ∀ ns : List Int, SeqAt.shaped (.list (ns.map PyData.int)) = true := fun ns => by
      have e1 : PyData.canLayAll0 (ns.map PyData.int) = true := by
        induction ns with
        | nil => simp [PyData.canLayAll0]
        | cons n r ih => simp [PyData.canLayAll0, PyData.canLay0, ih]
      have e2 : PyData.depthAll (ns.map PyData.int) = 0 := by
        clear e1
        induction ns with
        | nil => simp [PyData.depthAll]
        | cons n r ih => simp [PyData.depthAll, PyData.depth, ih]
      simp [SeqAt.shaped, PyData.canLay0, PyData.depth, e1, e2]
    have bigN : T.len.natAbs < 10 ^ 70 ∨ True := .inr trivial
    refine ⟨fun σ H7 => r = false ∧ H7 = H6 ∧ σ = [some (V.ref l), some (V.ref d), some (V.ref D), some (.int T.len), some (.ref pl), some (.ref st), x6, x7, none], ?_, ?_⟩
    · refine ⟨_, rfl, d, _, rfl, (seen_get hS6).2.2.2.2, r, rfl, ?_⟩
      cases r with
      | false => exact iteF ⟨rfl, rfl, rfl⟩
      | true =>
        refine iteT ⟨_, rfl, by show 1 ≤ sizeLine; decide, fun l8 n8 => ?_⟩
        obtain ⟨s8, m8⟩ := fresh2 (o := .lst [V.int 1]) n8
        refine ⟨_, _, .lst (SqL.of (s8 _ _ hD6)) (dps _), .lst (SqL.of m8) (.cons (.int 1) .nil), shp _, shp [1], ?_⟩
        rw [eqL]
        have := q _ (s06.trans s8)
        rw [show decide (T.len = 1 ∧ T.hs = []) = decide (tieOk true (w0 :: (wordsT T).tail) fs ts) from decide_eq_decide.mpr (by
          rw [iff]
          constructor
          · rintro ⟨e1, e2⟩
            refine ⟨⟨name_of hn, a1, a2, c7, e1, by rw [e2]; exact ⟨List.Pairwise.nil, fun _ h => by cases h⟩⟩, c6, c12, ?_⟩
            rw [e2]
            rcases hP with ⟨rfl, rfl⟩ | S
            · exact absurd a1 (by simp)
            · exact S.h12
          · rintro ⟨g, _⟩
            have e1 : T.len = 1 := g.ln
            refine ⟨e1, ?_⟩
            cases hT : T.hs with
            | nil => rfl
            | cons h t =>
              have := g.hr.at_ h (by rw [hT]; exact List.mem_cons_self)
              omega)]
        exact this
    rintro σ H7 ⟨rfl, rfl, rfl⟩
    have iff2 : tieOk false (w0 :: (wordsT T).tail) fs ts ↔ (2 ≤ T.len ∧ T.len ≤ 10 ^ 30) ∧ told ts + T.hs.length ≤ 12 ∧ Hear T.len T.hs := by
      rw [iff]
      constructor
      · rintro ⟨g, _, _, h⟩
        exact ⟨g.ln, h, g.hr⟩
      · rintro ⟨h1, h2, h3⟩
        exact ⟨⟨name_of hn, a1, a2, c7, h1, h3⟩, c6, c12, h2⟩
    refine ⟨fun σ H8 => (2 ≤ T.len ∧ T.len ≤ 10 ^ 30) ∧ told ts + T.hs.length ≤ 12 ∧ (∀ s ∈ T.hs.map (·.2), s = 1 ∨ s = 2) ∧ Same H7 H8 ∧ ∃ x7, σ = [some (V.ref l), some (V.ref d), some (V.ref D), some (.int T.len), some (.ref pl), some (.ref st), x6, x7, none], ?_, ?_⟩
    · refine ⟨_, rfl, _, _, rfl, rfl, _, rfl, ?_⟩
      by_cases d1 : (2 : Int) ≤ T.len
      case neg =>
        rw [decide_eq_false d1, if_neg Bool.false_ne_true]
        exact ⟨false, rfl, iteT (no (fun h => d1 (iff2.mp h).1.1) _ s06)⟩
      rw [if_pos (decide_eq_true d1)]
      refine ⟨_, _, rfl, rfl, ⟨by decide, by decide, by decide⟩, _, _, rfl, rfl, _, rfl, ?_⟩
      by_cases d2 : T.len ≤ 10 ^ 30
      case neg =>
        rw [decide_eq_false (show ¬ T.len ≤ 10 ^ (30 : Int).toNat from d2)]
        exact iteT (no (fun h => d2 (iff2.mp h).1.2) _ s06)
      rw [decide_eq_true (show T.len ≤ 10 ^ (30 : Int).toNat from d2)]
      refine iteF ⟨_, rfl, d, _, rfl, (seen_get hS6).2.2.2.1, _, rfl, pl, _, rfl, .inl (SqL.of mpl), _, _, rfl, rfl, _, _, rfl, rfl, _, rfl, ?_⟩
      by_cases d3 : told ts + T.hs.length ≤ 12
      case neg =>
        rw [decide_eq_true (by rw [List.length_map, List.length_map]; omega)]
        exact iteT (no (fun h => d3 (iff2.mp h).2.1) _ s06)
      rw [decide_eq_false (by rw [List.length_map, List.length_map]; omega)]
      refine iteF ⟨_, rfl, st, rfl, ⟨_, SqL.of mst⟩, fun D2 nD2 => ?_⟩
      refine lc_mapL (xs := (T.hs.map (·.2)).map V.int) (ys := ((T.hs.map (·.2)).map fun s => decide (s = 1 ∨ s = 2)).map V.bl) (walk_list (K := K) (a := st) (xs := (T.hs.map (·.2)).map V.int)) nD2 (fun H' s' => SqL.of (s' _ _ mst)) (by simp) (by rw [List.length_map, List.length_map]; omega) ?_ ?_
      · rintro i x y H8 k hx hy s8 hk
        rw [List.getElem?_map] at hx hy
        rw [List.getElem?_map] at hy
        cases e : (T.hs.map (·.2))[i]? with
        | none =>
          rw [e] at hx
          cases hx
        | some n =>
          rw [e] at hx hy
          cases hx
          cases hy
          refine ⟨rfl, _, rfl, by show 2 ≤ sizeLine; decide, fun t9 n9 => ?_⟩
          obtain ⟨s9, m9⟩ := fresh2 (o := .tup [V.int 1, V.int 2]) n9
          refine ⟨t9, _, rfl, .inr (SqT.of m9), rfl, rfl, ?_⟩
          rw [if_neg Bool.false_ne_true]
          have e3 : inV (.int n) [V.int 1, V.int 2] = decide (n = 1 ∨ n = 2) := by
            show ((1 : Int) == n || ((2 : Int) == n || false)) = _
            by_cases h1 : n = 1
            · simp [h1]
            · by_cases h2 : n = 2
              · simp [h2]
              · simp [h1, h2, Ne.symm h1, Ne.symm h2]
          rw [e3]
          exact hk _ s9
      · intro H8 s8 hD8
        refine ⟨D2, _, rfl, SqL.of hD8, _, rfl, ?_⟩
        cases ha : ((T.hs.map (·.2)).map fun s => decide (s = 1 ∨ s = 2)).all id with
        | false =>
          refine iteT (no (fun h => ?_) _ (s06.trans s8))
          have h3 := (hear_iff.mp (iff2.mp h).2.2).2.2
          have : ((T.hs.map (·.2)).map fun s => decide (s = 1 ∨ s = 2)).all id = true := by
            rw [List.all_map, List.all_eq_true]
            intro s hs
            exact decide_eq_true (h3 s hs)
          rw [ha] at this
          cases this
        | true =>
          refine iteF ⟨⟨d1, d2⟩, d3, fun s hs => ?_, s8, _, rfl⟩
          rw [List.all_map, List.all_eq_true] at ha
          exact of_decide_eq_true (ha s hs)
    rintro σ H8 ⟨d12, d3, d4, s8, x7, rfl⟩
    have mpl8 := s8 _ _ mpl
    refine ⟨by show 1 ≤ sizeLine; decide, fun l9 n9 => ?_⟩
    obtain ⟨s9, m9⟩ := fresh2 (o := .lst [V.int 0]) n9
    have mpl9 := s9 _ _ mpl8
    have ps12 : T.hs.length ≤ 12 := by omega
    generalize hps : T.hs.map (·.1) = ps at mpl9
    have lps : ps.length ≤ 12 := by rw [← hps, List.length_map]; exact ps12
    generalize upd H8 l9 (.lst [V.int 0]) = H9 at s9 m9 mpl9 ⊢
    refine ⟨_, rfl, l9, pl, _, _, rfl, rfl, m9, mpl9, by rw [List.length_map]; show 1 + ps.length ≤ sizeLine; rw [sizeLine_eq]; omega, fun la na => ?_⟩
    obtain ⟨s10, m10⟩ := fresh2 (o := .lst ([V.int 0] ++ ps.map V.int)) na
    have mpl10 := s10 _ _ mpl9
    generalize upd H9 la (.lst ([V.int 0] ++ ps.map V.int)) = H10 at s10 m10 mpl10 ⊢
    refine ⟨_, rfl, _, rfl, by show 1 ≤ sizeLine; decide, fun lb nb => ?_⟩
    obtain ⟨s11, m11⟩ := fresh2 (o := .lst [V.int T.len]) nb
    have mpl11 := s11 _ _ mpl10
    have m10 := s11 _ _ m10
    generalize upd H10 lb (.lst [V.int T.len]) = H11 at s11 m11 m10 mpl11 ⊢
    refine ⟨pl, lb, _, _, rfl, rfl, mpl11, m11, by rw [List.length_map]; show ps.length + 1 ≤ sizeLine; rw [sizeLine_eq]; omega, fun lc nc => ?_⟩
    obtain ⟨s12, m12⟩ := fresh2 (o := .lst (ps.map V.int ++ [V.int T.len])) nc
    have m10 := s12 _ _ m10
    generalize upd H11 lc (.lst (ps.map V.int ++ [V.int T.len])) = H12 at s12 m12 m10 ⊢
    have s612 := s06.trans (s8.trans (s9.trans (s10.trans (s11.trans s12))))
    refine ⟨la, lc, _, _, rfl, SqL.of m10, SqL.of m12, fun D2 nD2 => ?_⟩
    have lz : ps.length + 1 = min ([V.int 0] ++ ps.map V.int).length (ps.map V.int ++ [V.int T.len]).length := by
      rw [List.length_append, List.length_append, List.length_map]
      simp only [List.length_cons, List.length_nil]
      omega
    refine lc_it (walk_zip (K := K) (a := la) (b := lc) lz) (fun i H' => Same H12 (Off D2 H') ∧ H' D2 = some (.lst (((((0 :: ps).zip (ps ++ [T.len])).map fun p => decide (p.1 < p.2)).take i).map V.bl))) ⟨fun b o e => Off.at (ne_of_none e nD2) (same_new nD2 _ _ e), upd_same⟩ (fun i H' _ h => ⟨SqL.of (Off.same _ _ (h.1 _ _ m10)), SqL.of (Off.same _ _ (h.1 _ _ m12))⟩) ?_ ?_
    · rintro i x H4 H5 hi ⟨sm, hD⟩ ⟨T1, y1, z1, rfl, nT, rfl, ey, ez⟩
      have hi1 : i < (0 :: ps).length := hi
      have hi2 : i < (ps ++ [T.len]).length := by rw [List.length_append]; exact hi
      have e1 : y1 = .int (0 :: ps)[i] := by
        dsimp only at ey
        rw [show [V.int 0] ++ ps.map V.int = (0 :: ps).map V.int from rfl, List.getElem?_map, List.getElem?_eq_getElem hi1] at ey
        exact (Option.some.inj ey).symm
      have e2 : z1 = .int (ps ++ [T.len])[i] := by
        dsimp only at ez
        rw [show ps.map V.int ++ [V.int T.len] = (ps ++ [T.len]).map V.int from by rw [List.map_append]; rfl, List.getElem?_map, List.getElem?_eq_getElem hi2] at ez
        exact (Option.some.inj ez).symm
      subst e1 e2
      have nDT : D2 ≠ T1 := ne_of_none hD nT
      obtain ⟨s13, m13⟩ := fresh2 (o := .tup [V.int (0 :: ps)[i], V.int (ps ++ [T.len])[i]]) nT
      refine ⟨T1, _, rfl, SqT.of m13, rfl, _, _, rfl, _, _, rfl, rfl, rfl, ?_⟩
      dsimp only [tYes]
      rw [if_pos rfl]
      refine ⟨_, rfl, _, rfl, _, _, rfl, rfl, ?_⟩
      refine ⟨_, s13 _ _ hD, by rw [List.length_map, List.length_take, sizeLine_eq]; have : i < ps.length + 1 := hi; omega, fun b o e => ?_, ?_⟩
      · have nb : b ≠ D2 := ne_of_none e nD2
        exact Off.at nb (by rw [upd_ne nb]; exact s13 _ _ (Off.same _ _ (sm b o e)))
      · rw [upd_same, List.take_add_one, List.getElem?_map, show ((0 :: ps).zip (ps ++ [T.len]))[i]? = some ((0 :: ps)[i], (ps ++ [T.len])[i]) from List.getElem?_zip_eq_some.mpr ⟨List.getElem?_eq_getElem hi1, List.getElem?_eq_getElem hi2⟩, List.map_append]
        rfl
    · rintro H13 ⟨sm, hD13⟩
      rw [List.take_of_length_le (by rw [List.length_map, List.length_zip, List.length_append, List.length_cons]; simp only [List.length_cons, List.length_nil]; omega)] at hD13
      refine ⟨D2, _, rfl, SqL.of hD13, ?_⟩
      have := q _ (s612.trans fun b o e => Off.same _ _ (sm b o e))
      rw [show (((0 :: ps).zip (ps ++ [T.len])).map fun p => decide (p.1 < p.2)).all id = decide (tieOk false (w0 :: (wordsT T).tail) fs ts) from by
        rw [Bool.eq_iff_iff, decide_eq_true_eq, iff2, hear_iff, List.all_map]
        rw [show (id ∘ fun p : Int × Int => decide (p.1 < p.2)) = fun p => decide (p.1 < p.2) from rfl, zip_up, hps]
        constructor
        · rintro ⟨h1, h2, _⟩
          exact ⟨d12, d3, h1, h2, d4⟩
        · rintro ⟨_, _, h1, h2, _⟩
          exact ⟨h1, h2, by omega⟩]
      exact this
end
end Cw
namespace Cw
open PySem PySem.Spec PyProof.Rows L2
open scoped Classical
theorem joinL_sub {S : List Nat} : ∀ {ps : List (List Nat)} {p : List Nat} {c : Nat}, p ∈ ps → c ∈ p → c ∈ TL.joinL S ps
  | [x], p, c, hp, hc => by
    rw [List.mem_singleton.mp hp] at hc
    exact hc
  | x :: y :: r, p, c, hp, hc => by
    show c ∈ x ++ (S ++ TL.joinL S (y :: r))
    rcases List.mem_cons.mp hp with rfl | hp
    · exact List.mem_append_left _ hc
    · exact List.mem_append_right _ (List.mem_append_right _ (joinL_sub hp hc))
theorem Cut.sub {z S : Str} {c : Nat} {ws : List Str} (k : Cut z S c ws) : ∀ x ∈ ws, ∀ d ∈ TL.tl x, d ∈ TL.tl z := fun x hx d hd => by
  have j := congrArg TL.tl k.join
  rw [TL.join_eq, TL.tl_join] at j
  rw [← j]
  exact joinL_sub (List.mem_map.mpr ⟨x, hx, rfl⟩) hd
theorem Cut.asc {z S : Str} {c : Nat} {ws : List Str} (k : Cut z S c ws) (a : Asc z) : ∀ x ∈ ws, Asc x := fun x hx d hd => a d (k.sub x hx d hd)
theorem num012 : numS 0 = Str.ofString "0" ∧ numS 1 = Str.ofString "1" ∧ numS 2 = Str.ofString "2" := by decide +kernel
theorem per_nxt {r : Bool} {ws : List Str} {fs : List (Str × Int)} {ts : List Tie} (hP : Pre r fs ts) (h0 : ws[0]? = some (Str.ofString "person")) (h : perOk ws fs ts) : ts = [] ∧ ∃ f, Nxt r fs ts ws (fs ++ [f]) [] ∧ ws[1]? = some f.1 := by
  obtain ⟨w0, y, s, rfl, rfl, c8, hn, ny, hs⟩ := h
  cases h0
  refine ⟨rfl, ?_⟩
  obtain ⟨n, n0, n2, rfl⟩ : ∃ n : Int, 0 ≤ n ∧ n ≤ 2 ∧ s = numS n := by
    rcases hs with rfl | rfl | rfl
    · exact ⟨0, by decide, by decide, num012.1.symm⟩
    · exact ⟨1, by decide, by decide, num012.2.1.symm⟩
    · exact ⟨2, by decide, by decide, num012.2.2.symm⟩
  have F : Folk fs ∧ fs.length ≤ 8 := by
    rcases hP with ⟨rfl, _⟩ | S
    · exact ⟨⟨List.nodup_nil, fun _ h => (by cases h), fun _ h => (by cases h)⟩, by decide⟩
    · exact ⟨S.fo, S.f8⟩
  have F' := folk_snoc (x := (y, n)) F.1 (name_of hn) ny n0 n2
  refine ⟨(y, n), ⟨⟨F', fun t ht => (by cases ht), by simpa using F'.nd, by simp, ?_, by simp, by decide⟩, .inl ⟨(y, n), rfl, rfl, rfl, rfl⟩⟩, rfl⟩
  rw [List.length_append]
  simp only [List.length_cons, List.length_nil]
  omega
theorem per_no {r : Bool} {ws : List Str} {fs fs' : List (Str × Int)} {ts ts' : List Tie} (h0 : ws[0]? = some (Str.ofString "person")) (N : Nxt r fs ts ws fs' ts') : perOk ws fs ts := by
  obtain ⟨S, N⟩ := N
  rcases N with ⟨f, rfl, rfl, rfl, rfl⟩ | ⟨t, rfl, rfl, rfl⟩
  · have nm := S.fo.nm f (by simp)
    have st := S.fo.st f (by simp)
    have nd := S.fo.nd
    rw [List.map_append, List.nodup_append] at nd
    refine ⟨_, f.1, numS f.2, rfl, rfl, ?_, of_name nm, fun h => nd.2.2 _ h _ (by simp) rfl, ?_⟩
    · have := S.f8
      rw [List.length_append] at this
      simp only [List.length_cons, List.length_nil] at this
      omega
    · have : f.2 = 0 ∨ f.2 = 1 ∨ f.2 = 2 := by omega
      rcases this with e | e | e <;> rw [e]
      · exact .inl num012.1
      · exact .inr (.inl num012.2.1)
      · exact .inr (.inr num012.2.2)
  · have : Str.ofString "tie" = Str.ofString "person" := Option.some.inj h0
    exact absurd this (by decide +kernel)
def skv (lp ln : Addr) (a c : Int) (r : Bool) : List (Key × V) := [(.inr (Str.ofString "persons"), .ref lp), (.inr (Str.ofString "names"), .ref ln), (.inr (Str.ofString "ties"), .int a), (.inr (Str.ofString "told"), .int c), (.inr (Str.ofString "rounds"), .bl r)]
theorem skv_get {H : Hp} {d lp ln : Addr} {a c : Int} {r : Bool} (S : H d = some (.dK (skv lp ln a c r))) : DGet H d (.str (Str.ofString "persons")) (some (.ref lp)) ∧ DGet H d (.str (Str.ofString "names")) (some (.ref ln)) ∧ DGet H d (.str (Str.ofString "ties")) (some (.int a)) ∧ DGet H d (.str (Str.ofString "told")) (some (.int c)) := by
  have g : ∀ (k : Str) (v : V), valV (skv lp ln a c r) (Sum.inr k) = some v → DGet H d (.str k) (some v) := fun k v e => by
    have := DGet.k (k := (Sum.inr k : Key)) S
    rw [e] at this
    exact this
  have n : ∀ {a b : Str}, a ≠ b → (Sum.inr a : Key) ≠ Sum.inr b := fun h e => h (Sum.inr.inj e)
  refine ⟨g _ _ (valV_pos rfl), g _ _ ?_, g _ _ ?_, g _ _ ?_⟩
  · unfold skv
    rw [valV_neg (n (by decide +kernel)), valV_pos rfl]
  · unfold skv
    rw [valV_neg (n (by decide +kernel)), valV_neg (n (by decide +kernel)), valV_pos rfl]
  · unfold skv
    rw [valV_neg (n (by decide +kernel)), valV_neg (n (by decide +kernel)), valV_neg (n (by decide +kernel)), valV_pos rfl]
theorem skv_put (lp ln : Addr) (a c : Int) (r : Bool) : (∀ b, putK (skv lp ln a c r) (Sum.inr (Str.ofString "rounds")) (.bl b) = skv lp ln a c b) ∧ (∀ a', putK (skv lp ln a c r) (Sum.inr (Str.ofString "ties")) (.int a') = skv lp ln a' c r) ∧ ∀ c', putK (skv lp ln a c r) (Sum.inr (Str.ofString "told")) (.int c') = skv lp ln a c' r := by
  have n1 : Str.ofString "persons" ≠ Str.ofString "rounds" := by decide +kernel
  have n2 : Str.ofString "names" ≠ Str.ofString "rounds" := by decide +kernel
  have n3 : Str.ofString "ties" ≠ Str.ofString "rounds" := by decide +kernel
  have n4 : Str.ofString "told" ≠ Str.ofString "rounds" := by decide +kernel
  have n5 : Str.ofString "persons" ≠ Str.ofString "ties" := by decide +kernel
  have n6 : Str.ofString "names" ≠ Str.ofString "ties" := by decide +kernel
  have n7 : Str.ofString "told" ≠ Str.ofString "ties" := by decide +kernel
  have n8 : Str.ofString "persons" ≠ Str.ofString "told" := by decide +kernel
  have n9 : Str.ofString "names" ≠ Str.ofString "told" := by decide +kernel
  refine ⟨fun b => ?_, fun a' => ?_, fun c' => ?_⟩ <;> simp [putK, skv, n1, n2, n3, n4, n5, n6, n7, n8, n9, n3.symm, n4.symm, n7.symm]
theorem tie_nxt {r : Bool} {ws : List Str} {fs : List (Str × Int)} {ts : List Tie} (hP : Pre r fs ts) (h0 : ws[0]? = some (Str.ofString "tie")) (h : tieOk r ws fs ts) : ∃ t, Nxt r fs ts ws fs (ts ++ [t]) ∧ ws[1]? = some t.nm ∧ ws.length = 5 + 2 * t.hs.length := by
  obtain ⟨t, e, g, nn, h12, h12'⟩ := h
  have S : Specs r fs ts := by
    rcases hP with ⟨rfl, _⟩ | S
    · exact absurd g.h1 (by simp)
    · exact S
  have ew : ws = wordsT t := by
    cases ws with
    | nil => cases h0
    | cons a b =>
      cases h0
      rw [show b = (wordsT t).tail from e]
      rfl
  subst ew
  have t12 := S.t12
  refine ⟨t, ⟨⟨S.fo, fun u hu => ?_, ?_, S.f1, S.f8, ?_, ?_⟩, .inr ⟨t, rfl, rfl, rfl⟩⟩, rfl, ?_⟩
  · rcases List.mem_append.mp hu with hu | hu
    · exact S.ti u hu
    · rw [List.mem_singleton.mp hu]
      exact g
  · rw [List.map_append, ← List.append_assoc, List.nodup_append]
    refine ⟨S.nd, by simp, fun a ha b hb => ?_⟩
    have : b = t.nm := by simpa using hb
    subst this
    exact fun z => nn (z ▸ ha)
  · rw [List.length_append]
    simp only [List.length_cons, List.length_nil]
    omega
  · rw [told_snoc]
    omega
  · unfold wordsT
    rw [List.length_append, hsW_len]
    rfl
theorem tie_no {r : Bool} {ws : List Str} {fs fs' : List (Str × Int)} {ts ts' : List Tie} (h0 : ws[0]? = some (Str.ofString "tie")) (N : Nxt r fs ts ws fs' ts') : tieOk r ws fs ts := by
  obtain ⟨S, N⟩ := N
  rcases N with ⟨f, rfl, rfl, rfl, rfl⟩ | ⟨t, rfl, rfl, rfl⟩
  · have : Str.ofString "person" = Str.ofString "tie" := Option.some.inj h0
    exact absurd this (by decide +kernel)
  · have nd := S.nd
    rw [List.map_append, ← List.append_assoc, List.nodup_append] at nd
    have h12 := S.h12
    rw [told_snoc] at h12
    refine ⟨t, rfl, S.ti t (by simp), fun h => nd.2.2 _ h _ (by simp) rfl, ?_, h12⟩
    have := S.t12
    rw [List.length_append] at this
    simp only [List.length_cons, List.length_nil] at this
    omega
theorem nxt_head {r : Bool} {ws : List Str} {fs fs' : List (Str × Int)} {ts ts' : List Tie} (N : Nxt r fs ts ws fs' ts') : ws[0]? = some (Str.ofString "person") ∨ ws[0]? = some (Str.ofString "tie") := by
  rcases N.2 with ⟨f, rfl, _⟩ | ⟨t, rfl, _⟩
  · exact .inl rfl
  · exact .inr rfl
/-- all but what was seen stands -/
def But3 (d lp ln : Addr) (H H' : Hp) : Prop := ∀ b o, b ≠ d → b ≠ lp → b ≠ ln → H b = some o → H' b = some o
theorem But3.trans {d lp ln : Addr} {H H1 H2 : Hp} (a : But3 d lp ln H H1) (b : But3 d lp ln H1 H2) : But3 d lp ln H H2 := fun c o h1 h2 h3 e => b c o h1 h2 h3 (a c o h1 h2 h3 e)
theorem Same.but3 {d lp ln : Addr} {H H' : Hp} (s : Same H H') : But3 d lp ln H H' := fun b o _ _ _ e => s b o e
section
variable {P : Program} {w : World} {K : PySem.W.Frag} {mg : Str → Option Value} {base : Heap} {C NT : Addr}
def spRFits : Sp := fun vs H Q _ => ∃ (n : Nat) (y : Str) (d lp ln : Addr) (r : Bool) (fs : List (Str × Int)) (ts : List Tie), vs = [.int n, .str y, .ref d] ∧ y.length ≤ 600000 ∧ Asc y ∧ SeenAt H d lp ln r fs ts ∧ lp ≠ ln ∧
  ((n = 0 ∧ fs = [] ∧ ts = [] ∧ ∀ H', But3 d lp ln H H' → SeenAt H' d lp ln (decide (y = Str.ofString "rounds")) [] [] → Q (.bl (decide (headOk y))) H') ∨
   (n ≠ 0 ∧ Pre r fs ts ∧ (∀ fs' ts' H', Nxt r fs ts (Txt.split y (Str.ofString " ")) fs' ts' → But3 d lp ln H H' → SeenAt H' d lp ln r fs' ts' → Q (.bl true) H') ∧ ∀ H', (∀ fs' ts', ¬ Nxt r fs ts (Txt.split y (Str.ofString " ")) fs' ts') → But3 d lp ln H H' → Q (.bl false) H'))
theorem ok_rfits {f : Addr} {fd : FuncData} (F : FnP K "_law_row_fits" "_law_row_fits" S_row_fits f fd) (H_person_fits : Has P w K mg base "_law_person_fits" S_person_fits 2 P_person_fits spPFits) (H_tie_fits : Has P w K mg base "_law_tie_fits" S_tie_fits 2 P_tie_fits spTFits) (B : Blt mg) : FnOk P w K mg base CX0 3 f fd P_row_fits spRFits := by
  obtain ⟨f_person_fits, fd_person_fits, F_person_fits, b_person_fits, G_person_fits, g_person_fits⟩ := H_person_fits
  obtain ⟨f_tie_fits, fd_tie_fits, F_tie_fits, b_tie_fits, G_tie_fits, g_tie_fits⟩ := H_tie_fits
  have nd := sc_row_fits.nd
  refine F.ok sc_row_fits (fun vs H Q E h => ?_) (fun cdv A outer s H vs Q E hr h => ⟨_, PSs.nox (pss_cons (ps_set (i := 3) nd rfl (.inl rfl) (pe_split (pv 1) pe_str))
     (C8.pss_cut (ps_if (pt_cmpR op_eq (pv 0) pe_int (nomark _)) (pss_cons (ps_dput (hu_of hr) (pv 2) pe_str (pe_cmpR op_eq (pv 1) pe_str (nomark _)) rfl)
     (pss_one (ps_ret (pe_cmpR op_in_seq (pv 1) (pe_tup (pa_cons pe_str (pa_cons pe_str pa_nil))) (by rfl))))) pss_nil)
     (C8.pss_cut (ps_if (PW.pt (pw_and (pt_cmpR op_eq (pe_ix ix_list (pv 3) pe_int (fun _ _ => rfl)) pe_str (nomark _)) (pw_and1 (pt_val (pe_call G_person_fits (hr.mono (by first | decide | omega)) rfl g_person_fits F_person_fits.kp b_person_fits .nil pass0 (pa_cons (pv 3) (pa_cons (pv 2) pa_nil))))))) (pss_one (ps_expr (pe_bm PySem.F.plainAttrs_list PySem.F.slot_list_append PySem.F.type_list_append mt_append (pe_dget (hu_of hr) (pv 2) pe_str (fun _ _ => rfl)) (pa_cons (pe_ix ix_list (pv 3) pe_int (fun _ _ => rfl)) pa_nil)))) (pss_one (ps_if (PW.pt (pw_and (pt_cmpR op_eq (pe_ix ix_list (pv 3) pe_int (fun _ _ => rfl)) pe_str (nomark _)) (pw_and1 (pt_val (pe_call G_tie_fits (hr.mono (by first | decide | omega)) rfl g_tie_fits F_tie_fits.kp b_tie_fits .nil pass0 (pa_cons (pv 3) (pa_cons (pv 2) pa_nil))))))) (pss_cons (ps_dput (hu_of hr) (pv 2) pe_str (pe_op op_add (pe_dget (hu_of hr) (pv 2) pe_str (fun _ _ => rfl)) pe_int) rfl)
     (pss_one (ps_dput (hu_of hr) (pv 2) pe_str (pe_op op_add (pe_dget (hu_of hr) (pv 2) pe_str (fun _ _ => rfl)) (pe_op op_fdiv (pe_op op_sub (pe_callB call_len_seq (by rfl) B.len_ PySem.boot_len (pa_cons (pv 3) pa_nil)) pe_int) pe_int)) rfl))) (pss_one (ps_ret pe_bl)))))
     (pss_cons (ps_expr (pe_bm PySem.F.plainAttrs_list PySem.F.slot_list_append PySem.F.type_list_append mt_append (pe_dget (hu_of hr) (pv 2) pe_str (fun _ _ => rfl)) (pa_cons (pe_ix ix_list (pv 3) pe_int (fun _ _ => rfl)) pa_nil)))
     (pss_one (ps_ret pe_bl)))))), ?_⟩)
  · obtain ⟨n, y, d, lp, ln, r, fs, ts, rfl, _⟩ := h
    rfl
  · obtain ⟨n, y, d, lp, ln, r, fs, ts, rfl, hy, ha, hS, nl, cas⟩ := h
    rw [show L2.start N_row_fits [V.int n, V.str y, V.ref d] = [some (V.int n), some (V.str y), some (V.ref d), none] from rfl]
    have ky := cut_blank y
    refine ⟨_, rfl, ⟨_, rfl⟩, _, _, rfl, rfl, by decide +kernel, by rw [sizeLine_eq]; omega, fun lw nw => ?_⟩
    generalize hws : Txt.split y (Str.ofString " ") = ws at ky cas ⊢
    obtain ⟨s1, m1⟩ := fresh2 (o := .lst (ws.map V.str)) nw
    have hS1 := hS.same s1
    generalize upd H lw (.lst (ws.map V.str)) = H1 at s1 m1 hS1 ⊢
    simp only [List.set]
    obtain ⟨u0, ur, rfl⟩ : ∃ u0 ur, ws = u0 :: ur := by
      cases ws with
      | nil => exact absurd rfl ky.ne
      | cons a b => exact ⟨a, b, rfl⟩
    have hW : WordsIn H1 lw (u0 :: ur) := ⟨m1, fun x hx => Nat.le_trans (ky.small x hx) hy, by have := ky.many; omega, ky.asc ha, by simp⟩
    have dlp : d ≠ lp := fun e => by have := hS1.d; rw [e, hS1.p] at this; cases this
    have dln : d ≠ ln := fun e => by have := hS1.d; rw [e, hS1.n] at this; cases this
    have five : (skv lp ln ts.length (told ts) r).length < sizeLine := by show 5 < sizeLine; decide
    rcases cas with ⟨rfl, rfl, rfl, q⟩ | ⟨n0, hP, q1, q2⟩
    · refine ⟨fun _ _ => False, ?_, fun _ _ h => h.elim⟩
      refine ⟨_, rfl, rfl, _, rfl, ?_⟩
      rw [decide_eq_true (by rfl)]
      refine iteT ⟨_, rfl, rfl, _, rfl, d, _, rfl, DPut.k (k := (Sum.inr (Str.ofString "rounds") : Key)) hS1.d five, ?_⟩
      rw [show putK (seenKv lp ln r []) (Sum.inr (Str.ofString "rounds")) (V.bl (decide (V.str y = V.str (Str.ofString "rounds")))) = seenKv lp ln (decide (y = Str.ofString "rounds")) [] from by
        rw [show decide (V.str y = V.str (Str.ofString "rounds")) = decide (y = Str.ofString "rounds") from decide_eq_decide.mpr ⟨fun e => V.str.inj e, fun e => by rw [e]⟩]
        exact (skv_put lp ln _ _ r).1 _]
      refine ⟨_, rfl, by show 2 ≤ sizeLine; decide, fun t2 n2 => ?_⟩
      obtain ⟨s2, m2⟩ := fresh2 (o := .tup [.str (Str.ofString "cries"), .str (Str.ofString "rounds")]) n2
      refine ⟨t2, _, rfl, .inr (SqT.of m2), rfl, rfl, ?_⟩
      rw [if_neg Bool.false_ne_true, show ([V.str (Str.ofString "cries"), V.str (Str.ofString "rounds")] : List V) = [Str.ofString "cries", Str.ofString "rounds"].map V.str from rfl, inV_strs]
      have := q _ (fun b o h1 h2 h3 e => s2 _ _ (by rw [upd_ne h1]; exact s1 _ _ e)) (SeenAt.same ⟨upd_same, by rw [upd_ne dlp.symm]; exact hS1.p, by rw [upd_ne dln.symm]; exact hS1.n⟩ s2)
      rw [show decide (y ∈ [Str.ofString "cries", Str.ofString "rounds"]) = decide (headOk y) from decide_eq_decide.mpr (by unfold headOk; simp)]
      exact this
    · refine ⟨fun σ H' => H' = H1 ∧ σ = [some (.int n), some (.str y), some (.ref d), some (.ref lw)], ?_, ?_⟩
      · refine ⟨_, rfl, rfl, _, rfl, ?_⟩
        rw [decide_eq_false fun e => n0 (by have := V.int.inj e; omega)]
        exact iteF ⟨rfl, rfl⟩
      rintro σ H' ⟨rfl, rfl⟩
      have tdiff : Str.ofString "tie" ≠ Str.ofString "person" := by decide +kernel
      refine ⟨fun σ H' => ∃ fs' ts' nm, Nxt r fs ts (u0 :: ur) fs' ts' ∧ ur[0]? = some nm ∧ fs'.map (·.1) ++ ts'.map (·.nm) = (fs.map (·.1) ++ ts.map (·.nm)) ++ [nm] ∧ But3 d lp ln H H' ∧ H' d = some (.dK (seenKv lp ln r ts')) ∧ H' lp = some (.lst ((fs'.map (·.1)).map V.str)) ∧ H' ln = some (.lst ((fs.map (·.1) ++ ts.map (·.nm)).map V.str)) ∧ H' lw = some (.lst ((u0 :: ur).map V.str)) ∧ σ = [some (.int n), some (.str y), some (.ref d), some (.ref lw)], ?_, ?_⟩
      · have gs := skv_get (show H' d = some (.dK (skv lp ln ts.length (told ts) r)) from hS1.d)
        refine ⟨_, rfl, lw, _, 0, _, rfl, rfl, SqL.of m1, atI_int (by decide) rfl, rfl, _, rfl, ?_⟩
        by_cases c0 : u0 = Str.ofString "person"
        · rw [decide_eq_true (by rw [c0])]
          subst c0
          refine iteT ⟨_, rfl, _, rfl, lw, d, lp, ln, _, r, fs, ts, rfl, hW, hS1, hP, fun H2 s2 => ⟨_, rfl, ?_⟩⟩
          by_cases ok : perOk (Str.ofString "person" :: ur) fs ts
          · rw [decide_eq_true ok]
            obtain ⟨rfl, f, N, hf⟩ := per_nxt hP rfl ok
            have hS2 := hS1.same s2
            have hf : ur[0]? = some f.1 := hf
            refine iteT ⟨_, rfl, d, _, rfl, (seen_get hS2).1, .inl ⟨rfl, _, SqL.of hS2.p⟩, _, rfl, lw, _, 1, _, rfl, rfl, SqL.of (s2 _ _ m1), atI_int (by decide) (by show (ur.map V.str)[0]? = _; rw [List.getElem?_map, hf]; rfl), lp, _, _, rfl, rfl, hS2.p, ?_, fs ++ [f], [], f.1, N, hf, ?_, ?_, ?_, ?_, ?_, ?_, rfl⟩
            · have := N.1.f8
              rw [List.length_append] at this
              rw [List.length_map, List.length_map]
              exact small1000 (by omega)
            · simp
            · exact fun b o h1 h2 h3 e => by rw [upd_ne h2]; exact s2 _ _ (s1 _ _ e)
            · rw [upd_ne dlp]
              exact hS2.d
            · rw [upd_same, List.map_append, List.map_append]
              rfl
            · rw [upd_ne nl.symm]
              exact hS2.n
            · have nlw : lw ≠ lp := fun e => by rw [e] at m1; rw [hS1.p] at m1; rw [e] at nw; rw [hS.p] at nw; cases nw
              rw [upd_ne nlw]
              exact s2 _ _ m1
          · rw [decide_eq_false ok]
            refine iteF ⟨_, rfl, lw, _, 0, _, rfl, rfl, SqL.of (s2 _ _ m1), atI_int (by decide) rfl, rfl, _, rfl, ?_⟩
            rw [decide_eq_false fun e => tdiff (V.str.inj e).symm]
            exact iteF (q2 _ (fun fs' ts' N => ok (per_no rfl N)) (Same.but3 (s1.trans s2)))
        · rw [decide_eq_false fun e => c0 (V.str.inj e)]
          refine iteF ⟨_, rfl, lw, _, 0, _, rfl, rfl, SqL.of m1, atI_int (by decide) rfl, rfl, _, rfl, ?_⟩
          by_cases c1 : u0 = Str.ofString "tie"
          · rw [decide_eq_true (by rw [c1])]
            subst c1
            refine iteT ⟨_, rfl, _, rfl, lw, d, lp, ln, _, r, fs, ts, rfl, hW, hS1, hP, fun H2 s2 => ⟨_, rfl, ?_⟩⟩
            by_cases ok : tieOk r (Str.ofString "tie" :: ur) fs ts
            · rw [decide_eq_true ok]
              obtain ⟨t, N, hf, hlen⟩ := tie_nxt hP rfl ok
              have hS2 := hS1.same s2
              have hf : ur[0]? = some t.nm := hf
              have nlwd : lw ≠ d := fun e => by rw [e] at nw; rw [hS.d] at nw; cases nw
              refine iteT ⟨_, rfl, d, _, rfl, (seen_get hS2).2.2.1, _, _, rfl, rfl, _, rfl, d, _, rfl, DPut.k (k := (Sum.inr (Str.ofString "ties") : Key)) hS2.d five, ?_⟩
              rw [show putK (seenKv lp ln r ts) (Sum.inr (Str.ofString "ties")) (V.int ((ts.length : Nat) + 1)) = skv lp ln ((ts.length : Nat) + 1) (told ts) r from (skv_put lp ln _ _ r).2.1 _]
              have g3 := skv_get (H := upd H2 d (.dK (skv lp ln ((ts.length : Nat) + 1) (told ts) r))) upd_same
              have w3 : (upd H2 d (.dK (skv lp ln ((ts.length : Nat) + 1) (told ts) r))) lw = some (.lst ((Str.ofString "tie" :: ur).map V.str)) := by rw [upd_ne nlwd]; exact s2 _ _ m1
              refine ⟨_, rfl, d, _, rfl, g3.2.2.2, _, rfl, lw, _, rfl, .inl (SqL.of w3), _, _, rfl, rfl, _, _, rfl, rfl, ⟨by decide, by decide⟩, _, _, rfl, rfl, _, rfl, d, _, rfl, DPut.k (k := (Sum.inr (Str.ofString "told") : Key)) upd_same five, ?_⟩
              have e5 : ((((Str.ofString "tie" :: ur).map V.str).length : Nat) : Int) - 5 = 2 * (t.hs.length : Int) := by rw [List.length_map, hlen]; omega
              rw [show putK (skv lp ln ((ts.length : Nat) + 1) (told ts) r) (Sum.inr (Str.ofString "told")) (V.int ((told ts : Nat) + (((((Str.ofString "tie" :: ur).map V.str).length : Nat) : Int) - 5) / 2)) = seenKv lp ln r (ts ++ [t]) from by
                rw [(skv_put lp ln _ _ r).2.2 _, e5]
                unfold skv seenKv
                rw [told_snoc, List.length_append]
                have a1 : (2 * (t.hs.length : Int)) / 2 = t.hs.length := by omega
                rw [a1]
                rfl]
              refine ⟨fs, ts ++ [t], t.nm, N, hf, ?_, fun b o h1 h2 h3 e => ?_, upd_same, ?_, ?_, ?_, rfl⟩
              · rw [List.map_append, List.append_assoc]
                rfl
              · rw [upd_ne h1, upd_ne h1]
                exact s2 _ _ (s1 _ _ e)
              · rw [upd_ne dlp.symm, upd_ne dlp.symm]
                exact hS2.p
              · rw [upd_ne dln.symm, upd_ne dln.symm]
                exact hS2.n
              · rw [upd_ne nlwd]
                exact w3
            · rw [decide_eq_false ok]
              exact iteF (q2 _ (fun fs' ts' N => ok (tie_no rfl N)) (Same.but3 (s1.trans s2)))
          · rw [decide_eq_false fun e => c1 (V.str.inj e)]
            refine iteF (q2 _ (fun fs' ts' N => ?_) (Same.but3 s1))
            rcases nxt_head N with e | e
            · exact c0 (Option.some.inj e)
            · exact c1 (Option.some.inj e)
      · rintro σ H4 ⟨fs', ts', nm, N, hur, hnm, b4, d4, p4, n4, w4, rfl⟩
        have g4 := skv_get (show H4 d = some (.dK (skv lp ln ts'.length (told ts') r)) from d4)
        have hl := congrArg List.length hnm
        have := N.1.f8
        have := N.1.t12
        simp only [List.length_append, List.length_map, List.length_cons, List.length_nil] at hl
        refine ⟨_, rfl, d, _, rfl, g4.2.1, .inl ⟨rfl, _, SqL.of n4⟩, _, rfl, lw, _, 1, _, rfl, rfl, SqL.of w4, atI_int (by decide) (by show (ur.map V.str)[0]? = _; rw [List.getElem?_map, hur]; rfl), ln, _, _, rfl, rfl, n4, ?_, ?_⟩
        · rw [List.length_map, List.length_append, List.length_map, List.length_map]
          exact small1000 (by omega)
        · refine q1 fs' ts' _ N (fun b o h1 h2 h3 e => by rw [upd_ne h3]; exact b4 b o h1 h2 h3 e) ⟨by rw [upd_ne dln]; exact d4, by rw [upd_ne nl]; exact p4, ?_⟩
          rw [upd_same, hnm, List.map_append (l₂ := [nm])]
          rfl
end
end Cw
namespace Cw
open PySem PySem.Spec PyProof.Rows L2
open scoped Classical
def dueV : Option Nat → V
  | some k => .int k
  | none => .non
theorem skv_new (lp ln : Addr) : mergeK [] (skv lp ln 0 0 false) = skv lp ln 0 0 false := by
  have n1 : Str.ofString "persons" ≠ Str.ofString "rounds" := by decide +kernel
  have n2 : Str.ofString "names" ≠ Str.ofString "rounds" := by decide +kernel
  have n3 : Str.ofString "ties" ≠ Str.ofString "rounds" := by decide +kernel
  have n4 : Str.ofString "told" ≠ Str.ofString "rounds" := by decide +kernel
  have n5 : Str.ofString "persons" ≠ Str.ofString "ties" := by decide +kernel
  have n6 : Str.ofString "names" ≠ Str.ofString "ties" := by decide +kernel
  have n7 : Str.ofString "told" ≠ Str.ofString "ties" := by decide +kernel
  have n8 : Str.ofString "persons" ≠ Str.ofString "told" := by decide +kernel
  have n9 : Str.ofString "names" ≠ Str.ofString "told" := by decide +kernel
  have n10 : Str.ofString "persons" ≠ Str.ofString "names" := by decide +kernel
  simp [mergeK, putK, skv, n1, n2, n3, n4, n5, n6, n7, n8, n9, n10, n1.symm, n2.symm, n3.symm, n4.symm, n5.symm, n6.symm, n7.symm, n8.symm, n9.symm, n10.symm]
section
variable {P : Program} {w : World} {K : PySem.W.Frag} {mg : Str → Option Value} {base : Heap} {C NT : Addr}
def spDue : Sp := fun vs H Q _ => ∃ (v : V) (d : PyData), vs = [v] ∧ Dx H v d ∧ (∀ z, d = .str z → z.length ≤ 600000 ∧ Asc z) ∧
  ((∀ z, d ≠ .str z) → Q (.int 0) H) ∧ ∀ z, d = .str z → ∀ H', Same H H' → Q (dueV (dueF (Txt.split z (Str.ofString "\n")))) H'
theorem ok_due {f : Addr} {fd : FuncData} (F : FnP K "_law_due" "_law_due" S_due f fd) (H_row_fits : Has P w K mg base "_law_row_fits" S_row_fits 3 P_row_fits spRFits) (B : Blt mg) : FnOk P w K mg base CX0 4 f fd P_due spDue := by
  obtain ⟨f_row_fits, fd_row_fits, F_row_fits, b_row_fits, G_row_fits, g_row_fits⟩ := H_row_fits
  have nd := sc_due.nd
  refine F.ok sc_due (fun vs H Q E h => ?_) (fun cdv A outer s H vs Q E hr h => ⟨_, PSs.nox (C8.pss_cut (ps_if (pt_not (pt_val (pe_callB call_isi (by rfl) B.isinstance_ (by decide +kernel) (pa_cons (pv 0) (pa_cons (pe_bltn (v := .ty "str") (u := .type "str") (by rfl) B.str_ (by decide +kernel) rfl) pa_nil))))) (pss_one (ps_ret pe_int)) pss_nil)
     (pss_cons (ps_set (i := 1) nd rfl (.inl rfl) (pe_split (pv 0) pe_str))
     (pss_cons (ps_set (i := 2) nd rfl (.inl rfl) (pe_disp (pps_cons pe_str (pe_lst pa_nil) (pps_cons pe_str (pe_lst pa_nil) (pps_cons pe_str pe_int (pps_cons pe_str pe_int (pps_cons pe_str pe_bl pps_nil))))) (by rfl) (by rfl) (fun z => by cases z) (by decide)))
     (C8.pss_cut (ps_for PassesOwn.never rfl (pi_range1 rfl B.range_ (pa_cons (pe_op op_sub (pe_callB call_len_seq (by rfl) B.len_ PySem.boot_len (pa_cons (pv 1) pa_nil)) pe_int) pa_nil)) (pg_name (i := 3) nd rfl (.inl rfl))
      (pss_one (ps_if (pt_not (pt_val (pe_call G_row_fits (hr.mono (by first | decide | omega)) rfl g_row_fits F_row_fits.kp b_row_fits .nil pass0 (pa_cons (pv 3) (pa_cons (pe_ix ix_list (pv 1) (pv 3) (fun _ _ => rfl)) (pa_cons (pv 2) pa_nil)))))) (pss_one (ps_ret (pe_op op_add (pv 3) pe_int))) pss_nil)))
     (pss_one (ps_ret (pe_ifExp (PW.pt (pw_and (pt_cmpR op_eq (pe_ix ix_list (pv 1) (pe_un un_neg pe_int) (fun _ _ => rfl)) pe_str (nomark _)) (pw_and1 (pt_cmpR (op_neD hr.units) (pe_dget (hu_of hr) (pv 2) pe_str (fun _ _ => rfl)) (pe_lst pa_nil) (nomark _))))) pe_non (pe_callB call_len_seq (by rfl) B.len_ PySem.boot_len (pa_cons (pv 1) pa_nil))))))))), ?_⟩)
  · obtain ⟨v, d, rfl, _⟩ := h
    rfl
  · obtain ⟨v, d, rfl, hd, hz, q0, q1⟩ := h
    rw [show L2.start N_due [v] = [some v, none, none, none] from rfl]
    refine ⟨fun σ H' => H' = H ∧ σ = [some v, none, none, none] ∧ ∃ z, d = .str z ∧ v = .str z, ?_, ?_⟩
    · refine ⟨_, rfl, _, _, _, _, _, rfl, .ty _, th_ty (.dx hd), kit_ty (kt_str d), _, rfl, ?_⟩
      by_cases hs : ∃ z, d = .str z
      · obtain ⟨z, rfl⟩ := hs
        cases hd
        exact iteF ⟨rfl, rfl, z, rfl, rfl⟩
      · have nz : ∀ z, d ≠ .str z := fun z e => hs ⟨z, e⟩
        cases d with
        | str z => exact absurd rfl (nz z)
        | _ => exact iteT (q0 nz)
    rintro σ H' ⟨rfl, rfl, z, rfl, rfl⟩
    obtain ⟨hz, ha⟩ := hz z rfl
    have q := q1 z rfl
    refine ⟨_, rfl, ⟨_, rfl⟩, _, _, rfl, rfl, by decide +kernel, by rw [sizeLine_eq]; omega, fun lq nq => ?_⟩
    have kz := cut_feed z
    generalize hps : Txt.split z (Str.ofString "\n") = ps at kz q ⊢
    obtain ⟨R, un, rfl⟩ : ∃ R un, ps = R ++ [un] := ⟨ps.dropLast, ps.getLast kz.ne, (List.dropLast_concat_getLast kz.ne).symm⟩
    have lr := kz.many
    rw [List.length_append] at lr
    simp only [List.length_cons, List.length_nil] at lr
    obtain ⟨s1, m1⟩ := fresh2 (o := .lst ((R ++ [un]).map V.str)) nq
    generalize upd H' lq (.lst ((R ++ [un]).map V.str)) = H1 at s1 m1 ⊢
    simp only [List.set]
    intro d nd
    refine ⟨by show 0 ≤ sizeLine; exact Nat.zero_le _, fun lp np => ?_⟩
    refine ⟨by show 0 ≤ sizeLine; exact Nat.zero_le _, fun ln nn => ?_⟩
    obtain ⟨sd, kd⟩ := fresh2 (o := .dK []) nd
    obtain ⟨sp, kp⟩ := fresh2 (o := .lst []) np
    obtain ⟨sn, kn⟩ := fresh2 (o := .lst []) nn
    have kd := sn _ _ (sp _ _ kd)
    have kp := sn _ _ kp
    have nlp : lp ≠ d := (ne_of_none upd_same np).symm
    have nln : ln ≠ lp := (ne_of_none upd_same nn).symm
    have nln2 : ln ≠ d := (ne_of_none (sp _ _ upd_same) nn).symm
    have s04 := ((s1.trans sd).trans sp).trans sn
    have m14 := sn _ _ (sp _ _ (sd _ _ m1))
    have fd : H' d = none := none_of s1 nd
    have fp : H' lp = none := none_of (s1.trans sd) np
    have fn : H' ln = none := none_of ((s1.trans sd).trans sp) nn
    generalize upd (upd (upd H1 d (.dK [])) lp (.lst [])) ln (.lst []) = H4 at kd kp kn s04 m14 ⊢
    refine ⟨kd, skv lp ln 0 0 false, rfl, by show 5 ≤ 15; decide, ?_⟩
    rw [skv_new]
    have S0 : SeenAt (upd H4 d (.dK (skv lp ln 0 0 false))) d lp ln false [] [] := ⟨upd_same, by rw [upd_ne nlp]; exact kp, by rw [upd_ne nln2]; exact kn⟩
    have b5 : Same H' (upd H4 d (.dK (skv lp ln 0 0 false))) := fun b o e => by rw [upd_ne (ne_of_none e fd)]; exact s04 _ _ e
    have nq2 : lq ≠ d ∧ lq ≠ lp ∧ lq ≠ ln := by
      refine ⟨fun e => ?_, fun e => ?_, fun e => ?_⟩
      · rw [e, kd] at m14; cases m14
      · rw [e, kp] at m14
        have := HO.lst.inj (Option.some.inj m14)
        simp at this
      · rw [e, kn] at m14
        have := HO.lst.inj (Option.some.inj m14)
        simp at this
    have m5 : (upd H4 d (.dK (skv lp ln 0 0 false))) lq = some (.lst ((R ++ [un]).map V.str)) := by rw [upd_ne nq2.1]; exact m14
    generalize upd H4 d (.dK (skv lp ln 0 0 false)) = H5 at S0 b5 m5 ⊢
    have back : ∀ H6, But3 d lp ln H5 H6 → Same H' H6 := fun H6 b6 b o e => b6 b o (ne_of_none e fd) (ne_of_none e fp) (ne_of_none e fn) (b5 b o e)
    have keep : ∀ H6, But3 d lp ln H5 H6 → H6 lq = some (.lst ((R ++ [un]).map V.str)) := fun H6 b6 => b6 _ _ nq2.1 nq2.2.1 nq2.2.2 m5
    have zr : ∀ x ∈ R, x.length ≤ 600000 ∧ Asc x := fun x hx => ⟨Nat.le_trans (kz.small x (by simp [hx])) hz, kz.asc ha x (by simp [hx])⟩
    refine ⟨fun σ H6 => But3 d lp ln H5 H6 ∧ (∃ x3, σ = [some (V.str z), some (V.ref lq), some (V.ref d), x3]) ∧ ((R = [] ∧ SeenAt H6 d lp ln false [] []) ∨ ∃ r R' fs ts, R = headS r :: R' ∧ runF r (R'.map fun y => Txt.split y (Str.ofString " ")) [] [] 1 = .inr (fs, ts) ∧ SeenAt H6 d lp ln r fs ts ∧ Pre r fs ts), ?_, ?_⟩
    · refine ⟨_, rfl, lq, _, rfl, .inl (SqL.of m5), _, _, rfl, rfl, _, rfl, ?_, ?_, ?_⟩
      · rw [List.length_map, List.length_append]
        simp only [List.length_cons, List.length_nil]
        omega
      · rw [List.length_map, List.length_append]
        simp only [List.length_cons, List.length_nil]
        omega
      rw [show ((((R ++ [un]).map V.str).length : Nat) : Int) - 1 = ((R.length : Nat) : Int) from by rw [List.length_map, List.length_append]; simp only [List.length_cons, List.length_nil]; omega]
      refine for_it (walk_range (lo := 0) (n := ((R.length : Nat) : Int).toNat)) (fun i σ H6 => But3 d lp ln H5 H6 ∧ (∃ x3, σ = [some (V.str z), some (V.ref lq), some (V.ref d), x3]) ∧ ((i = 0 ∧ SeenAt H6 d lp ln false [] []) ∨ ∃ r R' fs ts, i ≠ 0 ∧ R = headS r :: R' ∧ runF r (R'.map fun y => Txt.split y (Str.ofString " ")) [] [] 1 = runF r ((R'.drop (i - 1)).map fun y => Txt.split y (Str.ofString " ")) fs ts i ∧ SeenAt H6 d lp ln r fs ts ∧ Pre r fs ts))
        ⟨fun b o _ _ _ e => e, ⟨_, rfl⟩, .inl ⟨rfl, S0⟩⟩ (fun _ _ _ _ _ => trivial) ?_ ?_
      · rintro i x σ H6 H7 hi ⟨b6, ⟨x3, rfl⟩, st⟩ ⟨rfl, rfl⟩
        have hi' : i < R.length := by omega
        have m6 := keep _ b6
        simp only [List.set, Int.zero_add]
        have hx : ((R ++ [un]).map V.str)[i]? = some (V.str R[i]) := by
          rw [List.getElem?_map, List.getElem?_append_left hi', List.getElem?_eq_getElem hi']
          rfl
        obtain ⟨hzl, hza⟩ := zr _ (List.getElem_mem hi')
        rcases st with ⟨rfl, S⟩ | ⟨r, R', fs, ts, ne, rfl, hrun, S, hP⟩
        · refine ⟨_, rfl, _, rfl, _, rfl, lq, _, _, _, rfl, rfl, SqL.of m6, atI_nat hx, _, rfl, 0, R[0], d, lp, ln, false, [], [], rfl, hzl, hza, S, nln.symm, .inl ⟨rfl, rfl, rfl, fun H8 b8 S8 => ⟨_, rfl, ?_⟩⟩⟩
          by_cases hh : headOk R[0]
          · rw [decide_eq_true hh]
            obtain ⟨r, hr⟩ : ∃ r, R[0] = headS r := by
              rcases hh with e | e
              · exact ⟨false, e⟩
              · exact ⟨true, e⟩
            rw [hr, head_r] at S8
            refine iteF ⟨b6.trans b8, ⟨_, rfl⟩, .inr ⟨r, R.drop 1, [], [], by decide, ?_, ?_, S8, .inl ⟨rfl, rfl⟩⟩⟩
            · have := List.drop_eq_getElem_cons hi'
              rw [List.drop_zero, hr] at this
              exact this
            · rfl
          · rw [decide_eq_false hh]
            refine iteT ⟨_, rfl, _, _, rfl, rfl, ?_⟩
            have e1 : dueF (R ++ [un]) = some 1 := by
              have := List.drop_eq_getElem_cons hi'
              rw [List.drop_zero] at this
              rw [this]
              exact dueF_bad hh
            have := q _ (back _ (b6.trans b8))
            rw [e1] at this
            exact this
        · obtain ⟨i, rfl⟩ : ∃ j, i = j + 1 := ⟨i - 1, by omega⟩
          have hj : i < R'.length := by rw [List.length_cons] at hi'; omega
          have dr : (R'.drop i).map (fun y => Txt.split y (Str.ofString " ")) = Txt.split R'[i] (Str.ofString " ") :: (R'.drop (i + 1)).map fun y => Txt.split y (Str.ofString " ") := by
            rw [List.drop_eq_getElem_cons hj, List.map_cons]
          rw [Nat.add_sub_cancel] at hrun
          refine ⟨_, rfl, _, rfl, _, rfl, lq, _, _, _, rfl, rfl, SqL.of m6, atI_nat hx, _, rfl, i + 1, R'[i], d, lp, ln, r, fs, ts, rfl, hzl, hza, S, nln.symm, .inr ⟨by omega, hP, fun fs' ts' H8 N b8 S8 => ⟨_, rfl, ?_⟩, fun H8 nN b8 => ⟨_, rfl, ?_⟩⟩⟩
          · refine iteF ⟨b6.trans b8, ⟨_, rfl⟩, .inr ⟨r, R', fs', ts', by omega, rfl, ?_, S8, .inr N.1⟩⟩
            rw [hrun, dr, run_step N]
            rfl
          · refine iteT ⟨_, rfl, _, _, rfl, rfl, ?_⟩
            have e1 : dueF (headS r :: R' ++ [un]) = some (i + 1 + 1) := dueF_inl (by rw [hrun, dr, run_stop nN])
            have := q _ (back _ (b6.trans b8))
            rw [e1] at this
            exact this
      · rintro σ H6 ⟨b6, hσ, st⟩
        refine ⟨b6, hσ, ?_⟩
        rcases st with ⟨e, S⟩ | ⟨r, R', fs, ts, ne, rfl, hrun, S, hP⟩
        · exact .inl ⟨List.eq_nil_of_length_eq_zero (by omega), S⟩
        · refine .inr ⟨r, R', fs, ts, rfl, ?_, S, hP⟩
          rw [hrun, List.drop_of_length_le (by rw [List.length_cons]; omega)]
          rfl
    rintro σ H6 ⟨b6, ⟨x3, rfl⟩, st⟩
    have m6 := keep _ b6
    have at1 : atI ((R ++ [un]).map V.str) (-1) = some (V.str un) := by rw [List.map_append]; exact atI_last _ _
    have q6 := fun H7 (s7 : Same H6 H7) => q H7 (fun b o e => s7 _ _ (back _ b6 b o e))
    have dps : ∀ {HH : Hp} (ns : List Str), DpAll K HH (ns.map V.str) (ns.map PyData.str) := fun {HH} ns => by
      induction ns with
      | nil => exact .nil
      | cons n r ih => exact .cons (.str n) ih
    obtain ⟨r, fs, ts, S, hP, e1⟩ : ∃ r fs ts, SeenAt H6 d lp ln r fs ts ∧ Pre r fs ts ∧ dueF (R ++ [un]) = if fs ≠ [] ∧ un = Str.ofString "" then none else some ((R ++ [un]).length) := by
      rcases st with ⟨rfl, S⟩ | ⟨r, R', fs, ts, rfl, hrun, S, hP⟩
      · exact ⟨false, [], [], S, .inl ⟨rfl, rfl⟩, by rw [if_neg fun h => h.1 rfl]; exact dueF_nil un⟩
      · refine ⟨r, fs, ts, S, hP, ?_⟩
        by_cases c : fs ≠ [] ∧ un = Str.ofString ""
        · rw [if_pos c]
          exact dueF_good hrun c.1 c.2
        · rw [if_neg c, dueF_end hrun (by
            by_cases h : fs = []
            · exact .inl h
            · exact .inr fun e => c ⟨h, e⟩), List.length_append]
          rfl
    have nms : ∀ y ∈ fs.map (·.1), PyData.strOk y = true := fun y hy => by
      rcases hP with ⟨rfl, _⟩ | SP
      · cases hy
      · obtain ⟨f, hf, rfl⟩ := List.mem_map.mp hy
        have nm := SP.fo.nm f hf
        unfold PyData.strOk
        rw [Array.all_eq_true']
        intro c hc
        have := nm.2.2 c (Array.mem_toList_iff.mpr hc)
        exact decide_eq_true (by omega)
    have shp : ∀ ns : List Str, (∀ y ∈ ns, PyData.strOk y = true) → SeqAt.shaped (.list (ns.map PyData.str)) = true := fun ns hn => by
      have e1 : PyData.canLayAll0 (ns.map PyData.str) = true := by
        induction ns with
        | nil => simp [PyData.canLayAll0]
        | cons n r ih => simp [PyData.canLayAll0, PyData.canLay0, ih fun y hy => hn y (List.mem_cons_of_mem _ hy), hn n List.mem_cons_self]
      have e2 : PyData.depthAll (ns.map PyData.str) = 0 := by
        clear e1 hn
        induction ns with
        | nil => simp [PyData.depthAll]
        | cons n r ih => simp [PyData.depthAll, PyData.depth, ih]
      simp [SeqAt.shaped, PyData.canLay0, PyData.depth, e1, e2]
    have lenQ : ∀ H7, Same H6 H7 → ¬ (fs ≠ [] ∧ un = Str.ofString "") → Q (.int ((((R ++ [un]).map V.str).length : Nat) : Int)) H7 := fun H7 s7 c => by
      have := q6 H7 s7
      rw [e1, if_neg c] at this
      rw [List.length_map]
      exact this
    refine ⟨_, rfl, _, rfl, lq, _, -1, _, rfl, rfl, SqL.of m6, at1, rfl, _, rfl, ?_⟩
    by_cases cu : un = Str.ofString ""
    · rw [decide_eq_true (by rw [cu])]
      refine iteT ⟨_, rfl, d, _, rfl, (seen_get S).1, by show 0 ≤ sizeLine; exact Nat.zero_le _, fun l8 n8 => ?_⟩
      obtain ⟨s8, m8⟩ := fresh2 (o := .lst []) n8
      obtain ⟨ns, hns⟩ : ∃ ns : List Str, ns = fs.map (·.1) := ⟨_, rfl⟩
      have Sp : H6 lp = some (.lst (ns.map V.str)) := by rw [hns]; exact S.p
      refine ⟨.list (ns.map PyData.str), .list [], .lst (SqL.of (s8 _ _ Sp)) (dps ns), .lst (SqL.of m8) .nil, shp _ (by rw [hns]; exact nms), shp [] (fun _ h => by cases h), _, rfl, ?_⟩
      cases hfs : fs with
      | nil =>
        rw [show (!PyData.eqv (.list (ns.map PyData.str)) (.list [])) = false from by rw [hns, hfs]; simp [PyData.eqv, PyData.eqvAll]]
        exact iteF ⟨_, rfl, lq, _, rfl, .inl (SqL.of (s8 _ _ m6)), lenQ _ s8 fun h => h.1 hfs⟩
      | cons f fr =>
        rw [show (!PyData.eqv (.list (ns.map PyData.str)) (.list [])) = true from by rw [hns, hfs]; simp [PyData.eqv, PyData.eqvAll]]
        have := q6 _ s8
        rw [e1, if_pos ⟨by rw [hfs]; simp, cu⟩] at this
        exact iteT this
    · rw [decide_eq_false fun e => cu (V.str.inj e)]
      exact iteF (iteF ⟨_, rfl, lq, _, rfl, .inl (SqL.of m6), lenQ _ (fun _ _ e => e) fun h => cu h.2⟩)
end
end Cw
namespace Cw
open PySem PySem.Spec PyProof.Rows L2
section
variable {P : Program} {w : World} {K : PySem.W.Frag} {mg : Str → Option Value} {base : Heap} {C NT : Addr}
def spText2 : Sp := fun vs H Q _ => ∃ (v : V) (r : Bool) (fs : List (Str × Int)) (ts : List Tie), vs = [v, .bl r] ∧ Dx H v (dSpec fs ts) ∧ Specs r fs ts ∧ ∀ H', Same H H' → Q (.str (txS (rowsS r fs ts))) H'
theorem ok_text2 {f : Addr} {fd : FuncData} (F : FnP K "_law_text" "_law_text" S_text f fd) (B : Blt mg) : FnOk P w K mg base CX0 1 f fd P_text spText2 := by
  have nd := sc_text.nd
  refine F.ok sc_text (fun vs H Q E h => ?_) (fun cdv A outer s H vs Q E hr h => ⟨_, PSs.nox (pss_cons (ps_set (i := 2) nd rfl (.inl rfl) (pe_lst (pa_cons (pe_ix ix_list (pe_lst (pa_cons pe_str (pa_cons pe_str pa_nil))) (pe_callTy call_int1 (by rfl) B.int_ (by decide +kernel) (pa_cons (pv 1) pa_nil)) (fun _ _ => rfl)) pa_nil)))
     (pss_cons (ps_set (i := 2) nd rfl (.inl rfl) (pe_op op_cat (pv 2) (pe_lc (own := [("_law_name_here", 3), ("_law_state", 4)]) (g := gTup K 2 (gCons (gName 3) (gCons (gName 4) gNil))) rfl nd (pi_list (pe_ix ix_tup (pv 0) pe_int (fun _ _ => rfl))) (blkOk_by (own := [("_law_name_here", 3), ("_law_state", 4)]) (N := N_text) (sc := defScope S_text) (by decide +kernel)) (fun _ _ _ _ _ => (pg_tup rfl (pgs_cons (pg_name (i := 3) nd rfl (.inl rfl)) (pgs_cons (pg_name (i := 4) nd rfl (.inl rfl)) pgs_nil)))) (fun _ _ _ _ _ => pts_nil) (fun _ _ _ _ _ => (pe_op op_add_str (pe_op op_add_str (pe_op op_add_str pe_str (pv 3)) pe_str) (pe_callTy call_str_int (by rfl) B.str_ (by decide +kernel) (pa_cons (pv 4) pa_nil)))))))
     (C8.pss_cut (ps_for PassesOwn.never rfl (pi_list (pe_ix ix_tup (pv 0) pe_int (fun _ _ => rfl))) (pg_tup (by rfl) (pgs_cons (pg_name (i := 3) nd rfl (.inl rfl)) (pgs_cons (pg_name (i := 5) nd rfl (.inl rfl)) (pgs_cons (pg_name (i := 6) nd rfl (.inl rfl)) (pgs_cons (pg_name (i := 7) nd rfl (.inl rfl)) (pgs_cons (pg_name (i := 8) nd rfl (.inl rfl)) pgs_nil))))))
      (pss_cons (ps_set (i := 9) nd rfl (.inl rfl) (pe_lst (pa_cons pe_str (pa_cons (pv 3) (pa_cons (pv 5) (pa_cons (pv 6) (pa_cons (pe_callTy call_str_int (by rfl) B.str_ (by decide +kernel) (pa_cons (pv 7) pa_nil)) pa_nil)))))))
     (C8.pss_cut (ps_for PassesOwn.never rfl (pi_tup (pv 8)) (pg_tup (by rfl) (pgs_cons (pg_name (i := 10) nd rfl (.inl rfl)) (pgs_cons (pg_name (i := 4) nd rfl (.inl rfl)) pgs_nil)))
      (pss_one (ps_set (i := 9) nd rfl (.inl rfl) (pe_op op_cat (pv 9) (pe_lst (pa_cons (pe_callTy call_str_int (by rfl) B.str_ (by decide +kernel) (pa_cons (pv 10) pa_nil)) (pa_cons (pe_callTy call_str_int (by rfl) B.str_ (by decide +kernel) (pa_cons (pv 4) pa_nil)) pa_nil)))))))
     (pss_one (ps_expr (pe_bm PySem.F.plainAttrs_list PySem.F.slot_list_append PySem.F.type_list_append mt_append (pv 2) (pa_cons (pe_join pe_str (pv 9)) pa_nil)))))))
     (pss_one (ps_ret (pe_join pe_str (pe_lc (own := [("_law_row_here", 11)]) (g := gName 11) rfl nd (pi_list (pv 2)) (blkOk_by (own := [("_law_row_here", 11)]) (N := N_text) (sc := defScope S_text) (by decide +kernel)) (fun _ _ _ _ _ => (pg_name (i := 11) nd rfl (.inl rfl))) (fun _ _ _ _ _ => pts_nil) (fun _ _ _ _ _ => (pe_op op_add_str (pv 11) pe_str))))))))), ?_⟩)
  · obtain ⟨v, r, fs, ts, rfl, _⟩ := h
    rfl
  · obtain ⟨v, r, fs, ts, rfl, hv, SP, q⟩ := h
    rw [show L2.start N_text [v, V.bl r] = [some v, some (.bl r), none, none, none, none, none, none, none, none, none, none] from rfl]
    obtain ⟨t0, lf, lj, xs, js, rfl, ht0, hlf, hlj, hxs, hjs, lx, lj2⟩ := dspec_inv hv
    have f8 := SP.f8
    have t12 := SP.t12
    have ro := rows_ok SP
    refine ⟨by show 2 ≤ sizeLine; decide, fun l1 n1 => ⟨_, rfl, .inr ⟨r, rfl, ?_⟩⟩⟩
    obtain ⟨s1, m1⟩ := fresh2 (o := .lst [V.str (Str.ofString "cries"), V.str (Str.ofString "rounds")]) n1
    generalize upd H l1 (.lst [V.str (Str.ofString "cries"), V.str (Str.ofString "rounds")]) = H1 at s1 m1 ⊢
    refine ⟨l1, _, _, V.str (headS r), rfl, rfl, SqL.of m1, by cases r <;> exact atI_int (by decide) rfl, by show 1 ≤ sizeLine; decide, fun l2 n2 => ?_⟩
    obtain ⟨s2, m2⟩ := fresh2 (o := .lst [V.str (headS r)]) n2
    have s02 := s1.trans s2
    generalize upd H1 l2 (.lst [V.str (headS r)]) = H2 at s2 m2 s02 ⊢
    simp only [List.set]
    refine ⟨_, rfl, _, rfl, t0, _, 0, _, rfl, rfl, SqT.of (s02 _ _ ht0), atI_int (by decide) rfl, lf, rfl, ⟨_, SqL.of (s02 _ _ hlf)⟩, fun D nD => ?_⟩
    refine lc_mapL (xs := xs) (ys := (fs.map rowP).map V.str) (walk_list (K := K) (a := lf) (xs := xs)) nD (fun H' s' => SqL.of (s' _ _ (s02 _ _ hlf))) (by rw [List.length_map, List.length_map, lx]) (by omega) ?_ ?_
    · rintro i x y H4 k hx hy s4 hk
      obtain ⟨hi2, e⟩ := dxall_at (Dx.sameAll (s02.trans s4) _ _ hxs) hx
      obtain ⟨tp, rfl, htp⟩ := dx_per e
      have fm := List.getElem_mem hi2
      have wn := SP.fo.nm _ fm
      have wst := SP.fo.st _ fm
      have ln := len_numS (n := fs[i].2) (by omega) (by omega)
      have w8 := wn.2.1
      have hy2 : y = .str (rowP fs[i]) := by
        rw [List.getElem?_map, List.getElem?_map, List.getElem?_eq_getElem hi2] at hy
        exact (Option.some.inj hy).symm
      refine ⟨tp, [.str fs[i].1, .int fs[i].2], rfl, SqT.of htp, rfl, .str fs[i].1, [.int fs[i].2], rfl, .int fs[i].2, [], rfl, rfl, rfl, ?_⟩
      refine ⟨_, rfl, _, _, rfl, rfl, ?_, _, _, rfl, rfl, ?_, _, rfl, _, rfl, log_num (by omega) (by omega), _, _, rfl, rfl, ?_, ?_⟩
      · rw [sizeLine_eq, show (Str.ofString "person ").length = 7 from rfl]
        omega
      · rw [sizeLine_eq, Str.length_append, show (Str.ofString "person ").length = 7 from rfl, show (Str.ofString " ").length = 1 from rfl]
        omega
      · rw [sizeLine_eq, Str.length_append, Str.length_append, show (Str.ofString "person ").length = 7 from rfl, show (Str.ofString " ").length = 1 from rfl]
        show 7 + fs[i].1.length + 1 + (numS fs[i].2).length ≤ _
        omega
      · have e3 : V.str (Str.ofString "person " ++ fs[i].1 ++ Str.ofString " " ++ Str.ofString (toString fs[i].2)) = y := by
          rw [hy2, rowP_eq]
        rw [e3]
        exact hk H4 fun _ _ e => e
    intro H4 s4 hD
    refine ⟨l2, D, _, _, rfl, rfl, s4 _ _ m2, hD, by rw [List.length_map, List.length_map]; show 1 + fs.length ≤ sizeLine; rw [sizeLine_eq]; omega, fun l3 n3 => ?_⟩
    have s04 := s02.trans s4
    obtain ⟨s5, m5⟩ := fresh2 (o := .lst ([V.str (headS r)] ++ (fs.map rowP).map V.str)) n3
    have s05 := s04.trans s5
    have f3 : H l3 = none := none_of s04 n3
    generalize upd H4 l3 (.lst ([V.str (headS r)] ++ (fs.map rowP).map V.str)) = H5 at s5 m5 s05 ⊢
    simp only [List.set]
    refine ⟨fun σ H6 => Same H H6 ∧ H6 l3 = some (.lst ((rowsS r fs ts).map V.str)) ∧ ∃ x3 x4 x5 x6 x7 x8 x9 x10 x11, σ = [some (.ref t0), some (.bl r), some (.ref l3), x3, x4, x5, x6, x7, x8, x9, x10, x11], ?_, ?_⟩
    · refine ⟨_, rfl, t0, _, 1, _, rfl, rfl, SqT.of (s05 _ _ ht0), atI_int (by decide) rfl, lj, rfl, ⟨_, SqL.of (s05 _ _ hlj)⟩, ?_⟩
      refine for_it (walk_list (xs := js)) (fun i σ H6 => Same H H6 ∧ H6 l3 = some (.lst ((headS r :: (fs.map rowP ++ (ts.take i).map rowT)).map V.str)) ∧ ∃ x3 x4 x5 x6 x7 x8 x9 x10 x11, σ = [some (.ref t0), some (.bl r), some (.ref l3), x3, x4, x5, x6, x7, x8, x9, x10, x11])
        ⟨s05, by rw [m5, List.take_zero, List.map_nil, List.append_nil]; rfl, _, _, _, _, _, _, _, _, _, rfl⟩ (fun i σ H6 _ h => SqL.of (h.1 _ _ hlj)) ?_ ?_
      · rintro i x σ H6 H7 hi ⟨s6, m6, x3, x4, x5, x6, x7, x8, x9, x10, x11, rfl⟩ ⟨rfl, hxi⟩
        obtain ⟨hi2, e⟩ := dxall_at (Dx.sameAll s6 _ _ hjs) hxi
        obtain ⟨tt, vh, rfl, htt, hvh⟩ := dx_tie e
        obtain ⟨b, ys, rfl, hb, hy⟩ := dx_hs hvh
        have tm := List.getElem_mem hi2
        have g := SP.ti _ tm
        have ga := g.at0
        have ww := words_tie SP tm
        have wl := wordsT_len SP tm
        have ly : ys.length = ts[i].hs.length := by
          have := dxall_len hy
          rw [List.length_map] at this
          exact this
        refine ⟨tt, _, rfl, SqT.of htt, rfl, _, _, rfl, _, _, rfl, _, _, rfl, _, _, rfl, _, _, rfl, rfl, ?_⟩
        simp only [List.set]
        refine ⟨_, rfl, _, rfl, _, rfl, _, rfl, _, rfl, log_num ga.1 ga.2, by show 5 ≤ sizeLine; decide, fun lw nw => ?_⟩
        obtain ⟨s8, m8⟩ := fresh2 (o := .lst [V.str (Str.ofString "tie"), V.str ts[i].nm, V.str ts[i].one, V.str ts[i].other, V.str (Str.ofString (toString ts[i].len))]) nw
        generalize upd H7 lw (.lst [V.str (Str.ofString "tie"), V.str ts[i].nm, V.str ts[i].one, V.str ts[i].other, V.str (Str.ofString (toString ts[i].len))]) = H8 at s8 m8 ⊢
        simp only [List.set]
        refine ⟨fun σ H9 => Same H7 H9 ∧ ∃ p, H9 p = some (.lst ((wordsT ts[i]).map V.str)) ∧ ∃ x3 x4 x5 x6 x7 x8 x10, σ = [some (.ref t0), some (.bl r), some (.ref l3), x3, x4, x5, x6, x7, x8, some (.ref p), x10, x11], ?_, ?_⟩
        · refine ⟨_, rfl, b, rfl, ⟨_, (hb.mp (s8 _)).sq⟩, ?_⟩
          refine for_it (walk_tup (xs := ys)) (fun j σ H9 => Same H8 H9 ∧ ∃ p, H9 p = some (.lst (([Str.ofString "tie", ts[i].nm, ts[i].one, ts[i].other, numS ts[i].len] ++ hsW (ts[i].hs.take j)).map V.str)) ∧ ∃ x3 x4 x5 x6 x7 x8 x10, σ = [some (.ref t0), some (.bl r), some (.ref l3), x3, x4, x5, x6, x7, x8, some (.ref p), x10, x11])
            ⟨fun _ _ e => e, lw, m8, _, _, _, _, _, _, _, rfl⟩ (fun j σ H9 _ h => (hb.mp fun o e => h.1 _ _ (s8 _ _ e)).sq) ?_ ?_
          · rintro j x σ H9 H10 hj ⟨s9, p, m9, y3, y4, y5, y6, y7, y8, y10, rfl⟩ ⟨rfl, hxj⟩
            have hj2 : j < ts[i].hs.length := by omega
            obtain ⟨y, e1, e2⟩ := dxall_get (i := j) hy (by rw [List.getElem?_map, List.getElem?_eq_getElem hj2]; rfl)
            have exy : x = y := Option.some.inj (hxj.symm.trans e1)
            subst exy
            obtain ⟨u, rfl, hu⟩ := dx_hear e2
            have ah := g.hr.at_ ts[i].hs[j] (List.getElem_mem hj2)
            have hw : ([Str.ofString "tie", ts[i].nm, ts[i].one, ts[i].other, numS ts[i].len] ++ hsW (ts[i].hs.take j)).length ≤ 40 := by
              rw [List.length_append, hsW_len, List.length_take]
              have := wl.1
              have := wl.2
              simp only [List.length_cons, List.length_nil]
              omega
            refine ⟨u, _, rfl, SqT.of (s9 _ _ (s8 _ _ hu)), rfl, _, _, rfl, _, _, rfl, rfl, ?_⟩
            simp only [List.set]
            refine ⟨_, rfl, _, rfl, _, rfl, log_num (by omega) (by omega), _, rfl, _, rfl, log_num (by omega) (by omega), by show 2 ≤ sizeLine; decide, fun l10 n10 => ?_⟩
            obtain ⟨s10, m10⟩ := fresh2 (o := .lst [V.str (Str.ofString (toString ts[i].hs[j].1)), V.str (Str.ofString (toString ts[i].hs[j].2))]) n10
            refine ⟨p, l10, _, _, rfl, rfl, s10 _ _ m9, m10, by rw [List.length_map]; show _ + 2 ≤ sizeLine; rw [sizeLine_eq]; omega, fun l11 n11 => ?_⟩
            obtain ⟨s11, m11⟩ := fresh2 (o := .lst ((([Str.ofString "tie", ts[i].nm, ts[i].one, ts[i].other, numS ts[i].len] ++ hsW (ts[i].hs.take j)).map V.str) ++ [V.str (Str.ofString (toString ts[i].hs[j].1)), V.str (Str.ofString (toString ts[i].hs[j].2))])) n11
            refine ⟨s9.trans (s10.trans s11), l11, ?_, _, _, _, _, _, _, _, rfl⟩
            rw [m11, List.take_add_one, List.getElem?_eq_getElem hj2]
            show some (HO.lst _) = some (HO.lst ((_ ++ hsW (ts[i].hs.take j ++ [ts[i].hs[j]])).map V.str))
            unfold hsW
            rw [List.flatMap_append, ← List.append_assoc, List.map_append (l₂ := List.flatMap _ [_])]
            rfl
          · rintro σ H9 ⟨s9, p, m9, hσ⟩
            rw [ly, List.take_length] at m9
            exact ⟨s8.trans s9, p, m9, hσ⟩
        rintro σ H9 ⟨s9, p, m9, y3, y4, y5, y6, y7, y8, y10, rfl⟩
        have m69 := s9 _ _ m6
        refine ⟨_, rfl, .inl ⟨rfl, _, SqL.of m69⟩, ⟨_, rfl⟩, _, rfl, blank, p, wordsT ts[i], rfl, rfl, .inl (SqL.of m9), ?_, l3, _, _, rfl, rfl, m69, ?_, ?_⟩
        · have b1 := sum_le (m := 31) fun x hx => (ww x hx).l
          have b2 := wl.2
          rw [show blank.length = 1 from rfl]
          omega
        · refine small1000 ?_
          simp only [List.length_map, List.length_cons, List.length_take, List.length_append]
          omega
        · refine ⟨fun b o e => ?_, ?_, _, _, _, _, _, _, _, _, _, rfl⟩
          · rw [upd_ne (ne_of_none e f3)]
            exact s9 _ _ (s6 _ _ e)
          · rw [upd_same, List.take_add_one, List.getElem?_eq_getElem hi2]
            simp only [List.map_append, List.map_cons, List.append_assoc, List.cons_append, Option.toList_some, List.map_nil]
            rfl
      · rintro σ H6 ⟨s6, m6, hσ⟩
        rw [lj2, List.take_length] at m6
        exact ⟨s6, m6, hσ⟩
    rintro σ H3 ⟨s3, m3, x3, x4, x5, x6, x7, x8, x9, x10, x11, rfl⟩
    have lr := rows_many (r := r) (fs := fs) (ts := ts)
    refine ⟨⟨_, rfl⟩, _, rfl, l3, rfl, ⟨_, SqL.of m3⟩, fun D2 nD2 => ?_⟩
    refine lc_map (ys := ((rowsS r fs ts).map fun x => x ++ feed).map V.str) (walk_list (K := K) (a := l3) (xs := (rowsS r fs ts).map V.str)) nD2 (fun H' s' => SqL.of (s' _ _ m3)) (by simp only [List.length_map]) (by rw [List.length_map]; omega) ?_ ?_
    · rintro i x y H4 k hx hy s4 hk
      rw [List.getElem?_map] at hx hy
      rw [List.getElem?_map] at hy
      cases e : (rowsS r fs ts)[i]? with
      | none =>
        rw [e] at hx
        cases hx
      | some z =>
        rw [e] at hx hy
        cases hx
        cases hy
        have := (ro z (List.mem_of_getElem? e)).2
        refine ⟨rfl, _, rfl, _, _, rfl, rfl, ?_, hk H4 fun _ _ e => e⟩
        rw [sizeLine_eq, show (Str.ofString "\n").length = 1 from rfl]
        omega
    · intro H4 s4 hD
      refine ⟨Str.ofString "", D2, (rowsS r fs ts).map fun x => x ++ feed, rfl, rfl, .inl (SqL.of hD), ?_, ?_⟩
      · have b1 := sum_le (m := 929) (ws := (rowsS r fs ts).map fun x => x ++ feed) fun x hx => by
          obtain ⟨z, hz, rfl⟩ := List.mem_map.mp hx
          have := (ro z hz).2
          rw [Str.length_append, show feed.length = 1 from rfl]
          omega
        rw [List.length_map] at b1
        have b2 : (rowsS r fs ts).length * 929 ≤ 21 * 929 := Nat.mul_le_mul_right _ (by omega)
        rw [show (Str.ofString "").length = 0 from rfl]
        omega
      · rw [join_none]
        exact q H4 (s3.trans s4)
end
end Cw
namespace Cw
open PySem PySem.Spec PyProof.Rows L2
theorem pe_joinK {X : Cx} {K : PySem.W.Frag} {o e : Expr} {to te : TE} {apos pos : Pos} (h : X.K = K) (ho : PE X o to) (he : PE X e te) (hs : starEach [e] X.env = [(false, eval e X.env)] := by rfl) (hbase : attributeBase o "join" X.env (eval o X.env) = eval o X.env := by rfl) (hline : (apos.endLine == pos.line) = true := by rfl) :
    PE X (.Call (.Attribute o "join" apos) [e] [] pos) (tM1 (fun x xs H Q => ∃ a p, ∃ ys : List Str, x = .str a ∧ xs = [.ref p] ∧ (SqL K H p (ys.map V.str) ∨ SqT K H p (ys.map V.str)) ∧
      (ys.map (·.length)).sum + ys.length * a.length ≤ 16777216 ∧ Q (.str (Txt.join a ys)) H) to te) := h ▸ pe_join ho he hs hbase hline
/-- how much some words take, a blank behind each -/
def wt (ws : List Str) : Nat := (ws.map (·.length)).sum + ws.length
theorem wt_app (a b : List Str) : wt (a ++ b) = wt a + wt b := by
  unfold wt
  rw [List.map_append, List.sum_append, List.length_append]
  omega
theorem wt_one (z : Str) : wt [z] = z.length + 1 := by simp [wt]
theorem wt_take (ws : List Str) (n : Nat) : wt (ws.take n) + wt (ws.drop n) = wt ws := by rw [← wt_app, List.take_append_drop]
theorem wt_drop_le (ws : List Str) {m n : Nat} (h : m ≤ n) : wt (ws.drop n) ≤ wt (ws.drop m) := by
  have := wt_take (ws.drop m) (n - m)
  rw [List.drop_drop, show m + (n - m) = n from by omega] at this
  omega
theorem wt_rev (ws : List Str) : wt ws.reverse = wt ws := by
  unfold wt
  rw [List.map_reverse, List.sum_reverse, List.length_reverse]
theorem wt_mem {ws : List Str} {z : Str} (h : z ∈ ws) : z.length + 1 ≤ wt ws := by
  obtain ⟨a, b, rfl⟩ := List.append_of_mem h
  rw [wt_app, show z :: b = [z] ++ b from rfl, wt_app, wt_one]
  omega
theorem wt_len (ws : List Str) : ws.length ≤ wt ws := by unfold wt; omega
theorem joinL_len1 (s : Nat) : ∀ ps : List (List Nat), (TL.joinL [s] ps).length ≤ (ps.map List.length).sum + ps.length ∧ (ps ≠ [] → (TL.joinL [s] ps).length + 1 = (ps.map List.length).sum + ps.length)
  | [] => ⟨Nat.zero_le _, fun h => absurd rfl h⟩
  | [x] => by
    show x.length ≤ _ ∧ (_ → x.length + 1 = _)
    simp
  | x :: y :: r => by
    have ih := (joinL_len1 s (y :: r)).2 (by simp)
    have e : (TL.joinL [s] (x :: y :: r)).length = x.length + (1 + (TL.joinL [s] (y :: r)).length) := by
      show (x ++ ([s] ++ TL.joinL [s] (y :: r))).length = _
      rw [List.length_append, List.length_append]
      rfl
    rw [e, List.map_cons, List.sum_cons, List.length_cons]
    constructor
    · omega
    · intro _
      omega
theorem wt_tl (ws : List Str) : ((ws.map TL.tl).map List.length).sum + (ws.map TL.tl).length = wt ws := by
  unfold wt
  rw [List.length_map, List.map_map]
  congr 2
theorem join_le {S : Str} {c : Nat} (hS : TL.tl S = [c]) (ws : List Str) : (Txt.join S ws).length ≤ wt ws := by
  rw [TL.len_tl, TL.join_eq, TL.tl_join, hS, ← wt_tl]
  exact (joinL_len1 c _).1
theorem join_eqL {S : Str} {c : Nat} (hS : TL.tl S = [c]) {ws : List Str} (h : ws ≠ []) : (Txt.join S ws).length + 1 = wt ws := by
  rw [TL.len_tl, TL.join_eq, TL.tl_join, hS, ← wt_tl]
  exact (joinL_len1 c _).2 (by simpa using h)
theorem join_asc {S : Str} {c : Nat} (hS : TL.tl S = [c]) (hc : c < 128) {ws : List Str} (h : ∀ x ∈ ws, Asc x) : Asc (Txt.join S ws) := fun d hd => by
  rw [TL.join_eq, TL.tl_join, hS] at hd
  rcases mem_joinL hd with h1 | ⟨p, hp, h1⟩
  · rw [List.mem_singleton.mp h1]
    exact hc
  · obtain ⟨x, hx, rfl⟩ := List.mem_map.mp hp
    exact h x hx d h1
theorem Cut.wt {z S : Str} {c : Nat} (hS : TL.tl S = [c]) {ws : List Str} (k : Cut z S c ws) : wt ws = z.length + 1 := by
  have := join_eqL hS k.ne
  rw [k.join] at this
  exact this.symm
theorem tl_bl : TL.tl (Str.ofString " ") = [32] := by decide +kernel
theorem tl_fd : TL.tl (Str.ofString "\n") = [10] := by decide +kernel
theorem asc_app {a b : Str} (h : Asc a) (g : Asc b) : Asc (a ++ b) := fun c hc => by
  rw [TL.tl_append] at hc
  exact (List.mem_append.mp hc).elim (h c) (g c)
/-- a list of words: its signs, how much they take -/
structure WL (H : Hp) (p a : Addr) (ws : List Str) (B : Nat) : Prop where
  l : H a = some (.lst (ws.map V.str))
  n : a ≠ p
  asc : ∀ x ∈ ws, Asc x
  w : wt ws ≤ B
theorem WL.but {H H' : Hp} {p a : Addr} {ws : List Str} {B : Nat} (h : WL H p a ws B) (k : But p H H') : WL H' p a ws B := ⟨k _ _ h.n h.l, h.n, h.asc, h.w⟩
theorem WL.same {H H' : Hp} {p a : Addr} {ws : List Str} {B : Nat} (h : WL H p a ws B) (k : Same H H') : WL H' p a ws B := ⟨k _ _ h.l, h.n, h.asc, h.w⟩
theorem WL.mono {H : Hp} {p a : Addr} {ws : List Str} {B B' : Nat} (h : WL H p a ws B) (k : B ≤ B') : WL H p a ws B' := ⟨h.l, h.n, h.asc, Nat.le_trans h.w k⟩
theorem asc_lits {ls : List Str} {n : Nat} (h : (ls.all fun x => (TL.tl x).all (fun c => decide (c < 128)) && decide (x.length ≤ n)) = true) : (∀ x ∈ ls, Asc x) ∧ ∀ x ∈ ls, x.length ≤ n := by
  rw [List.all_eq_true] at h
  refine ⟨fun x hx c hc => ?_, fun x hx => ?_⟩
  · have := h x hx
    rw [Bool.and_eq_true] at this
    exact of_decide_eq_true (List.all_eq_true.mp this.1 c hc)
  · have := h x hx
    rw [Bool.and_eq_true] at this
    exact of_decide_eq_true this.2
theorem cut_toS (ws : List Str) (k : Int) (h : 0 ≤ k) : cutV (ws.map V.str) none (some k) = (ws.take k.toNat).map V.str := by
  obtain ⟨n, rfl⟩ : ∃ n : Nat, k = n := ⟨k.toNat, by omega⟩
  rw [cut_to, Int.toNat_natCast, List.map_take]
theorem cut_fromS (ws : List Str) (k : Int) (h : 0 ≤ k) : cutV (ws.map V.str) (some k) none = (ws.drop k.toNat).map V.str := by
  obtain ⟨n, rfl⟩ : ∃ n : Nat, k = n := ⟨k.toNat, by omega⟩
  rw [cut_from, Int.toNat_natCast, List.map_drop]
section
variable {P : Program} {w : World} {K : PySem.W.Frag} {mg : Str → Option Value} {base : Heap} {C NT : Addr}
structure RowsIn (H : Hp) (l : Addr) (rows : List Str) (M : Nat) : Prop where
  l : H l = some (.lst (rows.map V.str))
  ne : rows ≠ []
  mn : rows.length ≤ 600001
  sm : ∀ x ∈ rows, x.length ≤ M
  asc : ∀ x ∈ rows, Asc x
def spRow : Sp := fun vs H Q _ => ∃ (p l : Addr) (rows : List Str) (M : Nat), vs = [.ref p, .ref l] ∧ Pot H p ∧ RowsIn H l rows M ∧ M ≤ 200000 ∧ ∀ y H', y.length ≤ 2 * M + 100 → Asc y → Drew p H H' → Q (.str y) H'
theorem ok_row {f : Addr} {fd : FuncData} (F : FnP K "_law_row" "_law_row" S_row f fd) (H_take : TakeOk P w K mg base) (B : Blt mg) : FnOk P w K mg base CX0 2 f fd P_row spRow := by
  obtain ⟨f_take, fd_take, F_take, b_take, G_take, g_take⟩ := H_take
  have nd := sc_row.nd
  refine F.ok sc_row (fun vs H Q E h => ?_) (fun cdv A outer s H vs Q E hr h => ⟨_, PSs.nox (pss_cons (ps_set (i := 2) nd rfl (.inl rfl) (pe_lst (pa_cons pe_str (pa_cons pe_str (pa_cons pe_str (pa_cons pe_str (pa_cons pe_str (pa_cons pe_str (pa_cons pe_str (pa_cons pe_str (pa_cons pe_str (pa_cons pe_str pa_nil))))))))))))
     (pss_cons (ps_set (i := 2) nd rfl (.inl rfl) (pe_op op_cat (pv 2) (pe_lst (pa_cons pe_str (pa_cons pe_str (pa_cons pe_str (pa_cons pe_str (pa_cons pe_str (pa_cons pe_str (pa_cons pe_str pa_nil))))))))))
     (pss_cons (ps_set (i := 2) nd rfl (.inl rfl) (pe_op op_cat (pv 2) (pe_lst (pa_cons pe_str (pa_cons pe_str (pa_cons pe_str (pa_cons pe_str (pa_cons pe_str pa_nil))))))))
     (pss_cons (ps_set (i := 3) nd rfl (.inl rfl) (pe_split (pe_ix ix_list (pv 1) (pe_call G_take (hr.mono (by first | decide | omega)) rfl g_take F_take.kp b_take .nil pass0 (pa_cons (pv 0) (pa_cons (pe_callB call_len_seq (by rfl) B.len_ PySem.boot_len (pa_cons (pv 1) pa_nil)) pa_nil))) (fun _ _ => rfl)) pe_str))
     (pss_cons (ps_set (i := 4) nd rfl (.inl rfl) (pe_call G_take (hr.mono (by first | decide | omega)) rfl g_take F_take.kp b_take .nil pass0 (pa_cons (pv 0) (pa_cons (pe_callB call_len_seq (by rfl) B.len_ PySem.boot_len (pa_cons (pv 3) pa_nil)) pa_nil))))
     (pss_cons (ps_set (i := 5) nd rfl (.inl rfl) (pe_ix ix_list (pe_lst (pa_cons pe_str (pa_cons pe_str (pa_cons pe_str (pa_cons pe_str (pa_cons pe_str (pa_cons pe_str (pa_cons pe_str (pa_cons pe_str (pa_cons (pe_callTy call_str_int (by rfl) B.str_ (by decide +kernel) (pa_cons (pe_op op_pow pe_int pe_int) pa_nil)) (pa_cons (pe_callTy call_str_int (by rfl) B.str_ (by decide +kernel) (pa_cons (pe_op op_add (pe_op op_pow pe_int pe_int) pe_int) pa_nil)) (pa_cons pe_str (pa_cons pe_str pa_nil))))))))))))) (pe_call G_take (hr.mono (by first | decide | omega)) rfl g_take F_take.kp b_take .nil pass0 (pa_cons (pv 0) (pa_cons pe_int pa_nil))) (fun _ _ => rfl)))
     (pss_cons (ps_set (i := 6) nd rfl (.inl rfl) (pe_lst (pa_cons (pe_op op_cat (pe_op op_cat (pe_slice sl_list (pv 3) po_none (po_some (pv 4))) (pe_lst (pa_cons (pv 5) pa_nil))) (pe_slice sl_list (pv 3) (po_some (pe_op op_add (pv 4) pe_int)) po_none)) (pa_cons (pe_op op_cat (pe_op op_cat (pe_slice sl_list (pv 3) po_none (po_some (pv 4))) (pe_lst (pa_cons (pv 5) pa_nil))) (pe_slice sl_list (pv 3) (po_some (pv 4)) po_none)) (pa_cons (pe_op op_cat (pe_slice sl_list (pv 3) po_none (po_some (pv 4))) (pe_slice sl_list (pv 3) (po_some (pe_op op_add (pv 4) pe_int)) po_none)) pa_nil)))))
     (pss_cons (ps_set (i := 6) nd rfl (.inl rfl) (pe_op op_cat (pv 6) (pe_lst (pa_cons (pe_op op_cat (pv 3) (pe_lst (pa_cons pe_str (pa_cons pe_str pa_nil)))) (pa_cons (pe_op op_cat (pv 3) (pe_lst (pa_cons (pe_ix ix_list (pv 3) (pe_un un_neg pe_int) (fun _ _ => rfl)) pa_nil))) (pa_cons (pe_revL (pv 3)) pa_nil))))))
     (pss_cons (ps_set (i := 2) nd rfl (.inl rfl) (pe_op op_cat (pv 2) (pe_op op_rep (pe_lc (own := [("_law_one", 7)]) (g := gName 7) rfl nd (pi_list (pv 6)) (blkOk_by (own := [("_law_one", 7)]) (N := N_row) (sc := defScope S_row) (by decide +kernel)) (fun _ _ _ _ _ => (pg_name (i := 7) nd rfl (.inl rfl))) (fun _ _ _ _ _ => pts_nil) (fun _ _ _ _ _ => (pe_joinK (K := K) rfl pe_str (pv 7)))) pe_int)))
     (pss_one (ps_ret (pe_ix ix_list (pv 2) (pe_call G_take (hr.mono (by first | decide | omega)) rfl g_take F_take.kp b_take .nil pass0 (pa_cons (pv 0) (pa_cons (pe_callB call_len_seq (by rfl) B.len_ PySem.boot_len (pa_cons (pv 2) pa_nil)) pa_nil))) (fun _ _ => rfl))))))))))))), ?_⟩)
  · obtain ⟨p, l, rows, M, rfl, _⟩ := h
    rfl
  · obtain ⟨p, l, rows, M, rfl, hP, hR, hM, q⟩ := h
    rw [show L2.start N_row [V.ref p, V.ref l] = [some (V.ref p), some (.ref l), none, none, none, none, none, none] from rfl]
    have drs : ∀ {H1 H2 : Hp}, Drew p H H1 → Same H1 H2 → Drew p H H2 := fun d k => ⟨d.1.trans (Same.but k), d.2.same k⟩
    have nep : ∀ {H1 : Hp} {a : Addr}, Drew p H H1 → H1 a = none → a ≠ p := fun d n => (d.2.ne n).symm
    have dr0 : Drew p H H := ⟨But.refl, hP⟩
    have lp : l ≠ p := fun e => by obtain ⟨_, _, e2, _⟩ := hP; rw [← e, hR.l] at e2; have := HO.lst.inj (Option.some.inj e2); cases hr : rows with
      | nil => exact hR.ne hr
      | cons a b => rw [hr] at this; cases this
    refine ⟨by show 10 ≤ sizeLine; decide, fun l1 n1 => ?_⟩
    have g1 := asc_lits (n := 40) (ls := [Str.ofString "", Str.ofString " ", Str.ofString "cries", Str.ofString "rounds", Str.ofString "person", Str.ofString "person a", Str.ofString "person a 3", Str.ofString "person q 01", Str.ofString "person a 0", Str.ofString "person zz 2"]) (by decide +kernel)
    generalize hL1 : ([Str.ofString "", Str.ofString " ", Str.ofString "cries", Str.ofString "rounds", Str.ofString "person", Str.ofString "person a", Str.ofString "person a 3", Str.ofString "person q 01", Str.ofString "person a 0", Str.ofString "person zz 2"] : List Str) = L1 at g1
    have len1 : L1.length = 10 := by rw [← hL1]; rfl
    rw [show ([V.str (Str.ofString ""), V.str (Str.ofString " "), V.str (Str.ofString "cries"), V.str (Str.ofString "rounds"), V.str (Str.ofString "person"), V.str (Str.ofString "person a"), V.str (Str.ofString "person a 3"), V.str (Str.ofString "person q 01"), V.str (Str.ofString "person a 0"), V.str (Str.ofString "person zz 2")] : List V) = L1.map V.str from by rw [← hL1]; rfl]
    obtain ⟨s1, m1⟩ := fresh2 (o := .lst (L1.map V.str)) n1
    have d1 := drs dr0 s1
    have p1 := nep dr0 n1
    generalize upd H l1 (.lst (L1.map V.str)) = H1 at s1 m1 d1 ⊢
    simp only [List.set]
    refine ⟨_, rfl, by show 7 ≤ sizeLine; decide, fun l2 n2 => ?_⟩
    have g2 := asc_lits (n := 40) (ls := [Str.ofString "person A 1", Str.ofString "person abcdefghi 0", Str.ofString "tie", Str.ofString "tie t", Str.ofString "tie t a a 4", Str.ofString "tie t a b 1", Str.ofString "tie t a b 2"]) (by decide +kernel)
    generalize hL2 : ([Str.ofString "person A 1", Str.ofString "person abcdefghi 0", Str.ofString "tie", Str.ofString "tie t", Str.ofString "tie t a a 4", Str.ofString "tie t a b 1", Str.ofString "tie t a b 2"] : List Str) = L2 at g2
    have len2 : L2.length = 7 := by rw [← hL2]; rfl
    rw [show ([V.str (Str.ofString "person A 1"), V.str (Str.ofString "person abcdefghi 0"), V.str (Str.ofString "tie"), V.str (Str.ofString "tie t"), V.str (Str.ofString "tie t a a 4"), V.str (Str.ofString "tie t a b 1"), V.str (Str.ofString "tie t a b 2")] : List V) = L2.map V.str from by rw [← hL2]; rfl]
    obtain ⟨s2, m2⟩ := fresh2 (o := .lst (L2.map V.str)) n2
    have d2 := drs d1 s2
    have m1 := s2 _ _ m1
    generalize upd H1 l2 (.lst (L2.map V.str)) = H2 at s2 m2 d2 m1 ⊢
    refine ⟨l1, l2, _, _, rfl, rfl, m1, m2, by rw [List.length_map, List.length_map, len1, len2]; show 17 ≤ sizeLine; decide, fun l3 n3 => ?_⟩
    rw [← List.map_append]
    obtain ⟨s3, m3⟩ := fresh2 (o := .lst ((L1 ++ L2).map V.str)) n3
    have d3 := drs d2 s3
    generalize upd H2 l3 (.lst ((L1 ++ L2).map V.str)) = H3 at s3 m3 d3 ⊢
    simp only [List.set]
    refine ⟨_, rfl, by show 5 ≤ sizeLine; decide, fun l4 n4 => ?_⟩
    have g4 := asc_lits (n := 40) (ls := [Str.ofString "tie t a b 9 3 1 3 2", Str.ofString "tie t a b 9 3 1 2 2", Str.ofString "tie t a b 9 9 1", Str.ofString "tie t a b 9 0 1", Str.ofString "tie  t a b 2"]) (by decide +kernel)
    generalize hL4 : ([Str.ofString "tie t a b 9 3 1 3 2", Str.ofString "tie t a b 9 3 1 2 2", Str.ofString "tie t a b 9 9 1", Str.ofString "tie t a b 9 0 1", Str.ofString "tie  t a b 2"] : List Str) = L4 at g4
    have len4 : L4.length = 5 := by rw [← hL4]; rfl
    rw [show ([V.str (Str.ofString "tie t a b 9 3 1 3 2"), V.str (Str.ofString "tie t a b 9 3 1 2 2"), V.str (Str.ofString "tie t a b 9 9 1"), V.str (Str.ofString "tie t a b 9 0 1"), V.str (Str.ofString "tie  t a b 2")] : List V) = L4.map V.str from by rw [← hL4]; rfl]
    obtain ⟨s4, m4⟩ := fresh2 (o := .lst (L4.map V.str)) n4
    have d4 := drs d3 s4
    have m3 := s4 _ _ m3
    generalize upd H3 l4 (.lst (L4.map V.str)) = H4 at s4 m4 d4 m3 ⊢
    refine ⟨l3, l4, _, _, rfl, rfl, m3, m4, by rw [List.length_map, List.length_map, List.length_append, len1, len2, len4]; show 22 ≤ sizeLine; decide, fun l5 n5 => ?_⟩
    rw [← List.map_append]
    have gS : (∀ x ∈ L1 ++ L2 ++ L4, Asc x) ∧ ∀ x ∈ L1 ++ L2 ++ L4, x.length ≤ 40 := by
      refine ⟨fun x hx => ?_, fun x hx => ?_⟩ <;> rcases List.mem_append.mp hx with hx | hx
      · exact (List.mem_append.mp hx).elim (g1.1 x) (g2.1 x)
      · exact g4.1 x hx
      · exact (List.mem_append.mp hx).elim (g1.2 x) (g2.2 x)
      · exact g4.2 x hx
    have lenS : (L1 ++ L2 ++ L4).length = 22 := by rw [List.length_append, List.length_append, len1, len2, len4]
    generalize L1 ++ L2 ++ L4 = S at gS lenS ⊢
    obtain ⟨s5, m5⟩ := fresh2 (o := .lst (S.map V.str)) n5
    have d5 := drs d4 s5
    have p5 := nep d4 n5
    generalize upd H4 l5 (.lst (S.map V.str)) = H5 at s5 m5 d5 ⊢
    simp only [List.set]
    have rl : 1 ≤ rows.length := List.length_pos_iff.mpr hR.ne
    have rm := hR.mn
    have hl5 := d5.1 _ _ lp hR.l
    refine ⟨_, rfl, _, rfl, _, rfl, l, _, rfl, .inl (SqL.of hl5), p, _, rfl, d5.2, by rw [List.length_map]; omega, log_small (n := 600001) (by rw [List.length_map]; omega) (by rw [List.length_map]; omega) (by decide), fun k H6 k0 k1 dr6 => ?_⟩
    rw [List.length_map] at k1
    have hk : k.toNat < rows.length := by omega
    have d6 := d5.trans dr6
    have gx := List.getElem_mem hk
    have xl := hR.sm _ gx
    have xa := hR.asc _ gx
    refine ⟨l, _, k, .str rows[k.toNat], rfl, rfl, SqL.of (d6.1 _ _ lp hR.l), atI_int k0 (by rw [List.getElem?_map, List.getElem?_eq_getElem hk]; rfl), ⟨_, rfl⟩, _, _, rfl, rfl, by decide +kernel, by rw [sizeLine_eq]; omega, fun lw nw => ?_⟩
    have kx := cut_blank rows[k.toNat]
    have wx := kx.wt tl_bl
    have ax := kx.asc xa
    generalize Txt.split rows[k.toNat] (Str.ofString " ") = ws at kx wx ax ⊢
    have m56 := dr6.1 _ _ p5 m5
    obtain ⟨s7, m7⟩ := fresh2 (o := .lst (ws.map V.str)) nw
    have d7 := drs d6 s7
    have W : WL _ p lw ws (M + 1) := ⟨m7, nep d6 nw, ax, by omega⟩
    have m57 := s7 _ _ m56
    generalize upd H6 lw (.lst (ws.map V.str)) = H7 at s7 m7 d7 W m57 ⊢
    have wl1 : 1 ≤ ws.length := List.length_pos_iff.mpr kx.ne
    have wlm : ws.length ≤ M + 1 := Nat.le_trans (wt_len ws) W.w
    refine ⟨_, rfl, _, rfl, lw, _, rfl, .inl (SqL.of m7), p, _, rfl, d7.2, by rw [List.length_map]; omega, log_small (n := 600001) (by rw [List.length_map]; omega) (by rw [List.length_map]; omega) (by decide), fun at_ H8 a0 a1 dr8 => ?_⟩
    have d8 := d7.trans dr8
    have W8 := W.but dr8.1
    have m58 := dr8.1 _ _ p5 m57
    simp only [List.set]
    refine ⟨_, _, rfl, rfl, ⟨by decide, by decide, by decide⟩, _, rfl, by decide +kernel, _, _, rfl, rfl, ⟨by decide, by decide, by decide⟩, _, _, rfl, rfl, _, rfl, by decide +kernel, by show 12 ≤ sizeLine; decide, fun l9 n9 => ?_⟩
    have g9 := asc_lits (n := 40) (ls := [Str.ofString "0", Str.ofString "1", Str.ofString "2", Str.ofString "3", Str.ofString "01", Str.ofString "", Str.ofString "a", Str.ofString "zz", Str.ofString (toString ((10 : Int) ^ (30 : Int).toNat)), Str.ofString (toString ((10 : Int) ^ (30 : Int).toNat + 1)), Str.ofString "-1", Str.ofString "13"]) (by decide +kernel)
    generalize hL9 : ([Str.ofString "0", Str.ofString "1", Str.ofString "2", Str.ofString "3", Str.ofString "01", Str.ofString "", Str.ofString "a", Str.ofString "zz", Str.ofString (toString ((10 : Int) ^ (30 : Int).toNat)), Str.ofString (toString ((10 : Int) ^ (30 : Int).toNat + 1)), Str.ofString "-1", Str.ofString "13"] : List Str) = L9 at g9
    have len9 : L9.length = 12 := by rw [← hL9]; rfl
    rw [show ([V.str (Str.ofString "0"), V.str (Str.ofString "1"), V.str (Str.ofString "2"), V.str (Str.ofString "3"), V.str (Str.ofString "01"), V.str (Str.ofString ""), V.str (Str.ofString "a"), V.str (Str.ofString "zz"), V.str (Str.ofString (toString ((10 : Int) ^ (30 : Int).toNat))), V.str (Str.ofString (toString ((10 : Int) ^ (30 : Int).toNat + 1))), V.str (Str.ofString "-1"), V.str (Str.ofString "13")] : List V) = L9.map V.str from by rw [← hL9]; rfl]
    obtain ⟨s9, m9⟩ := fresh2 (o := .lst (L9.map V.str)) n9
    have d9 := drs d8 s9
    have p9 := nep d8 n9
    have W9 := W8.same s9
    have m59 := s9 _ _ m58
    generalize upd H8 l9 (.lst (L9.map V.str)) = H9 at s9 m9 d9 W9 m59 ⊢
    refine ⟨_, rfl, p, 12, rfl, d9.2, by decide, log_small (n := 12) (by decide) (by decide) (by decide), fun k9 H10 k90 k91 dr10 => ?_⟩
    have hk9 : k9.toNat < L9.length := by omega
    have gw := List.getElem_mem hk9
    have wa := g9.1 _ gw
    have wl40 := g9.2 _ gw
    have hat9 : atI (L9.map V.str) k9 = some (.str L9[k9.toNat]) := atI_int k90 (by rw [List.getElem?_map, List.getElem?_eq_getElem hk9]; rfl)
    refine ⟨l9, _, k9, .str L9[k9.toNat], rfl, rfl, SqL.of (dr10.1 _ _ p9 m9), hat9, ?_⟩
    generalize L9[k9.toNat] = word at wa wl40 ⊢
    have d10 := d9.trans dr10
    have W10 := W9.but dr10.1
    have m510 := dr10.1 _ _ p5 m59
    simp only [List.set]
    have mk : ∀ {Hc : Hp} {a : Addr} {wl : List Str} {B : Nat}, Drew p H Hc → Hc a = none → (∀ x ∈ wl, Asc x) → wt wl ≤ B → Same Hc (upd Hc a (.lst (wl.map V.str))) ∧ Drew p H (upd Hc a (.lst (wl.map V.str))) ∧ WL (upd Hc a (.lst (wl.map V.str))) p a wl B := fun dc nc ac bc => by
      obtain ⟨k1, k2⟩ := fresh2 (o := .lst _) nc
      exact ⟨k1, drs dc k1, k2, nep dc nc, ac, bc⟩
    have at1 : 0 ≤ at_ + 1 := by omega
    have wsB : wt ws = rows[k.toNat].length + 1 := wx
    have wsM : wt ws ≤ M + 1 := W.w
    have tk := wt_take ws at_.toNat
    have dp := wt_drop_le ws (show at_.toNat ≤ (at_ + 1).toNat by omega)
    have aT : ∀ n, ∀ x ∈ ws.take n, Asc x := fun n x hx => ax x (List.mem_of_mem_take hx)
    have aD : ∀ n, ∀ x ∈ ws.drop n, Asc x := fun n x hx => ax x (List.mem_of_mem_drop hx)
    have a1' : ∀ x ∈ [word], Asc x := fun x hx => by rw [List.mem_singleton.mp hx]; exact wa
    have aA : ∀ {a b : List Str}, (∀ x ∈ a, Asc x) → (∀ x ∈ b, Asc x) → ∀ x ∈ a ++ b, Asc x := fun h g x hx => (List.mem_append.mp hx).elim (h x) (g x)
    have w1 : wt [word] ≤ 41 := by rw [wt_one]; omega
    have szB : ∀ {a b : List Str} {A C : Nat}, wt a ≤ A → wt b ≤ C → A + C ≤ 1300000 → (a.map V.str).length + (b.map V.str).length ≤ sizeLine := fun {a b A C} h g j => by
      have := wt_len a
      have := wt_len b
      rw [List.length_map, List.length_map, sizeLine_eq]
      omega
    refine ⟨_, rfl, _, rfl, at_, rfl, lw, _, rfl, SqL.of W10.l, fun q20 nq20 => ?_⟩
    rw [cut_toS ws at_ a0]
    obtain ⟨s20, d20, W20⟩ := mk (wl := ws.take at_.toNat) (B := (M + 1)) d10 nq20 (aT _) (by omega)
    have W10 := W10.same s20
    have m510 := s20 _ _ m510
    generalize upd H10 q20 (.lst ((ws.take at_.toNat).map V.str)) = H20 at s20 d20 W20 W10 m510 ⊢
    refine ⟨_, rfl, by show 1 ≤ sizeLine; decide, fun q21 nq21 => ?_⟩
    rw [show ([V.str word] : List V) = [word].map V.str from rfl]
    obtain ⟨s21, d21, W21⟩ := mk (wl := [word]) (B := 41) d20 nq21 a1' w1
    have W10 := W10.same s21
    have m510 := s21 _ _ m510
    have W20 := W20.same s21
    generalize upd H20 q21 (.lst (([word]).map V.str)) = H21 at s21 d21 W21 W10 m510 W20 ⊢
    refine ⟨q20, q21, _, _, rfl, rfl, W20.l, W21.l, szB W20.w W21.w (by omega), fun q22 nq22 => ?_⟩
    rw [← List.map_append]
    obtain ⟨s22, d22, W22⟩ := mk (wl := (ws.take at_.toNat) ++ [word]) (B := (M + 1 + 41)) d21 nq22 (aA (aT _) a1') (by rw [wt_app]; omega)
    have W10 := W10.same s22
    have m510 := s22 _ _ m510
    have W20 := W20.same s22
    have W21 := W21.same s22
    generalize upd H21 q22 (.lst (((ws.take at_.toNat) ++ [word]).map V.str)) = H22 at s22 d22 W22 W10 m510 W20 W21 ⊢
    refine ⟨_, rfl, _, rfl, _, _, rfl, rfl, at_ + 1, rfl, lw, _, rfl, SqL.of W10.l, fun q23 nq23 => ?_⟩
    rw [cut_fromS ws _ at1]
    obtain ⟨s23, d23, W23⟩ := mk (wl := ws.drop (at_ + 1).toNat) (B := (M + 1)) d22 nq23 (aD _) (by omega)
    have W10 := W10.same s23
    have m510 := s23 _ _ m510
    have W20 := W20.same s23
    have W21 := W21.same s23
    have W22 := W22.same s23
    generalize upd H22 q23 (.lst ((ws.drop (at_ + 1).toNat).map V.str)) = H23 at s23 d23 W23 W10 m510 W20 W21 W22 ⊢
    refine ⟨q22, q23, _, _, rfl, rfl, W22.l, W23.l, szB W22.w W23.w (by omega), fun q24 nq24 => ?_⟩
    rw [← List.map_append]
    obtain ⟨s24, d24, W24⟩ := mk (wl := (ws.take at_.toNat ++ [word]) ++ (ws.drop (at_ + 1).toNat)) (B := (2 * (M + 1) + 45)) d23 nq24 (aA (aA (aT _) a1') (aD _)) (by rw [wt_app, wt_app]; omega)
    have W10 := W10.same s24
    have m510 := s24 _ _ m510
    have W20 := W20.same s24
    have W21 := W21.same s24
    have W22 := W22.same s24
    have W23 := W23.same s24
    generalize upd H23 q24 (.lst (((ws.take at_.toNat ++ [word]) ++ (ws.drop (at_ + 1).toNat)).map V.str)) = H24 at s24 d24 W24 W10 m510 W20 W21 W22 W23 ⊢
    refine ⟨_, rfl, _, rfl, at_, rfl, lw, _, rfl, SqL.of W10.l, fun q25 nq25 => ?_⟩
    rw [cut_toS ws at_ a0]
    obtain ⟨s25, d25, W25⟩ := mk (wl := ws.take at_.toNat) (B := (M + 1)) d24 nq25 (aT _) (by omega)
    have W10 := W10.same s25
    have m510 := s25 _ _ m510
    have W20 := W20.same s25
    have W21 := W21.same s25
    have W22 := W22.same s25
    have W23 := W23.same s25
    have W24 := W24.same s25
    generalize upd H24 q25 (.lst ((ws.take at_.toNat).map V.str)) = H25 at s25 d25 W25 W10 m510 W20 W21 W22 W23 W24 ⊢
    refine ⟨_, rfl, by show 1 ≤ sizeLine; decide, fun q26 nq26 => ?_⟩
    rw [show ([V.str word] : List V) = [word].map V.str from rfl]
    obtain ⟨s26, d26, W26⟩ := mk (wl := [word]) (B := 41) d25 nq26 a1' w1
    have W10 := W10.same s26
    have m510 := s26 _ _ m510
    have W20 := W20.same s26
    have W21 := W21.same s26
    have W22 := W22.same s26
    have W23 := W23.same s26
    have W24 := W24.same s26
    have W25 := W25.same s26
    generalize upd H25 q26 (.lst (([word]).map V.str)) = H26 at s26 d26 W26 W10 m510 W20 W21 W22 W23 W24 W25 ⊢
    refine ⟨q25, q26, _, _, rfl, rfl, W25.l, W26.l, szB W25.w W26.w (by omega), fun q27 nq27 => ?_⟩
    rw [← List.map_append]
    obtain ⟨s27, d27, W27⟩ := mk (wl := (ws.take at_.toNat) ++ [word]) (B := (M + 1 + 41)) d26 nq27 (aA (aT _) a1') (by rw [wt_app]; omega)
    have W10 := W10.same s27
    have m510 := s27 _ _ m510
    have W20 := W20.same s27
    have W21 := W21.same s27
    have W22 := W22.same s27
    have W23 := W23.same s27
    have W24 := W24.same s27
    have W25 := W25.same s27
    have W26 := W26.same s27
    generalize upd H26 q27 (.lst (((ws.take at_.toNat) ++ [word]).map V.str)) = H27 at s27 d27 W27 W10 m510 W20 W21 W22 W23 W24 W25 W26 ⊢
    refine ⟨_, rfl, _, rfl, at_, rfl, lw, _, rfl, SqL.of W10.l, fun q28 nq28 => ?_⟩
    rw [cut_fromS ws _ a0]
    obtain ⟨s28, d28, W28⟩ := mk (wl := ws.drop at_.toNat) (B := (M + 1)) d27 nq28 (aD _) (by omega)
    have W10 := W10.same s28
    have m510 := s28 _ _ m510
    have W20 := W20.same s28
    have W21 := W21.same s28
    have W22 := W22.same s28
    have W23 := W23.same s28
    have W24 := W24.same s28
    have W25 := W25.same s28
    have W26 := W26.same s28
    have W27 := W27.same s28
    generalize upd H27 q28 (.lst ((ws.drop at_.toNat).map V.str)) = H28 at s28 d28 W28 W10 m510 W20 W21 W22 W23 W24 W25 W26 W27 ⊢
    refine ⟨q27, q28, _, _, rfl, rfl, W27.l, W28.l, szB W27.w W28.w (by omega), fun q29 nq29 => ?_⟩
    rw [← List.map_append]
    obtain ⟨s29, d29, W29⟩ := mk (wl := (ws.take at_.toNat ++ [word]) ++ (ws.drop at_.toNat)) (B := (2 * (M + 1) + 45)) d28 nq29 (aA (aA (aT _) a1') (aD _)) (by rw [wt_app, wt_app]; omega)
    have W10 := W10.same s29
    have m510 := s29 _ _ m510
    have W20 := W20.same s29
    have W21 := W21.same s29
    have W22 := W22.same s29
    have W23 := W23.same s29
    have W24 := W24.same s29
    have W25 := W25.same s29
    have W26 := W26.same s29
    have W27 := W27.same s29
    have W28 := W28.same s29
    generalize upd H28 q29 (.lst (((ws.take at_.toNat ++ [word]) ++ (ws.drop at_.toNat)).map V.str)) = H29 at s29 d29 W29 W10 m510 W20 W21 W22 W23 W24 W25 W26 W27 W28 ⊢
    refine ⟨_, rfl, _, rfl, at_, rfl, lw, _, rfl, SqL.of W10.l, fun q30 nq30 => ?_⟩
    rw [cut_toS ws at_ a0]
    obtain ⟨s30, d30, W30⟩ := mk (wl := ws.take at_.toNat) (B := (M + 1)) d29 nq30 (aT _) (by omega)
    have W10 := W10.same s30
    have m510 := s30 _ _ m510
    have W20 := W20.same s30
    have W21 := W21.same s30
    have W22 := W22.same s30
    have W23 := W23.same s30
    have W24 := W24.same s30
    have W25 := W25.same s30
    have W26 := W26.same s30
    have W27 := W27.same s30
    have W28 := W28.same s30
    have W29 := W29.same s30
    generalize upd H29 q30 (.lst ((ws.take at_.toNat).map V.str)) = H30 at s30 d30 W30 W10 m510 W20 W21 W22 W23 W24 W25 W26 W27 W28 W29 ⊢
    refine ⟨_, rfl, _, rfl, _, _, rfl, rfl, at_ + 1, rfl, lw, _, rfl, SqL.of W10.l, fun q31 nq31 => ?_⟩
    rw [cut_fromS ws _ at1]
    obtain ⟨s31, d31, W31⟩ := mk (wl := ws.drop (at_ + 1).toNat) (B := (M + 1)) d30 nq31 (aD _) (by omega)
    have W10 := W10.same s31
    have m510 := s31 _ _ m510
    have W20 := W20.same s31
    have W21 := W21.same s31
    have W22 := W22.same s31
    have W23 := W23.same s31
    have W24 := W24.same s31
    have W25 := W25.same s31
    have W26 := W26.same s31
    have W27 := W27.same s31
    have W28 := W28.same s31
    have W29 := W29.same s31
    have W30 := W30.same s31
    generalize upd H30 q31 (.lst ((ws.drop (at_ + 1).toNat).map V.str)) = H31 at s31 d31 W31 W10 m510 W20 W21 W22 W23 W24 W25 W26 W27 W28 W29 W30 ⊢
    refine ⟨q30, q31, _, _, rfl, rfl, W30.l, W31.l, szB W30.w W31.w (by omega), fun q32 nq32 => ?_⟩
    rw [← List.map_append]
    obtain ⟨s32, d32, W32⟩ := mk (wl := (ws.take at_.toNat) ++ (ws.drop (at_ + 1).toNat)) (B := (2 * (M + 1) + 45)) d31 nq32 (aA (aT _) (aD _)) (by rw [wt_app]; omega)
    have W10 := W10.same s32
    have m510 := s32 _ _ m510
    have W20 := W20.same s32
    have W21 := W21.same s32
    have W22 := W22.same s32
    have W23 := W23.same s32
    have W24 := W24.same s32
    have W25 := W25.same s32
    have W26 := W26.same s32
    have W27 := W27.same s32
    have W28 := W28.same s32
    have W29 := W29.same s32
    have W30 := W30.same s32
    have W31 := W31.same s32
    generalize upd H31 q32 (.lst (((ws.take at_.toNat) ++ (ws.drop (at_ + 1).toNat)).map V.str)) = H32 at s32 d32 W32 W10 m510 W20 W21 W22 W23 W24 W25 W26 W27 W28 W29 W30 W31 ⊢
    refine ⟨by show 3 ≤ sizeLine; decide, fun q33 nq33 => ?_⟩
    obtain ⟨s33, M33⟩ := fresh2 (o := .lst [.ref q24, .ref q29, .ref q32]) nq33
    have d33 := drs d32 s33
    have N33 := nep d32 nq33
    have W10 := W10.same s33
    have m510 := s33 _ _ m510
    have W20 := W20.same s33
    have W21 := W21.same s33
    have W22 := W22.same s33
    have W23 := W23.same s33
    have W24 := W24.same s33
    have W25 := W25.same s33
    have W26 := W26.same s33
    have W27 := W27.same s33
    have W28 := W28.same s33
    have W29 := W29.same s33
    have W30 := W30.same s33
    have W31 := W31.same s33
    have W32 := W32.same s33
    generalize upd H32 q33 (.lst [.ref q24, .ref q29, .ref q32]) = H33 at s33 d33 M33 W10 m510 W20 W21 W22 W23 W24 W25 W26 W27 W28 W29 W30 W31 W32 ⊢
    simp only [List.set]
    have g11 := asc_lits (n := 40) (ls := [Str.ofString "1", Str.ofString "1"]) (by decide +kernel)
    have w11 : wt [Str.ofString "1", Str.ofString "1"] ≤ 4 := by decide +kernel
    refine ⟨_, rfl, _, rfl, by show 2 ≤ sizeLine; decide, fun q34 nq34 => ?_⟩
    rw [show ([V.str (Str.ofString "1"), V.str (Str.ofString "1")] : List V) = ([Str.ofString "1", Str.ofString "1"] : List Str).map V.str from rfl]
    obtain ⟨s34, d34, W34⟩ := mk (wl := [Str.ofString "1", Str.ofString "1"]) (B := 4) d33 nq34 g11.1 w11
    have W10 := W10.same s34
    have m510 := s34 _ _ m510
    have W20 := W20.same s34
    have W21 := W21.same s34
    have W22 := W22.same s34
    have W23 := W23.same s34
    have W24 := W24.same s34
    have W25 := W25.same s34
    have W26 := W26.same s34
    have W27 := W27.same s34
    have W28 := W28.same s34
    have W29 := W29.same s34
    have W30 := W30.same s34
    have W31 := W31.same s34
    have W32 := W32.same s34
    have M33 := s34 _ _ M33
    generalize upd H33 q34 (.lst (([Str.ofString "1", Str.ofString "1"]).map V.str)) = H34 at s34 d34 W34 W10 m510 W20 W21 W22 W23 W24 W25 W26 W27 W28 W29 W30 W31 W32 M33 ⊢
    refine ⟨lw, q34, _, _, rfl, rfl, W10.l, W34.l, szB W10.w W34.w (by omega), fun q35 nq35 => ?_⟩
    rw [← List.map_append]
    obtain ⟨s35, d35, W35⟩ := mk (wl := ws ++ [Str.ofString "1", Str.ofString "1"]) (B := (2 * (M + 1) + 45)) d34 nq35 (aA ax g11.1) (by rw [wt_app]; omega)
    have W10 := W10.same s35
    have m510 := s35 _ _ m510
    have W20 := W20.same s35
    have W21 := W21.same s35
    have W22 := W22.same s35
    have W23 := W23.same s35
    have W24 := W24.same s35
    have W25 := W25.same s35
    have W26 := W26.same s35
    have W27 := W27.same s35
    have W28 := W28.same s35
    have W29 := W29.same s35
    have W30 := W30.same s35
    have W31 := W31.same s35
    have W32 := W32.same s35
    have M33 := s35 _ _ M33
    have W34 := W34.same s35
    generalize upd H34 q35 (.lst ((ws ++ [Str.ofString "1", Str.ofString "1"]).map V.str)) = H35 at s35 d35 W35 W10 m510 W20 W21 W22 W23 W24 W25 W26 W27 W28 W29 W30 W31 W32 M33 W34 ⊢
    obtain ⟨wi, last, hlast⟩ : ∃ wi last, ws = wi ++ [last] := ⟨ws.dropLast, ws.getLast kx.ne, (List.dropLast_concat_getLast kx.ne).symm⟩
    have lm : last ∈ ws := by rw [hlast]; simp
    have lw1 := wt_mem lm
    have al : ∀ x ∈ [last], Asc x := fun x hx => by rw [List.mem_singleton.mp hx]; exact ax _ lm
    have atl : atI (ws.map V.str) (-1) = some (V.str last) := by rw [hlast, List.map_append]; exact atI_last _ _
    refine ⟨_, rfl, _, rfl, _, rfl, lw, _, -1, .str last, rfl, rfl, SqL.of W10.l, atl, by show 1 ≤ sizeLine; decide, fun q36 nq36 => ?_⟩
    rw [show ([V.str last] : List V) = [last].map V.str from rfl]
    obtain ⟨s36, d36, W36⟩ := mk (wl := [last]) (B := (M + 1)) d35 nq36 al (by rw [wt_one]; omega)
    have W10 := W10.same s36
    have m510 := s36 _ _ m510
    have W20 := W20.same s36
    have W21 := W21.same s36
    have W22 := W22.same s36
    have W23 := W23.same s36
    have W24 := W24.same s36
    have W25 := W25.same s36
    have W26 := W26.same s36
    have W27 := W27.same s36
    have W28 := W28.same s36
    have W29 := W29.same s36
    have W30 := W30.same s36
    have W31 := W31.same s36
    have W32 := W32.same s36
    have M33 := s36 _ _ M33
    have W34 := W34.same s36
    have W35 := W35.same s36
    generalize upd H35 q36 (.lst (([last]).map V.str)) = H36 at s36 d36 W36 W10 m510 W20 W21 W22 W23 W24 W25 W26 W27 W28 W29 W30 W31 W32 M33 W34 W35 ⊢
    refine ⟨lw, q36, _, _, rfl, rfl, W10.l, W36.l, szB W10.w W36.w (by omega), fun q37 nq37 => ?_⟩
    rw [← List.map_append]
    obtain ⟨s37, d37, W37⟩ := mk (wl := ws ++ [last]) (B := (2 * (M + 1) + 45)) d36 nq37 (aA ax al) (by rw [wt_app, wt_one]; omega)
    have W10 := W10.same s37
    have m510 := s37 _ _ m510
    have W20 := W20.same s37
    have W21 := W21.same s37
    have W22 := W22.same s37
    have W23 := W23.same s37
    have W24 := W24.same s37
    have W25 := W25.same s37
    have W26 := W26.same s37
    have W27 := W27.same s37
    have W28 := W28.same s37
    have W29 := W29.same s37
    have W30 := W30.same s37
    have W31 := W31.same s37
    have W32 := W32.same s37
    have M33 := s37 _ _ M33
    have W34 := W34.same s37
    have W35 := W35.same s37
    have W36 := W36.same s37
    generalize upd H36 q37 (.lst ((ws ++ [last]).map V.str)) = H37 at s37 d37 W37 W10 m510 W20 W21 W22 W23 W24 W25 W26 W27 W28 W29 W30 W31 W32 M33 W34 W35 W36 ⊢
    refine ⟨_, rfl, lw, _, rfl, SqL.of W10.l, fun q38 nq38 => ?_⟩
    rw [← List.map_reverse]
    obtain ⟨s38, d38, W38⟩ := mk (wl := ws.reverse) (B := (2 * (M + 1) + 45)) d37 nq38 (fun x hx => ax x (List.mem_reverse.mp hx)) (by rw [wt_rev]; omega)
    have W10 := W10.same s38
    have m510 := s38 _ _ m510
    have W20 := W20.same s38
    have W21 := W21.same s38
    have W22 := W22.same s38
    have W23 := W23.same s38
    have W24 := W24.same s38
    have W25 := W25.same s38
    have W26 := W26.same s38
    have W27 := W27.same s38
    have W28 := W28.same s38
    have W29 := W29.same s38
    have W30 := W30.same s38
    have W31 := W31.same s38
    have W32 := W32.same s38
    have M33 := s38 _ _ M33
    have W34 := W34.same s38
    have W35 := W35.same s38
    have W36 := W36.same s38
    have W37 := W37.same s38
    generalize upd H37 q38 (.lst ((ws.reverse).map V.str)) = H38 at s38 d38 W38 W10 m510 W20 W21 W22 W23 W24 W25 W26 W27 W28 W29 W30 W31 W32 M33 W34 W35 W36 W37 ⊢
    refine ⟨by show 3 ≤ sizeLine; decide, fun q39 nq39 => ?_⟩
    obtain ⟨s39, M39⟩ := fresh2 (o := .lst [.ref q35, .ref q37, .ref q38]) nq39
    have d39 := drs d38 s39
    have N39 := nep d38 nq39
    have W10 := W10.same s39
    have m510 := s39 _ _ m510
    have W20 := W20.same s39
    have W21 := W21.same s39
    have W22 := W22.same s39
    have W23 := W23.same s39
    have W24 := W24.same s39
    have W25 := W25.same s39
    have W26 := W26.same s39
    have W27 := W27.same s39
    have W28 := W28.same s39
    have W29 := W29.same s39
    have W30 := W30.same s39
    have W31 := W31.same s39
    have W32 := W32.same s39
    have M33 := s39 _ _ M33
    have W34 := W34.same s39
    have W35 := W35.same s39
    have W36 := W36.same s39
    have W37 := W37.same s39
    have W38 := W38.same s39
    generalize upd H38 q39 (.lst [.ref q35, .ref q37, .ref q38]) = H39 at s39 d39 M39 W10 m510 W20 W21 W22 W23 W24 W25 W26 W27 W28 W29 W30 W31 W32 M33 W34 W35 W36 W37 W38 ⊢
    refine ⟨q33, q39, _, _, rfl, rfl, M33, M39, by show 6 ≤ sizeLine; decide, fun q40 nq40 => ?_⟩
    obtain ⟨s40, M40⟩ := fresh2 (o := .lst ([.ref q24, .ref q29, .ref q32] ++ [.ref q35, .ref q37, .ref q38])) nq40
    have d40 := drs d39 s40
    have N40 := nep d39 nq40
    have W10 := W10.same s40
    have m510 := s40 _ _ m510
    have W20 := W20.same s40
    have W21 := W21.same s40
    have W22 := W22.same s40
    have W23 := W23.same s40
    have W24 := W24.same s40
    have W25 := W25.same s40
    have W26 := W26.same s40
    have W27 := W27.same s40
    have W28 := W28.same s40
    have W29 := W29.same s40
    have W30 := W30.same s40
    have W31 := W31.same s40
    have W32 := W32.same s40
    have M33 := s40 _ _ M33
    have W34 := W34.same s40
    have W35 := W35.same s40
    have W36 := W36.same s40
    have W37 := W37.same s40
    have W38 := W38.same s40
    have M39 := s40 _ _ M39
    generalize upd H39 q40 (.lst ([.ref q24, .ref q29, .ref q32] ++ [.ref q35, .ref q37, .ref q38])) = H40 at s40 d40 M40 W10 m510 W20 W21 W22 W23 W24 W25 W26 W27 W28 W29 W30 W31 W32 M33 W34 W35 W36 W37 W38 M39 ⊢
    simp only [List.set]
    obtain ⟨wls, hwls⟩ : ∃ wls : List (List Str), wls = [(ws.take at_.toNat ++ [word]) ++ (ws.drop (at_ + 1).toNat), (ws.take at_.toNat ++ [word]) ++ (ws.drop at_.toNat), (ws.take at_.toNat) ++ (ws.drop (at_ + 1).toNat), ws ++ [Str.ofString "1", Str.ofString "1"], ws ++ [last], ws.reverse] := ⟨_, rfl⟩
    have six : ∀ (i : Nat) (x : V), ([V.ref q24, V.ref q29, V.ref q32] ++ [V.ref q35, V.ref q37, V.ref q38])[i]? = some x → ∃ a wl, x = .ref a ∧ wls[i]? = some wl ∧ WL H40 p a wl (2 * (M + 1) + 45) := fun i x hx => by
      rw [hwls]
      match i, hx with
      | 0, hx => cases hx; exact ⟨_, _, rfl, rfl, W24⟩
      | 1, hx => cases hx; exact ⟨_, _, rfl, rfl, W29⟩
      | 2, hx => cases hx; exact ⟨_, _, rfl, rfl, W32⟩
      | 3, hx => cases hx; exact ⟨_, _, rfl, rfl, W35⟩
      | 4, hx => cases hx; exact ⟨_, _, rfl, rfl, W37⟩
      | 5, hx => cases hx; exact ⟨_, _, rfl, rfl, W38⟩
      | i + 6, hx => cases hx
    have lwls : wls.length = 6 := by rw [hwls]; rfl
    refine ⟨_, rfl, _, rfl, q40, rfl, ⟨_, SqL.of M40⟩, fun D nD => ?_⟩
    refine lc_mapL (ys := (wls.map (Txt.join (Str.ofString " "))).map V.str) (walk_list (K := K) (a := q40) (xs := [V.ref q24, V.ref q29, V.ref q32] ++ [V.ref q35, V.ref q37, V.ref q38])) nD (fun H' s' => SqL.of (s' _ _ M40)) (by rw [List.length_map, List.length_map, lwls]; rfl) (by show 6 ≤ 1000000; decide) ?_ ?_
    · rintro i x y HH k hx hy s4 hk
      obtain ⟨a, wl, rfl, ew, Wx⟩ := six i x hx
      rw [List.getElem?_map, List.getElem?_map, ew] at hy
      cases hy
      have Wx := Wx.same s4
      have l1 := wt_len wl
      have l2 := Wx.w
      refine ⟨rfl, ⟨_, rfl⟩, _, rfl, Str.ofString " ", a, wl, rfl, rfl, .inl (SqL.of Wx.l), ?_, hk HH fun _ _ e => e⟩
      rw [show (Str.ofString " ").length = 1 from rfl]
      have e : (wl.map (·.length)).sum + wl.length * 1 = wt wl := by rw [Nat.mul_one]; rfl
      rw [e]
      omega
    intro HJ sJ hD
    have gJ : (∀ z ∈ wls.map (Txt.join (Str.ofString " ")), Asc z) ∧ ∀ z ∈ wls.map (Txt.join (Str.ofString " ")), z.length ≤ (2 * (M + 1) + 45) := by
      have all : ∀ wl ∈ wls, (∀ x ∈ wl, Asc x) ∧ wt wl ≤ (2 * (M + 1) + 45) := fun wl hwl => by
        obtain ⟨i, hi⟩ := List.mem_iff_getElem?.mp hwl
        have hi6 : i < 6 := by rw [← lwls]; exact (List.getElem?_eq_some_iff.mp hi).1
        obtain ⟨a, wl', _, e, Wx⟩ := six i _ (List.getElem?_eq_getElem (show i < ([V.ref q24, V.ref q29, V.ref q32] ++ [V.ref q35, V.ref q37, V.ref q38]).length from hi6))
        rw [hi] at e
        cases e
        exact ⟨Wx.asc, Wx.w⟩
      refine ⟨fun z hz => ?_, fun z hz => ?_⟩ <;> obtain ⟨wl, hwl, rfl⟩ := List.mem_map.mp hz
      · exact join_asc tl_bl (by decide) (all wl hwl).1
      · exact Nat.le_trans (join_le tl_bl wl) (all wl hwl).2
    have lJ : (wls.map (Txt.join (Str.ofString " "))).length = 6 := by rw [List.length_map, lwls]
    generalize wls.map (Txt.join (Str.ofString " ")) = J at gJ lJ hD
    have dJ := drs d40 sJ
    have m5J := sJ _ _ m510
    refine ⟨D, 4, _, rfl, rfl, hD, by decide, by decide, by rw [List.length_map, lJ]; show 24 ≤ sizeLine; decide, fun lr nr => ?_⟩
    obtain ⟨sr, mr⟩ := fresh2 (o := .lst (List.replicate (4 : Int).toNat (J.map V.str)).flatten) nr
    have dr' := drs dJ sr
    have m5r := sr _ _ m5J
    generalize upd HJ lr (.lst (List.replicate (4 : Int).toNat (J.map V.str)).flatten) = Hr at sr mr dr' m5r ⊢
    refine ⟨l5, lr, _, _, rfl, rfl, m5r, mr, ?_, fun lz nz => ?_⟩
    · rw [List.length_map, lenS, List.length_flatten, List.map_replicate, List.length_map, lJ]
      show 22 + 24 ≤ sizeLine
      decide
    have eZ : S.map V.str ++ (List.replicate (4 : Int).toNat (J.map V.str)).flatten = (S ++ (List.replicate 4 J).flatten).map V.str := by
      rw [List.map_append, List.map_flatten, List.map_replicate]
      rfl
    rw [eZ]
    have gZ : (∀ x ∈ S ++ (List.replicate 4 J).flatten, Asc x) ∧ ∀ x ∈ S ++ (List.replicate 4 J).flatten, x.length ≤ (2 * (M + 1) + 45) := by
      have inJ : ∀ x ∈ (List.replicate 4 J).flatten, x ∈ J := fun x hx => by
        obtain ⟨l, hl, hx⟩ := List.mem_flatten.mp hx
        rw [List.eq_of_mem_replicate hl] at hx
        exact hx
      refine ⟨fun x hx => (List.mem_append.mp hx).elim (gS.1 x) fun h => gJ.1 x (inJ x h), fun x hx => (List.mem_append.mp hx).elim (fun h => ?_) fun h => gJ.2 x (inJ x h)⟩
      have := gS.2 x h
      omega
    have lZ : (S ++ (List.replicate 4 J).flatten).length = 46 := by
      rw [List.length_append, lenS, List.length_flatten, List.map_replicate, lJ]
      decide
    generalize S ++ (List.replicate 4 J).flatten = Z at gZ lZ ⊢
    obtain ⟨sz, mz⟩ := fresh2 (o := .lst (Z.map V.str)) nz
    have dz := drs dr' sz
    have pz := nep dr' nz
    generalize upd Hr lz (.lst (Z.map V.str)) = Hz at sz mz dz ⊢
    simp only [List.set]
    refine ⟨_, rfl, _, rfl, _, rfl, lz, _, rfl, .inl (SqL.of mz), p, _, rfl, dz.2, by rw [List.length_map, lZ]; decide, log_small (n := 46) (by rw [List.length_map, lZ]; decide) (by rw [List.length_map, lZ]; decide) (by decide), fun kz Hy kz0 kz1 dry => ?_⟩
    rw [List.length_map] at kz1
    have hkz : kz.toNat < Z.length := by omega
    have gz := List.getElem_mem hkz
    refine ⟨lz, _, kz, .str Z[kz.toNat], rfl, rfl, SqL.of (dry.1 _ _ pz mz), atI_int kz0 (by rw [List.getElem?_map, List.getElem?_eq_getElem hkz]; rfl), ?_⟩
    have := gZ.2 _ gz
    exact q _ _ (by omega) (gZ.1 _ gz) (dz.trans dry)
end
end Cw
namespace Cw
open PySem PySem.Spec PyProof.Rows L2
theorem sl_strK {X : Cx} {K : PySem.W.Frag} (h : X.K = K) : SlR X rSlS := by
  subst h
  exact sl_str
def rNeNilL (K : PySem.W.Frag) : R2 := fun x y H Q => ∃ (p q : Addr) (xs : List V), x = .ref p ∧ y = .ref q ∧ SqL K H p xs ∧ SqL K H q [] ∧ Q (.bl (!xs.isEmpty)) H
theorem op_neNilL {X : Cx} (hu : X.A.units + 1 < cLine) : OpR X (compareOp .NotEq) (rNeNilL X.K) := by
  intro pins s σ H x y v u Q I rx ry h
  obtain ⟨p, q, xs, rfl, rfl, hp, hq, k⟩ := h
  cases rx
  cases ry
  obtain ⟨its, r1, l1, _⟩ := I.list hp
  obtain ⟨jts, r2, l2, _⟩ := I.list hq
  cases r2
  have room : X.A.units < cLine := by omega
  have fin : ∀ {b : Bool}, SeqAt.RcNeAt X.A s (.ref p) (.ref q) b → b = (!xs.isEmpty) → wpAny (model X.prog X.w) X.A (compareOp .NotEq (.ref p) (.ref q)) (EP X pins σ Q) X.xe s := fun {b} hb e => hb X.prog X.w _ _ ⟨.bl _, H, I, congrArg Value.bool e, k⟩
  cases xs with
  | nil =>
    cases r1
    exact fin (SeqAt.RcNeAt.lists (e := fun _ => true) l1.isList l2.isList rfl room (fun j _ h2 => absurd h2 (by simp))) rfl
  | cons a r =>
    cases r1
    exact fin (SeqAt.RcNeAt.lists_lengths l1.isList l2.isList (by simp) room) rfl
theorem iteB {b : Bool} {A B : Prop} (h : b = true → A) (g : b = false → B) : if b = true then A else B := by
  cases b
  · exact g rfl
  · exact h rfl
theorem WL.updD {H : Hp} {p a D : Addr} {ws : List Str} {B : Nat} {o : HO} (h : WL H p a ws B) (n : a ≠ D) : WL (upd H D o) p a ws B := ⟨by rw [upd_ne n]; exact h.l, h.n, h.asc, h.w⟩
theorem eight_at {x : Int} (h0 : 0 ≤ x) (h : x.toNat < 8) : atI (Str.ofString "abcdefgh").cps.toList x = some (97 + x.toNat) := by
  have e : (x.toNat : Int) = x := Int.toNat_of_nonneg h0
  rw [← e]
  refine atI_nat (j := x.toNat) ?_
  have key : ∀ n : Fin 8, (Str.ofString "abcdefgh").cps.toList[n.val]? = some (97 + n.val) := by decide +kernel
  exact key ⟨x.toNat, h⟩
section
variable {P : Program} {w : World} {K : PySem.W.Frag} {mg : Str → Option Value} {base : Heap} {C NT : Addr}
def spAgain : Sp := fun vs H Q _ => ∃ (p l : Addr) (rows : List Str) (M : Nat), vs = [.ref p, .ref l] ∧ Pot H p ∧ RowsIn H l rows M ∧ M ≤ 200000 ∧ ∀ y H', y.length ≤ M + 60 → Asc y → Drew p H H' → Q (.str y) H'
theorem ok_again {f : Addr} {fd : FuncData} (F : FnP K "_law_again" "_law_again" S_again f fd) (H_take : TakeOk P w K mg base) (B : Blt mg) : FnOk P w K mg base CX0 2 f fd P_again spAgain := by
  obtain ⟨f_take, fd_take, F_take, b_take, G_take, g_take⟩ := H_take
  have nd := sc_again.nd
  refine F.ok sc_again (fun vs H Q E h => ?_) (fun cdv A outer s H vs Q E hr h => ⟨_, PSs.nox (pss_cons (ps_setLc (i := 2) (own := [("_law_row_here", 4)]) (g := gName 4) rfl nd rfl rfl (by rfl) (pi_list (pv 1)) (blkOk_by (own := [("_law_row_here", 4)]) (N := N_again) (sc := defScope S_again) (by decide +kernel)) (fun _ _ _ _ _ => (pg_name (i := 4) nd rfl (.inl rfl))) (fun _ _ _ _ _ => (pts_one (pt_cmpR op_eq (pe_slice (sl_strK (K := K) rfl) (pv 4) po_none (po_some pe_int)) pe_str (nomark _)))) (fun _ _ _ _ _ => (pe_split (pv 4) pe_str)))
     (C8.pss_cut (ps_set (i := 3) nd rfl (.inl rfl) (pe_ifExp (pt_cmpR (op_neNilL (hu_of hr)) (pv 2) (pe_lst pa_nil) (nomark _)) (pe_ix ix_list (pv 2) (pe_call G_take (hr.mono (by first | decide | omega)) rfl g_take F_take.kp b_take .nil pass0 (pa_cons (pv 0) (pa_cons (pe_callB call_len_seq (by rfl) B.len_ PySem.boot_len (pa_cons (pv 2) pa_nil)) pa_nil))) (fun _ _ => rfl)) (pe_lst (pa_cons pe_str (pa_cons pe_str (pa_cons pe_str (pa_cons pe_str (pa_cons pe_str pa_nil))))))))
     (pss_one (ps_ret (pe_join pe_str (pe_op op_cat (pe_op op_cat (pe_slice sl_list (pv 3) po_none (po_some pe_int)) (pe_lst (pa_cons (pe_op op_add_str pe_str (pe_ix ix_str pe_str (pe_call G_take (hr.mono (by first | decide | omega)) rfl g_take F_take.kp b_take .nil pass0 (pa_cons (pv 0) (pa_cons pe_int pa_nil))) (fun _ _ => rfl))) pa_nil))) (pe_slice sl_list (pv 3) (po_some pe_int) po_none))))))), ?_⟩)
  · obtain ⟨p, l, rows, M, rfl, _⟩ := h
    rfl
  · obtain ⟨p, l, rows, M, rfl, hP, hR, hM, q⟩ := h
    rw [show L2.start N_again [V.ref p, V.ref l] = [some (V.ref p), some (.ref l), none, none, none] from rfl]
    have lp : l ≠ p := fun e => by obtain ⟨_, _, e2, _⟩ := hP; rw [← e, hR.l] at e2; have := HO.lst.inj (Option.some.inj e2); cases hr : rows with
      | nil => exact hR.ne hr
      | cons a b => rw [hr] at this; cases this
    have rm := hR.mn
    refine ⟨_, rfl, l, rfl, ⟨_, SqL.of hR.l⟩, fun D nD => ?_⟩
    have pD : D ≠ p := fun e => by obtain ⟨_, _, e2, _⟩ := hP; rw [← e, nD] at e2; cases e2
    refine lc_it (walk_list (K := K) (a := l) (xs := rows.map V.str)) (fun i H2 => Same H (Off D H2) ∧ ∃ us, H2 D = some (.lst us) ∧ us.length ≤ i ∧ ∀ u ∈ us, ∃ a ws, u = V.ref a ∧ a ≠ D ∧ WL H2 p a ws (M + 20)) ⟨fun b o e => Off.at (ne_of_none e nD) (same_new nD _ _ e), [], upd_same, Nat.le_refl _, fun u hu => by cases hu⟩ (fun i H2 _ hh => SqL.of (Off.same _ _ (hh.1 _ _ hR.l))) ?_ ?_
    · rintro i x H2 H2' hi ⟨sm, us, hD, lu, hus⟩ ⟨rfl, hxi⟩
      rw [List.getElem?_map] at hxi
      have hi2 : i < rows.length := by rw [List.length_map] at hi; exact hi
      rw [List.getElem?_eq_getElem hi2] at hxi
      cases hxi
      have gx := List.getElem_mem hi2
      have xl := hR.sm _ gx
      have xa := hR.asc _ gx
      refine ⟨rfl, ?_⟩
      simp only [wipe, List.map_cons, List.map_nil, List.set]
      have back : ∀ {H3 : Hp}, Same H2' H3 → Same H (Off D H3) := fun s3 b o e => Off.at (ne_of_none e nD) (s3 _ _ (Off.same _ _ (sm b o e)))
      refine ⟨_, rfl, _, rfl, _, rfl, by rw [sizeLine_eq]; omega, rfl, _, rfl, ?_⟩
      refine iteB (fun _ => ?_) (fun _ => ?_)
      · refine ⟨_, rfl, ⟨_, rfl⟩, _, _, rfl, rfl, by decide +kernel, by rw [sizeLine_eq]; omega, fun lw nw => ?_⟩
        have kx := cut_blank rows[i]
        have wx := kx.wt tl_bl
        have ax := kx.asc xa
        generalize Txt.split rows[i] (Str.ofString " ") = ws at kx wx ax ⊢
        obtain ⟨s7, m7⟩ := fresh2 (o := .lst (ws.map V.str)) nw
        have hD7 := s7 _ _ hD
        have nw2 : lw ≠ D := (ne_of_none hD nw).symm
        have nwp : lw ≠ p := fun e => by
          obtain ⟨_, _, e2, _⟩ := hP
          have := Off.same _ _ (sm _ _ e2)
          rw [← e, nw] at this
          cases this
        refine ⟨us, hD7, by rw [sizeLine_eq]; omega, fun b o e => ?_, us ++ [.ref lw], upd_same, by rw [List.length_append]; simp only [List.length_cons, List.length_nil]; omega, fun u hu => ?_⟩
        · have nb := ne_of_none e nD
          exact Off.at nb (by rw [upd_ne nb]; exact s7 _ _ (Off.same _ _ (sm b o e)))
        · rcases List.mem_append.mp hu with hu | hu
          · obtain ⟨a, wz, rfl, na, W⟩ := hus u hu
            exact ⟨a, wz, rfl, na, (W.same s7).updD na⟩
          · rw [List.mem_singleton.mp hu]
            exact ⟨lw, ws, rfl, nw2, WL.updD ⟨m7, nwp, ax, by omega⟩ nw2⟩
      · exact ⟨back fun _ _ e => e, us, hD, by omega, hus⟩
    · rintro H2 ⟨sm, us, hD, lu, hus⟩
      rw [List.length_map] at lu
      simp only [List.set]
      have d2 : Drew p H H2 := by
        have s2 : Same H H2 := fun b o e => Off.same _ _ (sm b o e)
        exact ⟨Same.but s2, hP.same s2⟩
      refine ⟨fun σ H9 => ∃ a x4, σ = [some (V.ref p), some (.ref l), some (.ref D), some (.ref a), x4] ∧ Drew p H H9 ∧ ∃ ws, WL H9 p a ws (M + 20), ?_, ?_⟩
      · refine ⟨_, rfl, by show 0 ≤ sizeLine; exact Nat.zero_le _, fun l3 n3 => ?_⟩
        obtain ⟨s3, m3⟩ := fresh2 (o := .lst []) n3
        have hD3 := s3 _ _ hD
        have d3 : Drew p H (upd H2 l3 (.lst [])) := ⟨d2.1.trans (Same.but s3), d2.2.same s3⟩
        have hus3 : ∀ u ∈ us, ∃ a ws, u = V.ref a ∧ a ≠ D ∧ WL (upd H2 l3 (.lst [])) p a ws (M + 20) := fun u hu => by
          obtain ⟨a, ws, e, na, W⟩ := hus u hu
          exact ⟨a, ws, e, na, W.same s3⟩
        generalize upd H2 l3 (.lst []) = H3 at m3 hD3 d3 hus3 ⊢
        refine ⟨D, l3, us, rfl, rfl, SqL.of hD3, SqL.of m3, _, rfl, ?_⟩
        generalize hu : (!us.isEmpty) = bb
        cases bb with
        | false =>
          refine iteF ⟨by show 5 ≤ sizeLine; decide, fun q4 nq4 => ?_⟩
          have g4 := asc_lits (n := 40) (ls := [Str.ofString "tie", Str.ofString "t", Str.ofString "a", Str.ofString "b", Str.ofString "2"]) (by decide +kernel)
          obtain ⟨s4, m4⟩ := fresh2 (o := .lst [V.str (Str.ofString "tie"), V.str (Str.ofString "t"), V.str (Str.ofString "a"), V.str (Str.ofString "b"), V.str (Str.ofString "2")]) nq4
          refine ⟨q4, _, rfl, ⟨d3.1.trans (Same.but s4), d3.2.same s4⟩, [Str.ofString "tie", Str.ofString "t", Str.ofString "a", Str.ofString "b", Str.ofString "2"], m4, (d3.2.ne nq4).symm, g4.1, ?_⟩
          have : wt [Str.ofString "tie", Str.ofString "t", Str.ofString "a", Str.ofString "b", Str.ofString "2"] = 12 := by decide +kernel
          omega
        | true =>
          have lu0 : 1 ≤ us.length := by
            cases us with
            | nil => cases hu
            | cons a b => simp
          refine iteT ⟨_, rfl, _, rfl, _, rfl, D, _, rfl, .inl (SqL.of hD3), p, _, rfl, d3.2, by omega, log_small (n := 600001) (by omega) (by omega) (by decide), fun k H4 k0 k1 dr4 => ?_⟩
          have hk : k.toNat < us.length := by omega
          obtain ⟨a, ws, ea, na, W⟩ := hus3 us[k.toNat] (List.getElem_mem hk)
          have d4 := d3.trans dr4
          refine ⟨D, us, k, .ref a, rfl, rfl, SqL.of (dr4.1 _ _ pD hD3), atI_int k0 (by rw [List.getElem?_eq_getElem hk, ea]), a, _, rfl, d4, ws, W.but dr4.1⟩
      rintro σ H9 ⟨a, x4, rfl, d9, ws, W⟩
      have mk : ∀ {Hc : Hp} {a : Addr} {wl : List Str} {B : Nat}, Drew p H Hc → Hc a = none → (∀ x ∈ wl, Asc x) → wt wl ≤ B → Same Hc (upd Hc a (.lst (wl.map V.str))) ∧ Drew p H (upd Hc a (.lst (wl.map V.str))) ∧ WL (upd Hc a (.lst (wl.map V.str))) p a wl B := fun dc nc ac bc => by
        obtain ⟨k1, k2⟩ := fresh2 (o := .lst _) nc
        exact ⟨k1, ⟨dc.1.trans (Same.but k1), dc.2.same k1⟩, k2, (dc.2.ne nc).symm, ac, bc⟩
      have aT : ∀ n, ∀ x ∈ ws.take n, Asc x := fun n x hx => W.asc x (List.mem_of_mem_take hx)
      have aD : ∀ n, ∀ x ∈ ws.drop n, Asc x := fun n x hx => W.asc x (List.mem_of_mem_drop hx)
      have aA : ∀ {a b : List Str}, (∀ x ∈ a, Asc x) → (∀ x ∈ b, Asc x) → ∀ x ∈ a ++ b, Asc x := fun h g x hx => (List.mem_append.mp hx).elim (h x) (g x)
      have szB : ∀ {a b : List Str} {A C : Nat}, wt a ≤ A → wt b ≤ C → A + C ≤ 1300000 → (a.map V.str).length + (b.map V.str).length ≤ sizeLine := fun {a b A C} h g j => by
        have := wt_len a
        have := wt_len b
        rw [List.length_map, List.length_map, sizeLine_eq]
        omega
      have tk := wt_take ws 1
      have dp := wt_drop_le ws (show 1 ≤ 2 by omega)
      have wW := W.w
      refine ⟨⟨_, rfl⟩, _, rfl, _, rfl, a, _, rfl, SqL.of W.l, fun q10 nq10 => ?_⟩
      rw [cut_toS ws 1 (by decide), show (1 : Int).toNat = 1 from rfl]
      obtain ⟨s10, d10, W10⟩ := mk (wl := ws.take 1) (B := wt (ws.take 1)) d9 nq10 (aT _) (Nat.le_refl _)
      have W := W.same s10
      generalize upd H9 q10 (.lst ((ws.take 1).map V.str)) = H10 at s10 d10 W10 W ⊢
      refine ⟨_, rfl, p, 8, rfl, d10.2, by decide, log_small (n := 8) (by decide) (by decide) (by decide), fun k H11 k0 k1 dr11 => ?_⟩
      have d11 := d10.trans dr11
      have W10 := W10.but dr11.1
      have W := W.but dr11.1
      have hk : k.toNat < 8 := by omega
      refine ⟨_, k, 97 + k.toNat, rfl, rfl, by decide +kernel, eight_at k0 hk, ?_⟩
      have az : Asc (Str.ofString "zz" ++ ⟨#[97 + k.toNat]⟩) := asc_app (by intro c hc; rw [show TL.tl (Str.ofString "zz") = [122, 122] from by decide +kernel] at hc; simp at hc; omega) (fun c hc => by
        rw [show TL.tl ⟨#[97 + k.toNat]⟩ = [97 + k.toNat] from rfl] at hc
        rw [List.mem_singleton.mp hc]
        omega)
      have lz : (Str.ofString "zz" ++ ⟨#[97 + k.toNat]⟩ : Str).length = 3 := by rw [Str.length_append]; rfl
      refine ⟨_, _, rfl, rfl, by rw [sizeLine_eq, show (Str.ofString "zz").length = 2 from rfl]; show 2 + 1 ≤ _; decide, ?_⟩
      generalize (Str.ofString "zz" ++ ⟨#[97 + k.toNat]⟩ : Str) = zz at az lz ⊢
      have az1 : ∀ x ∈ [zz], Asc x := fun x hx => by rw [List.mem_singleton.mp hx]; exact az
      have wz : wt [zz] = 4 := by rw [wt_one]; omega
      refine ⟨by show 1 ≤ sizeLine; decide, fun q12 nq12 => ?_⟩
      rw [show ([V.str zz] : List V) = [zz].map V.str from rfl]
      obtain ⟨s12, d12, W12⟩ := mk (wl := [zz]) (B := 4) d11 nq12 az1 (by omega)
      have W := W.same s12
      have W10 := W10.same s12
      generalize upd H11 q12 (.lst ([zz].map V.str)) = H12 at s12 d12 W12 W W10 ⊢
      refine ⟨q10, q12, _, _, rfl, rfl, W10.l, W12.l, szB W10.w W12.w (by omega), fun q13 nq13 => ?_⟩
      rw [← List.map_append]
      obtain ⟨s13, d13, W13⟩ := mk (wl := ws.take 1 ++ [zz]) (B := wt (ws.take 1) + 4) d12 nq13 (aA (aT _) az1) (by rw [wt_app]; omega)
      have W := W.same s13
      generalize upd H12 q13 (.lst ((ws.take 1 ++ [zz]).map V.str)) = H13 at s13 d13 W13 W ⊢
      refine ⟨_, rfl, _, rfl, a, _, rfl, SqL.of W.l, fun q14 nq14 => ?_⟩
      rw [cut_fromS ws 2 (by decide), show (2 : Int).toNat = 2 from rfl]
      obtain ⟨s14, d14, W14⟩ := mk (wl := ws.drop 2) (B := wt (ws.drop 2)) d13 nq14 (aD _) (Nat.le_refl _)
      have W13 := W13.same s14
      generalize upd H13 q14 (.lst ((ws.drop 2).map V.str)) = H14 at s14 d14 W14 W13 ⊢
      refine ⟨q13, q14, _, _, rfl, rfl, W13.l, W14.l, szB W13.w W14.w (by omega), fun q15 nq15 => ?_⟩
      rw [← List.map_append]
      obtain ⟨s15, d15, W15⟩ := mk (wl := (ws.take 1 ++ [zz]) ++ ws.drop 2) (B := M + 30) d14 nq15 (aA (aA (aT _) az1) (aD _)) (by rw [wt_app, wt_app]; omega)
      generalize upd H14 q15 (.lst (((ws.take 1 ++ [zz]) ++ ws.drop 2).map V.str)) = H15 at s15 d15 W15 ⊢
      generalize (ws.take 1 ++ [zz]) ++ ws.drop 2 = out at W15
      refine ⟨Str.ofString " ", q15, out, rfl, rfl, .inl (SqL.of W15.l), ?_, q _ _ ?_ (join_asc tl_bl (by decide) W15.asc) d15⟩
      · have := W15.w
        unfold wt at this
        rw [show (Str.ofString " ").length = 1 from rfl]
        omega
      · exact Nat.le_trans (join_le tl_bl out) (Nat.le_trans W15.w (by omega))
end
end Cw
namespace Cw
open PySem PySem.Spec PyProof.Rows L2
theorem cutS_asc {z : Str} (h : Asc z) (lo hi : Option Int) : Asc (cutS z lo hi) := fun c hc => by
  refine h c ?_
  have e : TL.tl (cutS z lo hi) = (z.cps.toList.drop (HT.sIx z.length 0 lo)).take (HT.sIx z.length z.length hi - HT.sIx z.length 0 lo) := by
    first | rfl | simp [TL.tl, cutS]
  rw [e] at hc
  exact List.mem_of_mem_drop (List.mem_of_mem_take hc)
theorem cutS_le (z : Str) (lo hi : Option Int) : (cutS z lo hi).length ≤ z.length := cutS_length z lo hi
theorem atI_g {α : Type} {xs : List α} {k : Int} {v : α} (h0 : 0 ≤ k) (h : xs[k.toNat]? = some v) : atI xs k = some v := by
  have e : (k.toNat : Int) = k := Int.toNat_of_nonneg h0
  rw [← e]
  exact atI_nat h
theorem cut_lastD (xs : List V) : cutV xs (some (-1)) none = xs.drop (xs.length - 1) := by
  have e2 : HT.sIx xs.length xs.length none = xs.length := rfl
  have e1 : HT.sIx xs.length 0 (some (-1)) = xs.length - 1 := by
    show (if (-1 : Int) < 0 then ((-1 : Int) + (xs.length : Int)).toNat else min (-1 : Int).toNat xs.length) = _
    rw [if_pos (by decide)]
    omega
  unfold cutV
  rw [e1, e2, List.take_of_length_le (by rw [List.length_drop]; exact Nat.le_refl _)]
theorem wt_set (v : Str) : ∀ (l : List Str) (i : Nat), wt (l.set i v) ≤ wt l + v.length
  | [], _ => by simp [wt]
  | a :: r, 0 => by
    show wt ([v] ++ r) ≤ wt ([a] ++ r) + _
    rw [wt_app, wt_app, wt_one, wt_one]
    omega
  | a :: r, i + 1 => by
    have ih := wt_set v r i
    show wt ([a] ++ r.set i v) ≤ wt ([a] ++ r) + _
    rw [wt_app, wt_app]
    omega
theorem mem_set {v x : Str} : ∀ {l : List Str} {i : Nat}, x ∈ l.set i v → x = v ∨ x ∈ l
  | [], _, h => by cases h
  | a :: r, 0, h => by
    rcases List.mem_cons.mp (show x ∈ v :: r from h) with e | e
    · exact .inl e
    · exact .inr (List.mem_cons_of_mem _ e)
  | a :: r, i + 1, h => by
    rcases List.mem_cons.mp (show x ∈ a :: r.set i v from h) with e | e
    · exact .inr (by rw [e]; exact List.mem_cons_self)
    · exact (mem_set e).imp id (List.mem_cons_of_mem _)
section
variable {P : Program} {w : World} {K : PySem.W.Frag} {mg : Str → Option Value} {base : Heap} {C NT : Addr}
def spSpoilt : Sp := fun vs H Q _ => ∃ (p : Addr) (z : Str) (L : Nat), vs = [.ref p, .str z] ∧ Pot H p ∧ z.length ≤ L ∧ Asc z ∧ L ≤ 190000 ∧ ∀ y H', y.length ≤ 3 * L + 300 → Asc y → Drew p H H' → Q (.str y) H'
theorem ok_spoilt {f : Addr} {fd : FuncData} (F : FnP K "_law_spoilt" "_law_spoilt" S_spoilt f fd) (H_take : TakeOk P w K mg base) (H_row : Has P w K mg base "_law_row" S_row 2 P_row spRow) (H_again : Has P w K mg base "_law_again" S_again 2 P_again spAgain) (B : Blt mg) : FnOk P w K mg base CX0 3 f fd P_spoilt spSpoilt := by
  obtain ⟨f_take, fd_take, F_take, b_take, G_take, g_take⟩ := H_take
  obtain ⟨f_row, fd_row, F_row, b_row, G_row, g_row⟩ := H_row
  obtain ⟨f_again, fd_again, F_again, b_again, G_again, g_again⟩ := H_again
  have nd := sc_spoilt.nd
  refine F.ok sc_spoilt (fun vs H Q E h => ?_) (fun cdv A outer s H vs Q E hr h => ⟨_, PSs.nox (pss_cons (ps_set (i := 2) nd rfl (.inl rfl) pe_str)
     (pss_cons (ps_set (i := 3) nd rfl (.inl rfl) (pe_split (pv 1) pe_str))
     (pss_cons (ps_par (i := 4) (j := 5) (by rfl) nd rfl rfl (by decide) rfl rfl (pa_cons (pe_call G_take (hr.mono (by first | decide | omega)) rfl g_take F_take.kp b_take .nil pass0 (pa_cons (pv 0) (pa_cons pe_int pa_nil))) (pa_cons (pe_ix ix_str (pv 2) (pe_call G_take (hr.mono (by first | decide | omega)) rfl g_take F_take.kp b_take .nil pass0 (pa_cons (pv 0) (pa_cons (pe_callB call_len_str (by rfl) B.len_ PySem.boot_len (pa_cons (pv 2) pa_nil)) pa_nil))) (fun _ _ => rfl)) pa_nil)) (by rfl))
     (pss_cons (ps_par (i := 6) (j := 7) (by rfl) nd rfl rfl (by decide) rfl rfl (pa_cons (pe_call G_take (hr.mono (by first | decide | omega)) rfl g_take F_take.kp b_take .nil pass0 (pa_cons (pv 0) (pa_cons (pe_op op_add (pe_callB call_len_str (by rfl) B.len_ PySem.boot_len (pa_cons (pv 1) pa_nil)) pe_int) pa_nil))) (pa_cons (pe_call G_take (hr.mono (by first | decide | omega)) rfl g_take F_take.kp b_take .nil pass0 (pa_cons (pv 0) (pa_cons (pe_callB call_len_seq (by rfl) B.len_ PySem.boot_len (pa_cons (pv 3) pa_nil)) pa_nil))) pa_nil)) (by rfl))
     (C8.pss_cut (ps_if (pt_cmpR op_lt (pv 4) pe_int (nomark _)) (pss_one (ps_ret (pe_op op_add_str (pe_op op_add_str (pe_slice sl_str (pv 1) po_none (po_some (pv 6))) (pv 5)) (pe_slice sl_str (pv 1) (po_some (pe_op op_add (pv 6) (pv 4))) po_none)))) pss_nil)
     (C8.pss_cut (ps_if (pt_cmpR op_eq (pv 4) pe_int (nomark _)) (pss_one (ps_ret (pe_op op_add_str (pe_slice sl_str (pv 1) po_none (po_some (pv 6))) (pe_slice sl_str (pv 1) (po_some (pe_op op_add (pv 6) pe_int)) po_none)))) pss_nil)
     (C8.pss_cut (ps_if (pt_cmpR op_lt (pv 4) pe_int (nomark _)) (pss_one (ps_ret (pe_join pe_str (pe_op op_cat (pe_op op_cat (pe_slice sl_list (pv 3) po_none (po_some (pv 7))) (pe_lst (pa_cons (pe_call G_row (hr.mono (by first | decide | omega)) rfl g_row F_row.kp b_row .nil pass0 (pa_cons (pv 0) (pa_cons (pv 3) pa_nil))) pa_nil))) (pe_slice sl_list (pv 3) (po_some (pe_op op_sub (pe_op op_add (pv 7) (pv 4)) pe_int)) po_none))))) pss_nil)
     (C8.pss_cut (ps_if (pt_cmpR op_eq (pv 4) pe_int (nomark _)) (pss_cons (ps_set (i := 8) nd rfl (.inl rfl) (pe_call G_take (hr.mono (by first | decide | omega)) rfl g_take F_take.kp b_take .nil pass0 (pa_cons (pv 0) (pa_cons (pe_callB call_len_seq (by rfl) B.len_ PySem.boot_len (pa_cons (pv 3) pa_nil)) pa_nil))))
     (pss_cons (ps_asg (pe_tup (pa_cons (pe_ix ix_list (pv 3) (pv 8) (fun _ _ => rfl)) (pa_cons (pe_ix ix_list (pv 3) (pv 7) (fun _ _ => rfl)) pa_nil))) (pg_tup (by rfl) (pgs_cons (pg_sub (pv 3) (pv 7) set_list) (pgs_cons (pg_sub (pv 3) (pv 8) set_list) pgs_nil))))
     (pss_one (ps_ret (pe_join pe_str (pv 3)))))) pss_nil)
     (C8.pss_cut (ps_if (pt_cmpR op_eq (pv 4) pe_int (nomark _)) (pss_one (ps_ret (pe_join pe_str (pe_op op_cat (pe_slice sl_list (pv 3) po_none (po_some (pv 7))) (pe_slice sl_list (pv 3) (po_some (pe_op op_add (pv 7) pe_int)) po_none))))) pss_nil)
     (C8.pss_cut (ps_if (pt_cmpR op_eq (pv 4) pe_int (nomark _)) (pss_one (ps_ret (pe_join pe_str (pe_op op_cat (pe_op op_cat (pe_slice sl_list (pv 3) po_none (po_some (pv 7))) (pe_lst (pa_cons (pe_ix ix_list (pv 3) (pv 7) (fun _ _ => rfl)) pa_nil))) (pe_slice sl_list (pv 3) (po_some (pv 7)) po_none))))) pss_nil)
     (C8.pss_cut (ps_if (pt_cmpR op_gt (pv 4) pe_int (nomark _)) (pss_one (ps_ret (pe_join pe_str (pe_op op_cat (pe_op op_cat (pe_slice sl_list (pv 3) po_none (po_some (pe_un un_neg pe_int))) (pe_lst (pa_cons (pe_call G_again (hr.mono (by first | decide | omega)) rfl g_again F_again.kp b_again .nil pass0 (pa_cons (pv 0) (pa_cons (pv 3) pa_nil))) pa_nil))) (pe_slice sl_list (pv 3) (po_some (pe_un un_neg pe_int)) po_none))))) pss_nil)
     (pss_one (ps_ret (pe_slice sl_str (pv 1) po_none (po_some (pe_un un_neg pe_int)))))))))))))))), ?_⟩)
  · obtain ⟨p, z, L, rfl, _⟩ := h
    rfl
  · obtain ⟨p, z, L, rfl, hP, hz, ha, hL, q⟩ := h
    rw [show L2.start N_spoilt [V.ref p, V.str z] = [some (V.ref p), some (.str z), none, none, none, none, none, none, none] from rfl]
    simp only [List.set]
    generalize hS : Str.ofString "0123456789 \nabpertsoiuncd-+.#" = S
    have hS1 : (S.cps.toList.all fun c => decide (c < 128)) = true ∧ S.length = 29 := by rw [← hS]; exact ⟨by decide +kernel, by decide +kernel⟩
    obtain ⟨hS1, hS2⟩ := hS1
    clear hS
    refine ⟨_, rfl, ⟨_, rfl⟩, _, _, rfl, rfl, by decide +kernel, by rw [sizeLine_eq]; omega, fun lq nq => ?_⟩
    have kz := cut_feed z
    have wz := kz.wt tl_fd
    have az := kz.asc ha
    have sz := kz.small
    have ne := kz.ne
    have mn := kz.many
    generalize Txt.split z (Str.ofString "\n") = rows at wz az sz ne mn ⊢
    have rl : 1 ≤ rows.length := List.length_pos_iff.mpr ne
    have mk : ∀ {Hc : Hp} {a : Addr} {wl : List Str} {B : Nat}, Drew p H Hc → Hc a = none → (∀ x ∈ wl, Asc x) → wt wl ≤ B → Same Hc (upd Hc a (.lst (wl.map V.str))) ∧ Drew p H (upd Hc a (.lst (wl.map V.str))) ∧ WL (upd Hc a (.lst (wl.map V.str))) p a wl B := fun dc nc ac bc => by
      obtain ⟨k1, k2⟩ := fresh2 (o := .lst _) nc
      exact ⟨k1, ⟨dc.1.trans (Same.but k1), dc.2.same k1⟩, k2, (dc.2.ne nc).symm, ac, bc⟩
    obtain ⟨s1, d1, W⟩ := mk (wl := rows) (B := L + 1) ⟨But.refl, hP⟩ nq az (by omega)
    generalize upd H lq (.lst (rows.map V.str)) = H1 at s1 d1 W ⊢
    simp only [List.set]
    refine ⟨_, rfl, p, 11, rfl, d1.2, by decide, log_small (n := 11) (by decide) (by decide) (by decide), fun way H2 w0 w1 dr2 => ?_⟩
    have d2 := d1.trans dr2
    have W := W.but dr2.1
    refine ⟨_, rfl, _, rfl, _, rfl, _, rfl, by rw [sizeLine_eq]; omega, p, _, rfl, d2.2, by omega, log_small (n := 29) (by omega) (by omega) (by decide), fun k H3 k0 k1 dr3 => ?_⟩
    have d3 := d2.trans dr3
    have W := W.but dr3.1
    have hk : k.toNat < S.cps.toList.length := by
      have : S.cps.toList.length = S.length := Array.length_toList
      omega
    have hc := of_decide_eq_true (List.all_eq_true.mp hS1 _ (List.getElem_mem hk))
    refine ⟨_, k, S.cps.toList[k.toNat], rfl, rfl, by rw [sizeLine_eq]; omega, ?_, ?_⟩
    · exact atI_g k0 (List.getElem?_eq_getElem hk)
    generalize S.cps.toList[k.toNat] = c at hc ⊢
    have asg : Asc (⟨#[c]⟩ : Str) := fun d hd => by
      rw [show TL.tl ⟨#[c]⟩ = [c] from rfl] at hd
      rw [List.mem_singleton.mp hd]
      exact hc
    have lsg : (⟨#[c]⟩ : Str).length = 1 := rfl
    generalize (⟨#[c]⟩ : Str) = sg at asg lsg ⊢
    refine ⟨_, _, rfl, ?_⟩
    simp only [List.set]
    refine ⟨_, rfl, _, rfl, _, rfl, by rw [sizeLine_eq]; omega, _, _, rfl, rfl, p, _, rfl, d3.2, by omega, log_small (n := 600002) (by omega) (by omega) (by decide), fun at_ H4 a0 a1 dr4 => ?_⟩
    have d4 := d3.trans dr4
    have W := W.but dr4.1
    refine ⟨_, rfl, _, rfl, lq, _, rfl, .inl (SqL.of W.l), p, _, rfl, d4.2, by rw [List.length_map]; omega, log_small (n := 600002) (by rw [List.length_map]; omega) (by rw [List.length_map]; omega) (by decide), fun spot H5 p0 p1 dr5 => ?_⟩
    have d5 := d4.trans dr5
    have W := W.but dr5.1
    rw [List.length_map] at p1
    refine ⟨_, _, rfl, ?_⟩
    simp only [List.set]
    have aT : ∀ n, ∀ x ∈ rows.take n, Asc x := fun n x hx => az x (List.mem_of_mem_take hx)
    have aD : ∀ n, ∀ x ∈ rows.drop n, Asc x := fun n x hx => az x (List.mem_of_mem_drop hx)
    have aA : ∀ {a b : List Str}, (∀ x ∈ a, Asc x) → (∀ x ∈ b, Asc x) → ∀ x ∈ a ++ b, Asc x := fun h g x hx => (List.mem_append.mp hx).elim (h x) (g x)
    have aO : ∀ {y : Str}, Asc y → ∀ x ∈ [y], Asc x := fun h x hx => by rw [List.mem_singleton.mp hx]; exact h
    have wO : ∀ y : Str, wt [y] = y.length + 1 := wt_one
    have szB : ∀ {a b : List Str} {A C : Nat}, wt a ≤ A → wt b ≤ C → A + C ≤ 1300000 → (a.map V.str).length + (b.map V.str).length ≤ sizeLine := fun {a b A C} h g j => by
      have := wt_len a
      have := wt_len b
      rw [List.length_map, List.length_map, sizeLine_eq]
      omega
    have RI : ∀ {Hc : Hp}, WL Hc p lq rows (L + 1) → RowsIn Hc lq rows L := fun h => ⟨h.l, ne, by omega, fun x hx => by have := sz x hx; omega, az⟩
    have fin : ∀ {Hc : Hp} {a : Addr} {out : List Str}, Drew p H Hc → WL Hc p a out (3 * L + 300) → ∃ a_1 p_1 ys, V.str (Str.ofString "\n") = V.str a_1 ∧ [V.ref a] = [V.ref p_1] ∧ (SqL K Hc p_1 (List.map V.str ys) ∨ SqT K Hc p_1 (List.map V.str ys)) ∧ (List.map (fun x => x.length) ys).sum + ys.length * a_1.length ≤ 16777216 ∧ Q (V.str (Txt.join a_1 ys)) Hc := fun {Hc a out} dc Wc => by
      refine ⟨Str.ofString "\n", a, out, rfl, rfl, .inl (SqL.of Wc.l), ?_, q _ _ (Nat.le_trans (join_le tl_fd out) Wc.w) (join_asc tl_fd (by decide) Wc.asc) dc⟩
      have := Wc.w
      unfold wt at this
      rw [show (Str.ofString "\n").length = 1 from rfl]
      omega
    have cl := fun lo hi => cutS_le z lo hi
    refine ⟨fun σ H' => H' = H5 ∧ σ = [some (V.ref p), some (.str z), some (.str S), some (.ref lq), some (.int way), some (.str sg), some (.int at_), some (.int spot), none] ∧ 2 ≤ way, ?_, ?_⟩
    · refine ⟨_, rfl, _, _, rfl, rfl, _, rfl, iteB (fun hc => ?_) (fun hc => ?_)⟩
      · refine ⟨_, rfl, _, rfl, _, rfl, _, rfl, by rw [sizeLine_eq]; omega, _, rfl, _, _, rfl, rfl, ?_, _, rfl, _, rfl, _, rfl, _, _, rfl, rfl, _, rfl, _, rfl, by rw [sizeLine_eq]; omega, _, _, rfl, rfl, ?_, q _ _ ?_ ?_ d5⟩
        · have := cl none (some at_)
          rw [sizeLine_eq]; omega
        · have := cl none (some at_)
          have := cl (some (at_ + way)) none
          rw [sizeLine_eq, Str.length_append]; omega
        · have := cl none (some at_)
          have := cl (some (at_ + way)) none
          rw [Str.length_append, Str.length_append]; omega
        · exact asc_app (asc_app (cutS_asc ha _ _) asg) (cutS_asc ha _ _)
      · exact ⟨rfl, rfl, by have := of_decide_eq_false hc; omega⟩
    rintro σ H' ⟨he, rfl, w2⟩
    rw [he]
    clear he
    refine ⟨fun σ H' => H' = H5 ∧ σ = [some (V.ref p), some (.str z), some (.str S), some (.ref lq), some (.int way), some (.str sg), some (.int at_), some (.int spot), none] ∧ 3 ≤ way, ?_, ?_⟩
    · refine ⟨_, rfl, rfl, _, rfl, iteB (fun hc => ?_) (fun hc => ?_)⟩
      · refine ⟨_, rfl, _, rfl, _, rfl, _, rfl, by rw [sizeLine_eq]; omega, _, rfl, _, rfl, _, _, rfl, rfl, _, rfl, _, rfl, by rw [sizeLine_eq]; omega, _, _, rfl, rfl, ?_, q _ _ ?_ ?_ d5⟩
        · have := cl none (some at_)
          have := cl (some (at_ + 1)) none
          rw [sizeLine_eq]; omega
        · have := cl none (some at_)
          have := cl (some (at_ + 1)) none
          rw [Str.length_append]; omega
        · exact asc_app (cutS_asc ha _ _) (cutS_asc ha _ _)
      · refine ⟨rfl, rfl, ?_⟩
        have : way ≠ 2 := fun e => by rw [e] at hc; exact absurd rfl (of_decide_eq_false hc)
        omega
    rintro σ H' ⟨he, rfl, w3⟩
    rw [he]
    clear he
    refine ⟨fun σ H' => H' = H5 ∧ σ = [some (V.ref p), some (.str z), some (.str S), some (.ref lq), some (.int way), some (.str sg), some (.int at_), some (.int spot), none] ∧ 5 ≤ way, ?_, ?_⟩
    · refine ⟨_, rfl, _, _, rfl, rfl, _, rfl, iteB (fun hc => ?_) (fun hc => ?_)⟩
      · have hc := of_decide_eq_true hc
        refine ⟨⟨_, rfl⟩, _, rfl, _, rfl, _, rfl, lq, _, rfl, SqL.of W.l, fun q10 nq10 => ?_⟩
        rw [cut_toS rows spot p0]
        obtain ⟨s10, d10, W10⟩ := mk (wl := rows.take spot.toNat) (B := L + 1) d5 nq10 (aT _) (by have := wt_take rows spot.toNat; omega)
        have W := W.same s10
        generalize upd H5 q10 (.lst ((rows.take spot.toNat).map V.str)) = H10 at s10 d10 W10 W ⊢
        refine ⟨_, rfl, _, rfl, p, lq, rows, L, rfl, d10.2, RI W, by omega, fun y H11 ly ay dr11 => ?_⟩
        have d11 := d10.trans dr11
        have W := W.but dr11.1
        have W10 := W10.but dr11.1
        refine ⟨by show 1 ≤ sizeLine; decide, fun q12 nq12 => ?_⟩
        rw [show ([V.str y] : List V) = [y].map V.str from rfl]
        obtain ⟨s12, d12, W12⟩ := mk (wl := [y]) (B := 2 * L + 101) d11 nq12 (aO ay) (by rw [wO]; omega)
        have W := W.same s12
        have W10 := W10.same s12
        generalize upd H11 q12 (.lst ([y].map V.str)) = H12 at s12 d12 W12 W W10 ⊢
        refine ⟨q10, q12, _, _, rfl, rfl, W10.l, W12.l, szB W10.w W12.w (by omega), fun q13 nq13 => ?_⟩
        rw [← List.map_append]
        obtain ⟨s13, d13, W13⟩ := mk (wl := rows.take spot.toNat ++ [y]) (B := wt (rows.take spot.toNat) + (y.length + 1)) d12 nq13 (aA (aT _) (aO ay)) (by rw [wt_app, wO]; exact Nat.le_refl _)
        have W := W.same s13
        generalize upd H12 q13 (.lst ((rows.take spot.toNat ++ [y]).map V.str)) = H13 at s13 d13 W13 W ⊢
        refine ⟨_, rfl, _, rfl, _, rfl, _, _, rfl, rfl, _, _, rfl, rfl, _, rfl, lq, _, rfl, SqL.of W.l, fun q14 nq14 => ?_⟩
        have p2 : 0 ≤ spot + way - 3 := by omega
        rw [cut_fromS rows _ p2]
        have tk := wt_take rows spot.toNat
        have dp := wt_drop_le rows (show spot.toNat ≤ (spot + way - 3).toNat by omega)
        obtain ⟨s14, d14, W14⟩ := mk (wl := rows.drop (spot + way - 3).toNat) (B := wt (rows.drop spot.toNat)) d13 nq14 (aD _) dp
        have W13 := W13.same s14
        generalize upd H13 q14 (.lst ((rows.drop (spot + way - 3).toNat).map V.str)) = H14 at s14 d14 W14 W13 ⊢
        refine ⟨q13, q14, _, _, rfl, rfl, W13.l, W14.l, szB W13.w W14.w (by omega), fun q15 nq15 => ?_⟩
        rw [← List.map_append]
        obtain ⟨s15, d15, W15⟩ := mk (wl := (rows.take spot.toNat ++ [y]) ++ rows.drop (spot + way - 3).toNat) (B := 3 * L + 300) d14 nq15 (aA (aA (aT _) (aO ay)) (aD _)) (by rw [wt_app, wt_app, wO]; omega)
        exact fin d15 W15
      · exact ⟨rfl, rfl, by have := of_decide_eq_false hc; omega⟩
    rintro σ H' ⟨he, rfl, w5⟩
    rw [he]
    clear he
    refine ⟨fun σ H' => H' = H5 ∧ σ = [some (V.ref p), some (.str z), some (.str S), some (.ref lq), some (.int way), some (.str sg), some (.int at_), some (.int spot), none] ∧ 6 ≤ way, ?_, ?_⟩
    · refine ⟨_, rfl, rfl, _, rfl, iteB (fun hc => ?_) (fun hc => ?_)⟩
      · refine ⟨_, rfl, _, rfl, lq, _, rfl, .inl (SqL.of W.l), p, _, rfl, d5.2, by rw [List.length_map]; omega, log_small (n := 600002) (by rw [List.length_map]; omega) (by rw [List.length_map]; omega) (by decide), fun other H6 o0 o1 dr6 => ?_⟩
        have d6 := d5.trans dr6
        have W := W.but dr6.1
        rw [List.length_map] at o1
        have ho : other.toNat < rows.length := by omega
        have hp : spot.toNat < rows.length := by omega
        have go := List.getElem_mem ho
        have gp := List.getElem_mem hp
        have lo := sz _ go
        have lp := sz _ gp
        have ao := az _ go
        have ap := az _ gp
        have io : ∀ n, n = rows.length → ixN n other = some other.toNat := fun n hn => by
          unfold ixN
          rw [if_pos o0, if_pos (by omega)]
        have ip : ∀ n, n = rows.length → ixN n spot = some spot.toNat := fun n hn => by
          unfold ixN
          rw [if_pos p0, if_pos (by omega)]
        refine ⟨_, rfl, _, rfl, lq, _, other, .str rows[other.toNat], rfl, rfl, SqL.of W.l, atI_int o0 (by rw [List.getElem?_map, List.getElem?_eq_getElem ho]; rfl), ?_⟩
        refine ⟨_, rfl, _, rfl, lq, _, spot, .str rows[spot.toNat], rfl, rfl, SqL.of W.l, atI_int p0 (by rw [List.getElem?_map, List.getElem?_eq_getElem hp]; rfl), ?_⟩
        generalize rows[other.toNat] = yo at lo ao ⊢
        generalize rows[spot.toNat] = yp at lp ap ⊢
        refine ⟨by show 2 ≤ sizeLine; decide, fun tq ntq => ?_⟩
        obtain ⟨s7, m7⟩ := fresh2 (o := .tup [V.str yo, V.str yp]) ntq
        have d7 : Drew p H (upd H6 tq (.tup [V.str yo, V.str yp])) := ⟨d6.1.trans (Same.but s7), d6.2.same s7⟩
        have W := W.same s7
        generalize upd H6 tq (.tup [V.str yo, V.str yp]) = H7 at s7 m7 d7 W ⊢
        have setW : ∀ {Hc : Hp} {xs : List Str} (i : Nat) (v : Str), Drew p H Hc → Hc lq = some (.lst (xs.map V.str)) → Drew p H (upd Hc lq (.lst ((xs.map V.str).set i (.str v)))) ∧ upd Hc lq (.lst ((xs.map V.str).set i (.str v))) lq = some (.lst ((xs.set i v).map V.str)) := fun {Hc xs} i v dc hc => by
          refine ⟨⟨fun b o n e => ?_, ?_⟩, by rw [upd_same, List.map_set]⟩
          · rw [upd_ne (ne_of_none e nq)]
            exact dc.1 b o n e
          · obtain ⟨m0, m1, e2, r⟩ := dc.2
            exact ⟨m0, m1, by rw [upd_ne W.n.symm]; exact e2, r⟩
        refine ⟨tq, _, rfl, SqT.of m7, rfl, _, _, rfl, _, rfl, _, rfl, lq, _, spot, spot.toNat, rfl, rfl, W.l, ip _ (List.length_map ..), ?_⟩
        obtain ⟨d8, m8⟩ := setW spot.toNat yo d7 W.l
        generalize upd H7 lq (.lst ((rows.map V.str).set spot.toNat (.str yo))) = H8 at d8 m8 ⊢
        refine ⟨_, _, rfl, _, rfl, _, rfl, lq, _, other, other.toNat, rfl, rfl, m8, io _ (by rw [List.length_map, List.length_set]), ?_⟩
        obtain ⟨d9, m9⟩ := setW other.toNat yp d8 m8
        generalize upd H8 lq (.lst (((rows.set spot.toNat yo).map V.str).set other.toNat (.str yp))) = H9 at d9 m9 ⊢
        refine ⟨rfl, ⟨_, rfl⟩, _, rfl, fin (out := (rows.set spot.toNat yo).set other.toNat yp) d9 ⟨m9, W.n, fun x hx => ?_, ?_⟩⟩
        · rcases mem_set hx with rfl | hx
          · exact ap
          · rcases mem_set hx with rfl | hx
            · exact ao
            · exact az x hx
        · have h1 := wt_set yp (rows.set spot.toNat yo) other.toNat
          have h2 := wt_set yo rows spot.toNat
          omega
      · refine ⟨rfl, rfl, ?_⟩
        have : way ≠ 5 := fun e => by rw [e] at hc; exact absurd rfl (of_decide_eq_false hc)
        omega
    rintro σ H' ⟨he, rfl, w6⟩
    rw [he]
    clear he
    refine ⟨fun σ H' => H' = H5 ∧ σ = [some (V.ref p), some (.str z), some (.str S), some (.ref lq), some (.int way), some (.str sg), some (.int at_), some (.int spot), none] ∧ 7 ≤ way, ?_, ?_⟩
    · refine ⟨_, rfl, rfl, _, rfl, iteB (fun hc => ?_) (fun hc => ?_)⟩
      · refine ⟨⟨_, rfl⟩, _, rfl, _, rfl, _, rfl, lq, _, rfl, SqL.of W.l, fun q10 nq10 => ?_⟩
        rw [cut_toS rows spot p0]
        obtain ⟨s10, d10, W10⟩ := mk (wl := rows.take spot.toNat) (B := wt (rows.take spot.toNat)) d5 nq10 (aT _) (Nat.le_refl _)
        have W := W.same s10
        generalize upd H5 q10 (.lst ((rows.take spot.toNat).map V.str)) = H10 at s10 d10 W10 W ⊢
        refine ⟨_, rfl, _, rfl, _, _, rfl, rfl, _, rfl, lq, _, rfl, SqL.of W.l, fun q14 nq14 => ?_⟩
        have p2 : 0 ≤ spot + 1 := by omega
        rw [cut_fromS rows _ p2]
        have tk := wt_take rows spot.toNat
        have dp := wt_drop_le rows (show spot.toNat ≤ (spot + 1).toNat by omega)
        obtain ⟨s14, d14, W14⟩ := mk (wl := rows.drop (spot + 1).toNat) (B := wt (rows.drop spot.toNat)) d10 nq14 (aD _) dp
        have W10 := W10.same s14
        generalize upd H10 q14 (.lst ((rows.drop (spot + 1).toNat).map V.str)) = H14 at s14 d14 W14 W10 ⊢
        refine ⟨q10, q14, _, _, rfl, rfl, W10.l, W14.l, szB W10.w W14.w (by omega), fun q15 nq15 => ?_⟩
        rw [← List.map_append]
        obtain ⟨s15, d15, W15⟩ := mk (wl := rows.take spot.toNat ++ rows.drop (spot + 1).toNat) (B := 3 * L + 300) d14 nq15 (aA (aT _) (aD _)) (by rw [wt_app]; omega)
        exact fin d15 W15
      · refine ⟨rfl, rfl, ?_⟩
        have : way ≠ 6 := fun e => by rw [e] at hc; exact absurd rfl (of_decide_eq_false hc)
        omega
    rintro σ H' ⟨he, rfl, w7⟩
    rw [he]
    clear he
    refine ⟨fun σ H' => H' = H5 ∧ σ = [some (V.ref p), some (.str z), some (.str S), some (.ref lq), some (.int way), some (.str sg), some (.int at_), some (.int spot), none], ?_, ?_⟩
    · refine ⟨_, rfl, rfl, _, rfl, iteB (fun hc => ?_) (fun hc => ?_)⟩
      · have hi2 : spot.toNat < rows.length := by omega
        have gx := List.getElem_mem hi2
        have ay := az _ gx
        have ly := sz _ gx
        refine ⟨⟨_, rfl⟩, _, rfl, _, rfl, _, rfl, lq, _, rfl, SqL.of W.l, fun q10 nq10 => ?_⟩
        rw [cut_toS rows spot p0]
        obtain ⟨s10, d10, W10⟩ := mk (wl := rows.take spot.toNat) (B := L + 1) d5 nq10 (aT _) (by have := wt_take rows spot.toNat; omega)
        have W := W.same s10
        generalize upd H5 q10 (.lst ((rows.take spot.toNat).map V.str)) = H10 at s10 d10 W10 W ⊢
        refine ⟨_, rfl, _, rfl, lq, _, spot, .str rows[spot.toNat], rfl, rfl, SqL.of W.l, atI_int p0 (by rw [List.getElem?_map, List.getElem?_eq_getElem hi2]; rfl), by show 1 ≤ sizeLine; decide, fun q12 nq12 => ?_⟩
        generalize rows[spot.toNat] = y at ay ly ⊢
        rw [show ([V.str y] : List V) = [y].map V.str from rfl]
        obtain ⟨s12, d12, W12⟩ := mk (wl := [y]) (B := L + 1) d10 nq12 (aO ay) (by rw [wO]; omega)
        have W := W.same s12
        have W10 := W10.same s12
        generalize upd H10 q12 (.lst ([y].map V.str)) = H12 at s12 d12 W12 W W10 ⊢
        refine ⟨q10, q12, _, _, rfl, rfl, W10.l, W12.l, szB W10.w W12.w (by omega), fun q13 nq13 => ?_⟩
        rw [← List.map_append]
        obtain ⟨s13, d13, W13⟩ := mk (wl := rows.take spot.toNat ++ [y]) (B := wt (rows.take spot.toNat) + (y.length + 1)) d12 nq13 (aA (aT _) (aO ay)) (by rw [wt_app, wO]; exact Nat.le_refl _)
        have W := W.same s13
        generalize upd H12 q13 (.lst ((rows.take spot.toNat ++ [y]).map V.str)) = H13 at s13 d13 W13 W ⊢
        refine ⟨_, rfl, _, rfl, _, rfl, lq, _, rfl, SqL.of W.l, fun q14 nq14 => ?_⟩
        rw [cut_fromS rows _ p0]
        have tk := wt_take rows spot.toNat
        obtain ⟨s14, d14, W14⟩ := mk (wl := rows.drop spot.toNat) (B := wt (rows.drop spot.toNat)) d13 nq14 (aD _) (Nat.le_refl _)
        have W13 := W13.same s14
        generalize upd H13 q14 (.lst ((rows.drop spot.toNat).map V.str)) = H14 at s14 d14 W14 W13 ⊢
        refine ⟨q13, q14, _, _, rfl, rfl, W13.l, W14.l, szB W13.w W14.w (by omega), fun q15 nq15 => ?_⟩
        rw [← List.map_append]
        obtain ⟨s15, d15, W15⟩ := mk (wl := (rows.take spot.toNat ++ [y]) ++ rows.drop spot.toNat) (B := 3 * L + 300) d14 nq15 (aA (aA (aT _) (aO ay)) (aD _)) (by rw [wt_app, wt_app, wO]; omega)
        exact fin d15 W15
      · exact ⟨rfl, rfl⟩
    rintro σ H' ⟨he, rfl⟩
    rw [he]
    clear he
    refine ⟨fun σ H' => H' = H5 ∧ σ = [some (V.ref p), some (.str z), some (.str S), some (.ref lq), some (.int way), some (.str sg), some (.int at_), some (.int spot), none], ?_, ?_⟩
    · refine ⟨_, rfl, _, _, rfl, rfl, _, rfl, iteB (fun hc => ?_) (fun hc => ?_)⟩
      · have aI : ∀ x ∈ rows.dropLast, Asc x := fun x hx => az x (List.dropLast_subset _ hx)
        have tk := wt_take rows (rows.length - 1)
        have eI : (rows.map V.str).dropLast = (rows.take (rows.length - 1)).map V.str := by rw [List.dropLast_eq_take, List.length_map, List.map_take]
        have eL : (rows.map V.str).drop ((rows.map V.str).length - 1) = (rows.drop (rows.length - 1)).map V.str := by rw [List.length_map, List.map_drop]
        refine ⟨⟨_, rfl⟩, _, rfl, _, rfl, _, rfl, lq, _, rfl, SqL.of W.l, fun q10 nq10 => ?_⟩
        rw [cut_last, eI]
        obtain ⟨s10, d10, W10⟩ := mk (wl := rows.take (rows.length - 1)) (B := L + 1) d5 nq10 (aT _) (by omega)
        have W := W.same s10
        generalize upd H5 q10 (.lst ((rows.take (rows.length - 1)).map V.str)) = H10 at s10 d10 W10 W ⊢
        refine ⟨_, rfl, _, rfl, p, lq, rows, L, rfl, d10.2, RI W, by omega, fun y H11 ly ay dr11 => ?_⟩
        have d11 := d10.trans dr11
        have W := W.but dr11.1
        have W10 := W10.but dr11.1
        refine ⟨by show 1 ≤ sizeLine; decide, fun q12 nq12 => ?_⟩
        rw [show ([V.str y] : List V) = [y].map V.str from rfl]
        obtain ⟨s12, d12, W12⟩ := mk (wl := [y]) (B := 2 * L + 101) d11 nq12 (aO ay) (by rw [wO]; omega)
        have W := W.same s12
        have W10 := W10.same s12
        generalize upd H11 q12 (.lst ([y].map V.str)) = H12 at s12 d12 W12 W W10 ⊢
        refine ⟨q10, q12, _, _, rfl, rfl, W10.l, W12.l, szB W10.w W12.w (by omega), fun q13 nq13 => ?_⟩
        rw [← List.map_append]
        obtain ⟨s13, d13, W13⟩ := mk (wl := rows.take (rows.length - 1) ++ [y]) (B := wt (rows.take (rows.length - 1)) + (y.length + 1)) d12 nq13 (aA (aT _) (aO ay)) (by rw [wt_app, wO]; exact Nat.le_refl _)
        have W := W.same s13
        generalize upd H12 q13 (.lst ((rows.take (rows.length - 1) ++ [y]).map V.str)) = H13 at s13 d13 W13 W ⊢
        refine ⟨_, rfl, _, rfl, _, rfl, lq, _, rfl, SqL.of W.l, fun q14 nq14 => ?_⟩
        rw [cut_lastD, eL]
        obtain ⟨s14, d14, W14⟩ := mk (wl := rows.drop (rows.length - 1)) (B := wt (rows.drop (rows.length - 1))) d13 nq14 (aD _) (Nat.le_refl _)
        have W13 := W13.same s14
        generalize upd H13 q14 (.lst ((rows.drop (rows.length - 1)).map V.str)) = H14 at s14 d14 W14 W13 ⊢
        refine ⟨q13, q14, _, _, rfl, rfl, W13.l, W14.l, szB W13.w W14.w (by omega), fun q15 nq15 => ?_⟩
        rw [← List.map_append]
        obtain ⟨s15, d15, W15⟩ := mk (wl := (rows.take (rows.length - 1) ++ [y]) ++ rows.drop (rows.length - 1)) (B := 3 * L + 300) d14 nq15 (aA (aA (aT _) (aO ay)) (aD _)) (by rw [wt_app, wt_app, wO]; omega)
        exact fin d15 W15
      · exact ⟨rfl, rfl⟩
    rintro σ H' ⟨he, rfl⟩
    rw [he]
    clear he
    refine ⟨_, rfl, _, rfl, _, rfl, _, rfl, by rw [sizeLine_eq]; omega, q _ _ ?_ (cutS_asc ha _ _) d5⟩
    have := cl none (some (-1))
    omega
end
end Cw
namespace Cw
open PySem PySem.Spec PyProof.Rows L2
/-- more of the class: its instances -/
structure WebIs (K : PySem.W.Frag) (C : Addr) : Prop where
  mo : PySem.W.mroIn K C (.type "object") = some true
  ca : PySem.W.findIn K (.ref C) "__class__" = some (some (.builtin "object.__class__"))
  cg : PySem.W.specialIn K (.builtin "object.__class__") "__get__" = some (some (.builtin "getset_descriptor.__get__"))
  ct : PySem.W.takesIn K (.builtin "object.__class__") = some true
  ii : PySem.W.kitOne K (.ref C) (.ref C) = some true
def webIsB (K : PySem.W.Frag) (C : Addr) : Bool := decide (PySem.W.mroIn K C (.type "object") = some true) && decide (PySem.W.findIn K (.ref C) "__class__" = some (some (.builtin "object.__class__"))) &&
  decide (PySem.W.specialIn K (.builtin "object.__class__") "__get__" = some (some (.builtin "getset_descriptor.__get__"))) && decide (PySem.W.takesIn K (.builtin "object.__class__") = some true) && decide (PySem.W.kitOne K (.ref C) (.ref C) = some true)
theorem webIs_of {K : PySem.W.Frag} {C : Addr} (h : webIsB K C = true) : WebIs K C := by
  unfold webIsB at h
  simp only [Bool.and_eq_true, decide_eq_true_eq] at h
  obtain ⟨⟨⟨⟨h2, h3⟩, h4⟩, h5⟩, h6⟩ := h
  exact ⟨h2, h3, h4, h5, h6⟩
structure GlC (mg : Str → Option Value) (x : Str) (C : Addr) : Prop where
  g : mg x = some (.ref C)
theorem call_isiK {X : Cx} {K : PySem.W.Frag} (h : X.K = K) : CallR X (.builtin "isinstance") (rIsi K) := by
  subst h
  exact call_isi
section
variable {P : Program} {w : World} {K : PySem.W.Frag} {mg : Str → Option Value} {base : Heap} {C NT cWE cNC cNPa cNR cNWa NW0 : Addr}
theorem ty_web {H : Hp} {a : Addr} {r : Bool} {fs : List (Str × Int)} {ts : List Tie} (WC : WebCls K C) (WI : WebIs K C) (W : WebAt C H a r fs ts) : TyX K H (.ref a) (.ref C) := by
  obtain ⟨dx, ds, dl, pr, tr, xs, h1, _⟩ := W
  exact .base (.ins h1 WC.cl WI.ca WI.cg WI.ct WI.mo)
def spTold : Sp := fun vs H Q _ => ∃ (v : V) (d : PyData), vs = [v] ∧ Dx H v d ∧ (∀ z, d = .str z → z.length ≤ 600000) ∧
  ((∀ z, d ≠ .str z) → ∀ H', Same H H' → Q (.int 0) H') ∧ ∀ z, d = .str z → ∀ H', Same H H' → Q (dueV (dueF (Txt.split z (Str.ofString "\n")))) H'
theorem ok_told {f : Addr} {fd : FuncData} (F : FnP K "_law_told" "_law_told" S_told f fd) (R_NoText : Rz P w K mg base "NoText" "row" NT) (R_WebError : GlC mg "WebError" cWE) (WC : WebCls K C) (WI : WebIs K C) (gWeb : mg "Web" = some (.ref C)) (gNT : mg "NoText" = some (.ref NT)) (gNC : mg "NoCount" = some (.ref cNC)) (gNPa : mg "NoPaper" = some (.ref cNPa)) (gNR : mg "NoRow" = some (.ref cNR)) (gNWa : mg "NoWalk" = some (.ref cNWa)) (gNW0 : mg "NoWeb" = some (.ref NW0)) (mVal : mg "ValueError" = none) (ex : PySem.W.exmOne K (.ref NT) (.ref cWE) = some true) (EC : ExcC K NT) (XF_NoText : XfC K NT) (XN_NoText : PySem.W.findIn K (.ref NT) "row" = some none) (k1 : PySem.W.kitAny K (.ref NT) [.ref cNC, .ref cNPa, .ref cNR, .ref cNWa, .ref NW0] = some false) (k2 : PySem.W.kitOne K (.ref NT) (.ref NT) = some true) (k3 : PySem.W.kitOne K (.ref NT) (.type "ValueError") = some true) (H_read_web : HasE P w K mg base "read_web" S_read_web 8 P_read_web (spRead C NT)) (H_web_text : Has P w K mg base "web_text" S_web_text 6 P_web_text (spText C)) (B : Blt mg) : FnOk P w K mg base CX0 9 f fd P_told spTold := by
  obtain ⟨f_read_web, fd_read_web, F_read_web, b_read_web, G_read_web, g_read_web⟩ := H_read_web
  obtain ⟨f_web_text, fd_web_text, F_web_text, b_web_text, G_web_text, g_web_text⟩ := H_web_text
  have nd := sc_told.nd
  refine F.ok sc_told (fun vs H Q E h => ?_) (fun cdv A outer s H vs Q E hr h => ⟨_, PSs.nox (pss_cons (ps_set (i := 1) nd rfl (.inl rfl) pe_non)
     (pss_cons (ps_try_as (i := 3) rfl rfl nd rfl rfl ⟨rfl, by decide, .inl R_WebError.g⟩ takes0 (fun W pn xe tk _ => (pss_cons (ps_set (i := 2) nd rfl (.inl rfl) (pe_callS G_read_web (hr.mono (by first | decide | omega)) rfl g_read_web F_read_web.kp b_read_web (fun σ => passAt tk σ) (pa_cons (pv 0) pa_nil)))
     (pss_one (ps_set (i := 1) nd rfl (.inl rfl) (pe_ifExp (PW.pt (pw_and (pt_val (pe_callB (call_isiK (K := K) rfl) (by rfl) B.isinstance_ (by decide +kernel) (pa_cons (pv 2) (pa_cons (pe_glob (v := .ref C) rfl gWeb rfl) pa_nil)))) (pw_and1 (pt_cmpR op_eq (pe_call G_web_text (hr.mono (by first | decide | omega)) rfl g_web_text F_web_text.kp b_web_text .nil pass0 (pa_cons (pv 2) pa_nil)) (pv 0) (nomark _))))) pe_non pe_str))))) (fun a oe cls d pn hz hf => (pss_cons (ps_set (i := 1) nd rfl (.inl rfl) pe_str)
     (pss_cons (ps_set (i := 4) nd rfl (.inl rfl) (pe_callB (call_isGT hz hf) (by rfl) B.isinstance_ (by decide +kernel) (pa_cons (pv 3) (pa_cons (pe_tup (pa_cons (pe_glob (v := .ref cNC) rfl gNC rfl) (pa_cons (pe_glob (v := .ref cNPa) rfl gNPa rfl) (pa_cons (pe_glob (v := .ref cNR) rfl gNR rfl) (pa_cons (pe_glob (v := .ref cNWa) rfl gNWa rfl) (pa_cons (pe_glob (v := .ref NW0) rfl gNW0 rfl) pa_nil)))))) pa_nil))))
     (pss_one (ps_if (PW.pt (pw_and (pt_val (pe_callB (call_isG hz hf) (by rfl) B.isinstance_ (by decide +kernel) (pa_cons (pv 3) (pa_cons (pe_glob (v := .ref NT) rfl gNT rfl) pa_nil)))) (pw_and (pt_val (pe_callB (call_isG hz hf) (by rfl) B.isinstance_ (by decide +kernel) (pa_cons (pv 3) (pa_cons (pe_bltn (v := .ty "ValueError") (u := .type "ValueError") (by rfl) mVal (by decide +kernel) rfl) pa_nil)))) (pw_and (pt_not (pt_val (pv 4))) (pw_and1 (pt_not (pt_val (pe_callB (call_isiK (K := K) rfl) (by rfl) B.isinstance_ (by decide +kernel) (pa_cons (pe_xf XF_NoText XN_NoText hz hf (pv 3)) (pa_cons (pe_bltn (v := .ty "bool") (u := .type "bool") (by rfl) B.bool_ (by decide +kernel) rfl) pa_nil)))))))))) (pss_one (ps_set (i := 1) nd rfl (.inl rfl) (pe_xf XF_NoText XN_NoText hz hf (pv 3)))) pss_nil))))))
     (pss_one (ps_ret (pv 1))))), ?_⟩)
  · obtain ⟨v, d, rfl, _⟩ := h
    rfl
  · obtain ⟨v, d, rfl, hd, hz, q0, q1⟩ := h
    rw [show L2.start N_told [v] = [some v, none, none, none, none] from rfl]
    simp only [List.set]
    refine ⟨_, rfl, v, d, rfl, hd, hz, fun nz x H1 H2 s1 nx => ?_, fun z hzd => ⟨fun k hk x H1 H2 s1 nx => ?_, fun hn r fs ts a H1 SP ez s1 W => ?_⟩⟩
    · refine ⟨true, ex, fun _ e ne => ?_, fun z => Bool.noConfusion z⟩
      obtain ⟨_, hx, s2⟩ := nx
      have s02 := s1.trans s2
      refine ⟨_, rfl, by show 5 ≤ sizeLine; decide, fun tp ntp => ?_⟩
      obtain ⟨s3, m3⟩ := fresh2 (o := .tup [.ref cNC, .ref cNPa, .ref cNR, .ref cNWa, .ref NW0]) ntp
      have hd3 := s3 _ _ hx
      have s03 := s02.trans s3
      generalize upd H2 tp (.tup [.ref cNC, .ref cNPa, .ref cNR, .ref cNWa, .ref NW0]) = H3 at s3 m3 hd3 s03 ⊢
      have dk : DOk (some x) H3 := .inr ⟨x, _, rfl, hd3⟩
      refine ⟨NT, tp, _, [.ref cNC, .ref cNPa, .ref cNR, .ref cNWa, .ref NW0], false, rfl, dk, EC, rfl, m3, .cons (.own _) (.cons (.own _) (.cons (.own _) (.cons (.own _) (.cons (.own _) .nil)))), k1, ?_⟩
      simp only [List.set]
      refine ⟨_, rfl, NT, _, _, true, rfl, dk, EC, rfl, .own _, k2, true, rfl, iteT ?_⟩
      refine ⟨_, rfl, NT, _, _, true, rfl, dk, EC, rfl, .ty _, k3, true, rfl, iteT ?_⟩
      refine ⟨_, rfl, false, rfl, iteT ?_⟩
      refine ⟨_, rfl, rfl, rfl, x, _, .int 0, rfl, hd3, rfl, _, _, _, _, _, rfl, .ty _, .base (.int 0), kit_ty k_int_bool, false, rfl, iteT ?_⟩
      refine ⟨_, rfl, rfl, rfl, x, _, .int 0, rfl, hd3, rfl, ?_⟩
      exact ⟨_, rfl, q0 nz _ s03⟩
    · have fin := fun H3 (s3 : Same H H3) => q1 z hzd H3 s3
      rw [hk] at fin
      refine ⟨true, ex, fun _ e ne => ?_, fun z => Bool.noConfusion z⟩
      obtain ⟨_, hx, s2⟩ := nx
      have s02 := s1.trans s2
      refine ⟨_, rfl, by show 5 ≤ sizeLine; decide, fun tp ntp => ?_⟩
      obtain ⟨s3, m3⟩ := fresh2 (o := .tup [.ref cNC, .ref cNPa, .ref cNR, .ref cNWa, .ref NW0]) ntp
      have hd3 := s3 _ _ hx
      have s03 := s02.trans s3
      generalize upd H2 tp (.tup [.ref cNC, .ref cNPa, .ref cNR, .ref cNWa, .ref NW0]) = H3 at s3 m3 hd3 s03 ⊢
      have dk : DOk (some x) H3 := .inr ⟨x, _, rfl, hd3⟩
      refine ⟨NT, tp, _, [.ref cNC, .ref cNPa, .ref cNR, .ref cNWa, .ref NW0], false, rfl, dk, EC, rfl, m3, .cons (.own _) (.cons (.own _) (.cons (.own _) (.cons (.own _) (.cons (.own _) .nil)))), k1, ?_⟩
      simp only [List.set]
      refine ⟨_, rfl, NT, _, _, true, rfl, dk, EC, rfl, .own _, k2, true, rfl, iteT ?_⟩
      refine ⟨_, rfl, NT, _, _, true, rfl, dk, EC, rfl, .ty _, k3, true, rfl, iteT ?_⟩
      refine ⟨_, rfl, false, rfl, iteT ?_⟩
      refine ⟨_, rfl, rfl, rfl, x, _, .int (k : Int), rfl, hd3, rfl, _, _, _, _, _, rfl, .ty _, .base (.int (k : Int)), kit_ty k_int_bool, false, rfl, iteT ?_⟩
      refine ⟨_, rfl, rfl, rfl, x, _, .int (k : Int), rfl, hd3, rfl, ?_⟩
      exact ⟨_, rfl, fin _ s03⟩
    · subst hzd
      cases hd
      have fin := fun H3 (s3 : Same H H3) => q1 z rfl H3 s3
      rw [hn] at fin
      have W1 := WebAt.same W Nw.same
      simp only [List.set]
      refine ⟨_, rfl, _, _, _, _, true, rfl, .own _, ty_web WC WI W1, WI.ii, true, rfl, iteT ?_⟩
      refine ⟨_, rfl, a, r, fs, ts, rfl, W1, SP, fun H2 s2 => ⟨_, rfl, rfl, _, rfl, ?_⟩⟩
      rw [decide_eq_true (by rw [← ez])]
      exact iteT ⟨_, rfl, fin _ (s1.trans s2)⟩
end
end Cw
/-! the text of a good web: nothing is due -/
namespace Cw
open PySem PySem.Spec PyProof.Rows L2
open scoped Classical
theorem asc_name {z : Str} (h : IsName z) : Asc z := fun c hc => by
  have := h.2.2 c (by first | exact hc | simpa [TL.tl] using hc)
  omega
theorem asc_num {n : Int} (h : 0 ≤ n) : Asc (numS n) := fun c hc => by
  have := digs_numS h c hc
  omega
theorem asc_hs {hs : List (Int × Int)} (h : ∀ x ∈ hs, 0 ≤ x.1 ∧ 0 ≤ x.2) : ∀ x ∈ hsW hs, Asc x := by
  intro x hx
  unfold hsW at hx
  obtain ⟨y, hy, hx⟩ := List.mem_flatMap.mp hx
  have := h y hy
  simp only [List.mem_cons, List.not_mem_nil, or_false] at hx
  rcases hx with rfl | rfl
  · exact asc_num this.1
  · exact asc_num this.2
theorem asc_lit {x : Str} (h : ((TL.tl x).all fun c => decide (c < 128)) = true) : Asc x := fun c hc => of_decide_eq_true (List.all_eq_true.mp h c hc)
theorem asc_per {r : Bool} {fs : List (Str × Int)} {ts : List Tie} (S : Specs r fs ts) {f : Str × Int} (hf : f ∈ fs) : Asc (rowP f) := by
  refine join_asc tl_bl (by decide) fun x hx => ?_
  unfold wordsP at hx
  simp only [List.mem_cons, List.not_mem_nil, or_false] at hx
  rcases hx with rfl | rfl | rfl
  · exact asc_lit (by decide +kernel)
  · exact asc_name (S.fo.nm f hf)
  · exact asc_num (S.fo.st f hf).1
theorem asc_tie {r : Bool} {fs : List (Str × Int)} {ts : List Tie} (S : Specs r fs ts) {t : Tie} (ht : t ∈ ts) : Asc (rowT t) := by
  refine join_asc tl_bl (by decide) fun x hx => ?_
  have g := S.ti t ht
  unfold wordsT at hx
  rcases List.mem_append.mp hx with hx | hx
  · simp only [List.mem_cons, List.not_mem_nil, or_false] at hx
    rcases hx with rfl | rfl | rfl | rfl | rfl
    · exact asc_lit (by decide +kernel)
    · exact asc_name g.nm
    · exact asc_name (S.isName g.h1)
    · exact asc_name (S.isName g.h2)
    · exact asc_num g.at0.1
  · exact asc_hs g.hs0 x hx
theorem asc_text {r : Bool} {fs : List (Str × Int)} {ts : List Tie} (S : Specs r fs ts) : Asc (txS (rowsS r fs ts)) := by
  intro c hc
  rw [tl_txS] at hc
  obtain ⟨x, hx, hc⟩ := List.mem_flatMap.mp hc
  rcases List.mem_append.mp hc with hc | hc
  · have : Asc x := by
      unfold rowsS at hx
      rcases List.mem_cons.mp hx with rfl | hx
      · cases r
        · exact asc_lit (by decide +kernel)
        · exact asc_lit (by decide +kernel)
      · rcases List.mem_append.mp hx with hx | hx
        · obtain ⟨f, hf, rfl⟩ := List.mem_map.mp hx
          exact asc_per S hf
        · obtain ⟨t, ht, rfl⟩ := List.mem_map.mp hx
          exact asc_tie S ht
    exact this c hc
  · rw [List.mem_singleton.mp hc]
    decide
theorem run_good {r : Bool} {fs : List (Str × Int)} {ts : List Tie} (S : Specs r fs ts) : ∀ k : Nat, k ≤ (fs.map rowP ++ ts.map rowT).length →
    runF r ((fs.map rowP ++ ts.map rowT).map fun y => Txt.split y (Str.ofString " ")) [] [] 1 = runF r (((fs.map rowP ++ ts.map rowT).drop k).map fun y => Txt.split y (Str.ofString " ")) (fs.take k) (ts.take (k - fs.length)) (1 + k)
  | 0, _ => by simp
  | k + 1, hk => by
    rw [run_good S k (by omega)]
    have ll : (fs.map rowP ++ ts.map rowT).length = fs.length + ts.length := by rw [List.length_append, List.length_map, List.length_map]
    have hk' : k < (fs.map rowP ++ ts.map rowT).length := hk
    rw [List.drop_eq_getElem_cons hk', List.map_cons, show 1 + (k + 1) = 1 + k + 1 from rfl]
    refine run_step ⟨S.take (by omega), ?_⟩
    by_cases c : k < fs.length
    · refine .inl ⟨fs[k], ?_, ?_, ?_, ?_⟩
      · rw [List.getElem_append_left (by rw [List.length_map]; exact c), List.getElem_map]
        exact split_row (by simp [wordsP]) fun x hx => (words_per S (List.getElem_mem c) x hx).f 32 (by decide)
      · rw [show k - fs.length = 0 from by omega, List.take_zero]
      · rw [List.take_add_one, List.getElem?_eq_getElem c]
        rfl
      · rw [show k + 1 - fs.length = 0 from by omega, List.take_zero]
    · have hj : k - fs.length < ts.length := by omega
      refine .inr ⟨ts[k - fs.length], ?_, ?_, ?_⟩
      · rw [List.getElem_append_right (by rw [List.length_map]; omega)]
        simp only [List.length_map, List.getElem_map]
        exact split_row (by simp [wordsT]) fun x hx => (words_tie S (List.getElem_mem hj) x hx).f 32 (by decide)
      · rw [List.take_of_length_le (by omega), List.take_of_length_le (by omega)]
      · rw [show k + 1 - fs.length = (k - fs.length) + 1 from by omega, List.take_add_one, List.getElem?_eq_getElem hj]
        rfl
theorem due_good {r : Bool} {fs : List (Str × Int)} {ts : List Tie} (S : Specs r fs ts) : dueF (Txt.split (txS (rowsS r fs ts)) (Str.ofString "\n")) = none := by
  have e : Txt.split (txS (rowsS r fs ts)) (Str.ofString "\n") = headS r :: (fs.map rowP ++ ts.map rowT) ++ [Str.ofString ""] := split_txS fun x hx => (rows_ok S x hx).1
  rw [e]
  have ll : (fs.map rowP ++ ts.map rowT).length = fs.length + ts.length := by rw [List.length_append, List.length_map, List.length_map]
  have g := run_good S _ (Nat.le_refl _)
  rw [List.drop_length, List.take_of_length_le (by omega), List.take_of_length_le (by omega)] at g
  exact dueF_good g (fun z => by have := S.f1; rw [z] at this; exact absurd this (by decide)) rfl
theorem due_none : dueF (Txt.split (Str.ofString "") (Str.ofString "\n")) = some 1 := by
  rw [show Txt.split (Str.ofString "") (Str.ofString "\n") = [] ++ [Str.ofString ""] from by decide +kernel]
  exact dueF_nil _
theorem due_head : dueF (Txt.split (Str.ofString "cries") (Str.ofString "\n")) = some 1 := by
  rw [show Txt.split (Str.ofString "cries") (Str.ofString "\n") = [] ++ [Str.ofString "cries"] from by decide +kernel]
  exact dueF_nil _
theorem due_two : dueF (Txt.split (Str.ofString "cries\n") (Str.ofString "\n")) = some 2 := by
  rw [show Txt.split (Str.ofString "cries\n") (Str.ofString "\n") = headS false :: [] ++ [Str.ofString ""] from by decide +kernel]
  exact dueF_end (fs := []) (ts := []) rfl (.inl rfl)
end Cw
namespace Cw
open PySem PySem.Spec PyProof.Rows L2
theorem offBut {p : Addr} {H H' : Hp} (h : But p H H') : Same (Off p H) (Off p H') := fun b o e => by
  have nb := Off.ne e
  exact Off.at nb (h b o nb (Off.same _ _ e))
/-- how long a text may be behind so many steps -/
def Lb : Nat → Nat
  | 0 => 20000
  | j + 1 => 3 * Lb j + 300
theorem lb_small : ∀ j : Nat, j < 3 → Lb j ≤ 190000 := by decide
theorem lb_end : ∀ j : Nat, j ≤ 3 → Lb j ≤ 600000 := fun j h => by
  match j, h with
  | 0, _ => decide
  | 1, _ => decide
  | 2, _ => decide
  | 3, _ => decide
  | n + 4, h => omega
section
variable {P : Program} {w : World} {K : PySem.W.Frag} {mg : Str → Option Value} {base : Heap} {C : Addr}
abbrev RndOk (P : Program) (w : World) (K : PySem.W.Frag) (mg : Str → Option Value) (base : Heap) : Prop := Has P w K mg base "_law_rounds" S_rounds 5 P_rounds spRounds
def spLaw (K : PySem.W.Frag) : Sp := fun vs H Q _ => ∃ (a : Addr) (ns : List Int), vs = [.ref a] ∧ SqL K H a (ns.map V.int) ∧ ∀ H', Q (.bl true) H'
theorem ok_law {f : Addr} {fd : FuncData} (F : FnP K "law" "law" S_law f fd) (H_pot : Has P w K mg base "_law_pot" S_pot 1 P_pot (spPot K)) (H_take : TakeOk P w K mg base) (H_web : WebOk P w K mg base) (H_rounds : RndOk P w K mg base) (H_text : Has P w K mg base "_law_text" S_text 1 P_text spText2) (H_spoilt : Has P w K mg base "_law_spoilt" S_spoilt 3 P_spoilt spSpoilt) (H_due : Has P w K mg base "_law_due" S_due 4 P_due spDue) (H_told : Has P w K mg base "_law_told" S_told 9 P_told spTold) (B : Blt mg) : FnG P w K mg base CX0 14 f fd P_law (spLaw K) := by
  obtain ⟨f_pot, fd_pot, F_pot, b_pot, G_pot, g_pot⟩ := H_pot
  obtain ⟨f_take, fd_take, F_take, b_take, G_take, g_take⟩ := H_take
  obtain ⟨f_rounds, fd_rounds, F_rounds, b_rounds, G_rounds, g_rounds⟩ := H_rounds
  obtain ⟨f_web, fd_web, F_web, b_web, G_web, g_web⟩ := H_web
  obtain ⟨f_text, fd_text, F_text, b_text, G_text, g_text⟩ := H_text
  obtain ⟨f_told, fd_told, F_told, b_told, G_told, g_told⟩ := H_told
  obtain ⟨f_due, fd_due, F_due, b_due, G_due, g_due⟩ := H_due
  obtain ⟨f_spoilt, fd_spoilt, F_spoilt, b_spoilt, G_spoilt, g_spoilt⟩ := H_spoilt
  have nd := sc_law.nd
  refine defG F sc_law (fun vs H Q E h => ?_) (fun cdv A outer s H vs Q E hG hr h => ⟨_, PSs.nox (C8.pss_cut (ps_for PassesOwn.never rfl (pi_range1 rfl B.range_ (pa_cons (pe_callB (call_max2 rfl) (by rfl) B.max_ (by decide +kernel) (pa_cons pe_int (pa_cons (pe_callB (call_min2 rfl) (by rfl) B.min_ (by decide +kernel) (pa_cons (pe_callB call_len_seq (by rfl) B.len_ PySem.boot_len (pa_cons (pv 0) pa_nil)) (pa_cons pe_int pa_nil))) pa_nil))) pa_nil)) (pg_name (i := 1) nd rfl (.inl rfl))
      (pss_cons (ps_set (i := 2) nd rfl (.inl rfl) (pe_call G_pot (hr.mono (by first | decide | omega)) rfl g_pot F_pot.kp b_pot .nil pass0 (pa_cons (pv 0) (pa_cons (pv 1) pa_nil))))
     (pss_cons (ps_set (i := 3) nd rfl (.inl rfl) (pe_ix ix_list (pe_lst (pa_cons pe_non (pa_cons pe_int (pa_cons pe_bl (pa_cons (pe_lst (pa_cons pe_str pa_nil)) (pa_cons (pe_tup (pa_cons pe_str pa_nil)) (pa_cons pe_dnewK (pa_cons pe_int (pa_cons (pe_lst (pa_cons pe_str pa_nil)) (pa_cons (pe_lst pa_nil) (pa_cons pe_tupZ (pa_cons pe_bl pa_nil)))))))))))) (pe_call G_take (hr.mono (by first | decide | omega)) rfl g_take F_take.kp b_take .nil pass0 (pa_cons (pv 2) (pa_cons pe_int pa_nil))) (fun _ _ => rfl)))
     (pss_cons (ps_set (i := 4) nd rfl (.inl rfl) (pe_cmpR op_eq (pe_call G_take (hr.mono (by first | decide | omega)) rfl g_take F_take.kp b_take .nil pass0 (pa_cons (pv 2) (pa_cons pe_int pa_nil))) pe_int (nomark _)))
     (C8.pss_cut (ps_set (i := 5) nd rfl (.inl rfl) (pe_ifExp (pt_val (pv 4)) (pe_call G_rounds (hr.mono (by first | decide | omega)) rfl g_rounds F_rounds.kp b_rounds .nil pass0 (pa_cons (pv 2) (pa_cons pe_int (pa_cons pe_int pa_nil)))) (pe_call G_web (hr.mono (by first | decide | omega)) rfl g_web F_web.kp b_web .nil pass0 (pa_cons (pv 2) (pa_cons pe_int (pa_cons (pe_ix ix_list (pe_lst (pa_cons pe_int (pa_cons pe_int pa_nil))) (pe_call G_take (hr.mono (by first | decide | omega)) rfl g_take F_take.kp b_take .nil pass0 (pa_cons (pv 2) (pa_cons pe_int pa_nil))) (fun _ _ => rfl)) (pa_cons pe_int (pa_cons pe_int pa_nil))))))))
     (pss_cons (ps_set (i := 6) nd rfl (.inl rfl) (pe_call G_text (hr.mono (by first | decide | omega)) rfl g_text F_text.kp b_text .nil pass0 (pa_cons (pv 5) (pa_cons (pv 4) pa_nil))))
     (pss_cons (ps_if (PW.pt (pw_or (pt_cmpR op_notN (pe_call G_told (hr.mono (by first | decide | omega)) rfl g_told F_told.kp b_told .nil pass0 (pa_cons (pv 6) pa_nil)) pe_non (nomark _)) (pw_or (pt_cmpR op_notN (pe_call G_due (hr.mono (by first | decide | omega)) rfl g_due F_due.kp b_due .nil pass0 (pa_cons (pv 6) pa_nil)) pe_non (nomark _)) (pw_or1 (pt_cmpR op_ne (pe_call G_told (hr.mono (by first | decide | omega)) rfl g_told F_told.kp b_told .nil pass0 (pa_cons (pv 3) pa_nil)) pe_int (nomark _)))))) pss_no pss_nil)
     (pss_one (ps_for PassesOwn.never rfl (pi_range1 rfl B.range_ (pa_cons pe_int pa_nil)) (pg_name (i := 7) nd rfl (.inl rfl))
      (pss_cons (ps_set (i := 8) nd rfl (.inl rfl) (pv 6))
     (C8.pss_cut (ps_for PassesOwn.never rfl (pi_range1 rfl B.range_ (pa_cons (pe_op op_add pe_int (pe_call G_take (hr.mono (by first | decide | omega)) rfl g_take F_take.kp b_take .nil pass0 (pa_cons (pv 2) (pa_cons pe_int pa_nil)))) pa_nil)) (pg_name (i := 9) nd rfl (.inl rfl))
      (pss_one (ps_set (i := 8) nd rfl (.inl rfl) (pe_call G_spoilt (hr.mono (by first | decide | omega)) rfl g_spoilt F_spoilt.kp b_spoilt .nil pass0 (pa_cons (pv 2) (pa_cons (pv 8) pa_nil))))))
     (pss_one (ps_if (pt_cmpR op_ne (pe_call G_told (hr.mono (by first | decide | omega)) rfl g_told F_told.kp b_told .nil pass0 (pa_cons (pv 8) pa_nil)) (pe_call G_due (hr.mono (by first | decide | omega)) rfl g_due F_due.kp b_due .nil pass0 (pa_cons (pv 8) pa_nil)) (nomark _)) pss_no pss_nil)))))))))))))
     (pss_one (ps_ret (pe_and (pe_cmpR op_eq (pe_call G_told (hr.mono (by first | decide | omega)) rfl g_told F_told.kp b_told .nil pass0 (pa_cons pe_str pa_nil)) pe_int (nomark _)) (pe_and (pe_cmpR op_eq (pe_call G_told (hr.mono (by first | decide | omega)) rfl g_told F_told.kp b_told .nil pass0 (pa_cons pe_str pa_nil)) pe_int (nomark _)) (pe_one (pe_cmpR op_eq (pe_call G_told (hr.mono (by first | decide | omega)) rfl g_told F_told.kp b_told .nil pass0 (pa_cons pe_str pa_nil)) pe_int (nomark _)))))))), ?_⟩)
  · obtain ⟨a, ns, rfl, _⟩ := h
    rfl
  · obtain ⟨a, ns, rfl, hS, q⟩ := h
    rw [show L2.start N_law [V.ref a] = [some (V.ref a), none, none, none, none, none, none, none, none, none] from rfl]
    have hlen5 : ∀ m : Int, (if (if 5 < m then (5 : Int) else m) > 2 then (if 5 < m then (5 : Int) else m) else 2) ≤ 5 := fun m => by
      split
      · split <;> omega
      · omega
    refine ⟨fun σ H' => ∃ x1 x2 x3 x4 x5 x6 x7 x8 x9, σ = [some (V.ref a), x1, x2, x3, x4, x5, x6, x7, x8, x9], ?_, ?_⟩
    · refine ⟨_, rfl, a, _, rfl, .inl hS, _, _, rfl, _, _, rfl, _, rfl, ?_, ?_, ?_⟩
      · split
        · split <;> omega
        · omega
      · have := hlen5 ((ns.map V.int).length : Nat)
        omega
      have hn5 := hlen5 ((ns.map V.int).length : Nat)
      generalize (if (if 5 < (((ns.map V.int).length : Nat) : Int) then (5 : Int) else (((ns.map V.int).length : Nat) : Int)) > 2 then (if 5 < (((ns.map V.int).length : Nat) : Int) then (5 : Int) else (((ns.map V.int).length : Nat) : Int)) else 2) = many at hn5 ⊢
      refine for_it (walk_range (lo := 0) (n := many.toNat)) (fun i σ H2 => Same H H2 ∧ ∃ (x1 x2 x3 x4 x5 x6 x7 x8 x9 : Option V), σ = [some (V.ref a), x1, x2, x3, x4, x5, x6, x7, x8, x9]) ⟨fun _ _ e => e, none, none, none, none, none, none, none, none, none, rfl⟩ (fun _ _ _ _ _ => trivial) ?_ (fun _ _ h => h.2)
      rintro i x σ H2 H2' hi ⟨s02, x1, x2, x3, x4, x5, x6, x7, x8, x9, rfl⟩ ⟨rfl, rfl⟩
      refine ⟨_, rfl, _, rfl, a, ns, _, rfl, SqL.same hS s02, by omega, by omega, fun p H3 s3 np P3 => ?_⟩
      have fin : ∀ H10, Drew p H3 H10 → Same H H10 := fun H10 dr b o e => by
        have e2 := s02 _ _ e
        exact dr.1 b o (ne_of_none e2 np) (s3 _ _ e2)
      simp only [List.set]
      refine ⟨by show 1 ≤ sizeLine; decide, fun la n_la => ?_⟩
      obtain ⟨s_la, m_la⟩ := fresh2 (o := .lst [V.str (Str.ofString "cries\n")]) n_la
      refine ⟨by show 1 ≤ sizeLine; decide, fun lt n_lt => ?_⟩
      obtain ⟨s_lt, m_lt⟩ := fresh2 (o := .tup [V.str (Str.ofString "cries\n")]) n_lt
      intro ld n_ld
      obtain ⟨s_ld, m_ld⟩ := fresh2 (o := .dK []) n_ld
      refine ⟨by show 1 ≤ sizeLine; decide, fun lb n_lb => ?_⟩
      obtain ⟨s_lb, m_lb⟩ := fresh2 (o := .lst [V.str (Str.ofString "")]) n_lb
      refine ⟨by show 0 ≤ sizeLine; decide, fun lc n_lc => ?_⟩
      obtain ⟨s_lc, m_lc⟩ := fresh2 (o := .lst []) n_lc
      intro lz o_lz n_lz d_lz
      obtain ⟨s_lz, m_lz⟩ := fresh2 (o := .frz o_lz (.tup [])) n_lz
      refine ⟨by show 11 ≤ sizeLine; decide, fun lo n_lo => ?_⟩
      obtain ⟨s_lo, m_lo⟩ := fresh2 (o := .lst [V.non, .int 0, .bl true, .ref la, .ref lt, .ref ld, .int 7, .ref lb, .ref lc, .ref lz, .bl false]) n_lo
      have k_la := (P3).ne n_la
      have P_la := (P3).same s_la
      have t_la := s_la
      have k_lt := (P_la).ne n_lt
      have P_lt := (P_la).same s_lt
      have t_lt := t_la.trans s_lt
      have k_ld := (P_lt).ne n_ld
      have P_ld := (P_lt).same s_ld
      have t_ld := t_lt.trans s_ld
      have k_lb := (P_ld).ne n_lb
      have P_lb := (P_ld).same s_lb
      have t_lb := t_ld.trans s_lb
      have k_lc := (P_lb).ne n_lc
      have P_lc := (P_lb).same s_lc
      have t_lc := t_lb.trans s_lc
      have k_lz := (P_lc).ne n_lz
      have P_lz := (P_lc).same s_lz
      have t_lz := t_lc.trans s_lz
      have k_lo := (P_lz).ne n_lo
      have P_lo := (P_lz).same s_lo
      have t_lo := t_lz.trans s_lo
      have m_la := (s_lo _ _ (s_lz _ _ (s_lc _ _ (s_lb _ _ (s_ld _ _ (s_lt _ _ (m_la)))))))
      have m_lt := (s_lo _ _ (s_lz _ _ (s_lc _ _ (s_lb _ _ (s_ld _ _ (m_lt))))))
      have m_ld := (s_lo _ _ (s_lz _ _ (s_lc _ _ (s_lb _ _ (m_ld)))))
      have m_lb := (s_lo _ _ (s_lz _ _ (s_lc _ _ (m_lb))))
      have m_lc := (s_lo _ _ (s_lz _ _ (m_lc)))
      have m_lz := (s_lo _ _ (m_lz))
      have m_lo := (m_lo)
      have P_all := P_lo
      have s_all := t_lo
      generalize hHc : upd _ lo (.lst [V.non, .int 0, .bl true, .ref la, .ref lt, .ref ld, .int 7, .ref lb, .ref lc, .ref lz, .bl false]) = Hc at m_la m_lt m_ld m_lb m_lc m_lz m_lo P_all s_all ⊢
      clear hHc
      have dx : DxAll (Off p Hc) [V.non, .int 0, .bl true, .ref la, .ref lt, .ref ld, .int 7, .ref lb, .ref lc, .ref lz, .bl false] [.none, .int 0, .bool true, .list [.str (Str.ofString "cries\n")], .tuple [.str (Str.ofString "cries\n")], .dict [], .int 7, .list [.str (Str.ofString "")], .list [], .tuple [], .bool false] :=
        .cons .non (.cons (.int _) (.cons (.bl _) (.cons (.lst (Off.at k_la.symm m_la) (.cons (.str _) .nil)) (.cons (.tup (Off.at k_lt.symm m_lt) (.cons (.str _) .nil)) (.cons (.emp (Off.at k_ld.symm m_ld)) (.cons (.int _) (.cons (.lst (Off.at k_lb.symm m_lb) (.cons (.str _) .nil)) (.cons (.lst (Off.at k_lc.symm m_lc) .nil) (.cons (.tupz (Off.at k_lz.symm m_lz) d_lz .nil rfl) (.cons (.bl _) .nil))))))))))
      have dns : ∀ d ∈ ([.none, .int 0, .bool true, .list [.str (Str.ofString "cries\n")], .tuple [.str (Str.ofString "cries\n")], .dict [], .int 7, .list [.str (Str.ofString "")], .list [], .tuple [], .bool false] : List PyData), ∀ z, d ≠ .str z := fun d hd z e => by
        subst e
        simp at hd
      have dln : ([.none, .int 0, .bool true, .list [.str (Str.ofString "cries\n")], .tuple [.str (Str.ofString "cries\n")], .dict [], .int 7, .list [.str (Str.ofString "")], .list [], .tuple [], .bool false] : List PyData).length = 11 := rfl
      generalize ([.none, .int 0, .bool true, .list [.str (Str.ofString "cries\n")], .tuple [.str (Str.ofString "cries\n")], .dict [], .int 7, .list [.str (Str.ofString "")], .list [], .tuple [], .bool false] : List PyData) = ds at dx dns dln
      generalize [V.non, .int 0, .bl true, .ref la, .ref lt, .ref ld, .int 7, .ref lb, .ref lc, .ref lz, .bl false] = things at dx m_lo
      have drc : Drew p H3 Hc := ⟨Same.but s_all, P_all⟩
      refine ⟨_, rfl, p, 11, rfl, P_all, by decide, log_small (n := 11) (by decide) (by decide) (by decide), fun kt H5 kt0 kt1 dr5 => ?_⟩
      have hkt : kt.toNat < ds.length := by omega
      obtain ⟨th, hth, dth⟩ := dxall_get (i := kt.toNat) dx (List.getElem?_eq_getElem hkt)
      have nth := dns _ (List.getElem_mem hkt)
      generalize ds[kt.toNat] = td at dth nth
      refine ⟨lo, things, kt, th, rfl, rfl, SqL.of (dr5.1 _ _ k_lo.symm m_lo), atI_int kt0 hth, ?_⟩
      have dth := Dx.same (offBut dr5.1) _ _ dth
      have dr5 := drc.trans dr5
      clear dx dns dln hth
      simp only [List.set]
      refine ⟨_, rfl, p, _, rfl, dr5.2, by decide, log_small (n := 4) (by decide) (by decide) (by decide), fun d H6 d0 d1 dr6 => ⟨rfl, ?_⟩⟩
      generalize hr0 : decide (V.int d = V.int 0) = r
      simp only [List.set]
      have dth := Dx.same (offBut dr6.1) _ _ dth
      have dr6 := dr5.trans dr6
      refine ⟨fun σ H7 => ∃ (v : V) (fs : List (Str × Int)) (ts : List Tie), σ = [some (V.ref a), some (.int (0 + (i : Int))), some (.ref p), some th, some (.bl r), some v, x6, x7, x8, x9] ∧ Drew p H6 H7 ∧ Dx (Off p H7) v (dSpec fs ts) ∧ Specs r fs ts, ?_, ?_⟩
      · refine ⟨_, rfl, r, rfl, ?_⟩
        cases r with
        | true =>
          exact iteT ⟨_, rfl, p, 8, 12, rfl, dr6.2, by decide, by decide, by decide, by decide, fun v fs ts H7 x7 sp dr7 => ⟨v, fs, ts, rfl, dr7, x7, sp⟩⟩
        | false =>
          refine iteF ⟨_, rfl, by show 2 ≤ sizeLine; decide, fun l2 n2 => ?_⟩
          obtain ⟨s2, m2⟩ := fresh2 (o := .lst [V.int 12, V.int 3]) n2
          have P2 := dr6.2.same s2
          have l2p := (dr6.2.ne n2).symm
          refine ⟨_, rfl, p, 2, rfl, P2, by decide, log_small (n := 2) (by decide) (by decide) (by decide), fun y H8 y0 y1 dr8 => ?_⟩
          have m2 := dr8.1 _ _ l2p m2
          have dr8 : Drew p H6 H8 := ⟨(Same.but s2).trans dr8.1, dr8.2⟩
          have hy : ∃ n : Int, atI [V.int 12, V.int 3] y = some (V.int n) ∧ 3 ≤ n ∧ n ≤ 12 := by
            rcases (by omega : y = 0 ∨ y = 1) with rfl | rfl
            · exact ⟨12, atI_int (by decide) rfl, by decide, by decide⟩
            · exact ⟨3, atI_int (by decide) rfl, by decide, by decide⟩
          obtain ⟨n, hn, n3, n12⟩ := hy
          refine ⟨l2, _, y, .int n, rfl, rfl, SqL.of m2, hn, ?_⟩
          refine ⟨p, 8, n, 3, 12, rfl, dr8.2, by decide, by decide, by omega, by omega, by decide, by decide, by decide, fun v fs ts H7 x7 sp f1 f8 t12 tl dr7 => ⟨v, fs, ts, rfl, dr8.trans dr7, x7, sp.cries f1 f8 (by omega) (by omega)⟩⟩
      rintro σ H7 ⟨v, fs, ts, rfl, dr7, hv, SP⟩
      have dth := Dx.same (offBut dr7.1) _ _ dth
      have dr7 := dr6.trans dr7
      refine ⟨_, rfl, _, rfl, v, r, fs, ts, rfl, Dx.same Off.same _ _ hv, SP, fun H8 s8 => ?_⟩
      simp only [List.set]
      have dr8 : Drew p H3 H8 := ⟨dr7.1.trans (Same.but s8), dr7.2.same s8⟩
      have th8 : Dx H8 th td := Dx.same (Off.same.trans s8) _ _ dth
      have tl := text_len SP
      have ta := asc_text SP
      have td0 := due_good SP
      generalize txS (rowsS r fs ts) = text at tl ta td0 ⊢
      refine ⟨_, rfl, .str text, .str text, rfl, .str _, fun z e => by cases e; omega, fun nz => absurd rfl (nz _), fun z e H9 s9 => ?_⟩
      cases e
      rw [td0]
      refine ⟨rfl, _, rfl, ?_⟩
      refine iteF ?_
      refine ⟨_, rfl, .str text, .str text, rfl, .str _, fun z e => by cases e; exact ⟨by omega, ta⟩, fun nz => absurd rfl (nz _), fun z e H10 s10 => ?_⟩
      cases e
      rw [td0]
      refine ⟨rfl, _, rfl, ?_⟩
      refine iteF ?_
      refine ⟨_, rfl, th, td, rfl, Dx.same (s9.trans s10) _ _ th8, fun z e => absurd e (nth z), fun nz H11 s11 => ?_, fun z e => absurd e (nth z)⟩
      refine ⟨rfl, _, rfl, ?_⟩
      refine iteF ?_
      have dr11 : Drew p H3 H11 := ⟨dr8.1.trans (Same.but ((s9.trans s10).trans s11)), dr8.2.same ((s9.trans s10).trans s11)⟩
      refine ⟨_, rfl, by decide, by decide, ?_⟩
      refine for_it (walk_range (lo := 0) (n := 4)) (fun j σ H' => Drew p H3 H' ∧ ∃ x7 x8 x9, σ = [some (V.ref a), some (.int (0 + (i : Int))), some (.ref p), some th, some (.bl r), some v, some (.str text), x7, x8, x9]) ⟨dr11, _, _, _, rfl⟩ (fun _ _ _ _ _ => trivial) ?_ (fun σ H' h => ⟨fin _ h.1, _, _, _, _, _, _, _, _, _, h.2.choose_spec.choose_spec.choose_spec⟩)
      rintro j x σ H12 H12' hj ⟨dr12, x7, x8, x9, rfl⟩ ⟨rfl, rfl⟩
      simp only [List.set]
      refine ⟨_, rfl, ?_⟩
      simp only [List.set]
      refine ⟨fun σ H' => Drew p H3 H' ∧ ∃ y x9, σ = [some (V.ref a), some (.int (0 + (i : Int))), some (.ref p), some th, some (.bl r), some v, some (.str text), some (.int (0 + (j : Int))), some (.str y), x9] ∧ y.length ≤ 600000 ∧ Asc y, ?_, ?_⟩
      · refine ⟨_, rfl, p, 3, rfl, dr12.2, by decide, log_small (n := 3) (by decide) (by decide) (by decide), fun m H13 m0 m1 dr13 => ⟨_, _, rfl, rfl, _, rfl, by omega, by omega, ?_⟩⟩
        refine for_it (walk_range (lo := 0) (n := (1 + m).toNat)) (fun k σ H' => Drew p H3 H' ∧ ∃ y x9, σ = [some (V.ref a), some (.int (0 + (i : Int))), some (.ref p), some th, some (.bl r), some v, some (.str text), some (.int (0 + (j : Int))), some (.str y), x9] ∧ y.length ≤ Lb k ∧ Asc y) ⟨dr12.trans dr13, text, _, rfl, tl, ta⟩ (fun _ _ _ _ _ => trivial) ?_ ?_
        · rintro k x σ H14 H14' hk ⟨dr14, y, x9, rfl, ly, ay⟩ ⟨rfl, rfl⟩
          simp only [List.set]
          exact ⟨_, rfl, _, rfl, p, y, Lb k, rfl, dr14.2, ly, ay, lb_small k (by omega), fun z H15 lz az dr15 => ⟨dr14.trans dr15, z, _, rfl, lz, az⟩⟩
        · rintro σ H14 ⟨dr14, y, x9, rfl, ly, ay⟩
          exact ⟨dr14, y, _, rfl, Nat.le_trans ly (lb_end _ (by omega)), ay⟩
      rintro σ H13 ⟨dr13, y, x9, rfl, ly, ay⟩
      refine ⟨_, rfl, .str y, .str y, rfl, .str _, fun z e => by cases e; exact ly, fun nz => absurd rfl (nz _), fun z e H14 s14 => ?_⟩
      cases e
      refine ⟨_, rfl, .str y, .str y, rfl, .str _, fun z e => by cases e; exact ⟨ly, ay⟩, fun nz => absurd rfl (nz _), fun z e H15 s15 => ?_⟩
      cases e
      refine ⟨?_, false, ?_, iteF ⟨⟨dr13.1.trans (Same.but (s14.trans s15)), dr13.2.same (s14.trans s15)⟩, _, _, _, rfl⟩⟩
      · cases dueF (Txt.split y (Str.ofString "\n")) <;> rfl
      · simp
    rintro σ H' ⟨x1, x2, x3, x4, x5, x6, x7, x8, x9, rfl⟩
    refine ⟨.str (Str.ofString ""), .str (Str.ofString ""), rfl, .str _, fun z e => by cases e; decide +kernel, fun nz => absurd rfl (nz _), fun z e H1 s1 => ?_⟩
    cases e
    rw [due_none]
    refine ⟨rfl, true, rfl, ?_⟩
    refine iteT ⟨.str (Str.ofString "cries\n"), .str (Str.ofString "cries\n"), rfl, .str _, fun z e => by cases e; decide +kernel, fun nz => absurd rfl (nz _), fun z e H2 s2 => ?_⟩
    cases e
    rw [due_two]
    refine ⟨rfl, true, rfl, ?_⟩
    refine iteT ⟨.str (Str.ofString "cries"), .str (Str.ofString "cries"), rfl, .str _, fun z e => by cases e; decide +kernel, fun nz => absurd rfl (nz _), fun z e H3 s3 => ?_⟩
    cases e
    rw [due_head]
    exact ⟨rfl, q _⟩
end
end Cw
namespace Cw
open PySem PySem.Spec PyProof.Rows L2
def rz2B (K : PySem.W.Frag) (C : Addr) (f g : Str) : Bool := rzB K C "ValueError" f && decide (PySem.W.takerIn K C g = some none)
/-- an own class over ValueError, with two fields -/
theorem rz2_val {P : Program} {w : World} {K : PySem.W.Frag} {mg : Str → Option Value} {base : Heap} {x f g q : Str} {C fI : Addr} {fd : FuncData} {ar : Arguments} {sc : Scope} {q1 q2 q3 q4 q5 q6 q7 q8 : Pos} (gl : mg x = some (.ref C)) (h : rz2B K C f g = true) (M : Meth K C "__init__" fI)
    (FI : FunD K "__init__" q ar [.Assign [.Attribute (.Name "self" q1) f q2] (.Name f q3) q4, .Assign [.Attribute (.Name "self" q5) g q6] (.Name g q7) q8] sc [] [] fI fd) (S : FnScope ["self", f, g] ["self", f, g] sc) (b : Binds K fd ["self", f, g] [])
    (f1 : (f == ("__debug__" : Str)) = false) (f2 : (f == ("__classdict__" : Str)) = false) (g1 : (g == ("__debug__" : Str)) = false) (g2 : (g == ("__classdict__" : Str)) = false) : Rz2 P w K mg base x f g C := by
  unfold rz2B at h
  obtain ⟨h, h5⟩ := He.ba h
  unfold rzB at h
  obtain ⟨h1, h⟩ := He.ba h
  obtain ⟨h2, h⟩ := He.ba h
  obtain ⟨h3, h4⟩ := He.ba h
  have T := exB_ok PySem.F.excBase_ValueError PySem.F.store_ValueError h1
  exact ⟨gl, ⟨fI, fd, _, _, _, _, T, M.at_, beq_iff_eq.mp M.fn, ok_init2 FI S T (of_decide_eq_true h4) (of_decide_eq_true h5) f1 f2 g1 g2, b⟩, of_decide_eq_true h2, of_decide_eq_true h3⟩
/-- an own class over ValueError, with one field -/
theorem rz_val {P : Program} {w : World} {K : PySem.W.Frag} {mg : Str → Option Value} {base : Heap} {x f q : Str} {C fI : Addr} {fd : FuncData} {ar : Arguments} {sc : Scope} {q1 q2 q3 q4 : Pos} (g : mg x = some (.ref C)) (h : rzB K C "ValueError" f = true) (M : Meth K C "__init__" fI)
    (FI : FunD K "__init__" q ar [.Assign [.Attribute (.Name "self" q1) f q2] (.Name f q3) q4] sc [] [] fI fd) (S : FnScope ["self", f] ["self", f] sc) (b : Binds K fd ["self", f] []) (f1 : (f == ("__debug__" : Str)) = false) (f2 : (f == ("__classdict__" : Str)) = false) : Rz P w K mg base x f C := by
  unfold rzB at h
  obtain ⟨h1, h⟩ := He.ba h
  obtain ⟨h2, h⟩ := He.ba h
  obtain ⟨h3, h4⟩ := He.ba h
  have T := exB_ok PySem.F.excBase_ValueError PySem.F.store_ValueError h1
  exact ⟨g, ⟨fI, fd, _, _, _, _, T, M.at_, beq_iff_eq.mp M.fn, ok_init1 FI S T (of_decide_eq_true h4) f1 f2, b⟩, of_decide_eq_true h2, of_decide_eq_true h3⟩
def twoB (l : List Value) : Bool := match l with
  | [.str x _, .str y _] => decide (x = Str.ofString "cries") && decide (y = Str.ofString "rounds")
  | _ => false
def seqB (d : Data) : Bool := match d with
  | .seq its _ => twoB its.toList
  | _ => false
def headsB (K : PySem.W.Frag) (a : Addr) : Bool := match K.lookup a with
  | some o => decide (o.cls = .type "tuple") && seqB o.data
  | none => false
theorem two_of {l : List Value} (h : twoB l = true) : ∃ t u, l = [.str (Str.ofString "cries") t, .str (Str.ofString "rounds") u] := by
  unfold twoB at h
  split at h
  · rw [Bool.and_eq_true, decide_eq_true_eq, decide_eq_true_eq] at h
    obtain ⟨rfl, rfl⟩ := h
    exact ⟨_, _, rfl⟩
  · cases h
theorem heads_of {K : PySem.W.Frag} {a : Addr} (h : headsB K a = true) : ∀ H : Hp, SqT K H a [.str (Str.ofString "cries"), .str (Str.ofString "rounds")] := by
  intro H
  unfold headsB at h
  split at h
  · rename_i o e
    rw [Bool.and_eq_true, decide_eq_true_eq] at h
    obtain ⟨h1, h2⟩ := h
    unfold seqB at h2
    split at h2
    · rename_i its n e2
      obtain ⟨t, u, e3⟩ := two_of h2
      refine .inr ⟨o, its, n, e, h1, e2, ?_, ?_⟩
      · have : its.size = 2 := by
          rw [← Array.length_toList, e3]
          rfl
        rw [this, sizeLine_eq]
        decide
      · rw [e3]
        exact .cons ⟨t, rfl⟩ (.cons ⟨u, rfl⟩ .nil)
    · cases h2
  · cases h
/-- what the law asks of NoText -/
def ntxB (K : PySem.W.Frag) (NT cWE cNC cNPa cNR cNWa NW0 : Addr) : Bool := excB K NT && (xfB K NT && (decide (PySem.W.findIn K (.ref NT) "row" = some none) && (decide (PySem.W.exmOne K (.ref NT) (.ref cWE) = some true) && (decide (PySem.W.kitAny K (.ref NT) [.ref cNC, .ref cNPa, .ref cNR, .ref cNWa, .ref NW0] = some false) && (decide (PySem.W.kitOne K (.ref NT) (.ref NT) = some true) && decide (PySem.W.kitOne K (.ref NT) (.type "ValueError") = some true))))))
structure Ntx (K : PySem.W.Frag) (NT cWE cNC cNPa cNR cNWa NW0 : Addr) : Prop where
  ec : ExcC K NT
  xf : XfC K NT
  xn : PySem.W.findIn K (.ref NT) "row" = some none
  ex : PySem.W.exmOne K (.ref NT) (.ref cWE) = some true
  k1 : PySem.W.kitAny K (.ref NT) [.ref cNC, .ref cNPa, .ref cNR, .ref cNWa, .ref NW0] = some false
  k2 : PySem.W.kitOne K (.ref NT) (.ref NT) = some true
  k3 : PySem.W.kitOne K (.ref NT) (.type "ValueError") = some true
theorem ntx_of {K : PySem.W.Frag} {NT cWE cNC cNPa cNR cNWa NW0 : Addr} (h : ntxB K NT cWE cNC cNPa cNR cNWa NW0 = true) : Ntx K NT cWE cNC cNPa cNR cNWa NW0 := by
  unfold ntxB at h
  obtain ⟨h1, h⟩ := He.ba h
  obtain ⟨h2, h⟩ := He.ba h
  obtain ⟨h3, h⟩ := He.ba h
  obtain ⟨h4, h⟩ := He.ba h
  obtain ⟨h5, h⟩ := He.ba h
  obtain ⟨h6, h7⟩ := He.ba h
  exact ⟨excB_ok h1, xfB_ok h2, of_decide_eq_true h3, of_decide_eq_true h4, of_decide_eq_true h5, of_decide_eq_true h6, of_decide_eq_true h7⟩
end Cw
namespace Cw
open PySem PySem.Spec PyProof.Rows L2
/-- the default of ties, where it lies -/
def dfE (K : PySem.W.Frag) : Addr := match K.lookup (He.ma K (He.ga K "Web") "__init__") with
  | some ⟨_, _, .func fd, _⟩ => (match fd.defaults with
    | .ref T => (match K.lookup T with
      | some o => (match o.data with
        | .seq its _ => (match its.toList with
          | .ref e :: _ => e
          | _ => 0)
        | _ => 0)
      | none => 0)
    | _ => 0)
  | _ => 0
def empB (K : PySem.W.Frag) (a : Addr) : Bool := match K.lookup a with
  | some o => decide (o.cls = .type "tuple") && (match o.data with
    | .seq its _ => decide (its.toList = [])
    | _ => false)
  | none => false
theorem empB_ok {K : PySem.W.Frag} {a : Addr} (h : empB K a = true) (H : Hp) : SqT K H a [] := by
  unfold empB at h
  cases e : K.lookup a with
  | none => rw [e] at h; cases h
  | some o =>
    rw [e] at h
    obtain ⟨oc, od, dt, sl⟩ := o
    obtain ⟨h1, h2⟩ := He.ba h
    cases dt with
    | seq its n =>
      have z : its.toList = [] := of_decide_eq_true h2
      have z2 : its.size = 0 := by rw [← Array.length_toList, z]; rfl
      exact .inr ⟨_, its, n, e, of_decide_eq_true h1, rfl, by rw [z2]; exact Nat.zero_le _, by rw [z]; exact .nil⟩
    | _ => cases h2
def exK (K : PySem.W.Frag) : Bool := (match K.lookup sysModules with | some o => decide (o.cls = .type "dict") | none => false) && empB K (dfE K) && (webIsB K (He.ga K "Web") && (headsB K (He.ga K "HEADS") && (rz2B K (He.ga K "NoWeb") "what" "who" && (excB K (He.ga K "NoWeb") && (xfB K (He.ga K "NoWeb") && (rzB K (He.ga K "NoText") "ValueError" "row" && ntxB K (He.ga K "NoText") (He.ga K "WebError") (He.ga K "NoCount") (He.ga K "NoPaper") (He.ga K "NoRow") (He.ga K "NoWalk") (He.ga K "NoWeb")))))))
/-! ### a hook with one Bool more, and the table of modules among its objects -/
def frC (n : Nat) (g : Addr → Option Obj) : PySem.W.Frag := He.frG g (sysModules :: He.asD g n)
abbrev AlC : Type := He.AlD × Bool
def obC (n : Nat) (fa : List He.Fa) (fn : List He.DefD) (ex : PySem.W.Frag → Bool) (g : Addr → Option Obj) : AlC := (He.obsD fa fn (frC n g), ex (frC n g))
def hookC (n : Nat) (fa : List He.Fa) (fn : List He.DefD) (ex : PySem.W.Frag → Bool) : PySem.W.Hook where
  α := AlC
  obs := fun s => obC n fa fn ex s.heap.get?
  val := fun _ => (He.valD fn, true)
  says := fun _ h => ∃ K : PySem.W.Frag, K.In h ∧ He.SaysD fa fn K ∧ ex K = true
  of := fun _ s e => ⟨frC n s.heap.get?, He.frG_in, congrArg Prod.fst e, congrArg Prod.snd e⟩
  keeps := fun _ _ _ z k => by
    obtain ⟨K, kin, a, b⟩ := z
    exact ⟨K, PySem.W.Frag.In.keeps kin k, a, b⟩
theorem obC_eq {n : Nat} {fa : List He.Fa} {fn : List He.DefD} {ex : PySem.W.Frag → Bool} {g : Addr → Option Obj} {s : Shared} (h : ∀ a, g a = s.heap.get? a) : obC n fa fn ex g = (hookC n fa fn ex).obs s := by
  have e : g = s.heap.get? := funext h
  rw [e]
  rfl
def d_pot : He.DefD := ⟨("_law_pot", none), "_law_pot", "_law_pot", defArgs S_pot, defBody S_pot, defScope S_pot, [], []⟩
def d_take : He.DefD := ⟨("_law_take", none), "_law_take", "_law_take", defArgs S_take, defBody S_take, defScope S_take, [], []⟩
def d_name : He.DefD := ⟨("_law_name", none), "_law_name", "_law_name", defArgs S_name, defBody S_name, defScope S_name, [], []⟩
def d_length : He.DefD := ⟨("_law_length", none), "_law_length", "_law_length", defArgs S_length, defBody S_length, defScope S_length, [], []⟩
def d_hearers : He.DefD := ⟨("_law_hearers", none), "_law_hearers", "_law_hearers", defArgs S_hearers, defBody S_hearers, defScope S_hearers, [], []⟩
def d_persons : He.DefD := ⟨("_law_persons", none), "_law_persons", "_law_persons", defArgs S_persons, defBody S_persons, defScope S_persons, [], []⟩
def d_tie : He.DefD := ⟨("_law_tie", none), "_law_tie", "_law_tie", defArgs S_tie, defBody S_tie, defScope S_tie, [], []⟩
def d_web : He.DefD := ⟨("_law_web", none), "_law_web", "_law_web", defArgs S_web, defBody S_web, defScope S_web, [], []⟩
def d_rounds : He.DefD := ⟨("_law_rounds", none), "_law_rounds", "_law_rounds", defArgs S_rounds, defBody S_rounds, defScope S_rounds, [], []⟩
def d_text : He.DefD := ⟨("_law_text", none), "_law_text", "_law_text", defArgs S_text, defBody S_text, defScope S_text, [], []⟩
def d_number : He.DefD := ⟨("_law_number", none), "_law_number", "_law_number", defArgs S_number, defBody S_number, defScope S_number, [], []⟩
def d_l_is_name : He.DefD := ⟨("_law_is_name", none), "_law_is_name", "_law_is_name", defArgs S_l_is_name, defBody S_l_is_name, defScope S_l_is_name, [], []⟩
def d_person_fits : He.DefD := ⟨("_law_person_fits", none), "_law_person_fits", "_law_person_fits", defArgs S_person_fits, defBody S_person_fits, defScope S_person_fits, [], []⟩
def d_tie_fits : He.DefD := ⟨("_law_tie_fits", none), "_law_tie_fits", "_law_tie_fits", defArgs S_tie_fits, defBody S_tie_fits, defScope S_tie_fits, [], []⟩
def d_row_fits : He.DefD := ⟨("_law_row_fits", none), "_law_row_fits", "_law_row_fits", defArgs S_row_fits, defBody S_row_fits, defScope S_row_fits, [], []⟩
def d_due : He.DefD := ⟨("_law_due", none), "_law_due", "_law_due", defArgs S_due, defBody S_due, defScope S_due, [], []⟩
def d_row : He.DefD := ⟨("_law_row", none), "_law_row", "_law_row", defArgs S_row, defBody S_row, defScope S_row, [], []⟩
def d_again : He.DefD := ⟨("_law_again", none), "_law_again", "_law_again", defArgs S_again, defBody S_again, defScope S_again, [], []⟩
def d_spoilt : He.DefD := ⟨("_law_spoilt", none), "_law_spoilt", "_law_spoilt", defArgs S_spoilt, defBody S_spoilt, defScope S_spoilt, [], []⟩
def d_told : He.DefD := ⟨("_law_told", none), "_law_told", "_law_told", defArgs S_told, defBody S_told, defScope S_told, [], []⟩
def d_law : He.DefD := ⟨("law", none), "law", "law", defArgs S_law, defBody S_law, defScope S_law, [], []⟩
def d_p_is_whole : He.DefD := ⟨("is_whole", none), "is_whole", "is_whole", defArgs S_is_whole, defBody S_is_whole, defScope S_is_whole, [], []⟩
def d_p_is_name : He.DefD := ⟨("is_name", none), "is_name", "is_name", defArgs S_is_name, defBody S_is_name, defScope S_is_name, [], []⟩
def d_p_is_state : He.DefD := ⟨("is_state", none), "is_state", "is_state", defArgs S_is_state, defBody S_is_state, defScope S_is_state, [], []⟩
def d_p_is_length : He.DefD := ⟨("is_length", none), "is_length", "is_length", defArgs S_is_length, defBody S_is_length, defScope S_is_length, [], []⟩
def d_p_is_tuple_of : He.DefD := ⟨("is_tuple_of", none), "is_tuple_of", "is_tuple_of", defArgs S_is_tuple_of, defBody S_is_tuple_of, defScope S_is_tuple_of, [], []⟩
def d_p_are_ends : He.DefD := ⟨("are_ends", none), "are_ends", "are_ends", defArgs S_are_ends, defBody S_are_ends, defScope S_are_ends, [], []⟩
def d_p_are_hearers : He.DefD := ⟨("are_hearers", none), "are_hearers", "are_hearers", defArgs S_are_hearers, defBody S_are_hearers, defScope S_are_hearers, [], []⟩
def d_p_checked_persons : He.DefD := ⟨("checked_persons", none), "checked_persons", "checked_persons", defArgs S_checked_persons, defBody S_checked_persons, defScope S_checked_persons, [], []⟩
def d_p_checked_ties : He.DefD := ⟨("checked_ties", none), "checked_ties", "checked_ties", defArgs S_checked_ties, defBody S_checked_ties, defScope S_checked_ties, [], []⟩
def d_p_tie_words : He.DefD := ⟨("tie_words", none), "tie_words", "tie_words", defArgs S_tie_words, defBody S_tie_words, defScope S_tie_words, [], []⟩
def d_p_web_text : He.DefD := ⟨("web_text", none), "web_text", "web_text", defArgs S_web_text, defBody S_web_text, defScope S_web_text, [], []⟩
def d_p_number_in : He.DefD := ⟨("number_in", none), "number_in", "number_in", defArgs S_number_in, defBody S_number_in, defScope S_number_in, [], []⟩
def d_p_tie_in : He.DefD := ⟨("tie_in", none), "tie_in", "tie_in", defArgs S_tie_in, defBody S_tie_in, defScope S_tie_in, [], []⟩
def d_p_web_in : He.DefD := ⟨("web_in", none), "web_in", "web_in", defArgs S_web_in, defBody S_web_in, defScope S_web_in, [], []⟩
def d_p_read_web : He.DefD := ⟨("read_web", none), "read_web", "read_web", defArgs S_read_web, defBody S_read_web, defScope S_read_web, [], []⟩
def d_m_init : He.DefD := ⟨("Web", some "__init__"), "__init__", "Web.__init__", defArgs S_Web_init, defBody S_Web_init, defScope S_Web_init, [.adr dfE], [("rounds", .bl false)]⟩
def d_m_rounds : He.DefD := ⟨("Web", some "rounds"), "rounds", "Web.rounds", defArgs S_Web_rounds, defBody S_Web_rounds, defScope S_Web_rounds, [], []⟩
def d_m_persons : He.DefD := ⟨("Web", some "persons"), "persons", "Web.persons", defArgs S_Web_persons, defBody S_Web_persons, defScope S_Web_persons, [], []⟩
def d_m_ties : He.DefD := ⟨("Web", some "ties"), "ties", "Web.ties", defArgs S_Web_ties, defBody S_Web_ties, defScope S_Web_ties, [], []⟩
def d_m_has_person : He.DefD := ⟨("Web", some "has_person"), "has_person", "Web.has_person", defArgs S_Web_has_person, defBody S_Web_has_person, defScope S_Web_has_person, [], []⟩
def d_m_has_tie : He.DefD := ⟨("Web", some "has_tie"), "has_tie", "Web.has_tie", defArgs S_Web_has_tie, defBody S_Web_has_tie, defScope S_Web_has_tie, [], []⟩
def d_m_has_hearer : He.DefD := ⟨("Web", some "has_hearer"), "has_hearer", "Web.has_hearer", defArgs S_Web_has_hearer, defBody S_Web_has_hearer, defScope S_Web_has_hearer, [], []⟩
def d_m_state : He.DefD := ⟨("Web", some "state"), "state", "Web.state", defArgs S_Web_state, defBody S_Web_state, defScope S_Web_state, [], []⟩
def d_m_tie_row : He.DefD := ⟨("Web", some "tie_row"), "tie_row", "Web.tie_row", defArgs S_Web_tie_row, defBody S_Web_tie_row, defScope S_Web_tie_row, [], []⟩
def d_m_ends : He.DefD := ⟨("Web", some "ends"), "ends", "Web.ends", defArgs S_Web_ends, defBody S_Web_ends, defScope S_Web_ends, [], []⟩
def d_m_length : He.DefD := ⟨("Web", some "length"), "length", "Web.length", defArgs S_Web_length, defBody S_Web_length, defScope S_Web_length, [], []⟩
def d_m_hearers : He.DefD := ⟨("Web", some "hearers"), "hearers", "Web.hearers", defArgs S_Web_hearers, defBody S_Web_hearers, defScope S_Web_hearers, [], []⟩
def d_x_NoWeb : He.DefD := ⟨("NoWeb", some "__init__"), "__init__", "NoWeb.__init__", defArgs S_NoWeb_init, defBody S_NoWeb_init, defScope S_NoWeb_init, [], []⟩
def d_x_NoText : He.DefD := ⟨("NoText", some "__init__"), "__init__", "NoText.__init__", defArgs S_NoText_init, defBody S_NoText_init, defScope S_NoText_init, [], []⟩
def fn : List He.DefD := [d_pot, d_take, d_name, d_length, d_hearers, d_persons, d_tie, d_web, d_rounds, d_text, d_number, d_l_is_name, d_person_fits, d_tie_fits, d_row_fits, d_due, d_row, d_again, d_spoilt, d_told, d_law, d_p_is_whole, d_p_is_name, d_p_is_state, d_p_is_length, d_p_is_tuple_of, d_p_are_ends, d_p_are_hearers, d_p_checked_persons, d_p_checked_ties, d_p_tie_words, d_p_web_text, d_p_number_in, d_p_tie_in, d_p_web_in, d_p_read_web, d_m_init, d_m_rounds, d_m_persons, d_m_ties, d_m_has_person, d_m_has_tie, d_m_has_hearer, d_m_state, d_m_tie_row, d_m_ends, d_m_length, d_m_hearers, d_x_NoWeb, d_x_NoText]
def fa : List He.Fa := [.glo "_law_pot", .glo "_law_take", .glo "_law_name", .glo "_law_length", .glo "_law_hearers", .glo "_law_persons", .glo "_law_tie", .glo "_law_web", .glo "_law_rounds", .glo "_law_text", .glo "_law_number", .glo "_law_is_name", .glo "_law_person_fits", .glo "_law_tie_fits", .glo "_law_row_fits", .glo "_law_due", .glo "_law_row", .glo "_law_again", .glo "_law_spoilt", .glo "_law_told", .glo "law", .glo "is_whole", .glo "is_name", .glo "is_state", .glo "is_length", .glo "is_tuple_of", .glo "are_ends", .glo "are_hearers", .glo "checked_persons", .glo "checked_ties", .glo "tie_words", .glo "web_text", .glo "number_in", .glo "tie_in", .glo "web_in", .glo "read_web", .meth "Web" "__init__", .meth "Web" "rounds", .meth "Web" "persons", .meth "Web" "ties", .meth "Web" "has_person", .meth "Web" "has_tie", .meth "Web" "has_hearer", .meth "Web" "state", .meth "Web" "tie_row", .meth "Web" "ends", .meth "Web" "length", .meth "Web" "hearers", .glo "NoWeb", .meth "NoWeb" "__init__", .glo "NoText", .meth "NoText" "__init__", .glo "Web", .cls "Web", .mkr "Web", .noat "Web" "in_rounds", .noat "Web" "states", .noat "Web" "laid", .noat "Web" "person_rows", .noat "Web" "tie_rows", .int "LONGEST" (10 ^ 30), .int "MOST_HEARERS" 12, .int "MOST_PERSONS" 8, .int "MOST_TIES" 12, .int "LONGEST_NAME" 8, .free "isinstance", .free "int", .free "bool", .free "str", .free "list", .free "tuple", .free "dict", .free "len", .free "all", .free "sum", .free "enumerate", .free "range", .free "repr", .free "abs", .free "max", .free "min", .free "divmod", .free "sorted", .free "ValueError", .free "zip", .glo "WebError", .glo "NoCount", .glo "NoPaper", .glo "NoRow", .glo "NoWalk", .glo "HEADS"]
abbrev R : PySem.W.OpenRow := PySem.W.OpenLaw.row PySem.Challenge.rw_crywalks_k22_whole_texts_spoilt
abbrev hk : PySem.W.Hook := hookC 5 fa fn exK
def ob (s : PySem.W.SharedT) : AlC := obC 5 fa fn exK (HandSHeadRun.getT s)
theorem ob_eq (s : PySem.W.SharedT) : ob s = hk.obs s.abs := obC_eq (HandSHeadRun.getT_eq s)
def loose : List Str := (["_wall", "WebError", "NoWeb", "NoText", "NoWalk", "NoPaper", "NoCount", "NoRow", "NoSuch", "MOST_HEARERS", "MOST_PERSONS", "MOST_TIES", "LONGEST", "LONGEST_NAME", "is_whole", "is_name", "is_state", "is_length", "is_tuple_of", "are_ends"] : List Str) ++ (["are_hearers", "checked_persons", "checked_ties", "Web", "HEADS", "tie_words", "web_text", "number_in", "tie_in", "web_in", "read_web", "_law_pot", "_law_take", "_law_among", "_law_mixed", "_law_name", "_law_length", "_law_hearers", "_law_persons", "_law_tie"] : List Str) ++ (["_law_web", "_law_rounds", "_law_text", "_law_number", "_law_is_name", "_law_person_fits", "_law_tie_fits", "_law_row_fits", "_law_due", "_law_row", "_law_again", "_law_spoilt", "_law_told"] : List Str)
theorem run (w : World) : HandSHeadRun.RunEq R (PySem.W.view R.prog [57]) hk ob 20000 loose w := by
  intro os
  kernel_rfl
/-- the constants -/
structure Cons (mg : Str → Option Value) : Prop where
  lo : ∃ t, mg "LONGEST" = some (.int (10 ^ 30) t)
  mh : ∃ t, mg "MOST_HEARERS" = some (.int 12 t)
  mp : ∃ t, mg "MOST_PERSONS" = some (.int 8 t)
  mt : ∃ t, mg "MOST_TIES" = some (.int 12 t)
  ln : ∃ t, mg "LONGEST_NAME" = some (.int 8 t)
end Cw
namespace Cw
open PySem PySem.Spec PyProof.Rows L2
theorem facts {P : Program} {w : World} {K : PySem.W.Frag} {h : Heap} {mg : Str → Option Value} {f : Addr} (X : K.In h) (G : h.Ns mainGlobals mg) (hfa : mg ("law" : Str) = some (.ref f)) (c : He.SaysD fa fn K) (ex : exK K = true) :
    ∃ fd : FuncData, (∀ (s : Shared) (v : Value), BindsTo s fd ⟨[v], []⟩ [("_law_script", v)]) ∧ ∀ base : Heap, K.In base → base.Ns mainGlobals mg → FnG P w K mg base CX0 14 f fd ["_law_script"] (spLaw K) := by
  obtain ⟨hmod, hemp⟩ := He.ba (He.ba ex).1
  have HM : HasMods K := by
    cases e : K.lookup sysModules with
    | none =>
      rw [e] at hmod
      cases hmod
    | some o =>
      rw [e] at hmod
      exact ⟨o, e, of_decide_eq_true hmod⟩
  have hwi := (He.ba ex).2
  obtain ⟨fd_pot, F_pot⟩ := c.def_ 0 (d := d_pot) rfl
  obtain ⟨fd_take, F_take⟩ := c.def_ 1 (d := d_take) rfl
  obtain ⟨fd_name, F_name⟩ := c.def_ 2 (d := d_name) rfl
  obtain ⟨fd_length, F_length⟩ := c.def_ 3 (d := d_length) rfl
  obtain ⟨fd_hearers, F_hearers⟩ := c.def_ 4 (d := d_hearers) rfl
  obtain ⟨fd_persons, F_persons⟩ := c.def_ 5 (d := d_persons) rfl
  obtain ⟨fd_tie, F_tie⟩ := c.def_ 6 (d := d_tie) rfl
  obtain ⟨fd_web, F_web⟩ := c.def_ 7 (d := d_web) rfl
  obtain ⟨fd_rounds, F_rounds⟩ := c.def_ 8 (d := d_rounds) rfl
  obtain ⟨fd_text, F_text⟩ := c.def_ 9 (d := d_text) rfl
  obtain ⟨fd_number, F_number⟩ := c.def_ 10 (d := d_number) rfl
  obtain ⟨fd_l_is_name, F_l_is_name⟩ := c.def_ 11 (d := d_l_is_name) rfl
  obtain ⟨fd_person_fits, F_person_fits⟩ := c.def_ 12 (d := d_person_fits) rfl
  obtain ⟨fd_tie_fits, F_tie_fits⟩ := c.def_ 13 (d := d_tie_fits) rfl
  obtain ⟨fd_row_fits, F_row_fits⟩ := c.def_ 14 (d := d_row_fits) rfl
  obtain ⟨fd_due, F_due⟩ := c.def_ 15 (d := d_due) rfl
  obtain ⟨fd_row, F_row⟩ := c.def_ 16 (d := d_row) rfl
  obtain ⟨fd_again, F_again⟩ := c.def_ 17 (d := d_again) rfl
  obtain ⟨fd_spoilt, F_spoilt⟩ := c.def_ 18 (d := d_spoilt) rfl
  obtain ⟨fd_told, F_told⟩ := c.def_ 19 (d := d_told) rfl
  obtain ⟨fd_law, F_law⟩ := c.def_ 20 (d := d_law) rfl
  obtain ⟨fd_p_is_whole, F_p_is_whole⟩ := c.def_ 21 (d := d_p_is_whole) rfl
  obtain ⟨fd_p_is_name, F_p_is_name⟩ := c.def_ 22 (d := d_p_is_name) rfl
  obtain ⟨fd_p_is_state, F_p_is_state⟩ := c.def_ 23 (d := d_p_is_state) rfl
  obtain ⟨fd_p_is_length, F_p_is_length⟩ := c.def_ 24 (d := d_p_is_length) rfl
  obtain ⟨fd_p_is_tuple_of, F_p_is_tuple_of⟩ := c.def_ 25 (d := d_p_is_tuple_of) rfl
  obtain ⟨fd_p_are_ends, F_p_are_ends⟩ := c.def_ 26 (d := d_p_are_ends) rfl
  obtain ⟨fd_p_are_hearers, F_p_are_hearers⟩ := c.def_ 27 (d := d_p_are_hearers) rfl
  obtain ⟨fd_p_checked_persons, F_p_checked_persons⟩ := c.def_ 28 (d := d_p_checked_persons) rfl
  obtain ⟨fd_p_checked_ties, F_p_checked_ties⟩ := c.def_ 29 (d := d_p_checked_ties) rfl
  obtain ⟨fd_p_tie_words, F_p_tie_words⟩ := c.def_ 30 (d := d_p_tie_words) rfl
  obtain ⟨fd_p_web_text, F_p_web_text⟩ := c.def_ 31 (d := d_p_web_text) rfl
  obtain ⟨fd_p_number_in, F_p_number_in⟩ := c.def_ 32 (d := d_p_number_in) rfl
  obtain ⟨fd_p_tie_in, F_p_tie_in⟩ := c.def_ 33 (d := d_p_tie_in) rfl
  obtain ⟨fd_p_web_in, F_p_web_in⟩ := c.def_ 34 (d := d_p_web_in) rfl
  obtain ⟨fd_p_read_web, F_p_read_web⟩ := c.def_ 35 (d := d_p_read_web) rfl
  obtain ⟨fd_m_init, F_m_init⟩ := c.def_ 36 (d := d_m_init) rfl
  obtain ⟨fd_m_rounds, F_m_rounds⟩ := c.def_ 37 (d := d_m_rounds) rfl
  obtain ⟨fd_m_persons, F_m_persons⟩ := c.def_ 38 (d := d_m_persons) rfl
  obtain ⟨fd_m_ties, F_m_ties⟩ := c.def_ 39 (d := d_m_ties) rfl
  obtain ⟨fd_m_has_person, F_m_has_person⟩ := c.def_ 40 (d := d_m_has_person) rfl
  obtain ⟨fd_m_has_tie, F_m_has_tie⟩ := c.def_ 41 (d := d_m_has_tie) rfl
  obtain ⟨fd_m_has_hearer, F_m_has_hearer⟩ := c.def_ 42 (d := d_m_has_hearer) rfl
  obtain ⟨fd_m_state, F_m_state⟩ := c.def_ 43 (d := d_m_state) rfl
  obtain ⟨fd_m_tie_row, F_m_tie_row⟩ := c.def_ 44 (d := d_m_tie_row) rfl
  obtain ⟨fd_m_ends, F_m_ends⟩ := c.def_ 45 (d := d_m_ends) rfl
  obtain ⟨fd_m_length, F_m_length⟩ := c.def_ 46 (d := d_m_length) rfl
  obtain ⟨fd_m_hearers, F_m_hearers⟩ := c.def_ 47 (d := d_m_hearers) rfl
  obtain ⟨fd_x_NoWeb, F_x_NoWeb⟩ := c.def_ 48 (d := d_x_NoWeb) rfl
  obtain ⟨fd_x_NoText, F_x_NoText⟩ := c.def_ 49 (d := d_x_NoText) rfl
  have b_pot := FunD.bindsN (ps := P_pot) F_pot fun _ _ _ _ _ _ us hl => match us, hl with | [_, _], _ => rfl
  have b_take := FunD.bindsN (ps := P_take) F_take fun _ _ _ _ _ _ us hl => match us, hl with | [_, _], _ => rfl
  have b_name := FunD.bindsN (ps := P_name) F_name fun _ _ _ _ _ _ us hl => match us, hl with | [_, _], _ => rfl
  have b_length := FunD.bindsN (ps := P_length) F_length fun _ _ _ _ _ _ us hl => match us, hl with | [_, _], _ => rfl
  have b_hearers := FunD.bindsN (ps := P_hearers) F_hearers fun _ _ _ _ _ _ us hl => match us, hl with | [_, _, _], _ => rfl
  have b_persons := FunD.bindsN (ps := P_persons) F_persons fun _ _ _ _ _ _ us hl => match us, hl with | [_, _], _ => rfl
  have b_tie := FunD.bindsN (ps := P_tie) F_tie fun _ _ _ _ _ _ us hl => match us, hl with | [_, _, _, _, _], _ => rfl
  have b_web := FunD.bindsN (ps := P_web) F_web fun _ _ _ _ _ _ us hl => match us, hl with | [_, _, _, _, _], _ => rfl
  have b_rounds := FunD.bindsN (ps := P_rounds) F_rounds fun _ _ _ _ _ _ us hl => match us, hl with | [_, _, _], _ => rfl
  have b_text := FunD.bindsN (ps := P_text) F_text fun _ _ _ _ _ _ us hl => match us, hl with | [_, _], _ => rfl
  have b_number := FunD.bindsN (ps := P_number) F_number fun _ _ _ _ _ _ us hl => match us, hl with | [_], _ => rfl
  have b_l_is_name := FunD.bindsN (ps := P_l_is_name) F_l_is_name fun _ _ _ _ _ _ us hl => match us, hl with | [_], _ => rfl
  have b_person_fits := FunD.bindsN (ps := P_person_fits) F_person_fits fun _ _ _ _ _ _ us hl => match us, hl with | [_, _], _ => rfl
  have b_tie_fits := FunD.bindsN (ps := P_tie_fits) F_tie_fits fun _ _ _ _ _ _ us hl => match us, hl with | [_, _], _ => rfl
  have b_row_fits := FunD.bindsN (ps := P_row_fits) F_row_fits fun _ _ _ _ _ _ us hl => match us, hl with | [_, _, _], _ => rfl
  have b_due := FunD.bindsN (ps := P_due) F_due fun _ _ _ _ _ _ us hl => match us, hl with | [_], _ => rfl
  have b_row := FunD.bindsN (ps := P_row) F_row fun _ _ _ _ _ _ us hl => match us, hl with | [_, _], _ => rfl
  have b_again := FunD.bindsN (ps := P_again) F_again fun _ _ _ _ _ _ us hl => match us, hl with | [_, _], _ => rfl
  have b_spoilt := FunD.bindsN (ps := P_spoilt) F_spoilt fun _ _ _ _ _ _ us hl => match us, hl with | [_, _], _ => rfl
  have b_told := FunD.bindsN (ps := P_told) F_told fun _ _ _ _ _ _ us hl => match us, hl with | [_], _ => rfl
  have b_p_is_whole := FunD.bindsN (ps := P_is_whole) F_p_is_whole fun _ _ _ _ _ _ us hl => match us, hl with | [_], _ => rfl
  have b_p_is_name := FunD.bindsN (ps := P_is_name) F_p_is_name fun _ _ _ _ _ _ us hl => match us, hl with | [_], _ => rfl
  have b_p_is_state := FunD.bindsN (ps := P_is_state) F_p_is_state fun _ _ _ _ _ _ us hl => match us, hl with | [_], _ => rfl
  have b_p_is_length := FunD.bindsN (ps := P_is_length) F_p_is_length fun _ _ _ _ _ _ us hl => match us, hl with | [_, _], _ => rfl
  have b_p_is_tuple_of := FunD.bindsN (ps := P_is_tuple_of) F_p_is_tuple_of fun _ _ _ _ _ _ us hl => match us, hl with | [_, _], _ => rfl
  have b_p_are_ends := FunD.bindsN (ps := P_are_ends) F_p_are_ends fun _ _ _ _ _ _ us hl => match us, hl with | [_, _, _], _ => rfl
  have b_p_are_hearers := FunD.bindsN (ps := P_are_hearers) F_p_are_hearers fun _ _ _ _ _ _ us hl => match us, hl with | [_, _], _ => rfl
  have b_p_checked_persons := FunD.bindsN (ps := P_checked_persons) F_p_checked_persons fun _ _ _ _ _ _ us hl => match us, hl with | [_], _ => rfl
  have b_p_checked_ties := FunD.bindsN (ps := P_checked_ties) F_p_checked_ties fun _ _ _ _ _ _ us hl => match us, hl with | [_, _, _], _ => rfl
  have b_p_tie_words := FunD.bindsN (ps := P_tie_words) F_p_tie_words fun _ _ _ _ _ _ us hl => match us, hl with | [_, _], _ => rfl
  have b_p_web_text := FunD.bindsN (ps := P_web_text) F_p_web_text fun _ _ _ _ _ _ us hl => match us, hl with | [_], _ => rfl
  have b_p_number_in := FunD.bindsN (ps := P_number_in) F_p_number_in fun _ _ _ _ _ _ us hl => match us, hl with | [_], _ => rfl
  have b_p_tie_in := FunD.bindsN (ps := P_tie_in) F_p_tie_in fun _ _ _ _ _ _ us hl => match us, hl with | [_], _ => rfl
  have b_p_web_in := FunD.bindsN (ps := P_web_in) F_p_web_in fun _ _ _ _ _ _ us hl => match us, hl with | [_], _ => rfl
  have b_p_read_web := FunD.bindsN (ps := P_read_web) F_p_read_web fun _ _ _ _ _ _ us hl => match us, hl with | [_], _ => rfl
  have b_x_NoWeb := FunD.bindsN (ps := P_NoWeb_init) F_x_NoWeb fun _ _ _ _ _ _ us hl => match us, hl with | [_, _, _], _ => rfl
  have b_x_NoText := FunD.bindsN (ps := P_NoText_init) F_x_NoText fun _ _ _ _ _ _ us hl => match us, hl with | [_, _], _ => rfl
  have b_m_rounds := FunD.bindsN (ps := P_Web_rounds) F_m_rounds fun _ _ _ _ _ _ us hl => match us, hl with | [_], _ => rfl
  have b_m_persons := FunD.bindsN (ps := P_Web_persons) F_m_persons fun _ _ _ _ _ _ us hl => match us, hl with | [_], _ => rfl
  have b_m_ties := FunD.bindsN (ps := P_Web_ties) F_m_ties fun _ _ _ _ _ _ us hl => match us, hl with | [_], _ => rfl
  have b_m_has_person := FunD.bindsN (ps := P_Web_has_person) F_m_has_person fun _ _ _ _ _ _ us hl => match us, hl with | [_, _], _ => rfl
  have b_m_has_tie := FunD.bindsN (ps := P_Web_has_tie) F_m_has_tie fun _ _ _ _ _ _ us hl => match us, hl with | [_, _], _ => rfl
  have b_m_has_hearer := FunD.bindsN (ps := P_Web_has_hearer) F_m_has_hearer fun _ _ _ _ _ _ us hl => match us, hl with | [_, _], _ => rfl
  have b_m_state := FunD.bindsN (ps := P_Web_state) F_m_state fun _ _ _ _ _ _ us hl => match us, hl with | [_, _], _ => rfl
  have b_m_tie_row := FunD.bindsN (ps := P_Web_tie_row) F_m_tie_row fun _ _ _ _ _ _ us hl => match us, hl with | [_, _], _ => rfl
  have b_m_ends := FunD.bindsN (ps := P_Web_ends) F_m_ends fun _ _ _ _ _ _ us hl => match us, hl with | [_, _], _ => rfl
  have b_m_length := FunD.bindsN (ps := P_Web_length) F_m_length fun _ _ _ _ _ _ us hl => match us, hl with | [_, _], _ => rfl
  have b_m_hearers := FunD.bindsN (ps := P_Web_hearers) F_m_hearers fun _ _ _ _ _ _ us hl => match us, hl with | [_, _], _ => rfl
  have ef : He.ga K "law" = f := by
    have z := (He.glo_ok X G (c.fact 20 (f := .glo "law") rfl)).symm.trans hfa
    exact Value.ref.inj (Option.some.inj z)
  refine ⟨fd_law, fun s v => ?_, fun base hK hN => ?_⟩
  · have z := FunD.bindsA (ps := ["_law_script"]) F_law (fun _ _ _ _ _ _ us hl => match us, hl with | [_], _ => rfl) s [v] rfl
    exact z
  have B : Blt mg := ⟨(He.free_ok X G (c.fact 65 (f := .free "isinstance") rfl)), (He.free_ok X G (c.fact 66 (f := .free "int") rfl)), (He.free_ok X G (c.fact 67 (f := .free "bool") rfl)), (He.free_ok X G (c.fact 68 (f := .free "str") rfl)), (He.free_ok X G (c.fact 69 (f := .free "list") rfl)), (He.free_ok X G (c.fact 70 (f := .free "tuple") rfl)), (He.free_ok X G (c.fact 71 (f := .free "dict") rfl)), (He.free_ok X G (c.fact 72 (f := .free "len") rfl)), (He.free_ok X G (c.fact 73 (f := .free "all") rfl)), (He.free_ok X G (c.fact 74 (f := .free "sum") rfl)), (He.free_ok X G (c.fact 75 (f := .free "enumerate") rfl)), (He.free_ok X G (c.fact 76 (f := .free "range") rfl)), (He.free_ok X G (c.fact 77 (f := .free "repr") rfl)), (He.free_ok X G (c.fact 78 (f := .free "abs") rfl)), (He.free_ok X G (c.fact 79 (f := .free "max") rfl)), (He.free_ok X G (c.fact 80 (f := .free "min") rfl)), (He.free_ok X G (c.fact 81 (f := .free "divmod") rfl)), (He.free_ok X G (c.fact 82 (f := .free "sorted") rfl))⟩
  have N : Cons mg := ⟨He.int_ok X G (c.fact 60 (f := .int "LONGEST" (10 ^ 30)) rfl), He.int_ok X G (c.fact 61 (f := .int "MOST_HEARERS" 12) rfl), He.int_ok X G (c.fact 62 (f := .int "MOST_PERSONS" 8) rfl), He.int_ok X G (c.fact 63 (f := .int "MOST_TIES" 12) rfl), He.int_ok X G (c.fact 64 (f := .int "LONGEST_NAME" 8) rfl)⟩
  have WC : WebCls K (He.ga K "Web") := ⟨He.cls_ok (c.fact 53 (f := .cls "Web") rfl), He.noat_ok (c.fact 55 (f := .noat "Web" "in_rounds") rfl), He.noat_ok (c.fact 56 (f := .noat "Web" "states") rfl), He.noat_ok (c.fact 57 (f := .noat "Web" "laid") rfl), He.noat_ok (c.fact 58 (f := .noat "Web" "person_rows") rfl), He.noat_ok (c.fact 59 (f := .noat "Web" "tie_rows") rfl)⟩
  have TO : TakeOk P w K mg base := ⟨_, _, F_take, b_take, ok_take F_take B.divmod_, (He.glo_ok X G (c.fact 1 (f := .glo "_law_take") rfl))⟩
  have PO : Has P w K mg base "_law_pot" S_pot 1 P_pot (spPot K) := ⟨_, _, F_pot, b_pot, ok_pot F_pot B.len_ B.abs_ B.max_, (He.glo_ok X G (c.fact 0 (f := .glo "_law_pot") rfl))⟩
  have NO : NameOk P w K mg base := ⟨_, _, F_name, b_name, ok_name F_name TO B.range_, (He.glo_ok X G (c.fact 2 (f := .glo "_law_name") rfl))⟩
  have LO : LenOk P w K mg base := ⟨_, _, F_length, b_length, ok_length F_length TO, (He.glo_ok X G (c.fact 3 (f := .glo "_law_length") rfl))⟩
  have HO' : HearOk P w K mg base := ⟨_, _, F_hearers, b_hearers, ok_hearers F_hearers TO B.range_ B.len_ B.tuple_ B.sorted_, (He.glo_ok X G (c.fact 4 (f := .glo "_law_hearers") rfl))⟩
  have EO : PersOk P w K mg base := ⟨_, _, F_persons, b_persons, ok_persons F_persons TO NO B.range_, (He.glo_ok X G (c.fact 5 (f := .glo "_law_persons") rfl))⟩
  have IO : TieOk P w K mg base := ⟨_, _, F_tie, b_tie, ok_tie F_tie TO NO LO HO' B.len_, (He.glo_ok X G (c.fact 6 (f := .glo "_law_tie") rfl))⟩
  have WO : WebOk P w K mg base := ⟨_, _, F_web, b_web, ok_web F_web TO EO IO B.range_ B.len_ B.int_, (He.glo_ok X G (c.fact 7 (f := .glo "_law_web") rfl))⟩
  have RO : RndOk P w K mg base := ⟨_, _, F_rounds, b_rounds, ok_rounds F_rounds WO, (He.glo_ok X G (c.fact 8 (f := .glo "_law_rounds") rfl))⟩
  have p1 : Has P w K mg base "is_whole" S_is_whole 1 P_is_whole spWhole := ⟨_, _, F_p_is_whole, b_p_is_whole, ok_whole F_p_is_whole B, (He.glo_ok X G (c.fact 21 (f := .glo "is_whole") rfl))⟩
  have p2 : Has P w K mg base "is_name" S_is_name 1 P_is_name spIsName := ⟨_, _, F_p_is_name, b_p_is_name, ok_isname F_p_is_name B N.ln, (He.glo_ok X G (c.fact 22 (f := .glo "is_name") rfl))⟩
  have p3 : Has P w K mg base "is_state" S_is_state 2 P_is_state spState := ⟨_, _, F_p_is_state, b_p_is_state, ok_state F_p_is_state p1, (He.glo_ok X G (c.fact 23 (f := .glo "is_state") rfl))⟩
  have p4 : Has P w K mg base "is_length" S_is_length 2 P_is_length spLength := ⟨_, _, F_p_is_length, b_p_is_length, ok_islen F_p_is_length p1 N.lo, (He.glo_ok X G (c.fact 24 (f := .glo "is_length") rfl))⟩
  have p5 : Has P w K mg base "is_tuple_of" S_is_tuple_of 1 P_is_tuple_of (spTupOf K) := ⟨_, _, F_p_is_tuple_of, b_p_is_tuple_of, ok_tupof F_p_is_tuple_of B, (He.glo_ok X G (c.fact 25 (f := .glo "is_tuple_of") rfl))⟩
  have p6 : Has P w K mg base "are_ends" S_are_ends 1 P_are_ends spEnds := ⟨_, _, F_p_are_ends, b_p_are_ends, ok_ends F_p_are_ends B, (He.glo_ok X G (c.fact 26 (f := .glo "are_ends") rfl))⟩
  have p7 : Has P w K mg base "are_hearers" S_are_hearers 3 P_are_hearers (spHearers K) := ⟨_, _, F_p_are_hearers, b_p_are_hearers, ok_arehear F_p_are_hearers B p1 p3 p5, (He.glo_ok X G (c.fact 27 (f := .glo "are_hearers") rfl))⟩
  have p8 : Has P w K mg base "checked_persons" S_checked_persons 3 P_checked_persons spChP := ⟨_, _, F_p_checked_persons, b_p_checked_persons, ok_chp F_p_checked_persons B N.mp p2 p3 p5, (He.glo_ok X G (c.fact 28 (f := .glo "checked_persons") rfl))⟩
  have p9 : Has P w K mg base "checked_ties" S_checked_ties 4 P_checked_ties (spChT K) := ⟨_, _, F_p_checked_ties, b_p_checked_ties, ok_cht F_p_checked_ties B N.mt N.mh p2 p5 p6 p4 p7, (He.glo_ok X G (c.fact 29 (f := .glo "checked_ties") rfl))⟩
  have MW : MakesW P w K mg base (He.ga K "Web") := ⟨_, dfE K, _, F_m_init, empB_ok hemp _, ok_init F_m_init WC B p8 p9, He.mkr_ok (c.fact 54 (f := .mkr "Web") rfl), (He.glo_ok X G (c.fact 52 (f := .glo "Web") rfl))⟩
  have q1 : HasM P w K mg base (He.ga K "Web") "rounds" "Web.rounds" S_Web_rounds 1 P_Web_rounds (spMRounds (He.ga K "Web")) := ⟨_, _, F_m_rounds, b_m_rounds, ok_mrounds F_m_rounds WC, (He.meth_ok (c.fact 37 (f := .meth "Web" "rounds") rfl))⟩
  have q2 : HasM P w K mg base (He.ga K "Web") "persons" "Web.persons" S_Web_persons 1 P_Web_persons (spMPersons (He.ga K "Web")) := ⟨_, _, F_m_persons, b_m_persons, ok_mpersons F_m_persons WC B, (He.meth_ok (c.fact 38 (f := .meth "Web" "persons") rfl))⟩
  have q3 : HasM P w K mg base (He.ga K "Web") "ties" "Web.ties" S_Web_ties 1 P_Web_ties (spMTies (He.ga K "Web")) := ⟨_, _, F_m_ties, b_m_ties, ok_mties F_m_ties WC B, (He.meth_ok (c.fact 39 (f := .meth "Web" "ties") rfl))⟩
  have q4 : HasM P w K mg base (He.ga K "Web") "has_person" "Web.has_person" S_Web_has_person 1 P_Web_has_person (spMHasP K (He.ga K "Web")) := ⟨_, _, F_m_has_person, b_m_has_person, ok_mhasp F_m_has_person WC B, (He.meth_ok (c.fact 40 (f := .meth "Web" "has_person") rfl))⟩
  have q5 : HasTM P w K mg base (He.ga K "Web") := ⟨_, _, F_m_has_tie, b_m_has_tie, ok_mhast F_m_has_tie WC B, (He.meth_ok (c.fact 41 (f := .meth "Web" "has_tie") rfl))⟩
  have q6 : RowM P w K mg base (He.ga K "Web") := ⟨_, _, F_m_tie_row, b_m_tie_row, ok_mrow F_m_tie_row WC q5, (He.meth_ok (c.fact 44 (f := .meth "Web" "tie_row") rfl))⟩
  have q7 : HasM P w K mg base (He.ga K "Web") "ends" "Web.ends" S_Web_ends 3 P_Web_ends (spMEnds (He.ga K "Web")) := ⟨_, _, F_m_ends, b_m_ends, ok_mends F_m_ends WC q6, (He.meth_ok (c.fact 45 (f := .meth "Web" "ends") rfl))⟩
  have q8 : HasM P w K mg base (He.ga K "Web") "length" "Web.length" S_Web_length 3 P_Web_length (spMLength (He.ga K "Web")) := ⟨_, _, F_m_length, b_m_length, ok_mlength F_m_length WC q6, (He.meth_ok (c.fact 46 (f := .meth "Web" "length") rfl))⟩
  have q9 : HasM P w K mg base (He.ga K "Web") "hearers" "Web.hearers" S_Web_hearers 3 P_Web_hearers (spMHear (He.ga K "Web")) := ⟨_, _, F_m_hearers, b_m_hearers, ok_mhear F_m_hearers WC q6, (He.meth_ok (c.fact 47 (f := .meth "Web" "hearers") rfl))⟩
  have q10 : HasM P w K mg base (He.ga K "Web") "has_hearer" "Web.has_hearer" S_Web_has_hearer 4 P_Web_has_hearer (spMHasH K (He.ga K "Web")) := ⟨_, _, F_m_has_hearer, b_m_has_hearer, ok_mhash F_m_has_hearer WC q5 q8 p1 p5, (He.meth_ok (c.fact 42 (f := .meth "Web" "has_hearer") rfl))⟩
  have q12 : HasM P w K mg base (He.ga K "Web") "state" "Web.state" S_Web_state 5 P_Web_state (spMState K (He.ga K "Web")) := ⟨_, _, F_m_state, b_m_state, ok_mstate F_m_state WC q4 q10 q9, (He.meth_ok (c.fact 43 (f := .meth "Web" "state") rfl))⟩
  obtain ⟨hwb, hx1⟩ := He.ba hwi
  obtain ⟨hhd, hx2⟩ := He.ba hx1
  obtain ⟨hrz, hx3⟩ := He.ba hx2
  obtain ⟨hec, hx4⟩ := He.ba hx3
  obtain ⟨hxf, hx5⟩ := He.ba hx4
  obtain ⟨hnt, hnx⟩ := He.ba hx5
  have WI : WebIs K (He.ga K "Web") := webIs_of hwb
  have hHD := heads_of hhd
  have TX := ntx_of hnx
  have mVal : mg "ValueError" = none := (He.free_ok X G (c.fact 83 (f := .free "ValueError") rfl))
  have mZip : mg "zip" = none := (He.free_ok X G (c.fact 84 (f := .free "zip") rfl))
  have gHEADS : mg "HEADS" = some (.ref (He.ga K "HEADS")) := (He.glo_ok X G (c.fact 90 (f := .glo "HEADS") rfl))
  have gNoWeb : mg "NoWeb" = some (.ref (He.ga K "NoWeb")) := (He.glo_ok X G (c.fact 48 (f := .glo "NoWeb") rfl))
  have gNoText : mg "NoText" = some (.ref (He.ga K "NoText")) := (He.glo_ok X G (c.fact 50 (f := .glo "NoText") rfl))
  have gNoCount : mg "NoCount" = some (.ref (He.ga K "NoCount")) := (He.glo_ok X G (c.fact 86 (f := .glo "NoCount") rfl))
  have gNoPaper : mg "NoPaper" = some (.ref (He.ga K "NoPaper")) := (He.glo_ok X G (c.fact 87 (f := .glo "NoPaper") rfl))
  have gNoRow : mg "NoRow" = some (.ref (He.ga K "NoRow")) := (He.glo_ok X G (c.fact 88 (f := .glo "NoRow") rfl))
  have gNoWalk : mg "NoWalk" = some (.ref (He.ga K "NoWalk")) := (He.glo_ok X G (c.fact 89 (f := .glo "NoWalk") rfl))
  have gWeb : mg "Web" = some (.ref (He.ga K "Web")) := (He.glo_ok X G (c.fact 52 (f := .glo "Web") rfl))
  have RWE : GlC mg "WebError" (He.ga K "WebError") := ⟨(He.glo_ok X G (c.fact 85 (f := .glo "WebError") rfl))⟩
  have RNW : Rz2 P w K mg base "NoWeb" "what" "who" (He.ga K "NoWeb") := rz2_val gNoWeb hrz (He.meth_ok (c.fact 49 (f := .meth "NoWeb" "__init__") rfl)) F_x_NoWeb sc_NoWeb_init b_x_NoWeb (by decide) (by decide) (by decide) (by decide)
  have RNT : Rz P w K mg base "NoText" "row" (He.ga K "NoText") := rz_val gNoText hnt (He.meth_ok (c.fact 51 (f := .meth "NoText" "__init__") rfl)) F_x_NoText sc_NoText_init b_x_NoText (by decide) (by decide)
  have u1 : Has P w K mg base "is_whole" S_is_whole 1 P_is_whole (spWholeT K) := ⟨_, _, F_p_is_whole, b_p_is_whole, ok_wholeT F_p_is_whole B, (He.glo_ok X G (c.fact 21 (f := .glo "is_whole") rfl))⟩
  have u2 : Has P w K mg base "is_name" S_is_name 1 P_is_name spNameT := ⟨_, _, F_p_is_name, b_p_is_name, ok_isnameT F_p_is_name B N.ln, (He.glo_ok X G (c.fact 22 (f := .glo "is_name") rfl))⟩
  have u3 : Has P w K mg base "is_state" S_is_state 2 P_is_state spStateT := ⟨_, _, F_p_is_state, b_p_is_state, ok_stateT F_p_is_state u1, (He.glo_ok X G (c.fact 23 (f := .glo "is_state") rfl))⟩
  have u4 : Has P w K mg base "is_length" S_is_length 2 P_is_length spLenT := ⟨_, _, F_p_is_length, b_p_is_length, ok_lenT F_p_is_length u1 N.lo, (He.glo_ok X G (c.fact 24 (f := .glo "is_length") rfl))⟩
  have u5 : Has P w K mg base "are_ends" S_are_ends 1 P_are_ends spEndsT := ⟨_, _, F_p_are_ends, b_p_are_ends, ok_endsT F_p_are_ends B, (He.glo_ok X G (c.fact 26 (f := .glo "are_ends") rfl))⟩
  have u6 : Has P w K mg base "are_hearers" S_are_hearers 3 P_are_hearers spHearT := ⟨_, _, F_p_are_hearers, b_p_are_hearers, ok_hearT F_p_are_hearers u1 p5 u3 B, (He.glo_ok X G (c.fact 27 (f := .glo "are_hearers") rfl))⟩
  have w1 : HasE P w K mg base "checked_persons" S_checked_persons 3 P_checked_persons (fun vs H Q E => spChP vs H Q E ∨ spChPE (He.ga K "NoWeb") vs H Q E) := ⟨_, _, F_p_checked_persons, b_p_checked_persons, fn_or (fn_toCX (ok_chp F_p_checked_persons B N.mp p2 p3 p5)) (ok_chpE F_p_checked_persons RNW p5 u2 u3 N.mp B), (He.glo_ok X G (c.fact 28 (f := .glo "checked_persons") rfl))⟩
  have w2 : HasE P w K mg base "checked_ties" S_checked_ties 4 P_checked_ties (fun vs H Q E => spChT K vs H Q E ∨ spChTE (He.ga K "NoWeb") vs H Q E) := ⟨_, _, F_p_checked_ties, b_p_checked_ties, fn_or (fn_toCX (ok_cht F_p_checked_ties B N.mt N.mh p2 p5 p6 p4 p7)) (ok_chtE F_p_checked_ties RNW p5 u2 u5 u4 u6 N.mt N.mh B), (He.glo_ok X G (c.fact 29 (f := .glo "checked_ties") rfl))⟩
  have ME : MakesE P w K mg base (He.ga K "Web") (He.ga K "NoWeb") := ⟨_, dfE K, _, F_m_init, empB_ok hemp _, fn_or (fn_toCX (ok_init F_m_init WC B p8 p9)) (ok_initE F_m_init WC B w1 w2), He.mkr_ok (c.fact 54 (f := .mkr "Web") rfl), (He.glo_ok X G (c.fact 52 (f := .glo "Web") rfl))⟩
  have t1 : Has P w K mg base "number_in" S_number_in 1 P_number_in spNumW := ⟨_, _, F_p_number_in, b_p_number_in, ok_num F_p_number_in B, (He.glo_ok X G (c.fact 32 (f := .glo "number_in") rfl))⟩
  have t2 : Has P w K mg base "tie_words" S_tie_words 4 P_tie_words (spWords (He.ga K "Web")) := ⟨_, _, F_p_tie_words, b_p_tie_words, ok_words F_p_tie_words WC q7 q8 q9 B, (He.glo_ok X G (c.fact 30 (f := .glo "tie_words") rfl))⟩
  have t3 : Has P w K mg base "web_text" S_web_text 6 P_web_text (spText (He.ga K "Web")) := ⟨_, _, F_p_web_text, b_p_web_text, ok_text F_p_web_text WC q1 q2 q3 q12 t2 B, (He.glo_ok X G (c.fact 31 (f := .glo "web_text") rfl))⟩
  have t4 : Has P w K mg base "tie_in" S_tie_in 2 P_tie_in spTieInW := ⟨_, _, F_p_tie_in, b_p_tie_in, ok_tiein F_p_tie_in t1 B, (He.glo_ok X G (c.fact 33 (f := .glo "tie_in") rfl))⟩
  have t5 : Has P w K mg base "web_in" S_web_in 7 P_web_in (spWebIn (He.ga K "Web")) := ⟨_, _, F_p_web_in, b_p_web_in, ok_webin F_p_web_in RNW (excB_ok hec) (xfB_ok hxf) t1 t4 ME B, (He.glo_ok X G (c.fact 34 (f := .glo "web_in") rfl))⟩
  have t6 : HasE P w K mg base "read_web" S_read_web 8 P_read_web (spRead (He.ga K "Web") (He.ga K "NoText")) := ⟨_, _, F_p_read_web, b_p_read_web, ok_read F_p_read_web RNT gHEADS hHD t5 B, (He.glo_ok X G (c.fact 35 (f := .glo "read_web") rfl))⟩
  have r1 : Has P w K mg base "_law_number" S_number 1 P_number spLNum := ⟨_, _, F_number, b_number, ok_lnum F_number B, (He.glo_ok X G (c.fact 10 (f := .glo "_law_number") rfl))⟩
  have r2 : Has P w K mg base "_law_is_name" S_l_is_name 1 P_l_is_name spLNameS := ⟨_, _, F_l_is_name, b_l_is_name, ok_lnameS F_l_is_name B, (He.glo_ok X G (c.fact 11 (f := .glo "_law_is_name") rfl))⟩
  have r3 : Has P w K mg base "_law_person_fits" S_person_fits 2 P_person_fits spPFits := ⟨_, _, F_person_fits, b_person_fits, ok_pfits F_person_fits r2 B, (He.glo_ok X G (c.fact 12 (f := .glo "_law_person_fits") rfl))⟩
  have r4 : Has P w K mg base "_law_tie_fits" S_tie_fits 2 P_tie_fits spTFits := ⟨_, _, F_tie_fits, b_tie_fits, ok_tfits F_tie_fits r1 r2 B mZip, (He.glo_ok X G (c.fact 13 (f := .glo "_law_tie_fits") rfl))⟩
  have r5 : Has P w K mg base "_law_row_fits" S_row_fits 3 P_row_fits spRFits := ⟨_, _, F_row_fits, b_row_fits, ok_rfits F_row_fits r3 r4 B, (He.glo_ok X G (c.fact 14 (f := .glo "_law_row_fits") rfl))⟩
  have r6 : Has P w K mg base "_law_due" S_due 4 P_due spDue := ⟨_, _, F_due, b_due, ok_due F_due r5 B, (He.glo_ok X G (c.fact 15 (f := .glo "_law_due") rfl))⟩
  have r7 : Has P w K mg base "_law_text" S_text 1 P_text spText2 := ⟨_, _, F_text, b_text, ok_text2 F_text B, (He.glo_ok X G (c.fact 9 (f := .glo "_law_text") rfl))⟩
  have r8 : Has P w K mg base "_law_row" S_row 2 P_row spRow := ⟨_, _, F_row, b_row, ok_row F_row TO B, (He.glo_ok X G (c.fact 16 (f := .glo "_law_row") rfl))⟩
  have r9 : Has P w K mg base "_law_again" S_again 2 P_again spAgain := ⟨_, _, F_again, b_again, ok_again F_again TO B, (He.glo_ok X G (c.fact 17 (f := .glo "_law_again") rfl))⟩
  have r10 : Has P w K mg base "_law_spoilt" S_spoilt 3 P_spoilt spSpoilt := ⟨_, _, F_spoilt, b_spoilt, ok_spoilt F_spoilt TO r8 r9 B, (He.glo_ok X G (c.fact 18 (f := .glo "_law_spoilt") rfl))⟩
  have r11 : Has P w K mg base "_law_told" S_told 9 P_told spTold := ⟨_, _, F_told, b_told, ok_told F_told RNT RWE WC WI gWeb gNoText gNoCount gNoPaper gNoRow gNoWalk gNoWeb mVal TX.ex TX.ec TX.xf TX.xn TX.k1 TX.k2 TX.k3 t6 t3 B, (He.glo_ok X G (c.fact 19 (f := .glo "_law_told") rfl))⟩
  have z := ok_law F_law PO TO WO RO r7 r10 r6 r11 B
  rw [show He.fAd K d_law.at_ = f from ef] at z
  exact z
end Cw
open PySem PySem.W PySem.Calls PyProof.Rows
set_option maxRecDepth 100000 in
set_option maxHeartbeats 0 in
theorem PySem.Challenge.cw_crywalks_k22_whole_texts_spoilt_holds : PySem.Challenge.rw_crywalks_k22_whole_texts_spoilt.Holds := by
  w_on; o_law
  refine HandSHeadRun.head_any (r := Cw.R) (q := view Cw.R.prog [57]) (H := Cw.hk) (ob := Cw.ob) (M := 20000) (loose := Cw.loose) (d := HandSHeadRun.topDef Cw.R.prog 57) (kwd := []) Cw.ob_eq
    (by kernel_rfl) (fun s => by kernel_rfl) Cw.run (by kernel_rfl) (by kernel_rfl) (by kernel_rfl) (by rfl) (by first | assumption | decide +kernel) (by decide +kernel) ⟨rfl, rfl, rfl, rfl, rfl, by decide +kernel⟩ ?hw ?hc
  case hw => w_witness2
  case hc =>
    refine Cw.walkG (l := PySem.Challenge.rw_crywalks_k22_whole_texts_spoilt) (n := 63) (k := 14) (x := "_law_script") rfl (by decide) (by kernel_rfl) ⟨rfl, by decide, by decide⟩ ?F
    intro w mg fa h Y G hmg0
    obtain ⟨K, KX, c, ex⟩ := Y
    have hmg : mg ("law" : PySem.Str) = some (.ref fa) := by
      have e : (HandSHeadRun.topDef Cw.R.prog 57).name = ("law" : PySem.Str) := by kernel_rfl
      rw [← e]
      exact hmg0
    obtain ⟨fd, hb, hF⟩ := Cw.facts (P := PySem.Challenge.rw_crywalks_k22_whole_texts_spoilt.prog) (w := w) KX G hmg c ex
    exact ⟨K, fd, Cw.spLaw K, KX, hb, fun H a ns hl _ hS => ⟨a, ns, rfl, hS, fun _ => rfl⟩, hF⟩
