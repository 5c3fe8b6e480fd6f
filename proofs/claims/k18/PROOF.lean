import PyProof.Rows.All
import Wide.All
import OpenK.AllK
import Wide.FinOn
import Lean
import HandS.ForMost
import HandS.ForExc
import HandS.Head0
import HandS.Head1
import HandS.Head2
import HandS.HeadEnd
import HandS.HeadHook1
import HandS.HeadHook2
import HandS.WideBits
import HandS.Wide
import HandS.IsInst
import HandS.ExcInit
import HandS.ExcValue
import HandS.Deep
import HandS.Codes
import HandS.Walk
import HandS.Zip
import KE.KExcIs
import PySem.Challenge.RW_crywalks_k18_refusals_made
set_option Elab.async false
set_option linter.all false
set_option maxRecDepth 100000
set_option maxHeartbeats 4000000
/-! Promises of defs that are called where nothing is being shown (no guard stands): for repr of lists. -/
namespace Cw
open PySem PySem.Spec PyProof.Rows L2

/-- as the layer's promise of a def, where no guard is on the stack -/
structure FnG (P : Program) (w : World) (K : PySem.W.Frag) (mg : Str → Option Value) (base : Heap) (CX : CXT) (k : Nat)
    (f : Addr) (fd : FuncData) (ps : List Str) (sp : Sp) : Prop where
  len : ∀ vs H Q E, sp vs H Q E → vs.length = ps.length
  go : ∀ (A : Around) (out : List Env) (s : Shared) (H : Hp) (args : Args) (us : List Value) (vs : List V) (Q : VK) (E : XK),
    A.guards = some [] → Room k A → Env0 P w K mg base A out s H → BindsTo s fd args (ps.zip us) → Vals vs us →
    sp vs H Q E → codeAny (model P w) A (.call (.ref f) args) (CR CX out P w H s Q E) s

section
variable {P : Program} {w : World} {K : PySem.W.Frag} {mg : Str → Option Value} {base : Heap}
theorem FnG.ofOk {CX : CXT} {k : Nat} {f : Addr} {fd : FuncData} {ps : List Str} {sp : Sp}
    (F : FnOk P w K mg base CX k f fd ps sp) : FnG P w K mg base CX k f fd ps sp :=
  ⟨F.len, fun A out s H args us vs Q E _ hr => F.run A out s H args us vs Q E hr⟩
theorem FnG.mono {CX : CXT} {j k : Nat} {f : Addr} {fd : FuncData} {ps : List Str} {sp : Sp}
    (F : FnG P w K mg base CX j f fd ps sp) (h : j ≤ k) : FnG P w K mg base CX k f fd ps sp :=
  ⟨F.len, fun A out s H args us vs Q E hg hr => F.go A out s H args us vs Q E hg (hr.mono h)⟩

/-- a def by its body -/
theorem fnG {CX : CXT} {k : Nat} {f : Addr} {name qual : Str} {params : Arguments} {body : List Stmt} {scope : Scope}
    {dV kV doc pm cdv ct oc : Value} {an od : Option Addr} {osl : Array (Option Value)} {N ps : List Str} {sp : Sp}
    (at_ : K.lookup f = some ⟨oc, od, .func (PySem.W.fnOf name qual params body scope dV kV doc pm an cdv ct), osl⟩)
    (code : PySem.W.codeIn K cdv qual = true) (S : FnScope N ps scope)
    (len : ∀ vs H Q E, sp vs H Q E → vs.length = ps.length)
    (walk : ∀ (A : Around) (out : List Env) (s : Shared) (H : Hp) (vs : List V) (Q : VK) (E : XK), A.guards = some [] →
      Room k (A.deeper (envOfC qual scope s.heap.objs.size f cdv)) → sp vs H Q E →
      ∃ t, PSs (cxOf CX P w K mg base N qual scope f cdv A out s H E) body t ∧
        t { nx := fun _ H' => Q .non H', rt := Q } (start N vs) H) :
    FnG P w K mg base CX (k + 1) f (PySem.W.fnOf name qual params body scope dV kV doc pm an cdv ct) ps sp := by
  refine ⟨len, fun A out s H args us vs Q E hg hr e0 hb rel wish => ?_⟩
  have same : ∀ b o, base.get? b = some o → s.heap.get? b = some o := fun b o e => (e0.bs b o e).1
  have kin : K.In s.heap := e0.mod.kin.keeps same
  have kinds : ∀ y ∈ ps.zip us, scope.names.lookup y.1 = some .local ∨
      (scope.names.lookup y.1 = some .cell ∧ ((cellsFrom (s.heap.objs.size + 1) scope.names []).lookup y.1).isSome = true) := by
    rintro ⟨n, v⟩ hy
    rcases S.par n (List.of_mem_zip hy).1 with q | q
    · exact .inl q
    · exact .inr ⟨q, PySem.W.cellsFrom_some _ _ _ (.inl q)⟩
  refine codeAny_call_function hr.depth (kin _ _ at_) rfl S.co S.gen rfl (PySem.W.codeRec_of kin code) (hb _ _ _ _ ?_)
  refine wpAny_newFunctionEnv_cells S.kind kinds fun env ee s1 ic => ?_
  subst ee
  refine ⟨(e0.mod.nolimit.keeps same).keeps ic.toInCall.keep, codeAny_func ?_⟩
  obtain ⟨t, ht, hq⟩ := walk A out s H vs Q E hg (hr.deeper _) wish
  have I := inv_start (CX := CX) (E := E) S hr.hd e0 (len _ _ _ _ wish) rel ic
  refine wpAny_mono (ht.run [] s1 (start N vs) H _ I hq) (fun fl s' hs => ?_) fun e s' hs => hs
  cases fl with
  | ret u =>
    obtain ⟨v, σ', H', J, rv, q⟩ := hs
    exact ⟨v, H', J.os, J.bare, J.base, J.hok, rv, q⟩
  | next =>
    obtain ⟨σ', H', J, q⟩ := hs
    exact ⟨V.non, H', J.os, J.bare, J.base, J.hok, (rfl : RelV V.non Value.none), q⟩
  | brk => exact hs.elim fun _ z => z.elim fun _ z => z.2.elim
  | cont => exact hs.elim fun _ z => z.elim fun _ z => z.2.elim

/-- the same for a def as the head's facts tell it (no exception leaves it) -/
theorem defG {x qual : Str} {ar : Arguments} {bd : List Stmt} {sc : Scope} {dvs : List V} {kws : List (Str × V)} {f : Addr}
    {fd : FuncData} {N ps : List Str} {k : Nat} {sp : Sp} (F : FunD K x qual ar bd sc dvs kws f fd) (S : FnScope N ps sc)
    (len : ∀ vs H Q E, sp vs H Q E → vs.length = ps.length)
    (walk : ∀ (cdv : Value) (A : Around) (out : List Env) (s : Shared) (H : Hp) (vs : List V) (Q : VK) (E : XK),
      A.guards = some [] → Room k (A.deeper (envOfC qual sc s.heap.objs.size f cdv)) → sp vs H Q E →
      ∃ t, PSs (cxOf CX0 P w K mg base N qual sc f cdv A out s H E).nox bd t ∧
        t { nx := fun _ H' => Q .non H', rt := Q } (start N vs) H) : FnG P w K mg base CX0 (k + 1) f fd ps sp := by
  obtain ⟨oc, od, dV, kV, doc, pm, an, cdv, ct, osl, e, lk, hcd, _⟩ := F.ex
  subst e
  refine fnG lk hcd S len fun A out s H vs Q E hg hr wish => ?_
  obtain ⟨t, h, q⟩ := walk cdv A out s H vs Q E hg hr wish
  exact ⟨t, h.nox, q⟩
end

section
variable {X : Cx} {CX : CXT} {k : Nat} {f : Addr} {fd : FuncData} {ps : List Str} {sp : Sp} {dvs : List V} {ds : List Value} {E : XK}
theorem runG {pins : List (Addr × Obj)} {σ : L2.St} {H : Hp} {s : Shared} {Q : VK} {us : List Value} {vs : List V}
    (F : FnG X.prog X.w X.K X.mg X.base CX k f fd ps sp) (hg : X.A.guards = some []) (hr : Room k X.A) (hb : Binds X.K fd ps ds)
    (hd : Vals dvs ds) (hx : Passes CX X E) (I : Inv X pins σ H s) (r : Vals vs us) (h : sp (vs ++ dvs) H Q E) :
    wpAny (model X.prog X.w) X.A (call (.ref f) us) (EP X pins σ Q) X.xe s := by
  have rel : Vals (vs ++ dvs) (us ++ ds) := r.append hd
  have many : (us ++ ds).length = ps.length := rel.length.symm.trans (F.len _ _ _ _ h)
  have go := F.go X.A X.stack s H ⟨us, []⟩ (us ++ ds) (vs ++ dvs) Q E hg hr I.env0 (hb s us I.kIn many) rel h
  refine wpAny_call (codeAny_mono go fun res s' hq => ?_)
  match res, hq with
  | .error e, hq => exact hx pins σ H s e s' I hq
  | .ok (.ret u), hq => exact I.after hq
  | .ok .next, hq => exact hq.elim
  | .ok .brk, hq => exact hq.elim
  | .ok .cont, hq => exact hq.elim
/-- f(e, ..) -/
theorem pe_callG {x : Str} {p pos : Pos} {e : Expr} {es : List Expr} {t : TA} (F : FnG X.prog X.w X.K X.mg X.base CX k f fd ps sp)
    (hgs : X.A.guards = some []) (hr : Room k X.A) (hg : Gl X x) (hm : X.mg x = some (.ref f)) (hk : PySem.W.keepIn X.K (.ref f) = true)
    (hb : Binds X.K fd ps ds) (hd : Vals dvs ds) (hx : Passes CX X E) (ha : PA X (e :: es) t)
    (hdb : (x == ("__debug__" : Str)) = false := by decide)
    (he : starEach (e :: es) X.env = (false, eval e X.env) :: starEach es X.env := by rfl)
    (hpl : (backTo pos (starEach es X.env)).any (·.1) = false := by rfl) :
    PE X (.Call (.Name x p) (e :: es) [] pos) (tCall sp dvs E t) := by
  constructor
  intro pins s σ H Q I h
  refine wpAny_Call_Name_kw (ld_glob I hg hm ?_ hdb)
  refine PySem.W.callWith_K (h₀ := X.base) I.ok.mod.kin hk ?_ he hpl
  refine thn (ha.run pos pins s σ H _ I h) fun us s1 z => ?_
  obtain ⟨vs, H1, I1, rel, q⟩ := z
  exact ⟨I1.kIn, runG F hgs hr hb hd hx I1 rel q⟩
end

/-! ### the law's own call -/
section
variable {P : Program} {w : World} {K : PySem.W.Frag} {mg mb : Str → Option Value} {k : Nat} {fa a : Addr} {fd : FuncData} {x : Str}
  {sp : Sp} {s1 : Shared} {vs : List Value} {ns : List Int}
theorem lawCore {H : Hp} (kin : K.In s1.heap) (gl : s1.heap.Ns mainGlobals mg) (bl : s1.heap.Ns builtinsNs mb)
    (bb : ∀ y : Str, y ≠ "__name__" → mb y = bootBuiltins y) (lim : s1.heap.NoLimit) (gens : s1.gens = #[])
    (obj : s1.heap.get? a = some { cls := .type "list", data := .seq vs.toArray }) (room : Room k callerA)
    (F : ∀ base : Heap, K.In base → base.Ns mainGlobals mg → FnG P w K mg base CX0 k fa fd [x] sp)
    (bind : ∀ (s : Shared) (u : Value), BindsTo s fd ⟨[u], []⟩ [(x, u)]) (only : Only H)
    (wish : sp [.ref a] H (fun v _ => v = .bl true) fun _ _ _ => False) (hok : HOk P w H s1.heap)
    (hA : ∀ b, H b ≠ none → b = a) (hK : H a ≠ none → K.lookup a = none) :
    codeAny (model P w) callerA (.call (.ref fa) ⟨[.ref a], []⟩)
      (fun r s' => r = .ok (.ret (.bool true)) ∧ OldK s1.heap s'.heap ∧ s'.os = s1.os ∧ AllBare s'.gens) s1 := by
  have hid : ∀ {b : Addr} {o : Obj}, s1.heap.get? b = some o → H b = none → (hidT s1.heap H).get? b = some o :=
    fun e n => hidT_get e n
  have free : ∀ {b : Addr} {o : Obj} {es : Array DictEntry} {ep : Nat}, s1.heap.get? b = some o → o.data = .dict es ep → H b = none := by
    intro b o es ep e d
    by_cases q : H b = none
    · exact q
    · have e' := hA b q
      subst e'
      rw [obj] at e
      cases e
      exact Data.noConfusion d
  have ns' : ∀ {b : Addr} {m : Str → Option Value}, s1.heap.Ns b m → (hidT s1.heap H).Ns b m :=
    fun ⟨o, es, ep, e, d, r⟩ => ⟨o, es, ep, hid e (free e d), d, r⟩
  have kin' : K.In (hidT s1.heap H) := by
    intro b o e
    refine hid (kin b o e) ?_
    by_cases q : H b = none
    · exact q
    · have e' := hA b q
      subst e'
      rw [hK q] at e
      cases e
  obtain ⟨mc, l1, l2⟩ := lim
  have md : Mod K mg (hidT s1.heap H) := ⟨kin', ns' gl, ⟨mb, ns' bl, bb⟩, mc, ns' l1, l2⟩
  have e0 : Env0 P w K mg (hidT s1.heap H) callerA [] s1 H :=
    ⟨rfl, md, fun b o e => of_hidT e, Nat.le_of_eq (hidT_size _ _), trivial, (fun b hb => (List.not_mem_nil (show b ∈ ([] : List Addr) from hb)).elim), hok, AllBare.of_eq gens⟩
  have go := (F _ kin' (ns' gl)).go callerA [] s1 H ⟨[.ref a], []⟩ [.ref a] [.ref a] _ _ rfl room e0 (bind s1 (.ref a)) (.cons rfl .nil) wish
  refine codeAny_mono go fun res s' h => ?_
  match res, h with
  | .error e, h => exact False.elim h
  | .ok .next, h => exact h.elim
  | .ok .brk, h => exact h.elim
  | .ok .cont, h => exact h.elim
  | .ok (.ret u), h =>
    obtain ⟨v, H', os, bare, un, hok', rv, q⟩ := h
    have q' : v = .bl true := q
    subst q'
    have eu : u = Value.bool true := rv
    subst eu
    refine ⟨rfl, OldK.of_keep fun b o e => ?_, os, bare⟩
    rcases only b with z | ⟨ob, xs, z⟩
    · exact un.keep b o e z (fun y => (List.not_mem_nil (show b ∈ ([] : List Addr) from y)).elim) List.not_mem_nil
    · have y1 := (hok b _ z).1
      have y2 := (hok' b _ (un.frzs b ob _ z)).1
      rw [e] at y1
      cases y1
      exact y2
theorem lawG (kin : K.In s1.heap) (gl : s1.heap.Ns mainGlobals mg) (bl : s1.heap.Ns builtinsNs mb)
    (bb : ∀ y : Str, y ≠ "__name__" → mb y = bootBuiltins y) (lim : s1.heap.NoLimit) (gens : s1.gens = #[])
    (obj : s1.heap.get? a = some { cls := .type "list", data := .seq vs.toArray }) (isInts : IntsAre vs ns) (hl : ns.length ≤ sizeLine)
    (room : Room k callerA) (F : ∀ base : Heap, K.In base → base.Ns mainGlobals mg → FnG P w K mg base CX0 k fa fd [x] sp)
    (bind : ∀ (s : Shared) (u : Value), BindsTo s fd ⟨[u], []⟩ [(x, u)])
    (wish : ∀ H : Hp, Only H → SqL K H a (ns.map V.int) → sp [.ref a] H (fun v _ => v = .bl true) fun _ _ _ => False) :
    codeAny (model P w) callerA (.call (.ref fa) ⟨[.ref a], []⟩)
      (fun r s' => r = .ok (.ret (.bool true)) ∧ OldK s1.heap s'.heap ∧ s'.os = s1.os ∧ AllBare s'.gens) s1 := by
  have rel := vals_ints isInts
  cases hk : K.lookup a with
  | some o =>
    have e := kin a o hk
    rw [obj] at e
    cases e
    have on : Only (fun _ => none) := fun _ => .inl rfl
    have sq : SqL K (fun _ => none) a (ns.map V.int) :=
      .inr ⟨_, vs.toArray, _, hk, rfl, rfl, rfl, by rw [List.size_toArray, isInts.length]; exact hl, by simpa using rel⟩
    exact lawCore kin gl bl bb lim gens obj room F bind on (wish _ on sq) (fun b u z => by cases (show (none : Option HO) = some u from z))
      (fun b z => absurd rfl z) (fun z => absurd rfl z)
  | none =>
    let H : Hp := fun b => if b = a then some (.frz { cls := .type "list", data := .seq vs.toArray } (.lst (ns.map V.int))) else none
    have here : H a = some (.frz { cls := .type "list", data := .seq vs.toArray } (.lst (ns.map V.int))) := if_pos rfl
    have other : ∀ b, b ≠ a → H b = none := fun b hb => if_neg hb
    have on : Only H := fun b => by
      by_cases hb : b = a
      · subst hb
        exact .inr ⟨_, _, here⟩
      · exact .inl (other b hb)
    refine lawCore (H := H) kin gl bl bb lim gens obj room F bind on (wish H on (.inl (.inr ⟨_, here⟩))) ?_ ?_ (fun _ => hk)
    · intro b u z
      by_cases hb : b = a
      · subst hb
        rw [here] at z
        cases z
        exact ⟨obj, by rw [List.length_map]; exact hl, vs, _, rel, obj⟩
      · rw [other b hb] at z
        cases z
    · intro b z
      by_cases hb : b = a
      · exact hb
      · exact absurd (other b hb) z
end
/-- the walk of the law's row -/
theorem walkG {l : PySem.W.OpenLaw} {n k : Nat} {q : Program} {loose : List Str} {XP : (Str → Option Value) → Heap → Prop}
    {YP : World → Heap → Prop} {d : DefRec} {x : Str} (hn : l.most = some n) (hn2 : n ≤ sizeLine) (hdf : d.params.defaults = [])
    (room : Room k callerA)
    (F : ∀ (w : World) (mg : Str → Option Value) (fa : Addr) (h : Heap), YP w h → h.Ns mainGlobals mg → mg d.name = some (.ref fa) →
      ∃ (K : PySem.W.Frag) (fd : FuncData) (sp : Sp), K.In h ∧ (∀ (s : Shared) (u : Value), BindsTo s fd ⟨[u], []⟩ [(x, u)]) ∧
        (∀ (H : Hp) (a : Addr) (ns : List Int), ns.length ≤ n → Only H → SqL K H a (ns.map V.int) →
          sp [.ref a] H (fun v _ => v = .bl true) fun _ _ _ => False) ∧
        ∀ base : Heap, K.In base → base.Ns mainGlobals mg → FnG l.prog w K mg base CX0 k fa fd [x] sp) :
    PySem.W.WalkO q loose XP YP l.row.toRowW d [] (fun f vs => PySem.call f vs) := by
  refine Att.attach_call hn hdf ?_
  intro w s0 s1 mg mb fa o pm cd doc a vs ns G Y ho hd hcd hmg hobj hints hlen hg
  obtain ⟨K, fd, sp, kin, bind, wish, hF⟩ := F w mg fa _ Y G.T.g hmg
  exact lawG kin G.T.g G.T.b G.T.builtins G.T.nolimit hg hobj hints (Nat.le_trans hlen hn2) room hF bind
    fun H hO hS => wish H a ns hlen hO hS
end Cw
namespace Cw
open PySem PySem.Spec PyProof.Rows L2
def top (i : Nat) : Stmt := PySem.Challenge.pw_crywalks_k18_refusals_made.main.body.getD i (.Pass ⟨0, 0, 0, 0⟩)
abbrev S_NoWeb_init : Stmt := inClass (top 2) 0
abbrev N_NoWeb_init : List Str := ["self", "what", "who"]
theorem sc_NoWeb_init : FnScope N_NoWeb_init ["self", "what", "who"] (defScope S_NoWeb_init) := ⟨rfl, rfl, rfl, by decide +kernel, rfl, by decide +kernel, by decide +kernel⟩
abbrev S_NoText_init : Stmt := inClass (top 3) 0
abbrev N_NoText_init : List Str := ["self", "row"]
theorem sc_NoText_init : FnScope N_NoText_init ["self", "row"] (defScope S_NoText_init) := ⟨rfl, rfl, rfl, by decide +kernel, rfl, by decide +kernel, by decide +kernel⟩
abbrev S_NoWalk_init : Stmt := inClass (top 4) 0
abbrev N_NoWalk_init : List Str := ["self", "number"]
theorem sc_NoWalk_init : FnScope N_NoWalk_init ["self", "number"] (defScope S_NoWalk_init) := ⟨rfl, rfl, rfl, by decide +kernel, rfl, by decide +kernel, by decide +kernel⟩
abbrev S_NoPaper_init : Stmt := inClass (top 5) 0
abbrev N_NoPaper_init : List Str := ["self", "row"]
theorem sc_NoPaper_init : FnScope N_NoPaper_init ["self", "row"] (defScope S_NoPaper_init) := ⟨rfl, rfl, rfl, by decide +kernel, rfl, by decide +kernel, by decide +kernel⟩
abbrev S_NoName_init : Stmt := inClass (top 10) 0
abbrev N_NoName_init : List Str := ["self", "who"]
theorem sc_NoName_init : FnScope N_NoName_init ["self", "who"] (defScope S_NoName_init) := ⟨rfl, rfl, rfl, by decide +kernel, rfl, by decide +kernel, by decide +kernel⟩
abbrev S_NoSuch_init : Stmt := inClass (top 14) 0
abbrev N_NoSuch_init : List Str := ["self", "who"]
theorem sc_NoSuch_init : FnScope N_NoSuch_init ["self", "who"] (defScope S_NoSuch_init) := ⟨rfl, rfl, rfl, by decide +kernel, rfl, by decide +kernel, by decide +kernel⟩
abbrev S_Taken_init : Stmt := inClass (top 15) 0
abbrev N_Taken_init : List Str := ["self", "who"]
theorem sc_Taken_init : FnScope N_Taken_init ["self", "who"] (defScope S_Taken_init) := ⟨rfl, rfl, rfl, by decide +kernel, rfl, by decide +kernel, by decide +kernel⟩
abbrev S_Same_init : Stmt := inClass (top 16) 0
abbrev N_Same_init : List Str := ["self", "who"]
theorem sc_Same_init : FnScope N_Same_init ["self", "who"] (defScope S_Same_init) := ⟨rfl, rfl, rfl, by decide +kernel, rfl, by decide +kernel, by decide +kernel⟩
abbrev S_Crying_init : Stmt := inClass (top 17) 0
abbrev N_Crying_init : List Str := ["self", "who"]
theorem sc_Crying_init : FnScope N_Crying_init ["self", "who"] (defScope S_Crying_init) := ⟨rfl, rfl, rfl, by decide +kernel, rfl, by decide +kernel, by decide +kernel⟩
abbrev S_Alone_init : Stmt := inClass (top 18) 0
abbrev N_Alone_init : List Str := ["self", "who"]
theorem sc_Alone_init : FnScope N_Alone_init ["self", "who"] (defScope S_Alone_init) := ⟨rfl, rfl, rfl, by decide +kernel, rfl, by decide +kernel, by decide +kernel⟩
abbrev S_Endless_init : Stmt := inClass (top 19) 0
abbrev N_Endless_init : List Str := ["self", "who"]
theorem sc_Endless_init : FnScope N_Endless_init ["self", "who"] (defScope S_Endless_init) := ⟨rfl, rfl, rfl, by decide +kernel, rfl, by decide +kernel, by decide +kernel⟩
abbrev S_Crowded_init : Stmt := inClass (top 20) 0
abbrev N_Crowded_init : List Str := ["self", "most"]
theorem sc_Crowded_init : FnScope N_Crowded_init ["self", "most"] (defScope S_Crowded_init) := ⟨rfl, rfl, rfl, by decide +kernel, rfl, by decide +kernel, by decide +kernel⟩
abbrev S_TooMany_init : Stmt := inClass (top 21) 0
abbrev N_TooMany_init : List Str := ["self", "limit"]
theorem sc_TooMany_init : FnScope N_TooMany_init ["self", "limit"] (defScope S_TooMany_init) := ⟨rfl, rfl, rfl, by decide +kernel, rfl, by decide +kernel, by decide +kernel⟩
abbrev S_pot : Stmt := top 23
abbrev N_pot : List Str := ["_law_script", "_law_k", "_law_cell"]
theorem sc_pot : FnScope N_pot ["_law_script", "_law_k"] (defScope S_pot) := ⟨rfl, rfl, rfl, by decide +kernel, rfl, by decide +kernel, by decide +kernel⟩
abbrev S_take : Stmt := top 24
abbrev N_take : List Str := ["_law_pot_here", "_law_many", "_law_digit"]
theorem sc_take : FnScope N_take ["_law_pot_here", "_law_many"] (defScope S_take) := ⟨rfl, rfl, rfl, by decide +kernel, rfl, by decide +kernel, by decide +kernel⟩
abbrev S_among : Stmt := top 25
abbrev N_among : List Str := ["_law_pot_here", "_law_some"]
theorem sc_among : FnScope N_among ["_law_pot_here", "_law_some"] (defScope S_among) := ⟨rfl, rfl, rfl, by decide +kernel, rfl, by decide +kernel, by decide +kernel⟩
abbrev S_word : Stmt := top 26
abbrev N_word : List Str := ["_law_pot_here", "_law_letters", "_law_k"]
theorem sc_word : FnScope N_word ["_law_pot_here"] (defScope S_word) := ⟨rfl, rfl, rfl, by decide +kernel, rfl, by decide +kernel, by decide +kernel⟩
abbrev S_thing : Stmt := top 27
abbrev N_thing : List Str := ["_law_pot_here", "_law_some"]
theorem sc_thing : FnScope N_thing ["_law_pot_here"] (defScope S_thing) := ⟨rfl, rfl, rfl, by decide +kernel, rfl, by decide +kernel, by decide +kernel⟩
abbrev S_which : Stmt := top 28
abbrev N_which : List Str := ["_law_e", "_law_some", "_law_number", "_law_truth"]
theorem sc_which : FnScope N_which ["_law_e"] (defScope S_which) := ⟨rfl, rfl, rfl, by decide +kernel, rfl, by decide +kernel, by decide +kernel⟩
abbrev S_bases : Stmt := top 29
abbrev N_bases : List Str := ["_law_e", "_law_found", "_law_number", "_law_truth"]
theorem sc_bases : FnScope N_bases ["_law_e"] (defScope S_bases) := ⟨rfl, rfl, rfl, by decide +kernel, rfl, by decide +kernel, by decide +kernel⟩
abbrev S_is : Stmt := top 30
abbrev N_is : List Str := ["_law_e", "_law_number", "_law_bases_here"]
theorem sc_is : FnScope N_is ["_law_e", "_law_number", "_law_bases_here"] (defScope S_is) := ⟨rfl, rfl, rfl, by decide +kernel, rfl, by decide +kernel, by decide +kernel⟩
abbrev S_webs_right : Stmt := top 31
abbrev N_webs_right : List Str := ["_law_one", "_law_other", "_law_word_here", "_law_pair", "_law_told", "_law_made", "_law_plain", "_law_e", "_law_number"]
theorem sc_webs_right : FnScope N_webs_right ["_law_one", "_law_other", "_law_word_here"] (defScope S_webs_right) := ⟨rfl, rfl, rfl, by decide +kernel, rfl, by decide +kernel, by decide +kernel⟩
abbrev S_others_right : Stmt := top 32
abbrev N_others_right : List Str := ["_law_one", "_law_word_here", "_law_told", "_law_made", "_law_k", "_law_e"]
theorem sc_others_right : FnScope N_others_right ["_law_one", "_law_word_here"] (defScope S_others_right) := ⟨rfl, rfl, rfl, by decide +kernel, rfl, by decide +kernel, by decide +kernel⟩
abbrev S_law : Stmt := top 33
abbrev N_law : List Str := ["_law_script", "_law_k", "_law_pot_here", "_law_one", "_law_other", "_law_word_here"]
theorem sc_law : FnScope N_law ["_law_script"] (defScope S_law) := ⟨rfl, rfl, rfl, by decide +kernel, rfl, by decide +kernel, by decide +kernel⟩
abbrev FnP (K : PySem.W.Frag) (x q : Str) (st : Stmt) (f : Addr) (fd : FuncData) : Prop := FunD K x q (defArgs st) (defBody st) (defScope st) [] [] f fd
/-! ### heaps -/
def But (p : Addr) (H H' : Hp) : Prop := ∀ b o, b ≠ p → H b = some o → H' b = some o
theorem But.trans {p : Addr} {H H1 H2 : Hp} (a : But p H H1) (b : But p H1 H2) : But p H H2 := fun c o n e => b c o n (a c o n e)
theorem But.refl {p : Addr} {H : Hp} : But p H H := fun _ _ _ e => e
theorem Same.but {p : Addr} {H H1 : Hp} (a : Same H H1) : But p H H1 := fun c o _ e => a c o e
theorem same_new {H : Hp} {p : Addr} {o : HO} (h : H p = none) : Same H (upd H p o) := fun b x e => by
  rw [upd_ne (ne_of_none e h)]
  exact e
theorem but_upd {H : Hp} {p : Addr} {o : HO} : But p H (upd H p o) := fun b x n e => by
  rw [upd_ne n]
  exact e
theorem atI_int {xs : List V} {k : Int} {v : V} (h0 : 0 ≤ k) (h : xs[k.toNat]? = some v) : atI xs k = some v := by
  have e : (k.toNat : Int) = k := Int.toNat_of_nonneg h0
  rw [← e]
  exact atI_nat h
/-- a pot: what is left of a cell's digits, and a number that is mixed on -/
def Pot (H : Hp) (p : Addr) : Prop := ∃ m0 m1 : Int, H p = some (.lst [.int m0, .int m1]) ∧ 0 ≤ m0 ∧ 0 ≤ m1 ∧ m1 ≤ 2147483587
theorem Pot.same {H H' : Hp} {p : Addr} (h : Pot H p) (s : Same H H') : Pot H' p := by
  obtain ⟨a, b, e, r⟩ := h
  exact ⟨a, b, s _ _ e, r⟩
theorem Pot.ne {H : Hp} {p q : Addr} (h : Pot H p) (n : H q = none) : p ≠ q := by
  obtain ⟨a, b, e, r⟩ := h
  exact ne_of_none e n
section
variable {X : Cx}
/-- divmod by a divisor of up to nine thousand bits -/
theorem call_divmodL : CallR X (.builtin "divmod") (fun xs H Q => ∃ i j, xs = [.int i, .int j] ∧ CDivW i j ∧
    ∀ p, H p = none → Q (.ref p) (upd H p (.tup [.int (i / j), .int (i % j)]))) := by
  intro pins s σ H xs us Q I r h
  obtain ⟨i, j, e, c, q⟩ := h
  exact call_divmodW pins s σ H xs us Q I r ⟨i, j, e, ⟨c.1, PyProof.noPylong_of_log2 c.2⟩, q⟩
end
section
variable {P : Program} {w : World} {K : PySem.W.Frag} {mg : Str → Option Value} {base : Heap}
def spPot (K : PySem.W.Frag) : Sp := fun vs H Q _ => ∃ (a : Addr) (ns : List Int) (k : Int), vs = [.ref a, .int k] ∧ SqL K H a (ns.map V.int) ∧ 0 ≤ k ∧ k ≤ 1000 ∧
  ∀ p H', Same H H' → H p = none → Pot H' p → Q (.ref p) H'
theorem ok_pot {f : Addr} {fd : FuncData} (F : FnP K "_law_pot" "_law_pot" S_pot f fd) (ml : mg "len" = none) (ma : mg "abs" = none) (mm : mg "max" = none) :
    FnOk P w K mg base CX0 1 f fd ["_law_script", "_law_k"] (spPot K) := by
  refine F.ok sc_pot (fun vs H Q E h => ?_) (fun cdv A outer s H vs Q E hr h => ⟨_, PSs.nox (pss_cons (ps_set (i := 2) sc_pot.nd rfl (.inl rfl) pe_int)
    (C8.pss_cut (ps_if (pt_cmpR op_lt (pv 1) (pe_callB call_len_seq (by rfl) ml PySem.boot_len (pa_cons (pv 0) pa_nil)) (nomark _))
      (pss_one (ps_set (i := 2) sc_pot.nd rfl (.inl rfl) (pe_callB call_abs (by rfl) ma (by decide +kernel) (pa_cons (pe_ix ix_list (pv 0) (pv 1) (fun _ _ => rfl)) pa_nil)))) pss_nil)
    (pss_one (ps_ret (pe_lst (pa_cons (pe_callB (call_max2 rfl) (by rfl) mm (by decide +kernel) (pa_cons pe_int (pa_cons (pe_op op_sub (pv 2) (pe_op op_pow pe_int pe_int)) pa_nil)))
      (pa_cons (pe_op op_add (pe_op op_mod (pe_op op_pow (pe_op op_add (pe_op op_add (pe_op op_mod (pv 2) pe_int) (pe_op op_mul pe_int (pv 1))) pe_int) pe_int) pe_int) pe_int) pa_nil))))))), ?_⟩)
  · obtain ⟨a, ns, k, rfl, _⟩ := h
    rfl
  · obtain ⟨a, ns, k, rfl, hS, k0, k1, q⟩ := h
    refine ⟨fun σ H' => ∃ c : Int, σ = [some (.ref a), some (.int k), some (.int c)] ∧ H' = H ∧ 0 ≤ c, ⟨_, rfl, _, rfl, a, _, rfl, .inl hS, _, _, rfl, rfl, _, rfl, ite2 (fun h => ?_) (fun h => ?_)⟩, ?_⟩
    · have hk : k.toNat < ns.length := by
        have h2 := of_decide_eq_true h
        rw [List.length_map] at h2
        omega
      have g : atI (ns.map V.int) k = some (.int ns[k.toNat]) := atI_int k0 (by rw [List.getElem?_map, List.getElem?_eq_getElem hk]; rfl)
      exact ⟨_, rfl, _, rfl, a, _, k, _, rfl, rfl, hS, g, _, rfl, _, rfl, rfl, by split <;> omega⟩
    · exact ⟨0, rfl, rfl, by omega⟩
    · rintro σ H' ⟨c, rfl, rfl, hc⟩
      refine ⟨_, rfl, _, _, rfl, rfl, ⟨by decide, by decide, by decide⟩, _, _, rfl, rfl, _, _, rfl, _, rfl, _, _, rfl, rfl, (by decide : (0 : Int) < 2147483543), _, rfl, _, _, rfl, rfl, .inl ⟨by decide, by decide⟩, _, _, rfl, rfl, _, _, rfl, rfl, ?_⟩
      have b1 := Int.emod_nonneg c (by decide : (2147483543 : Int) ≠ 0)
      have b2 := Int.emod_lt_of_pos c (by decide : (0 : Int) < 2147483543)
      refine ⟨_, _, rfl, rfl, ⟨by decide, by decide, ?_⟩, _, _, rfl, rfl, (by decide : (0 : Int) < 2147483497), _, _, rfl, rfl, by show 2 ≤ sizeLine; decide, fun p hp => ?_⟩
      · show (c % 2147483543 + 101 * k + 5).natAbs < 2 ^ 64
        omega
      · refine q p _ (same_new hp) hp ⟨_, _, upd_same, ?_, ?_, ?_⟩
        · show 0 ≤ if c - 10 ^ Int.toNat 18 > 0 then c - 10 ^ Int.toNat 18 else 0
          split <;> omega
        · have := Int.emod_nonneg ((c % 2147483543 + 101 * k + 5) ^ Int.toNat 2) (by decide : (2147483497 : Int) ≠ 0)
          show 0 ≤ (c % 2147483543 + 101 * k + 5) ^ Int.toNat 2 % 2147483497 + 1
          omega
        · have := Int.emod_lt_of_pos ((c % 2147483543 + 101 * k + 5) ^ Int.toNat 2) (by decide : (0 : Int) < 2147483497)
          show (c % 2147483543 + 101 * k + 5) ^ Int.toNat 2 % 2147483497 + 1 ≤ 2147483587
          omega
/-! ### take -/
/-- what a pot does when something is drawn of it: it is a pot still, and nothing that stood is otherwise -/
def Drew (p : Addr) (H H' : Hp) : Prop := But p H H' ∧ Pot H' p
theorem Drew.trans {p : Addr} {H H1 H2 : Hp} (a : Drew p H H1) (b : Drew p H1 H2) : Drew p H H2 := ⟨a.1.trans b.1, b.2⟩
def spTake : Sp := fun vs H Q _ => ∃ (p : Addr) (m : Int), vs = [.ref p, .int m] ∧ Pot H p ∧ 0 < m ∧ m.natAbs.log2 < 9000 ∧
  ∀ (d : Int) (H' : Hp), 0 ≤ d → d < m → Drew p H H' → Q (.int d) H'
theorem ok_take {f : Addr} {fd : FuncData} (F : FnP K "_law_take" "_law_take" S_take f fd) (md : mg "divmod" = none) :
    FnOk P w K mg base CX0 1 f fd ["_law_pot_here", "_law_many"] spTake := by
  refine F.ok sc_take (fun vs H Q E h => ?_) (fun cdv A outer s H vs Q E hr h => ⟨_, PSs.nox (pss_cons (ps_if (pt_cmpR op_gt (pe_ix ix_list (pv 0) pe_int (fun _ _ => rfl)) pe_int (nomark _))
      (pss_cons (ps_asg (pe_callB call_divmodL (by rfl) md (by decide +kernel) (pa_cons (pe_ix ix_list (pv 0) pe_int (fun _ _ => rfl)) (pa_cons (pv 1) pa_nil)))
          (pg_tup (by rfl) (pgs_cons (pg_sub (pv 0) pe_int set_list) (pgs_cons (pg_name (i := 2) sc_take.nd rfl (.inl rfl)) pgs_nil))))
        (pss_one (ps_ret (pv 2)))) pss_nil)
    (pss_cons (ps_asg (pe_op op_mod (pe_op op_add (pe_op op_mul (pe_ix ix_list (pv 0) pe_int (fun _ _ => rfl)) pe_int) pe_int) pe_int) (pg_sub (pv 0) pe_int set_list))
    (pss_one (ps_ret (pe_op op_mod (pe_op op_fdiv (pe_op op_mod (pe_op op_mul (pe_ix ix_list (pv 0) pe_int (fun _ _ => rfl)) (pe_ix ix_list (pv 0) pe_int (fun _ _ => rfl))) pe_int) pe_int) (pv 1)))))), ?_⟩)
  · obtain ⟨p, m, rfl, _⟩ := h
    rfl
  · obtain ⟨p, m, rfl, ⟨m0, m1, hp, h0, h1, h2⟩, hm, hm9, q⟩ := h
    refine ⟨_, rfl, p, _, 0, _, rfl, rfl, SqL.of hp, atI_int (by decide) rfl, _, _, rfl, rfl, _, rfl, ite2 (fun h => ?_) (fun h => ?_)⟩
    · refine ⟨_, rfl, p, _, 0, _, rfl, rfl, SqL.of hp, atI_int (by decide) rfl, _, rfl, _, _, rfl, ⟨hm, hm9⟩, fun t nt => ?_⟩
      have npt : p ≠ t := ne_of_none hp nt
      have hp1 : (upd H t (HO.tup [V.int (m0 / m), V.int (m0 % m)])) p = some (.lst [.int m0, .int m1]) := by rw [upd_ne npt]; exact hp
      refine ⟨t, _, rfl, SqT.of upd_same, rfl, _, _, rfl, _, rfl, p, _, 0, 0, rfl, rfl, hp1, rfl, _, _, rfl, rfl, _, rfl, ?_⟩
      refine q _ _ (Int.emod_nonneg _ (by omega)) (Int.emod_lt_of_pos _ hm) ⟨fun b o n e => ?_, ⟨_, _, upd_same, Int.ediv_nonneg h0 (by omega), h1, h2⟩⟩
      rw [upd_ne n, upd_ne (ne_of_none e nt)]
      exact e
    · refine ⟨_, rfl, p, _, 1, _, rfl, rfl, SqL.of hp, atI_int (by decide) rfl, _, _, rfl, rfl, .inl ⟨by show -(2 ^ 64) < m1; omega, by show m1 < 2 ^ 64; omega⟩, _, _, rfl, rfl, _, _, rfl, rfl, (by decide : (0 : Int) < 2147483587), ?_⟩
      have c0 := Int.emod_nonneg (m1 * 44029 + 10133) (by decide : (2147483587 : Int) ≠ 0)
      have c1 := Int.emod_lt_of_pos (m1 * 44029 + 10133) (by decide : (0 : Int) < 2147483587)
      refine ⟨_, rfl, p, _, 1, 1, rfl, rfl, hp, rfl, ?_⟩
      refine ⟨_, rfl, p, _, 1, _, rfl, rfl, SqL.of upd_same, atI_int (by decide) rfl, _, rfl, p, _, 1, _, rfl, rfl, SqL.of upd_same, atI_int (by decide) rfl, _, _, rfl, rfl, .inl ⟨by show -(2 ^ 64) < (m1 * 44029 + 10133) % 2147483587; omega, by show (m1 * 44029 + 10133) % 2147483587 < 2 ^ 64; omega⟩, _, _, rfl, rfl, (by decide : (0 : Int) < 2147483549), _, _, rfl, rfl, ⟨by decide, by decide⟩, _, rfl, _, _, rfl, rfl, hm, ?_⟩
      exact q _ _ (Int.emod_nonneg _ (by omega)) (Int.emod_lt_of_pos _ hm) ⟨but_upd, ⟨_, _, upd_same, h0, c0, by omega⟩⟩
/-! ### among, word -/
abbrev BT (K : PySem.W.Frag) (fdT : FuncData) : Prop := Binds K fdT ["_law_pot_here", "_law_many"] []
theorem log_small {m : Int} {n : Nat} (h0 : 0 < m) (h : m ≤ (n : Int)) (hn : n < 2 ^ 200) : m.natAbs.log2 < 9000 := by
  have h1 : m.natAbs < 2 ^ 200 := by omega
  exact Nat.lt_of_lt_of_le (PySem.Flt.log2_lt_of (by decide) h1) (by decide)
def spAmong : Sp := fun vs H Q _ => ∃ (p l : Addr) (xs : List V), vs = [.ref p, .ref l] ∧ Pot H p ∧ l ≠ p ∧ H l = some (.lst xs) ∧ 0 < xs.length ∧ xs.length ≤ 1000 ∧
  ∀ (v : V) (H' : Hp), v ∈ xs → Drew p H H' → Q v H'
theorem ok_among {f fT : Addr} {fd fdT : FuncData} (F : FnP K "_law_among" "_law_among" S_among f fd) (FT : FnP K "_law_take" "_law_take" S_take fT fdT) (bT : BT K fdT)
    (GT : FnOk P w K mg base CX0 1 fT fdT ["_law_pot_here", "_law_many"] spTake) (gT : mg "_law_take" = some (.ref fT)) (ml : mg "len" = none) :
    FnOk P w K mg base CX0 2 f fd ["_law_pot_here", "_law_some"] spAmong := by
  refine F.ok sc_among (fun vs H Q E h => ?_) (fun cdv A outer s H vs Q E hr h => ⟨_, PSs.nox (pss_one (ps_ret (pe_ix ix_list (pv 1) (pe_call GT hr rfl gT FT.kp bT .nil pass0
    (pa_cons (pv 0) (pa_cons (pe_callB call_len_seq (by rfl) ml PySem.boot_len (pa_cons (pv 1) pa_nil)) pa_nil))) (fun _ _ => rfl)))), ?_⟩)
  · obtain ⟨p, l, xs, rfl, _⟩ := h
    rfl
  · obtain ⟨p, l, xs, rfl, hP, nl, hl, h0, h1, q⟩ := h
    refine ⟨_, rfl, _, rfl, _, rfl, l, _, rfl, .inl (SqL.of hl), p, _, rfl, hP, by omega, log_small (n := 1000) (by omega) (by omega) (by decide), fun d H' d0 d1 dr => ?_⟩
    have hd : d.toNat < xs.length := by omega
    exact ⟨l, xs, d, _, rfl, rfl, SqL.of (dr.1 _ _ nl hl), atI_int d0 (List.getElem?_eq_getElem hd), q _ _ (List.getElem_mem hd) dr⟩
def sign (c : Nat) : Str := ⟨#[c]⟩
theorem sum_ones {α : Type} : ∀ cs : List α, (cs.map fun _ => 1).sum = cs.length
  | [] => rfl
  | _ :: r => by
    rw [List.map_cons, List.sum_cons, sum_ones r, List.length_cons]
    omega
theorem joinL_nil : ∀ ps : List (List Nat), TL.joinL [] ps = ps.flatten
  | [] => rfl
  | [p] => by simp [TL.joinL]
  | p :: q :: r => by
    show p ++ ([] ++ TL.joinL [] (q :: r)) = _
    rw [joinL_nil (q :: r), List.nil_append]
    rfl
theorem flat_sign : ∀ cs : List Nat, ((cs.map sign).map TL.tl).flatten = cs
  | [] => rfl
  | c :: r => by
    show [c] ++ ((r.map sign).map TL.tl).flatten = c :: r
    rw [flat_sign r]
    rfl
theorem tl_word (cs : List Nat) : TL.tl (Txt.join (Str.ofString "") (cs.map sign)) = cs := by
  rw [TL.join_eq, TL.tl_join]
  show TL.joinL [] _ = cs
  rw [joinL_nil, flat_sign]
theorem letter_at : ∀ {x : Int}, 0 ≤ x → x.toNat < 26 → atI (Str.ofString "abcdefghijklmnopqrstuvwxyz").cps.toList x = some (97 + x.toNat) := by
  intro x h0 h
  have e : (x.toNat : Int) = x := Int.toNat_of_nonneg h0
  rw [← e]
  refine atI_nat (j := x.toNat) ?_
  have key : ∀ n : Fin 26, (Str.ofString "abcdefghijklmnopqrstuvwxyz").cps.toList[n.val]? = some (97 + n.val) := by decide +kernel
  exact key ⟨x.toNat, h⟩
/-- small letters, so many at most -/
def Small (n : Nat) (z : Str) : Prop := z.length ≤ n ∧ ∀ c ∈ z.cps.toList, 97 ≤ c ∧ c ≤ 122
theorem word_small {cs : List Nat} {n : Nat} (h : ∀ c ∈ cs, 97 ≤ c ∧ c ≤ 122) (hn : cs.length ≤ n) : Small n (Txt.join (Str.ofString "") (cs.map sign)) := by
  have e := tl_word cs
  refine ⟨?_, ?_⟩
  · have e2 := congrArg List.length e
    have e3 : (TL.tl (Txt.join (Str.ofString "") (cs.map sign))).length = (Txt.join (Str.ofString "") (cs.map sign)).length := by
      first | rfl | exact Array.length_toList
    omega
  · show ∀ c ∈ TL.tl (Txt.join (Str.ofString "") (cs.map sign)), _
    rw [e]
    exact h
def spWord : Sp := fun vs H Q _ => ∃ (p : Addr), vs = [.ref p] ∧ Pot H p ∧ ∀ (z : Str) (H' : Hp), Small 8 z → Drew p H H' → Q (.str z) H'
theorem ok_word {f fT : Addr} {fd fdT : FuncData} (F : FnP K "_law_word" "_law_word" S_word f fd) (FT : FnP K "_law_take" "_law_take" S_take fT fdT) (bT : BT K fdT)
    (GT : FnOk P w K mg base CX0 1 fT fdT ["_law_pot_here", "_law_many"] spTake) (gT : mg "_law_take" = some (.ref fT)) (mr : mg "range" = none) :
    FnOk P w K mg base CX0 2 f fd ["_law_pot_here"] spWord := by
  refine F.ok sc_word (fun vs H Q E h => ?_) (fun cdv A outer s H vs Q E hr h => ⟨_, PSs.nox (pss_cons (ps_set (i := 1) sc_word.nd rfl (.inr rfl) pe_str)
    (pss_one (ps_ret (pe_join pe_str (pe_lc (own := [("_law_k", 2)]) (g := gName 2) rfl sc_word.nd (pi_range1 rfl mr (pa_cons (pe_call GT hr rfl gT FT.kp bT .nil pass0 (pa_cons (pv 0) (pa_cons pe_int pa_nil))) pa_nil))
      (blkOk_by (own := [("_law_k", 2)]) (N := N_word) (sc := defScope S_word) (by decide +kernel)) (fun _ _ _ _ _ => pg_name (i := 2) sc_word.nd rfl (Or.inl rfl)) (fun _ _ _ _ _ => pts_nil)
      (fun _ _ _ _ _ => pe_ix ix_str (pv 1) (pe_call GT hr rfl gT FT.kp bT .nil pass0 (pa_cons (pv 0) (pa_cons pe_int pa_nil))) (fun _ _ => rfl))))))), ?_⟩)
  · obtain ⟨p, rfl, _⟩ := h
    rfl
  · obtain ⟨p, rfl, hP, q⟩ := h
    refine ⟨⟨_, rfl⟩, _, rfl, p, _, rfl, hP, by decide, log_small (n := 9) (by decide) (by decide) (by decide), fun d H1 d0 d1 dr => ?_⟩
    refine ⟨d, rfl, by omega, by omega, fun D nD => ?_⟩
    refine lc_range (lo := 0) (n := d.toNat) (fun i H2 => ∃ cs : List Nat, H2 D = some (.lst ((cs.map sign).map V.str)) ∧ cs.length = i ∧ (∀ c ∈ cs, 97 ≤ c ∧ c ≤ 122) ∧ Drew p H H2) ?_ ?_ ?_
    · refine ⟨[], upd_same, rfl, (fun c h => by cases h), fun b o n e => ?_, ?_⟩
      · have := dr.1 b o n e
        exact same_new nD _ _ this
      · exact dr.2.same (same_new nD)
    · rintro i H2 hi ⟨cs, hD, hl, hc, dr2⟩
      have nDp : D ≠ p := fun e => by
        obtain ⟨_, _, e2, _⟩ := dr.2
        rw [e, e2] at nD
        cases nD
      refine ⟨rfl, ?_⟩
      dsimp only [tYes]
      rw [if_pos rfl]
      refine ⟨_, rfl, _, rfl, p, _, rfl, dr2.2, by decide, log_small (n := 26) (by decide) (by decide) (by decide), fun x H3 x0 x1 dr3 => ?_⟩
      have hx : x.toNat < 26 := by omega
      refine ⟨_, x, 97 + x.toNat, rfl, rfl, by decide, letter_at x0 hx, ?_⟩
      have hD3 : H3 D = some (.lst ((cs.map sign).map V.str)) := dr3.1 _ _ nDp hD
      refine ⟨_, hD3, by rw [List.length_map, List.length_map, hl]; exact small1000 (by omega), cs ++ [97 + x.toNat], ?_, ?_, ?_, ?_⟩
      · rw [upd_same, List.map_append, List.map_append]
        rfl
      · rw [List.length_append, hl]
        rfl
      · intro c h
        rcases List.mem_append.mp h with h | h
        · exact hc c h
        · rw [List.mem_singleton.mp h]
          omega
      · exact ⟨fun b o n e => by
          by_cases hb : b = D
          · subst hb
            exact absurd (dr.1 _ _ n e) (by rw [nD]; exact fun z => nomatch z)
          · rw [upd_ne hb]
            exact dr3.1 b o n (dr2.1 b o n e), by
          obtain ⟨u0, u1, e, r⟩ := dr3.2
          exact ⟨u0, u1, by rw [upd_ne nDp.symm]; exact e, r⟩⟩
    · rintro H2 ⟨cs, hD, hl, hc, dr2⟩
      refine ⟨_, D, cs.map sign, rfl, rfl, .inl (SqL.of hD), ?_, q _ _ (word_small hc (by omega)) dr2⟩
      rw [List.map_map, List.length_map]
      have e : ((fun x : Str => x.length) ∘ sign) = fun _ => 1 := rfl
      rw [e]
      have := sum_ones cs
      rw [this]
      show cs.length + cs.length * 0 ≤ 16777216
      omega
end
end Cw
/-! repr of data in lists (an empty dict among them); own exceptions as values: made, read, asked for their class. -/
namespace Cw
open PySem PySem.Spec PyProof.Rows L2
/-! ### data, tracked -/
mutual
inductive Dx (H : Hp) : V → PyData → Prop
  | non : Dx H .non .none
  | bl (b : Bool) : Dx H (.bl b) (.bool b)
  | int (i : Int) : Dx H (.int i) (.int i)
  | str (x : Str) : Dx H (.str x) (.str x)
  | lst {a : Addr} {xs : List V} {ds : List PyData} : H a = some (.lst xs) → DxAll H xs ds → Dx H (.ref a) (.list ds)
  | tup {a : Addr} {xs : List V} {ds : List PyData} : H a = some (.tup xs) → DxAll H xs ds → Dx H (.ref a) (.tuple ds)
  | emp {a : Addr} : H a = some (.dK []) → Dx H (.ref a) (.dict [])
inductive DxAll (H : Hp) : List V → List PyData → Prop
  | nil : DxAll H [] []
  | cons {v : V} {vs : List V} {d : PyData} {ds : List PyData} : Dx H v d → DxAll H vs ds → DxAll H (v :: vs) (d :: ds)
end
mutual
theorem Dx.but {p : Addr} {n : List V} {H H' : Hp} (hp : H p = some (.lst n)) (k : ∀ b o, b ≠ p → H b = some o → H' b = some o) (np : ∀ d, ¬ Dx H (.ref p) d) : ∀ (d : PyData) (v : V), Dx H v d → Dx H' v d
  | .none, _, h => by cases h; exact .non
  | .bool b, _, h => by cases h; exact .bl b
  | .int i, _, h => by cases h; exact .int i
  | .str x, _, h => by cases h; exact .str x
  | .list ds, _, h => by
    cases h with
    | @lst a xs _ e r =>
      exact .lst (k a _ (fun z => np _ (z ▸ Dx.lst e r)) e) (Dx.butAll hp k np ds xs r)
  | .tuple ds, _, h => by
    cases h with
    | @tup a xs _ e r =>
      exact .tup (k a _ (fun z => np _ (z ▸ Dx.tup e r)) e) (Dx.butAll hp k np ds xs r)
  | .dict kvs, _, h => by
    cases h with
    | emp e => exact .emp (k _ _ (fun z => np _ (z ▸ Dx.emp e)) e)
theorem Dx.butAll {p : Addr} {n : List V} {H H' : Hp} (hp : H p = some (.lst n)) (k : ∀ b o, b ≠ p → H b = some o → H' b = some o) (np : ∀ d, ¬ Dx H (.ref p) d) : ∀ (ds : List PyData) (vs : List V), DxAll H vs ds → DxAll H' vs ds
  | [], _, h => by cases h; exact .nil
  | d :: ds, _, h => by
    cases h with
    | cons h1 h2 => exact .cons (Dx.but hp k np d _ h1) (Dx.butAll hp k np ds _ h2)
end
mutual
theorem Dx.same {H H' : Hp} (k : Same H H') : ∀ (d : PyData) (v : V), Dx H v d → Dx H' v d
  | .none, _, h => by cases h; exact .non
  | .bool b, _, h => by cases h; exact .bl b
  | .int i, _, h => by cases h; exact .int i
  | .str x, _, h => by cases h; exact .str x
  | .list ds, _, h => by
    cases h with
    | lst e r => exact .lst (k _ _ e) (Dx.sameAll k ds _ r)
  | .tuple ds, _, h => by
    cases h with
    | tup e r => exact .tup (k _ _ e) (Dx.sameAll k ds _ r)
  | .dict kvs, _, h => by
    cases h with
    | emp e => exact .emp (k _ _ e)
theorem Dx.sameAll {H H' : Hp} (k : Same H H') : ∀ (ds : List PyData) (vs : List V), DxAll H vs ds → DxAll H' vs ds
  | [], _, h => by cases h; exact .nil
  | d :: ds, _, h => by
    cases h with
    | cons h1 h2 => exact .cons (Dx.same k d _ h1) (Dx.sameAll k ds _ h2)
end
/-- the written part knows the table of modules, which is a dict -/
def HasMods (K : PySem.W.Frag) : Prop := ∃ o, K.lookup sysModules = some o ∧ o.cls = .type "dict"
section
variable {X : Cx} {pins : List (Addr × Obj)} {σ : L2.St} {H : Hp} {s : Shared}
mutual
theorem Dx.reads (I : Inv X pins σ H s) (hm : HasMods X.K) : ∀ (d : PyData) (v : V) (u : Value), Dx H v d → RelV v u → ∃ as, Reads s.heap u d as ∧ sysModules ∉ as
  | .none, _, _, h, r => by
    cases h
    cases r
    exact ⟨_, Reads.none, List.not_mem_nil⟩
  | .bool b, _, _, h, r => by
    cases h
    cases r
    exact ⟨_, Reads.bool b, List.not_mem_nil⟩
  | .int i, _, _, h, r => by
    cases h
    obtain ⟨t, rfl⟩ := r
    exact ⟨_, Reads.int i t, List.not_mem_nil⟩
  | .str x, _, _, h, r => by
    cases h
    obtain ⟨t, rfl⟩ := r
    exact ⟨_, Reads.str x t, List.not_mem_nil⟩
  | .list ds, _, _, h, r => by
    cases h with
    | @lst a xs _ e ra =>
      cases r
      obtain ⟨_, its, n, rv, ho⟩ := (show ObjOk X.prog X.w H s.heap a (.lst xs) from I.hok a _ e)
      obtain ⟨as, q, nm⟩ := Dx.readsAll I hm ds xs its ra rv
      refine ⟨_, Reads.list ho rfl rfl q, fun z => ?_⟩
      rcases List.mem_cons.mp z with z | z
      · obtain ⟨o, l, c⟩ := hm
        have e2 := I.kIn _ _ l
        rw [z, ho] at e2
        cases e2
        exact absurd (Value.type.inj c) (by decide)
      · exact nm z
  | .tuple ds, _, _, h, r => by
    cases h with
    | @tup a xs _ e ra =>
      cases r
      obtain ⟨_, its, rv, o, ho, hc, n, hd⟩ := (show ObjOk X.prog X.w H s.heap a (.tup xs) from I.hok a _ e)
      obtain ⟨as, q, nm⟩ := Dx.readsAll I hm ds xs its ra rv
      exact ⟨_, Reads.tuple ho hc hd q, nm⟩
  | .dict kvs, _, _, h, r => by
    cases h with
    | @emp a e =>
      cases r
      obtain ⟨_, ns, vs, kv, o, es, ep, ho, hx, hd, hn⟩ := (show ObjOk X.prog X.w H s.heap a (.dK []) from I.hok a _ e)
      cases kv
      have he : es.toList = [] := by
        have z := hn.2.1
        revert z
        generalize es.toList = l
        intro z
        cases z
        rfl
      have q : Reads s.heap (.ref a) (.dict []) (a :: [] ++ []) := Reads.dict ho hx.1 hd (by rw [he]; exact .nil) (by rw [he]; exact .nil)
      refine ⟨_, q, fun z => ?_⟩
      have z2 : sysModules = a := by simpa using z
      rw [z2] at ns
      simp at ns
theorem Dx.readsAll (I : Inv X pins σ H s) (hm : HasMods X.K) : ∀ (ds : List PyData) (vs : List V) (us : List Value), DxAll H vs ds → Vals vs us → ∃ as, ReadsAll s.heap us ds as ∧ sysModules ∉ as
  | [], _, _, h, r => by
    cases h
    cases r
    exact ⟨_, ReadsAll.nil, List.not_mem_nil⟩
  | d :: ds, _, _, h, r => by
    cases h with
    | cons h1 h2 =>
      cases r with
      | cons r1 r2 =>
        obtain ⟨as, q1, n1⟩ := Dx.reads I hm d _ _ h1 r1
        obtain ⟨bs, q2, n2⟩ := Dx.readsAll I hm ds _ _ h2 r2
        exact ⟨_, ReadsAll.cons q1 q2, fun z => (List.mem_append.mp z).elim n1 n2⟩
end
end
section
variable {X : Cx}
/-- repr of a list, a tuple, an empty dict -/
theorem call_reprX (hg : X.A.guards = some []) (hu : X.A.units + 64 < cLine) (hm : HasMods X.K) : CallR X (.builtin "repr") (fun xs H Q => ∃ (a : Addr) (d : PyData), xs = [.ref a] ∧ Dx H (.ref a) d ∧
    d.showable = true ∧ d.depth ≤ 60 ∧ d.shown.length ≤ sizeLine ∧ Q (.str d.shown) H) := by
  intro pins s σ H xs us Q I r h
  obtain ⟨a, d, rfl, hd, hs, hdp, hz, q⟩ := h
  obtain ⟨u, rfl, r1⟩ := vals1 r
  cases r1
  obtain ⟨as, rd, nm⟩ := Dx.reads I hm d _ _ hd rfl
  exact repr_of_reads' rd hs (fun _ => nm) hg (by omega) (fun _ _ e => e) (fun h' u tk hk => ⟨.str d.shown, H, I.kept (t' := tk) hk, ⟨u, rfl⟩, q⟩) hz
end

/-! ### own exceptions as values -/
/-- what the written part says of an own exception class, over the built-in one B -/
structure ExT (K : PySem.W.Frag) (C : Addr) (B newId initId : String) (bmB : List Value) : Prop where
  base : ExcBaseFacts B newId initId bmB
  store : StoreFacts B bmB "object.__setattr__" "object"
  isI : PySem.W.excInitIn K C bmB newId = true
  over : PySem.W.excOver K C bmB = true
  sa : PySem.W.findIn K (.ref C) "__setattr__" = some (some (.builtin "object.__setattr__"))
  ga : PySem.W.findIn K (.ref C) "__getattribute__" = some (some (.builtin "BaseException.__getattribute__"))
  gg : PySem.W.findIn K (.ref C) "__getattr__" = some none
  isB : PySem.W.subIn K (.ref C) (.type "BaseException") = some true
  hasD : PySem.W.hasDictIn K C = true
  kp : PySem.W.keepIn K (.ref C) = true
  cl : PySem.W.findIn K (.ref C) "__class__" = some (some (.builtin "object.__class__"))
  cg : PySem.W.specialIn K (.builtin "object.__class__") "__get__" = some (some (.builtin "getset_descriptor.__get__"))
  ct : PySem.W.takesIn K (.builtin "object.__class__") = some true
  cm : PySem.W.mroIn K C (.type "object") = some true
/-- the same as a Bool -/
def exB (K : PySem.W.Frag) (C : Addr) (bmB : List Value) (newId : String) : Bool :=
  PySem.W.excInitIn K C bmB newId && (PySem.W.excOver K C bmB && (decide (PySem.W.findIn K (.ref C) "__setattr__" = some (some (.builtin "object.__setattr__"))) &&
  (decide (PySem.W.findIn K (.ref C) "__getattribute__" = some (some (.builtin "BaseException.__getattribute__"))) && (decide (PySem.W.findIn K (.ref C) "__getattr__" = some none) &&
  (decide (PySem.W.subIn K (.ref C) (.type "BaseException") = some true) && (PySem.W.hasDictIn K C && (PySem.W.keepIn K (.ref C) &&
  (decide (PySem.W.findIn K (.ref C) "__class__" = some (some (.builtin "object.__class__"))) && (decide (PySem.W.specialIn K (.builtin "object.__class__") "__get__" = some (some (.builtin "getset_descriptor.__get__"))) &&
  (decide (PySem.W.takesIn K (.builtin "object.__class__") = some true) && decide (PySem.W.mroIn K C (.type "object") = some true)))))))))))
theorem exB_ok {K : PySem.W.Frag} {C : Addr} {B newId initId : String} {bmB : List Value} (F : ExcBaseFacts B newId initId bmB) (S : StoreFacts B bmB "object.__setattr__" "object") (h : exB K C bmB newId = true) : ExT K C B newId initId bmB := by
  unfold exB at h
  simp only [Bool.and_eq_true, decide_eq_true_eq] at h
  obtain ⟨h1, h2, h3, h4, h5, h6, h7, h8, h9, h10, h11, h12⟩ := h
  exact ⟨F, S, h1, h2, h3, h4, h5, h6, h7, h8, h9, h10, h11, h12⟩
section
variable {X : Cx} {pins : List (Addr × Obj)} {σ : L2.St} {H : Hp} {s : Shared} {a C dx : Addr} {f : Str} {y : V} {u : Value} {fs : List (Str × V)} {B newId initId : String} {bmB : List Value}
open Builtin Builtin.ObjectAttr in
/-- object.__setattr__ of an exception that has no dict yet -/
theorem xsa_new {prog : Program} {w : World} {A : Around} {R : Result → Shared → Prop} {hp : Heap} {g : Array GenState} {d : Drawn} {t : Nat} {os : OsState} {K : PySem.W.Frag} {name : Str} {tk : Tok} {v : Value} {x : Addr} {fv : Array Value}
    (T : ExT K C B newId initId bmB) (kin : K.In hp) (hx : hp.get? x = some { cls := .ref C, data := .fields fv }) (ht : PySem.W.takerIn K C name = some none)
    (hq : ∀ h' tk' dx, (∀ b o, b ≠ x → hp.get? b = some o → h'.get? b = some o) → hp.objs.size ≤ dx → dx ≠ x → h'.get? x = some { cls := .ref C, dict := some dx, data := .fields fv } →
      h'.Ns1 dx (fun y => if y = name then some v else none) → R (.ok (.ret .none)) ⟨h', g, d, tk', os⟩) :
    codeAny (model prog w) A (.call (.builtin "object.__setattr__") ⟨[.ref x, .str name tk, v], []⟩) R ⟨hp, g, d, t, os⟩ := by
  have I : PySem.W.InstAt hp x { cls := .ref C, data := .fields fv } C none := ⟨hx, rfl, rfl, trivial⟩
  refine PySem.W.osa_openX T.store kin I T.over ht fun b => ?_
  have hxs : x ≠ hp.objs.size := Nat.ne_of_lt (Heap.lt_size hx)
  obtain ⟨cd, hcd, hh⟩ := PySem.W.any_some T.hasD
  have hcls : PySem.W.Looks (model prog w) hp (classData C) cd := PySem.W.looks_clsIn kin hcd
  obtain ⟨nm, bs, mro, ns, qn, hd, sn, sb, ab, col, del⟩ := cd
  dsimp only at hh
  subst hh
  unfold storeInOwnDict ownDictForStores
  repeat (first | with_reducible refine PySem.HandSPX.store_in_new ?_ ?_ | with_reducible refine wpAny_loadPart_at hx ?_ | with_reducible refine hcls.at ?_ | wp_step)
  · refine ⟨_, #[], _, (Heap.get?_update_ne _ _ _ _ hxs.symm).trans (Heap.get?_push_at rfl rfl), rfl, ?_, fun _ => rfl⟩
    intro e he
    exact absurd he (by simp)
  · intro h' tk' named same
    have here : (hp.push { cls := .type "dict", data := .dict #[] }).get? x = _ := Heap.get?_push_of_some _ hx
    refine hq h' tk' hp.objs.size ?_ (Nat.le_refl _) hxs.symm ?_ named
    · intro b o hb ho
      refine (same.2 b (Nat.ne_of_lt (Heap.lt_size ho))).trans ?_
      rw [Heap.get?_update_ne _ _ _ _ hb]
      exact Heap.get?_push_of_some _ ho
    · exact (same.2 x hxs).trans (Heap.get?_update_self _ here rfl)
open Builtin Builtin.ObjectAttr in
/-- .. of one that has its dict -/
theorem xsa_old {prog : Program} {w : World} {A : Around} {R : Result → Shared → Prop} {hp : Heap} {g : Array GenState} {d : Drawn} {t : Nat} {os : OsState} {K : PySem.W.Frag} {name : Str} {tk : Tok} {v : Value} {x : Addr} {fv : Array Value} {m0 : Str → Option Value} {nl : List Str}
    (T : ExT K C B newId initId bmB) (kin : K.In hp) (hx : hp.get? x = some { cls := .ref C, dict := some dx, data := .fields fv }) (named : hp.Ns1 dx m0) (wi : Within m0 nl) (hz : nl.length ≤ 1000) (ht : PySem.W.takerIn K C name = some none)
    (hq : ∀ h' tk', (∀ b o, b ≠ dx → hp.get? b = some o → h'.get? b = some o) → h'.Ns1 dx (fun y => if y = name then some v else m0 y) → R (.ok (.ret .none)) ⟨h', g, d, tk', os⟩) :
    codeAny (model prog w) A (.call (.builtin "object.__setattr__") ⟨[.ref x, .str name tk, v], []⟩) R ⟨hp, g, d, t, os⟩ := by
  obtain ⟨oD, _, _, hoD, _, _⟩ := named.count wi
  have I : PySem.W.InstAt hp x { cls := .ref C, dict := some dx, data := .fields fv } C (some oD) := ⟨hx, rfl, rfl, hoD⟩
  refine PySem.W.osa_openX T.store kin I T.over ht fun b => ?_
  obtain ⟨cd, hcd, hh⟩ := PySem.W.any_some T.hasD
  have hcls : PySem.W.Looks (model prog w) hp (classData C) cd := PySem.W.looks_clsIn kin hcd
  obtain ⟨nm, bs, mro, ns, qn, hd, sn, sb, ab, col, del⟩ := cd
  dsimp only at hh
  subst hh
  unfold storeInOwnDict ownDictForStores
  repeat (first | with_reducible refine PySem.OEX.store_in_old named wi hz ?_ | with_reducible refine wpAny_loadPart_at hx ?_ | with_reducible refine hcls.at ?_ | wp_step)
  intro h' tk' n' same
  exact hq h' tk' (fun b o hb ho => (same.2 b hb).trans ho) n'
/-- self.f = y, the first field -/
theorem xset_new {A : Around} {Q : Unit → Shared → Prop} {E : Value → Shared → Prop} (T : ExT X.K C B newId initId bmB) (I : Inv X pins σ H s) (e : H a = some (exo a C none)) (ht : PySem.W.takerIn X.K C f = some none) (ry : RelV y u)
    (h : ∀ dx s', H dx = none → dx ≠ a → Inv X pins σ (upd (upd H dx (exd dx [(f, y)])) a (exo a C (some dx))) s' → Q () s') : wpAny (model X.prog X.w) A (setAttr (.ref a) f u) Q E s := by
  obtain ⟨t1, ho⟩ := exo_at I.hok e
  obtain ⟨hp, g, d, t, os⟩ := s
  refine PySem.W.set_plain I.kIn (ox := { cls := .ref C, dict := none, data := .fields #[.ref t1, .none, .none, .none, .bool false, .none] }) (od := none) ⟨ho, rfl, rfl, trivial⟩ T.sa ?_
  refine xsa_new T I.kIn ho ht fun h' tk' dx k dn dne hx hn => ?_
  have nod : H dx = none := I.hok.fresh dn
  have nd : ∀ {b : Addr} {o : Obj}, hp.get? b = some o → b ≠ dx := fun q => Nat.ne_of_lt (Nat.lt_of_lt_of_le (Heap.lt_size q) dn)
  have na : ∀ {b : Addr}, H b = none → b ≠ a := fun n z => by
    rw [z, e] at n
    cases n
  have U : Un X.fs [] H (upd (upd H dx (exd dx [(f, y)])) a (exo a C (some dx))) hp h' := by
    constructor
    · exact fun b o q n _ _ => k b o (na n) q
    · exact fun b o q n _ _ => ⟨o.slots, k b o (na n) q⟩
    · intro b o q n _
      rw [upd_ne (na n), upd_ne (nd q)]
      exact n
    · intro b o q _
      by_cases hb : b = a
      · exact ⟨_, by rw [hb]; exact hx⟩
      · exact ⟨o, k b o hb q⟩
    · intro b xs q
      rw [upd_ne (at_ne e q exo_tup), upd_ne (ne_of_none q nod)]
      exact q
    · intro b o v q
      rw [upd_ne (at_ne e q exo_frz), upd_ne (ne_of_none q nod)]
      exact q
    · intro b ps q
      refine ⟨#[], ?_⟩
      rw [upd_ne (at_ne e q exo_tbl), upd_ne (ne_of_none q nod), q]
      simp
  refine h dx _ nod dne (I.un (t' := tk') U fun b o q => ?_)
  by_cases hb : b = a
  · subst hb
    rw [upd_same] at q
    cases q
    exact exo_ok hx
  · rw [upd_ne hb] at q
    by_cases hd : b = dx
    · subst hd
      rw [upd_same] at q
      cases q
      exact exd_ok hn (relO_put (fs := []) ry fun g => True.intro)
    · rw [upd_ne hd] at q
      refine (I.hok b o q).stay (fun c v hc z => k c v ?_ z) (fun c hc => ?_) (fun c xs hc => ?_)
      · rcases hc with hc | hc
        · rw [hc]
          exact hb
        · exact at_ne e hc exo_own
      · rw [upd_ne (at_ne e hc exo_own), upd_ne (ne_of_none hc nod)]
        exact hc
      · rw [upd_ne (at_ne e hc exo_tup), upd_ne (ne_of_none hc nod)]
        exact hc
/-- self.f = y, a further field -/
theorem xset_old {A : Around} {Q : Unit → Shared → Prop} {E : Value → Shared → Prop} (T : ExT X.K C B newId initId bmB) (I : Inv X pins σ H s) (e : H a = some (exo a C (some dx))) (ed : H dx = some (exd dx fs)) (hl : fs.length ≤ 900) (ht : PySem.W.takerIn X.K C f = some none) (ry : RelV y u)
    (h : ∀ s', Inv X pins σ (upd H dx (exd dx ((f, y) :: fs))) s' → Q () s') : wpAny (model X.prog X.w) A (setAttr (.ref a) f u) Q E s := by
  obtain ⟨t1, ho⟩ := exo_at I.hok e
  obtain ⟨mA, hns, rel⟩ := exd_at I.hok ed
  have wi := within_of rel
  obtain ⟨hp, g, d, t, os⟩ := s
  obtain ⟨oD, _, _, hoD, _, _⟩ := hns.count wi
  refine PySem.W.set_plain I.kIn (ox := { cls := .ref C, dict := some dx, data := .fields #[.ref t1, .none, .none, .none, .bool false, .none] }) (od := some oD) ⟨ho, rfl, rfl, hoD⟩ T.sa ?_
  refine xsa_old T I.kIn ho hns wi (by rw [List.length_map]; omega) ht fun h' tk' k hn => ?_
  have there : ∃ o, h'.get? dx = some o := by
    obtain ⟨o, _, _, e', _⟩ := hn
    exact ⟨o, e'⟩
  have ok : ObjOk X.prog X.w (upd H dx (exd dx ((f, y) :: fs))) h' dx (exd dx ((f, y) :: fs)) := exd_ok hn (relO_put ry rel)
  exact h _ (I.write (t' := tk') (x := dx) (e := dx) (by rw [ed]; exact True.intro) (.inl rfl) k there ok)
end
/-! ### rules -/
/-- self.f = e of an exception that is being made -/
def tXst (K : PySem.W.Frag) (f : Str) (to te : TE) : TS := fun D σ H => te σ H fun y H1 => to σ H1 fun x H2 => ∃ (a C : Addr) (B newId initId : String) (bmB : List Value), x = .ref a ∧ ExT K C B newId initId bmB ∧ PySem.W.takerIn K C f = some none ∧
  ((H2 a = some (exo a C none) ∧ ∀ dx, H2 dx = none → dx ≠ a → D.nx σ (upd (upd H2 dx (exd dx [(f, y)])) a (exo a C (some dx)))) ∨
    ∃ (dx : Addr) (fs : List (Str × V)), H2 a = some (exo a C (some dx)) ∧ H2 dx = some (exd dx fs) ∧ fs.length ≤ 900 ∧ D.nx σ (upd H2 dx (exd dx ((f, y) :: fs))))
/-- an exception of the class at C stands at a: made by its own __init__, or of a text -/
def IsX (H : Hp) (a C : Addr) : Prop := (∃ dx fs, H a = some (exo a C (some dx)) ∧ H dx = some (exd dx fs)) ∨ H a = some (ExO (.ref C) a)
theorem IsX.same {H H' : Hp} {a C : Addr} (h : IsX H a C) (k : Same H H') : IsX H' a C := by
  rcases h with ⟨dx, fs, h1, h2⟩ | h
  · exact .inl ⟨dx, fs, k _ _ h1, k _ _ h2⟩
  · exact .inr (k _ _ h)
section
variable {X : Cx} {o e : Expr} {es : List Expr} {to te : TE} {ta : TA} {f : Str} {p p' pos : Pos}
theorem ps_xst (ho : PE X o to) (he : PE X e te) (hs : swapsWith e (some (.Attribute o f p')) pos.line X.env = pure false := by rfl) : PS X (.Assign [.Attribute o f p'] e pos) (tXst X.K f to te) := by
  constructor
  intro pins s σ H D I h
  refine plainObj_wpAny_Assign_Attribute (thn (he.run pins s σ H _ I h) fun v s1 z => ?_) hs
  obtain ⟨y, H1, I1, r1, q1⟩ := z
  refine thn (ho.run pins s1 σ H1 _ I1 q1) fun u s2 z => ?_
  obtain ⟨x, H2, I2, r2, a, C, B, nI, iI, bm, ex, T, ht, q⟩ := z
  subst ex
  have eu : u = Value.ref a := r2
  subst eu
  rcases q with ⟨ea, q⟩ | ⟨dx, fs, ea, ed, hl, q⟩
  · exact xset_new T I2 ea ht r1 fun dx s' n ne J => ⟨σ, _, J, q dx n ne⟩
  · exact xset_old T I2 ea ed hl ht r1 fun s' J => ⟨σ, _, J, q⟩
theorem pe_xmk {CX : CXT} {x : Str} {C fI : Addr} {k : Nat} {fd : FuncData} {ps : List Str} {sp : Sp} {B newId initId : String} {bmB : List Value} (T : ExT X.K C B newId initId bmB) (iC : PySem.W.findIn X.K (.ref C) "__init__" = some (some (.ref fI)))
    (tI : PySem.W.typeIn X.K (.ref fI) = some (.type "function")) (F1 : FnOk X.prog X.w X.K X.mg X.base CX k fI fd ps sp) (hr : Room (k + 1) X.A) (hb : Binds X.K fd ps []) (hx : Passes CX X (fun _ _ _ => False)) (hg : Gl X x) (hm : X.mg x = some (.ref C))
    (ha : PA X (e :: es) ta) {R : List V → Hp → VK → Prop}
    (imp : ∀ vs H1 (Q : VK), R vs H1 Q → vs.length ≤ 1000 ∧ ∀ a, H1 a = none → sp (.ref a :: vs) (upd H1 a (exo a C none)) (fun v H2 => v = .non ∧ Q (.ref a) H2) (fun _ _ _ => False))
    (hdb : (x == ("__debug__" : Str)) = false := by decide) (he : starEach (e :: es) X.env = (false, eval e X.env) :: starEach es X.env := by rfl) (hpl : (backTo pos (starEach es X.env)).any (·.1) = false := by rfl) :
    PE X (.Call (.Name x p) (e :: es) [] pos) (fun σ H Q => ta σ H fun vs H1 => R vs H1 Q) := by
  constructor
  intro pins s σ H Q I h
  refine wpAny_Call_Name_kw (ld_glob I hg hm ?_ hdb)
  refine PySem.W.callWith_K (h₀ := X.base) I.ok.mod.kin T.kp (thn (ha.run pos pins s σ H _ I h) fun us s1 z => ?_) he hpl
  obtain ⟨vs, H1, I1, r1, rr⟩ := z
  obtain ⟨hz, q1⟩ := imp vs H1 Q rr
  refine ⟨I1.kIn, ?_⟩
  obtain ⟨nm, N', qn, bs, bm, hdct, sn, sub, ab, col, dd, k0, k1, k2, k3, k5, hC, hT⟩ := PySem.W.excInit_of I1.kIn T.isI
  obtain ⟨hp, g, dr, tk, os⟩ := s1
  have hsz : hp.objs.size ≤ hp.objs.size + 1 := Nat.le_succ _
  have hq := q1 (hp.objs.size + 1) (I1.hok.fresh hsz)
  have kk : ∀ b o, hp.get? b = some o → ((hp.push (PySem.W.kdv_tup us)).push (PySem.HandSPX.excO C hp.objs.size)).get? b = some o := fun b o e => Heap.get?_push_of_some _ (Heap.get?_push_of_some _ e)
  have hget : ((hp.push (PySem.W.kdv_tup us)).push (PySem.HandSPX.excO C hp.objs.size)).get? (hp.objs.size + 1) = some (PySem.HandSPX.excO C hp.objs.size) := by heap_get
  have I2 : Inv X pins σ (upd H1 (hp.objs.size + 1) (exo (hp.objs.size + 1) C none)) ⟨(hp.push (PySem.W.kdv_tup us)).push (PySem.HandSPX.excO C hp.objs.size), g, dr, tk, os⟩ := I1.laid (t' := tk) kk hsz (exo_ok hget)
  have r2 : Vals (V.ref (hp.objs.size + 1) :: vs) (Value.ref (hp.objs.size + 1) :: us) := .cons rfl r1
  have many : (Value.ref (hp.objs.size + 1) :: us ++ []).length = ps.length := by
    rw [List.append_nil, ← r2.length]
    exact F1.len _ _ _ _ hq
  have hus : us.length ≤ sizeLine := by
    rw [← Paired.length r1, sizeLine_eq]
    omega
  have bnd := hb _ (Value.ref (hp.objs.size + 1) :: us) I2.kIn many
  rw [List.append_nil] at bnd
  have go := F1.run _ X.stack _ _ ⟨Value.ref (hp.objs.size + 1) :: us, []⟩ (Value.ref (hp.objs.size + 1) :: us) _ _ (fun _ _ _ => False) (hr.make C us []) (I2.env0.make C us []) bnd r2 hq
  refine wpAny_call (PySem.HandSPX.call_own T.base hT hC (PySem.W.looks_findIn I1.kIn iC) (fun self => PySem.W.bind_fn I1.kIn self tI) hus (codeAny_mono go fun res s' hq' => ?_))
  match res, hq' with
  | .error er, hq' => exact hx pins σ _ _ er s' I2 hq'
  | .ok .next, hq' => exact hq'.elim
  | .ok .brk, hq' => exact hq'.elim
  | .ok .cont, hq' => exact hq'.elim
  | .ok (.ret u), hq' =>
    obtain ⟨v, H', I3, rv, ev, q3⟩ := I2.after hq'
    subst ev
    exact ⟨rv, V.ref (hp.objs.size + 1), H', I3, rfl, q3⟩
/-- isinstance(x, c) of an own exception -/
theorem call_isX : CallR X (.builtin "isinstance") (fun xs H Q => ∃ (a C : Addr) (c : V) (cv : Value) (b : Bool) (B newId initId : String) (bmB : List Value), xs = [.ref a, c] ∧ ClsV c cv ∧ IsX H a C ∧ ExT X.K C B newId initId bmB ∧ PySem.W.kitOne X.K (.ref C) cv = some b ∧ Q (.bl b) H) := by
  intro pins s σ H xs us Q I r h
  obtain ⟨a, C, c, cv, b, B, nI, iI, bm, rfl, kc, hX, T, hk, q⟩ := h
  obtain ⟨u1, u2, rfl, r1, r2⟩ := vals2 r
  cases (show u1 = Value.ref a from r1)
  have e2 := kc.eq r2
  subst e2
  have hcl : (PySem.W.clsIn X.K C).isSome = true := by
    obtain ⟨cd, hcd, _⟩ := PySem.W.any_some T.hasD
    rw [hcd]
    rfl
  rcases hX with ⟨dx, fs, h1, h2⟩ | h1
  · obtain ⟨t1, ho⟩ := exo_at I.hok h1
    obtain ⟨mA, hns, hr⟩ := exd_at I.hok h2
    obtain ⟨od, hod, hl⟩ := lookIn_ns hns
    have J : PySem.W.InstAt s.heap a { cls := .ref C, dict := some dx, data := .fields #[.ref t1, .none, .none, .none, .bool false, .none] } C (some od) := ⟨ho, rfl, rfl, hod⟩
    exact PySem.W.kia_one (PySem.W.kitx_exc hcl T.ga T.gg T.isB T.cl T.cg T.ct T.cm) I.kIn J hk (fun z => nomatch z) fun tk => ⟨.bl b, H, I.tok tk, rfl, q⟩
  · obtain ⟨⟨oe, vs, he, hz, hd, _⟩, _, _⟩ := (show ObjOk X.prog X.w H s.heap a (ExO (.ref C) a) from I.hok a _ h1)
    obtain ⟨oc, od, oda, osl⟩ := oe
    obtain ⟨z1, z2⟩ := hz
    dsimp only at z1 z2 hd
    subst z1 z2 hd
    have J : PySem.W.InstAt s.heap a ⟨.ref C, none, .fields vs, osl⟩ C none := ⟨he, rfl, rfl, trivial⟩
    exact PySem.W.kia_one (PySem.W.kitx_exc hcl T.ga T.gg T.isB T.cl T.cg T.ct T.cm) I.kIn J hk (fun z => nomatch z) fun tk => ⟨.bl b, H, I.tok tk, rfl, q⟩
end
end Cw
namespace Cw
open PySem PySem.Spec PyProof.Rows L2
/-! ### things -/
/-- data that is short to show -/
structure Fine (d : PyData) : Prop where
  sh : d.showable = true
  lv : d.leavesShort 700 = true
  bk : d.bulk ≤ 20
  dp : d.depth ≤ 3
/-- the heap without the pot -/
def Off (p : Addr) (H : Hp) : Hp := fun b => if b = p then none else H b
theorem Off.at {p b : Addr} {H : Hp} {o : HO} (n : b ≠ p) (e : H b = some o) : Off p H b = some o := by
  unfold Off
  rw [if_neg n]
  exact e
theorem Off.same {p : Addr} {H : Hp} : Same (Off p H) H := fun b o e => by
  unfold Off at e
  by_cases h : b = p
  · rw [if_pos h] at e
    cases e
  · rw [if_neg h] at e
    exact e
theorem Off.but {p : Addr} {H H' : Hp} (k : But p H H') : Same (Off p H) (Off p H') := fun b o e => by
  unfold Off at e
  by_cases h : b = p
  · rw [if_pos h] at e
    cases e
  · rw [if_neg h] at e
    exact Off.at h (k b o h e)
/-- something that was drawn of the pot at p -/
def Thing (p : Addr) (H : Hp) (v : V) (d : PyData) : Prop := Dx (Off p H) v d ∧ Fine d
theorem Thing.but {p : Addr} {H H' : Hp} {v : V} {d : PyData} (h : Thing p H v d) (k : But p H H') : Thing p H' v d := ⟨Dx.same (Off.but k) _ _ h.1, h.2⟩
theorem Thing.dx {p : Addr} {H : Hp} {v : V} {d : PyData} (h : Thing p H v d) : Dx H v d := Dx.same Off.same _ _ h.1
theorem fine_int {i : Int} (h0 : 0 ≤ i) (h : i < 10 ^ 60) : Fine (.int i) := by
  have h1 : i.natAbs < 10 ^ 60 := by omega
  have l := int_text_length_le10 (k := 60) (by decide) h1
  have h2 : i.natAbs < 2 ^ 200 := by omega
  refine ⟨?_, ?_, by show 0 ≤ 20; decide, by show 0 ≤ 3; decide⟩
  · show decide (i.natAbs.log2 < 1920) = true
    exact decide_eq_true (Nat.lt_of_lt_of_le (PySem.Flt.log2_lt_of (by decide) h2) (by decide))
  · show decide ((PyData.shown (.int i)).length ≤ 700) = true
    refine decide_eq_true ?_
    show (Str.ofString (toString i)).length ≤ 700
    rw [PySem.ofString_length]
    omega
theorem fine_str {z : Str} (h : Small 8 z) : Fine (.str z) := by
  refine ⟨rfl, ?_, ?_, by show 0 ≤ 3; decide⟩
  · show (z.cps.toList.all fun c => decide (c < 16 ^ 8)) = true
    rw [List.all_eq_true]
    intro c hc
    have := h.2 c hc
    exact decide_eq_true (by omega)
  · show z.cps.size ≤ 20
    have : z.length = z.cps.size := rfl
    have := h.1
    omega
theorem fine_ground {d : PyData} (h : (d.showable && (d.leavesShort 700 && (decide (d.bulk ≤ 20) && decide (d.depth ≤ 3)))) = true) : Fine d := by
  simp only [Bool.and_eq_true, decide_eq_true_eq] at h
  exact ⟨h.1, h.2.1, h.2.2.1, h.2.2.2⟩
section
variable {P : Program} {w : World} {K : PySem.W.Frag} {mg : Str → Option Value} {base : Heap}
def spThing : Sp := fun vs H Q _ => ∃ (p : Addr), vs = [.ref p] ∧ Pot H p ∧ ∀ (v : V) (d : PyData) (H' : Hp), Thing p H' v d → Drew p H H' → Q v H'
theorem ok_thing {f fT fA fW : Addr} {fd fdT fdA fdW : FuncData} (F : FnP K "_law_thing" "_law_thing" S_thing f fd) (FT : FnP K "_law_take" "_law_take" S_take fT fdT) (bT : BT K fdT)
    (GT : FnOk P w K mg base CX0 1 fT fdT ["_law_pot_here", "_law_many"] spTake) (gT : mg "_law_take" = some (.ref fT))
    (FA : FnP K "_law_among" "_law_among" S_among fA fdA) (bA : Binds K fdA ["_law_pot_here", "_law_some"] []) (GA : FnOk P w K mg base CX0 2 fA fdA ["_law_pot_here", "_law_some"] spAmong) (gA : mg "_law_among" = some (.ref fA))
    (FW : FnP K "_law_word" "_law_word" S_word fW fdW) (bW : Binds K fdW ["_law_pot_here"] []) (GW : FnOk P w K mg base CX0 2 fW fdW ["_law_pot_here"] spWord) (gW : mg "_law_word" = some (.ref fW)) :
    FnOk P w K mg base CX0 3 f fd ["_law_pot_here"] spThing := by
  refine F.ok sc_thing (fun vs H Q E h => ?_) (fun cdv A outer s H vs Q E hr h => ⟨_, PSs.nox (pss_cons (ps_set (i := 1) sc_thing.nd rfl (.inl rfl) (pe_lst
      (pa_cons pe_non (pa_cons pe_bl (pa_cons pe_bl (pa_cons pe_int (pa_cons (pe_call GT (hr.mono (by decide)) rfl gT FT.kp bT .nil pass0 (pa_cons (pv 0) (pa_cons (pe_op op_pow pe_int pe_int) pa_nil)))
      (pa_cons pe_str (pa_cons (pe_call GW hr rfl gW FW.kp bW .nil pass0 (pa_cons (pv 0) pa_nil)) (pa_cons (pe_tup pa_nil) (pa_cons (pe_tup (pa_cons pe_str (pa_cons pe_int pa_nil)))
      (pa_cons (pe_lst pa_nil) (pa_cons (pe_lst (pa_cons pe_str pa_nil)) (pa_cons pe_dnewK pa_nil))))))))))))))
    (pss_one (ps_ret (pe_call GA hr rfl gA FA.kp bA .nil pass0 (pa_cons (pv 0) (pa_cons (pv 1) pa_nil)))))), ?_⟩)
  · obtain ⟨p, rfl, _⟩ := h
    rfl
  · obtain ⟨p, rfl, hP, q⟩ := h
    refine ⟨_, rfl, _, _, rfl, rfl, ⟨by decide, by decide, by decide⟩, p, 10 ^ 60, rfl, hP, by decide, by decide +kernel, fun n H1 n0 n1 dr1 => ?_⟩
    refine ⟨_, rfl, p, rfl, dr1.2, fun z H2 hz dr2 => ?_⟩
    have P2 := dr2.2
    refine ⟨by show 0 ≤ sizeLine; omega, fun t0 n0' => ⟨by show 2 ≤ sizeLine; decide, fun t1 n1' => ⟨by show 0 ≤ sizeLine; omega, fun l0 n2' => ⟨by show 1 ≤ sizeLine; decide, fun l1 n3' => fun d0 n4' => ⟨by show 12 ≤ sizeLine; decide, fun L n5' => ?_⟩⟩⟩⟩⟩
    have P3 := P2.same (same_new (o := .tup []) n0')
    have P4 := P3.same (same_new (o := .tup [.str "a", .int 1]) n1')
    have P5 := P4.same (same_new (o := .lst []) n2')
    have P6 := P5.same (same_new (o := .lst [.str "a"]) n3')
    have P7 := P6.same (same_new (o := .dK []) n4')
    have s8 := same_new (o := .lst [.non, .bl true, .bl false, .int 0, .int n, .str (Str.ofString ""), .str z, .ref t0, .ref t1, .ref l0, .ref l1, .ref d0]) n5'
    have s7 := (same_new (o := .dK []) n4').trans s8
    have s6 := (same_new (o := .lst [.str "a"]) n3').trans s7
    have s5 := (same_new (o := .lst []) n2').trans s6
    have s4 := (same_new (o := .tup [.str "a", .int 1]) n1').trans s5
    have s3 := (same_new (o := .tup []) n0').trans s4
    have P8 := P7.same s8
    refine ⟨_, rfl, _, rfl, p, L, _, rfl, P8, (P7.ne n5').symm, upd_same, by show 0 < 12; decide, by show 12 ≤ 1000; decide, fun v H' hv dr => ?_⟩
    have fin : Drew p H H' := (dr1.trans dr2).trans ⟨(Same.but s3).trans dr.1, dr.2⟩
    have at0 : Off p H' t0 = some (.tup []) := Off.at (P2.ne n0').symm <| dr.1 _ _ (P2.ne n0').symm (s4 _ _ upd_same)
    have at1 : Off p H' t1 = some (.tup [.str "a", .int 1]) := Off.at (P3.ne n1').symm <| dr.1 _ _ (P3.ne n1').symm (s5 _ _ upd_same)
    have at2 : Off p H' l0 = some (.lst []) := Off.at (P4.ne n2').symm <| dr.1 _ _ (P4.ne n2').symm (s6 _ _ upd_same)
    have at3 : Off p H' l1 = some (.lst [.str "a"]) := Off.at (P5.ne n3').symm <| dr.1 _ _ (P5.ne n3').symm (s7 _ _ upd_same)
    have at4 : Off p H' d0 = some (.dK []) := Off.at (P6.ne n4').symm <| dr.1 _ _ (P6.ne n4').symm (s8 _ _ upd_same)
    have fine0 : ∀ d : PyData, (d.showable && (d.leavesShort 700 && (decide (d.bulk ≤ 20) && decide (d.depth ≤ 3)))) = true → Fine d := fun d h => fine_ground h
    simp only [List.mem_cons, List.not_mem_nil, or_false] at hv
    rcases hv with rfl | rfl | rfl | rfl | rfl | rfl | rfl | rfl | rfl | rfl | rfl | rfl
    · exact q _ _ _ ⟨.non, fine0 _ (by decide +kernel)⟩ fin
    · exact q _ _ _ ⟨.bl _, fine0 _ (by decide +kernel)⟩ fin
    · exact q _ _ _ ⟨.bl _, fine0 _ (by decide +kernel)⟩ fin
    · exact q _ _ _ ⟨.int _, fine_int (by decide) (by decide)⟩ fin
    · exact q _ _ _ ⟨.int _, fine_int n0 n1⟩ fin
    · exact q _ _ _ ⟨.str _, fine0 _ (by decide +kernel)⟩ fin
    · exact q _ _ _ ⟨.str _, fine_str hz⟩ fin
    · exact q _ _ _ ⟨.tup at0 .nil, fine0 _ (by decide +kernel)⟩ fin
    · exact q _ _ _ ⟨.tup at1 (.cons (.str _) (.cons (.int _) .nil)), fine0 _ (by decide +kernel)⟩ fin
    · exact q _ _ _ ⟨.lst at2 .nil, fine0 _ (by decide +kernel)⟩ fin
    · exact q _ _ _ ⟨.lst at3 (.cons (.str _) .nil), fine0 _ (by decide +kernel)⟩ fin
    · exact q _ _ _ ⟨.emp at4, fine0 _ (by decide +kernel)⟩ fin
end
end Cw
namespace Cw
open PySem PySem.Spec PyProof.Rows L2
/-- the twenty classes by their numbers -/
structure Names (mg : Str → Option Value) (c : Nat → Addr) : Prop where
  n0 : mg "NoWeb" = some (.ref (c 0))
  n1 : mg "NoText" = some (.ref (c 1))
  n2 : mg "NoWalk" = some (.ref (c 2))
  n3 : mg "NoPaper" = some (.ref (c 3))
  n4 : mg "NoCount" = some (.ref (c 4))
  n5 : mg "NoPlace" = some (.ref (c 5))
  n6 : mg "NoState" = some (.ref (c 6))
  n7 : mg "NoLength" = some (.ref (c 7))
  n8 : mg "NoName" = some (.ref (c 8))
  n9 : mg "NoCries" = some (.ref (c 9))
  n10 : mg "NoBack" = some (.ref (c 10))
  n11 : mg "NoRow" = some (.ref (c 11))
  n12 : mg "NoSuch" = some (.ref (c 12))
  n13 : mg "Taken" = some (.ref (c 13))
  n14 : mg "Same" = some (.ref (c 14))
  n15 : mg "Crying" = some (.ref (c 15))
  n16 : mg "Alone" = some (.ref (c 16))
  n17 : mg "Endless" = some (.ref (c 17))
  n18 : mg "Crowded" = some (.ref (c 18))
  n19 : mg "TooMany" = some (.ref (c 19))
  n20 : mg "WebError" = some (.ref (c 20))
  isi : mg "isinstance" = none
  enu : mg "enumerate" = none
  bV : mg "ValueError" = none
  bL : mg "LookupError" = none
  bR : mg "RuntimeError" = none
  bA : mg "ArithmeticError" = none
/-- the class at C is an own exception's -/
def Own (K : PySem.W.Frag) (C : Addr) : Prop := ∃ (B newId initId : String) (bmB : List Value), ExT K C B newId initId bmB
/-- the numbers of the places that are True -/
def nums : Nat → List Bool → List Int
  | _, [] => []
  | i, true :: r => (i : Int) :: nums (i + 1) r
  | i, false :: r => nums (i + 1) r
theorem nums_snoc : ∀ (bs : List Bool) (i : Nat) (b : Bool), nums i (bs ++ [b]) = nums i bs ++ if b = true then [((i + bs.length : Nat) : Int)] else []
  | [], i, b => by cases b <;> rfl
  | true :: r, i, b => by
    show (i : Int) :: nums (i + 1) (r ++ [b]) = _
    rw [nums_snoc r (i + 1) b]
    have e : i + 1 + r.length = i + (true :: r).length := by rw [List.length_cons]; omega
    rw [e]
    rfl
  | false :: r, i, b => by
    show nums (i + 1) (r ++ [b]) = _
    rw [nums_snoc r (i + 1) b]
    have e : i + 1 + r.length = i + (false :: r).length := by rw [List.length_cons]; omega
    rw [e]
    rfl
theorem nums_len : ∀ (bs : List Bool) (i : Nat), (nums i bs).length ≤ bs.length
  | [], _ => Nat.le_refl _
  | true :: r, i => Nat.succ_le_succ (nums_len r (i + 1))
  | false :: r, i => Nat.le_succ_of_le (nums_len r (i + 1))
theorem pe_ty {X : Cx} {x : Str} {T : String} {pos : Pos} (hg : Gl X x) (hm : X.mg x = none) (hv : bootBuiltins x = some (.type T)) (hn : x ≠ "__name__" := by decide) (hd : (x == ("__debug__" : Str)) = false := by decide) : PE X (.Name x pos) (tC (.ty T)) := pe_bltn hg hm hv rfl hn hd
theorem pe_cls {X : Cx} {x : Str} {C : Addr} {pos : Pos} (hg : Gl X x) (hm : X.mg x = some (.ref C)) (hd : (x == ("__debug__" : Str)) = false := by decide) : PE X (.Name x pos) (tC (.ref C)) := pe_glob hg hm rfl hd
theorem fresh2 {H : Hp} {p : Addr} {o : HO} (n : H p = none) : Same H (upd H p o) ∧ (upd H p o) p = some o := ⟨same_new n, upd_same⟩
/-- [n for n, t in enumerate(l) if t] -/
theorem enum_end {K : PySem.W.Frag} {x0 x1 x2 x3 : Option V} {H1 : Hp} {l : Addr} {bs : List Bool} {Q : VK} (hl : H1 l = some (.lst (bs.map V.bl))) (hn : bs.length ≤ 1000)
    (q : ∀ D H', Same H1 H' → H1 D = none → H' D = some (.lst ((nums 0 bs).map V.int)) → Q (.ref D) H') :
    tLc (fun _ H R => R (Ite K l) H) (gTup K 2 (gCons (gName 2) (gCons (gName 3) gNil))) (tB (tVar 3)) (tVar 2) [2, 3] [x0, x1, x2, x3] H1 Q := by
  intro D nD
  have nlD : l ≠ D := ne_of_none hl nD
  refine lc_it (walk_enum (K := K) (a := l) (xs := bs.map V.bl)) (fun i H2 => Same H1 (fun b => if b = D then none else H2 b) ∧ H2 D = some (.lst ((nums 0 (bs.take i)).map V.int))) ⟨fun b o e => ?_, upd_same⟩ ?_ ?_ ?_
  · have n : b ≠ D := ne_of_none e nD
    show (if b = D then none else (upd H1 D (.lst [])) b) = some o
    rw [if_neg n, upd_ne n]
    exact e
  · rintro i H2 _ ⟨sm, _⟩
    have e := sm _ _ hl
    dsimp only at e
    rw [if_neg nlD] at e
    exact SqL.of e
  · rintro i x H2 H3 hi ⟨sm, hD⟩ ⟨T, y, z, rfl, nT, rfl, ey, ez⟩
    rw [List.length_map] at hi
    have e1 : y = .int (i : Nat) := (Option.some.inj ey).symm
    have e2 : z = .bl bs[i] := by
      dsimp only at ez
      rw [List.getElem?_map, List.getElem?_eq_getElem hi] at ez
      exact (Option.some.inj ez).symm
    subst e1 e2
    have nDT : D ≠ T := ne_of_none hD nT
    have hD' : (upd H2 T (.tup [.int (i : Nat), .bl bs[i]])) D = some (.lst ((nums 0 (bs.take i)).map V.int)) := by
      rw [upd_ne nDT]
      exact hD
    have sm' : Same H1 (fun b => if b = D then none else (upd H2 T (.tup [.int (i : Nat), .bl bs[i]])) b) := fun b o e => by
      have z := sm b o e
      dsimp only at z ⊢
      by_cases hb : b = D
      · rw [if_pos hb] at z
        cases z
      · rw [if_neg hb] at z ⊢
        rw [upd_ne (ne_of_none z nT)]
        exact z
    have tk : bs.take (i + 1) = bs.take i ++ [bs[i]] := by rw [List.take_add_one, List.getElem?_eq_getElem hi]; rfl
    have ln : (bs.take i).length = i := by rw [List.length_take]; omega
    refine ⟨T, _, rfl, SqT.of upd_same, rfl, _, _, rfl, _, _, rfl, rfl, rfl, _, rfl, bs[i], rfl, ite2 (fun h => ?_) (fun h => ?_)⟩
    · refine ⟨_, rfl, _, hD', ?_, fun b o e => ?_, ?_⟩
      · rw [List.length_map]
        have := nums_len (bs.take i) 0
        exact small1000 (by omega)
      · have z := sm' b o e
        dsimp only at z ⊢
        by_cases hb : b = D
        · rw [if_pos hb] at z
          cases z
        · rw [if_neg hb] at z ⊢
          rw [upd_ne hb]
          exact z
      · rw [upd_same, tk, nums_snoc, if_pos h, List.map_append, ln, Nat.zero_add]
        rfl
    · refine ⟨sm', ?_⟩
      rw [hD', tk, nums_snoc, if_neg h, List.append_nil]
  · rintro H2 ⟨sm, hD⟩
    rw [List.length_map, List.take_length] at hD
    refine q D H2 (fun b o e => ?_) nD hD
    have z := sm b o e
    dsimp only at z
    by_cases hb : b = D
    · rw [if_pos hb] at z
      cases z
    · rw [if_neg hb] at z
      exact z
section
variable {P : Program} {w : World} {K : PySem.W.Frag} {mg : Str → Option Value} {base : Heap}
def spWhich (K : PySem.W.Frag) (c : Nat → Addr) : Sp := fun vs H Q _ => ∃ (a C : Addr) (b : Nat → Bool), vs = [.ref a] ∧ IsX H a C ∧ Own K C ∧ (∀ j, j < 20 → PySem.W.kitOne K (.ref C) (.ref (c j)) = some (b j)) ∧
  ∀ (l : Addr) (H' : Hp), Same H H' → H l = none → H' l = some (.lst ((nums 0 ((List.range 20).map b)).map V.int)) → Q (.ref l) H'
theorem ok_which {f : Addr} {fd : FuncData} {c : Nat → Addr} (F : FnP K "_law_which" "_law_which" S_which f fd) (N : Names mg c) : FnOk P w K mg base CX0 1 f fd ["_law_e"] (spWhich K c) := by
  have ci : bootBuiltins "isinstance" = some (.builtin "isinstance") := by decide +kernel
  refine F.ok sc_which (fun vs H Q E h => ?_) (fun cdv A outer s H vs Q E hr h => ⟨_, PSs.nox (pss_cons (ps_set (i := 1) sc_which.nd rfl (.inl rfl) (pe_lst
      (pa_cons (pe_callB call_isX (by rfl) N.isi ci (pa_cons (pv 0) (pa_cons (pe_cls rfl N.n0) pa_nil))) (pa_cons (pe_callB call_isX (by rfl) N.isi ci (pa_cons (pv 0) (pa_cons (pe_cls rfl N.n1) pa_nil)))
      (pa_cons (pe_callB call_isX (by rfl) N.isi ci (pa_cons (pv 0) (pa_cons (pe_cls rfl N.n2) pa_nil))) (pa_cons (pe_callB call_isX (by rfl) N.isi ci (pa_cons (pv 0) (pa_cons (pe_cls rfl N.n3) pa_nil))) pa_nil))))))
    (pss_cons (ps_set (i := 1) sc_which.nd rfl (.inl rfl) (pe_op op_cat (pv 1) (pe_lst
      (pa_cons (pe_callB call_isX (by rfl) N.isi ci (pa_cons (pv 0) (pa_cons (pe_cls rfl N.n4) pa_nil))) (pa_cons (pe_callB call_isX (by rfl) N.isi ci (pa_cons (pv 0) (pa_cons (pe_cls rfl N.n5) pa_nil)))
      (pa_cons (pe_callB call_isX (by rfl) N.isi ci (pa_cons (pv 0) (pa_cons (pe_cls rfl N.n6) pa_nil))) (pa_cons (pe_callB call_isX (by rfl) N.isi ci (pa_cons (pv 0) (pa_cons (pe_cls rfl N.n7) pa_nil))) pa_nil)))))))
    (pss_cons (ps_set (i := 1) sc_which.nd rfl (.inl rfl) (pe_op op_cat (pv 1) (pe_lst
      (pa_cons (pe_callB call_isX (by rfl) N.isi ci (pa_cons (pv 0) (pa_cons (pe_cls rfl N.n8) pa_nil))) (pa_cons (pe_callB call_isX (by rfl) N.isi ci (pa_cons (pv 0) (pa_cons (pe_cls rfl N.n9) pa_nil)))
      (pa_cons (pe_callB call_isX (by rfl) N.isi ci (pa_cons (pv 0) (pa_cons (pe_cls rfl N.n10) pa_nil))) (pa_cons (pe_callB call_isX (by rfl) N.isi ci (pa_cons (pv 0) (pa_cons (pe_cls rfl N.n11) pa_nil))) pa_nil)))))))
    (pss_cons (ps_set (i := 1) sc_which.nd rfl (.inl rfl) (pe_op op_cat (pv 1) (pe_lst
      (pa_cons (pe_callB call_isX (by rfl) N.isi ci (pa_cons (pv 0) (pa_cons (pe_cls rfl N.n12) pa_nil))) (pa_cons (pe_callB call_isX (by rfl) N.isi ci (pa_cons (pv 0) (pa_cons (pe_cls rfl N.n13) pa_nil)))
      (pa_cons (pe_callB call_isX (by rfl) N.isi ci (pa_cons (pv 0) (pa_cons (pe_cls rfl N.n14) pa_nil))) (pa_cons (pe_callB call_isX (by rfl) N.isi ci (pa_cons (pv 0) (pa_cons (pe_cls rfl N.n15) pa_nil))) pa_nil)))))))
    (pss_cons (ps_set (i := 1) sc_which.nd rfl (.inl rfl) (pe_op op_cat (pv 1) (pe_lst
      (pa_cons (pe_callB call_isX (by rfl) N.isi ci (pa_cons (pv 0) (pa_cons (pe_cls rfl N.n16) pa_nil))) (pa_cons (pe_callB call_isX (by rfl) N.isi ci (pa_cons (pv 0) (pa_cons (pe_cls rfl N.n17) pa_nil)))
      (pa_cons (pe_callB call_isX (by rfl) N.isi ci (pa_cons (pv 0) (pa_cons (pe_cls rfl N.n18) pa_nil))) (pa_cons (pe_callB call_isX (by rfl) N.isi ci (pa_cons (pv 0) (pa_cons (pe_cls rfl N.n19) pa_nil))) pa_nil)))))))
    (pss_one (ps_ret (pe_lc (own := [("_law_number", 2), ("_law_truth", 3)]) (g := gTup K 2 (gCons (gName 2) (gCons (gName 3) gNil))) rfl sc_which.nd (pi_enum (by rfl) N.enu (pa_cons (pv 1) pa_nil))
      (blkOk_by (own := [("_law_number", 2), ("_law_truth", 3)]) (N := N_which) (sc := defScope S_which) (by decide +kernel))
      (fun _ _ _ _ _ => pg_tup rfl (pgs_cons (pg_name (i := 2) sc_which.nd rfl (.inl rfl)) (pgs_cons (pg_name (i := 3) sc_which.nd rfl (.inl rfl)) pgs_nil)))
      (fun _ _ _ _ _ => pts_one (pt_val (pv 3))) (fun _ _ _ _ _ => pv 2))))))))), ?_⟩)
  · obtain ⟨a, C, b, rfl, _⟩ := h
    rfl
  · obtain ⟨a, C, b, rfl, hX, ⟨B, nI, iI, bm, T⟩, hk, q⟩ := h
    refine ⟨_, rfl, a, C, _, _, _, B, nI, iI, bm, rfl, ClsV.own _, hX, T, hk 0 (by decide), _, rfl, a, C, _, _, _, B, nI, iI, bm, rfl, ClsV.own _, hX, T, hk 1 (by decide), _, rfl, a, C, _, _, _, B, nI, iI, bm, rfl, ClsV.own _, hX, T, hk 2 (by decide), _, rfl, a, C, _, _, _, B, nI, iI, bm, rfl, ClsV.own _, hX, T, hk 3 (by decide), by show 4 ≤ sizeLine; decide, fun l1 n1 => ?_⟩
    have s1 := same_new (o := .lst [.bl (b 0), .bl (b 1), .bl (b 2), .bl (b 3)]) n1
    have X1 := hX.same s1
    have m1 := upd_same (H := H) (a := l1) (o := .lst [.bl (b 0), .bl (b 1), .bl (b 2), .bl (b 3)])
    refine ⟨_, rfl, _, rfl, a, C, _, _, _, B, nI, iI, bm, rfl, ClsV.own _, X1, T, hk 4 (by decide), _, rfl, a, C, _, _, _, B, nI, iI, bm, rfl, ClsV.own _, X1, T, hk 5 (by decide), _, rfl, a, C, _, _, _, B, nI, iI, bm, rfl, ClsV.own _, X1, T, hk 6 (by decide), _, rfl, a, C, _, _, _, B, nI, iI, bm, rfl, ClsV.own _, X1, T, hk 7 (by decide), by show 4 ≤ sizeLine; decide, fun k0 o0 => ?_⟩
    have t0 := same_new (o := .lst [.bl (b 4), .bl (b 5), .bl (b 6), .bl (b 7)]) o0
    refine ⟨l1, k0, _, _, rfl, rfl, t0 _ _ m1, upd_same, by show 8 ≤ sizeLine; decide, fun l2 n2 => ?_⟩
    obtain ⟨v2, m2⟩ := fresh2 (o := .lst [.bl (b 0), .bl (b 1), .bl (b 2), .bl (b 3), .bl (b 4), .bl (b 5), .bl (b 6), .bl (b 7)]) n2
    have s2 := (s1.trans t0).trans v2
    have X2 := hX.same s2
    refine ⟨_, rfl, _, rfl, a, C, _, _, _, B, nI, iI, bm, rfl, ClsV.own _, X2, T, hk 8 (by decide), _, rfl, a, C, _, _, _, B, nI, iI, bm, rfl, ClsV.own _, X2, T, hk 9 (by decide), _, rfl, a, C, _, _, _, B, nI, iI, bm, rfl, ClsV.own _, X2, T, hk 10 (by decide), _, rfl, a, C, _, _, _, B, nI, iI, bm, rfl, ClsV.own _, X2, T, hk 11 (by decide), by show 4 ≤ sizeLine; decide, fun k1 o1 => ?_⟩
    have t1 := same_new (o := .lst [.bl (b 8), .bl (b 9), .bl (b 10), .bl (b 11)]) o1
    refine ⟨l2, k1, _, _, rfl, rfl, t1 _ _ m2, upd_same, by show 12 ≤ sizeLine; decide, fun l3 n3 => ?_⟩
    obtain ⟨v3, m3⟩ := fresh2 (o := .lst [.bl (b 0), .bl (b 1), .bl (b 2), .bl (b 3), .bl (b 4), .bl (b 5), .bl (b 6), .bl (b 7), .bl (b 8), .bl (b 9), .bl (b 10), .bl (b 11)]) n3
    have s3 := (s2.trans t1).trans v3
    have X3 := hX.same s3
    refine ⟨_, rfl, _, rfl, a, C, _, _, _, B, nI, iI, bm, rfl, ClsV.own _, X3, T, hk 12 (by decide), _, rfl, a, C, _, _, _, B, nI, iI, bm, rfl, ClsV.own _, X3, T, hk 13 (by decide), _, rfl, a, C, _, _, _, B, nI, iI, bm, rfl, ClsV.own _, X3, T, hk 14 (by decide), _, rfl, a, C, _, _, _, B, nI, iI, bm, rfl, ClsV.own _, X3, T, hk 15 (by decide), by show 4 ≤ sizeLine; decide, fun k2 o2 => ?_⟩
    have t2 := same_new (o := .lst [.bl (b 12), .bl (b 13), .bl (b 14), .bl (b 15)]) o2
    refine ⟨l3, k2, _, _, rfl, rfl, t2 _ _ m3, upd_same, by show 16 ≤ sizeLine; decide, fun l4 n4 => ?_⟩
    obtain ⟨v4, m4⟩ := fresh2 (o := .lst [.bl (b 0), .bl (b 1), .bl (b 2), .bl (b 3), .bl (b 4), .bl (b 5), .bl (b 6), .bl (b 7), .bl (b 8), .bl (b 9), .bl (b 10), .bl (b 11), .bl (b 12), .bl (b 13), .bl (b 14), .bl (b 15)]) n4
    have s4 := (s3.trans t2).trans v4
    have X4 := hX.same s4
    refine ⟨_, rfl, _, rfl, a, C, _, _, _, B, nI, iI, bm, rfl, ClsV.own _, X4, T, hk 16 (by decide), _, rfl, a, C, _, _, _, B, nI, iI, bm, rfl, ClsV.own _, X4, T, hk 17 (by decide), _, rfl, a, C, _, _, _, B, nI, iI, bm, rfl, ClsV.own _, X4, T, hk 18 (by decide), _, rfl, a, C, _, _, _, B, nI, iI, bm, rfl, ClsV.own _, X4, T, hk 19 (by decide), by show 4 ≤ sizeLine; decide, fun k3 o3 => ?_⟩
    have t3 := same_new (o := .lst [.bl (b 16), .bl (b 17), .bl (b 18), .bl (b 19)]) o3
    refine ⟨l4, k3, _, _, rfl, rfl, t3 _ _ m4, upd_same, by show 20 ≤ sizeLine; decide, fun l5 n5 => ?_⟩
    obtain ⟨v5, m5⟩ := fresh2 (o := .lst [.bl (b 0), .bl (b 1), .bl (b 2), .bl (b 3), .bl (b 4), .bl (b 5), .bl (b 6), .bl (b 7), .bl (b 8), .bl (b 9), .bl (b 10), .bl (b 11), .bl (b 12), .bl (b 13), .bl (b 14), .bl (b 15), .bl (b 16), .bl (b 17), .bl (b 18), .bl (b 19)]) n5
    have s5 := (s4.trans t3).trans v5
    have X5 := hX.same s5
    refine ⟨_, rfl, l5, _, rfl, SqL.of m5, ?_⟩
    refine enum_end (bs := (List.range 20).map b) m5 (by show 20 ≤ 1000; decide) fun D H' sm nD hD => q D H' (s5.trans sm) (s5.free nD) hD
def spBases (K : PySem.W.Frag) (c : Nat → Addr) : Sp := fun vs H Q _ => ∃ (a C : Addr) (b0 b1 b2 b3 b4 : Bool), vs = [.ref a] ∧ IsX H a C ∧ Own K C ∧ PySem.W.kitOne K (.ref C) (.ref (c 20)) = some b0 ∧ PySem.W.kitOne K (.ref C) (.type "ValueError") = some b1 ∧
  PySem.W.kitOne K (.ref C) (.type "LookupError") = some b2 ∧ PySem.W.kitOne K (.ref C) (.type "RuntimeError") = some b3 ∧ PySem.W.kitOne K (.ref C) (.type "ArithmeticError") = some b4 ∧
  ∀ (l : Addr) (H' : Hp), Same H H' → H l = none → H' l = some (.lst ((nums 0 [b0, b1, b2, b3, b4]).map V.int)) → Q (.ref l) H'
theorem ok_bases {f : Addr} {fd : FuncData} {c : Nat → Addr} (F : FnP K "_law_bases" "_law_bases" S_bases f fd) (N : Names mg c) : FnOk P w K mg base CX0 1 f fd ["_law_e"] (spBases K c) := by
  have ci : bootBuiltins "isinstance" = some (.builtin "isinstance") := by decide +kernel
  refine F.ok sc_bases (fun vs H Q E h => ?_) (fun cdv A outer s H vs Q E hr h => ⟨_, PSs.nox (pss_cons (ps_set (i := 1) sc_bases.nd rfl (.inl rfl) (pe_lst
      (pa_cons (pe_callB call_isX (by rfl) N.isi ci (pa_cons (pv 0) (pa_cons (pe_cls rfl N.n20) pa_nil))) (pa_cons (pe_callB call_isX (by rfl) N.isi ci (pa_cons (pv 0) (pa_cons (pe_ty (T := "ValueError") rfl N.bV (by decide +kernel)) pa_nil)))
      (pa_cons (pe_callB call_isX (by rfl) N.isi ci (pa_cons (pv 0) (pa_cons (pe_ty (T := "LookupError") rfl N.bL (by decide +kernel)) pa_nil))) pa_nil)))))
    (pss_cons (ps_set (i := 1) sc_bases.nd rfl (.inl rfl) (pe_op op_cat (pv 1) (pe_lst
      (pa_cons (pe_callB call_isX (by rfl) N.isi ci (pa_cons (pv 0) (pa_cons (pe_ty (T := "RuntimeError") rfl N.bR (by decide +kernel)) pa_nil))) (pa_cons (pe_callB call_isX (by rfl) N.isi ci (pa_cons (pv 0) (pa_cons (pe_ty (T := "ArithmeticError") rfl N.bA (by decide +kernel)) pa_nil)))
      pa_nil)))))
    (pss_one (ps_ret (pe_lc (own := [("_law_number", 2), ("_law_truth", 3)]) (g := gTup K 2 (gCons (gName 2) (gCons (gName 3) gNil))) rfl sc_bases.nd (pi_enum (by rfl) N.enu (pa_cons (pv 1) pa_nil))
      (blkOk_by (own := [("_law_number", 2), ("_law_truth", 3)]) (N := N_bases) (sc := defScope S_bases) (by decide +kernel))
      (fun _ _ _ _ _ => pg_tup rfl (pgs_cons (pg_name (i := 2) sc_bases.nd rfl (.inl rfl)) (pgs_cons (pg_name (i := 3) sc_bases.nd rfl (.inl rfl)) pgs_nil)))
      (fun _ _ _ _ _ => pts_one (pt_val (pv 3))) (fun _ _ _ _ _ => pv 2)))))), ?_⟩)
  · obtain ⟨a, C, b0, b1, b2, b3, b4, rfl, _⟩ := h
    rfl
  · obtain ⟨a, C, b0, b1, b2, b3, b4, rfl, hX, ⟨B, nI, iI, bm, T⟩, k0, k1, k2, k3, k4, q⟩ := h
    refine ⟨_, rfl, a, C, _, _, _, B, nI, iI, bm, rfl, ClsV.own _, hX, T, k0, _, rfl, a, C, _, _, _, B, nI, iI, bm, rfl, ClsV.ty _, hX, T, k1, _, rfl, a, C, _, _, _, B, nI, iI, bm, rfl, ClsV.ty _, hX, T, k2, by show 3 ≤ sizeLine; decide, fun l1 n1 => ?_⟩
    obtain ⟨s1, m1⟩ := fresh2 (o := .lst [.bl b0, .bl b1, .bl b2]) n1
    have X1 := hX.same s1
    refine ⟨_, rfl, _, rfl, a, C, _, _, _, B, nI, iI, bm, rfl, ClsV.ty _, X1, T, k3, _, rfl, a, C, _, _, _, B, nI, iI, bm, rfl, ClsV.ty _, X1, T, k4, by show 2 ≤ sizeLine; decide, fun k0 o0 => ?_⟩
    obtain ⟨t0, _⟩ := fresh2 (o := .lst [.bl b3, .bl b4]) o0
    refine ⟨l1, k0, _, _, rfl, rfl, t0 _ _ m1, upd_same, by show 5 ≤ sizeLine; decide, fun l2 n2 => ?_⟩
    obtain ⟨v2, m2⟩ := fresh2 (o := .lst [.bl b0, .bl b1, .bl b2, .bl b3, .bl b4]) n2
    have s2 := (s1.trans t0).trans v2
    refine ⟨_, rfl, l2, _, rfl, SqL.of m2, ?_⟩
    exact enum_end (bs := [b0, b1, b2, b3, b4]) m2 (by show 5 ≤ 1000; decide) fun D H' sm nD hD => q D H' (s2.trans sm) (s2.free nD) hD
end
end Cw
namespace Cw
open PySem PySem.Spec PyProof.Rows L2
/-- the class at C is number n of the twenty, and of just these bases -/
structure IsA (K : PySem.W.Frag) (c : Nat → Addr) (C : Addr) (n : Nat) (bb : List Int) : Prop where
  own : Own K C
  kit : ∀ j, j < 20 → PySem.W.kitOne K (.ref C) (.ref (c j)) = some (decide (j = n))
  bas : ∃ b0 b1 b2 b3 b4, PySem.W.kitOne K (.ref C) (.ref (c 20)) = some b0 ∧ PySem.W.kitOne K (.ref C) (.type "ValueError") = some b1 ∧
    PySem.W.kitOne K (.ref C) (.type "LookupError") = some b2 ∧ PySem.W.kitOne K (.ref C) (.type "RuntimeError") = some b3 ∧ PySem.W.kitOne K (.ref C) (.type "ArithmeticError") = some b4 ∧ nums 0 [b0, b1, b2, b3, b4] = bb
theorem nums_one : ∀ n : Nat, n < 20 → nums 0 ((List.range 20).map fun j => decide (j = n)) = [(n : Int)] := by
  have key : ∀ n : Fin 20, nums 0 ((List.range 20).map fun j => decide (j = n.val)) = [(n.val : Int)] := by decide +kernel
  exact fun n h => key ⟨n, h⟩
theorem nums_none : nums 0 ((List.range 20).map fun j => decide (j = 20)) = [] := by decide +kernel
theorem dp_ints {K : PySem.W.Frag} {H : Hp} {l : Addr} {ns : List Int} (h : H l = some (.lst (ns.map V.int))) : Dp K H (.ref l) (.list (ns.map PyData.int)) := by
  refine .lst (SqL.of h) ?_
  clear h
  induction ns with
  | nil => exact .nil
  | cons n r ih => exact .cons (.int n) ih
theorem lay_ints : ∀ ns : List Int, PyData.canLayAll0 (ns.map PyData.int) = true
  | [] => by simp [PyData.canLayAll0]
  | n :: r => by
    rw [List.map_cons]
    simp only [PyData.canLayAll0, Bool.and_eq_true]
    exact ⟨by simp [PyData.canLay0], lay_ints r⟩
theorem deep_ints : ∀ ns : List Int, PyData.depthAll (ns.map PyData.int) = 0
  | [] => by simp [PyData.depthAll]
  | n :: r => by
    rw [List.map_cons]
    simp only [PyData.depthAll, deep_ints r]
    simp [PyData.depth]
theorem can_ints (ns : List Int) : (PyData.list (ns.map PyData.int)).canLay0 = true := by
  simp only [PyData.canLay0]
  exact lay_ints ns
theorem shaped_ints (ns : List Int) : SeqAt.shaped (.list (ns.map PyData.int)) = true := by
  unfold SeqAt.shaped
  rw [can_ints, Bool.true_and]
  refine decide_eq_true ?_
  simp only [PyData.depth, deep_ints]
  omega
theorem eqv_ints (ns : List Int) : PyData.eqv (.list (ns.map PyData.int)) (.list (ns.map PyData.int)) = true := SeqAt.eqv_refl _ (can_ints ns)
section
variable {P : Program} {w : World} {K : PySem.W.Frag} {mg : Str → Option Value} {base : Heap}
def spIs (K : PySem.W.Frag) (c : Nat → Addr) : Sp := fun vs H Q _ => ∃ (a C lb : Addr) (n : Nat) (bb : List Int), vs = [.ref a, .int n, .ref lb] ∧ n < 20 ∧ IsX H a C ∧ IsA K c C n bb ∧ H lb = some (.lst (bb.map V.int)) ∧
  ∀ H', Same H H' → Q (.bl true) H'
theorem ok_is {f fW fB : Addr} {fd fdW fdB : FuncData} {c : Nat → Addr} (F : FnP K "_law_is" "_law_is" S_is f fd) (FW : FnP K "_law_which" "_law_which" S_which fW fdW) (bW : Binds K fdW ["_law_e"] []) (GW : FnOk P w K mg base CX0 1 fW fdW ["_law_e"] (spWhich K c)) (gW : mg "_law_which" = some (.ref fW))
    (FB : FnP K "_law_bases" "_law_bases" S_bases fB fdB) (bB : Binds K fdB ["_law_e"] []) (GB : FnOk P w K mg base CX0 1 fB fdB ["_law_e"] (spBases K c)) (gB : mg "_law_bases" = some (.ref fB)) :
    FnOk P w K mg base CX0 2 f fd ["_law_e", "_law_number", "_law_bases_here"] (spIs K c) := by
  refine F.ok sc_is (fun vs H Q E h => ?_) (fun cdv A outer s H vs Q E hr h => ⟨_, PSs.nox (pss_one (ps_ret (pe_and (pe_cmpR (op_eqD hr.units) (pe_call GW hr rfl gW FW.kp bW .nil pass0 (pa_cons (pv 0) pa_nil)) (pe_lst (pa_cons (pv 1) pa_nil)) (nomark _))
    (pe_one (pe_cmpR (op_eqD hr.units) (pe_call GB hr rfl gB FB.kp bB .nil pass0 (pa_cons (pv 0) pa_nil)) (pv 2) (nomark _)))))), ?_⟩)
  · obtain ⟨a, C, lb, n, bb, rfl, _⟩ := h
    rfl
  · obtain ⟨a, C, lb, n, bb, rfl, hn, hX, ⟨ow, kt, b0, b1, b2, b3, b4, k0, k1, k2, k3, k4, eb⟩, hl, q⟩ := h
    refine ⟨_, rfl, a, C, _, rfl, hX, ow, kt, fun l H1 s1 nl e1 => ?_⟩
    rw [nums_one n hn] at e1
    refine ⟨_, rfl, by show 1 ≤ sizeLine; decide, fun l2 n2 => ?_⟩
    obtain ⟨s2, m2⟩ := fresh2 (o := .lst [.int n]) n2
    refine ⟨_, _, dp_ints (s2 _ _ e1), dp_ints (ns := [(n : Int)]) m2, shaped_ints _, shaped_ints _, ?_⟩
    rw [eqv_ints]
    refine ⟨true, rfl, ?_⟩
    rw [if_pos rfl]
    have s12 := s1.trans s2
    refine ⟨_, rfl, a, C, b0, b1, b2, b3, b4, rfl, hX.same s12, ow, k0, k1, k2, k3, k4, fun l3 H3 s3 nl3 e3 => ?_⟩
    rw [eb] at e3
    refine ⟨_, rfl, _, _, dp_ints e3, dp_ints (s3 _ _ (s12 _ _ hl)), shaped_ints _, shaped_ints _, ?_⟩
    rw [eqv_ints]
    exact q _ (s12.trans s3)
end
end Cw
namespace Cw
open PySem PySem.Spec PyProof.Rows L2
/-- __init__ with one field -/
def spI1 (C : Addr) (f : Str) : Sp := fun vs H Q _ => ∃ (a : Addr) (v : V), vs = [.ref a, v] ∧ H a = some (exo a C none) ∧ ∀ dx, H dx = none → dx ≠ a → Q .non (upd (upd H dx (exd dx [(f, v)])) a (exo a C (some dx)))
/-- __init__ with two fields -/
def spI2 (C : Addr) (f g : Str) : Sp := fun vs H Q _ => ∃ (a : Addr) (v u : V), vs = [.ref a, v, u] ∧ H a = some (exo a C none) ∧
  ∀ dx, H dx = none → dx ≠ a → Q .non (upd (upd (upd H dx (exd dx [(f, v)])) a (exo a C (some dx))) dx (exd dx [(g, u), (f, v)]))
section
variable {P : Program} {w : World} {K : PySem.W.Frag} {mg : Str → Option Value} {base : Heap} {B newId initId : String} {bmB : List Value} {C fI : Addr} {fd : FuncData}
theorem ok_init1 {f q : Str} {ar : Arguments} {sc : Scope} {q1 q2 q3 q4 : Pos} (F : FunD K "__init__" q ar [.Assign [.Attribute (.Name "self" q1) f q2] (.Name f q3) q4] sc [] [] fI fd) (S : FnScope ["self", f] ["self", f] sc)
    (T : ExT K C B newId initId bmB) (ht : PySem.W.takerIn K C f = some none) (f1 : (f == ("__debug__" : Str)) = false) (f2 : (f == ("__classdict__" : Str)) = false) : FnOk P w K mg base CX0 1 fI fd ["self", f] (spI1 C f) := by
  refine F.ok S (fun vs H Q E h => ?_) (fun cdv A outer s H vs Q E hr h => ⟨_, PSs.nox (pss_one (ps_xst (pe_var (i := 0) rfl ?_) (pe_var (i := 1) rfl ?_ f1 f2))), ?_⟩)
  · obtain ⟨a, v, rfl, _⟩ := h
    rfl
  · rcases S.par "self" (by simp) with z | z
    · exact .inl z
    · exact .inr (.inl z)
  · rcases S.par f (by simp) with z | z
    · exact .inl z
    · exact .inr (.inl z)
  · obtain ⟨a, v, rfl, ha, q⟩ := h
    exact ⟨_, rfl, _, rfl, a, C, B, newId, initId, bmB, rfl, T, ht, .inl ⟨ha, q⟩⟩
theorem ok_init2 {f g q : Str} {ar : Arguments} {sc : Scope} {q1 q2 q3 q4 q5 q6 q7 q8 : Pos}
    (F : FunD K "__init__" q ar [.Assign [.Attribute (.Name "self" q1) f q2] (.Name f q3) q4, .Assign [.Attribute (.Name "self" q5) g q6] (.Name g q7) q8] sc [] [] fI fd) (S : FnScope ["self", f, g] ["self", f, g] sc)
    (T : ExT K C B newId initId bmB) (ht : PySem.W.takerIn K C f = some none) (hu : PySem.W.takerIn K C g = some none)
    (f1 : (f == ("__debug__" : Str)) = false) (f2 : (f == ("__classdict__" : Str)) = false) (g1 : (g == ("__debug__" : Str)) = false) (g2 : (g == ("__classdict__" : Str)) = false) : FnOk P w K mg base CX0 1 fI fd ["self", f, g] (spI2 C f g) := by
  have vis : ∀ x ∈ (["self", f, g] : List Str), Vis sc x := fun x hx => by
    rcases S.par x hx with z | z
    · exact .inl z
    · exact .inr (.inl z)
  refine F.ok S (fun vs H Q E h => ?_) (fun cdv A outer s H vs Q E hr h => ⟨_, PSs.nox (pss_cons (ps_xst (pe_var (i := 0) rfl (vis _ (by simp))) (pe_var (i := 1) rfl (vis _ (by simp)) f1 f2))
    (pss_one (ps_xst (pe_var (i := 0) rfl (vis _ (by simp))) (pe_var (i := 2) rfl (vis _ (by simp)) g1 g2)))), ?_⟩)
  · obtain ⟨a, v, u, rfl, _⟩ := h
    rfl
  · obtain ⟨a, v, u, rfl, ha, q⟩ := h
    refine ⟨_, rfl, _, rfl, a, C, B, newId, initId, bmB, rfl, T, ht, .inl ⟨ha, fun dx nd nda => ?_⟩⟩
    have e2 : (upd (upd H dx (exd dx [(f, v)])) a (exo a C (some dx))) dx = some (exd dx [(f, v)]) := by rw [upd_ne nda, upd_same]
    exact ⟨_, rfl, _, rfl, a, C, B, newId, initId, bmB, rfl, T, hu, .inr ⟨dx, [(f, v)], upd_same, e2, by show 1 ≤ 900; decide, q dx nd nda⟩⟩
end
/-- an own exception class with one field, as one makes it -/
structure Mk1 (P : Program) (w : World) (K : PySem.W.Frag) (mg : Str → Option Value) (base : Heap) (x f : Str) (C : Addr) : Prop where
  g : mg x = some (.ref C)
  ex : ∃ (fI : Addr) (fd : FuncData) (B newId initId : String) (bmB : List Value), ExT K C B newId initId bmB ∧ PySem.W.findIn K (.ref C) "__init__" = some (some (.ref fI)) ∧ PySem.W.typeIn K (.ref fI) = some (.type "function") ∧
    FnOk P w K mg base CX0 1 fI fd ["self", f] (spI1 C f) ∧ Binds K fd ["self", f] []
  no : PySem.W.findIn K (.ref C) f = some none
structure Mk2 (P : Program) (w : World) (K : PySem.W.Frag) (mg : Str → Option Value) (base : Heap) (x f g : Str) (C : Addr) : Prop where
  gl : mg x = some (.ref C)
  ex : ∃ (fI : Addr) (fd : FuncData) (B newId initId : String) (bmB : List Value), ExT K C B newId initId bmB ∧ PySem.W.findIn K (.ref C) "__init__" = some (some (.ref fI)) ∧ PySem.W.typeIn K (.ref fI) = some (.type "function") ∧
    FnOk P w K mg base CX0 1 fI fd ["self", f, g] (spI2 C f g) ∧ Binds K fd ["self", f, g] []
  no : PySem.W.findIn K (.ref C) f = some none
  no2 : PySem.W.findIn K (.ref C) g = some none
/-- one without fields, made of a text -/
structure Mk0 (K : PySem.W.Frag) (mg : Str → Option Value) (x : Str) (C : Addr) : Prop where
  g : mg x = some (.ref C)
  ex : ∃ (B newId initId : String) (bmB : List Value), ExT K C B newId initId bmB ∧ PySem.W.excIn K C bmB newId = true
/-- at a an exception of the class at C with these fields -/
def XAt (H : Hp) (a C : Addr) (fs : List (Str × V)) : Prop := ∃ dx, H a = some (exo a C (some dx)) ∧ H dx = some (exd dx fs)
theorem XAt.isX {H : Hp} {a C : Addr} {fs : List (Str × V)} (h : XAt H a C fs) : IsX H a C := by
  obtain ⟨dx, h1, h2⟩ := h
  exact .inl ⟨dx, fs, h1, h2⟩
theorem XAt.same {H H' : Hp} {a C : Addr} {fs : List (Str × V)} (h : XAt H a C fs) (k : Same H H') : XAt H' a C fs := by
  obtain ⟨dx, h1, h2⟩ := h
  exact ⟨dx, k _ _ h1, k _ _ h2⟩
def rMk1 (C : Addr) (f : Str) : List V → Hp → VK → Prop := fun vs H1 Q => ∃ v, vs = [v] ∧ ∀ a H', Same H1 H' → H1 a = none → XAt H' a C [(f, v)] → Q (.ref a) H'
def rMk2 (C : Addr) (f g : Str) : List V → Hp → VK → Prop := fun vs H1 Q => ∃ v u, vs = [v, u] ∧ ∀ a H', Same H1 H' → H1 a = none → XAt H' a C [(g, u), (f, v)] → Q (.ref a) H'
def tMkR (R : List V → Hp → VK → Prop) (ta : TA) : TE := fun σ H Q => ta σ H fun vs H1 => R vs H1 Q
def tMk0 (C : Addr) (te : TE) : TE := fun σ H Q => te σ H fun _ H1 => ∀ a, H1 a = none → Q (.ref a) (upd H1 a (ExO (.ref C) a))
/-- x.f of such a one -/
def tFld (K : PySem.W.Frag) (f : Str) (te : TE) : TE := fun σ H Q => te σ H fun x H1 => ∃ (a C : Addr) (fs : List (Str × V)) (v : V), x = .ref a ∧ XAt H1 a C fs ∧ Own K C ∧ PySem.W.findIn K (.ref C) f = some none ∧ fs.lookup f = some v ∧ Q v H1
section
variable {X : Cx} {x f g : Str} {C : Addr} {e e2 : Expr} {te tu : TE} {ta : TA} {p pos : Pos}
theorem pe_mk1 (M : Mk1 X.prog X.w X.K X.mg X.base x f C) (hr : Room 2 X.A) (hg : Gl X x) (he : PE X e te) (hdb : (x == ("__debug__" : Str)) = false := by decide)
    (hs : starEach (e :: []) X.env = (false, eval e X.env) :: starEach [] X.env := by rfl) : PE X (.Call (.Name x p) [e] [] pos) (tMkR (rMk1 C f) (tCons te tNil)) := by
  obtain ⟨fI, fd, B, nI, iI, bm, T, iC, tI, ok, b⟩ := M.ex
  refine pe_xmk (R := rMk1 C f) T iC tI ok hr b (fun _ _ _ _ _ _ _ h => False.elim h) hg M.g (pa_cons he pa_nil hs) ?_ hdb hs
  rintro vs H1 Q ⟨v, rfl, q⟩
  refine ⟨by show 1 ≤ 1000; decide, fun a na => ⟨a, v, rfl, upd_same, fun dx nd nda => ⟨rfl, q a _ (fun b o e => ?_) na ⟨dx, upd_same, by rw [upd_ne nda, upd_same]⟩⟩⟩⟩
  have n1 : b ≠ a := ne_of_none e na
  rw [upd_ne nda] at nd
  rw [upd_ne n1, upd_ne (ne_of_none e nd), upd_ne n1]
  exact e
theorem pe_mk2 (M : Mk2 X.prog X.w X.K X.mg X.base x f g C) (hr : Room 2 X.A) (hg : Gl X x) (ha : PA X [e, e2] ta) (hdb : (x == ("__debug__" : Str)) = false := by decide)
    (hs : starEach (e :: [e2]) X.env = (false, eval e X.env) :: starEach [e2] X.env := by rfl) (hpl : (backTo pos (starEach [e2] X.env)).any (·.1) = false := by rfl) : PE X (.Call (.Name x p) [e, e2] [] pos) (tMkR (rMk2 C f g) ta) := by
  obtain ⟨fI, fd, B, nI, iI, bm, T, iC, tI, ok, b⟩ := M.ex
  refine pe_xmk (R := rMk2 C f g) T iC tI ok hr b (fun _ _ _ _ _ _ _ h => False.elim h) hg M.gl ha ?_ hdb hs hpl
  rintro vs H1 Q ⟨v, u, rfl, q⟩
  refine ⟨by show 2 ≤ 1000; decide, fun a na => ⟨a, v, u, rfl, upd_same, fun dx nd nda => ⟨rfl, q a _ (fun b o e => ?_) na ⟨dx, by rw [upd_ne (Ne.symm nda), upd_same], upd_same⟩⟩⟩⟩
  have n1 : b ≠ a := ne_of_none e na
  rw [upd_ne nda] at nd
  have n2 : b ≠ dx := ne_of_none e nd
  rw [upd_ne n2, upd_ne n1, upd_ne n2, upd_ne n1]
  exact e
theorem pe_mk0 (M : Mk0 X.K X.mg x C) (hg : Gl X x) (he : PE X e te) (hs : starEach [e] X.env = (false, eval e X.env) :: starEach [] X.env := by rfl) (hdb : (x == ("__debug__" : Str)) = false := by decide) :
    PE X (.Call (.Name x p) [e] [] pos) (tMk0 C te) := by
  obtain ⟨B, nI, iI, bm, T, q⟩ := M.ex
  exact pe_exc1 T.base q M.g T.kp hg he hs hdb
theorem pe_fldX (he : PE X e te) (hb : attributeBase e f X.env (eval e X.env) = eval e X.env := by rfl) : PE X (.Attribute e f pos) (tFld X.K f te) := by
  constructor
  intro pins s σ H Q I h
  refine attr_of hb (thn (he.run pins s σ H _ I h) fun u s1 hh => ?_)
  obtain ⟨x, H1, I1, rx, a, C, fs, v, rfl, ⟨dx, ea, ed⟩, ⟨B, nI, iI, bm, T⟩, hno, l, q⟩ := hh
  have eu : u = Value.ref a := rx
  subst eu
  obtain ⟨t1, ho⟩ := exo_at I1.hok ea
  obtain ⟨mA, hns, hr⟩ := exd_at I1.hok ed
  obtain ⟨od, hod, hl⟩ := lookIn_ns hns
  obtain ⟨u, hu, ru⟩ := RelO.some_of (v := v) (o := mA f) (by rw [← l]; exact hr f)
  have J : PySem.W.InstAt s1.heap a { cls := .ref C, dict := some dx, data := .fields #[.ref t1, .none, .none, .none, .bool false, .none] } C (some od) := ⟨ho, rfl, rfl, hod⟩
  exact HandSPX.exc_get I1.kIn J T.ga T.gg T.isB (PySem.W.findObj_own T.hasD hno rfl (by rw [hl, hu])) (handed_of ru) ⟨v, H1, I1.tok _, ru, q⟩
end
end Cw
namespace Cw
open PySem PySem.Spec PyProof.Rows L2
/-- all that is known of the twenty-one classes -/
structure Clss (P : Program) (w : World) (K : PySem.W.Frag) (mg : Str → Option Value) (base : Heap) (c : Nat → Addr) : Prop where
  x0 : Mk2 P w K mg base "NoWeb" "what" "who" (c 0)
  x1 : Mk1 P w K mg base "NoText" "row" (c 1)
  x2 : Mk1 P w K mg base "NoWalk" "number" (c 2)
  x3 : Mk1 P w K mg base "NoPaper" "row" (c 3)
  x4 : Mk0 K mg "NoCount" (c 4)
  x5 : Mk0 K mg "NoPlace" (c 5)
  x6 : Mk0 K mg "NoState" (c 6)
  x7 : Mk0 K mg "NoLength" (c 7)
  x8 : Mk1 P w K mg base "NoName" "who" (c 8)
  x9 : Mk0 K mg "NoCries" (c 9)
  x10 : Mk0 K mg "NoBack" (c 10)
  x11 : Mk0 K mg "NoRow" (c 11)
  x12 : Mk1 P w K mg base "NoSuch" "who" (c 12)
  x13 : Mk1 P w K mg base "Taken" "who" (c 13)
  x14 : Mk1 P w K mg base "Same" "who" (c 14)
  x15 : Mk1 P w K mg base "Crying" "who" (c 15)
  x16 : Mk1 P w K mg base "Alone" "who" (c 16)
  x17 : Mk1 P w K mg base "Endless" "who" (c 17)
  x18 : Mk1 P w K mg base "Crowded" "most" (c 18)
  x19 : Mk1 P w K mg base "TooMany" "limit" (c 19)
  x20 : Mk0 K mg "WebError" (c 20)
  a0 : ∀ i, i < 12 → IsA K c (c i) i [0, 1]
  a1 : IsA K c (c 12) 12 [2]
  a2 : ∀ i, 13 ≤ i → i < 18 → IsA K c (c i) i [3]
  a3 : ∀ i, 18 ≤ i → i < 20 → IsA K c (c i) i [4]
  a4 : IsA K c (c 20) 20 [0, 1]
theorem same_upd0 {H : Hp} {p : Addr} {o : HO} (h : H p = none) : Same H (upd H p o) := same_new h
/-- a list of so many things that are short to show is short to show -/
theorem fine_list {ds : List PyData} (h : ∀ d ∈ ds, Fine d) (hn : ds.length ≤ 100) : (PyData.list ds).showable = true ∧ (PyData.list ds).depth ≤ 60 ∧ (PyData.list ds).shown.length ≤ sizeLine := by
  have a1 : ∀ ds : List PyData, (∀ d ∈ ds, Fine d) → PyData.showableAll ds = true ∧ PyData.depthAll ds ≤ 3 ∧ PyData.leavesShortAll 700 ds = true ∧ PyData.bulkAll ds ≤ 21 * ds.length := by
    intro ds
    induction ds with
    | nil => intro _; exact ⟨by simp [PyData.showableAll], by simp [PyData.depthAll], by simp [PyData.leavesShortAll], by simp [PyData.bulkAll]⟩
    | cons d r ih =>
      intro h
      obtain ⟨h1, h2, h3, h4⟩ := ih fun x hx => h x (List.mem_cons_of_mem _ hx)
      have f := h d List.mem_cons_self
      refine ⟨?_, ?_, ?_, ?_⟩
      · simp only [PyData.showableAll, Bool.and_eq_true]
        exact ⟨f.sh, h1⟩
      · simp only [PyData.depthAll]
        have := f.dp
        omega
      · simp only [PyData.leavesShortAll, Bool.and_eq_true]
        exact ⟨f.lv, h3⟩
      · simp only [PyData.bulkAll, List.length_cons]
        have := f.bk
        omega
  obtain ⟨h1, h2, h3, h4⟩ := a1 ds h
  refine ⟨?_, ?_, ?_⟩
  · simp only [PyData.showable]
    exact h1
  · simp only [PyData.depth]
    omega
  · have l := PyData.shown_le_bulk 700 (by decide) (.list ds) (by simp only [PyData.leavesShort]; exact h3)
    simp only [PyData.bulk] at l
    rw [sizeLine_eq]
    omega
/-- what a comprehension's reading asks, its list at D -/
def LcD (J : It) (g : TG) (tt : TT) (te : TE) (vs : List Nat) (σ : L2.St) (H1 : Hp) (D : Addr) (Qd : Hp → Prop) : Prop := ∃ W : Nat → Nat → Hp → Prop, (∃ m, W 0 m (upd H1 D (.lst []))) ∧ ∀ i m H, W i m H →
  (J.stop i H ∧ Qd H) ∨ (J.go i H ∧ ∃ Nx : Hp → Prop, (∀ H', Nx H' → ∃ m', m' < m ∧ W (i + 1) m' H') ∧ ∀ x H', J.yld i H x H' → g x (wipe σ vs) H' fun σ2 H2 => wipe σ2 vs = wipe σ vs ∧ tt σ2 H2 fun b H3 =>
    if b = true then te σ2 H3 fun y H4 => ∃ acc, H4 D = some (.lst acc) ∧ acc.length < sizeLine ∧ Nx (upd H4 D (.lst (acc ++ [y]))) else Nx H3)
/-- [is(e, number, [0, 1]) for e, number in zip(l1, l2)] -/
theorem zip_end {K : PySem.W.Frag} {c : Nat → Addr} {x0 x1 x2 x3 x4 x5 x6 x7 x8 : Option V} {H1 : Hp} {l1 l2 : Addr} {as : List Addr} {js : List Nat} {D : Addr} {Qd : Hp → Prop} (nD : H1 D = none) (h1 : H1 l1 = some (.lst (as.map V.ref))) (h2 : H1 l2 = some (.lst (js.map fun j => V.int (j : Nat)))) (hn : as.length = js.length) (hz : js.length ≤ 1000)
    (hx : ∀ (i : Nat) (a : Addr) (j : Nat), as[i]? = some a → js[i]? = some j → j < 20 ∧ ∃ C, IsX H1 a C ∧ IsA K c C j [0, 1])
    (q : ∀ H', Same H1 H' → H' D = some (.lst ((List.replicate js.length true).map V.bl)) → Qd H') :
    LcD (Itz K l1 l2) (gTup K 2 (gCons (gName 7) (gCons (gName 8) gNil))) tYes (tCall (spIs K c) [] E0 (tCons (tVar 7) (tCons (tVar 8) (tCons (tLst (tCons (tC (.int 0)) (tCons (tC (.int 1)) tNil))) tNil)))) [7, 8] [x0, x1, x2, x3, x4, x5, x6, x7, x8] H1 D Qd := by
  have n1 : l1 ≠ D := ne_of_none h1 nD
  have n2 : l2 ≠ D := ne_of_none h2 nD
  have lm : js.length = min (as.map V.ref).length (js.map fun j => V.int (j : Nat)).length := by rw [List.length_map, List.length_map]; omega
  refine lc_it (walk_zip (K := K) (a := l1) (b := l2) lm) (fun i H2 => Same H1 (Off D H2) ∧ H2 D = some (.lst ((List.replicate i true).map V.bl))) ⟨fun b o e => Off.at (ne_of_none e nD) (same_new nD _ _ e), upd_same⟩ ?_ ?_ ?_
  · rintro i H2 _ ⟨sm, _⟩
    exact ⟨SqL.of (Off.same _ _ (sm _ _ h1)), SqL.of (Off.same _ _ (sm _ _ h2))⟩
  · rintro i x H2 H3 hi ⟨sm, hD⟩ ⟨T, y, z, rfl, nT, rfl, ey, ez⟩
    have hi1 : i < as.length := by omega
    have e1 : y = .ref as[i] := by
      dsimp only at ey
      rw [List.getElem?_map, List.getElem?_eq_getElem hi1] at ey
      exact (Option.some.inj ey).symm
    have e2 : z = .int (js[i] : Nat) := by
      dsimp only at ez
      rw [List.getElem?_map, List.getElem?_eq_getElem hi] at ez
      exact (Option.some.inj ez).symm
    subst e1 e2
    obtain ⟨hj, C, hX, hA⟩ := hx i _ _ (List.getElem?_eq_getElem hi1) (List.getElem?_eq_getElem hi)
    have nDT : D ≠ T := ne_of_none hD nT
    refine ⟨T, _, rfl, SqT.of upd_same, rfl, _, _, rfl, _, _, rfl, rfl, rfl, ?_⟩
    dsimp only [tYes]
    rw [if_pos rfl]
    have s0 : Same H1 H2 := fun b o e => Off.same _ _ (sm b o e)
    obtain ⟨s1, _⟩ := fresh2 (o := .tup [.ref as[i], .int (js[i] : Nat)]) nT
    refine ⟨_, rfl, _, rfl, by show 2 ≤ sizeLine; decide, fun lb nb => ?_⟩
    obtain ⟨s2, m2⟩ := fresh2 (o := .lst [.int 0, .int 1]) nb
    have hD' := s2 _ _ (s1 _ _ hD)
    refine ⟨as[i], C, lb, js[i], [0, 1], rfl, hj, hX.same ((s0.trans s1).trans s2), hA, m2, fun H4 s3 => ⟨_, s3 _ _ hD', ?_, fun b o e => ?_, ?_⟩⟩
    · rw [List.length_map, List.length_replicate]
      exact small1000 (by omega)
    · have nb2 : b ≠ D := ne_of_none e nD
      exact Off.at nb2 (by rw [upd_ne nb2]; exact s3 _ _ (s2 _ _ (s1 _ _ (s0 b o e))))
    · rw [upd_same, List.replicate_succ', List.map_append]
      rfl
  · rintro H2 ⟨sm, hD⟩
    exact q H2 (fun b o e => Off.same _ _ (sm b o e)) hD
theorem all_true : ∀ n : Nat, (List.replicate n true).all id = true
  | 0 => rfl
  | n + 1 => by
    rw [List.replicate_succ, List.all_cons, all_true n]
    rfl
section
variable {P : Program} {w : World} {K : PySem.W.Frag} {mg : Str → Option Value} {base : Heap}
def spWR : Sp := fun vs H Q _ => ∃ (one other : V) (d1 d2 : PyData) (z : Str), vs = [one, other, .str z] ∧ Dx H one d1 ∧ Fine d1 ∧ Dx H other d2 ∧ Fine d2 ∧ ∀ H', Same H H' → Q (.bl true) H'
theorem ok_webs {f fS : Addr} {fd fdS : FuncData} {c : Nat → Addr} (F : FnP K "_law_webs_right" "_law_webs_right" S_webs_right f fd) (C : Clss P w K mg base c) (HM : HasMods K)
    (FS : FnP K "_law_is" "_law_is" S_is fS fdS) (bS : Binds K fdS ["_law_e", "_law_number", "_law_bases_here"] []) (GS : FnOk P w K mg base CX0 2 fS fdS ["_law_e", "_law_number", "_law_bases_here"] (spIs K c)) (gS : mg "_law_is" = some (.ref fS))
    (mr : mg "repr" = none) (ma : mg "all" = none) (mz : mg "zip" = none) : FnG P w K mg base CX0 3 f fd ["_law_one", "_law_other", "_law_word_here"] spWR := by
  have cr : bootBuiltins "repr" = some (.builtin "repr") := by decide +kernel
  have ca : bootBuiltins "all" = some (.builtin "all") := by decide +kernel
  refine defG F sc_webs_right (fun vs H Q E h => ?_) (fun cdv A outer s H vs Q E hG hr h => ⟨_, PSs.nox (pss_cons (ps_set (i := 3) sc_webs_right.nd rfl (.inl rfl) (pe_mk2 C.x0 hr rfl (pa_cons (pv 0) (pa_cons (pv 1) pa_nil))))
    (pss_cons (ps_set (i := 4) sc_webs_right.nd rfl (.inl rfl) (pe_lst (pa_cons (pe_fldX (pv 3)) (pa_cons (pe_fldX (pv 3)) (pa_cons (pe_fldX (pe_mk1 C.x1 hr rfl (pv 0))) (pa_cons (pe_fldX (pe_mk1 C.x2 hr rfl (pv 0)))
      (pa_cons (pe_fldX (pe_mk1 C.x3 hr rfl (pv 0))) (pa_cons (pe_fldX (pe_mk1 C.x8 hr rfl (pv 0))) pa_nil))))))))
    (pss_cons (ps_if (pt_cmpR op_ne (pe_callB (call_reprX hG hr.units HM) (by rfl) mr cr (pa_cons (pv 4) pa_nil))
        (pe_callB (call_reprX hG hr.units HM) (by rfl) mr cr (pa_cons (pe_op op_cat (pe_lst (pa_cons (pv 0) (pa_cons (pv 1) pa_nil))) (pe_op op_rep (pe_lst (pa_cons (pv 0) pa_nil)) pe_int)) pa_nil)) (nomark _)) (pss_one (ps_ret pe_bl)) pss_nil)
    (pss_cons (ps_set (i := 5) sc_webs_right.nd rfl (.inl rfl) (pe_lst (pa_cons (pv 3) (pa_cons (pe_mk1 C.x1 hr rfl (pv 0)) (pa_cons (pe_mk1 C.x2 hr rfl (pv 0)) (pa_cons (pe_mk1 C.x3 hr rfl (pv 0)) (pa_cons (pe_mk1 C.x8 hr rfl (pv 0)) pa_nil)))))))
    (pss_cons (ps_if (pt_not (pt_val (pe_callB (cr_all rfl) (by rfl) ma ca (pa_cons (pe_lc (own := [("_law_e", 7), ("_law_number", 8)]) (g := gTup K 2 (gCons (gName 7) (gCons (gName 8) gNil))) rfl sc_webs_right.nd
        (pi_zip (by rfl) mz (pa_cons (pv 5) (pa_cons (pe_lst (pa_cons pe_int (pa_cons pe_int (pa_cons pe_int (pa_cons pe_int (pa_cons pe_int pa_nil)))))) pa_nil)))
        (blkOk_by (own := [("_law_e", 7), ("_law_number", 8)]) (N := N_webs_right) (sc := defScope S_webs_right) (by decide +kernel))
        (fun _ _ _ _ _ => pg_tup rfl (pgs_cons (pg_name (i := 7) sc_webs_right.nd rfl (.inl rfl)) (pgs_cons (pg_name (i := 8) sc_webs_right.nd rfl (.inl rfl)) pgs_nil)))
        (fun _ _ _ _ _ => pts_nil) (fun _ _ _ _ _ => pe_call GS hr rfl gS FS.kp bS .nil pass0 (pa_cons (pv 7) (pa_cons (pv 8) (pa_cons (pe_lst (pa_cons pe_int (pa_cons pe_int pa_nil))) pa_nil))))) pa_nil)))) (pss_one (ps_ret pe_bl)) pss_nil)
    (pss_cons (ps_set (i := 6) sc_webs_right.nd rfl (.inl rfl) (pe_lst (pa_cons (pe_mk0 C.x4 rfl (pv 2)) (pa_cons (pe_mk0 C.x5 rfl (pv 2)) (pa_cons (pe_mk0 C.x6 rfl (pv 2)) (pa_cons (pe_mk0 C.x7 rfl (pv 2)) (pa_cons (pe_mk0 C.x9 rfl (pv 2))
      (pa_cons (pe_mk0 C.x10 rfl (pv 2)) (pa_cons (pe_mk0 C.x11 rfl (pv 2)) pa_nil)))))))))
    (pss_one (ps_ret (pe_callB (cr_all rfl) (by rfl) ma ca (pa_cons (pe_lc (own := [("_law_e", 7), ("_law_number", 8)]) (g := gTup K 2 (gCons (gName 7) (gCons (gName 8) gNil))) rfl sc_webs_right.nd
        (pi_zip (by rfl) mz (pa_cons (pv 6) (pa_cons (pe_lst (pa_cons pe_int (pa_cons pe_int (pa_cons pe_int (pa_cons pe_int (pa_cons pe_int (pa_cons pe_int (pa_cons pe_int pa_nil)))))))) pa_nil)))
        (blkOk_by (own := [("_law_e", 7), ("_law_number", 8)]) (N := N_webs_right) (sc := defScope S_webs_right) (by decide +kernel))
        (fun _ _ _ _ _ => pg_tup rfl (pgs_cons (pg_name (i := 7) sc_webs_right.nd rfl (.inl rfl)) (pgs_cons (pg_name (i := 8) sc_webs_right.nd rfl (.inl rfl)) pgs_nil)))
        (fun _ _ _ _ _ => pts_nil) (fun _ _ _ _ _ => pe_call GS hr rfl gS FS.kp bS .nil pass0 (pa_cons (pv 7) (pa_cons (pv 8) (pa_cons (pe_lst (pa_cons pe_int (pa_cons pe_int pa_nil))) pa_nil))))) pa_nil)))))))))), ?_⟩)
  · obtain ⟨one, other, d1, d2, z, rfl, _⟩ := h
    rfl
  · obtain ⟨one, other, d1, d2, z, rfl, x1, f1, x2, f2, q⟩ := h
    have ow : ∀ i, i < 12 → Own K (c i) := fun i hi => (C.a0 i hi).own
    refine ⟨_, rfl, _, rfl, one, other, rfl, fun pr H1 s1 np e1 => ?_⟩
    refine ⟨_, rfl, pr, c 0, _, one, rfl, e1, ow 0 (by decide), C.x0.no, (by rw [lookup_put, if_neg (by decide +kernel), lookup_put, if_pos rfl]), _, rfl, pr, c 0, _, other, rfl, e1, ow 0 (by decide), C.x0.no2, (by rw [lookup_put, if_pos rfl]), ?_⟩
    refine ⟨_, rfl, one, rfl, fun t1 H2 s2 n2 e2 => ⟨t1, c 1, _, one, rfl, e2, ow 1 (by decide), C.x1.no, (by rw [lookup_put, if_pos rfl]), ?_⟩⟩
    refine ⟨_, rfl, one, rfl, fun t2 H3 s3 n3 e3 => ⟨t2, c 2, _, one, rfl, e3, ow 2 (by decide), C.x2.no, (by rw [lookup_put, if_pos rfl]), ?_⟩⟩
    refine ⟨_, rfl, one, rfl, fun t3 H4 s4 n4 e4 => ⟨t3, c 3, _, one, rfl, e4, ow 3 (by decide), C.x3.no, (by rw [lookup_put, if_pos rfl]), ?_⟩⟩
    refine ⟨_, rfl, one, rfl, fun t4 H5 s5 n5 e5 => ⟨t4, c 8, _, one, rfl, e5, ow 8 (by decide), C.x8.no, (by rw [lookup_put, if_pos rfl]), ?_⟩⟩
    refine ⟨by show 6 ≤ sizeLine; decide, fun l nl => ?_⟩
    have s15 := ((((s1.trans s2).trans s3).trans s4).trans s5)
    obtain ⟨s6, m6⟩ := fresh2 (o := .lst [one, other, one, one, one, one]) nl
    have s16 := s15.trans s6
    have y1 := Dx.same s16 _ _ x1
    have y2 := Dx.same s16 _ _ x2
    obtain ⟨g1, g2, g3⟩ := fine_list (ds := [d1, d2, d1, d1, d1, d1]) (by intro d hd; simp only [List.mem_cons, List.not_mem_nil, or_false] at hd; rcases hd with rfl | rfl | rfl | rfl | rfl | rfl <;> assumption) (by show 6 ≤ 100; decide)
    refine ⟨_, rfl, l, _, rfl, .lst m6 (.cons y1 (.cons y2 (.cons y1 (.cons y1 (.cons y1 (.cons y1 .nil)))))), g1, g2, g3, ?_⟩
    refine ⟨_, rfl, _, rfl, by show 2 ≤ sizeLine; decide, fun k1 nk1 => ⟨_, rfl, by show 1 ≤ sizeLine; decide, fun k2 nk2 => ?_⟩⟩
    obtain ⟨u1, v1⟩ := fresh2 (o := .lst [one, other]) nk1
    obtain ⟨u2, v2⟩ := fresh2 (o := .lst [one]) nk2
    refine ⟨k2, 4, _, rfl, rfl, v2, by decide, by decide, by show 1 * 4 ≤ sizeLine; decide, fun k3 nk3 => ?_⟩
    obtain ⟨u3, v3⟩ := fresh2 (o := .lst [one, one, one, one]) nk3
    refine ⟨k1, k3, _, _, rfl, rfl, u3 _ _ (u2 _ _ v1), v3, by show 6 ≤ sizeLine; decide, fun k4 nk4 => ?_⟩
    obtain ⟨u4, v4⟩ := fresh2 (o := .lst [one, other, one, one, one, one]) nk4
    have u14 := ((u1.trans u2).trans u3).trans u4
    have z1 := Dx.same u14 _ _ y1
    have z2 := Dx.same u14 _ _ y2
    refine ⟨k4, _, rfl, .lst v4 (.cons z1 (.cons z2 (.cons z1 (.cons z1 (.cons z1 (.cons z1 .nil)))))), g1, g2, g3, ?_⟩
    refine ⟨rfl, _, rfl, ?_⟩
    refine iteNS rfl ?_
    have w1 := s16.trans u14
    have pr1 := (e1.same (((s2.trans s3).trans s4).trans s5)).same (s6.trans u14)
    refine ⟨_, rfl, _, rfl, one, rfl, fun a1 J1 r1 q1 b1 => ?_⟩
    refine ⟨_, rfl, one, rfl, fun a2 J2 r2 q2 b2 => ?_⟩
    refine ⟨_, rfl, one, rfl, fun a3 J3 r3 q3 b3 => ?_⟩
    refine ⟨_, rfl, one, rfl, fun a4 J4 r4 q4 b4 => ?_⟩
    refine ⟨by show 5 ≤ sizeLine; decide, fun l2 nl2 => ?_⟩
    obtain ⟨r5, m7⟩ := fresh2 (o := .lst [.ref pr, .ref a1, .ref a2, .ref a3, .ref a4]) nl2
    have rr := (((r1.trans r2).trans r3).trans r4).trans r5
    refine ⟨_, rfl, by show 5 ≤ sizeLine; decide, fun l3 nl3 => ?_⟩
    obtain ⟨r6, m8⟩ := fresh2 (o := .lst [.int 0, .int 1, .int 2, .int 3, .int 8]) nl3
    refine ⟨l2, l3, _, _, rfl, SqL.of (r6 _ _ m7), SqL.of m8, fun D nD => ?_⟩
    refine zip_end (K := K) (c := c) (as := [pr, a1, a2, a3, a4]) (js := [0, 1, 2, 3, 8]) nD (r6 _ _ m7) m8 rfl (by decide) (fun i a j ha hj => ?_) fun H' sm hD => ?_
    · have k5 := r5.trans r6
      have ix0 := pr1.same (rr.trans r6)
      have ix1 := b1.same (((r2.trans r3).trans r4).trans k5)
      have ix2 := b2.same ((r3.trans r4).trans k5)
      have ix3 := b3.same (r4.trans k5)
      have ix4 := b4.same k5
      match i, ha, hj with
      | 0, ha, hj => cases ha; cases hj; exact ⟨by decide, c 0, ix0.isX, C.a0 0 (by decide)⟩
      | 1, ha, hj => cases ha; cases hj; exact ⟨by decide, c 1, ix1.isX, C.a0 1 (by decide)⟩
      | 2, ha, hj => cases ha; cases hj; exact ⟨by decide, c 2, ix2.isX, C.a0 2 (by decide)⟩
      | 3, ha, hj => cases ha; cases hj; exact ⟨by decide, c 3, ix3.isX, C.a0 3 (by decide)⟩
      | 4, ha, hj => cases ha; cases hj; exact ⟨by decide, c 8, ix4.isX, C.a0 8 (by decide)⟩
      | n + 5, ha, hj => cases ha
    refine ⟨D, _, rfl, SqL.of hD, ?_⟩
    rw [all_true]
    refine ⟨true, rfl, iteF ?_⟩
    refine ⟨_, rfl, fun p1 np1 => ⟨_, rfl, fun p2 np2 => ⟨_, rfl, fun p3 np3 => ⟨_, rfl, fun p4 np4 => ⟨_, rfl, fun p5 np5 => ⟨_, rfl, fun p6 np6 => ⟨_, rfl, fun p7 np7 => ?_⟩⟩⟩⟩⟩⟩⟩
    obtain ⟨o1, w1'⟩ := fresh2 (o := ExO (.ref (c 4)) p1) np1
    obtain ⟨o2, w2⟩ := fresh2 (o := ExO (.ref (c 5)) p2) np2
    obtain ⟨o3, w3⟩ := fresh2 (o := ExO (.ref (c 6)) p3) np3
    obtain ⟨o4, w4⟩ := fresh2 (o := ExO (.ref (c 7)) p4) np4
    obtain ⟨o5, w5⟩ := fresh2 (o := ExO (.ref (c 9)) p5) np5
    obtain ⟨o6, w6⟩ := fresh2 (o := ExO (.ref (c 10)) p6) np6
    obtain ⟨o7, w7⟩ := fresh2 (o := ExO (.ref (c 11)) p7) np7
    refine ⟨by show 7 ≤ sizeLine; decide, fun l4 nl4 => ?_⟩
    obtain ⟨o8, m9⟩ := fresh2 (o := .lst [.ref p1, .ref p2, .ref p3, .ref p4, .ref p5, .ref p6, .ref p7]) nl4
    refine ⟨_, rfl, by show 7 ≤ sizeLine; decide, fun l5 nl5 => ?_⟩
    obtain ⟨o9, m10⟩ := fresh2 (o := .lst [.int 4, .int 5, .int 6, .int 7, .int 9, .int 10, .int 11]) nl5
    refine ⟨l4, l5, _, _, rfl, SqL.of (o9 _ _ m9), SqL.of m10, fun D2 nD2 => ?_⟩
    have o89 := o8.trans o9
    have o79 := o7.trans o89
    have o69 := o6.trans o79
    have o59 := o5.trans o69
    have o49 := o4.trans o59
    have o39 := o3.trans o49
    have o29 := o2.trans o39
    refine zip_end (K := K) (c := c) (as := [p1, p2, p3, p4, p5, p6, p7]) (js := [4, 5, 6, 7, 9, 10, 11]) nD2 (o9 _ _ m9) m10 rfl (by decide) (fun i a j ha hj => ?_) fun H2' sm2 hD2 => ?_
    · match i, ha, hj with
      | 0, ha, hj => cases ha; cases hj; exact ⟨by decide, c 4, .inr (o29 _ _ w1'), C.a0 4 (by decide)⟩
      | 1, ha, hj => cases ha; cases hj; exact ⟨by decide, c 5, .inr (o39 _ _ w2), C.a0 5 (by decide)⟩
      | 2, ha, hj => cases ha; cases hj; exact ⟨by decide, c 6, .inr (o49 _ _ w3), C.a0 6 (by decide)⟩
      | 3, ha, hj => cases ha; cases hj; exact ⟨by decide, c 7, .inr (o59 _ _ w4), C.a0 7 (by decide)⟩
      | 4, ha, hj => cases ha; cases hj; exact ⟨by decide, c 9, .inr (o69 _ _ w5), C.a0 9 (by decide)⟩
      | 5, ha, hj => cases ha; cases hj; exact ⟨by decide, c 10, .inr (o79 _ _ w6), C.a0 10 (by decide)⟩
      | 6, ha, hj => cases ha; cases hj; exact ⟨by decide, c 11, .inr (o89 _ _ w7), C.a0 11 (by decide)⟩
      | n + 7, ha, hj => cases ha
    refine ⟨D2, _, rfl, SqL.of hD2, ?_⟩
    rw [all_true]
    exact q _ ((((w1.trans rr).trans r6).trans sm).trans ((o1.trans o29).trans sm2))
end
end Cw
namespace Cw
open PySem PySem.Spec PyProof.Rows L2
/-- [is(e, 13 + k, [3]) for k, e in enumerate(l)] -/
theorem enum_is {K : PySem.W.Frag} {c : Nat → Addr} {x0 x1 x2 x3 x4 x5 : Option V} {H1 : Hp} {l : Addr} {as : List Addr} {D : Addr} {Qd : Hp → Prop} (nD : H1 D = none) (h1 : H1 l = some (.lst (as.map V.ref))) (hz : as.length ≤ 7)
    (hx : ∀ (i : Nat) (a : Addr), as[i]? = some a → ∃ C, IsX H1 a C ∧ IsA K c C (13 + i) [3])
    (q : ∀ H', Same H1 H' → H' D = some (.lst ((List.replicate as.length true).map V.bl)) → Qd H') :
    LcD (Ite K l) (gTup K 2 (gCons (gName 4) (gCons (gName 5) gNil))) tYes (tCall (spIs K c) [] E0 (tCons (tVar 5) (tCons (tOp (rI0 fun i j => V.int (i + j)) (tC (.int 13)) (tVar 4)) (tCons (tLst (tCons (tC (.int 3)) tNil)) tNil)))) [4, 5] [x0, x1, x2, x3, x4, x5] H1 D Qd := by
  have n1 : l ≠ D := ne_of_none h1 nD
  refine lc_it (walk_enum (K := K) (a := l) (xs := as.map V.ref)) (fun i H2 => Same H1 (Off D H2) ∧ H2 D = some (.lst ((List.replicate i true).map V.bl))) ⟨fun b o e => Off.at (ne_of_none e nD) (same_new nD _ _ e), upd_same⟩ ?_ ?_ ?_
  · rintro i H2 _ ⟨sm, _⟩
    exact SqL.of (Off.same _ _ (sm _ _ h1))
  · rintro i x H2 H3 hi ⟨sm, hD⟩ ⟨T, y, z, rfl, nT, rfl, ey, ez⟩
    rw [List.length_map] at hi
    have e1 : y = .int (i : Nat) := (Option.some.inj ey).symm
    have e2 : z = .ref as[i] := by
      dsimp only at ez
      rw [List.getElem?_map, List.getElem?_eq_getElem hi] at ez
      exact (Option.some.inj ez).symm
    subst e1 e2
    obtain ⟨C, hX, hA⟩ := hx i _ (List.getElem?_eq_getElem hi)
    refine ⟨T, _, rfl, SqT.of upd_same, rfl, _, _, rfl, _, _, rfl, rfl, rfl, ?_⟩
    dsimp only [tYes]
    rw [if_pos rfl]
    have s0 : Same H1 H2 := fun b o e => Off.same _ _ (sm b o e)
    obtain ⟨s1, _⟩ := fresh2 (o := .tup [.int (i : Nat), .ref as[i]]) nT
    refine ⟨_, rfl, _, rfl, _, _, rfl, rfl, by show 1 ≤ sizeLine; decide, fun lb nb => ?_⟩
    obtain ⟨s2, m2⟩ := fresh2 (o := .lst [.int 3]) nb
    have hD' := s2 _ _ (s1 _ _ hD)
    refine ⟨as[i], C, lb, 13 + i, [3], ?_, by omega, hX.same ((s0.trans s1).trans s2), hA, m2, fun H4 s3 => ⟨_, s3 _ _ hD', ?_, fun b o e => ?_, ?_⟩⟩
    · have e : (13 : Int) + (i : Nat) = ((13 + i : Nat) : Int) := by omega
      show [V.ref as[i], V.int (13 + (i : Nat)), V.ref lb] = _
      rw [e]
    · rw [List.length_map, List.length_replicate]
      exact small1000 (by omega)
    · have nb2 : b ≠ D := ne_of_none e nD
      exact Off.at nb2 (by rw [upd_ne nb2]; exact s3 _ _ (s2 _ _ (s1 _ _ (s0 b o e))))
    · rw [upd_same, List.replicate_succ', List.map_append]
      rfl
  · rintro H2 ⟨sm, hD⟩
    rw [List.length_map] at hD
    exact q H2 (fun b o e => Off.same _ _ (sm b o e)) hD
section
variable {P : Program} {w : World} {K : PySem.W.Frag} {mg : Str → Option Value} {base : Heap}
def spOR : Sp := fun vs H Q _ => ∃ (one : V) (d1 : PyData) (z : Str), vs = [one, .str z] ∧ Dx H one d1 ∧ Fine d1 ∧ ∀ H', Same H H' → Q (.bl true) H'
theorem ok_others {f fS fW fB : Addr} {fd fdS fdW fdB : FuncData} {c : Nat → Addr} (F : FnP K "_law_others_right" "_law_others_right" S_others_right f fd) (C : Clss P w K mg base c) (HM : HasMods K)
    (FS : FnP K "_law_is" "_law_is" S_is fS fdS) (bS : Binds K fdS ["_law_e", "_law_number", "_law_bases_here"] []) (GS : FnOk P w K mg base CX0 2 fS fdS ["_law_e", "_law_number", "_law_bases_here"] (spIs K c)) (gS : mg "_law_is" = some (.ref fS))
    (FW : FnP K "_law_which" "_law_which" S_which fW fdW) (bW : Binds K fdW ["_law_e"] []) (GW : FnOk P w K mg base CX0 1 fW fdW ["_law_e"] (spWhich K c)) (gW : mg "_law_which" = some (.ref fW))
    (FB : FnP K "_law_bases" "_law_bases" S_bases fB fdB) (bB : Binds K fdB ["_law_e"] []) (GB : FnOk P w K mg base CX0 1 fB fdB ["_law_e"] (spBases K c)) (gB : mg "_law_bases" = some (.ref fB))
    (mr : mg "repr" = none) (ma : mg "all" = none) (me : mg "enumerate" = none) : FnG P w K mg base CX0 3 f fd ["_law_one", "_law_word_here"] spOR := by
  have cr : bootBuiltins "repr" = some (.builtin "repr") := by decide +kernel
  have ca : bootBuiltins "all" = some (.builtin "all") := by decide +kernel
  refine defG F sc_others_right (fun vs H Q E h => ?_) (fun cdv A outer s H vs Q E hG hr h => ⟨_, PSs.nox (pss_cons (ps_set (i := 2) sc_others_right.nd rfl (.inl rfl) (pe_lst (pa_cons (pe_fldX (pe_mk1 C.x12 hr rfl (pv 0))) (pa_cons (pe_fldX (pe_mk1 C.x13 hr rfl (pv 0)))
      (pa_cons (pe_fldX (pe_mk1 C.x14 hr rfl (pv 0))) (pa_cons (pe_fldX (pe_mk1 C.x15 hr rfl (pv 0))) (pa_cons (pe_fldX (pe_mk1 C.x16 hr rfl (pv 0))) (pa_cons (pe_fldX (pe_mk1 C.x17 hr rfl (pv 0))) pa_nil))))))))
    (pss_cons (ps_if (pt_cmpR op_ne (pe_callB (call_reprX hG hr.units HM) (by rfl) mr cr (pa_cons (pe_op op_cat (pv 2) (pe_lst (pa_cons (pe_fldX (pe_mk1 C.x18 hr rfl (pv 0))) (pa_cons (pe_fldX (pe_mk1 C.x19 hr rfl (pv 0))) pa_nil)))) pa_nil))
        (pe_callB (call_reprX hG hr.units HM) (by rfl) mr cr (pa_cons (pe_op op_rep (pe_lst (pa_cons (pv 0) pa_nil)) pe_int) pa_nil)) (nomark _)) (pss_one (ps_ret pe_bl)) pss_nil)
    (pss_cons (ps_set (i := 3) sc_others_right.nd rfl (.inl rfl) (pe_lst (pa_cons (pe_mk1 C.x13 hr rfl (pv 0)) (pa_cons (pe_mk1 C.x14 hr rfl (pv 0)) (pa_cons (pe_mk1 C.x15 hr rfl (pv 0)) (pa_cons (pe_mk1 C.x16 hr rfl (pv 0)) (pa_cons (pe_mk1 C.x17 hr rfl (pv 0)) pa_nil)))))))
    (pss_cons (ps_if (PW.pt (pw_or (pt_not (pt_val (pe_call GS hr rfl gS FS.kp bS .nil pass0 (pa_cons (pe_mk1 C.x12 hr rfl (pv 0)) (pa_cons pe_int (pa_cons (pe_lst (pa_cons pe_int pa_nil)) pa_nil))))))
        (pw_or1 (pt_not (pt_val (pe_callB (cr_all rfl) (by rfl) ma ca (pa_cons (pe_lc (own := [("_law_k", 4), ("_law_e", 5)]) (g := gTup K 2 (gCons (gName 4) (gCons (gName 5) gNil))) rfl sc_others_right.nd
          (pi_enum (by rfl) me (pa_cons (pv 3) pa_nil))
          (blkOk_by (own := [("_law_k", 4), ("_law_e", 5)]) (N := N_others_right) (sc := defScope S_others_right) (by decide +kernel))
          (fun _ _ _ _ _ => pg_tup rfl (pgs_cons (pg_name (i := 4) sc_others_right.nd rfl (.inl rfl)) (pgs_cons (pg_name (i := 5) sc_others_right.nd rfl (.inl rfl)) pgs_nil)))
          (fun _ _ _ _ _ => pts_nil) (fun _ _ _ _ _ => pe_call GS hr rfl gS FS.kp bS .nil pass0 (pa_cons (pv 5) (pa_cons (pe_op op_add pe_int (pv 4)) (pa_cons (pe_lst (pa_cons pe_int pa_nil)) pa_nil))))) pa_nil))))))) (pss_one (ps_ret pe_bl)) pss_nil)
    (pss_cons (ps_if (PW.pt (pw_or (pt_not (pt_val (pe_call GS hr rfl gS FS.kp bS .nil pass0 (pa_cons (pe_mk1 C.x18 hr rfl (pv 0)) (pa_cons pe_int (pa_cons (pe_lst (pa_cons pe_int pa_nil)) pa_nil))))))
        (pw_or1 (pt_not (pt_val (pe_call GS hr rfl gS FS.kp bS .nil pass0 (pa_cons (pe_mk1 C.x19 hr rfl (pv 0)) (pa_cons pe_int (pa_cons (pe_lst (pa_cons pe_int pa_nil)) pa_nil))))))))) (pss_one (ps_ret pe_bl)) pss_nil)
    (pss_one (ps_ret (pe_and (pe_cmpR (op_eqD hr.units) (pe_call GW (hr.mono (by decide)) rfl gW FW.kp bW .nil pass0 (pa_cons (pe_mk0 C.x20 rfl (pv 1)) pa_nil)) (pe_lst pa_nil) (nomark _))
      (pe_one (pe_cmpR (op_eqD hr.units) (pe_call GB (hr.mono (by decide)) rfl gB FB.kp bB .nil pass0 (pa_cons (pe_mk0 C.x20 rfl (pv 1)) pa_nil)) (pe_lst (pa_cons pe_int (pa_cons pe_int pa_nil))) (nomark _)))))))))))  , ?_⟩)
  · obtain ⟨one, d1, z, rfl, _⟩ := h
    rfl
  · obtain ⟨one, d1, z, rfl, x1, f1, q⟩ := h
    have ow : ∀ i, 12 ≤ i → i < 20 → Own K (c i) := fun i h0 hi => by
      by_cases e : i = 12
      · subst e
        exact C.a1.own
      · by_cases e2 : i < 18
        · exact (C.a2 i (by omega) e2).own
        · exact (C.a3 i (by omega) hi).own
    refine ⟨_, rfl, one, rfl, fun t1 H1 s1 n1 e1 => ⟨t1, c 12, _, one, rfl, e1, ow 12 (by decide) (by decide), C.x12.no, (by rw [lookup_put, if_pos rfl]), ?_⟩⟩
    refine ⟨_, rfl, one, rfl, fun t2 H2 s2 n2 e2 => ⟨t2, c 13, _, one, rfl, e2, ow 13 (by decide) (by decide), C.x13.no, (by rw [lookup_put, if_pos rfl]), ?_⟩⟩
    refine ⟨_, rfl, one, rfl, fun t3 H3 s3 n3 e3 => ⟨t3, c 14, _, one, rfl, e3, ow 14 (by decide) (by decide), C.x14.no, (by rw [lookup_put, if_pos rfl]), ?_⟩⟩
    refine ⟨_, rfl, one, rfl, fun t4 H4 s4 n4 e4 => ⟨t4, c 15, _, one, rfl, e4, ow 15 (by decide) (by decide), C.x15.no, (by rw [lookup_put, if_pos rfl]), ?_⟩⟩
    refine ⟨_, rfl, one, rfl, fun t5 H5 s5 n5 e5 => ⟨t5, c 16, _, one, rfl, e5, ow 16 (by decide) (by decide), C.x16.no, (by rw [lookup_put, if_pos rfl]), ?_⟩⟩
    refine ⟨_, rfl, one, rfl, fun t6 H6 s6 n6 e6 => ⟨t6, c 17, _, one, rfl, e6, ow 17 (by decide) (by decide), C.x17.no, (by rw [lookup_put, if_pos rfl]), ?_⟩⟩
    refine ⟨by show 6 ≤ sizeLine; decide, fun l nl => ?_⟩
    obtain ⟨s7, m7⟩ := fresh2 (o := .lst [one, one, one, one, one, one]) nl
    refine ⟨_, rfl, _, rfl, one, rfl, fun t7 H7 s8 n7 e7 => ⟨t7, c 18, _, one, rfl, e7, ow 18 (by decide) (by decide), C.x18.no, (by rw [lookup_put, if_pos rfl]), ?_⟩⟩
    refine ⟨_, rfl, one, rfl, fun t8 H8 s9 n8 e8 => ⟨t8, c 19, _, one, rfl, e8, ow 19 (by decide) (by decide), C.x19.no, (by rw [lookup_put, if_pos rfl]), ?_⟩⟩
    refine ⟨by show 2 ≤ sizeLine; decide, fun l2 nl2 => ?_⟩
    obtain ⟨s10, m10⟩ := fresh2 (o := .lst [one, one]) nl2
    refine ⟨l, l2, _, _, rfl, rfl, s10 _ _ (s9 _ _ (s8 _ _ m7)), m10, by show 8 ≤ sizeLine; decide, fun l3 nl3 => ?_⟩
    obtain ⟨s11, m11⟩ := fresh2 (o := .lst [one, one, one, one, one, one, one, one]) nl3
    have s16 := (((((s1.trans s2).trans s3).trans s4).trans s5).trans s6).trans s7
    have s1b := ((s16.trans s8).trans s9).trans (s10.trans s11)
    have y1 := Dx.same s1b _ _ x1
    obtain ⟨g1, g2, g3⟩ := fine_list (ds := [d1, d1, d1, d1, d1, d1, d1, d1]) (by intro d hd; simp only [List.mem_cons, List.not_mem_nil, or_false, or_self] at hd; subst hd; exact f1) (by show 8 ≤ 100; decide)
    refine ⟨l3, _, rfl, .lst m11 (.cons y1 (.cons y1 (.cons y1 (.cons y1 (.cons y1 (.cons y1 (.cons y1 (.cons y1 .nil)))))))), g1, g2, g3, ?_⟩
    refine ⟨_, rfl, by show 1 ≤ sizeLine; decide, fun k2 nk2 => ?_⟩
    obtain ⟨u2, v2⟩ := fresh2 (o := .lst [one]) nk2
    refine ⟨k2, 8, _, rfl, rfl, v2, by decide, by decide, by show 1 * 8 ≤ sizeLine; decide, fun k3 nk3 => ?_⟩
    obtain ⟨u3, v3⟩ := fresh2 (o := .lst [one, one, one, one, one, one, one, one]) nk3
    have u23 := u2.trans u3
    have z1 := Dx.same u23 _ _ y1
    refine ⟨k3, _, rfl, .lst v3 (.cons z1 (.cons z1 (.cons z1 (.cons z1 (.cons z1 (.cons z1 (.cons z1 (.cons z1 .nil)))))))), g1, g2, g3, ?_⟩
    refine ⟨rfl, _, rfl, ?_⟩
    refine iteNS rfl ?_
    have w1 := s1b.trans u23
    refine ⟨_, rfl, one, rfl, fun a1 J1 r1 q1 b1 => ?_⟩
    refine ⟨_, rfl, one, rfl, fun a2 J2 r2 q2 b2 => ?_⟩
    refine ⟨_, rfl, one, rfl, fun a3 J3 r3 q3 b3 => ?_⟩
    refine ⟨_, rfl, one, rfl, fun a4 J4 r4 q4 b4 => ?_⟩
    refine ⟨_, rfl, one, rfl, fun a5 J5 r5 q5 b5 => ?_⟩
    refine ⟨by show 5 ≤ sizeLine; decide, fun l5 nl5 => ?_⟩
    obtain ⟨r6, m6⟩ := fresh2 (o := .lst [.ref a1, .ref a2, .ref a3, .ref a4, .ref a5]) nl5
    have rr := ((((r1.trans r2).trans r3).trans r4).trans r5).trans r6
    refine ⟨_, rfl, one, rfl, fun a6 J6 r7 q7 b7 => ?_⟩
    refine ⟨by show 1 ≤ sizeLine; decide, fun lb nb => ?_⟩
    obtain ⟨r8, m8⟩ := fresh2 (o := .lst [.int 2]) nb
    refine ⟨a6, c 12, lb, 12, [2], rfl, by decide, (b7.same r8).isX, C.a1, m8, fun J7 r9 => ?_⟩
    refine ⟨true, rfl, iteF ?_⟩
    have r79 := (r7.trans r8).trans r9
    refine ⟨_, rfl, l5, _, rfl, SqL.of (r79 _ _ m6), fun D nD => ?_⟩
    refine enum_is (K := K) (c := c) (as := [a1, a2, a3, a4, a5]) nD (r79 _ _ m6) (by show 5 ≤ 7; decide) (fun i a ha => ?_) fun H' sm hD => ?_
    · have k6 := r6.trans r79
      have k5 := r5.trans k6
      have k4 := r4.trans k5
      have k3' := r3.trans k4
      have k2' := r2.trans k3'
      match i, ha with
      | 0, ha => cases ha; exact ⟨c 13, (b1.same k2').isX, C.a2 13 (by decide) (by decide)⟩
      | 1, ha => cases ha; exact ⟨c 14, (b2.same k3').isX, C.a2 14 (by decide) (by decide)⟩
      | 2, ha => cases ha; exact ⟨c 15, (b3.same k4).isX, C.a2 15 (by decide) (by decide)⟩
      | 3, ha => cases ha; exact ⟨c 16, (b4.same k5).isX, C.a2 16 (by decide) (by decide)⟩
      | 4, ha => cases ha; exact ⟨c 17, (b5.same k6).isX, C.a2 17 (by decide) (by decide)⟩
      | n + 5, ha => cases ha
    refine ⟨D, _, rfl, SqL.of hD, ?_⟩
    rw [all_true]
    refine ⟨true, rfl, iteF ?_⟩
    refine ⟨_, rfl, one, rfl, fun a7 L1 v10 q8 b8 => ⟨by show 1 ≤ sizeLine; decide, fun lc nc => ?_⟩⟩
    obtain ⟨v11, mc⟩ := fresh2 (o := .lst [.int 4]) nc
    refine ⟨a7, c 18, lc, 18, [4], rfl, by decide, (b8.same v11).isX, C.a3 18 (by decide) (by decide), mc, fun L2 v12 => ⟨true, rfl, iteF ?_⟩⟩
    refine ⟨_, rfl, one, rfl, fun a8 L3 v13 q9 b9 => ⟨by show 1 ≤ sizeLine; decide, fun ld nd => ?_⟩⟩
    obtain ⟨v14, md⟩ := fresh2 (o := .lst [.int 4]) nd
    refine ⟨a8, c 19, ld, 19, [4], rfl, by decide, (b9.same v14).isX, C.a3 19 (by decide) (by decide), md, fun L4 v15 => ⟨true, rfl, iteF ?_⟩⟩
    obtain ⟨ow20, kt, c0, c1, c2, c3, c4, k0, k1, k2, k3, k4, eb⟩ := C.a4
    refine ⟨_, rfl, fun p1 np1 => ?_⟩
    obtain ⟨h1, w1'⟩ := fresh2 (o := ExO (.ref (c 20)) p1) np1
    refine ⟨p1, c 20, _, rfl, .inr w1', ow20, kt, fun l6 L5 h2 nl6 e6' => ?_⟩
    rw [nums_none] at e6'
    refine ⟨by show 0 ≤ sizeLine; omega, fun l7 nl7 => ?_⟩
    obtain ⟨h3, m12⟩ := fresh2 (o := .lst []) nl7
    refine ⟨_, _, dp_ints (h3 _ _ e6'), dp_ints (ns := []) m12, shaped_ints _, shaped_ints _, ?_⟩
    rw [eqv_ints]
    refine ⟨true, rfl, ?_⟩
    rw [if_pos rfl]
    refine ⟨_, rfl, fun p2 np2 => ?_⟩
    obtain ⟨h4, w2'⟩ := fresh2 (o := ExO (.ref (c 20)) p2) np2
    refine ⟨p2, c 20, c0, c1, c2, c3, c4, rfl, .inr w2', ow20, k0, k1, k2, k3, k4, fun l8 L6 h5 nl8 e8' => ?_⟩
    rw [eb] at e8'
    refine ⟨by show 2 ≤ sizeLine; decide, fun l9 nl9 => ?_⟩
    obtain ⟨h6, m13⟩ := fresh2 (o := .lst [.int 0, .int 1]) nl9
    refine ⟨_, _, dp_ints (h6 _ _ e8'), dp_ints (ns := [0, 1]) m13, shaped_ints _, shaped_ints _, ?_⟩
    rw [eqv_ints]
    exact q _ ((((w1.trans (rr.trans (r79.trans sm))).trans (v10.trans (v11.trans v12))).trans (v13.trans (v14.trans v15))).trans ((h1.trans (h2.trans h3)).trans (h4.trans (h5.trans h6))))
end
end Cw
namespace Cw
open PySem PySem.Spec PyProof.Rows L2
section
variable {P : Program} {w : World} {K : PySem.W.Frag} {mg : Str → Option Value} {base : Heap}
def spLaw (K : PySem.W.Frag) : Sp := fun vs H Q _ => ∃ (a : Addr) (ns : List Int), vs = [.ref a] ∧ SqL K H a (ns.map V.int) ∧ ns.length ≤ 63 ∧ ∀ H', Q (.bl true) H'
theorem ok_law {f fP fT fW fR fO : Addr} {fd fdP fdT fdW fdR fdO : FuncData} (F : FnP K "law" "law" S_law f fd)
    (FP : FnP K "_law_pot" "_law_pot" S_pot fP fdP) (bP : Binds K fdP ["_law_script", "_law_k"] []) (GP : FnOk P w K mg base CX0 1 fP fdP ["_law_script", "_law_k"] (spPot K)) (gP : mg "_law_pot" = some (.ref fP))
    (FT : FnP K "_law_thing" "_law_thing" S_thing fT fdT) (bT : Binds K fdT ["_law_pot_here"] []) (GT : FnOk P w K mg base CX0 3 fT fdT ["_law_pot_here"] spThing) (gT : mg "_law_thing" = some (.ref fT))
    (FW : FnP K "_law_word" "_law_word" S_word fW fdW) (bW : Binds K fdW ["_law_pot_here"] []) (GW : FnOk P w K mg base CX0 2 fW fdW ["_law_pot_here"] spWord) (gW : mg "_law_word" = some (.ref fW))
    (FR : FnP K "_law_webs_right" "_law_webs_right" S_webs_right fR fdR) (bR : Binds K fdR ["_law_one", "_law_other", "_law_word_here"] []) (GR : FnG P w K mg base CX0 3 fR fdR ["_law_one", "_law_other", "_law_word_here"] spWR) (gR : mg "_law_webs_right" = some (.ref fR))
    (FO : FnP K "_law_others_right" "_law_others_right" S_others_right fO fdO) (bO : Binds K fdO ["_law_one", "_law_word_here"] []) (GO : FnG P w K mg base CX0 3 fO fdO ["_law_one", "_law_word_here"] spOR) (gO : mg "_law_others_right" = some (.ref fO))
    (mr : mg "range" = none) (mx : mg "max" = none) (mn : mg "min" = none) (ml : mg "len" = none) : FnG P w K mg base CX0 4 f fd ["_law_script"] (spLaw K) := by
  refine defG F sc_law (fun vs H Q E h => ?_) (fun cdv A outer s H vs Q E hG hr h => ⟨_, PSs.nox (pss_cons (ps_for PassesOwn.never rfl (pi_range1 rfl mr (pa_cons (pe_callB (call_max2 rfl) (by rfl) mx (by decide +kernel) (pa_cons pe_int (pa_cons
        (pe_callB (call_min2 rfl) (by rfl) mn (by decide +kernel) (pa_cons (pe_callB call_len_seq (by rfl) ml PySem.boot_len (pa_cons (pv 0) pa_nil)) (pa_cons pe_int pa_nil))) pa_nil))) pa_nil)) (pg_name (i := 1) sc_law.nd rfl (Or.inl rfl))
      (pss_cons (ps_set (i := 2) sc_law.nd rfl (.inl rfl) (pe_call GP (hr.mono (by decide)) rfl gP FP.kp bP .nil pass0 (pa_cons (pv 0) (pa_cons (pv 1) pa_nil))))
      (pss_cons (ps_par (i := 3) (j := 4) (by rfl) sc_law.nd rfl rfl (by decide) rfl rfl (pa_cons (pe_call GT hr rfl gT FT.kp bT .nil pass0 (pa_cons (pv 2) pa_nil)) (pa_cons (pe_call GT hr rfl gT FT.kp bT .nil pass0 (pa_cons (pv 2) pa_nil)) pa_nil)) (by rfl))
      (pss_cons (ps_set (i := 5) sc_law.nd rfl (.inl rfl) (pe_call GW (hr.mono (by decide)) rfl gW FW.kp bW .nil pass0 (pa_cons (pv 2) pa_nil)))
      (pss_one (ps_if (PW.pt (pw_or (pt_not (pt_val (pe_callG GR hG hr rfl gR FR.kp bR .nil pass0 (pa_cons (pv 3) (pa_cons (pv 4) (pa_cons (pv 5) pa_nil))))))
        (pw_or1 (pt_not (pt_val (pe_callG GO hG hr rfl gO FO.kp bO .nil pass0 (pa_cons (pv 3) (pa_cons (pv 5) pa_nil)))))))) (pss_one (ps_ret pe_bl)) pss_nil))))))
    (pss_one (ps_ret pe_bl))), ?_⟩)
  · obtain ⟨a, ns, rfl, _⟩ := h
    rfl
  · obtain ⟨a, ns, rfl, hS, hlen, q⟩ := h
    have hl : (ns.map V.int).length = ns.length := List.length_map ..
    refine ⟨_, rfl, a, _, rfl, .inl hS, _, _, rfl, _, _, rfl, _, rfl, by omega, by omega, ?_⟩
    refine for_it walk_range (fun i σ H2 => Same H H2 ∧ ∃ v1 v2 v3 v4 v5, σ = [some (.ref a), v1, v2, v3, v4, v5]) ⟨fun _ _ e => e, none, none, none, none, none, rfl⟩ (fun _ _ _ _ _ => trivial) ?_ ?_
    · rintro i x σ H2 H2' hi ⟨sm, v1, v2, v3, v4, v5, rfl⟩ ⟨rfl, rfl⟩
      have hi4 : (i : Int) < 1000 := by
        have h1 := hi
        have : i < 100 := by
          refine Nat.lt_of_lt_of_le h1 ?_
          split
          · split <;> omega
          · omega
        omega
      refine ⟨_, rfl, _, rfl, a, ns, _, rfl, sm.seq hS, by omega, by omega, fun p H3 s3 np hP => ?_⟩
      refine ⟨_, rfl, p, rfl, hP, fun one d1 H4 th1 dr1 => ?_⟩
      refine ⟨_, rfl, p, rfl, dr1.2, fun other d2 H5 th2 dr2 => ?_⟩
      refine ⟨_, _, rfl, ?_⟩
      refine ⟨_, rfl, p, rfl, dr2.2, fun z H6 hz dr3 => ?_⟩
      have t1 := ((th1.but dr2.1).but dr3.1).dx
      have t2 := (th2.but dr3.1).dx
      have keep : Same H H6 := fun b o e => by
        have n : b ≠ p := ne_of_none (sm b o e) np
        exact dr3.1 b o n (dr2.1 b o n (dr1.1 b o n (s3 b o (sm b o e))))
      refine ⟨_, rfl, _, rfl, _, rfl, one, other, d1, d2, z, rfl, t1, th1.2, t2, th2.2, fun H7 s7 => ⟨true, rfl, iteF ?_⟩⟩
      refine ⟨_, rfl, _, rfl, one, d1, z, rfl, Dx.same s7 _ _ t1, th1.2, fun H8 s8 => ⟨true, rfl, iteF ?_⟩⟩
      exact ⟨(keep.trans s7).trans s8, _, _, _, _, _, rfl⟩
    · rintro σ H2 ⟨sm, v1, v2, v3, v4, v5, rfl⟩
      exact q H2
end
end Cw
namespace Cw
open PySem PySem.Spec PyProof.Rows L2
/-! ### the head: facts by names, the run -/
def clsNames : List Str := ["NoWeb", "NoText", "NoWalk", "NoPaper", "NoCount", "NoPlace", "NoState", "NoLength", "NoName", "NoCries", "NoBack", "NoRow", "NoSuch", "Taken", "Same", "Crying", "Alone", "Endless", "Crowded", "TooMany", "WebError"]
def cA (K : PySem.W.Frag) (i : Nat) : Addr := He.ga K (clsNames.getD i "")
def bmOf (B : String) : List Value := [.type B, .type "Exception", .type "BaseException", .type "object"]
def baseOf (i : Nat) : String := if i < 12 then "ValueError" else if i = 12 then "LookupError" else if i < 18 then "RuntimeError" else if i < 20 then "ArithmeticError" else "ValueError"
/-- which of the five bases: by their numbers -/
def bOf (i : Nat) : List Bool := if i < 12 then [true, true, false, false, false] else if i = 12 then [false, false, true, false, false] else if i < 18 then [false, false, false, true, false] else if i < 20 then [false, false, false, false, true] else [true, true, false, false, false]
def flds : List (Nat × Str) := [(0, "what"), (0, "who"), (1, "row"), (2, "number"), (3, "row"), (8, "who"), (12, "who"), (13, "who"), (14, "who"), (15, "who"), (16, "who"), (17, "who"), (18, "most"), (19, "limit")]
def bare0 : List Nat := [4, 5, 6, 7, 9, 10, 11, 20]
def exK (K : PySem.W.Frag) : Bool := (match K.lookup sysModules with | some o => decide (o.cls = .type "dict") | none => false) &&
  (((List.range 21).all fun i => exB K (cA K i) (bmOf (baseOf i)) (baseOf i ++ ".__new__")) &&
  ((bare0.all fun i => PySem.W.excIn K (cA K i) (bmOf (baseOf i)) (baseOf i ++ ".__new__")) &&
  ((flds.all fun p => decide (PySem.W.takerIn K (cA K p.1) p.2 = some none) && decide (PySem.W.findIn K (.ref (cA K p.1)) p.2 = some none)) &&
  (((List.range 21).all fun i => (List.range 20).all fun j => decide (PySem.W.kitOne K (.ref (cA K i)) (.ref (cA K j)) = some (decide (j = i)))) &&
  ((List.range 21).all fun i => decide (PySem.W.kitOne K (.ref (cA K i)) (.ref (cA K 20)) = some ((bOf i).getD 0 false)) && (decide (PySem.W.kitOne K (.ref (cA K i)) (.type "ValueError") = some ((bOf i).getD 1 false)) &&
    (decide (PySem.W.kitOne K (.ref (cA K i)) (.type "LookupError") = some ((bOf i).getD 2 false)) && (decide (PySem.W.kitOne K (.ref (cA K i)) (.type "RuntimeError") = some ((bOf i).getD 3 false)) &&
    decide (PySem.W.kitOne K (.ref (cA K i)) (.type "ArithmeticError") = some ((bOf i).getD 4 false))))))))))
/-! ### a hook with one Bool more, and the table of modules among its objects -/
def frC (n : Nat) (g : Addr → Option Obj) : PySem.W.Frag := He.frG g (sysModules :: He.asD g n)
abbrev AlC : Type := He.AlD × Bool
def obC (n : Nat) (fa : List He.Fa) (fn : List He.DefD) (ex : PySem.W.Frag → Bool) (g : Addr → Option Obj) : AlC := (He.obsD fa fn (frC n g), ex (frC n g))
def hookC (n : Nat) (fa : List He.Fa) (fn : List He.DefD) (ex : PySem.W.Frag → Bool) : PySem.W.Hook where
  α := AlC
  obs := fun s => obC n fa fn ex s.heap.get?
  val := fun _ => (He.valD fn, true)
  says := fun _ h => ∃ K : PySem.W.Frag, K.In h ∧ He.SaysD fa fn K ∧ ex K = true
  of := fun _ s e => ⟨frC n s.heap.get?, He.frG_in, congrArg Prod.fst e, congrArg Prod.snd e⟩
  keeps := fun _ _ _ z k => by
    obtain ⟨K, kin, a, b⟩ := z
    exact ⟨K, PySem.W.Frag.In.keeps kin k, a, b⟩
theorem obC_eq {n : Nat} {fa : List He.Fa} {fn : List He.DefD} {ex : PySem.W.Frag → Bool} {g : Addr → Option Obj} {s : Shared} (h : ∀ a, g a = s.heap.get? a) : obC n fa fn ex g = (hookC n fa fn ex).obs s := by
  have e : g = s.heap.get? := funext h
  rw [e]
  rfl

def d_pot : He.DefD := ⟨("_law_pot", none), "_law_pot", "_law_pot", defArgs S_pot, defBody S_pot, defScope S_pot, [], []⟩
def d_take : He.DefD := ⟨("_law_take", none), "_law_take", "_law_take", defArgs S_take, defBody S_take, defScope S_take, [], []⟩
def d_among : He.DefD := ⟨("_law_among", none), "_law_among", "_law_among", defArgs S_among, defBody S_among, defScope S_among, [], []⟩
def d_word : He.DefD := ⟨("_law_word", none), "_law_word", "_law_word", defArgs S_word, defBody S_word, defScope S_word, [], []⟩
def d_thing : He.DefD := ⟨("_law_thing", none), "_law_thing", "_law_thing", defArgs S_thing, defBody S_thing, defScope S_thing, [], []⟩
def d_which : He.DefD := ⟨("_law_which", none), "_law_which", "_law_which", defArgs S_which, defBody S_which, defScope S_which, [], []⟩
def d_bases : He.DefD := ⟨("_law_bases", none), "_law_bases", "_law_bases", defArgs S_bases, defBody S_bases, defScope S_bases, [], []⟩
def d_is : He.DefD := ⟨("_law_is", none), "_law_is", "_law_is", defArgs S_is, defBody S_is, defScope S_is, [], []⟩
def d_webs_right : He.DefD := ⟨("_law_webs_right", none), "_law_webs_right", "_law_webs_right", defArgs S_webs_right, defBody S_webs_right, defScope S_webs_right, [], []⟩
def d_others_right : He.DefD := ⟨("_law_others_right", none), "_law_others_right", "_law_others_right", defArgs S_others_right, defBody S_others_right, defScope S_others_right, [], []⟩
def d_law : He.DefD := ⟨("law", none), "law", "law", defArgs S_law, defBody S_law, defScope S_law, [], []⟩
def d_NoWeb : He.DefD := ⟨("NoWeb", some "__init__"), "__init__", "NoWeb.__init__", defArgs S_NoWeb_init, defBody S_NoWeb_init, defScope S_NoWeb_init, [], []⟩
def d_NoText : He.DefD := ⟨("NoText", some "__init__"), "__init__", "NoText.__init__", defArgs S_NoText_init, defBody S_NoText_init, defScope S_NoText_init, [], []⟩
def d_NoWalk : He.DefD := ⟨("NoWalk", some "__init__"), "__init__", "NoWalk.__init__", defArgs S_NoWalk_init, defBody S_NoWalk_init, defScope S_NoWalk_init, [], []⟩
def d_NoPaper : He.DefD := ⟨("NoPaper", some "__init__"), "__init__", "NoPaper.__init__", defArgs S_NoPaper_init, defBody S_NoPaper_init, defScope S_NoPaper_init, [], []⟩
def d_NoName : He.DefD := ⟨("NoName", some "__init__"), "__init__", "NoName.__init__", defArgs S_NoName_init, defBody S_NoName_init, defScope S_NoName_init, [], []⟩
def d_NoSuch : He.DefD := ⟨("NoSuch", some "__init__"), "__init__", "NoSuch.__init__", defArgs S_NoSuch_init, defBody S_NoSuch_init, defScope S_NoSuch_init, [], []⟩
def d_Taken : He.DefD := ⟨("Taken", some "__init__"), "__init__", "Taken.__init__", defArgs S_Taken_init, defBody S_Taken_init, defScope S_Taken_init, [], []⟩
def d_Same : He.DefD := ⟨("Same", some "__init__"), "__init__", "Same.__init__", defArgs S_Same_init, defBody S_Same_init, defScope S_Same_init, [], []⟩
def d_Crying : He.DefD := ⟨("Crying", some "__init__"), "__init__", "Crying.__init__", defArgs S_Crying_init, defBody S_Crying_init, defScope S_Crying_init, [], []⟩
def d_Alone : He.DefD := ⟨("Alone", some "__init__"), "__init__", "Alone.__init__", defArgs S_Alone_init, defBody S_Alone_init, defScope S_Alone_init, [], []⟩
def d_Endless : He.DefD := ⟨("Endless", some "__init__"), "__init__", "Endless.__init__", defArgs S_Endless_init, defBody S_Endless_init, defScope S_Endless_init, [], []⟩
def d_Crowded : He.DefD := ⟨("Crowded", some "__init__"), "__init__", "Crowded.__init__", defArgs S_Crowded_init, defBody S_Crowded_init, defScope S_Crowded_init, [], []⟩
def d_TooMany : He.DefD := ⟨("TooMany", some "__init__"), "__init__", "TooMany.__init__", defArgs S_TooMany_init, defBody S_TooMany_init, defScope S_TooMany_init, [], []⟩
def fn : List He.DefD := [d_pot, d_take, d_among, d_word, d_thing, d_which, d_bases, d_is, d_webs_right, d_others_right, d_law, d_NoWeb, d_NoText, d_NoWalk, d_NoPaper, d_NoName, d_NoSuch, d_Taken, d_Same, d_Crying, d_Alone, d_Endless, d_Crowded, d_TooMany]
def fa : List He.Fa := [.glo "_law_pot", .glo "_law_take", .glo "_law_among", .glo "_law_word", .glo "_law_thing", .glo "_law_which", .glo "_law_bases", .glo "_law_is", .glo "_law_webs_right", .glo "_law_others_right", .glo "law", .glo "NoWeb", .glo "NoText", .glo "NoWalk", .glo "NoPaper", .glo "NoCount", .glo "NoPlace", .glo "NoState", .glo "NoLength", .glo "NoName", .glo "NoCries", .glo "NoBack", .glo "NoRow", .glo "NoSuch", .glo "Taken", .glo "Same", .glo "Crying", .glo "Alone", .glo "Endless", .glo "Crowded", .glo "TooMany", .glo "WebError", .free "len", .free "abs", .free "max", .free "min", .free "range", .free "divmod", .free "isinstance", .free "enumerate", .free "ValueError", .free "LookupError", .free "RuntimeError", .free "ArithmeticError", .free "repr", .free "all", .free "zip", .meth "NoWeb" "__init__", .meth "NoText" "__init__", .meth "NoWalk" "__init__", .meth "NoPaper" "__init__", .meth "NoName" "__init__", .meth "NoSuch" "__init__", .meth "Taken" "__init__", .meth "Same" "__init__", .meth "Crying" "__init__", .meth "Alone" "__init__", .meth "Endless" "__init__", .meth "Crowded" "__init__", .meth "TooMany" "__init__"]
abbrev R : PySem.W.OpenRow := PySem.W.OpenLaw.row PySem.Challenge.rw_crywalks_k18_refusals_made
abbrev hk : PySem.W.Hook := hookC 5 fa fn exK
def ob (s : PySem.W.SharedT) : AlC := obC 5 fa fn exK (HandSHeadRun.getT s)
theorem ob_eq (s : PySem.W.SharedT) : ob s = hk.obs s.abs := obC_eq (HandSHeadRun.getT_eq s)
def loose : List Str := ["WebError", "NoWeb", "NoText", "NoWalk", "NoPaper", "NoCount", "NoPlace", "NoState", "NoLength", "NoName", "NoCries", "NoBack", "NoRow", "NoSuch", "Taken", "Same", "Crying", "Alone", "Endless", "Crowded", "TooMany", "_law_pot", "_law_take", "_law_among", "_law_word", "_law_thing", "_law_which", "_law_bases", "_law_is", "_law_webs_right", "_law_others_right"]
theorem run (w : World) : HandSHeadRun.RunEq R (PySem.W.view R.prog [33]) hk ob 20000 loose w := by
  intro os
  kernel_rfl
end Cw
namespace Cw
open PySem PySem.Spec PyProof.Rows L2
theorem at_all {n : Nat} {f : Nat → Bool} (h : (List.range n).all f = true) (i : Nat) (hi : i < n) : f i = true := List.all_eq_true.mp h i (List.mem_range.mpr hi)
theorem lt21 {p : Nat → Prop} (h0 : p 0) (h1 : p 1) (h2 : p 2) (h3 : p 3) (h4 : p 4) (h5 : p 5) (h6 : p 6) (h7 : p 7) (h8 : p 8) (h9 : p 9) (h10 : p 10) (h11 : p 11) : ∀ i, i < 12 → p i
  | 0, _ => h0
  | 1, _ => h1
  | 2, _ => h2
  | 3, _ => h3
  | 4, _ => h4
  | 5, _ => h5
  | 6, _ => h6
  | 7, _ => h7
  | 8, _ => h8
  | 9, _ => h9
  | 10, _ => h10
  | 11, _ => h11
  | n + 12, h => absurd h (by omega)
theorem facts {P : Program} {w : World} {K : PySem.W.Frag} {h : Heap} {mg : Str → Option Value} {f : Addr} (X : K.In h) (G : h.Ns mainGlobals mg) (hfa : mg ("law" : Str) = some (.ref f)) (c : He.SaysD fa fn K) (ex : exK K = true) :
    ∃ fd : FuncData, (∀ (s : Shared) (v : Value), BindsTo s fd ⟨[v], []⟩ [("_law_script", v)]) ∧ ∀ base : Heap, K.In base → base.Ns mainGlobals mg → FnG P w K mg base CX0 4 f fd ["_law_script"] (spLaw K) := by
  obtain ⟨hmod, ex⟩ := He.ba ex
  obtain ⟨hex, ex⟩ := He.ba ex
  obtain ⟨hbare, ex⟩ := He.ba ex
  obtain ⟨hfl, ex⟩ := He.ba ex
  obtain ⟨hkit, hbas⟩ := He.ba ex
  have HM : HasMods K := by
    cases e : K.lookup sysModules with
    | none =>
      rw [e] at hmod
      cases hmod
    | some o =>
      rw [e] at hmod
      exact ⟨o, e, of_decide_eq_true hmod⟩
  have tV : ∀ i, i < 21 → baseOf i = "ValueError" → ExT K (cA K i) "ValueError" "ValueError.__new__" "ValueError.__init__" (bmOf "ValueError") := fun i hi e => by
    have z := at_all hex i hi
    rw [e] at z
    exact exB_ok PySem.F.excBase_ValueError PySem.F.store_ValueError z
  have tL : ∀ i, i < 21 → baseOf i = "LookupError" → ExT K (cA K i) "LookupError" "LookupError.__new__" "LookupError.__init__" (bmOf "LookupError") := fun i hi e => by
    have z := at_all hex i hi
    rw [e] at z
    exact exB_ok PySem.F.excBase_LookupError PySem.F.store_LookupError z
  have tR : ∀ i, i < 21 → baseOf i = "RuntimeError" → ExT K (cA K i) "RuntimeError" "RuntimeError.__new__" "RuntimeError.__init__" (bmOf "RuntimeError") := fun i hi e => by
    have z := at_all hex i hi
    rw [e] at z
    exact exB_ok PySem.F.excBase_RuntimeError PySem.F.store_RuntimeError z
  have tA : ∀ i, i < 21 → baseOf i = "ArithmeticError" → ExT K (cA K i) "ArithmeticError" "ArithmeticError.__new__" "ArithmeticError.__init__" (bmOf "ArithmeticError") := fun i hi e => by
    have z := at_all hex i hi
    rw [e] at z
    exact exB_ok PySem.F.excBase_ArithmeticError PySem.F.store_ArithmeticError z
  have own : ∀ i, i < 21 → Own K (cA K i) := fun i hi => by
    have cs : baseOf i = "ValueError" ∨ baseOf i = "LookupError" ∨ baseOf i = "RuntimeError" ∨ baseOf i = "ArithmeticError" := by
      unfold baseOf
      repeat' split
      all_goals simp
    rcases cs with e | e | e | e
    · exact ⟨_, _, _, _, tV i hi e⟩
    · exact ⟨_, _, _, _, tL i hi e⟩
    · exact ⟨_, _, _, _, tR i hi e⟩
    · exact ⟨_, _, _, _, tA i hi e⟩
  have isA : ∀ i, i < 21 → ∀ bb, nums 0 [(bOf i).getD 0 false, (bOf i).getD 1 false, (bOf i).getD 2 false, (bOf i).getD 3 false, (bOf i).getD 4 false] = bb → IsA K (cA K) (cA K i) i bb := fun i hi bb eb => by
    have z := at_all hkit i hi
    have y := at_all hbas i hi
    simp only [Bool.and_eq_true, decide_eq_true_eq] at y
    obtain ⟨y0, y1, y2, y3, y4⟩ := y
    exact ⟨own i hi, fun j hj => of_decide_eq_true (at_all z j hj), _, _, _, _, _, y0, y1, y2, y3, y4, eb⟩
  have fl : ∀ p ∈ flds, PySem.W.takerIn K (cA K p.1) p.2 = some none ∧ PySem.W.findIn K (.ref (cA K p.1)) p.2 = some none := fun p hp => by
    have z := List.all_eq_true.mp hfl p hp
    simp only [Bool.and_eq_true, decide_eq_true_eq] at z
    exact z
  have br : ∀ i ∈ bare0, PySem.W.excIn K (cA K i) (bmOf (baseOf i)) (baseOf i ++ ".__new__") = true := fun i hi => List.all_eq_true.mp hbare i hi
  obtain ⟨fd_pot, F_pot⟩ := c.def_ 0 (d := d_pot) rfl
  obtain ⟨fd_take, F_take⟩ := c.def_ 1 (d := d_take) rfl
  obtain ⟨fd_among, F_among⟩ := c.def_ 2 (d := d_among) rfl
  obtain ⟨fd_word, F_word⟩ := c.def_ 3 (d := d_word) rfl
  obtain ⟨fd_thing, F_thing⟩ := c.def_ 4 (d := d_thing) rfl
  obtain ⟨fd_which, F_which⟩ := c.def_ 5 (d := d_which) rfl
  obtain ⟨fd_bases, F_bases⟩ := c.def_ 6 (d := d_bases) rfl
  obtain ⟨fd_is, F_is⟩ := c.def_ 7 (d := d_is) rfl
  obtain ⟨fd_webs_right, F_webs_right⟩ := c.def_ 8 (d := d_webs_right) rfl
  obtain ⟨fd_others_right, F_others_right⟩ := c.def_ 9 (d := d_others_right) rfl
  obtain ⟨fd_law, F_law⟩ := c.def_ 10 (d := d_law) rfl
  obtain ⟨fd_NoWeb, F_NoWeb⟩ := c.def_ 11 (d := d_NoWeb) rfl
  obtain ⟨fd_NoText, F_NoText⟩ := c.def_ 12 (d := d_NoText) rfl
  obtain ⟨fd_NoWalk, F_NoWalk⟩ := c.def_ 13 (d := d_NoWalk) rfl
  obtain ⟨fd_NoPaper, F_NoPaper⟩ := c.def_ 14 (d := d_NoPaper) rfl
  obtain ⟨fd_NoName, F_NoName⟩ := c.def_ 15 (d := d_NoName) rfl
  obtain ⟨fd_NoSuch, F_NoSuch⟩ := c.def_ 16 (d := d_NoSuch) rfl
  obtain ⟨fd_Taken, F_Taken⟩ := c.def_ 17 (d := d_Taken) rfl
  obtain ⟨fd_Same, F_Same⟩ := c.def_ 18 (d := d_Same) rfl
  obtain ⟨fd_Crying, F_Crying⟩ := c.def_ 19 (d := d_Crying) rfl
  obtain ⟨fd_Alone, F_Alone⟩ := c.def_ 20 (d := d_Alone) rfl
  obtain ⟨fd_Endless, F_Endless⟩ := c.def_ 21 (d := d_Endless) rfl
  obtain ⟨fd_Crowded, F_Crowded⟩ := c.def_ 22 (d := d_Crowded) rfl
  obtain ⟨fd_TooMany, F_TooMany⟩ := c.def_ 23 (d := d_TooMany) rfl
  have b_pot := FunD.bindsN (ps := ["_law_script", "_law_k"]) F_pot fun _ _ _ _ _ _ us hl => match us, hl with | [_, _], _ => rfl
  have b_take := FunD.bindsN (ps := ["_law_pot_here", "_law_many"]) F_take fun _ _ _ _ _ _ us hl => match us, hl with | [_, _], _ => rfl
  have b_among := FunD.bindsN (ps := ["_law_pot_here", "_law_some"]) F_among fun _ _ _ _ _ _ us hl => match us, hl with | [_, _], _ => rfl
  have b_word := FunD.bindsN (ps := ["_law_pot_here"]) F_word fun _ _ _ _ _ _ us hl => match us, hl with | [_], _ => rfl
  have b_thing := FunD.bindsN (ps := ["_law_pot_here"]) F_thing fun _ _ _ _ _ _ us hl => match us, hl with | [_], _ => rfl
  have b_which := FunD.bindsN (ps := ["_law_e"]) F_which fun _ _ _ _ _ _ us hl => match us, hl with | [_], _ => rfl
  have b_bases := FunD.bindsN (ps := ["_law_e"]) F_bases fun _ _ _ _ _ _ us hl => match us, hl with | [_], _ => rfl
  have b_is := FunD.bindsN (ps := ["_law_e", "_law_number", "_law_bases_here"]) F_is fun _ _ _ _ _ _ us hl => match us, hl with | [_, _, _], _ => rfl
  have b_webs_right := FunD.bindsN (ps := ["_law_one", "_law_other", "_law_word_here"]) F_webs_right fun _ _ _ _ _ _ us hl => match us, hl with | [_, _, _], _ => rfl
  have b_others_right := FunD.bindsN (ps := ["_law_one", "_law_word_here"]) F_others_right fun _ _ _ _ _ _ us hl => match us, hl with | [_, _], _ => rfl
  have b_NoWeb := FunD.bindsN (ps := ["self", "what", "who"]) F_NoWeb fun _ _ _ _ _ _ us hl => match us, hl with | [_, _, _], _ => rfl
  have b_NoText := FunD.bindsN (ps := ["self", "row"]) F_NoText fun _ _ _ _ _ _ us hl => match us, hl with | [_, _], _ => rfl
  have b_NoWalk := FunD.bindsN (ps := ["self", "number"]) F_NoWalk fun _ _ _ _ _ _ us hl => match us, hl with | [_, _], _ => rfl
  have b_NoPaper := FunD.bindsN (ps := ["self", "row"]) F_NoPaper fun _ _ _ _ _ _ us hl => match us, hl with | [_, _], _ => rfl
  have b_NoName := FunD.bindsN (ps := ["self", "who"]) F_NoName fun _ _ _ _ _ _ us hl => match us, hl with | [_, _], _ => rfl
  have b_NoSuch := FunD.bindsN (ps := ["self", "who"]) F_NoSuch fun _ _ _ _ _ _ us hl => match us, hl with | [_, _], _ => rfl
  have b_Taken := FunD.bindsN (ps := ["self", "who"]) F_Taken fun _ _ _ _ _ _ us hl => match us, hl with | [_, _], _ => rfl
  have b_Same := FunD.bindsN (ps := ["self", "who"]) F_Same fun _ _ _ _ _ _ us hl => match us, hl with | [_, _], _ => rfl
  have b_Crying := FunD.bindsN (ps := ["self", "who"]) F_Crying fun _ _ _ _ _ _ us hl => match us, hl with | [_, _], _ => rfl
  have b_Alone := FunD.bindsN (ps := ["self", "who"]) F_Alone fun _ _ _ _ _ _ us hl => match us, hl with | [_, _], _ => rfl
  have b_Endless := FunD.bindsN (ps := ["self", "who"]) F_Endless fun _ _ _ _ _ _ us hl => match us, hl with | [_, _], _ => rfl
  have b_Crowded := FunD.bindsN (ps := ["self", "most"]) F_Crowded fun _ _ _ _ _ _ us hl => match us, hl with | [_, _], _ => rfl
  have b_TooMany := FunD.bindsN (ps := ["self", "limit"]) F_TooMany fun _ _ _ _ _ _ us hl => match us, hl with | [_, _], _ => rfl
  have e := hfa.symm.trans (He.glo_ok X G (c.fact 10 (f := .glo "law") rfl))
  cases e
  have b := FunD.bindsA (ps := ["_law_script"]) F_law fun _ _ _ _ _ _ us hl => match us, hl with | [_], _ => rfl
  refine ⟨fd_law, fun s v => b s [v] rfl, fun base _ _ => ?_⟩
  have N : Names mg (cA K) := ⟨He.glo_ok X G (c.fact 11 (f := .glo "NoWeb") rfl), He.glo_ok X G (c.fact 12 (f := .glo "NoText") rfl), He.glo_ok X G (c.fact 13 (f := .glo "NoWalk") rfl), He.glo_ok X G (c.fact 14 (f := .glo "NoPaper") rfl), He.glo_ok X G (c.fact 15 (f := .glo "NoCount") rfl), He.glo_ok X G (c.fact 16 (f := .glo "NoPlace") rfl), He.glo_ok X G (c.fact 17 (f := .glo "NoState") rfl), He.glo_ok X G (c.fact 18 (f := .glo "NoLength") rfl), He.glo_ok X G (c.fact 19 (f := .glo "NoName") rfl), He.glo_ok X G (c.fact 20 (f := .glo "NoCries") rfl), He.glo_ok X G (c.fact 21 (f := .glo "NoBack") rfl), He.glo_ok X G (c.fact 22 (f := .glo "NoRow") rfl), He.glo_ok X G (c.fact 23 (f := .glo "NoSuch") rfl), He.glo_ok X G (c.fact 24 (f := .glo "Taken") rfl), He.glo_ok X G (c.fact 25 (f := .glo "Same") rfl), He.glo_ok X G (c.fact 26 (f := .glo "Crying") rfl), He.glo_ok X G (c.fact 27 (f := .glo "Alone") rfl), He.glo_ok X G (c.fact 28 (f := .glo "Endless") rfl), He.glo_ok X G (c.fact 29 (f := .glo "Crowded") rfl), He.glo_ok X G (c.fact 30 (f := .glo "TooMany") rfl), He.glo_ok X G (c.fact 31 (f := .glo "WebError") rfl), He.free_ok X G (c.fact 38 (f := .free "isinstance") rfl), He.free_ok X G (c.fact 39 (f := .free "enumerate") rfl), He.free_ok X G (c.fact 40 (f := .free "ValueError") rfl), He.free_ok X G (c.fact 41 (f := .free "LookupError") rfl), He.free_ok X G (c.fact 42 (f := .free "RuntimeError") rfl), He.free_ok X G (c.fact 43 (f := .free "ArithmeticError") rfl)⟩
  have M_NoWeb := He.meth_ok (c.fact 47 (f := .meth "NoWeb" "__init__") rfl)
  have m0 : Mk2 P w K mg base "NoWeb" "what" "who" (cA K 0) := ⟨He.glo_ok X G (c.fact 11 (f := .glo "NoWeb") rfl), ⟨_, _, _, _, _, _, tV 0 (by decide) (by decide), M_NoWeb.at_, beq_iff_eq.mp M_NoWeb.fn, ok_init2 (P := P) (w := w) (mg := mg) (base := base) F_NoWeb sc_NoWeb_init (tV 0 (by decide) (by decide)) (fl (0, "what") (by decide +kernel)).1 (fl (0, "who") (by decide +kernel)).1 (by decide +kernel) (by decide +kernel) (by decide +kernel) (by decide +kernel), b_NoWeb⟩, (fl (0, "what") (by decide +kernel)).2, (fl (0, "who") (by decide +kernel)).2⟩
  have M_NoText := He.meth_ok (c.fact 48 (f := .meth "NoText" "__init__") rfl)
  have m1 : Mk1 P w K mg base "NoText" "row" (cA K 1) := ⟨He.glo_ok X G (c.fact 12 (f := .glo "NoText") rfl), ⟨_, _, _, _, _, _, tV 1 (by decide) (by decide), M_NoText.at_, beq_iff_eq.mp M_NoText.fn, ok_init1 (P := P) (w := w) (mg := mg) (base := base) F_NoText sc_NoText_init (tV 1 (by decide) (by decide)) (fl (1, "row") (by decide +kernel)).1 (by decide +kernel) (by decide +kernel), b_NoText⟩, (fl (1, "row") (by decide +kernel)).2⟩
  have M_NoWalk := He.meth_ok (c.fact 49 (f := .meth "NoWalk" "__init__") rfl)
  have m2 : Mk1 P w K mg base "NoWalk" "number" (cA K 2) := ⟨He.glo_ok X G (c.fact 13 (f := .glo "NoWalk") rfl), ⟨_, _, _, _, _, _, tV 2 (by decide) (by decide), M_NoWalk.at_, beq_iff_eq.mp M_NoWalk.fn, ok_init1 (P := P) (w := w) (mg := mg) (base := base) F_NoWalk sc_NoWalk_init (tV 2 (by decide) (by decide)) (fl (2, "number") (by decide +kernel)).1 (by decide +kernel) (by decide +kernel), b_NoWalk⟩, (fl (2, "number") (by decide +kernel)).2⟩
  have M_NoPaper := He.meth_ok (c.fact 50 (f := .meth "NoPaper" "__init__") rfl)
  have m3 : Mk1 P w K mg base "NoPaper" "row" (cA K 3) := ⟨He.glo_ok X G (c.fact 14 (f := .glo "NoPaper") rfl), ⟨_, _, _, _, _, _, tV 3 (by decide) (by decide), M_NoPaper.at_, beq_iff_eq.mp M_NoPaper.fn, ok_init1 (P := P) (w := w) (mg := mg) (base := base) F_NoPaper sc_NoPaper_init (tV 3 (by decide) (by decide)) (fl (3, "row") (by decide +kernel)).1 (by decide +kernel) (by decide +kernel), b_NoPaper⟩, (fl (3, "row") (by decide +kernel)).2⟩
  have m4 : Mk0 K mg "NoCount" (cA K 4) := ⟨He.glo_ok X G (c.fact 15 (f := .glo "NoCount") rfl), _, _, _, _, tV 4 (by decide) (by decide), br 4 (by decide)⟩
  have m5 : Mk0 K mg "NoPlace" (cA K 5) := ⟨He.glo_ok X G (c.fact 16 (f := .glo "NoPlace") rfl), _, _, _, _, tV 5 (by decide) (by decide), br 5 (by decide)⟩
  have m6 : Mk0 K mg "NoState" (cA K 6) := ⟨He.glo_ok X G (c.fact 17 (f := .glo "NoState") rfl), _, _, _, _, tV 6 (by decide) (by decide), br 6 (by decide)⟩
  have m7 : Mk0 K mg "NoLength" (cA K 7) := ⟨He.glo_ok X G (c.fact 18 (f := .glo "NoLength") rfl), _, _, _, _, tV 7 (by decide) (by decide), br 7 (by decide)⟩
  have M_NoName := He.meth_ok (c.fact 51 (f := .meth "NoName" "__init__") rfl)
  have m8 : Mk1 P w K mg base "NoName" "who" (cA K 8) := ⟨He.glo_ok X G (c.fact 19 (f := .glo "NoName") rfl), ⟨_, _, _, _, _, _, tV 8 (by decide) (by decide), M_NoName.at_, beq_iff_eq.mp M_NoName.fn, ok_init1 (P := P) (w := w) (mg := mg) (base := base) F_NoName sc_NoName_init (tV 8 (by decide) (by decide)) (fl (8, "who") (by decide +kernel)).1 (by decide +kernel) (by decide +kernel), b_NoName⟩, (fl (8, "who") (by decide +kernel)).2⟩
  have m9 : Mk0 K mg "NoCries" (cA K 9) := ⟨He.glo_ok X G (c.fact 20 (f := .glo "NoCries") rfl), _, _, _, _, tV 9 (by decide) (by decide), br 9 (by decide)⟩
  have m10 : Mk0 K mg "NoBack" (cA K 10) := ⟨He.glo_ok X G (c.fact 21 (f := .glo "NoBack") rfl), _, _, _, _, tV 10 (by decide) (by decide), br 10 (by decide)⟩
  have m11 : Mk0 K mg "NoRow" (cA K 11) := ⟨He.glo_ok X G (c.fact 22 (f := .glo "NoRow") rfl), _, _, _, _, tV 11 (by decide) (by decide), br 11 (by decide)⟩
  have M_NoSuch := He.meth_ok (c.fact 52 (f := .meth "NoSuch" "__init__") rfl)
  have m12 : Mk1 P w K mg base "NoSuch" "who" (cA K 12) := ⟨He.glo_ok X G (c.fact 23 (f := .glo "NoSuch") rfl), ⟨_, _, _, _, _, _, tL 12 (by decide) (by decide), M_NoSuch.at_, beq_iff_eq.mp M_NoSuch.fn, ok_init1 (P := P) (w := w) (mg := mg) (base := base) F_NoSuch sc_NoSuch_init (tL 12 (by decide) (by decide)) (fl (12, "who") (by decide +kernel)).1 (by decide +kernel) (by decide +kernel), b_NoSuch⟩, (fl (12, "who") (by decide +kernel)).2⟩
  have M_Taken := He.meth_ok (c.fact 53 (f := .meth "Taken" "__init__") rfl)
  have m13 : Mk1 P w K mg base "Taken" "who" (cA K 13) := ⟨He.glo_ok X G (c.fact 24 (f := .glo "Taken") rfl), ⟨_, _, _, _, _, _, tR 13 (by decide) (by decide), M_Taken.at_, beq_iff_eq.mp M_Taken.fn, ok_init1 (P := P) (w := w) (mg := mg) (base := base) F_Taken sc_Taken_init (tR 13 (by decide) (by decide)) (fl (13, "who") (by decide +kernel)).1 (by decide +kernel) (by decide +kernel), b_Taken⟩, (fl (13, "who") (by decide +kernel)).2⟩
  have M_Same := He.meth_ok (c.fact 54 (f := .meth "Same" "__init__") rfl)
  have m14 : Mk1 P w K mg base "Same" "who" (cA K 14) := ⟨He.glo_ok X G (c.fact 25 (f := .glo "Same") rfl), ⟨_, _, _, _, _, _, tR 14 (by decide) (by decide), M_Same.at_, beq_iff_eq.mp M_Same.fn, ok_init1 (P := P) (w := w) (mg := mg) (base := base) F_Same sc_Same_init (tR 14 (by decide) (by decide)) (fl (14, "who") (by decide +kernel)).1 (by decide +kernel) (by decide +kernel), b_Same⟩, (fl (14, "who") (by decide +kernel)).2⟩
  have M_Crying := He.meth_ok (c.fact 55 (f := .meth "Crying" "__init__") rfl)
  have m15 : Mk1 P w K mg base "Crying" "who" (cA K 15) := ⟨He.glo_ok X G (c.fact 26 (f := .glo "Crying") rfl), ⟨_, _, _, _, _, _, tR 15 (by decide) (by decide), M_Crying.at_, beq_iff_eq.mp M_Crying.fn, ok_init1 (P := P) (w := w) (mg := mg) (base := base) F_Crying sc_Crying_init (tR 15 (by decide) (by decide)) (fl (15, "who") (by decide +kernel)).1 (by decide +kernel) (by decide +kernel), b_Crying⟩, (fl (15, "who") (by decide +kernel)).2⟩
  have M_Alone := He.meth_ok (c.fact 56 (f := .meth "Alone" "__init__") rfl)
  have m16 : Mk1 P w K mg base "Alone" "who" (cA K 16) := ⟨He.glo_ok X G (c.fact 27 (f := .glo "Alone") rfl), ⟨_, _, _, _, _, _, tR 16 (by decide) (by decide), M_Alone.at_, beq_iff_eq.mp M_Alone.fn, ok_init1 (P := P) (w := w) (mg := mg) (base := base) F_Alone sc_Alone_init (tR 16 (by decide) (by decide)) (fl (16, "who") (by decide +kernel)).1 (by decide +kernel) (by decide +kernel), b_Alone⟩, (fl (16, "who") (by decide +kernel)).2⟩
  have M_Endless := He.meth_ok (c.fact 57 (f := .meth "Endless" "__init__") rfl)
  have m17 : Mk1 P w K mg base "Endless" "who" (cA K 17) := ⟨He.glo_ok X G (c.fact 28 (f := .glo "Endless") rfl), ⟨_, _, _, _, _, _, tR 17 (by decide) (by decide), M_Endless.at_, beq_iff_eq.mp M_Endless.fn, ok_init1 (P := P) (w := w) (mg := mg) (base := base) F_Endless sc_Endless_init (tR 17 (by decide) (by decide)) (fl (17, "who") (by decide +kernel)).1 (by decide +kernel) (by decide +kernel), b_Endless⟩, (fl (17, "who") (by decide +kernel)).2⟩
  have M_Crowded := He.meth_ok (c.fact 58 (f := .meth "Crowded" "__init__") rfl)
  have m18 : Mk1 P w K mg base "Crowded" "most" (cA K 18) := ⟨He.glo_ok X G (c.fact 29 (f := .glo "Crowded") rfl), ⟨_, _, _, _, _, _, tA 18 (by decide) (by decide), M_Crowded.at_, beq_iff_eq.mp M_Crowded.fn, ok_init1 (P := P) (w := w) (mg := mg) (base := base) F_Crowded sc_Crowded_init (tA 18 (by decide) (by decide)) (fl (18, "most") (by decide +kernel)).1 (by decide +kernel) (by decide +kernel), b_Crowded⟩, (fl (18, "most") (by decide +kernel)).2⟩
  have M_TooMany := He.meth_ok (c.fact 59 (f := .meth "TooMany" "__init__") rfl)
  have m19 : Mk1 P w K mg base "TooMany" "limit" (cA K 19) := ⟨He.glo_ok X G (c.fact 30 (f := .glo "TooMany") rfl), ⟨_, _, _, _, _, _, tA 19 (by decide) (by decide), M_TooMany.at_, beq_iff_eq.mp M_TooMany.fn, ok_init1 (P := P) (w := w) (mg := mg) (base := base) F_TooMany sc_TooMany_init (tA 19 (by decide) (by decide)) (fl (19, "limit") (by decide +kernel)).1 (by decide +kernel) (by decide +kernel), b_TooMany⟩, (fl (19, "limit") (by decide +kernel)).2⟩
  have m20 : Mk0 K mg "WebError" (cA K 20) := ⟨He.glo_ok X G (c.fact 31 (f := .glo "WebError") rfl), _, _, _, _, tV 20 (by decide) (by decide), br 20 (by decide)⟩
  have CC : Clss P w K mg base (cA K) := ⟨m0, m1, m2, m3, m4, m5, m6, m7, m8, m9, m10, m11, m12, m13, m14, m15, m16, m17, m18, m19, m20, lt21 (isA 0 (by decide) _ rfl) (isA 1 (by decide) _ rfl) (isA 2 (by decide) _ rfl) (isA 3 (by decide) _ rfl) (isA 4 (by decide) _ rfl) (isA 5 (by decide) _ rfl) (isA 6 (by decide) _ rfl) (isA 7 (by decide) _ rfl) (isA 8 (by decide) _ rfl) (isA 9 (by decide) _ rfl) (isA 10 (by decide) _ rfl) (isA 11 (by decide) _ rfl), isA 12 (by decide) _ rfl, fun i h1 h2 => ?_, fun i h1 h2 => ?_, isA 20 (by decide) _ rfl⟩
  case refine_1 => exact isA i (by omega) _ (by
    have e : bOf i = [false, false, false, true, false] := by
      unfold bOf
      rw [if_neg (by omega), if_neg (by omega), if_pos h2]
    rw [e]
    rfl)
  case refine_2 => exact isA i (by omega) _ (by
    have e : bOf i = [false, false, false, false, true] := by
      unfold bOf
      rw [if_neg (by omega), if_neg (by omega), if_neg (by omega), if_pos h2]
    rw [e]
    rfl)
  have GPot := ok_pot (P := P) (w := w) (base := base) (mg := mg) F_pot (He.free_ok X G (c.fact 32 (f := .free "len") rfl)) (He.free_ok X G (c.fact 33 (f := .free "abs") rfl)) (He.free_ok X G (c.fact 34 (f := .free "max") rfl))
  have GTake := ok_take (P := P) (w := w) (base := base) (mg := mg) F_take (He.free_ok X G (c.fact 37 (f := .free "divmod") rfl))
  have gTake := He.glo_ok X G (c.fact 1 (f := .glo "_law_take") rfl)
  have GAmong := ok_among F_among F_take b_take GTake gTake (He.free_ok X G (c.fact 32 (f := .free "len") rfl))
  have GWord := ok_word F_word F_take b_take GTake gTake (He.free_ok X G (c.fact 36 (f := .free "range") rfl))
  have GThing := ok_thing F_thing F_take b_take GTake gTake F_among b_among GAmong (He.glo_ok X G (c.fact 2 (f := .glo "_law_among") rfl)) F_word b_word GWord (He.glo_ok X G (c.fact 3 (f := .glo "_law_word") rfl))
  have GWhich := ok_which (P := P) (w := w) (base := base) F_which N
  have GBases := ok_bases (P := P) (w := w) (base := base) F_bases N
  have GIs := ok_is F_is F_which b_which GWhich (He.glo_ok X G (c.fact 5 (f := .glo "_law_which") rfl)) F_bases b_bases GBases (He.glo_ok X G (c.fact 6 (f := .glo "_law_bases") rfl))
  have GWebs := ok_webs F_webs_right CC HM F_is b_is GIs (He.glo_ok X G (c.fact 7 (f := .glo "_law_is") rfl)) (He.free_ok X G (c.fact 44 (f := .free "repr") rfl)) (He.free_ok X G (c.fact 45 (f := .free "all") rfl)) (He.free_ok X G (c.fact 46 (f := .free "zip") rfl))
  have GOth := ok_others F_others_right CC HM F_is b_is GIs (He.glo_ok X G (c.fact 7 (f := .glo "_law_is") rfl)) F_which b_which GWhich (He.glo_ok X G (c.fact 5 (f := .glo "_law_which") rfl)) F_bases b_bases GBases (He.glo_ok X G (c.fact 6 (f := .glo "_law_bases") rfl)) (He.free_ok X G (c.fact 44 (f := .free "repr") rfl)) (He.free_ok X G (c.fact 45 (f := .free "all") rfl)) (He.free_ok X G (c.fact 39 (f := .free "enumerate") rfl))
  exact ok_law F_law F_pot b_pot GPot (He.glo_ok X G (c.fact 0 (f := .glo "_law_pot") rfl)) F_thing b_thing GThing (He.glo_ok X G (c.fact 4 (f := .glo "_law_thing") rfl)) F_word b_word GWord (He.glo_ok X G (c.fact 3 (f := .glo "_law_word") rfl)) F_webs_right b_webs_right GWebs (He.glo_ok X G (c.fact 8 (f := .glo "_law_webs_right") rfl)) F_others_right b_others_right GOth (He.glo_ok X G (c.fact 9 (f := .glo "_law_others_right") rfl)) (He.free_ok X G (c.fact 36 (f := .free "range") rfl)) (He.free_ok X G (c.fact 34 (f := .free "max") rfl)) (He.free_ok X G (c.fact 35 (f := .free "min") rfl)) (He.free_ok X G (c.fact 32 (f := .free "len") rfl))
end Cw
open PySem PySem.W PySem.Calls PyProof.Rows
set_option maxRecDepth 100000 in
set_option maxHeartbeats 0 in
theorem PySem.Challenge.cw_crywalks_k18_refusals_made_holds : PySem.Challenge.rw_crywalks_k18_refusals_made.Holds := by
  w_on; o_law
  refine HandSHeadRun.head_any (r := Cw.R) (q := view Cw.R.prog [33]) (H := Cw.hk) (ob := Cw.ob) (M := 20000) (loose := Cw.loose) (d := HandSHeadRun.topDef Cw.R.prog 33) (kwd := []) Cw.ob_eq
    (by kernel_rfl) (fun s => by kernel_rfl) Cw.run (by kernel_rfl) (by kernel_rfl) (by kernel_rfl) (by rfl) (by first | assumption | decide +kernel) (by decide +kernel) ⟨rfl, rfl, rfl, rfl, rfl, by decide +kernel⟩ ?hw ?hc
  case hw => w_witness2
  case hc =>
    refine Cw.walkG (l := PySem.Challenge.rw_crywalks_k18_refusals_made) (n := 63) (k := 4) (x := "_law_script") rfl (by decide) (by kernel_rfl) ⟨rfl, by decide, by decide⟩ ?F
    intro w mg fa h Y G hmg0
    obtain ⟨K, KX, c, ex⟩ := Y
    have hmg : mg ("law" : PySem.Str) = some (.ref fa) := by
      have e : (HandSHeadRun.topDef Cw.R.prog 33).name = ("law" : PySem.Str) := by kernel_rfl
      rw [← e]
      exact hmg0
    obtain ⟨fd, hb, hF⟩ := Cw.facts (P := PySem.Challenge.rw_crywalks_k18_refusals_made.prog) (w := w) KX G hmg c ex
    exact ⟨K, fd, Cw.spLaw K, KX, hb, fun H a ns hl _ hS => ⟨a, ns, rfl, hS, hl, fun _ => rfl⟩, hF⟩
