import PyProof.Rows.All
import Wide.All
import OpenK.AllK
import Wide.FinOn
import HandS.ForMost
import HandS.ForExc
import HandS.ExcIs
import HandS.ExcField
import KE.KExcIs
import HandS.IsInst
import KE.KCallOwn
import PyProof.InstNe
import HandS.RaiseMore
import HandS.Lambda
import HandS.EndTab
import KE.KDictCopyH
import HandS.ExcInit
import HandS.MakeKw
import HandS.DictComp
import HandS.Walk
import HandS.Iter
import HandS.Comp
import HandS.Text
import HandS.ExcValue
import HandS.ClsMeth
import HandS.Gcd
import HandS.Wide
import HandS.MakeKwOnly
import HandS.Defaults
import HandS.Dict
import HandS.Style
import PySem.Challenge.RW_layerseen_k01_errors_and_their_fields
set_option Elab.async false
set_option linter.all false
set_option maxRecDepth 100000
set_option maxHeartbeats 4000000

namespace My
open PySem PySem.Spec PyProof.Rows L2

/-- what the walk of the law's body has to give, the guards being known -/
def LawBody (l : PySem.W.OpenLaw) (w : World) (K : PySem.W.Frag) (mg : Str → Option Value) (n : Nat) (N : List Str) (qual : Str) (st : Stmt) (fa : Addr) : Prop :=
  ∀ base : Heap, K.In base → base.Ns mainGlobals mg → ∀ (cdv : Value) (s : Shared) (H : Hp) (a : Addr) (ns : List Int), ns.length ≤ n → Only H → SqL K H a (ns.map V.int) →
    ∃ t, PSs (cxOf CX0 l.prog w K mg base N qual (defScope st) fa cdv callerA [] s H E0).nox (defBody st) t ∧
      t { nx := fun _ _ => False, rt := fun v _ => v = .bl true } (start N [.ref a]) H

/-- one call of the law from an abstract heap -/
theorem enter {l : PySem.W.OpenLaw} {w : World} {K : PySem.W.Frag} {mg : Str → Option Value} {n : Nat} {N : List Str} {x nm qual : Str} {st : Stmt} {fa a : Addr} {fd : FuncData}
    {base : Heap} {s : Shared} {H : Hp} {ns : List Int}
    (F : Fun K nm qual st fa fd) (S : FnScope N [x] (defScope st)) (hb : ∀ (s : Shared) (u : Value), BindsTo s fd ⟨[u], []⟩ [(x, u)])
    (B : LawBody l w K mg n N qual st fa) (hKb : K.In base) (hNb : base.Ns mainGlobals mg) (hn : ns.length ≤ n) (hO : Only H) (hS : SqL K H a (ns.map V.int))
    (e0 : Env0 l.prog w K mg base callerA [] s H) :
    codeAny (model l.prog w) callerA (.call (.ref fa) ⟨[.ref a], []⟩)
      (fun r s' => r = .ok (.ret (.bool true)) ∧ ∃ H', s'.os = s.os ∧ AllBare s'.gens ∧ Un [] [] H H' s.heap s'.heap ∧ HOk l.prog w H' s'.heap) s := by
  obtain ⟨oc, od, kV, doc, pm, an, cdv, ct, osl, rfl, lk, hcd⟩ := F.ex
  have stays : ∀ b o, base.get? b = some o → s.heap.get? b = some o := fun b o z => (e0.bs b o z).1
  have KS : K.In s.heap := e0.mod.kin.keeps stays
  have NL : s.heap.NoLimit := e0.mod.nolimit.keeps stays
  have kinds : ∀ y ∈ [x].zip [Value.ref a], (defScope st).names.lookup y.1 = some .local ∨ ((defScope st).names.lookup y.1 = some .cell ∧ ((cellsFrom (s.heap.objs.size + 1) (defScope st).names []).lookup y.1).isSome = true) := by
    intro y hy
    obtain rfl : y = (x, Value.ref a) := List.mem_singleton.mp hy
    cases S.par x (List.mem_singleton.mpr rfl) with
    | inl q => exact .inl q
    | inr q => exact .inr ⟨q, PySem.W.cellsFrom_some _ _ _ (.inl q)⟩
  refine codeAny_call_function (by decide) (KS _ _ lk) rfl S.co S.gen rfl (PySem.W.codeRec_of KS hcd) (hb s (.ref a) _ _ _ _ ?_)
  refine wpAny_newFunctionEnv_cells S.kind kinds fun env he s2 ic => ?_
  subst he
  refine ⟨NL.keeps ic.toInCall.keep, codeAny_func ?_⟩
  obtain ⟨t, ht, hq⟩ := B base hKb hNb cdv s H a ns hn hO hS
  have J0 := inv_start (E := E0) (CX := CX0) S (show callerA.handled = none from rfl) e0 (vs := [.ref a]) (us := [.ref a]) rfl (.cons rfl .nil) ic
  refine wpAny_mono (ht.run [] s2 (start N [.ref a]) H _ (J0.wish _) hq) (fun fl s' hs => ?_) fun e s' hs => hs.elim
  cases fl with
  | ret u =>
    obtain ⟨v, σ', H', J, rv, q⟩ := hs
    subst q
    obtain rfl : u = Value.bool true := rv
    exact ⟨rfl, H', J.os, J.bare, J.base, J.hok⟩
  | next => exact (let ⟨_, _, _, q⟩ := hs; q).elim
  | brk => exact (let ⟨_, _, _, q⟩ := hs; q).elim
  | cont => exact (let ⟨_, _, _, q⟩ := hs; q).elim

/-- the object of the script, looked at through its abstract heap -/
def scriptHp (a : Addr) (vs : List Value) (ns : List Int) : Hp := fun b => if b = a then some (.frz { cls := .type "list", data := .seq vs.toArray } (.lst (ns.map V.int))) else none

/-- from one call in an abstract heap to the call that is asked for -/
theorem settle {l : PySem.W.OpenLaw} {w : World} {K : PySem.W.Frag} {mg mb : Str → Option Value} {n : Nat} {N : List Str} {x nm qual : Str} {st : Stmt} {fa a : Addr} {fd : FuncData} {s : Shared} {H : Hp} {ns : List Int} {vs : List Value}
    (KX : K.In s.heap) (hns : s.heap.Ns mainGlobals mg) (hb : s.heap.Ns builtinsNs mb) (hbb : ∀ x : Str, x ≠ "__name__" → mb x = bootBuiltins x) (hlim : s.heap.NoLimit) (hg : s.gens = #[])
    (ha : s.heap.get? a = some { cls := .type "list", data := .seq vs.toArray }) (hn : ns.length ≤ n)
    (F : Fun K nm qual st fa fd) (S : FnScope N [x] (defScope st)) (hbi : ∀ (s : Shared) (u : Value), BindsTo s fd ⟨[u], []⟩ [(x, u)]) (B : LawBody l w K mg n N qual st fa)
    (hO : Only H) (hS : SqL K H a (ns.map V.int)) (hok : HOk l.prog w H s.heap) (one : ∀ b, H b ≠ none → b = a) (out : H a ≠ none → K.lookup a = none) :
    codeAny (model l.prog w) callerA (.call (.ref fa) ⟨[.ref a], []⟩) (fun r s' => r = .ok (.ret (.bool true)) ∧ OldK s.heap s'.heap ∧ s'.os = s.os ∧ AllBare s'.gens) s := by
  have seen : ∀ {b : Addr} {o : Obj}, H b = none → s.heap.get? b = some o → (hidT s.heap H).get? b = some o := fun q e => hidT_get e q
  have free : ∀ {b : Addr} {o : Obj}, s.heap.get? b = some o → (∀ xs k, o.data ≠ .seq xs k) → H b = none := by
    intro b o e nd
    by_cases z : H b = none
    · exact z
    · have eb := one b z
      rw [eb, ha] at e
      injection e with e
      exact absurd (by rw [← e]) (nd vs.toArray 0)
  have names : ∀ {b : Addr} {m : Str → Option Value}, s.heap.Ns b m → (hidT s.heap H).Ns b m := by
    intro b m nb
    obtain ⟨o, es, ep, e, d, rest⟩ := nb
    exact ⟨o, es, ep, seen (free e fun xs k z => by rw [d] at z; injection z) e, d, rest⟩
  have KB : K.In (hidT s.heap H) := by
    intro b o e
    refine seen ?_ (KX b o e)
    by_cases z : H b = none
    · exact z
    · have eb := one b z
      subst eb
      rw [out z] at e
      injection e
  have E0' : Env0 l.prog w K mg (hidT s.heap H) callerA [] s H := by
    refine ⟨rfl, ⟨KB, names hns, ⟨mb, names hb, hbb⟩, ?_⟩, fun b o e => of_hidT e, Nat.le_of_eq (hidT_size _ _), trivial, ?_, hok, .of_eq hg⟩
    · obtain ⟨mc, c1, c2⟩ := hlim
      exact ⟨mc, names c1, c2⟩
    · intro b z
      exact absurd (show b ∈ ([] : List Addr) from z) List.not_mem_nil
  refine codeAny_mono (enter F S hbi B KB (names hns) hn hO hS E0') fun r s' h => ?_
  obtain ⟨e1, H', os, bare, un, hok'⟩ := h
  refine ⟨e1, OldK.of_keep fun b o e => ?_, os, bare⟩
  by_cases z : H b = none
  · exact un.keep b o e z (show b ∉ ([] : List Addr) from List.not_mem_nil) List.not_mem_nil
  · rcases hO b with y | ⟨ob, xs, y⟩
    · exact absurd y z
    · have g1 := (hok b _ y).1
      have g2 := (hok' b _ (un.frzs b ob _ y)).1
      rw [g1] at e
      injection e with e
      rw [← e]
      exact g2

/-- the goal that the head leaves, from the law's body walked with known guards -/
theorem law_top {l : PySem.W.OpenLaw} {n : Nat} {q : Program} {loose : List Str} {XP : (Str → Option Value) → Heap → Prop} {YP : World → Heap → Prop} {d : DefRec} {K : Params → PySem.W.Frag} {N : List Str} {x nm qual : Str} {st : Stmt}
    (hn : l.most = some n) (hn2 : n ≤ sizeLine) (hdf : d.params.defaults = []) (hY : ∀ (w : World) (h : Heap), YP w h → (K w.params).In h)
    (Z : ∀ (w : World) (mg : Str → Option Value) (fa : Addr) (h : Heap), (K w.params).In h → h.Ns mainGlobals mg → mg d.name = some (.ref fa) →
      ∃ fd : FuncData, Fun (K w.params) nm qual st fa fd ∧ FnScope N [x] (defScope st) ∧ (∀ (s : Shared) (u : Value), BindsTo s fd ⟨[u], []⟩ [(x, u)]) ∧ LawBody l w (K w.params) mg n N qual st fa) :
    PySem.W.WalkO q loose XP YP l.row.toRowW d [] (fun f vs => PySem.call f vs) := by
  refine Att.attach_call hn hdf ?_
  intro w s₀ s mg mb fa o pm cd doc a vs ns G Y ho hd hcd hmg hobj hints hlen hg
  have KX : (K w.params).In s.heap := hY w _ Y
  obtain ⟨fd, F, S, hbi, B⟩ := Z w mg fa _ KX G.T.g hmg
  have rv : Vals (ns.map V.int) vs := vals_ints hints
  have top : ns.length ≤ sizeLine := Nat.le_trans hlen hn2
  have plain := @settle l w (K w.params) mg mb n N x nm qual st fa a fd s
  cases hk : (K w.params).lookup a with
  | some u =>
    have e := KX a u hk
    rw [hobj] at e
    injection e with e
    subst e
    refine plain (H := fun _ => none) (ns := ns) (vs := vs) KX G.T.g G.T.b G.T.builtins G.T.nolimit hg hobj hlen F S hbi B (fun _ => .inl rfl) (.inr ⟨_, vs.toArray, _, hk, rfl, rfl, rfl, ?_, ?_⟩) (fun b u z => ?_) (fun b z => absurd rfl z) (fun z => absurd rfl z)
    · rw [List.size_toArray, hints.length]
      exact top
    · simpa using rv
    · injection z
  | none =>
    refine plain (H := scriptHp a vs ns) (ns := ns) (vs := vs) KX G.T.g G.T.b G.T.builtins G.T.nolimit hg hobj hlen F S hbi B (fun b => ?_) (.inl (.inr ⟨_, if_pos rfl⟩)) (fun b u z => ?_) (fun b z => ?_) (fun _ => hk)
    · by_cases eb : b = a
      · exact .inr ⟨_, _, if_pos eb⟩
      · exact .inl (if_neg eb)
    · by_cases eb : b = a
      · have y := (if_pos eb).symm.trans z
        injection y with y
        subst y
        subst eb
        exact ⟨hobj, by rw [List.length_map]; exact top, vs, _, rv, hobj⟩
      · have y := (if_neg eb).symm.trans z
        injection y
    · by_cases eb : b = a
      · exact eb
      · exact absurd (if_neg eb) z
end My
namespace My
open PySem PySem.Spec PyProof.Rows L2
/-- an exception of the class cls that was caught and is still held, its own dict at d -/
def KeptO (cls : Value) (d : Option Addr) (a : Addr) : HO := .ext fun h => ∃ oe vs, h.get? a = some oe ∧ Zc cls d oe ∧ oe.data = .fields vs
theorem kept_ok {P : Program} {w : World} {H : Hp} {h : Heap} {cls : Value} {d : Option Addr} {a : Addr} {oe : Obj} {vs : Array Value} (e : h.get? a = some oe) (z : Zc cls d oe) (f : oe.data = .fields vs) : ObjOk P w H h a (KeptO cls d a) :=
  ⟨⟨oe, vs, e, z, f⟩, ⟨oe, e⟩, fun _ _ ⟨o, v, q, r⟩ k => ⟨o, v, k o q, r⟩⟩
section
variable {X : Cx} {pins : List (Addr × Obj)} {σ : L2.St} {H : Hp} {s : Shared}
/-- an object of ours, made since the entry and not tracked so far, is tracked from now on -/
theorem track {a : Addr} {o : HO} (I : Inv X pins σ H s) (na : H a = none) (n0 : X.s_0.heap.get? a = none) (nL : a ≠ X.env.locals) (nC : ∀ x c, X.env.cells.lookup x = some c → c ≠ a) (nP : ∀ p ∈ X.pn ++ pins, p.1 ≠ a)
    (ok : ObjOk X.prog X.w (upd H a o) s.heap a o) : Inv X pins σ (upd H a o) s := by
  have far : ∀ {b : Addr} {u : HO}, H b = some u → b ≠ a := fun q z => by
    rw [z, na] at q
    cases q
  have up : ∀ {b : Addr} {u : HO}, H b = some u → (upd H a o) b = some u := fun q => by
    rw [upd_ne (far q)]
    exact q
  refine ⟨I.ok, I.os, I.bare, ⟨I.base.keep, I.base.slot, fun b u q n hx => ?_, I.base.there, fun b xs q => up (I.base.tups b xs q), fun b u xs q => up (I.base.frzs b u xs q), fun b ps q => ?_⟩, I.loc, I.cell, ?_, fun x c q => ?_, fun p hp => ?_, fun b u q => ?_, I.len⟩
  · have nb : b ≠ a := fun z => by
      rw [z, n0] at q
      cases q
    rw [upd_ne nb]
    exact I.base.free b u q n hx
  · obtain ⟨more, q1⟩ := I.base.tbls b ps q
    exact ⟨more, up q1⟩
  · rw [upd_ne (Ne.symm nL)]
    exact I.free
  · rw [upd_ne (nC x c q)]
    exact I.freeC x c q
  · obtain ⟨h1, h2, h3⟩ := I.pin p hp
    refine ⟨h1, ?_, h3⟩
    rw [upd_ne (nP p hp)]
    exact h2
  · by_cases hb : b = a
    · subst hb
      rw [upd_same] at q
      injection q with q
      subst q
      exact ok
    · rw [upd_ne hb] at q
      exact (I.hok b u q).stay (fun _ _ _ r => r) (fun _ r => up r) fun _ _ r => up r
end
/-- what `except x as n: suite` wishes of an exception of the body: slot i is n's; behind the suite the exception is held -/
def wKeep (K : PySem.W.Frag) (c : Value) (i : Nat) (ts : Addr → Value → Option Addr → TS) (D : Ends) : WX := fun cls d σ H =>
  PySem.W.exmOne K cls c = some true ∧ ∀ a, H a = none → ts a cls d { nx := fun σ' H' => D.nx (σ'.set i none) (upd H' a (KeptO cls d a)), rt := fun _ _ => False, bk := fun _ _ => False, ct := fun _ _ => False } (σ.set i (some (.ref a))) H
section
variable {X : Cx} {x n : Str} {c : Value} {i : Nat} {body suite : List Stmt} {b₀ : Stmt} {np pos pos' : Pos} {tb : WX → TS} {ts : Addr → Value → Option Addr → TS}
theorem ps_try_keep (hex : X.ex = []) (hs : X.stack = X.env :: X.outer) (hf : X.env.frame = some X.env.locals) (hN : X.N.Nodup) (hi : X.N[i]? = some n) (hln : X.env.kindOf n = some .local) (hc : Names X x c)
    (hb : ∀ (W : WX) (pn : List (Addr × Obj)) (xe : Value → Shared → Prop), Takes (X.tr pn xe) W → PassesOwn (model X.prog X.w) X.A X.env xe → PSs (X.tr pn xe) body (tb W))
    (hsu : ∀ (a : Addr) (oe : Obj) (cls : Value) (d : Option Addr) (pn : List (Addr × Obj)), Zc cls d oe → (∃ vs, oe.data = .fields vs) → PSs (X.suite a ((a, oe) :: pn)) (b₀ :: suite) (ts a cls d)) :
    PS X (.Try body [.ExceptHandler (some (.Name x np)) (some n) (b₀ :: suite) pos'] [] [] pos) (fun D σ H => tb (wKeep X.K c i ts D) D σ H) := by
  constructor
  intro pins s σ H D I h
  have ok := I.ok
  have hfr : X.A.frames = some (X.env :: X.outer) := by rw [ok.frames, hs]
  -- what the body's exceptions are told to
  have caught : Takes (X.tr (X.pn ++ pins) fun e s₁ => wpAny (model X.prog X.w) X.A (noteFrame e X.env) (fun _ s₂ => wpAny (model X.prog X.w) X.A (setFlight e none) (fun _ s₃ =>
      wpAny (model X.prog X.w) X.A (handleBy e X.env [.ExceptHandler (some (.Name x np)) (some n) (b₀ :: suite) pos']) (SP X pins D) X.xe s₃) X.xe s₂) X.xe s₁) (wKeep X.K c i ts D) := by
    intro u s' xx
    obtain ⟨a, B, sI, pins', σ', H', cls, d, rfl, J', nb, up, sky, na, os, ag, hm, go⟩ := xx
    have J : Inv X pins σ' H' sI := J'.ofTry ok
    rw [show (X.tr (X.pn ++ pins) _).stack = X.env :: X.outer from hs] at sky
    show wpAny (model X.prog X.w) X.A (noteFrame (.ref a) X.env) _ _ _
    refine Sky.land Zc.steady hfr hf sky fun h3 fl3 up3 => ?_
    have none_B : B.get? a = none := fl3.2.1
    obtain ⟨oe3, vs3, he3, hz3, hd3⟩ := fl3.there
    have J3 : Inv X pins σ' H' { s' with heap := h3 } := J.landed nb fl3.1 (up.trans up3) os ag
    have out : a ∉ frs (X.env :: X.outer) := by
      intro z
      obtain ⟨_, o, e1, e2⟩ := (fl3.2.2.1).mem z
      have e3 := he3.symm.trans e1
      injection e3 with e3
      exact e2 vs3 (e3 ▸ hd3)
    have nL : a ≠ X.env.locals := fun z => out (List.mem_filterMap.mpr ⟨X.env, List.mem_cons_self, by rw [hf, z]⟩)
    have nF : a ∉ X.fs := fun z => by
      obtain ⟨e, he, e1⟩ := List.mem_filterMap.mp z
      exact out (List.mem_filterMap.mpr ⟨e, List.mem_cons_of_mem _ he, e1⟩)
    have notI : ∀ o, sI.heap.get? a ≠ some o := fun o z => by
      have e1 := nb a o z (by rw [hs]; exact out)
      rw [none_B] at e1
      cases e1
    have n0 : X.s_0.heap.get? a = none := by
      cases z : X.s_0.heap.get? a with
      | none => rfl
      | some o =>
        obtain ⟨o', e1⟩ := J.base.there a o z (by rw [hex]; exact List.not_mem_nil)
        exact absurd e1 (notI o')
    have nP : ∀ p ∈ X.pn ++ pins, p.1 ≠ a := fun p hp z => notI p.2 (z ▸ (J.pin p hp).1)
    have nC : ∀ v cc, X.env.cells.lookup v = some cc → cc ≠ a := fun v cc q z => by
      obtain ⟨_, o, e1, e2⟩ := J3.cell v cc q
      have e3 : h3.get? cc = some o := e1
      rw [z, he3] at e3
      injection e3 with e3
      rw [← e3, hd3] at e2
      cases e2
    have S3 := J3.suite he3 hd3 na nL nF
    refine wpAny_handleBy_cons (codeAny_handlers_test ?_) (by intro q; cases q)
    have kind : PySem.W.Looks (model X.prog X.w) h3 (typeOf (.ref a)) cls := fun A Q E s k q => wpAny_typeOf_ref (k _ _ he3) (by rw [hz3.1]; exact q)
    have fits := PySem.W.exm_one (M := model X.prog X.w) J3.kIn kind hm
    have named : ∀ {Q : Value → Shared → Prop} {E : Value → Shared → Prop}, Q c { s' with heap := h3 } → wpAny (model X.prog X.w) (X.A.mark (some (.ref a))) (eval (.Name x np) X.env) Q E { s' with heap := h3 } := by
      intro Q E q
      obtain ⟨g, db, hx | ⟨hx, hv, hnn⟩⟩ := hc
      · exact ld_glob (X := X.suite a ((a, oe3) :: (X.pn ++ pins))) S3 g hx q db
      · exact ld_blt (X := X.suite a ((a, oe3) :: (X.pn ++ pins))) S3 g hx hv q hnn db
    refine named (fits.here (codeAny_handlers_suite_as (HandSPX.lands_againZ fl3 fun h4 fl4 up4 => ?_)))
    obtain ⟨oe4, vs4, he4, hz4, hd4⟩ := fl4.there
    have J4 : Inv X pins σ' H' { s' with heap := h4 } := J.landed nb fl4.1 ((up.trans up3).trans up4) os ag
    have S4 := J4.suite he4 hd4 na nL nF
    refine store_ok (X := X.suite a ((a, oe4) :: (X.pn ++ pins))) (v := .ref a) S4 hN hi (.inl hln) rfl (fun s5 S5 => ?_) (.inr hln)
    refine wpAny_mono ((hsu a oe4 cls d (X.pn ++ pins) hz4 ⟨_, hd4⟩).run [] s5 _ H' _ S5 (go a na)) (fun f s6 q => ?_) fun _ _ z => z.elim
    cases f with
    | brk => exact (let ⟨_, _, _, q⟩ := q; q).elim
    | cont => exact (let ⟨_, _, _, q⟩ := q; q).elim
    | ret u => exact (let ⟨_, _, _, _, _, q⟩ := q; q).elim
    | next =>
      obtain ⟨σ6, H6, S6, q6⟩ := q
      refine gone_ok (X := X.suite a ((a, oe4) :: (X.pn ++ pins))) S6 hN hi hln fun s7 S7 => ?_
      obtain ⟨e7, n7, _⟩ := S7.pin (a, oe4) (List.mem_append_left _ List.mem_cons_self)
      exact ⟨_, _, track (S7.unsuite ok) n7 n0 nL nC nP (kept_ok e7 hz4 hd4), q6⟩
  refine wpAny_Try_except (wpAny_mono ((hb (wKeep X.K c i ts D) (X.pn ++ pins) _ caught PassesOwn.looking).run [] s σ H D (I.toTry _) h) (fun f s1 q => ?_) fun e s1 q => q)
  cases f with
  | next => exact (let ⟨σ', H', J, q⟩ := q; wpAny_execs_nil ⟨σ', H', J.ofTry ok, q⟩)
  | brk => exact (let ⟨σ', H', J, q⟩ := q; ⟨σ', H', J.ofTry ok, q⟩)
  | cont => exact (let ⟨σ', H', J, q⟩ := q; ⟨σ', H', J.ofTry ok, q⟩)
  | ret u => exact (let ⟨v, σ', H', J, r, q⟩ := q; ⟨v, σ', H', J.ofTry ok, r, q⟩)
end
end My
namespace My
open PySem PySem.Spec PyProof.Rows L2
section
variable {X : Cx} {pins : List (Addr × Obj)} {σ : L2.St} {H : Hp} {s : Shared} {a C : Addr} {d : Option Addr}
/-- the held exception as the library's rules for instances want it; its own dict, if it has one, is tracked -/
theorem held_inst (I : Inv X pins σ H s) (h : H a = some (KeptO (.ref C) d a)) (hd : ∀ dd, d = some dd → ∃ fs, H dd = some (.xd fs)) : ∃ oe od, PySem.W.InstAt s.heap a oe C od := by
  obtain ⟨⟨oe, vs, e, z, f⟩, _, _⟩ := I.hok a _ h
  have plain : PySem.W.notCls oe = true := by
    unfold PySem.W.notCls
    rw [f] <;> rfl
  cases d with
  | none => exact ⟨oe, none, e, z.1, plain, by rw [z.2]; trivial⟩
  | some dd =>
    obtain ⟨fs, hx⟩ := hd dd rfl
    obtain ⟨mA, ns, _⟩ := (show ObjOk X.prog X.w H s.heap dd (.xd fs) from I.hok dd _ hx)
    obtain ⟨od, ho, _⟩ := lookIn_ns ns
    exact ⟨oe, some od, e, z.1, plain, by rw [z.2]; exact ho⟩
/-- isinstance(e, c), e an exception that is held, c an own class or a built-in one -/
def rHeldIs (K : PySem.W.Frag) : List V → Hp → VK → Prop := fun xs H Q => ∃ (a D : Addr) (d : Option Addr) (c : V) (u : Value) (b : Bool), xs = [.ref a, c] ∧ ClsV c u ∧ H a = some (KeptO (.ref D) d a) ∧ (∀ dd, d = some dd → ∃ fs, H dd = some (.xd fs)) ∧
  ExcC K D ∧ PySem.W.kitOne K (.ref D) u = some b ∧ Q (.bl b) H
theorem call_heldIs : CallR X (.builtin "isinstance") (rHeldIs X.K) := by
  intro pins s σ H xs us Q I r h
  obtain ⟨a, D, d, c, u, b, rfl, k, ha, hd, T, e, q⟩ := h
  obtain ⟨u1, u2, rfl, r1, r2⟩ := vals2 r
  cases r1
  have e2 := k.eq r2
  subst e2
  obtain ⟨oe, od, J⟩ := held_inst I ha hd
  have cls : (PySem.W.clsIn X.K D).isSome = true := by
    obtain ⟨cd, hc, _⟩ := PySem.W.any_some T.hd
    rw [hc] <;> rfl
  exact PySem.W.kia_one (PySem.W.kitx_exc cls T.hg T.hk T.hs T.ha T.hn T.ht T.hm) I.kIn J e (fun z => nomatch z) fun tk => ⟨.bl b, H, I.tok tk, rfl, q⟩
/-- e.f of a held exception -/
def tHeldF (K : PySem.W.Frag) (f : Str) (te : TE) : TE := fun σ H Q => te σ H fun x H1 => ∃ (a C dd : Addr) (fs : List (Str × V)) (v : V), x = .ref a ∧ H1 a = some (KeptO (.ref C) (some dd) a) ∧ H1 dd = some (.xd fs) ∧ XfC K C ∧ PySem.W.findIn K (.ref C) f = some none ∧ fs.lookup f = some v ∧ Q v H1
theorem pe_heldF {te : TE} {n : Str} {e : Expr} {pos : Pos} (he : PE X e te) (hb : attributeBase e n X.env (eval e X.env) = eval e X.env := by rfl) : PE X (.Attribute e n pos) (tHeldF X.K n te) := by
  constructor
  intro pins s σ H Q I h
  refine attr_of hb (thn (he.run pins s σ H _ I h) ?_)
  intro u s1 hu
  obtain ⟨x, H1, I1, rx, a, C, dd, fs, v, ex, ea, ed, T, hno, l, q⟩ := hu
  subst ex
  obtain rfl : u = Value.ref a := rx
  obtain ⟨⟨oe, vs, e1, z, f1⟩, _, _⟩ := I1.hok a _ ea
  obtain ⟨mA, ns, rel⟩ := (show ObjOk X.prog X.w H1 s1.heap dd (.xd fs) from I1.hok dd _ ed)
  obtain ⟨od, ho, hl⟩ := lookIn_ns ns
  obtain ⟨w, hw, rw'⟩ := RelO.some_of (v := v) (o := mA n) (by rw [← l]; exact rel n)
  have plain : PySem.W.notCls oe = true := by
    unfold PySem.W.notCls
    rw [f1] <;> rfl
  have J : PySem.W.InstAt s1.heap a oe C (some od) := ⟨e1, z.1, plain, by rw [z.2]; exact ho⟩
  exact HandSPX.exc_get I1.kIn J T.ga T.gg T.exC (PySem.W.findObj_own T.hdC hno rfl (by rw [hl, hw])) (handed_of rw') ⟨v, H1, I1.tok _, rw', q⟩
end
end My
namespace My
open PySem PySem.Spec PyProof.Rows L2
/-- a def's promise where it is known that no repr is under way -/
structure FnG (P : Program) (w : World) (K : PySem.W.Frag) (mg : Str → Option Value) (base : Heap) (CX : CXT) (k : Nat) (f : Addr) (fd : FuncData) (ps : List Str) (sp : Sp) : Prop where
  len : ∀ vs H Q E, sp vs H Q E → vs.length = ps.length
  run : ∀ (A : Around) (outer : List Env) (s : Shared) (H : Hp) (args : Args) (us : List Value) (vs : List V) (Q : VK) (E : XK), Room k A → A.guards = some [] → Env0 P w K mg base A outer s H → BindsTo s fd args (ps.zip us) → Vals vs us → sp vs H Q E →
    codeAny (model P w) A (.call (.ref f) args) (CR CX outer P w H s Q E) s
theorem toG {P : Program} {w : World} {K : PySem.W.Frag} {mg : Str → Option Value} {base : Heap} {CX : CXT} {k : Nat} {f : Addr} {fd : FuncData} {ps : List Str} {sp : Sp} (F : FnOk P w K mg base CX k f fd ps sp) : FnG P w K mg base CX k f fd ps sp :=
  ⟨F.len, fun A outer s H args us vs Q E r _ => F.run A outer s H args us vs Q E r⟩
section
variable {P : Program} {w : World} {K : PySem.W.Frag} {mg : Str → Option Value} {base : Heap}
/-- a def by its body, the guards known -/
theorem okG {CX : CXT} {x qual : Str} {st : Stmt} {f : Addr} {fd : FuncData} {N ps : List Str} {k : Nat} {sp : Sp} (F : Fun K x qual st f fd) (S : FnScope N ps (defScope st)) (len : ∀ vs H Q E, sp vs H Q E → vs.length = ps.length)
    (body : ∀ (cdv : Value) (A : Around) (outer : List Env) (s : Shared) (H : Hp) (vs : List V) (Q : VK) (E : XK), Room k (A.deeper (envOfC qual (defScope st) s.heap.objs.size f cdv)) → (A.deeper (envOfC qual (defScope st) s.heap.objs.size f cdv)).guards = some [] → sp vs H Q E →
      ∃ t, PSs (cxOf CX P w K mg base N qual (defScope st) f cdv A outer s H E) (defBody st) t ∧ t { nx := fun _ H' => Q .non H', rt := Q } (start N vs) H) : FnG P w K mg base CX (k + 1) f fd ps sp := by
  obtain ⟨oc, od, kV, doc, pm, an, cdv, ct, osl, rfl, lk, hcd⟩ := F.ex
  refine ⟨len, ?_⟩
  intro A outer s H args us vs Q E room guard e0 bind rel prom
  have stays : ∀ b o, base.get? b = some o → s.heap.get? b = some o := fun b o z => (e0.bs b o z).1
  have KS : K.In s.heap := e0.mod.kin.keeps stays
  have many := len _ _ _ _ prom
  have kinds : ∀ y ∈ ps.zip us, (defScope st).names.lookup y.1 = some .local ∨ ((defScope st).names.lookup y.1 = some .cell ∧ ((cellsFrom (s.heap.objs.size + 1) (defScope st).names []).lookup y.1).isSome = true) := by
    intro y hy
    cases S.par y.1 (List.of_mem_zip hy).1 with
    | inl q => exact .inl q
    | inr q => exact .inr ⟨q, PySem.W.cellsFrom_some _ _ _ (.inl q)⟩
  refine codeAny_call_function room.depth (KS _ _ lk) rfl S.co S.gen rfl (PySem.W.codeRec_of KS hcd) (bind _ _ _ _ ?_)
  refine wpAny_newFunctionEnv_cells S.kind kinds fun env he s2 ic => ?_
  subst he
  refine ⟨(e0.mod.nolimit.keeps stays).keeps ic.toInCall.keep, codeAny_func ?_⟩
  have guard' : (A.deeper (envOfC qual (defScope st) s.heap.objs.size f cdv)).guards = some [] := by
    obtain ⟨a1, a2, a3, a4, a5⟩ := A
    first | exact guard | simpa [Around.deeper, Code.guards, Code.isGuard, pushGuards, guardIds] using guard
  obtain ⟨t, ht, hq⟩ := body cdv A outer s H vs Q E (room.deeper _) guard' prom
  refine wpAny_mono (ht.run [] s2 (start N vs) H _ (inv_start S room.hd e0 many rel ic) hq) (fun fl s' hs => ?_) fun e s' hs => hs
  cases fl with
  | ret u => exact (let ⟨v, _, H', J, rv, q⟩ := hs; ⟨v, H', J.os, J.bare, J.base, J.hok, rv, q⟩)
  | next => exact (let ⟨_, H', J, q⟩ := hs; ⟨.non, H', J.os, J.bare, J.base, J.hok, rfl, q⟩)
  | brk => exact (let ⟨_, _, _, q⟩ := hs; q).elim
  | cont => exact (let ⟨_, _, _, q⟩ := hs; q).elim
end
section
variable {X : Cx} {CX : CXT} {k : Nat} {f : Addr} {fd : FuncData} {ps : List Str} {ds : List Value} {dvs : List V} {sp : Sp} {E : XK} {x : Str} {p pos : Pos} {e : Expr} {es : List Expr} {t : TA}
theorem runG {pins : List (Addr × Obj)} {σ : L2.St} {H : Hp} {s : Shared} {Q : VK} {us : List Value} {vs : List V} (F : FnG X.prog X.w X.K X.mg X.base CX k f fd ps sp) (hr : Room k X.A) (hg : X.A.guards = some []) (hb : Binds X.K fd ps ds) (hd : Vals dvs ds) (hx : Passes CX X E)
    (I : Inv X pins σ H s) (r : Vals vs us) (h : sp (vs ++ dvs) H Q E) : wpAny (model X.prog X.w) X.A (call (.ref f) us) (EP X pins σ Q) X.xe s := by
  have rel : Vals (vs ++ dvs) (us ++ ds) := r.append hd
  have many : (us ++ ds).length = ps.length := rel.length ▸ F.len _ _ _ _ h
  refine wpAny_call (codeAny_mono (F.run X.A X.stack s H ⟨us, []⟩ (us ++ ds) (vs ++ dvs) Q E hr hg I.env0 (hb s us I.kIn many) rel h) ?_)
  intro r s' hq
  match r, hq with
  | .error e, hq => exact hx pins σ H s e s' I hq
  | .ok (.ret u), hq => exact I.after hq
/-- f(e, ..) where it is known that no repr is under way -/
theorem pe_callG (F : FnG X.prog X.w X.K X.mg X.base CX k f fd ps sp) (hr : Room k X.A) (hgu : X.A.guards = some []) (hg : Gl X x) (hm : X.mg x = some (.ref f)) (hk : PySem.W.keepIn X.K (.ref f) = true) (hb : Binds X.K fd ps ds) (hd : Vals dvs ds) (hx : Passes CX X E)
    (ha : PA X (e :: es) t) (hdb : (x == ("__debug__" : Str)) = false := by decide) (he : starEach (e :: es) X.env = (false, eval e X.env) :: starEach es X.env := by rfl) (hpl : (backTo pos (starEach es X.env)).any (·.1) = false := by rfl) :
    PE X (.Call (.Name x p) (e :: es) [] pos) (tCall sp dvs E t) := by
  constructor
  intro pins s σ H Q I h
  refine wpAny_Call_Name_kw (ld_glob I hg hm (PySem.W.callWith_K (h₀ := X.base) I.ok.mod.kin hk (thn (ha.run pos pins s σ H _ I h) ?_) he hpl) hdb)
  intro us s1 hu
  obtain ⟨vs, H1, I1, r, q⟩ := hu
  exact ⟨I1.kIn, runG F hr hgu hb hd hx I1 r q⟩
/-- x == y where x is of an own class with an own __eq__ that answers True or False, y anything that is not of a class below x's -/
def rEqOwn (K : PySem.W.Frag) (C : Addr) (sp : Sp) (E : XK) : R2 := fun x y H Q => ∃ (a dx : Addr) (fs : List (Str × V)) (t : Value), x = .ref a ∧ H a = some (.ins C dx fs) ∧ TyX K H y t ∧ PySem.W.notFirst K C t = true ∧ sp [x, y] H (fun v H' => ∃ b, v = .bl b ∧ Q (.bl b) H') E
theorem op_eqOwn {C : Addr} (F : FnG X.prog X.w X.K X.mg X.base CX k f fd ps sp) (hr : Room k X.A) (hgu : X.A.guards = some []) (hs : PySem.W.findIn X.K (.ref C) "__eq__" = some (some (.ref f))) (hf : PySem.W.isFn X.K (.ref f) = true) (hb : Binds X.K fd ps []) (hx : Passes CX X E) :
    OpR X (compareOp .Eq) (rEqOwn X.K C sp E) := by
  intro pins s σ H x y v u Q I rx ry h
  obtain ⟨a, dx, fs, t, rfl, ha, ty, nf, q⟩ := h
  cases rx
  obtain ⟨mA, J, _⟩ := ins_get I.hok ha
  obtain ⟨od, J, _⟩ := J.look
  obtain ⟨m, hF⟩ := I.fr
  obtain ⟨Pp, Z, pz, _⟩ := kit_of I ry ty
  show wpAny (model X.prog X.w) X.A (richCompare .Eq (.ref a) u) (EP X pins σ Q) X.xe s
  refine PySem.W.cmp_K (op := .Eq) (tb := t) hr.units0 hF I.ok.mod.kin J (Z.ty _ _ I.kIn pz) nf hs hf ?_
  refine wpAny_mono (runG (vs := [.ref a, y]) (us := [.ref a, u]) (dvs := []) (ds := []) F hr hgu hb .nil hx I (.cons rfl (.cons ry .nil)) q) (fun r s' z => ?_) fun _ _ z => z
  obtain ⟨w1, H1, I1, r1, b, rfl, q1⟩ := z
  cases r1
  exact ⟨.bl b, H1, I1, rfl, q1⟩
end
end My
namespace My
open PySem PySem.Spec PyProof.Rows L2
section
variable {X : Cx} {CX : CXT} {k : Nat} {f : Addr} {fd : FuncData} {ps : List Str} {sp : Sp} {E : XK}
/-- a def called from within a built-in -/
theorem runAt {A : Around} {pins : List (Addr × Obj)} {σ : L2.St} {H : Hp} {s : Shared} {Q : VK} {us : List Value} {vs : List V} (F : FnG X.prog X.w X.K X.mg X.base CX k f fd ps sp) (hr : Room k A) (hg : A.guards = some []) (fr : A.frames = X.A.frames) (hb : Binds X.K fd ps []) (hx : Passes CX X E)
    (I : Inv X pins σ H s) (r : Vals vs us) (h : sp vs H Q E) : wpAny (model X.prog X.w) A (call (.ref f) us) (EP X pins σ Q) X.xe s := by
  have many : us.length = ps.length := r.length ▸ F.len _ _ _ _ h
  have e0 : Env0 X.prog X.w X.K X.mg X.base A X.stack s H := by
    obtain ⟨h1, h2, h3, h4, h5, h6, h7, h8⟩ := I.env0
    exact ⟨fr.trans h1, h2, h3, h4, h5, h6, h7, h8⟩
  have bind := hb s us I.kIn (by simpa using many)
  rw [List.append_nil] at bind
  refine wpAny_call (codeAny_mono (F.run A X.stack s H ⟨us, []⟩ us vs Q E hr hg e0 bind r h) ?_)
  intro r s' hq
  match r, hq with
  | .error e, hq => exact hx pins σ H s e s' I hq
  | .ok (.ret u), hq => exact I.after hq
/-- x != y where x is of an own class with an own __eq__ that answers True or False and without an own __ne__ -/
theorem op_neOwn {C : Addr} (F : FnG X.prog X.w X.K X.mg X.base CX k f fd ps sp) (hr : Room (k + 1) X.A) (hgu : X.A.guards = some []) (hs : PySem.W.findIn X.K (.ref C) "__eq__" = some (some (.ref f))) (hf : PySem.W.isFn X.K (.ref f) = true)
    (hn : PySem.W.findIn X.K (.ref C) "__ne__" = some (some (.builtin "object.__ne__"))) (hm : PySem.W.mroIn X.K C (.type "object") = some true) (hb : Binds X.K fd ps []) (hx : Passes CX X E) :
    OpR X (compareOp .NotEq) (fun x y H Q => rEqOwn X.K C sp E x y H fun v H' => ∃ b, v = .bl b ∧ Q (.bl (!b)) H') := by
  intro pins s σ H x y v u Q I rx ry h
  obtain ⟨a, dx, fs, t, rfl, ha, ty, nf, q⟩ := h
  cases rx
  obtain ⟨mA, J, _⟩ := ins_get I.hok ha
  obtain ⟨od, J, _⟩ := J.look
  obtain ⟨Pp, Z, pz, _⟩ := kit_of I ry ty
  have KS := I.kIn
  have own : wpAny (model X.prog X.w) X.A.in1 (callSpecialIfBound? (.ref a) "__eq__" [u]) (fun r s' => ∃ b, r = some (.bool b) ∧ EP X pins σ Q (.bool (!b)) s') X.xe s := by
    refine PySem.W.ifBound_K KS J hs hf (wpAny_mono (runAt (vs := [.ref a, y]) (us := [.ref a, u]) F hr.in1 hgu rfl hb hx I (.cons rfl (.cons ry .nil)) q) (fun r s' z => ?_) fun _ _ z => z)
    obtain ⟨w1, H1, I1, r1, b, rfl, b', e, q1⟩ := z
    cases r1
    cases e
    exact ⟨b, rfl, .bl (!b), H1, I1, rfl, q1⟩
  have entry : wpAny (model X.prog X.w) X.A.in1 (Builtin.«object.__ne__» ⟨[.ref a, u], []⟩) (fun r s' => ∃ b, r = .done (.ret (.bool (!b))) ∧ EP X pins σ Q (.bool (!b)) s') X.xe s := by
    unfold Builtin.«object.__ne__»
    refine wpAny_bind (wpAny_of_eq (a := ((Value.ref a : Value), [u])) (by first | rfl | (simp only [slotArgs]; rfl)) ?_)
    refine wpAny_bind (wpAny_cRoomFor hr.in1.units0 (wpAny_bind (wpAny_mono own (fun r s' z => ?_) fun _ _ z => z)))
    obtain ⟨b, rfl, ep⟩ := z
    exact wpAny_bind (wpAny_truthy_bool (wpAny_pure ⟨b, rfl, ep⟩))
  have slot : wpAny (model X.prog X.w) X.A (call (.builtin "object.__ne__") [.ref a, u]) (fun v s' => ∃ b, v = .bool b ∧ EP X pins σ Q (.bool b) s') X.xe s := by
    refine wpAny_call (codeAny_call_builtin PySem.F.cmp_object.ne.plain PySem.F.cmpEntry_ne (PySem.W.check_slot PySem.F.cmpKind_ne PySem.F.cmpSplit_ne (J.type.andThen (PySem.W.looks_mroIn KS hm)) (PySem.F.cmpArgs_ne _ _) (wpAny_mono entry (fun r s' z => ?_) fun _ _ z => z)))
    obtain ⟨b, rfl, ep⟩ := z
    exact ⟨!b, rfl, ep⟩
  have one : wpAny (model X.prog X.w) X.A (tryCompare (.ref a) "__ne__" u) (fun r s' => ∃ b, r = some (.bool b) ∧ EP X pins σ Q (.bool b) s') X.xe s := by
    unfold tryCompare
    have asked : wpAny (model X.prog X.w) X.A (callSpecialIfBound? (.ref a) "__ne__" [u]) (fun r s' => ∃ b, r = some (.bool b) ∧ EP X pins σ Q (.bool b) s') X.xe s := by
      have last : wpAny (model X.prog X.w) X.A (call (.builtin "object.__ne__") ([.ref a] ++ [u]) >>= fun v => pure (some v)) (fun r s' => ∃ b, r = some (.bool b) ∧ EP X pins σ Q (.bool b) s') X.xe s :=
        wpAny_bind (wpAny_mono slot (fun v s' z => wpAny_pure (let ⟨b, e, ep⟩ := z; ⟨b, congrArg some e, ep⟩)) fun _ _ z => z)
      unfold callSpecialIfBound? bindSpecialIfBound?
      refine wpAny_holding (wpAny_bind (wpAny_bind (wpAny_bind (J.type.here ((PySem.W.looks_findIn KS hn).here (wpAny_bind (wpAny_askSetting (wpAny_ite ?_))))))))
      split
      · exact wpAny_bind (wpAny_of_eq (PySem.F.cmp_object.ne.bind _) (wpAny_pure last))
      · exact wpAny_tryCatch (wpAny_bind (wpAny_of_eq (PySem.F.cmp_object.ne.bind _) (wpAny_pure last)))
    refine wpAny_bind (wpAny_mono asked (fun r s' z => ?_) fun _ _ z => z)
    obtain ⟨b, rfl, ep⟩ := z
    exact wpAny_pure ⟨b, rfl, ep⟩
  show wpAny (model X.prog X.w) X.A (richCompare .NotEq (.ref a) u) (EP X pins σ Q) X.xe s
  unfold richCompare
  simp only [oneThing_ref]
  refine wpAny_holding (wpAny_bind (wpAny_cRoomFor hr.units0 (wpAny_bind (J.type.here (wpAny_bind ((Z.ty _ _ KS pz).here ?_))))))
  have fin : ∀ (rest : Option Value → Sem Value), (∀ b, rest (some (.bool b)) = pure (.bool b)) → wpAny (model X.prog X.w) X.A (tryCompare (.ref a) (cmpInfo CmpOp.NotEq).2.1 u >>= rest) (EP X pins σ Q) X.xe s := fun rest hrest => by
    refine wpAny_bind (wpAny_mono one (fun r s' z => ?_) fun _ _ z => z)
    obtain ⟨b, rfl, ep⟩ := z
    rw [hrest]
    exact wpAny_pure ep
  unfold PySem.W.notFirst at nf
  split
  · rename_i ne
    have sub : PySem.W.subIn X.K t (.ref C) = some false := by
      cases e : (t == Value.ref C) with
      | true =>
        rw [eq_of_beq e] at ne
        simp at ne
      | false =>
        rw [e, Bool.false_or] at nf
        exact eq_of_beq nf
    refine wpAny_bind ((PySem.W.looks_subIn KS sub).here ?_)
    simp only [Bool.false_eq_true, if_false]
    exact fin _ fun b => rfl
  · refine wpAny_bind (wpAny_pure ?_)
    simp only [Bool.false_eq_true, if_false]
    exact fin _ fun b => rfl
end
end My
namespace My
open PySem PySem.Spec PyProof.Rows L2
section
variable {X : Cx} {CX : CXT} {k : Nat} {f : Addr} {fd : FuncData} {ps : List Str} {sp : Sp} {E : XK}
/-- str(x), x of an own class with an own __str__ -/
theorem call_strOwn {C : Addr} (F : FnG X.prog X.w X.K X.mg X.base CX k f fd ps sp) (hr : Room (k + 2) X.A) (hgu : X.A.guards = some []) (hs : PySem.W.findIn X.K (.ref C) "__str__" = some (some (.ref f))) (hf : PySem.W.isFn X.K (.ref f) = true) (hb : Binds X.K fd ps []) (hx : Passes CX X E) :
    CallR X (.type "str") (fun xs H Q => ∃ (a dx : Addr) (fs : List (Str × V)), xs = [.ref a] ∧ H a = some (.ins C dx fs) ∧ sp [.ref a] H (fun v H' => ∃ z : Str, v = .str z ∧ Q (.str z) H') E) := by
  intro pins s σ H xs us Q I r h
  obtain ⟨a, dx, fs, rfl, ha, q⟩ := h
  obtain ⟨u, rfl, ru⟩ := vals1 r
  cases ru
  obtain ⟨mA, J, _⟩ := ins_get I.hok ha
  obtain ⟨od, J, _⟩ := J.look
  refine PySem.W.kso_call (Room.units0 (hr.in1.in1)) I.kIn J hs hf (wpAny_mono (runAt (vs := [.ref a]) (us := [.ref a]) F hr.in1.in1 hgu rfl hb hx I (.cons rfl .nil) q) (fun r s' z => ?_) fun _ _ z => z)
  obtain ⟨w1, H1, I1, r1, y, rfl, q1⟩ := z
  obtain ⟨t, rfl⟩ := r1
  exact ⟨.str y, H1, I1, ⟨t, rfl⟩, q1⟩
end
/-- a value without parts, and what it is -/
inductive Fl : V → PyData → Prop
  | non : Fl .non .none
  | bl (b : Bool) : Fl (.bl b) (.bool b)
  | int (i : Int) : Fl (.int i) (.int i)
  | str (x : Str) : Fl (.str x) (.str x)
/-- values without parts, and what they are -/
abbrev Fls : List V → List PyData → Prop := Paired Fl
/-- what a value is: without parts, a list or tuple of such, the dict without entries -/
inductive Th (H : Hp) : V → PyData → Prop
  | flat {x : V} {d : PyData} (h : Fl x d) : Th H x d
  | lst {a : Addr} {xs : List V} {ds : List PyData} (h : H a = some (.lst xs)) (k : Fls xs ds) (n : xs.length ≤ 1000) : Th H (.ref a) (.list ds)
  | tup {a : Addr} {xs : List V} {ds : List PyData} (h : H a = some (.tup xs)) (k : Fls xs ds) (n : xs.length ≤ 1000) : Th H (.ref a) (.tuple ds)
  | dct {a : Addr} (h : H a = some (.dK [])) : Th H (.ref a) (.dict [])
theorem Th.keep {H H' : Hp} {x : V} {d : PyData} (h : Th H x d) (k : ∀ b o, H b = some o → H' b = some o) : Th H' x d := by
  cases h with
  | flat h => exact .flat h
  | lst h r n => exact .lst (k _ _ h) r n
  | tup h r n => exact .tup (k _ _ h) r n
  | dct h => exact .dct (k _ _ h)
theorem fl_dp {K : PySem.W.Frag} {H : Hp} {x : V} {d : PyData} (h : Fl x d) : Dp K H x d := by
  cases h with
  | non => exact .non
  | bl b => exact .bl b
  | int i => exact .int i
  | str x => exact .str x
theorem fls_dp {K : PySem.W.Frag} {H : Hp} : ∀ {xs : List V} {ds : List PyData}, Fls xs ds → DpAll K H xs ds
  | _, _, .nil => .nil
  | _, _, .cons h r => .cons (fl_dp h) (fls_dp r)
theorem fls_noDict : ∀ {xs : List V} {ds : List PyData}, Fls xs ds → PyData.hasDictAll ds = false
  | _, _, .nil => rfl
  | _, _, .cons h r => by
    unfold PyData.hasDictAll
    rw [fls_noDict r]
    cases h <;> rfl
/-- what can be shown in bounds -/
structure Fine (d : PyData) : Prop where
  show_ : d.showable = true
  deep : d.depth ≤ 8
  size : d.shown.length ≤ sizeLine
section
variable {X : Cx}
theorem call_reprT (hg : X.A.guards = some []) (hu : X.A.units + 64 < cLine) : CallR X (.builtin "repr") (fun xs H Q => ∃ x d, xs = [x] ∧ Th H x d ∧ Fine d ∧ Q (.str d.shown) H) := by
  intro pins s σ H xs us Q I r h
  obtain ⟨x, d, rfl, th, fine, q⟩ := h
  obtain ⟨u, rfl, ru⟩ := vals1 r
  have fin : ∀ t tk, EP X pins σ Q (.str d.shown t) { s with toks := tk } := fun t tk => ⟨.str d.shown, H, I.tok tk, ⟨t, rfl⟩, q⟩
  have obj : ∀ a (as : List Addr), Reads s.heap (.ref a) d as → (d.hasDict = true → sysModules ∉ as) → wpAny (model X.prog X.w) X.A (call (.builtin "repr") [.ref a]) (EP X pins σ Q) X.xe s := fun a as rd nd =>
    repr_of_reads' rd fine.show_ nd hg (by have := fine.deep; omega) (fun _ _ e => e) (fun h' u tk hk => ⟨.str d.shown, H, I.kept hk, ⟨u, rfl⟩, q⟩) fine.size
  cases th with
  | flat h =>
    cases h with
    | non =>
      cases ru
      exact PySem.P.repr_of_none (fin _ _)
    | bl b =>
      cases ru
      exact PySem.P.repr_of_bool (by
        have e : (PyData.bool b).shown = if b then ("True" : Str) else "False" := by unfold PyData.shown; rfl
        rw [e] at fin
        cases b <;> exact fin _ _)
    | int i =>
      obtain ⟨t, rfl⟩ := ru
      have sm : i.natAbs.log2 < 1920 := by
        have z := fine.show_
        unfold PyData.showable at z
        exact of_decide_eq_true z
      exact PySem.P.repr_of_int sm (by
        have e : (PyData.int i).shown = (toString i : Str) := by unfold PyData.shown; rfl
        rw [e] at fin
        exact fin _ _)
    | str z =>
      obtain ⟨t, rfl⟩ := ru
      have e : (PyData.str z).shown = reprText z := by unfold PyData.shown; rfl
      have sz := fine.size
      rw [e] at fin sz
      exact PySem.P.repr_of_str (fin _ _) sz
  | @lst a xs ds h k n =>
    cases ru
    obtain ⟨as, rd⟩ := Dp.reads I _ _ _ (Dp.lst (K := X.K) (SqL.of h) (fls_dp k)) rfl
    refine obj a as rd (fun z => ?_)
    unfold PyData.hasDict at z
    rw [fls_noDict k] at z
    cases z
  | @tup a xs ds h k n =>
    cases ru
    obtain ⟨as, rd⟩ := Dp.reads I _ _ _ (Dp.tup (K := X.K) (SqT.of h) (fls_dp k)) rfl
    refine obj a as rd (fun z => ?_)
    unfold PyData.hasDict at z
    rw [fls_noDict k] at z
    cases z
  | @dct a h =>
    cases ru
    obtain ⟨_, nsys, vs, kv, o, es, ep, ho, ex, hd, _, pr, _⟩ := dk_of I.hok h
    cases kv
    have es0 : es.toList = [] := by
      obtain ⟨l⟩ := es
      have pr' : PySem.Pairs _ l [] := pr
      cases l with
      | nil => rfl
      | cons _ _ => cases pr'
    refine obj a _ (Reads.dict (kvs := []) (as := []) (bs := []) ho ex.1 hd (by rw [es0]; exact .nil) (by rw [es0]; exact .nil)) (fun _ => ?_)
    simp only [List.append_nil, List.mem_singleton]
    intro z
    rw [z] at nsys
    simp at nsys
end
end My
namespace My
open PySem PySem.Spec PyProof.Rows L2
/-- what the walk of the law's body has to give where one def of the text makes lambdas: its code object at c, the table of that one at P, empty so far -/
def LawBodyT (l : PySem.W.OpenLaw) (w : World) (K : PySem.W.Frag) (mg : Str → Option Value) (n : Nat) (N : List Str) (qual : Str) (st : Stmt) (fa c P : Addr) : Prop :=
  ∀ base : Heap, K.In base → base.Ns mainGlobals mg → LamX.TabB base mg c P → ∀ (cdv : Value) (s : Shared) (H : Hp) (a : Addr) (ns : List Int), ns.length ≤ n → H P = some (.tbl #[]) → SqL K H a (ns.map V.int) →
    ∃ t, PSs (cxOf CX0 l.prog w K mg base N qual (defScope st) fa cdv callerA [] s H E0).nox (defBody st) t ∧
      t { nx := fun _ _ => False, rt := fun v _ => v = .bl true } (start N [.ref a]) H
theorem enterB {l : PySem.W.OpenLaw} {w : World} {K : PySem.W.Frag} {mg : Str → Option Value} {N : List Str} {x nm qual : Str} {st : Stmt} {fa a : Addr} {fd : FuncData}
    {base : Heap} {s : Shared} {H : Hp} (F : Fun K nm qual st fa fd) (S : FnScope N [x] (defScope st)) (hb : ∀ (s : Shared) (u : Value), BindsTo s fd ⟨[u], []⟩ [(x, u)])
    (B : ∀ cdv : Value, ∃ t, PSs (cxOf CX0 l.prog w K mg base N qual (defScope st) fa cdv callerA [] s H E0).nox (defBody st) t ∧ t { nx := fun _ _ => False, rt := fun v _ => v = .bl true } (start N [.ref a]) H)
    (e0 : Env0 l.prog w K mg base callerA [] s H) :
    codeAny (model l.prog w) callerA (.call (.ref fa) ⟨[.ref a], []⟩)
      (fun r s' => r = .ok (.ret (.bool true)) ∧ ∃ H', s'.os = s.os ∧ AllBare s'.gens ∧ Un [] [] H H' s.heap s'.heap ∧ HOk l.prog w H' s'.heap) s := by
  obtain ⟨oc, od, kV, doc, pm, an, cdv, ct, osl, rfl, lk, hcd⟩ := F.ex
  have stays : ∀ b o, base.get? b = some o → s.heap.get? b = some o := fun b o z => (e0.bs b o z).1
  have KS : K.In s.heap := e0.mod.kin.keeps stays
  have NL : s.heap.NoLimit := e0.mod.nolimit.keeps stays
  have kinds : ∀ y ∈ [x].zip [Value.ref a], (defScope st).names.lookup y.1 = some .local ∨ ((defScope st).names.lookup y.1 = some .cell ∧ ((cellsFrom (s.heap.objs.size + 1) (defScope st).names []).lookup y.1).isSome = true) := by
    intro y hy
    obtain rfl : y = (x, Value.ref a) := List.mem_singleton.mp hy
    cases S.par x (List.mem_singleton.mpr rfl) with
    | inl q => exact .inl q
    | inr q => exact .inr ⟨q, PySem.W.cellsFrom_some _ _ _ (.inl q)⟩
  refine codeAny_call_function (by decide) (KS _ _ lk) rfl S.co S.gen rfl (PySem.W.codeRec_of KS hcd) (hb s (.ref a) _ _ _ _ ?_)
  refine wpAny_newFunctionEnv_cells S.kind kinds fun env he s2 ic => ?_
  subst he
  refine ⟨NL.keeps ic.toInCall.keep, codeAny_func ?_⟩
  obtain ⟨t, ht, hq⟩ := B cdv
  have J0 := inv_start (E := E0) (CX := CX0) S (show callerA.handled = none from rfl) e0 (vs := [.ref a]) (us := [.ref a]) rfl (.cons rfl .nil) ic
  refine wpAny_mono (ht.run [] s2 (start N [.ref a]) H _ (J0.wish _) hq) (fun fl s' hs => ?_) fun e s' hs => hs.elim
  cases fl with
  | ret u =>
    obtain ⟨v, σ', H', J, rv, q⟩ := hs
    subst q
    obtain rfl : u = Value.bool true := rv
    exact ⟨rfl, H', J.os, J.bare, J.base, J.hok⟩
  | next => exact (let ⟨_, _, _, q⟩ := hs; q).elim
  | brk => exact (let ⟨_, _, _, q⟩ := hs; q).elim
  | cont => exact (let ⟨_, _, _, q⟩ := hs; q).elim
/-- a table that is empty so far -/
abbrev tab0 : Obj := { cls := .none, data := .fields #[] }
theorem settleT {l : PySem.W.OpenLaw} {w : World} {K : PySem.W.Frag} {mg mb : Str → Option Value} {n : Nat} {N : List Str} {x nm qual : Str} {st : Stmt} {fa a c P : Addr} {fd : FuncData} {s : Shared} {H : Hp} {ns : List Int} {vs : List Value}
    (KX : K.In s.heap) (hns : s.heap.Ns mainGlobals mg) (hb : s.heap.Ns builtinsNs mb) (hbb : ∀ x : Str, x ≠ "__name__" → mb x = bootBuiltins x) (hlim : s.heap.NoLimit) (hg : s.gens = #[])
    (ha : s.heap.get? a = some { cls := .type "list", data := .seq vs.toArray }) (hn : ns.length ≤ n)
    (hT : s.heap.get? P = some tab0) (nT : K.lookup P = none) (C : PySem.W.CodeHd s.heap c P) (bm : s.heap.BuiltinsAt mg P)
    (F : Fun K nm qual st fa fd) (S : FnScope N [x] (defScope st)) (hbi : ∀ (s : Shared) (u : Value), BindsTo s fd ⟨[u], []⟩ [(x, u)]) (B : LawBodyT l w K mg n N qual st fa c P)
    (hP : H P = some (.tbl #[])) (hO : ∀ b, b ≠ P → H b = none ∨ ∃ o xs, H b = some (.frz o (.lst xs))) (hS : SqL K H a (ns.map V.int)) (hok : HOk l.prog w H s.heap) (one : ∀ b, H b ≠ none → b = a ∨ b = P) (out : H a ≠ none → K.lookup a = none) :
    codeAny (model l.prog w) callerA (.call (.ref fa) ⟨[.ref a], []⟩) (fun r s' => r = .ok (.ret (.bool true)) ∧ OldK s.heap s'.heap ∧ s'.os = s.os ∧ AllBare s'.gens) s := by
  -- what is neither the script nor the table is not tracked
  have free : ∀ {b : Addr} {o : Obj}, s.heap.get? b = some o → (∀ xs k, o.data ≠ .seq xs k) → o.data ≠ .fields #[] → H b = none := by
    intro b o e nd nf
    by_cases z : H b = none
    · exact z
    · rcases one b z with eb | eb
      · rw [eb, ha] at e
        injection e with e
        exact absurd (by rw [← e]) (nd vs.toArray 0)
      · rw [eb, hT] at e
        injection e with e
        exact absurd (by rw [← e]) nf
  have seen : ∀ {b : Addr} {o : Obj}, s.heap.get? b = some o → (∀ xs k, o.data ≠ .seq xs k) → o.data ≠ .fields #[] → (hidT s.heap H).get? b = some o := fun e h1 h2 => hidT_get e (free e h1 h2)
  have names : ∀ {b : Addr} {m : Str → Option Value}, s.heap.Ns b m → (hidT s.heap H).Ns b m := by
    intro b m nb
    obtain ⟨o, es, ep, e, d, rest⟩ := nb
    exact ⟨o, es, ep, seen e (fun xs k z => by rw [d] at z; injection z) (fun z => by rw [d] at z; injection z), d, rest⟩
  have KB : K.In (hidT s.heap H) := by
    intro b o e
    refine hidT_get (KX b o e) ?_
    by_cases z : H b = none
    · exact z
    · rcases one b z with eb | eb
      · subst eb
        rw [out z] at e
        injection e
      · subst eb
        rw [nT] at e
        injection e
  have E0' : Env0 l.prog w K mg (hidT s.heap H) callerA [] s H := by
    refine ⟨rfl, ⟨KB, names hns, ⟨mb, names hb, hbb⟩, ?_⟩, fun b o e => of_hidT e, Nat.le_of_eq (hidT_size _ _), trivial, ?_, hok, .of_eq hg⟩
    · obtain ⟨mc, c1, c2⟩ := hlim
      exact ⟨mc, names c1, c2⟩
    · intro b z
      exact absurd (show b ∈ ([] : List Addr) from z) List.not_mem_nil
  have TB : LamX.TabB (hidT s.heap H) mg c P := by
    refine ⟨?_, ?_, fun z => ?_⟩
    · obtain ⟨o, us, file, tf, flags, tg, inF, text, tt, e1, r1, r2, r3, rest⟩ := C
      refine ⟨o, us, file, tf, flags, tg, inF, text, tt, seen e1 (fun xs k z => by rw [r2] at z; injection z) (fun z => ?_), r1, r2, r3, rest⟩
      rw [r2] at z
      injection z with z
      rw [z] at r3
      simp at r3
    · obtain ⟨b, ob, b1, b2, b3, b4, b5, b6, b7, b8⟩ := bm
      exact ⟨b, ob, b1, b2, b3, b4, seen b5 (fun xs k z => by rw [b8] at z; injection z) (fun z => by rw [b8] at z; injection z), b6, b7, b8⟩
    · obtain ⟨o, es, ep, e, d, _⟩ := hns
      rw [z, hT] at e
      injection e with e
      rw [← e] at d
      injection d
  refine codeAny_mono (enterB F S hbi (fun cdv => B _ KB (names hns) TB cdv s H a ns hn hP hS) E0') fun r s' h => ?_
  obtain ⟨e1, H', os, bare, un, hok'⟩ := h
  obtain ⟨more, eP⟩ := un.tbls P #[] hP
  have grown : s'.heap.get? P = some { cls := .none, data := .fields (#[] ++ more) } := hok' P _ eP
  have kept : ∀ b o, b ≠ P → s.heap.get? b = some o → s'.heap.get? b = some o := by
    intro b o nb e
    by_cases z : H b = none
    · exact un.keep b o e z (show b ∉ ([] : List Addr) from List.not_mem_nil) List.not_mem_nil
    · rcases hO b nb with y | ⟨ob, xs, y⟩
      · exact absurd y z
      · have g1 := (hok b _ y).1
        have g2 := (hok' b _ (un.frzs b ob _ y)).1
        rw [g1] at e
        injection e with e
        rw [← e]
        exact g2
  refine ⟨e1, ⟨fun b o e => ?_, fun b o e => ?_⟩, os, bare⟩
  · by_cases nb : b = P
    · subst nb
      rw [hT] at e
      injection e with e
      subst e
      exact .inr (.inl ⟨(C.tab hT).isCodeTable, rfl, #[], more, rfl, grown⟩)
    · exact .inl (kept b o nb e)
  · by_cases nb : b = P
    · subst nb
      exact ⟨_, grown⟩
    · exact ⟨o, kept b o nb e⟩
/-- the goal that the head leaves, from the law's body walked with known guards and one table -/
theorem law_topT {l : PySem.W.OpenLaw} {n : Nat} {q : Program} {loose : List Str} {XP : (Str → Option Value) → Heap → Prop} {YP : World → Heap → Prop} {d : DefRec} {K : Params → PySem.W.Frag} {N : List Str} {x nm qual : Str} {st : Stmt}
    (hn : l.most = some n) (hn2 : n ≤ sizeLine) (hdf : d.params.defaults = []) (hY : ∀ (w : World) (h : Heap), YP w h → (K w.params).In h)
    (Z : ∀ (w : World) (mg : Str → Option Value) (fa : Addr) (h : Heap), YP w h → (K w.params).In h → h.Ns mainGlobals mg → mg d.name = some (.ref fa) →
      ∃ (fd : FuncData) (c P : Addr), h.get? P = some tab0 ∧ (K w.params).lookup P = none ∧ PySem.W.CodeHd h c P ∧ Fun (K w.params) nm qual st fa fd ∧ FnScope N [x] (defScope st) ∧ (∀ (s : Shared) (u : Value), BindsTo s fd ⟨[u], []⟩ [(x, u)]) ∧ LawBodyT l w (K w.params) mg n N qual st fa c P) :
    PySem.W.WalkO q loose XP YP l.row.toRowW d [] (fun f vs => PySem.call f vs) := by
  refine Att.attach_call hn hdf ?_
  intro w s₀ s mg mb fa o pm cd doc a vs ns G Y ho hd hcd hmg hobj hints hlen hg
  have KX : (K w.params).In s.heap := hY w _ Y
  obtain ⟨fd, c, P, hT, nT, C, F, S, hbi, B⟩ := Z w mg fa _ Y KX G.T.g hmg
  have bmP : s.heap.BuiltinsAt mg P := by
    obtain ⟨bm, ob, b1, b2, b3, b4, b5, b6⟩ := G.T.bmain
    refine ⟨bm, ob, b1, b2, fun z => ?_, fun z => ?_, b3, b4, b5, b6⟩
    · obtain ⟨o', es, ep, e, hd', _⟩ := G.T.g
      rw [z, e] at b3
      injection b3 with b3
      rw [b3, b6] at hd'
      injection hd'
    · rw [z, hT] at b3
      injection b3 with b3
      rw [← b3] at b6
      injection b6
  have rv : Vals (ns.map V.int) vs := vals_ints hints
  have top : ns.length ≤ sizeLine := Nat.le_trans hlen hn2
  have naP : a ≠ P := fun z => by
    rw [z, hT] at hobj
    injection hobj with hobj
    have := congrArg Obj.data hobj
    injection this
  have plain := @settleT l w (K w.params) mg mb n N x nm qual st fa a c P fd s
  cases hk : (K w.params).lookup a with
  | some u =>
    have e := KX a u hk
    rw [hobj] at e
    injection e with e
    subst e
    refine plain (H := fun b => if b = P then some (.tbl #[]) else none) (ns := ns) (vs := vs) KX G.T.g G.T.b G.T.builtins G.T.nolimit hg hobj hlen hT nT C bmP F S hbi B (if_pos rfl) (fun b nb => .inl (if_neg nb)) (.inr ⟨_, vs.toArray, _, hk, rfl, rfl, rfl, ?_, ?_⟩) (fun b u z => ?_) (fun b z => ?_) (fun z => absurd (if_neg naP) z)
    · rw [List.size_toArray, hints.length]
      exact top
    · simpa using rv
    · by_cases hb : b = P
      · have y := (if_pos hb).symm.trans z
        injection y with y
        subst y
        subst hb
        exact hT
      · have y := (if_neg hb).symm.trans z
        injection y
    · by_cases hb : b = P
      · exact .inr hb
      · exact absurd (if_neg hb) z
  | none =>
    refine plain (H := fun b => if b = P then some (.tbl #[]) else scriptHp a vs ns b) (ns := ns) (vs := vs) KX G.T.g G.T.b G.T.builtins G.T.nolimit hg hobj hlen hT nT C bmP F S hbi B (if_pos rfl) (fun b nb => ?_) (.inl (.inr ⟨_, (if_neg naP).trans (if_pos rfl)⟩)) (fun b u z => ?_) (fun b z => ?_) (fun _ => hk)
    · by_cases eb : b = a
      · exact .inr ⟨_, _, (if_neg nb).trans (if_pos eb)⟩
      · exact .inl ((if_neg nb).trans (if_neg eb))
    · by_cases hb : b = P
      · have y := (if_pos hb).symm.trans z
        injection y with y
        subst y
        subst hb
        exact hT
      · have z1 := (if_neg hb).symm.trans z
        by_cases eb : b = a
        · have y := (if_pos eb).symm.trans z1
          injection y with y
          subst y
          subst eb
          exact ⟨hobj, by rw [List.length_map]; exact top, vs, _, rv, hobj⟩
        · have y := (if_neg eb).symm.trans z1
          injection y
    · by_cases hb : b = P
      · exact .inr hb
      · by_cases eb : b = a
        · exact .inl eb
        · exact absurd ((if_neg hb).trans (if_neg eb)) z
end My
namespace My
open PySem PySem.Spec PyProof.Rows L2
/-! ### a dict that remembers ints, its keys tuples of ints, texts and None -/
def lV : Leaf → V
  | .none => .non
  | .num i => .int i
  | .text z => .str z
theorem lV_is {P : Program} {w : World} {k : Leaf} {u : Value} (r : RelV (lV k) u) : (leafKind P w).is k u = true := by
  cases k with
  | none => obtain rfl : u = Value.none := r; rfl
  | num i => obtain ⟨t, rfl⟩ := (show ∃ t, u = Value.int i t from r); exact decide_eq_true rfl
  | text x =>
    obtain ⟨t, rfl⟩ := (show ∃ t, u = Value.str x t from r)
    show Value.isStrOf x (.str x t) = true
    simp [Value.isStrOf]
theorem leaves_are {P : Program} {w : World} : ∀ {ks : List Leaf} {us : List Value}, Vals (ks.map lV) us → ItemsAre (leafKind P w) ks us
  | [], _, r => by rw [List.map_nil] at r; cases r; exact .nil
  | k :: ks, _, r => by
    rw [List.map_cons] at r
    cases r with
    | cons h t => exact .cons (lV_is h) (leaves_are t)
theorem keyL_of {P : Program} {w : World} {H : Hp} {h : Heap} {b : Addr} {ks : List Leaf} (ok : HOk P w H h) (e : H b = some (.tup (ks.map lV))) : (tupleKind (leafKind P w)).is h ks b := by
  obtain ⟨_, its, r, o, h1, h2, n, h3⟩ := (show ObjOk P w H h b (.tup (ks.map lV)) from ok b _ e)
  exact ⟨o, its.toArray, n, h1, h2, h3, by simpa using leaves_are r⟩
/-- the dict at a by its own object: its entries -/
def MemO (P : Program) (w : World) (a : Addr) (xs : List (List Leaf × Addr × Value)) : HO := .ext fun h => ∃ o es ep, h.get? a = some o ∧ o.ExactDict ∧ o.data = .dict es ep ∧ es.toList = xs.map (entryOfKey (tupleKind (leafKind P w))) ∧ (xs.map (·.1)).Nodup
/-- what stands in it: R tells of each key's int; n entries at most -/
structure MemAt (P : Program) (w : World) (H : Hp) (a : Addr) (R : List Leaf → Int → Prop) (n : Nat) (xs : List (List Leaf × Addr × Value)) : Prop where
  ex : H a = some (MemO P w a xs)
  few : xs.length ≤ n
  key : ∀ x ∈ xs, H x.2.1 = some (.tup (x.1.map lV)) ∧ ∃ i t, x.2.2 = Value.int i t ∧ R x.1 i
  sys : (a == sysModules) = false
theorem MemAt.keep {P : Program} {w : World} {H H' : Hp} {a : Addr} {R : List Leaf → Int → Prop} {n : Nat} {xs : List (List Leaf × Addr × Value)} (M : MemAt P w H a R n xs) (k : ∀ q o, H q = some o → H' q = some o) : MemAt P w H' a R n xs :=
  ⟨k _ _ M.ex, M.few, fun x hx => ⟨k _ _ (M.key x hx).1, (M.key x hx).2⟩, M.sys⟩
theorem MemAt.more {P : Program} {w : World} {H : Hp} {a : Addr} {R : List Leaf → Int → Prop} {n m : Nat} {xs : List (List Leaf × Addr × Value)} (M : MemAt P w H a R n xs) (h : n ≤ m) : MemAt P w H a R m xs :=
  ⟨M.ex, Nat.le_trans M.few h, M.key, M.sys⟩
section
variable {X : Cx} {pins : List (Addr × Obj)} {σ : L2.St} {H : Hp} {s : Shared} {a : Addr} {R : List Leaf → Int → Prop} {n : Nat} {xs : List (List Leaf × Addr × Value)}
theorem mem_dict (I : Inv X pins σ H s) (M : MemAt X.prog X.w H a R n xs) : s.heap.DictOfH (tupleKind (leafKind X.prog X.w)) a xs := by
  obtain ⟨⟨o, es, ep, h1, h2, h3, h4, h5⟩, _, _⟩ := I.hok a _ M.ex
  exact ⟨o, es, ep, h1, h2, h3, h4, fun x hx => keyL_of I.hok (M.key x hx).1, h5⟩
theorem atKey_mem {K : Type} [DecidableEq K] : ∀ {xs : List (K × Addr × Value)} {k : K} {p : Addr × Value}, atKey xs k = some p → ∃ x ∈ xs, x.1 = k ∧ x.2 = p := by
  intro xs k p h
  unfold atKey at h
  obtain ⟨x, hx, e⟩ := Option.map_eq_some_iff.mp h
  have hm := List.mem_of_find?_eq_some hx
  have hp := List.find?_some hx
  exact ⟨x, hm, of_decide_eq_true hp, e⟩
def rMemNotIn (P : Program) (w : World) : R2 := fun x y H Q => ∃ (a b : Addr) (k : List Leaf) (R : List Leaf → Int → Prop) (n : Nat) (xs : List (List Leaf × Addr × Value)), x = .ref b ∧ y = .ref a ∧ H b = some (.tup (k.map lV)) ∧ MemAt P w H a R n xs ∧ Q (.bl (!(atKey xs k).isSome)) H
theorem op_memNotIn (hu : X.A.units + 1 < cLine) : OpR X (compareOp .NotIn) (rMemNotIn X.prog X.w) := by
  intro pins s σ H x y v u Q I rx ry h
  obtain ⟨a, b, k, R, n, xs, rfl, rfl, eb, M, q⟩ := h
  cases rx
  cases ry
  exact wpAny_notIn_heap (tupleKind_room_in1 hu) (keyL_of I.hok eb) M.sys (mem_dict I M) ⟨.bl (!(atKey xs k).isSome), H, I.tok _, rfl, q⟩
/-- d[key] of such a dict -/
def tMemGet (P : Program) (w : World) (td ty : TE) : TE := fun σ H Q => td σ H fun x H1 => ty σ H1 fun y H2 => ∃ (a b : Addr) (k : List Leaf) (R : List Leaf → Int → Prop) (n : Nat) (xs : List (List Leaf × Addr × Value)), x = .ref a ∧ y = .ref b ∧ H2 b = some (.tup (k.map lV)) ∧ MemAt P w H2 a R n xs ∧ (atKey xs k).isSome = true ∧
  ∀ i : Int, R k i → Q (.int i) H2
theorem pe_memget {o i : Expr} {td ty : TE} {pos : Pos} (hu : X.A.units + 1 < cLine) (ho : PE X o td) (hi : PE X i ty) (hs : NoSl i) : PE X (.Subscript o i pos) (tMemGet X.prog X.w td ty) := by
  refine ⟨fun pins s σ H Q I h => ?_⟩
  refine subD_of PySem.F.slot_dict_getitem.lookup hs (thn (ho.run pins s σ H _ I h) fun u s1 ⟨x, H1, I1, rx, q1⟩ => thn (hi.run pins s1 σ H1 _ I1 q1) fun iv s2 ⟨y, H2, I2, ry, a, b, k, R, n, xs, ex, ey, eb, M, sm, q2⟩ => ?_)
  subst ex ey
  obtain rfl : u = Value.ref a := rx
  obtain rfl : iv = Value.ref b := ry
  have dd := mem_dict I2 M
  obtain ⟨p, hp⟩ := Option.isSome_iff_exists.mp sm
  obtain ⟨x, hx, e1, e2⟩ := atKey_mem hp
  obtain ⟨_, i, t, e3, r⟩ := M.key x hx
  refine ⟨dd.typeIs, wpAny_getItem_heap (tupleKind_room_in1 hu) (keyL_of I2.hok eb) dd hp ⟨.int i, H2, I2.tok _, ?_, q2 i (e1 ▸ r)⟩⟩
  rw [← e2, e3]
  exact ⟨t, rfl⟩
/-- d[key] = i of such a dict, the key not yet in it -/
def rMemPut (P : Program) (w : World) : TSet := fun o y v H Q => ∃ (a b : Addr) (k : List Leaf) (R : List Leaf → Int → Prop) (n : Nat) (xs : List (List Leaf × Addr × Value)) (i : Int), o = .ref a ∧ y = .ref b ∧ v = .int i ∧ H b = some (.tup (k.map lV)) ∧ MemAt P w H a R n xs ∧ n < 1000000 ∧ R k i ∧
  ∀ (H' : Hp) (xs' : List (List Leaf × Addr × Value)), MemAt P w H' a R (n + 1) xs' → (∀ q u, q ≠ a → H q = some u → H' q = some u) → (atKey xs' k).isSome = true → Q H'
theorem atKey_put {K : Type} [DecidableEq K] (k : K) (v : Value) : ∀ {xs : List (K × Addr × Value)}, (atKey xs k).isSome = true → (atKey (xs.map (putAt k v)) k).isSome = true := by
  intro xs h
  obtain ⟨p, hp⟩ := Option.isSome_iff_exists.mp h
  obtain ⟨x, hx, e1, _⟩ := atKey_mem hp
  unfold atKey
  rw [Option.isSome_map, List.find?_isSome]
  refine ⟨putAt k v x, List.mem_map.mpr ⟨x, hx, rfl⟩, ?_⟩
  unfold putAt
  rw [if_pos e1]
  exact decide_eq_true e1
theorem set_mem (hu : X.A.units + 1 < cLine) : PSet X (rMemPut X.prog X.w) := by
  intro pins s σ H o y v ov iv u Q I ro ri rv h
  obtain ⟨a, b, k, R, n, xs, i, rfl, rfl, rfl, eb, M, hn, r, q⟩ := h
  cases ro
  cases ri
  obtain ⟨t, rfl⟩ := rv
  have dd := mem_dict I M
  have hz : xs.length ≤ sizeLine := by rw [sizeLine_eq]; have := M.few; omega
  refine wpAny_setItem_heap (hsz := hz) (tupleKind_room_in1 hu) (keyL_of I.hok eb) dd fun h' dd' hs => ?_
  obtain ⟨ob, es, ep, hq, h2, h3, h4, _, h5⟩ := dd'
  obtain ⟨_, _, _⟩ := I.hok a _ M.ex
  have new : ObjOk X.prog X.w (upd H a (MemO X.prog X.w a (storedH xs k b (.int i t)))) h' a (MemO X.prog X.w a (storedH xs k b (.int i t))) := by
    refine ⟨⟨ob, es, ep, hq, h2, h3, h4, h5⟩, ⟨ob, hq⟩, fun h1 h2' ⟨o1, es1, ep1, g1, g2⟩ kk => ⟨o1, es1, ep1, kk _ g1, g2⟩⟩
  have far : ∀ q u, q ≠ a → H q = some u → (upd H a (MemO X.prog X.w a (storedH xs k b (.int i t)))) q = some u := fun q u ne e => by rw [upd_ne ne]; exact e
  have tupNe : ∀ {c : Addr} {ys : List V}, H c = some (.tup ys) → c ≠ a := fun ec => ne_of ec M.ex (fun z => nomatch z)
  refine ⟨_, d_write I (by rw [M.ex]; exact True.intro) hs ⟨ob, hq⟩ new, ?_⟩
  by_cases there : (atKey xs k).isSome = true
  · obtain ⟨p, hp⟩ := Option.isSome_iff_exists.mp there
    have es' := storedH_old hp b (.int i t)
    refine q _ (xs.map (putAt k (.int i t))) ⟨by rw [← es']; exact upd_same, by rw [List.length_map]; have := M.few; omega, fun x hx => ?_, M.sys⟩ far (atKey_put k _ there)
    obtain ⟨x0, hx0, rfl⟩ := List.mem_map.mp hx
    obtain ⟨m1, i0, t0, m2, m3⟩ := M.key x0 hx0
    unfold putAt
    by_cases e : x0.1 = k
    · rw [if_pos e]
      exact ⟨far _ _ (tupNe m1) m1, i, t, rfl, e ▸ r⟩
    · rw [if_neg e]
      exact ⟨far _ _ (tupNe m1) m1, i0, t0, m2, m3⟩
  · have hno : atKey xs k = none := by
      cases e : atKey xs k with
      | none => rfl
      | some p => rw [e] at there; exact absurd rfl there
    have es' := storedH_new hno b (.int i t)
    refine q _ (xs ++ [(k, b, .int i t)]) ⟨by rw [← es']; exact upd_same, by rw [List.length_append, List.length_singleton]; have := M.few; omega, fun x hx => ?_, M.sys⟩ far ?_
    · rcases List.mem_append.mp hx with hx | hx
      · obtain ⟨m1, m2⟩ := M.key x hx
        exact ⟨far _ _ (tupNe m1) m1, m2⟩
      · obtain rfl := List.mem_singleton.mp hx
        exact ⟨far _ _ (tupNe eb) eb, i, t, rfl, r⟩
    · unfold atKey
      rw [Option.isSome_map, List.find?_isSome]
      exact ⟨(k, b, .int i t), List.mem_append_right _ (List.mem_singleton.mpr rfl), decide_eq_true rfl⟩
/-- {} as such a dict -/
def tMemNew (P : Program) (w : World) : TE := fun _ H Q => ∀ a, H a = none → (∀ R, MemAt P w (upd H a (MemO P w a [])) a R 0 []) → Q (.ref a) (upd H a (MemO P w a []))
theorem pe_memnew {pos : Pos} : PE X (.Dict [] [] pos) (tMemNew X.prog X.w) := ⟨fun pins s σ H Q I h => by
  have hb := I.big
  have hn := I.hok.fresh (Nat.le_refl s.heap.objs.size)
  have sys : (s.heap.objs.size == sysModules) = false := beq_eq_false_iff_ne.mpr (Ne.symm (Nat.ne_of_lt hb))
  have new : ObjOk X.prog X.w (upd H s.heap.objs.size (MemO X.prog X.w s.heap.objs.size [])) (s.heap.push { cls := .type "dict", data := .dict #[] }) s.heap.objs.size (MemO X.prog X.w s.heap.objs.size []) :=
    ⟨⟨_, #[], 0, Heap.get?_push_size _ rfl, ⟨rfl, rfl, rfl⟩, rfl, rfl, List.nodup_nil⟩, ⟨_, Heap.get?_push_size _ rfl⟩, fun h1 h2' ⟨o1, es1, ep1, g1, g2⟩ kk => ⟨o1, es1, ep1, kk _ g1, g2⟩⟩
  refine wpAny_Dict_empty ⟨.ref s.heap.objs.size, _, I.laid (a := s.heap.objs.size) (o := MemO X.prog X.w s.heap.objs.size []) (t' := s.toks) (fun _ _ q => Heap.get?_push_of_some _ q) (Nat.le_refl _) new, rfl, h _ hn fun R => ⟨upd_same, Nat.le_refl _, fun x hx => absurd hx List.not_mem_nil, sys⟩⟩⟩
end
end My
/-! an own exception made with keywords, as a value -/
namespace MyX
open PySem PySem.Spec PySem.W PySem.Calls PySem.HandSPX Builtin Builtin.ObjectAttr
section
variable {M : Model} {Ar : Around} {Er : Value → Shared → Prop} {hp : Heap} {ge : Array GenState} {dr : Drawn} {tk : Nat} {os : OsState}
variable {nm qn : Str} {C Nn : Addr} {bs bm bB : List Value} {hd : Bool} {sn : List Str} {sb : List Value} {ab : Bool} {col : Option Bool} {dd : Option Addr} {k0 k1 k2 k3 k5 : Option Value} {B nw ini : String}
theorem kw_check (F : ExcBaseFacts B nw ini bB) (hT : ∀ X : String, bm.contains (.type X) = bB.contains (.type X)) {rest : List Value} {kw : List (Str × Value)} {Q : Unit → Shared → Prop}
    (hC : hp.get? C = some (excClassObj nm qn C Nn bs bm hd sn sb ab col dd k0 k1 k2 k3 k5 nw)) (q : Q () ⟨hp, ge, dr, tk, os⟩) : wpAny M Ar (checkBuiltinCall nw ⟨.ref C :: rest, kw⟩) Q Er ⟨hp, ge, dr, tk, os⟩ := by
  have inB : (Value.ref C :: bm).contains (.type B) = true := by
    rw [List.contains_cons, hT, F.hasB, Bool.or_true]
  have star := F.noStar
  simp only [checkBuiltinCall, F.newKind, F.newSplit, F.newRow]
  repeat (first
    | refine wpAny_loadPart_at hC ?_
    | (refine wpAny_isSubtype_exc hC ?_; rw [inB])
    | refine wpAny_staticBase_exc hC ?_
    | refine wpAny_madeBy_exc hC ?_
    | simp only [bne_self_eq_false, Bool.false_eq_true, if_false]
    | wp_step)
  exact q
end
section
variable {prog : Program} {w : World} {Ar : Around} {Er : Value → Shared → Prop} {R : Result → Shared → Prop} {hp : Heap} {ge : Array GenState} {dr : Drawn} {tk : Nat} {os : OsState}
variable {nm qn : Str} {C Nn : Addr} {bs bm bB : List Value} {hd : Bool} {sn : List Str} {sb : List Value} {ab : Bool} {col : Option Bool} {dd : Option Addr} {k0 k1 k2 k3 k5 : Option Value} {B nw ini : String}
/-- the two objects that come about -/
def grown (hp : Heap) (C : Addr) (rest : List Value) : Heap := (hp.push (PySem.W.kdv_tup rest)).push (PySem.HandSPX.excO C hp.objs.size)
theorem kw_new (F : ExcBaseFacts B nw ini bB) (hT : ∀ X : String, bm.contains (.type X) = bB.contains (.type X)) {rest : List Value} {kw : List (Str × Value)}
    (hC : hp.get? C = some (excClassObj nm qn C Nn bs bm hd sn sb ab col dd k0 k1 k2 k3 k5 nw)) (q : R (.ok (.ret (.ref (hp.objs.size + 1)))) ⟨grown hp C rest, ge, dr, tk, os⟩) (hl : rest.length ≤ sizeLine) :
    codeAny (model prog w) Ar (.builtin nw ⟨.ref C :: rest, kw⟩) R ⟨hp, ge, dr, tk, os⟩ := by
  have fin := F.ends
  have inB : (Value.ref C :: bm).contains (.type B) = true := by
    rw [List.contains_cons, hT, F.hasB, Bool.or_true]
  have noA : (Value.ref C :: bm).contains (.type "AttributeError") = false := by
    rw [List.contains_cons, hT, F.noAttr]
    rfl
  have noN : (Value.ref C :: bm).contains (.type "NameError") = false := by
    rw [List.contains_cons, hT, F.noName]
    rfl
  refine codeAny_builtinAt F.entry ?_
  unfold Builtin.«BaseException.__new__»
  refine PySem.wpAt_bind ?_
  show wpAt _ _ _ (stack >>= _) _ _ _
  refine PySem.wpAt_bind (wpAt_stack fun p below => wpAt_of_wpAny ?_)
  wp_walk
  refine wpAt_of_wpAny ?_
  rw [F.owner]
  repeat (first
    | with_reducible refine wpAny_madeHere_exc F.canon hC ?_
    | with_reducible refine wpAny_loadPart_at hC ?_
    | (with_reducible refine wpAny_isSubtype_exc hC ?_; first | rw [inB] | rw [noA] | rw [noN])
    | wp_step)
  show R _ _
  rw [Heap.size_push]
  exact q
theorem kw_made (F : ExcBaseFacts B nw ini bB) (hT : ∀ X : String, bm.contains (.type X) = bB.contains (.type X)) {rest : List Value} {kw : List (Str × Value)} {fI : Addr} {Q : Fin → Shared → Prop}
    (hC : hp.get? C = some (excClassObj nm qn C Nn bs bm hd sn sb ab col dd k0 k1 k2 k3 k5 nw))
    (hi : W.Looks (model prog w) hp (typeLookup (.ref C) "__init__") (some (.ref fI))) (hb : ∀ self, W.Looks (model prog w) hp (bindSpecial (.ref fI) self) (.ref fI, [self])) (hl : rest.length ≤ sizeLine)
    (q : codeAny (model prog w) Ar (.call (.ref fI) ⟨.ref (hp.objs.size + 1) :: rest, kw⟩)
      (fun r s' => match r with | .ok (.ret v) => v = .none ∧ Q (.done (.ret (.ref (hp.objs.size + 1)))) s' | .ok _ => False | .error e => Er e s') ⟨grown hp C rest, ge, dr, tk, os⟩) :
    wpAny (model prog w) Ar (Builtin.«type.__call__» ⟨.ref C :: rest, kw⟩) Q Er ⟨hp, ge, dr, tk, os⟩ := by
  repeat (first | with_reducible refine wpAny_loadPart_at hC ?_ | with_reducible refine wpAny_madeBy_exc hC ?_ | wp_step)
  refine codeAny_call_builtin_code (Code.quiet_builtin _ F.quiet) (kw_check F hT hC ?_)
  refine kw_new F hT hC ?_ hl
  show wpAny _ _ _ _ _ _
  have keep : ∀ b o, hp.get? b = some o → (grown hp C rest).get? b = some o := fun b o e => Heap.get?_push_of_some _ (Heap.get?_push_of_some _ e)
  have hC' := keep _ _ hC
  have there : (grown hp C rest).get? (hp.objs.size + 1) = some (excO C hp.objs.size) := by
    unfold grown
    heap_get
  have isC : (Value.ref C :: bm).contains (.ref C) = true := by simp
  have hi' := hi.keeps keep
  have hb' := (hb (.ref (hp.objs.size + 1))).keeps keep
  unfold isInstance
  repeat (first | with_reducible refine wpAny_loadPart_at there ?_ | (with_reducible refine wpAny_isSubtype_exc hC' ?_; rw [isC]) | wp_step)
  show wpAny _ _ (typeLookup (.ref C) _) _ _ _
  refine hi'.at ?_
  refine wpAny_holding (wpAny_bind (hb'.at ?_))
  refine wpAny_bind (wpAny_call (codeAny_mono q fun r s' z => ?_))
  rcases r with e | (v | _ | _ | _) <;> first | exact z | exact z.elim | skip
  obtain ⟨rfl, z⟩ := z
  first
    | exact wpAny_pure (wpAny_pure z)
    | (wp_walk; exact z)
theorem kw_call (F : ExcBaseFacts B nw ini bB) (hT : ∀ X : String, bm.contains (.type X) = bB.contains (.type X)) {rest : List Value} {kw : List (Str × Value)} {fI : Addr}
    (hC : hp.get? C = some (excClassObj nm qn C Nn bs bm hd sn sb ab col dd k0 k1 k2 k3 k5 nw))
    (hi : W.Looks (model prog w) hp (typeLookup (.ref C) "__init__") (some (.ref fI))) (hb : ∀ self, W.Looks (model prog w) hp (bindSpecial (.ref fI) self) (.ref fI, [self])) (hl : rest.length ≤ sizeLine)
    (q : codeAny (model prog w) (Ar.under (.builtin "type.__call__" ⟨.ref C :: rest, kw⟩)) (.call (.ref fI) ⟨.ref (hp.objs.size + 1) :: rest, kw⟩) (W.InitBack (hp.objs.size + 1) R) ⟨grown hp C rest, ge, dr, tk, os⟩) :
    codeAny (model prog w) Ar (.call (.ref C) ⟨rest, kw⟩) R ⟨hp, ge, dr, tk, os⟩ := by
  have t1 := tc_lookup
  have t2 := tc_bind (.ref C)
  have tC : (⟨hp, ge, dr, tk, os⟩ : Shared).TypeIs (.ref C) "type" := ⟨_, hC, rfl⟩
  refine codeAny_of_tree ?_
  show wpAny _ _ (callAny (.ref C) _) _ _ _
  repeat (any_goals (first | assumption | with_reducible refine wpAny_loadPart_at hC ?_ | wp_step))
  refine ⟨rfl, ?_⟩
  refine codeAny_call_builtin_at (Code.quiet_builtin _ (by decide +kernel)) entry_typeCall (wpAny_check_type_call_sub hC (kw_made F hT hC hi hb hl ?_))
  refine codeAny_mono q fun r s' z => ?_
  rcases r with e | (v | _ | _ | _) <;> exact z
end
end MyX
namespace My
open PySem PySem.Spec PyProof.Rows L2
/-- what the walk of the law's body has to give, the guards being known -/
def LawBodyS (l : PySem.W.OpenLaw) (w : World) (K : PySem.W.Frag) (mg : Str → Option Value) (n : Nat) (N : List Str) (qual : Str) (st : Stmt) (fa : Addr) : Prop :=
  ∀ base : Heap, K.In base → base.Ns mainGlobals mg → (∃ m, base.Ns sysModules m) → ∀ (cdv : Value) (s : Shared) (H : Hp) (a : Addr) (ns : List Int), ns.length ≤ n → Only H → SqL K H a (ns.map V.int) →
    ∃ t, PSs (cxOf CX0 l.prog w K mg base N qual (defScope st) fa cdv callerA [] s H E0).nox (defBody st) t ∧
      t { nx := fun _ _ => False, rt := fun v _ => v = .bl true } (start N [.ref a]) H

/-- one call of the law from an abstract heap -/
theorem enterS {l : PySem.W.OpenLaw} {w : World} {K : PySem.W.Frag} {mg : Str → Option Value} {n : Nat} {N : List Str} {x nm qual : Str} {st : Stmt} {fa a : Addr} {fd : FuncData}
    {base : Heap} {s : Shared} {H : Hp} {ns : List Int}
    (F : Fun K nm qual st fa fd) (S : FnScope N [x] (defScope st)) (hb : ∀ (s : Shared) (u : Value), BindsTo s fd ⟨[u], []⟩ [(x, u)])
    (B : LawBodyS l w K mg n N qual st fa) (hKb : K.In base) (hNb : base.Ns mainGlobals mg) (hSb : ∃ m, base.Ns sysModules m) (hn : ns.length ≤ n) (hO : Only H) (hS : SqL K H a (ns.map V.int))
    (e0 : Env0 l.prog w K mg base callerA [] s H) :
    codeAny (model l.prog w) callerA (.call (.ref fa) ⟨[.ref a], []⟩)
      (fun r s' => r = .ok (.ret (.bool true)) ∧ ∃ H', s'.os = s.os ∧ AllBare s'.gens ∧ Un [] [] H H' s.heap s'.heap ∧ HOk l.prog w H' s'.heap) s := by
  obtain ⟨oc, od, kV, doc, pm, an, cdv, ct, osl, rfl, lk, hcd⟩ := F.ex
  have stays : ∀ b o, base.get? b = some o → s.heap.get? b = some o := fun b o z => (e0.bs b o z).1
  have KS : K.In s.heap := e0.mod.kin.keeps stays
  have NL : s.heap.NoLimit := e0.mod.nolimit.keeps stays
  have kinds : ∀ y ∈ [x].zip [Value.ref a], (defScope st).names.lookup y.1 = some .local ∨ ((defScope st).names.lookup y.1 = some .cell ∧ ((cellsFrom (s.heap.objs.size + 1) (defScope st).names []).lookup y.1).isSome = true) := by
    intro y hy
    obtain rfl : y = (x, Value.ref a) := List.mem_singleton.mp hy
    cases S.par x (List.mem_singleton.mpr rfl) with
    | inl q => exact .inl q
    | inr q => exact .inr ⟨q, PySem.W.cellsFrom_some _ _ _ (.inl q)⟩
  refine codeAny_call_function (by decide) (KS _ _ lk) rfl S.co S.gen rfl (PySem.W.codeRec_of KS hcd) (hb s (.ref a) _ _ _ _ ?_)
  refine wpAny_newFunctionEnv_cells S.kind kinds fun env he s2 ic => ?_
  subst he
  refine ⟨NL.keeps ic.toInCall.keep, codeAny_func ?_⟩
  obtain ⟨t, ht, hq⟩ := B base hKb hNb hSb cdv s H a ns hn hO hS
  have J0 := inv_start (E := E0) (CX := CX0) S (show callerA.handled = none from rfl) e0 (vs := [.ref a]) (us := [.ref a]) rfl (.cons rfl .nil) ic
  refine wpAny_mono (ht.run [] s2 (start N [.ref a]) H _ (J0.wish _) hq) (fun fl s' hs => ?_) fun e s' hs => hs.elim
  cases fl with
  | ret u =>
    obtain ⟨v, σ', H', J, rv, q⟩ := hs
    subst q
    obtain rfl : u = Value.bool true := rv
    exact ⟨rfl, H', J.os, J.bare, J.base, J.hok⟩
  | next => exact (let ⟨_, _, _, q⟩ := hs; q).elim
  | brk => exact (let ⟨_, _, _, q⟩ := hs; q).elim
  | cont => exact (let ⟨_, _, _, q⟩ := hs; q).elim

/-- from one call in an abstract heap to the call that is asked for -/
theorem settleS {l : PySem.W.OpenLaw} {w : World} {K : PySem.W.Frag} {mg mb : Str → Option Value} {n : Nat} {N : List Str} {x nm qual : Str} {st : Stmt} {fa a : Addr} {fd : FuncData} {s : Shared} {H : Hp} {ns : List Int} {vs : List Value}
    (KX : K.In s.heap) (hns : s.heap.Ns mainGlobals mg) (hb : s.heap.Ns builtinsNs mb) (hbb : ∀ x : Str, x ≠ "__name__" → mb x = bootBuiltins x) (hsy : ∃ m, s.heap.Ns sysModules m) (hlim : s.heap.NoLimit) (hg : s.gens = #[])
    (ha : s.heap.get? a = some { cls := .type "list", data := .seq vs.toArray }) (hn : ns.length ≤ n)
    (F : Fun K nm qual st fa fd) (S : FnScope N [x] (defScope st)) (hbi : ∀ (s : Shared) (u : Value), BindsTo s fd ⟨[u], []⟩ [(x, u)]) (B : LawBodyS l w K mg n N qual st fa)
    (hO : Only H) (hS : SqL K H a (ns.map V.int)) (hok : HOk l.prog w H s.heap) (one : ∀ b, H b ≠ none → b = a) (out : H a ≠ none → K.lookup a = none) :
    codeAny (model l.prog w) callerA (.call (.ref fa) ⟨[.ref a], []⟩) (fun r s' => r = .ok (.ret (.bool true)) ∧ OldK s.heap s'.heap ∧ s'.os = s.os ∧ AllBare s'.gens) s := by
  have seen : ∀ {b : Addr} {o : Obj}, H b = none → s.heap.get? b = some o → (hidT s.heap H).get? b = some o := fun q e => hidT_get e q
  have free : ∀ {b : Addr} {o : Obj}, s.heap.get? b = some o → (∀ xs k, o.data ≠ .seq xs k) → H b = none := by
    intro b o e nd
    by_cases z : H b = none
    · exact z
    · have eb := one b z
      rw [eb, ha] at e
      injection e with e
      exact absurd (by rw [← e]) (nd vs.toArray 0)
  have names : ∀ {b : Addr} {m : Str → Option Value}, s.heap.Ns b m → (hidT s.heap H).Ns b m := by
    intro b m nb
    obtain ⟨o, es, ep, e, d, rest⟩ := nb
    exact ⟨o, es, ep, seen (free e fun xs k z => by rw [d] at z; injection z) e, d, rest⟩
  have KB : K.In (hidT s.heap H) := by
    intro b o e
    refine seen ?_ (KX b o e)
    by_cases z : H b = none
    · exact z
    · have eb := one b z
      subst eb
      rw [out z] at e
      injection e
  have E0' : Env0 l.prog w K mg (hidT s.heap H) callerA [] s H := by
    refine ⟨rfl, ⟨KB, names hns, ⟨mb, names hb, hbb⟩, ?_⟩, fun b o e => of_hidT e, Nat.le_of_eq (hidT_size _ _), trivial, ?_, hok, .of_eq hg⟩
    · obtain ⟨mc, c1, c2⟩ := hlim
      exact ⟨mc, names c1, c2⟩
    · intro b z
      exact absurd (show b ∈ ([] : List Addr) from z) List.not_mem_nil
  refine codeAny_mono (enterS F S hbi B KB (names hns) (hsy.imp fun _ z => names z) hn hO hS E0') fun r s' h => ?_
  obtain ⟨e1, H', os, bare, un, hok'⟩ := h
  refine ⟨e1, OldK.of_keep fun b o e => ?_, os, bare⟩
  by_cases z : H b = none
  · exact un.keep b o e z (show b ∉ ([] : List Addr) from List.not_mem_nil) List.not_mem_nil
  · rcases hO b with y | ⟨ob, xs, y⟩
    · exact absurd y z
    · have g1 := (hok b _ y).1
      have g2 := (hok' b _ (un.frzs b ob _ y)).1
      rw [g1] at e
      injection e with e
      rw [← e]
      exact g2

/-- the goal that the head leaves, from the law's body walked with known guards -/
theorem lawS_top {l : PySem.W.OpenLaw} {n : Nat} {q : Program} {loose : List Str} {XP : (Str → Option Value) → Heap → Prop} {YP : World → Heap → Prop} {d : DefRec} {K : Params → PySem.W.Frag} {N : List Str} {x nm qual : Str} {st : Stmt}
    (hseer : importsNone q = true) (hn : l.most = some n) (hn2 : n ≤ sizeLine) (hdf : d.params.defaults = []) (hY : ∀ (w : World) (h : Heap), YP w h → (K w.params).In h)
    (Z : ∀ (w : World) (mg : Str → Option Value) (fa : Addr) (h : Heap), (K w.params).In h → h.Ns mainGlobals mg → mg d.name = some (.ref fa) →
      ∃ fd : FuncData, Fun (K w.params) nm qual st fa fd ∧ FnScope N [x] (defScope st) ∧ (∀ (s : Shared) (u : Value), BindsTo s fd ⟨[u], []⟩ [(x, u)]) ∧ LawBodyS l w (K w.params) mg n N qual st fa) :
    PySem.W.WalkO q loose XP YP l.row.toRowW d [] (fun f vs => PySem.call f vs) := by
  refine Att.attach_call hn hdf ?_
  intro w s₀ s mg mb fa o pm cd doc a vs ns G Y ho hd hcd hmg hobj hints hlen hg
  have KX : (K w.params).In s.heap := hY w _ Y
  obtain ⟨fd, F, S, hbi, B⟩ := Z w mg fa _ KX G.T.g hmg
  have rv : Vals (ns.map V.int) vs := vals_ints hints
  have top : ns.length ≤ sizeLine := Nat.le_trans hlen hn2
  have plain := @settleS l w (K w.params) mg mb n N x nm qual st fa a fd s
  cases hk : (K w.params).lookup a with
  | some u =>
    have e := KX a u hk
    rw [hobj] at e
    injection e with e
    subst e
    refine plain (H := fun _ => none) (ns := ns) (vs := vs) KX G.T.g G.T.b G.T.builtins ((G.T.seer hseer).mods.imp fun _ z => z.1) G.T.nolimit hg hobj hlen F S hbi B (fun _ => .inl rfl) (.inr ⟨_, vs.toArray, _, hk, rfl, rfl, rfl, ?_, ?_⟩) (fun b u z => ?_) (fun b z => absurd rfl z) (fun z => absurd rfl z)
    · rw [List.size_toArray, hints.length]
      exact top
    · simpa using rv
    · injection z
  | none =>
    refine plain (H := scriptHp a vs ns) (ns := ns) (vs := vs) KX G.T.g G.T.b G.T.builtins ((G.T.seer hseer).mods.imp fun _ z => z.1) G.T.nolimit hg hobj hlen F S hbi B (fun b => ?_) (.inl (.inr ⟨_, if_pos rfl⟩)) (fun b u z => ?_) (fun b z => ?_) (fun _ => hk)
    · by_cases eb : b = a
      · exact .inr ⟨_, _, if_pos eb⟩
      · exact .inl (if_neg eb)
    · by_cases eb : b = a
      · have y := (if_pos eb).symm.trans z
        injection y with y
        subst y
        subst eb
        exact ⟨hobj, by rw [List.length_map]; exact top, vs, _, rv, hobj⟩
      · have y := (if_neg eb).symm.trans z
        injection y
    · by_cases eb : b = a
      · exact eb
      · exact absurd (if_neg eb) z
end My
namespace My
open PySem PySem.Spec PyProof.Rows L2
def topS (i : Nat) : Stmt := PySem.Challenge.pw_layerseen_k01_errors_and_their_fields.main.body.getD i (.Pass ⟨0, 0, 0, 0⟩)
abbrev sCopied : Stmt := topS 3
abbrev sPen : Stmt := topS 27
abbrev sDraw : Stmt := topS 28
abbrev sPick : Stmt := topS 29
abbrev sThing : Stmt := topS 30
abbrev sClasses : Stmt := topS 31
abbrev sValued : Stmt := topS 32
abbrev sParted : Stmt := topS 33
abbrev sPlaced : Stmt := topS 34
abbrev sNamed : Stmt := topS 35
abbrev sOthers : Stmt := topS 36
abbrev sLaw : Stmt := topS 37
structure Txt (mg : Str → Option Value) : Prop where
  int : mg "int" = none
  len : mg "len" = none
  abs : mg "abs" = none
  list : mg "list" = none
  tuple : mg "tuple" = none
  dict : mg "dict" = none
  range : mg "range" = none
  isi : mg "isinstance" = none
  repr : mg "repr" = none
  enum : mg "enumerate" = none
  verr : mg "ValueError" = none
/-- no value without parts is a paper -/
structure NoPap (K : PySem.W.Frag) (mg : Str → Option Value) (C : Addr) : Prop where
  g : mg "Paper" = some (.ref C)
  kit : ∀ T ∈ ["NoneType", "bool", "int", "str"], PySem.W.kitOne K (.type T) (.ref C) = some false
theorem pe_never {X : Cx} {e : Expr} : PE X e (fun _ _ _ => False) := ⟨fun _ _ _ _ _ _ h => h.elim⟩
def Same' (H H' : Hp) : Prop := ∀ q o, H q = some o → H' q = some o
theorem Same'.trans {H1 H2 H3 : Hp} (h : Same' H1 H2) (k : Same' H2 H3) : Same' H1 H3 := fun b o e => k b o (h b o e)
theorem same_new {H : Hp} {p : Addr} {o : HO} (h : H p = none) : Same' H (upd H p o) := fun b x e => by
  rw [upd_ne (ne_of_none e h)]
  exact e
theorem same_over {H H1 : Hp} {p : Addr} {o : HO} (h : H p = none) (k : Same' H H1) : Same' H (upd H1 p o) := fun b x e => by
  rw [upd_ne (ne_of_none e h)]
  exact k _ _ e
theorem fl_not {K : PySem.W.Frag} {H : Hp} {x : V} {d : PyData} (h : Fl x d) (T : String) (hT : T = "list" ∨ T = "tuple" ∨ T = "dict") : ∃ S, TyX K H x (.type S) ∧ kitB S T = some false := by
  cases h with
  | non => exact ⟨"NoneType", .base .non, by rcases hT with rfl | rfl | rfl <;> decide +kernel⟩
  | bl b => exact ⟨"bool", .base (.bl b), by rcases hT with rfl | rfl | rfl <;> decide +kernel⟩
  | int i => exact ⟨"int", .base (.int i), by rcases hT with rfl | rfl | rfl <;> decide +kernel⟩
  | str z => exact ⟨"str", .base (.str z), by rcases hT with rfl | rfl | rfl <;> decide +kernel⟩
def spFlat : Sp := fun vs H Q _ => ∃ (x : V) (d : PyData), vs = [x] ∧ Fl x d ∧ Q x H
section
variable {P : Program} {w : World} {K : PySem.W.Frag} {mg : Str → Option Value} {base : Heap}
abbrev nCop : List Str := ["value", "item", "key"]
theorem scCop : FnScope nCop ["value"] (defScope sCopied) := ⟨rfl, rfl, rfl, by decide +kernel, rfl, by decide +kernel, by decide +kernel⟩
theorem fl_pap {C : Addr} {H : Hp} {x : V} {d : PyData} (N : NoPap K mg C) (h : Fl x d) : ∃ t, TyX K H x t ∧ PySem.W.kitOne K t (.ref C) = some false := by
  cases h with
  | non => exact ⟨_, .base .non, N.kit _ (by simp)⟩
  | bl b => exact ⟨_, .base (.bl b), N.kit _ (by simp)⟩
  | int i => exact ⟨_, .base (.int i), N.kit _ (by simp)⟩
  | str z => exact ⟨_, .base (.str z), N.kit _ (by simp)⟩
theorem ok_flat {f CP : Addr} {fd : FuncData} (F : Fun K "copied" "copied" sCopied f fd) (NP : NoPap K mg CP) (T : Txt mg) : FnOk P w K mg base CX0 1 f fd ["value"] spFlat := by
  refine F.ok scCop (fun vs H Q E h => ?_) (fun cdv A outer s H vs Q E hr h => ?_)
  · obtain ⟨x, d, rfl, _⟩ := h
    rfl
  · obtain ⟨x, d, rfl, fl, q⟩ := h
    refine ⟨_, pss_cons (ps_if (pt_val (pe_callB call_isi (by rfl) T.isi (by decide +kernel) (pa_cons (pv 0) (pa_cons (pe_bltn (by rfl) T.list (by decide +kernel) (show RelV (.ty "list") _ from rfl)) pa_nil)))) (pss_one ps_never) pss_nil)
      (pss_cons (ps_if (pt_val (pe_callB call_isi (by rfl) T.isi (by decide +kernel) (pa_cons (pv 0) (pa_cons (pe_bltn (by rfl) T.tuple (by decide +kernel) (show RelV (.ty "tuple") _ from rfl)) pa_nil)))) (pss_one ps_never) pss_nil)
      (pss_cons (ps_if (pt_val (pe_callB call_isi (by rfl) T.isi (by decide +kernel) (pa_cons (pv 0) (pa_cons (pe_bltn (by rfl) T.dict (by decide +kernel) (show RelV (.ty "dict") _ from rfl)) pa_nil)))) (pss_one ps_never) pss_nil)
      (pss_cons (ps_if (pt_val (pe_callB call_isi (by rfl) T.isi (by decide +kernel) (pa_cons (pv 0) (pa_cons (pe_glob (v := .ref CP) rfl NP.g rfl) pa_nil)))) (pss_one ps_never) pss_nil)
      (pss_one (ps_ret (pv 0)))))), ?_⟩
    obtain ⟨S1, t1, k1⟩ := fl_not (K := K) (H := H) fl "list" (by simp)
    obtain ⟨S2, t2, k2⟩ := fl_not (K := K) (H := H) fl "tuple" (by simp)
    obtain ⟨S3, t3, k3⟩ := fl_not (K := K) (H := H) fl "dict" (by simp)
    refine ⟨x, rfl, x, .ty "list", .type S1, .type "list", false, rfl, .ty "list", t1, kit_ty k1, false, rfl, iteF ?_⟩
    refine ⟨x, rfl, x, .ty "tuple", .type S2, .type "tuple", false, rfl, .ty "tuple", t2, kit_ty k2, false, rfl, iteF ?_⟩
    refine ⟨x, rfl, x, .ty "dict", .type S3, .type "dict", false, rfl, .ty "dict", t3, kit_ty k3, false, rfl, iteF ?_⟩
    obtain ⟨t4, ty4, k4⟩ := fl_pap (H := H) NP fl
    refine ⟨x, rfl, x, .ref CP, t4, .ref CP, false, rfl, .own _, ty4, k4, false, rfl, iteF ?_⟩
    exact ⟨x, rfl, q⟩
theorem fls_get : ∀ {xs : List V} {ds : List PyData} {i : Nat} {x : V}, Fls xs ds → xs[i]? = some x → ∃ d, Fl x d
  | _, _, _, _, .nil, h => by simp at h
  | _, _, 0, _, .cons h _, e => by
    simp at e
    subst e
    exact ⟨_, h⟩
  | _, _, i + 1, _, .cons _ r, e => fls_get (i := i) r (by simpa using e)
end
end My
namespace My
open PySem PySem.Spec PyProof.Rows L2
/-- the dict {"x": 1} -/
abbrev one : List (Key × V) := [(.inr "x", .int 1)]
abbrev oneD : PyData := .dict [(.str "x", .int 1)]
/-- a drawn value -/
inductive Tv (H : Hp) : V → PyData → Prop
  | th {x : V} {d : PyData} (h : Th H x d) : Tv H x d
  | dc {a : Addr} (h : H a = some (.dK one)) : Tv H (.ref a) oneD
theorem Tv.keep {H H' : Hp} {x : V} {d : PyData} (h : Tv H x d) (k : Same' H H') : Tv H' x d := by
  cases h with
  | th h => exact .th (h.keep k)
  | dc h => exact .dc (k _ _ h)
def spCopied : Sp := fun vs H Q _ => ∃ (x : V) (d : PyData), vs = [x] ∧ Tv H x d ∧ ∀ y H', Same' H H' → Tv H' y d → Q y H'
section
variable {P : Program} {w : World} {K : PySem.W.Frag} {mg : Str → Option Value} {base : Heap}
theorem ok_copied {f CP : Addr} {fd : FuncData} (F : Fun K "copied" "copied" sCopied f fd) (NP : NoPap K mg CP) (T : Txt mg) (b : Binds K fd ["value"] []) (g : mg "copied" = some (.ref f)) : FnOk P w K mg base CX0 2 f fd ["value"] spCopied := by
  have G : FnOk P w K mg base CX0 1 f fd ["value"] spFlat := ok_flat F NP T
  refine F.ok scCop (fun vs H Q E h => ?_) (fun cdv A outer s H vs Q E hr h => ?_)
  · obtain ⟨x, d, rfl, _⟩ := h
    rfl
  · obtain ⟨x, d, rfl, tv, q⟩ := h
    have hu := hr.units
    refine ⟨_, pss_cons (ps_if (pt_val (pe_callB call_isi (by rfl) T.isi (by decide +kernel) (pa_cons (pv 0) (pa_cons (pe_bltn (by rfl) T.list (by decide +kernel) (show RelV (.ty "list") _ from rfl)) pa_nil))))
        (pss_one (ps_ret (pe_lc (own := [("item", 1)]) (g := gName 1) (tt := tYes) rfl scCop.nd (pi_list (pv 0)) (blkOk_by (N := nCop) (sc := defScope sCopied) (by decide +kernel)) (fun _ _ _ _ _ => pg_name (i := 1) scCop.nd rfl (Or.inl rfl)) (fun _ _ _ _ _ => pts_nil)
          (fun _ _ _ _ _ => pe_call G hr (by rfl) g F.kp b .nil pass0 (pa_cons (pv 1) pa_nil))))) pss_nil)
      (pss_cons (ps_if (pt_val (pe_callB call_isi (by rfl) T.isi (by decide +kernel) (pa_cons (pv 0) (pa_cons (pe_bltn (by rfl) T.tuple (by decide +kernel) (show RelV (.ty "tuple") _ from rfl)) pa_nil))))
        (pss_one (ps_ret (pe_callTy call_tuple_of (by rfl) T.tuple (by decide +kernel) (pa_cons (pe_lc (own := [("item", 1)]) (g := gName 1) (tt := tYes) rfl scCop.nd (pi_tup (pv 0)) (blkOk_by (N := nCop) (sc := defScope sCopied) (by decide +kernel)) (fun _ _ _ _ _ => pg_name (i := 1) scCop.nd rfl (Or.inl rfl)) (fun _ _ _ _ _ => pts_nil)
          (fun _ _ _ _ _ => pe_call G hr (by rfl) g F.kp b .nil pass0 (pa_cons (pv 1) pa_nil))) pa_nil)))) pss_nil)
      (pss_cons (ps_if (pt_val (pe_callB call_isi (by rfl) T.isi (by decide +kernel) (pa_cons (pv 0) (pa_cons (pe_bltn (by rfl) T.dict (by decide +kernel) (show RelV (.ty "dict") _ from rfl)) pa_nil))))
        (pss_one (ps_ret (pe_lock (pe_dc (own := [("key", 2)]) (g := gName 2) (tt := tYes) rfl scCop.nd (pi_keys (pv 0)) (blkOk_by (N := nCop) (sc := defScope sCopied) (by decide +kernel)) (fun _ _ _ _ _ => pg_name (i := 2) scCop.nd rfl (Or.inl rfl)) (fun _ _ _ _ _ => pts_nil)
          (fun _ _ _ _ _ => pv 2) (fun _ _ _ _ _ => pe_call G hr (by rfl) g F.kp b .nil pass0 (pa_cons (pe_dget (Nat.lt_of_le_of_lt (Nat.add_le_add_left (by decide) _) hu) (pv 0) (pv 2) (fun _ _ => rfl)) pa_nil)))))) pss_nil)
      (pss_cons (ps_if (pt_val (pe_callB call_isi (by rfl) T.isi (by decide +kernel) (pa_cons (pv 0) (pa_cons (pe_glob (v := .ref CP) rfl NP.g rfl) pa_nil)))) (pss_one ps_never) pss_nil)
      (pss_one (ps_ret (pv 0)))))), ?_⟩
    cases tv with
    | th th =>
      cases th with
      | flat fl =>
        obtain ⟨S1, t1, k1⟩ := fl_not (K := K) (H := H) fl "list" (by simp)
        obtain ⟨S2, t2, k2⟩ := fl_not (K := K) (H := H) fl "tuple" (by simp)
        obtain ⟨S3, t3, k3⟩ := fl_not (K := K) (H := H) fl "dict" (by simp)
        refine ⟨x, rfl, x, .ty "list", .type S1, .type "list", false, rfl, .ty "list", t1, kit_ty k1, false, rfl, iteF ?_⟩
        refine ⟨x, rfl, x, .ty "tuple", .type S2, .type "tuple", false, rfl, .ty "tuple", t2, kit_ty k2, false, rfl, iteF ?_⟩
        refine ⟨x, rfl, x, .ty "dict", .type S3, .type "dict", false, rfl, .ty "dict", t3, kit_ty k3, false, rfl, iteF ?_⟩
        obtain ⟨t4, ty4, k4⟩ := fl_pap (H := H) NP fl
        refine ⟨x, rfl, x, .ref CP, t4, .ref CP, false, rfl, .own _, ty4, k4, false, rfl, iteF ?_⟩
        exact ⟨x, rfl, q x H (fun _ _ e => e) (.th (.flat fl))⟩
      | @lst a xs ds h k n =>
        refine ⟨.ref a, rfl, .ref a, .ty "list", .type "list", .type "list", true, rfl, .ty "list", .base (.lst h), kit_ty (by decide +kernel), true, rfl, iteT ?_⟩
        refine ⟨.ref a, rfl, a, rfl, ⟨_, SqL.of h⟩, fun D hD => ?_⟩
        refine lc_list (K := K) (a := a) (xs := xs) (fun i H' => Same' H H' ∧ H' D = some (.lst (xs.take i))) ⟨same_new hD, upd_same⟩ (fun i H' _ hp => SqL.of (hp.1 _ _ h)) (fun i x H' hx hp => ?_) (fun H' hp => ?_)
        · obtain ⟨sm, ed⟩ := hp
          obtain ⟨d, fl⟩ := fls_get k hx
          refine ⟨rfl, ?_⟩
          refine ⟨x, rfl, x, d, rfl, fl, _, ed, ?_, same_over hD sm, ?_⟩
          · exact small1000 (by rw [List.length_take]; omega)
          · rw [upd_same, List.take_add_one, hx]
            rfl
        · obtain ⟨sm, ed⟩ := hp
          rw [List.take_length] at ed
          exact q _ _ sm (.th (.lst ed k n))
      | @tup a xs ds h k n =>
        refine ⟨.ref a, rfl, .ref a, .ty "list", .type "tuple", .type "list", false, rfl, .ty "list", .base (.tup h), kit_ty (by decide +kernel), false, rfl, iteF ?_⟩
        refine ⟨.ref a, rfl, .ref a, .ty "tuple", .type "tuple", .type "tuple", true, rfl, .ty "tuple", .base (.tup h), kit_ty (by decide +kernel), true, rfl, iteT ?_⟩
        refine ⟨.ref a, rfl, a, rfl, ⟨_, SqT.of h⟩, fun D hD => ?_⟩
        refine lc_tup (K := K) (a := a) (xs := xs) (fun i H' => Same' H H' ∧ H' D = some (.lst (xs.take i))) ⟨same_new hD, upd_same⟩ (fun i H' _ hp => SqT.of (hp.1 _ _ h)) (fun i x H' hx hp => ?_) (fun H' hp => ?_)
        · obtain ⟨sm, ed⟩ := hp
          obtain ⟨d, fl⟩ := fls_get k hx
          refine ⟨rfl, ?_⟩
          refine ⟨x, rfl, x, d, rfl, fl, _, ed, ?_, same_over hD sm, ?_⟩
          · exact small1000 (by rw [List.length_take]; omega)
          · rw [upd_same, List.take_add_one, hx]
            rfl
        · obtain ⟨sm, ed⟩ := hp
          rw [List.take_length] at ed
          refine ⟨D, _, rfl, .inl ⟨SqL.of ed, fun l hl => ?_⟩⟩
          exact q _ _ (fun b o e => same_new hl b o (sm b o e)) (.th (.tup upd_same k n))
      | @dct a h =>
        refine ⟨.ref a, rfl, .ref a, .ty "list", .type "dict", .type "list", false, rfl, .ty "list", .base (.dK h), kit_ty (by decide +kernel), false, rfl, iteF ?_⟩
        refine ⟨.ref a, rfl, .ref a, .ty "tuple", .type "dict", .type "tuple", false, rfl, .ty "tuple", .base (.dK h), kit_ty (by decide +kernel), false, rfl, iteF ?_⟩
        refine ⟨.ref a, rfl, .ref a, .ty "dict", .type "dict", .type "dict", true, rfl, .ty "dict", .base (.dK h), kit_ty (by decide +kernel), true, rfl, iteT ?_⟩
        refine ⟨a, .dK [], h, trivial, fun od => ⟨.ref a, rfl, a, od, rfl, .inl ⟨[], upd_same, fun D hD => ?_⟩⟩⟩
        have nDa : D ≠ a := fun z => by
          rw [z, upd_same] at hD
          cases hD
        have hD0 : H D = none := by
          rw [upd_ne nDa] at hD
          exact hD
        have atA : (upd (upd H a (.frz od (.dK []))) D (.dK [])) a = some (.frz od (.dK [])) := by rw [upd_ne (Ne.symm nDa), upd_same]
        refine ⟨fun i m H' => H' = upd (upd H a (.frz od (.dK []))) D (.dK []), ⟨0, rfl⟩, fun i m H' hw => .inl ?_⟩
        subst hw
        refine ⟨⟨atA, Nat.zero_le _⟩, atA, q _ _ (fun c o e => ?_) (.th (.dct (by rw [upd_ne nDa, upd_same])))⟩
        by_cases hc : c = a
        · rw [hc, upd_same]
          rw [hc, h] at e
          exact e
        · rw [upd_ne hc, upd_ne (ne_of_none e hD0), upd_ne hc]
          exact e
    | @dc a h =>
      refine ⟨.ref a, rfl, .ref a, .ty "list", .type "dict", .type "list", false, rfl, .ty "list", .base (.dK h), kit_ty (by decide +kernel), false, rfl, iteF ?_⟩
      refine ⟨.ref a, rfl, .ref a, .ty "tuple", .type "dict", .type "tuple", false, rfl, .ty "tuple", .base (.dK h), kit_ty (by decide +kernel), false, rfl, iteF ?_⟩
      refine ⟨.ref a, rfl, .ref a, .ty "dict", .type "dict", .type "dict", true, rfl, .ty "dict", .base (.dK h), kit_ty (by decide +kernel), true, rfl, iteT ?_⟩
      refine ⟨a, .dK one, h, trivial, fun od => ⟨.ref a, rfl, a, od, rfl, .inl ⟨one, upd_same, fun D hD => ?_⟩⟩⟩
      have nDa : D ≠ a := fun z => by
        rw [z, upd_same] at hD
        cases hD
      have hD0 : H D = none := by
        rw [upd_ne nDa] at hD
        exact hD
      have atA : ∀ kvs, (upd (upd H a (.frz od (.dK one))) D (.dK kvs)) a = some (.frz od (.dK one)) := fun kvs => by rw [upd_ne (Ne.symm nDa), upd_same]
      refine ⟨fun i m H' => (i = 0 ∧ m = 1 ∧ H' = upd (upd H a (.frz od (.dK one))) D (.dK [])) ∨ (i = 1 ∧ m = 0 ∧ H' = upd (upd H a (.frz od (.dK one))) D (.dK one)), ⟨1, .inl ⟨rfl, rfl, rfl⟩⟩, fun i m H' hw => ?_⟩
      rcases hw with ⟨rfl, rfl, rfl⟩ | ⟨rfl, rfl, rfl⟩
      · refine .inr ⟨⟨atA _, Nat.one_pos⟩, fun H' => H' = upd (upd H a (.frz od (.dK one))) D (.dK one), fun H' e => ⟨0, Nat.one_pos, .inr ⟨rfl, rfl, e⟩⟩, fun x H' y => ?_⟩
        obtain ⟨rfl, k, v, e, rfl⟩ := y
        obtain ⟨rfl, rfl⟩ : k = .inr "x" ∧ v = .int 1 := by
          injection e with e
          injection e with e1 e2
          exact ⟨e1.symm, e2.symm⟩
        refine ⟨rfl, ?_⟩
        refine ⟨_, rfl, .ref a, rfl, _, rfl, a, .int 1, rfl, .inl ⟨one, .inr "x", .inr ⟨_, atA _⟩, rfl, rfl⟩, ?_⟩
        refine ⟨.int 1, .int 1, rfl, .int 1, [], .inr "x", rfl, upd_same, by decide, ?_⟩
        funext c
        by_cases hc : c = D
        · rw [hc, upd_same, upd_same]
          rfl
        · rw [upd_ne hc, upd_ne hc, upd_ne hc]
      · refine .inl ⟨⟨atA _, Nat.le_refl _⟩, atA _, q _ _ (fun c o e => ?_) (.dc (by rw [upd_ne nDa, upd_same]))⟩
        by_cases hc : c = a
        · rw [hc, upd_same]
          rw [hc, h] at e
          exact e
        · rw [upd_ne hc, upd_ne (ne_of_none e hD0), upd_ne hc]
          exact e
end
end My
namespace My
open PySem PySem.Spec PyProof.Rows L2
section
variable {X : Cx} {pins : List (Addr × Obj)} {σ : L2.St} {H : Hp} {s : Shared}
/-- what is tracked is never the table of modules -/
theorem sys_off (I : Inv X pins σ H s) (hS : ∃ m, X.base.Ns sysModules m) {a : Addr} {o : HO} (h : H a = some o) : sysModules ≠ a := by
  intro z
  obtain ⟨_, _, _, _, e, _⟩ := hS
  have n := (I.env0.bs _ _ e).2
  rw [z, h] at n
  cases n
theorem fl_reads {h : Heap} {x : V} {d : PyData} {u : Value} (f : Fl x d) (r : RelV x u) : Reads h u d [] := by
  cases f with
  | non => cases r; exact Reads.none
  | bl b => cases r; exact Reads.bool b
  | int i => obtain ⟨t, rfl⟩ := r; exact Reads.int i t
  | str x => obtain ⟨t, rfl⟩ := r; exact Reads.str x t
theorem fls_reads {h : Heap} : ∀ {xs : List V} {ds : List PyData} {us : List Value}, Fls xs ds → Vals xs us → ReadsAll h us ds []
  | _, _, _, .nil, .nil => .nil
  | _, _, _, .cons f r, .cons e t => ReadsAll.cons (fl_reads f e) (fls_reads r t)
theorem tv_reads (I : Inv X pins σ H s) (hS : ∃ m, X.base.Ns sysModules m) {x : V} {d : PyData} {u : Value} (h : Tv H x d) (r : RelV x u) : ∃ as, Reads s.heap u d as ∧ sysModules ∉ as := by
  cases h with
  | th h =>
    cases h with
    | flat f => exact ⟨_, fl_reads f r, List.not_mem_nil⟩
    | @lst a xs ds e k n =>
      cases r
      obtain ⟨z, us, m, rs, g⟩ := (show ObjOk X.prog X.w H s.heap a (.lst xs) from I.hok a _ e)
      exact ⟨_, Reads.list g rfl rfl (by simpa using fls_reads k rs), by simpa using sys_off I hS e⟩
    | @tup a xs ds e k n =>
      cases r
      obtain ⟨_, its, rs, o, h1, h2, m, h3⟩ := (show ObjOk X.prog X.w H s.heap a (.tup xs) from I.hok a _ e)
      exact ⟨_, Reads.tuple h1 h2 h3 (by simpa using fls_reads k rs), List.not_mem_nil⟩
    | @dct a e =>
      cases r
      obtain ⟨_, _, vs, kv, o, es, ep, ho, ex, hd, _, pr, _⟩ := dk_of I.hok e
      cases kv
      have es0 : es.toList = [] := by
        obtain ⟨l⟩ := es
        have pr' : PySem.Pairs _ l [] := pr
        cases l with
        | nil => rfl
        | cons _ _ => cases pr'
      exact ⟨_, Reads.dict (kvs := []) (as := []) (bs := []) ho ex.1 hd (by rw [es0]; exact .nil) (by rw [es0]; exact .nil), by simpa using sys_off I hS e⟩
  | @dc a e =>
    cases r
    obtain ⟨_, _, vs, kv, o, es, ep, ho, ex, hd, _, pr, _⟩ := dk_of I.hok e
    cases kv with
    | @cons _ q _ _ kq kr =>
      cases kr
      obtain ⟨qk, qv⟩ := q
      obtain ⟨eq, rq⟩ := kq
      obtain rfl : (Sum.inr "x" : Key) = qk := eq
      obtain ⟨t1, rfl⟩ := (show ∃ t, qv = Value.int 1 t from rq)
      have es1 : ∃ en t0, es.toList = [en] ∧ en.key = .str "x" t0 ∧ en.val = .int 1 t1 := by
        obtain ⟨l⟩ := es
        have pr' : PySem.Pairs _ l [((Sum.inr "x" : Key), Value.int 1 t1)] := pr
        cases pr' with
        | @cons en _ _ _ k1 k2 k3 =>
          cases k3
          rcases keyIs_shape (k := .inr "x") (v := en.key) k1 with ⟨i, t, z, _⟩ | ⟨x, t, z, ek⟩
          · cases z
          · cases z
            exact ⟨en, t, rfl, ek, k2⟩
      obtain ⟨en, t0, el, ek, ev⟩ := es1
      refine ⟨_, Reads.dict (kvs := [(.str "x", .int 1)]) (as := []) (bs := []) ho ex.1 hd ?_ ?_, by simpa using sys_off I hS e⟩
      · rw [el, List.map_cons, ek]
        exact ReadsAll.cons (as := []) (Reads.str _ _) .nil
      · rw [el, List.map_cons, ev]
        exact ReadsAll.cons (as := []) (Reads.int _ _) .nil
end
/-- what is shown: a value, or a list of two -/
inductive Rv (H : Hp) : V → PyData → Prop
  | tv {x : V} {d : PyData} (h : Tv H x d) : Rv H x d
  | two {p : Addr} {x y : V} {d e : PyData} (h : H p = some (.lst [x, y])) (hx : Tv H x d) (hy : Tv H y e) : Rv H (.ref p) (.list [d, e])
section
variable {X : Cx}
def rShow : List V → Hp → VK → Prop := fun xs H Q => ∃ x d, xs = [x] ∧ Rv H x d ∧ Fine d ∧ Q (.str d.shown) H
theorem call_show (hS : ∃ m, X.base.Ns sysModules m) (hg : X.A.guards = some []) (hu : X.A.units + 64 < cLine) : CallR X (.builtin "repr") rShow := by
  intro pins s σ H xs us Q I r h
  obtain ⟨x, d, rfl, rv, fine, q⟩ := h
  have key : ∀ u : Value, RelV x u → ∃ as, Reads s.heap u d as ∧ sysModules ∉ as := fun u ru => by
    cases rv with
    | tv h => exact tv_reads I hS h ru
    | @two p x y d e h hx hy =>
      cases ru
      obtain ⟨_, us, m, rs, g⟩ := (show ObjOk X.prog X.w H s.heap p (.lst [x, y]) from I.hok p _ h)
      obtain ⟨u1, u2, rfl, r1, r2⟩ := vals2 rs
      obtain ⟨a1, g1, n1⟩ := tv_reads I hS hx r1
      obtain ⟨a2, g2, n2⟩ := tv_reads I hS hy r2
      refine ⟨_, Reads.list g rfl rfl (ReadsAll.cons g1 (ReadsAll.cons g2 .nil)), ?_⟩
      intro z
      rcases List.mem_cons.mp z with z | z
      · exact sys_off I hS h z
      · rcases List.mem_append.mp z with z | z
        · exact n1 z
        · exact n2 (by simpa using z)
  by_cases fl : ∃ dd, Fl x dd ∧ d = dd
  · obtain ⟨dd, f, rfl⟩ := fl
    exact call_reprT hg hu pins s σ H [x] us Q I r ⟨x, d, rfl, .flat f, fine, q⟩
  · obtain ⟨u, rfl, ru⟩ := vals1 r
    have isr : ∃ a, x = .ref a := by
      cases rv with
      | tv h =>
        cases h with
        | th h =>
          cases h with
          | flat f => exact absurd ⟨_, f, rfl⟩ fl
          | lst h k n => exact ⟨_, rfl⟩
          | tup h k n => exact ⟨_, rfl⟩
          | dct h => exact ⟨_, rfl⟩
        | dc h => exact ⟨_, rfl⟩
      | two h hx hy => exact ⟨_, rfl⟩
    obtain ⟨a, rfl⟩ := isr
    obtain ⟨as, rd, ns⟩ := key u ru
    cases ru
    exact repr_of_reads' rd fine.show_ (fun _ => ns) hg (by have := fine.deep; omega) (fun _ _ e => e) (fun h' u tk hk => ⟨.str d.shown, H, I.kept hk, ⟨u, rfl⟩, q⟩) fine.size
end
/-! ### errors as values -/
section
variable {X : Cx} {pins : List (Addr × Obj)} {σ : L2.St} {H : Hp} {s : Shared} {a C : Addr} {d : Option Addr}
theorem exo_inst (I : Inv X pins σ H s) (h : H a = some (exo a C d)) (hd : ∀ dd, d = some dd → ∃ fs, H dd = some (exd dd fs)) : ∃ oe od, PySem.W.InstAt s.heap a oe C od := by
  obtain ⟨t1, e⟩ := exo_at I.hok h
  cases d with
  | none => exact ⟨_, none, e, rfl, rfl, trivial⟩
  | some dd =>
    obtain ⟨fs, hx⟩ := hd dd rfl
    obtain ⟨mA, ns, _⟩ := exd_at I.hok hx
    obtain ⟨od, ho, _⟩ := lookIn_ns ns
    exact ⟨_, some od, e, rfl, rfl, ho⟩
/-- isinstance(e, c) of an error that is a value -/
def rExoIs (K : PySem.W.Frag) : List V → Hp → VK → Prop := fun xs H Q => ∃ (a D : Addr) (d : Option Addr) (c : V) (u : Value) (b : Bool), xs = [.ref a, c] ∧ ClsV c u ∧ H a = some (exo a D d) ∧ (∀ dd, d = some dd → ∃ fs, H dd = some (exd dd fs)) ∧
  ExcC K D ∧ PySem.W.kitOne K (.ref D) u = some b ∧ Q (.bl b) H
theorem call_exoIs : CallR X (.builtin "isinstance") (rExoIs X.K) := by
  intro pins s σ H xs us Q I r h
  obtain ⟨a, D, d, c, u, b, rfl, k, ha, hd, T, e, q⟩ := h
  obtain ⟨u1, u2, rfl, r1, r2⟩ := vals2 r
  cases r1
  cases k.eq r2
  obtain ⟨oe, od, J⟩ := exo_inst I ha hd
  have cls : (PySem.W.clsIn X.K D).isSome = true := by
    obtain ⟨cd, hc, _⟩ := PySem.W.any_some T.hd
    rw [hc] <;> rfl
  exact PySem.W.kia_one (PySem.W.kitx_exc cls T.hg T.hk T.hs T.ha T.hn T.ht T.hm) I.kIn J e (fun z => nomatch z) fun tk => ⟨.bl b, H, I.tok tk, rfl, q⟩
/-- e.f of an error that is a value -/
def tExoF (K : PySem.W.Frag) (f : Str) (te : TE) : TE := fun σ H Q => te σ H fun x H1 => ∃ (a C dd : Addr) (fs : List (Str × V)) (v : V), x = .ref a ∧ H1 a = some (exo a C (some dd)) ∧ H1 dd = some (exd dd fs) ∧ XfC K C ∧ PySem.W.findIn K (.ref C) f = some none ∧ fs.lookup f = some v ∧ Q v H1
theorem pe_exoF {te : TE} {n : Str} {e : Expr} {pos : Pos} (he : PE X e te) (hb : attributeBase e n X.env (eval e X.env) = eval e X.env := by rfl) : PE X (.Attribute e n pos) (tExoF X.K n te) := by
  constructor
  intro pins s σ H Q I h
  refine attr_of hb (thn (he.run pins s σ H _ I h) ?_)
  intro u s1 hu
  obtain ⟨x, H1, I1, rx, a, C, dd, fs, v, ex, ea, ed, T, hno, l, q⟩ := hu
  subst ex
  obtain rfl : u = Value.ref a := rx
  obtain ⟨t1, e1⟩ := exo_at I1.hok ea
  obtain ⟨mA, ns, rel⟩ := exd_at I1.hok ed
  obtain ⟨od, ho, hl⟩ := lookIn_ns ns
  obtain ⟨w, hw, rw'⟩ := RelO.some_of (v := v) (o := mA n) (by rw [← l]; exact rel n)
  have J : PySem.W.InstAt s1.heap a _ C (some od) := ⟨e1, rfl, rfl, ho⟩
  exact HandSPX.exc_get I1.kIn J T.ga T.gg T.exC (PySem.W.findObj_own T.hdC hno rfl (by rw [hl, hw])) (handed_of rw') ⟨v, H1, I1.tok _, rw', q⟩
end
end My
namespace My
open PySem PySem.Spec PyProof.Rows L2
abbrev noX : XK := fun _ _ _ => False
/-- what C's own __init__ has to keep: Q gets the new error -/
abbrev asE (sp : Sp) (C : Addr) (vs : List V) (H : Hp) (Q : VK) : Prop := ∀ a, H a = none → sp (.ref a :: vs) (upd H a (exo a C none)) (fun v H2 => v = .non ∧ Q (.ref a) H2) noX
section
variable {X : Cx} {CX : CXT} {k : Nat} {fI C : Addr} {fd : FuncData} {ps ks : List Str} {sp : Sp} {ds : List Value} {dvs : List V} {x : Str} {p pos : Pos} {e : Expr} {es : List Expr} {kws : List Keyword} {ta tk : TA}
/-- an own error class with an own __init__ -/
structure EC (K : PySem.W.Frag) (C fI : Addr) : Prop where
  ox : OexC K C
  ini : PySem.W.findIn K (.ref C) "__init__" = some (some (.ref fI))
  ty : PySem.W.typeIn K (.ref fI) = some (.type "function")
theorem mk_run {pins : List (Addr × Obj)} {σ : L2.St} {H : Hp} {s : Shared} {Q : VK} {us al : List Value} {vs : List V} {kw : List (Str × Value)} (T : EC X.K C fI) (F : FnOk X.prog X.w X.K X.mg X.base CX k fI fd ps sp) (hr : Room (k + 1) X.A) (hx : Passes CX X noX)
    (bt : ∀ (t : Shared) (a : Addr), X.K.In t.heap → (al.length + 1 = ps.length) → BindsTo t fd ⟨.ref a :: us, kw⟩ (ps.zip (.ref a :: al))) (I : Inv X pins σ H s) (rel : Vals vs al) (hus : us.length ≤ 1000) (h : asE sp C vs H Q) :
    wpAny (model X.prog X.w) X.A (call (.ref C) us kw) (EP X pins σ Q) X.xe s := by
  obtain ⟨nm, q, N, bs, bm, sn, sub, ab, col, dd, k0, k1, k2, k3, k5, hC, hbm⟩ := T.ox.cls
  obtain ⟨hp, g, dr, tk, os⟩ := s
  obtain ⟨b, eb⟩ : ∃ b, b = hp.objs.size + 1 := ⟨_, rfl⟩
  have above : hp.objs.size ≤ b := by rw [eb]; exact Nat.le_succ _
  have prom := h b (I.hok.fresh above)
  have up : ∀ c o, hp.get? c = some o → (MyX.grown hp C us).get? c = some o := fun c o z => Heap.get?_push_of_some _ (Heap.get?_push_of_some _ z)
  have there : (MyX.grown hp C us).get? b = some (PySem.HandSPX.excO C hp.objs.size) := by
    rw [eb]
    unfold MyX.grown
    heap_get
  have J : Inv X pins σ (upd H b (exo b C none)) ⟨MyX.grown hp C us, g, dr, tk, os⟩ := I.laid (t' := tk) (o := exo b C none) up above (exo_ok there)
  have rel' : Vals (V.ref b :: vs) (Value.ref b :: al) := .cons rfl rel
  have many : al.length + 1 = ps.length := by
    have e1 := rel'.length
    rw [F.len _ _ _ _ prom] at e1
    exact e1.symm
  have fits : us.length ≤ sizeLine := by
    rw [sizeLine_eq]
    omega
  have run := F.run (X.A.under (.builtin "type.__call__" ⟨.ref C :: us, kw⟩)) X.stack _ _ ⟨Value.ref b :: us, kw⟩ (Value.ref b :: al) _ _ noX (hr.make C us kw) (J.env0.make C us kw) (bt _ b J.kIn many) rel' prom
  refine wpAny_call (MyX.kw_call PySem.F.excBase_ValueError (fun Y => PySem.HandSPX.refsVE_contains Y bm hbm) (I.kIn _ _ hC) (PySem.W.looks_findIn I.kIn T.ini) (fun self => PySem.W.bind_fn I.kIn self T.ty) fits ?_)
  rw [← eb]
  refine codeAny_mono run fun r s' z => ?_
  match r, z with
  | .error er, z => exact hx pins σ _ _ er s' J z
  | .ok (.ret u), z =>
    obtain ⟨v, H2, J2, rv, ev, q2⟩ := J.after z
    subst ev
    exact ⟨rv, .ref b, H2, J2, rfl, q2⟩
/-- C(e, ..) as a value -/
def tMkE (C : Addr) (sp : Sp) (ta : TA) : TE := fun σ H Q => ta σ H fun vs H1 => vs.length ≤ 1000 ∧ asE sp C vs H1 Q
theorem pe_mkE (T : EC X.K C fI) (F : FnOk X.prog X.w X.K X.mg X.base CX k fI fd ps sp) (hr : Room (k + 1) X.A) (hx : Passes CX X noX) (hb : Binds X.K fd ps []) (hg : Gl X x) (hm : X.mg x = some (.ref C)) (ha : PA X (e :: es) ta)
    (hdb : (x == ("__debug__" : Str)) = false := by decide) (he : starEach (e :: es) X.env = (false, eval e X.env) :: starEach es X.env := by rfl) (hpl : (backTo pos (starEach es X.env)).any (·.1) = false := by rfl) :
    PE X (.Call (.Name x p) (e :: es) [] pos) (tMkE C sp ta) := by
  constructor
  intro pins s σ H Q I h
  refine wpAny_Call_Name_kw (ld_glob I hg hm (PySem.W.callWith_K (h₀ := X.base) I.ok.mod.kin T.ox.kC (thn (ha.run pos pins s σ H _ I h) ?_) he hpl) hdb)
  intro us s1 hu
  obtain ⟨vs, H1, I1, r, l, q⟩ := hu
  refine ⟨I1.kIn, mk_run (us := us) T F hr hx (fun t a hk m => ?_) I1 r (r.length ▸ l) q⟩
  have b0 := hb t (.ref a :: us) hk (by simpa using m)
  simpa using b0
/-- C(f = e, ..) as a value, keywords alone -/
def tMkEk (C : Addr) (sp : Sp) (gV : List V → List V) (tk : TA) : TE := fun σ H Q => tk σ H fun zs H1 => asE sp C (gV zs) H1 Q
/-- keywords alone, behind self -/
structure KB (K : PySem.W.Frag) (fd : FuncData) (ps ks : List Str) (g : List Value → List Value) (gV : List V → List V) : Prop where
  to : ∀ (t : Shared) (a : Addr) (ws : List Value), ws.length = ks.length → BindsTo t fd ⟨[.ref a], ks.zip ws⟩ (ps.zip (.ref a :: g ws))
  rel : ∀ {zs : List V} {ws : List Value}, Vals zs ws → Vals (gV zs) (g ws)
  len : ∀ ws : List Value, (g ws).length = ws.length
  even : ps.length = ks.length + 1
theorem pe_mkEk {g : List Value → List Value} {gV : List V → List V} (T : EC X.K C fI) (F : FnOk X.prog X.w X.K X.mg X.base CX k fI fd ps sp) (hr : Room (k + 1) X.A) (hx : Passes CX X noX) (hb : KB X.K fd ps ks g gV) (hg : Gl X x) (hm : X.mg x = some (.ref C)) (hkw : PK X kws tk)
    (hall : (backToKw pos (keywordEach kws X.env)).all (·.1.isSome) = true := by rfl) (hks : (backToKw pos (keywordEach kws X.env)).filterMap (·.1) = ks := by rfl) (hdb : (x == ("__debug__" : Str)) = false := by decide)
    (hpl : ((backTo pos (starEach [] X.env)).any (·.1) || (backToKw pos (keywordEach kws X.env)).any (·.1.isNone)) = false := by rfl) : PE X (.Call (.Name x p) [] kws pos) (tMkEk C sp gV tk) := by
  constructor
  intro pins s σ H Q I h
  refine wpAny_Call_Name_kw (ld_glob I hg hm (PySem.W.callWith_KW0 (h₀ := X.base) I.ok.mod.kin T.ox.kC hall (thn (hkw.run pos pins s σ H _ I h) ?_) hpl) hdb)
  intro ws s1 hu
  obtain ⟨zs, H1, I1, r, q⟩ := hu
  refine ⟨I1.kIn, ?_⟩
  rw [hks]
  refine mk_run (us := []) T F hr hx (fun t a hk m => hb.to t a ws ?_) I1 (hb.rel r) (Nat.zero_le _) q
  rw [hb.len, hb.even] at m
  omega
/-- C(), an error class without an own __init__ -/
def tMkN (C : Addr) (ta : TA) : TE := fun σ H Q => ta σ H fun vs H1 => vs.length ≤ 1000 ∧ ∀ a, H1 a = none → Q (.ref a) (upd H1 a (exo a C none))
theorem bare_run {bmB : List Value} {B newId initId : String} {pins : List (Addr × Obj)} {σ : L2.St} {H : Hp} {s : Shared} {Q : VK} {us : List Value} (F : ExcBaseFacts B newId initId bmB) (q : PySem.W.excIn X.K C bmB newId = true) (I : Inv X pins σ H s) (hl : us.length ≤ 1000)
    (h : ∀ a, H a = none → Q (.ref a) (upd H a (exo a C none))) : wpAny (model X.prog X.w) X.A (call (.ref C) us) (EP X pins σ Q) X.xe s := by
  obtain ⟨bm, N, nm, qn, bs, hdct, sn, sub, ab, col, dd, k0, k1, k2, k3, k5, mN, hC, hN, hni, T⟩ := exc_obj I.kIn q
  refine wpAny_call_exc_subT F T hC hN hni (fun h' a hm => ?_) (by rw [sizeLine_eq]; omega)
  have hn : H a = none := I.hok.gone hm.new
  obtain ⟨t, ht, _, _⟩ := hm.there
  exact ⟨.ref a, upd H a (exo a C none), I.laidN hm.keeps hm.new hn (exo_ok ht), rfl, h a hn⟩
theorem pe_mkN0 {bmB : List Value} {B newId initId : String} (F : ExcBaseFacts B newId initId bmB) (q : PySem.W.excIn X.K C bmB newId = true) (gC : X.mg x = some (.ref C)) (kC : PySem.W.keepIn X.K (.ref C) = true) (hg : Gl X x) (hdb : (x == ("__debug__" : Str)) = false := by decide) :
    PE X (.Call (.Name x p) [] [] pos) (tMkN C tNil) := by
  constructor
  intro pins s σ H Q I h
  refine wpAny_Call_Name_kw (ld_glob I hg gC ?_ hdb)
  exact PySem.W.callWith_K0 I.kIn kC (bare_run (us := []) F q I (Nat.zero_le _) h.2)
theorem pe_mkN1 {bmB : List Value} {B newId initId : String} (F : ExcBaseFacts B newId initId bmB) (q : PySem.W.excIn X.K C bmB newId = true) (gC : X.mg x = some (.ref C)) (kC : PySem.W.keepIn X.K (.ref C) = true) (hg : Gl X x) (ha : PA X (e :: es) ta)
    (hdb : (x == ("__debug__" : Str)) = false := by decide) (he : starEach (e :: es) X.env = (false, eval e X.env) :: starEach es X.env := by rfl) (hpl : (backTo pos (starEach es X.env)).any (·.1) = false := by rfl) :
    PE X (.Call (.Name x p) (e :: es) [] pos) (tMkN C ta) := by
  constructor
  intro pins s σ H Q I h
  refine wpAny_Call_Name_kw (ld_glob I hg gC (PySem.W.callWith_K (h₀ := X.base) I.ok.mod.kin kC (thn (ha.run pos pins s σ H _ I h) ?_) he hpl) hdb)
  intro us s1 hu
  obtain ⟨vs, H1, I1, r, l, q1⟩ := hu
  exact ⟨I1.kIn, bare_run (us := us) F q I1 (r.length ▸ l) q1⟩
end
end My
namespace My
open PySem PySem.Spec PyProof.Rows L2
/-- a list, a tuple, a dict -/
def Pl : HO → Prop
  | .lst _ => True
  | .tup _ => True
  | .dK _ => True
  | _ => False
theorem Tv.off {H H' : Hp} {x : V} {d : PyData} (h : Tv H x d) (k : ∀ b o, Pl o → H b = some o → H' b = some o) : Tv H' x d := by
  cases h with
  | th h =>
    cases h with
    | flat f => exact .th (.flat f)
    | lst h r n => exact .th (.lst (k _ _ True.intro h) r n)
    | tup h r n => exact .th (.tup (k _ _ True.intro h) r n)
    | dct h => exact .th (.dct (k _ _ True.intro h))
  | dc h => exact .dc (k _ _ True.intro h)
theorem off_ne {H : Hp} {a b : Addr} {o u : HO} (ha : H a = some u) (n : ¬ Pl u) (p : Pl o) (h : H b = some o) : b ≠ a := fun z => by
  rw [z, ha] at h
  injection h with h
  rw [h] at n
  exact n p
/-- an error that is a value: its class, a field of it -/
def Er (H : Hp) (v : V) (C : Addr) (f : Str) (d : PyData) : Prop := ∃ (a dd : Addr) (fs : List (Str × V)) (y : V), v = .ref a ∧ H a = some (exo a C (some dd)) ∧ H dd = some (exd dd fs) ∧ fs.lookup f = some y ∧ Tv H y d
theorem Er.keep {H H' : Hp} {v : V} {C : Addr} {f : Str} {d : PyData} (h : Er H v C f d) (k : Same' H H') : Er H' v C f d := by
  obtain ⟨a, dd, fs, y, e, h1, h2, h3, h4⟩ := h
  exact ⟨a, dd, fs, y, e, k _ _ h1, k _ _ h2, h3, h4.keep k⟩
def spI1 (C : Addr) (f : Str) : Sp := fun vs H Q _ => ∃ (a : Addr) (x : V) (d : PyData), vs = [.ref a, x] ∧ H a = some (exo a C none) ∧ Tv H x d ∧ ∀ H', (∀ b o, b ≠ a → H b = some o → H' b = some o) → Er H' (.ref a) C f d → Q .non H'
def spI2 (C : Addr) (f g : Str) : Sp := fun vs H Q _ => ∃ (a : Addr) (x y : V) (d e : PyData), vs = [.ref a, x, y] ∧ H a = some (exo a C none) ∧ Tv H x d ∧ Tv H y e ∧ ∀ H', (∀ b o, b ≠ a → H b = some o → H' b = some o) → Er H' (.ref a) C f d → Er H' (.ref a) C g e → Q .non H'
theorem as1 {C : Addr} {f : Str} {x : V} {d : PyData} {H : Hp} {Q : VK} (t : Tv H x d) (q : ∀ v H', Same' H H' → Er H' v C f d → Q v H') : asE (spI1 C f) C [x] H Q := fun a ha =>
  ⟨a, x, d, rfl, upd_same, t.keep (same_new ha), fun H' k e => ⟨rfl, q _ H' (fun b o z => k b o (ne_of_none z ha) (same_new ha b o z)) e⟩⟩
theorem as2 {C : Addr} {f g : Str} {x y : V} {d e : PyData} {H : Hp} {Q : VK} (t : Tv H x d) (u : Tv H y e) (q : ∀ v H', Same' H H' → Er H' v C f d → Er H' v C g e → Q v H') : asE (spI2 C f g) C [x, y] H Q := fun a ha =>
  ⟨a, x, y, d, e, rfl, upd_same, t.keep (same_new ha), u.keep (same_new ha), fun H' k e1 e2 => ⟨rfl, q _ H' (fun b o z => k b o (ne_of_none z ha) (same_new ha b o z)) e1 e2⟩⟩
section
variable {P : Program} {w : World} {K : PySem.W.Frag} {mg : Str → Option Value} {base : Heap}
theorem exo_pl {a C : Addr} {d : Option Addr} : ¬ Pl (exo a C d) := fun z => z
theorem exd_pl {a : Addr} {fs : List (Str × V)} : ¬ Pl (exd a fs) := fun z => z
theorem read1 {C : Addr} {f : Str} (ox : OexC K C) (no : PySem.W.findIn K (.ref C) f = some none) {vs : List V} {H : Hp} {Q : VK} {E E2 : XK} {N : List Str} (h : spI1 C f vs H Q E) (hN : N.length = 2) :
    tOst K f (tVar 0) (tCall spCopied [] E2 (tCons (tVar 1) tNil)) { nx := fun _ H' => Q .non H', rt := Q } (start N vs) H := by
  obtain ⟨n0, n1, rfl⟩ : ∃ a b, N = [a, b] := match N, hN with | [a, b], _ => ⟨a, b, rfl⟩
  obtain ⟨a, x, d, rfl, ha, th, q⟩ := h
  refine ⟨x, rfl, x, d, rfl, th, fun y H1 sm th1 => ⟨.ref a, rfl, a, C, rfl, ox, no, .inl ⟨sm _ _ ha, fun dx hdx ne => ?_⟩⟩⟩
  have ea : H1 a = some (exo a C none) := sm _ _ ha
  have up : ∀ b o, b ≠ a → H1 b = some o → (upd (upd H1 dx (exd dx [(f, y)])) a (exo a C (some dx))) b = some o := fun b o n e => by
    rw [upd_ne n, upd_ne (ne_of_none e hdx)]
    exact e
  refine q _ (fun b o n e => up b o n (sm b o e)) ⟨a, dx, _, y, rfl, upd_same, by rw [upd_ne ne, upd_same], by simp [List.lookup], th1.off fun b o p e => up b o (off_ne ea exo_pl p e) e⟩
theorem read2 {C : Addr} {f g : Str} (ox : OexC K C) (no : PySem.W.findIn K (.ref C) f = some none) (no2 : PySem.W.findIn K (.ref C) g = some none) (fg : f ≠ g) {vs : List V} {H : Hp} {Q : VK} {E E2 E3 : XK} {N : List Str} (h : spI2 C f g vs H Q E) (hN : N.length = 3) :
    tOst K f (tVar 0) (tCall spCopied [] E2 (tCons (tVar 1) tNil)) { nx := fun σ' H' => tOst K g (tVar 0) (tCall spCopied [] E3 (tCons (tVar 2) tNil)) { nx := fun _ H' => Q .non H', rt := Q } σ' H', rt := Q } (start N vs) H := by
  obtain ⟨n0, n1, n2, rfl⟩ : ∃ a b c, N = [a, b, c] := match N, hN with | [a, b, c], _ => ⟨a, b, c, rfl⟩
  obtain ⟨a, x, y, d, e, rfl, ha, tx, ty, q⟩ := h
  refine ⟨x, rfl, x, d, rfl, tx, fun x1 H1 sm t1 => ⟨.ref a, rfl, a, C, rfl, ox, no, .inl ⟨sm _ _ ha, fun dx hdx ne => ?_⟩⟩⟩
  have ea : H1 a = some (exo a C none) := sm _ _ ha
  have up : ∀ b o, b ≠ a → H1 b = some o → (upd (upd H1 dx (exd dx [(f, x1)])) a (exo a C (some dx))) b = some o := fun b o n e => by
    rw [upd_ne n, upd_ne (ne_of_none e hdx)]
    exact e
  obtain ⟨H2, eH⟩ : ∃ H2, upd (upd H1 dx (exd dx [(f, x1)])) a (exo a C (some dx)) = H2 := ⟨_, rfl⟩
  have a2 : H2 a = some (exo a C (some dx)) := by rw [← eH, upd_same]
  have d2 : H2 dx = some (exd dx [(f, x1)]) := by rw [← eH, upd_ne ne, upd_same]
  rw [eH] at up ⊢
  have off2 : ∀ b o, Pl o → H1 b = some o → H2 b = some o := fun b o p e => up b o (off_ne ea exo_pl p e) e
  have x2 : Tv H2 x1 d := t1.off off2
  have y2 : Tv H2 y e := (ty.keep sm).off off2
  refine ⟨y, rfl, y, e, rfl, y2, fun y3 H3 sm3 t3 => ⟨.ref a, rfl, a, C, rfl, ox, no2, .inr ⟨dx, _, sm3 _ _ a2, sm3 _ _ d2, (show 1 ≤ 900 by decide), ?_⟩⟩⟩
  have d3 : H3 dx = some (exd dx [(f, x1)]) := sm3 _ _ d2
  have up3 : ∀ b o, b ≠ dx → H3 b = some o → (upd H3 dx (exd dx ((g, y3) :: [(f, x1)]))) b = some o := fun b o n e => by
    rw [upd_ne n]
    exact e
  have off3 : ∀ b o, Pl o → H3 b = some o → (upd H3 dx (exd dx ((g, y3) :: [(f, x1)]))) b = some o := fun b o p e => up3 b o (off_ne d3 exd_pl p e) e
  have a3 : (upd H3 dx (exd dx ((g, y3) :: [(f, x1)]))) a = some (exo a C (some dx)) := up3 _ _ (Ne.symm ne) (sm3 _ _ a2)
  refine q _ (fun b o n e => ?_) ⟨a, dx, _, x1, rfl, a3, upd_same, ?_, (x2.keep sm3).off off3⟩ ⟨a, dx, _, y3, rfl, a3, upd_same, ?_, t3.off off3⟩
  · have e1 := sm _ _ e
    have e2 := up b o n e1
    exact up3 b o (ne_of_none e1 hdx) (sm3 _ _ e2)
  · rw [lookup_put, if_neg fg]
    simp [List.lookup]
  · rw [lookup_put, if_pos rfl]
abbrev sI_BadName : Stmt := inClass (topS 6) 0
theorem scI_BadName : FnScope ["self", "value"] ["self", "value"] (defScope sI_BadName) := ⟨rfl, rfl, rfl, by decide +kernel, rfl, by decide +kernel, by decide +kernel⟩
theorem okI_BadName {f fC C : Addr} {fd fdC : FuncData} (F : Fun K "__init__" "BadName.__init__" sI_BadName f fd) (ox : OexC K C) (no : PySem.W.findIn K (.ref C) "value" = some none) (FC : Fun K "copied" "copied" sCopied fC fdC) (b : Binds K fdC ["value"] []) (g : mg "copied" = some (.ref fC))
    (G : FnOk P w K mg base CX0 2 fC fdC ["value"] spCopied) : FnOk P w K mg base CX0 3 f fd ["self", "value"] (spI1 C "value") := by
  refine F.ok scI_BadName (fun vs H Q E h => ?_) (fun cdv A outer s H vs Q E hr h => ?_)
  · obtain ⟨a, x, d, rfl, _⟩ := h
    rfl
  · exact ⟨_, pss_one (ps_ost (pv 0) (pe_call G hr (by rfl) g FC.kp b .nil pass0 (pa_cons (pv 1) pa_nil))), read1 ox no h rfl⟩
abbrev sI_BadWord : Stmt := inClass (topS 7) 0
theorem scI_BadWord : FnScope ["self", "value"] ["self", "value"] (defScope sI_BadWord) := ⟨rfl, rfl, rfl, by decide +kernel, rfl, by decide +kernel, by decide +kernel⟩
theorem okI_BadWord {f fC C : Addr} {fd fdC : FuncData} (F : Fun K "__init__" "BadWord.__init__" sI_BadWord f fd) (ox : OexC K C) (no : PySem.W.findIn K (.ref C) "value" = some none) (FC : Fun K "copied" "copied" sCopied fC fdC) (b : Binds K fdC ["value"] []) (g : mg "copied" = some (.ref fC))
    (G : FnOk P w K mg base CX0 2 fC fdC ["value"] spCopied) : FnOk P w K mg base CX0 3 f fd ["self", "value"] (spI1 C "value") := by
  refine F.ok scI_BadWord (fun vs H Q E h => ?_) (fun cdv A outer s H vs Q E hr h => ?_)
  · obtain ⟨a, x, d, rfl, _⟩ := h
    rfl
  · exact ⟨_, pss_one (ps_ost (pv 0) (pe_call G hr (by rfl) g FC.kp b .nil pass0 (pa_cons (pv 1) pa_nil))), read1 ox no h rfl⟩
abbrev sI_BadNumber : Stmt := inClass (topS 8) 0
theorem scI_BadNumber : FnScope ["self", "value"] ["self", "value"] (defScope sI_BadNumber) := ⟨rfl, rfl, rfl, by decide +kernel, rfl, by decide +kernel, by decide +kernel⟩
theorem okI_BadNumber {f fC C : Addr} {fd fdC : FuncData} (F : Fun K "__init__" "BadNumber.__init__" sI_BadNumber f fd) (ox : OexC K C) (no : PySem.W.findIn K (.ref C) "value" = some none) (FC : Fun K "copied" "copied" sCopied fC fdC) (b : Binds K fdC ["value"] []) (g : mg "copied" = some (.ref fC))
    (G : FnOk P w K mg base CX0 2 fC fdC ["value"] spCopied) : FnOk P w K mg base CX0 3 f fd ["self", "value"] (spI1 C "value") := by
  refine F.ok scI_BadNumber (fun vs H Q E h => ?_) (fun cdv A outer s H vs Q E hr h => ?_)
  · obtain ⟨a, x, d, rfl, _⟩ := h
    rfl
  · exact ⟨_, pss_one (ps_ost (pv 0) (pe_call G hr (by rfl) g FC.kp b .nil pass0 (pa_cons (pv 1) pa_nil))), read1 ox no h rfl⟩
abbrev sI_BadProgram : Stmt := inClass (topS 10) 0
theorem scI_BadProgram : FnScope ["self", "part"] ["self", "part"] (defScope sI_BadProgram) := ⟨rfl, rfl, rfl, by decide +kernel, rfl, by decide +kernel, by decide +kernel⟩
theorem okI_BadProgram {f fC C : Addr} {fd fdC : FuncData} (F : Fun K "__init__" "BadProgram.__init__" sI_BadProgram f fd) (ox : OexC K C) (no : PySem.W.findIn K (.ref C) "part" = some none) (FC : Fun K "copied" "copied" sCopied fC fdC) (b : Binds K fdC ["value"] []) (g : mg "copied" = some (.ref fC))
    (G : FnOk P w K mg base CX0 2 fC fdC ["value"] spCopied) : FnOk P w K mg base CX0 3 f fd ["self", "part"] (spI1 C "part") := by
  refine F.ok scI_BadProgram (fun vs H Q E h => ?_) (fun cdv A outer s H vs Q E hr h => ?_)
  · obtain ⟨a, x, d, rfl, _⟩ := h
    rfl
  · exact ⟨_, pss_one (ps_ost (pv 0) (pe_call G hr (by rfl) g FC.kp b .nil pass0 (pa_cons (pv 1) pa_nil))), read1 ox no h rfl⟩
abbrev sI_BadStack : Stmt := inClass (topS 12) 0
theorem scI_BadStack : FnScope ["self", "part"] ["self", "part"] (defScope sI_BadStack) := ⟨rfl, rfl, rfl, by decide +kernel, rfl, by decide +kernel, by decide +kernel⟩
theorem okI_BadStack {f fC C : Addr} {fd fdC : FuncData} (F : Fun K "__init__" "BadStack.__init__" sI_BadStack f fd) (ox : OexC K C) (no : PySem.W.findIn K (.ref C) "part" = some none) (FC : Fun K "copied" "copied" sCopied fC fdC) (b : Binds K fdC ["value"] []) (g : mg "copied" = some (.ref fC))
    (G : FnOk P w K mg base CX0 2 fC fdC ["value"] spCopied) : FnOk P w K mg base CX0 3 f fd ["self", "part"] (spI1 C "part") := by
  refine F.ok scI_BadStack (fun vs H Q E h => ?_) (fun cdv A outer s H vs Q E hr h => ?_)
  · obtain ⟨a, x, d, rfl, _⟩ := h
    rfl
  · exact ⟨_, pss_one (ps_ost (pv 0) (pe_call G hr (by rfl) g FC.kp b .nil pass0 (pa_cons (pv 1) pa_nil))), read1 ox no h rfl⟩
abbrev sI_BadWish : Stmt := inClass (topS 13) 0
theorem scI_BadWish : FnScope ["self", "part"] ["self", "part"] (defScope sI_BadWish) := ⟨rfl, rfl, rfl, by decide +kernel, rfl, by decide +kernel, by decide +kernel⟩
theorem okI_BadWish {f fC C : Addr} {fd fdC : FuncData} (F : Fun K "__init__" "BadWish.__init__" sI_BadWish f fd) (ox : OexC K C) (no : PySem.W.findIn K (.ref C) "part" = some none) (FC : Fun K "copied" "copied" sCopied fC fdC) (b : Binds K fdC ["value"] []) (g : mg "copied" = some (.ref fC))
    (G : FnOk P w K mg base CX0 2 fC fdC ["value"] spCopied) : FnOk P w K mg base CX0 3 f fd ["self", "part"] (spI1 C "part") := by
  refine F.ok scI_BadWish (fun vs H Q E h => ?_) (fun cdv A outer s H vs Q E hr h => ?_)
  · obtain ⟨a, x, d, rfl, _⟩ := h
    rfl
  · exact ⟨_, pss_one (ps_ost (pv 0) (pe_call G hr (by rfl) g FC.kp b .nil pass0 (pa_cons (pv 1) pa_nil))), read1 ox no h rfl⟩
abbrev sI_BadTalk : Stmt := inClass (topS 14) 0
theorem scI_BadTalk : FnScope ["self", "part"] ["self", "part"] (defScope sI_BadTalk) := ⟨rfl, rfl, rfl, by decide +kernel, rfl, by decide +kernel, by decide +kernel⟩
theorem okI_BadTalk {f fC C : Addr} {fd fdC : FuncData} (F : Fun K "__init__" "BadTalk.__init__" sI_BadTalk f fd) (ox : OexC K C) (no : PySem.W.findIn K (.ref C) "part" = some none) (FC : Fun K "copied" "copied" sCopied fC fdC) (b : Binds K fdC ["value"] []) (g : mg "copied" = some (.ref fC))
    (G : FnOk P w K mg base CX0 2 fC fdC ["value"] spCopied) : FnOk P w K mg base CX0 3 f fd ["self", "part"] (spI1 C "part") := by
  refine F.ok scI_BadTalk (fun vs H Q E h => ?_) (fun cdv A outer s H vs Q E hr h => ?_)
  · obtain ⟨a, x, d, rfl, _⟩ := h
    rfl
  · exact ⟨_, pss_one (ps_ost (pv 0) (pe_call G hr (by rfl) g FC.kp b .nil pass0 (pa_cons (pv 1) pa_nil))), read1 ox no h rfl⟩
abbrev sI_BadBook : Stmt := inClass (topS 16) 0
theorem scI_BadBook : FnScope ["self", "part"] ["self", "part"] (defScope sI_BadBook) := ⟨rfl, rfl, rfl, by decide +kernel, rfl, by decide +kernel, by decide +kernel⟩
theorem okI_BadBook {f fC C : Addr} {fd fdC : FuncData} (F : Fun K "__init__" "BadBook.__init__" sI_BadBook f fd) (ox : OexC K C) (no : PySem.W.findIn K (.ref C) "part" = some none) (FC : Fun K "copied" "copied" sCopied fC fdC) (b : Binds K fdC ["value"] []) (g : mg "copied" = some (.ref fC))
    (G : FnOk P w K mg base CX0 2 fC fdC ["value"] spCopied) : FnOk P w K mg base CX0 3 f fd ["self", "part"] (spI1 C "part") := by
  refine F.ok scI_BadBook (fun vs H Q E h => ?_) (fun cdv A outer s H vs Q E hr h => ?_)
  · obtain ⟨a, x, d, rfl, _⟩ := h
    rfl
  · exact ⟨_, pss_one (ps_ost (pv 0) (pe_call G hr (by rfl) g FC.kp b .nil pass0 (pa_cons (pv 1) pa_nil))), read1 ox no h rfl⟩
abbrev sI_Unlike : Stmt := inClass (topS 23) 0
theorem scI_Unlike : FnScope ["self", "part"] ["self", "part"] (defScope sI_Unlike) := ⟨rfl, rfl, rfl, by decide +kernel, rfl, by decide +kernel, by decide +kernel⟩
theorem okI_Unlike {f fC C : Addr} {fd fdC : FuncData} (F : Fun K "__init__" "Unlike.__init__" sI_Unlike f fd) (ox : OexC K C) (no : PySem.W.findIn K (.ref C) "part" = some none) (FC : Fun K "copied" "copied" sCopied fC fdC) (b : Binds K fdC ["value"] []) (g : mg "copied" = some (.ref fC))
    (G : FnOk P w K mg base CX0 2 fC fdC ["value"] spCopied) : FnOk P w K mg base CX0 3 f fd ["self", "part"] (spI1 C "part") := by
  refine F.ok scI_Unlike (fun vs H Q E h => ?_) (fun cdv A outer s H vs Q E hr h => ?_)
  · obtain ⟨a, x, d, rfl, _⟩ := h
    rfl
  · exact ⟨_, pss_one (ps_ost (pv 0) (pe_call G hr (by rfl) g FC.kp b .nil pass0 (pa_cons (pv 1) pa_nil))), read1 ox no h rfl⟩
abbrev sI_BadDeed : Stmt := inClass (topS 9) 0
theorem scI_BadDeed : FnScope ["self", "at"] ["self", "at"] (defScope sI_BadDeed) := ⟨rfl, rfl, rfl, by decide +kernel, rfl, by decide +kernel, by decide +kernel⟩
theorem okI_BadDeed {f fC C : Addr} {fd fdC : FuncData} (F : Fun K "__init__" "BadDeed.__init__" sI_BadDeed f fd) (ox : OexC K C) (no : PySem.W.findIn K (.ref C) "at" = some none) (FC : Fun K "copied" "copied" sCopied fC fdC) (b : Binds K fdC ["value"] []) (g : mg "copied" = some (.ref fC))
    (G : FnOk P w K mg base CX0 2 fC fdC ["value"] spCopied) : FnOk P w K mg base CX0 3 f fd ["self", "at"] (spI1 C "at") := by
  refine F.ok scI_BadDeed (fun vs H Q E h => ?_) (fun cdv A outer s H vs Q E hr h => ?_)
  · obtain ⟨a, x, d, rfl, _⟩ := h
    rfl
  · exact ⟨_, pss_one (ps_ost (pv 0) (pe_call G hr (by rfl) g FC.kp b .nil pass0 (pa_cons (pv 1) pa_nil))), read1 ox no h rfl⟩
abbrev sI_BadHandler : Stmt := inClass (topS 11) 0
theorem scI_BadHandler : FnScope ["self", "at"] ["self", "at"] (defScope sI_BadHandler) := ⟨rfl, rfl, rfl, by decide +kernel, rfl, by decide +kernel, by decide +kernel⟩
theorem okI_BadHandler {f fC C : Addr} {fd fdC : FuncData} (F : Fun K "__init__" "BadHandler.__init__" sI_BadHandler f fd) (ox : OexC K C) (no : PySem.W.findIn K (.ref C) "at" = some none) (FC : Fun K "copied" "copied" sCopied fC fdC) (b : Binds K fdC ["value"] []) (g : mg "copied" = some (.ref fC))
    (G : FnOk P w K mg base CX0 2 fC fdC ["value"] spCopied) : FnOk P w K mg base CX0 3 f fd ["self", "at"] (spI1 C "at") := by
  refine F.ok scI_BadHandler (fun vs H Q E h => ?_) (fun cdv A outer s H vs Q E hr h => ?_)
  · obtain ⟨a, x, d, rfl, _⟩ := h
    rfl
  · exact ⟨_, pss_one (ps_ost (pv 0) (pe_call G hr (by rfl) g FC.kp b .nil pass0 (pa_cons (pv 1) pa_nil))), read1 ox no h rfl⟩
abbrev sI_BadSample : Stmt := inClass (topS 15) 0
theorem scI_BadSample : FnScope ["self", "at"] ["self", "at"] (defScope sI_BadSample) := ⟨rfl, rfl, rfl, by decide +kernel, rfl, by decide +kernel, by decide +kernel⟩
theorem okI_BadSample {f fC C : Addr} {fd fdC : FuncData} (F : Fun K "__init__" "BadSample.__init__" sI_BadSample f fd) (ox : OexC K C) (no : PySem.W.findIn K (.ref C) "at" = some none) (FC : Fun K "copied" "copied" sCopied fC fdC) (b : Binds K fdC ["value"] []) (g : mg "copied" = some (.ref fC))
    (G : FnOk P w K mg base CX0 2 fC fdC ["value"] spCopied) : FnOk P w K mg base CX0 3 f fd ["self", "at"] (spI1 C "at") := by
  refine F.ok scI_BadSample (fun vs H Q E h => ?_) (fun cdv A outer s H vs Q E hr h => ?_)
  · obtain ⟨a, x, d, rfl, _⟩ := h
    rfl
  · exact ⟨_, pss_one (ps_ost (pv 0) (pe_call G hr (by rfl) g FC.kp b .nil pass0 (pa_cons (pv 1) pa_nil))), read1 ox no h rfl⟩
abbrev sI_NoPlace : Stmt := inClass (topS 20) 0
theorem scI_NoPlace : FnScope ["self", "at"] ["self", "at"] (defScope sI_NoPlace) := ⟨rfl, rfl, rfl, by decide +kernel, rfl, by decide +kernel, by decide +kernel⟩
theorem okI_NoPlace {f fC C : Addr} {fd fdC : FuncData} (F : Fun K "__init__" "NoPlace.__init__" sI_NoPlace f fd) (ox : OexC K C) (no : PySem.W.findIn K (.ref C) "at" = some none) (FC : Fun K "copied" "copied" sCopied fC fdC) (b : Binds K fdC ["value"] []) (g : mg "copied" = some (.ref fC))
    (G : FnOk P w K mg base CX0 2 fC fdC ["value"] spCopied) : FnOk P w K mg base CX0 3 f fd ["self", "at"] (spI1 C "at") := by
  refine F.ok scI_NoPlace (fun vs H Q E h => ?_) (fun cdv A outer s H vs Q E hr h => ?_)
  · obtain ⟨a, x, d, rfl, _⟩ := h
    rfl
  · exact ⟨_, pss_one (ps_ost (pv 0) (pe_call G hr (by rfl) g FC.kp b .nil pass0 (pa_cons (pv 1) pa_nil))), read1 ox no h rfl⟩
abbrev sI_NoName : Stmt := inClass (topS 19) 0
theorem scI_NoName : FnScope ["self", "name"] ["self", "name"] (defScope sI_NoName) := ⟨rfl, rfl, rfl, by decide +kernel, rfl, by decide +kernel, by decide +kernel⟩
theorem okI_NoName {f fC C : Addr} {fd fdC : FuncData} (F : Fun K "__init__" "NoName.__init__" sI_NoName f fd) (ox : OexC K C) (no : PySem.W.findIn K (.ref C) "name" = some none) (FC : Fun K "copied" "copied" sCopied fC fdC) (b : Binds K fdC ["value"] []) (g : mg "copied" = some (.ref fC))
    (G : FnOk P w K mg base CX0 2 fC fdC ["value"] spCopied) : FnOk P w K mg base CX0 3 f fd ["self", "name"] (spI1 C "name") := by
  refine F.ok scI_NoName (fun vs H Q E h => ?_) (fun cdv A outer s H vs Q E hr h => ?_)
  · obtain ⟨a, x, d, rfl, _⟩ := h
    rfl
  · exact ⟨_, pss_one (ps_ost (pv 0) (pe_call G hr (by rfl) g FC.kp b .nil pass0 (pa_cons (pv 1) pa_nil))), read1 ox no h rfl⟩
abbrev sI_Taken : Stmt := inClass (topS 21) 0
theorem scI_Taken : FnScope ["self", "name"] ["self", "name"] (defScope sI_Taken) := ⟨rfl, rfl, rfl, by decide +kernel, rfl, by decide +kernel, by decide +kernel⟩
theorem okI_Taken {f fC C : Addr} {fd fdC : FuncData} (F : Fun K "__init__" "Taken.__init__" sI_Taken f fd) (ox : OexC K C) (no : PySem.W.findIn K (.ref C) "name" = some none) (FC : Fun K "copied" "copied" sCopied fC fdC) (b : Binds K fdC ["value"] []) (g : mg "copied" = some (.ref fC))
    (G : FnOk P w K mg base CX0 2 fC fdC ["value"] spCopied) : FnOk P w K mg base CX0 3 f fd ["self", "name"] (spI1 C "name") := by
  refine F.ok scI_Taken (fun vs H Q E h => ?_) (fun cdv A outer s H vs Q E hr h => ?_)
  · obtain ⟨a, x, d, rfl, _⟩ := h
    rfl
  · exact ⟨_, pss_one (ps_ost (pv 0) (pe_call G hr (by rfl) g FC.kp b .nil pass0 (pa_cons (pv 1) pa_nil))), read1 ox no h rfl⟩
abbrev sI_Unfit : Stmt := inClass (topS 22) 0
theorem scI_Unfit : FnScope ["self", "name"] ["self", "name"] (defScope sI_Unfit) := ⟨rfl, rfl, rfl, by decide +kernel, rfl, by decide +kernel, by decide +kernel⟩
theorem okI_Unfit {f fC C : Addr} {fd fdC : FuncData} (F : Fun K "__init__" "Unfit.__init__" sI_Unfit f fd) (ox : OexC K C) (no : PySem.W.findIn K (.ref C) "name" = some none) (FC : Fun K "copied" "copied" sCopied fC fdC) (b : Binds K fdC ["value"] []) (g : mg "copied" = some (.ref fC))
    (G : FnOk P w K mg base CX0 2 fC fdC ["value"] spCopied) : FnOk P w K mg base CX0 3 f fd ["self", "name"] (spI1 C "name") := by
  refine F.ok scI_Unfit (fun vs H Q E h => ?_) (fun cdv A outer s H vs Q E hr h => ?_)
  · obtain ⟨a, x, d, rfl, _⟩ := h
    rfl
  · exact ⟨_, pss_one (ps_ost (pv 0) (pe_call G hr (by rfl) g FC.kp b .nil pass0 (pa_cons (pv 1) pa_nil))), read1 ox no h rfl⟩
abbrev sI_BadText : Stmt := inClass (topS 17) 0
theorem scI_BadText : FnScope ["self", "line", "word"] ["self", "line", "word"] (defScope sI_BadText) := ⟨rfl, rfl, rfl, by decide +kernel, rfl, by decide +kernel, by decide +kernel⟩
theorem okI_BadText {f fC C : Addr} {fd fdC : FuncData} (F : Fun K "__init__" "BadText.__init__" sI_BadText f fd) (ox : OexC K C) (no : PySem.W.findIn K (.ref C) "line" = some none) (no2 : PySem.W.findIn K (.ref C) "word" = some none) (FC : Fun K "copied" "copied" sCopied fC fdC) (b : Binds K fdC ["value"] []) (g : mg "copied" = some (.ref fC))
    (G : FnOk P w K mg base CX0 2 fC fdC ["value"] spCopied) : FnOk P w K mg base CX0 3 f fd ["self", "line", "word"] (spI2 C "line" "word") := by
  refine F.ok scI_BadText (fun vs H Q E h => ?_) (fun cdv A outer s H vs Q E hr h => ?_)
  · obtain ⟨a, x, y, d, e, rfl, _⟩ := h
    rfl
  · exact ⟨_, pss_cons (ps_ost (pv 0) (pe_call G hr (by rfl) g FC.kp b .nil pass0 (pa_cons (pv 1) pa_nil))) (pss_one (ps_ost (pv 0) (pe_call G hr (by rfl) g FC.kp b .nil pass0 (pa_cons (pv 2) pa_nil)))), read2 ox no no2 (by decide) h rfl⟩
abbrev sI_BadLine : Stmt := inClass (topS 18) 0
theorem scI_BadLine : FnScope ["self", "word"] ["self", "word"] (defScope sI_BadLine) := ⟨rfl, rfl, rfl, by decide +kernel, rfl, by decide +kernel, by decide +kernel⟩
theorem okI_BadLine {f fC C : Addr} {fd fdC : FuncData} (F : Fun K "__init__" "BadLine.__init__" sI_BadLine f fd) (ox : OexC K C) (no : PySem.W.findIn K (.ref C) "word" = some none) (FC : Fun K "copied" "copied" sCopied fC fdC) (b : Binds K fdC ["value"] []) (g : mg "copied" = some (.ref fC))
    (G : FnOk P w K mg base CX0 2 fC fdC ["value"] spCopied) : FnOk P w K mg base CX0 3 f fd ["self", "word"] (spI1 C "word") := by
  refine F.ok scI_BadLine (fun vs H Q E h => ?_) (fun cdv A outer s H vs Q E hr h => ?_)
  · obtain ⟨a, x, d, rfl, _⟩ := h
    rfl
  · exact ⟨_, pss_one (ps_ost (pv 0) (pe_call G hr (by rfl) g FC.kp b .nil pass0 (pa_cons (pv 1) pa_nil))), read1 ox no h rfl⟩
abbrev sI_TooMany : Stmt := inClass (topS 24) 0
theorem scI_TooMany : FnScope ["self", "what", "most"] ["self", "what", "most"] (defScope sI_TooMany) := ⟨rfl, rfl, rfl, by decide +kernel, rfl, by decide +kernel, by decide +kernel⟩
theorem okI_TooMany {f fC C : Addr} {fd fdC : FuncData} (F : Fun K "__init__" "TooMany.__init__" sI_TooMany f fd) (ox : OexC K C) (no : PySem.W.findIn K (.ref C) "what" = some none) (no2 : PySem.W.findIn K (.ref C) "most" = some none) (FC : Fun K "copied" "copied" sCopied fC fdC) (b : Binds K fdC ["value"] []) (g : mg "copied" = some (.ref fC))
    (G : FnOk P w K mg base CX0 2 fC fdC ["value"] spCopied) : FnOk P w K mg base CX0 3 f fd ["self", "what", "most"] (spI2 C "what" "most") := by
  refine F.ok scI_TooMany (fun vs H Q E h => ?_) (fun cdv A outer s H vs Q E hr h => ?_)
  · obtain ⟨a, x, y, d, e, rfl, _⟩ := h
    rfl
  · exact ⟨_, pss_cons (ps_ost (pv 0) (pe_call G hr (by rfl) g FC.kp b .nil pass0 (pa_cons (pv 1) pa_nil))) (pss_one (ps_ost (pv 0) (pe_call G hr (by rfl) g FC.kp b .nil pass0 (pa_cons (pv 2) pa_nil)))), read2 ox no no2 (by decide) h rfl⟩
end
end My
namespace My
open PySem PySem.Spec PyProof.Rows L2
/-! ### the pen: a list of a list of ints, of how many were taken, of what is left of a great one -/
structure PenAt (H : Hp) (p c : Addr) (ns : List Int) (B : Int) : Prop where
  pen : ∃ b g : Int, H p = some (.lst [.ref c, .int b, .int g]) ∧ 0 ≤ b ∧ b ≤ B ∧ 0 ≤ g
  cells : H c = some (.lst (ns.map V.int))
  few : ns.length ≤ 63
def Off (p : Addr) (H H' : Hp) : Prop := ∀ q o, q ≠ p → H q = some o → H' q = some o
theorem Off.trans {p : Addr} {H1 H2 H3 : Hp} (h : Off p H1 H2) (k : Off p H2 H3) : Off p H1 H3 := fun q o n e => k q o n (h q o n e)
theorem Off.rfl' {p : Addr} {H : Hp} : Off p H H := fun _ _ _ e => e
theorem Off.new {p a : Addr} {H : Hp} {o : HO} (h : H a = none) : Off p H (upd H a o) := fun q _ _ e => by
  rw [upd_ne (ne_of_none e h)]
  exact e
theorem PenAt.ne {H : Hp} {p c : Addr} {ns : List Int} {B : Int} (P : PenAt H p c ns B) : c ≠ p := by
  obtain ⟨b, g, e, _⟩ := P.pen
  intro z
  have y := P.cells
  rw [z, e] at y
  injection y with y
  injection y with y
  cases ns with
  | nil => cases y
  | cons x r => injection y with y1 y2; cases y1
theorem PenAt.more {H : Hp} {p c : Addr} {ns : List Int} {B C : Int} (P : PenAt H p c ns B) (h : B ≤ C) : PenAt H p c ns C := by
  obtain ⟨b, g, e, h1, h2, h3⟩ := P.pen
  exact ⟨⟨b, g, e, h1, by omega, h3⟩, P.cells, P.few⟩
theorem PenAt.keep {H H' : Hp} {p c : Addr} {ns : List Int} {B : Int} (P : PenAt H p c ns B) (h : ∀ q o, H q = some o → H' q = some o) : PenAt H' p c ns B := by
  obtain ⟨b, g, e, h1, h2, h3⟩ := P.pen
  exact ⟨⟨b, g, h _ _ e, h1, h2, h3⟩, h _ _ P.cells, P.few⟩

/-! ### numbers -/
theorem fm {x m : Int} (h : 0 < m) : 0 ≤ x.fmod m ∧ x.fmod m < m := by
  rw [Int.fmod_eq_emod_of_nonneg _ (by omega)]
  exact ⟨Int.emod_nonneg _ (by omega), Int.emod_lt_of_pos _ h⟩
theorem fd0 {x m : Int} (h : 0 < m) (hx : 0 ≤ x) : 0 ≤ x.fdiv m := by
  rw [Int.fdiv_eq_ediv_of_nonneg _ (by omega)]
  exact Int.ediv_nonneg hx (by omega)
theorem mulB {x y a b : Int} (h0 : 0 ≤ x) (h1 : x ≤ a) (k0 : 0 ≤ y) (k1 : y ≤ b) : 0 ≤ x * y ∧ x * y ≤ a * b :=
  ⟨Int.mul_nonneg h0 k0, Int.mul_le_mul h1 k1 k0 (by omega)⟩
theorem nz1 : (2147483549 : Int) ≠ 0 := by decide
theorem nz2 : (2147483629 : Int) ≠ 0 := by decide
theorem nz3 : (2147483587 : Int) ≠ 0 := by decide
theorem natAbs_lt {x : Int} (h0 : 0 ≤ x) (h1 : x < 18446744073709551616) : x.natAbs < 2 ^ 64 := by
  show x.natAbs < 18446744073709551616
  omega
theorem dpInts {K : PySem.W.Frag} {H : Hp} : ∀ ns : List Int, DpAll K H (ns.map V.int) (ns.map PyData.int)
  | [] => .nil
  | _ :: r => .cons (.int _) (dpInts r)
theorem shaped_ints : ∀ ns : List Int, SeqAt.shaped (.list (ns.map PyData.int)) = true
  | [] => rfl
  | _ :: r => shaped_ints r

theorem at_in {xs : List V} {j : Int} (h0 : 0 ≤ j) (h1 : j < (xs.length : Nat)) : ∃ v, v ∈ xs ∧ atI xs j = some v := by
  obtain ⟨k, rfl⟩ : ∃ k : Nat, j = (k : Int) := ⟨j.toNat, by omega⟩
  have hk : k < xs.length := by omega
  exact ⟨xs[k], List.getElem_mem hk, atI_nat (List.getElem?_eq_getElem hk)⟩
/-! ### the draw -/
def spDraw : Sp := fun vs H Q _ => ∃ (p c : Addr) (ns : List Int) (B m : Int), vs = [.ref p, .int m] ∧ PenAt H p c ns B ∧ B ≤ 1000 ∧ 1 ≤ m ∧ m ≤ 1000 ∧
  ∀ (d : Int) (H' : Hp), 0 ≤ d → d < m → PenAt H' p c ns (B + 1) → Off p H H' → Q (.int d) H'
section
variable {P : Program} {w : World} {K : PySem.W.Frag} {mg : Str → Option Value} {base : Heap}
abbrev nDraw : List Str := ["_law_pen_here", "_law_many", "_law_digit", "_law_begun", "_law_raw", "_law_great", "_law_stirred"]
theorem scDraw : FnScope nDraw ["_law_pen_here", "_law_many"] (defScope sDraw) := ⟨rfl, rfl, rfl, by decide +kernel, rfl, by decide +kernel, by decide +kernel⟩
theorem tail2 {f : Addr} {cdv : Value} {A : Around} {outer : List Env} {s : Shared} {H0 : Hp} {E : XK} (T : Txt mg) :
    ∃ t, PSs (cxOf CX0 P w K mg base nDraw "_law_draw" (defScope sDraw) f cdv A outer s H0 E).nox ((defBody sDraw).drop 6) t ∧
      ∀ (Q : VK) (nx : L2.St → Hp → Prop) (p : Addr) (m b raw : Int) (y2 y5 y6 : Option V) (H : Hp), 0 ≤ b → b ≤ 1000 → 1 ≤ m → (∀ d : Int, 0 ≤ d → d < m → Q (.int d) H) →
        t { nx := nx, rt := Q } [some (.ref p), some (.int m), y2, some (.int b), some (.int raw), y5, y6] H := by
  refine ⟨_, pss_cons (ps_set (i := 6) scDraw.nd rfl (.inl rfl) (pe_op op_modN (pe_callTy call_int1 (by rfl) T.int (by decide +kernel) (pa_cons (pe_op op_pow
          (pe_op op_add (pe_op op_add (pe_op op_modN (pe_callTy call_int1 (by rfl) T.int (by decide +kernel) (pa_cons (pv 4) pa_nil)) pe_int) (pe_op op_mul pe_int (pv 3))) pe_int) pe_int) pa_nil)) pe_int))
      (pss_cons (ps_set (i := 6) scDraw.nd rfl (.inl rfl) (pe_op op_modN (pe_callTy call_int1 (by rfl) T.int (by decide +kernel) (pa_cons (pe_op op_pow
          (pe_op op_add (pe_op op_add (pe_op op_mul (pv 6) (pe_op op_add (pe_op op_mul pe_int (pv 3)) pe_int)) (pe_op op_mul (pe_op op_mul pe_int (pv 3)) (pv 3))) pe_int) pe_int) pa_nil)) pe_int))
      (pss_one (ps_ret (pe_op op_modN (pe_callTy call_int1 (by rfl) T.int (by decide +kernel) (pa_cons (pe_op op_fdivN (pv 6) pe_int) pa_nil)) (pv 1))))), ?_⟩
  intro Q nx p m b raw y2 y5 y6 H b0 bB hm q
  have f1 := fm (x := raw) (m := 2147483549) (by decide)
  refine ⟨.int raw, rfl, .inl ⟨raw, rfl, raw, _, rfl, rfl, nz1, .int b, rfl, _, b, rfl, rfl, .inl ⟨by decide, by decide⟩, _, _, rfl, rfl, _, _, rfl, rfl, _, 5, rfl, rfl, ⟨by decide, by decide, natAbs_lt (by omega) (by omega)⟩, .inl ⟨_, rfl, _, _, rfl, rfl, nz2, ?_⟩⟩⟩
  obtain ⟨z, hz⟩ : ∃ z : Int, ((raw.fmod 2147483549 + 81023 * b + 1907) ^ (5 : Int).toNat).fmod 2147483629 = z := ⟨_, rfl⟩
  have f2 := fm (x := ((raw.fmod 2147483549 + 81023 * b + 1907) ^ (5 : Int).toNat)) (m := 2147483629) (by decide)
  rw [hz] at f2
  have f3 := mulB (x := z) (y := 2 * b + 517) (a := 2147483629) (b := 2000 + 517) f2.1 (by omega) (by omega) (by omega)
  have f4 := mulB (x := 64007 * b) (y := b) (a := 64007 * 1000) (b := 1000) (by omega) (by omega) b0 bB
  refine ⟨.int z, by rw [← hz]; rfl, .int b, rfl, 2, b, rfl, rfl, .inl ⟨by decide, by decide⟩, _, _, rfl, rfl, z, _, rfl, rfl, .inl ⟨by omega, by omega⟩, .int b, rfl, _, b, rfl, rfl, .inl ⟨by decide, by decide⟩, .int b, rfl, _, b, rfl, rfl, .inl ⟨by omega, by omega⟩, _, _, rfl, rfl, _, _, rfl, rfl, _, 3, rfl, rfl, ⟨by decide, by decide, natAbs_lt (by omega) (by omega)⟩, .inl ⟨_, rfl, _, _, rfl, rfl, nz3, ?_⟩⟩
  obtain ⟨v, hv⟩ : ∃ v : Int, ((z * (2 * b + 517) + 64007 * b * b + 70321) ^ (3 : Int).toNat).fmod 2147483587 = v := ⟨_, rfl⟩
  refine ⟨.int v, by rw [← hv]; rfl, v, 32, rfl, rfl, ⟨by decide, by decide⟩, .inl ⟨_, rfl, .int m, rfl, _, m, rfl, rfl, by omega, ?_⟩⟩
  exact q _ (fm (by omega)).1 (fm (by omega)).2
theorem tail1 {f : Addr} {cdv : Value} {A : Around} {outer : List Env} {s : Shared} {H0 : Hp} {E : XK} (T : Txt mg) :
    ∃ t, PSs (cxOf CX0 P w K mg base nDraw "_law_draw" (defScope sDraw) f cdv A outer s H0 E).nox ((defBody sDraw).drop 5) t ∧
      ∀ (Q : VK) (nx : L2.St → Hp → Prop) (p c : Addr) (ns : List Int) (m b b1 g raw : Int) (y2 y5 y6 : Option V) (H : Hp), H p = some (.lst [.ref c, .int b1, .int g]) → H c = some (.lst (ns.map V.int)) → 0 ≤ b → b ≤ 1000 → 0 ≤ g → 1 ≤ m → m ≤ 1000 →
        (∀ (d : Int) (H' : Hp), 0 ≤ d → d < m → (∃ g' : Int, 0 ≤ g' ∧ H' p = some (.lst [.ref c, .int b1, .int g'])) → Off p H H' → Q (.int d) H') →
        t { nx := nx, rt := Q } [some (.ref p), some (.int m), y2, some (.int b), some (.int raw), y5, y6] H := by
  obtain ⟨t2, h2, q2⟩ := tail2 (P := P) (w := w) (K := K) (base := base) (f := f) (cdv := cdv) (A := A) (outer := outer) (s := s) (H0 := H0) (E := E) T
  refine ⟨_, pss_cons (ps_if (PW.pt (pw_and (pt_cmpR op_lt (pv 3) (pe_callB call_len_seq (by rfl) T.len PySem.boot_len (pa_cons (pe_ix ix_list (pv 0) pe_int (fun _ _ => rfl)) pa_nil)) (nomark _))
            (pw_and1 (pt_cmpR op_ge (pe_callB call_abs (by rfl) T.abs (by decide +kernel) (pa_cons (pv 4) pa_nil)) (pe_op op_pow pe_int pe_int) (nomark _)))))
        (pss_cons (ps_set (i := 5) scDraw.nd rfl (.inl rfl) (pe_op op_add (pe_op op_mul pe_int (pe_op op_sub (pe_callB call_abs (by rfl) T.abs (by decide +kernel) (pa_cons (pv 4) pa_nil)) (pe_op op_pow pe_int pe_int)))
            (pe_callTy call_int1 (by rfl) T.int (by decide +kernel) (pa_cons (pe_cmpR op_lt (pv 4) pe_int (nomark _)) pa_nil))))
        (pss_cons (ps_asg (pe_op op_fdivN (pe_callTy call_int1 (by rfl) T.int (by decide +kernel) (pa_cons (pv 5) pa_nil)) (pv 1)) (pg_sub (pv 0) pe_int set_list))
        (pss_one (ps_ret (pe_op op_modN (pe_callTy call_int1 (by rfl) T.int (by decide +kernel) (pa_cons (pv 5) pa_nil)) (pv 1)))))) pss_nil) h2, ?_⟩
  intro Q nx p c ns m b b1 g raw y2 y5 y6 H hp hc b0 bB g0 hm hm2 q
  have last : t2 { nx := nx, rt := Q } [some (.ref p), some (.int m), y2, some (.int b), some (.int raw), y5, y6] H :=
    q2 Q nx p m b raw y2 y5 y6 H b0 bB hm fun d d0 d1 => q d H d0 d1 ⟨g, g0, hp⟩ Off.rfl'
  refine ⟨.int b, rfl, .ref p, rfl, p, _, 0, .ref c, rfl, rfl, SqL.of hp, rfl, c, _, rfl, .inl (SqL.of hc), _, _, rfl, rfl, _, rfl, ite2 (fun e => ?_) (fun e => iteF last)⟩
  refine ⟨.int raw, rfl, raw, rfl, 10, 18, rfl, rfl, ⟨by decide, by decide, by decide⟩, _, _, rfl, rfl, _, rfl, ite2 (fun e2 => ?_) (fun e2 => last)⟩
  have big := of_decide_eq_true e2
  obtain ⟨r, hr⟩ : ∃ r : Int, (if raw < 0 then -raw else raw) = r := ⟨_, rfl⟩
  obtain ⟨u, hu⟩ : ∃ u : Int, 2 * ((if raw < 0 then -raw else raw) - (10 : Int) ^ (18 : Int).toNat) + (if decide (raw < 0) = true then 1 else 0) = u := ⟨_, rfl⟩
  have u0 : 0 ≤ u := by
    rw [← hu]
    have k : (0 : Int) ≤ if decide (raw < 0) = true then 1 else 0 := by split <;> decide
    omega
  refine ⟨.int raw, rfl, raw, rfl, 10, 18, rfl, rfl, ⟨by decide, by decide, by decide⟩, _, _, rfl, rfl, 2, _, rfl, rfl, .inl ⟨by decide, by decide⟩, .int raw, rfl, raw, 0, rfl, rfl, .inr ⟨_, rfl, _, _, rfl, rfl, ?_⟩⟩
  refine ⟨.int u, by rw [← hu]; rfl, .inl ⟨u, rfl, .int m, rfl, u, m, rfl, rfl, ⟨by omega, by omega⟩, ?_⟩⟩
  refine ⟨.ref p, rfl, p, _, 2, 2, rfl, rfl, hp, rfl, ?_⟩
  refine ⟨.int u, by rw [← hu]; rfl, .inl ⟨u, rfl, .int m, rfl, u, m, rfl, rfl, by omega, ?_⟩⟩
  exact q _ _ (fm (by omega)).1 (fm (by omega)).2 ⟨u.fdiv m, fd0 (by omega) u0, upd_same⟩ fun a o n e => by rw [upd_ne n]; exact e
theorem ok_draw {f : Addr} {fd : FuncData} (F : Fun K "_law_draw" "_law_draw" sDraw f fd) (T : Txt mg) : FnOk P w K mg base CX0 1 f fd ["_law_pen_here", "_law_many"] spDraw := by
  refine F.ok scDraw (fun vs H Q E h => ?_) (fun cdv A outer s H vs Q E hr h => ?_)
  · obtain ⟨p, c, ns, B, m, rfl, _⟩ := h
    rfl
  · obtain ⟨p, c, ns, B, m, rfl, PA0, hB, hm, hm2, q⟩ := h
    obtain ⟨b, g, hp, b0, bB, g0⟩ := PA0.pen
    have hc := PA0.cells
    have few := PA0.few
    have ncp := PA0.ne
    obtain ⟨t1, h1, q1⟩ := tail1 (P := P) (w := w) (K := K) (base := base) (f := f) (cdv := cdv) (A := A) (outer := outer) (s := s) (H0 := H) (E := E) T
    refine ⟨_, pss_cons (ps_if (pt_cmpR op_gt (pe_ix ix_list (pv 0) pe_int (fun _ _ => rfl)) pe_int (nomark _))
        (pss_cons (ps_set (i := 2) scDraw.nd rfl (.inl rfl) (pe_op op_modN (pe_callTy call_int1 (by rfl) T.int (by decide +kernel) (pa_cons (pe_ix ix_list (pv 0) pe_int (fun _ _ => rfl)) pa_nil)) (pv 1)))
        (pss_cons (ps_asg (pe_op op_fdivN (pe_callTy call_int1 (by rfl) T.int (by decide +kernel) (pa_cons (pe_ix ix_list (pv 0) pe_int (fun _ _ => rfl)) pa_nil)) (pv 1)) (pg_sub (pv 0) pe_int set_list))
        (pss_one (ps_ret (pv 2))))) pss_nil)
      (pss_cons (ps_set (i := 3) scDraw.nd rfl (.inl rfl) (pe_ix ix_list (pv 0) pe_int (fun _ _ => rfl)))
      (pss_cons (ps_asg (pe_op op_add (pv 3) pe_int) (pg_sub (pv 0) pe_int set_list))
      (pss_cons (ps_set (i := 4) scDraw.nd rfl (.inl rfl) (pe_op op_add (pe_op op_mul pe_int (pv 3)) pe_int))
      (pss_cons (ps_if (pt_cmpR (op_neD hr.units) (pe_ix ix_list (pv 0) pe_int (fun _ _ => rfl)) (pe_lst pa_nil) (nomark _))
        (pss_one (ps_set (i := 4) scDraw.nd rfl (.inl rfl) (pe_ix ix_list (pe_ix ix_list (pv 0) pe_int (fun _ _ => rfl))
          (pe_op op_modN (pe_callTy call_int1 (by rfl) T.int (by decide +kernel) (pa_cons (pv 3) pa_nil)) (pe_callB call_len_seq (by rfl) T.len PySem.boot_len (pa_cons (pe_ix ix_list (pv 0) pe_int (fun _ _ => rfl)) pa_nil))) (fun _ _ => rfl)))) pss_nil) h1)))), ?_⟩
    -- if pen[2] > 0
    refine ⟨.ref p, rfl, p, _, 2, .int g, rfl, rfl, SqL.of hp, rfl, g, 0, rfl, rfl, _, rfl, ite2 (fun e => ?_) (fun e => ?_)⟩
    · refine ⟨.ref p, rfl, p, _, 2, .int g, rfl, rfl, SqL.of hp, rfl, .inl ⟨_, rfl, .int m, rfl, g, m, rfl, rfl, by omega, ?_⟩⟩
      refine ⟨.ref p, rfl, p, _, 2, .int g, rfl, rfl, SqL.of hp, rfl, .inl ⟨_, rfl, .int m, rfl, g, m, rfl, rfl, ⟨by omega, by omega⟩, ?_⟩⟩
      refine ⟨.ref p, rfl, p, _, 2, 2, rfl, rfl, hp, rfl, ?_⟩
      refine ⟨_, rfl, q (g.fmod m) _ (fm (by omega)).1 (fm (by omega)).2 ⟨⟨b, g.fdiv m, upd_same, b0, by omega, fd0 (by omega) g0⟩, by rw [upd_ne ncp]; exact hc, few⟩ fun a o n e => by rw [upd_ne n]; exact e⟩
    · -- begun = pen[1]; pen[1] = begun + 1; raw = ..
      refine ⟨.ref p, rfl, p, _, 1, .int b, rfl, rfl, SqL.of hp, rfl, ?_⟩
      refine ⟨_, rfl, b, 1, rfl, rfl, .ref p, rfl, p, _, 1, 1, rfl, rfl, hp, rfl, ?_⟩
      refine ⟨_, rfl, 70321, b, rfl, rfl, .inl ⟨by decide, by decide⟩, _, _, rfl, rfl, ?_⟩
      obtain ⟨H1, eH⟩ : ∃ H1 : Hp, upd H p (.lst [.ref c, .int (b + 1), .int g]) = H1 := ⟨_, rfl⟩
      have hp1 : H1 p = some (.lst [.ref c, .int (b + 1), .int g]) := by rw [← eH, upd_same]
      have hc1 : H1 c = some (.lst (ns.map V.int)) := by rw [← eH, upd_ne ncp]; exact hc
      have off1 : Off p H H1 := fun a o n e => by rw [← eH, upd_ne n]; exact e
      have eH' : upd H p (.lst (([.ref c, .int b, .int g] : List V).set 1 (.int (b + 1)))) = H1 := eH
      rw [eH']
      clear eH eH'
      -- if pen[0] != []
      refine ⟨.ref p, rfl, p, _, 0, .ref c, rfl, rfl, SqL.of hp1, rfl, Nat.zero_le _, fun l hl => ?_⟩
      have npl : p ≠ l := ne_of_none hp1 hl
      have ncl : c ≠ l := ne_of_none hc1 hl
      have hp2 : (upd H1 l (.lst [])) p = some (.lst [.ref c, .int (b + 1), .int g]) := by rw [upd_ne npl]; exact hp1
      have hc2 : (upd H1 l (.lst [])) c = some (.lst (ns.map V.int)) := by rw [upd_ne ncl]; exact hc1
      have off2 : Off p H (upd H1 l (.lst [])) := off1.trans (Off.new hl)
      refine ⟨.list (ns.map PyData.int), .list [], .lst (SqL.of hc2) (dpInts ns), .lst (SqL.of upd_same) .nil, shaped_ints ns, rfl, _, rfl, ?_⟩
      have last : ∀ (raw : Int) (y2 y5 y6 : Option V) (nx : L2.St → Hp → Prop), t1 { nx := nx, rt := Q } [some (.ref p), some (.int m), y2, some (.int b), some (.int raw), y5, y6] (upd H1 l (.lst [])) := by
        intro raw y2 y5 y6 nx
        refine q1 Q nx p c ns m b (b + 1) g raw y2 y5 y6 _ hp2 hc2 b0 (by omega) g0 hm hm2 fun d H' d0 d1 z off => ?_
        obtain ⟨g', z0, e1⟩ := z
        exact q d H' d0 d1 ⟨⟨b + 1, g', e1, by omega, by omega, z0⟩, off c _ ncp hc2, few⟩ (off2.trans off)
      cases ns with
      | nil => exact iteF (last _ _ _ _ _)
      | cons x r =>
        have lz : ((x :: r).map V.int).length = r.length + 1 := by rw [List.length_map]; rfl
        have lp : (0 : Int) < (((x :: r).map V.int).length : Nat) := by rw [lz]; omega
        obtain ⟨j, ej⟩ : ∃ j : Int, b.fmod (((x :: r).map V.int).length : Nat) = j := ⟨_, rfl⟩
        have j0 := (fm (x := b) lp).1
        have j1 := (fm (x := b) lp).2
        rw [ej] at j0 j1
        obtain ⟨v, hv, at1⟩ := at_in j0 j1
        obtain ⟨y, _, rfl⟩ := List.mem_map.mp hv
        refine iteT ⟨.ref p, rfl, p, _, 0, .ref c, rfl, rfl, SqL.of hp2, rfl, .int b, rfl, .inl ⟨b, rfl, .ref p, rfl, p, _, 0, .ref c, rfl, rfl, SqL.of hp2, rfl, c, _, rfl, .inl (SqL.of hc2), b, _, rfl, rfl, by omega, c, _, _, _, rfl, rfl, SqL.of hc2, (by rw [ej]; exact at1), ?_⟩⟩
        exact last _ _ _ _ _
end
/-! ### the pen is made -/
theorem cut63 {α : Type} (xs : List V) (h : xs.length ≤ 63) : cutV xs none (some 63) = xs := by
  unfold cutV
  rw [show HT.sIx xs.length 0 none = 0 from rfl, show HT.sIx xs.length xs.length (some 63) = min 63 xs.length from HT.sIx_nat xs.length xs.length 63, List.drop_zero, Nat.min_eq_right h, Nat.sub_zero]
  exact List.take_length
def spPen (K : PySem.W.Frag) : Sp := fun vs H Q _ => ∃ (a : Addr) (ns : List Int), vs = [.ref a] ∧ SqL K H a (ns.map V.int) ∧ ns.length ≤ 63 ∧ ∀ (p c : Addr) (H' : Hp), Same' H H' → PenAt H' p c ns 0 → Q (.ref p) H'
def Src (H : Hp) (p : Addr) (s : V) (src : List V) : Prop := (∃ l, s = .ref l ∧ l ≠ p ∧ H l = some (.lst src)) ∨ (∃ z : Str, s = .str z ∧ src = z.cps.toList.map (fun c => V.str ⟨#[c]⟩))
def spPick : Sp := fun vs H Q _ => ∃ (p c : Addr) (ns : List Int) (B : Int) (s : V) (src : List V), vs = [.ref p, s] ∧ PenAt H p c ns B ∧ B ≤ 1000 ∧ Src H p s src ∧ 1 ≤ src.length ∧ src.length ≤ 1000 ∧
  ∀ (v : V) (H' : Hp), v ∈ src → PenAt H' p c ns (B + 1) → Off p H H' → Q v H'
section
variable {P : Program} {w : World} {K : PySem.W.Frag} {mg : Str → Option Value} {base : Heap}
theorem scPen : FnScope ["_law_script"] ["_law_script"] (defScope sPen) := ⟨rfl, rfl, rfl, by decide +kernel, rfl, by decide +kernel, by decide +kernel⟩
theorem ok_pen {f : Addr} {fd : FuncData} (F : Fun K "_law_pen" "_law_pen" sPen f fd) (T : Txt mg) : FnOk P w K mg base CX0 1 f fd ["_law_script"] (spPen K) := by
  refine F.ok scPen (fun vs H Q E h => ?_) (fun cdv A outer s H vs Q E hr h => ?_)
  · obtain ⟨a, ns, rfl, _⟩ := h
    rfl
  · obtain ⟨a, ns, rfl, hS, few, q⟩ := h
    refine ⟨_, pss_one (ps_ret (pe_lst (pa_cons (pe_callTy call_list_of (by rfl) T.list (by decide +kernel) (pa_cons (pe_slice sl_list (pv 0) po_none (po_some pe_int)) pa_nil)) (pa_cons pe_int (pa_cons pe_int pa_nil))))), ?_⟩
    refine ⟨.ref a, rfl, 63, rfl, a, _, rfl, hS, fun u hu => ?_⟩
    rw [cut63 (α := Unit) _ (by rw [List.length_map]; exact few)]
    refine ⟨u, _, rfl, .inl (SqL.of upd_same), fun c hc => ⟨by show 3 ≤ sizeLine; decide, fun p hp => ?_⟩⟩
    have ncp : c ≠ p := fun z => by
      rw [← z, upd_same] at hp
      cases hp
    refine q p c _ (fun b o e => ?_) ⟨⟨0, 0, upd_same, Int.le_refl _, Int.le_refl _, Int.le_refl _⟩, by rw [upd_ne ncp, upd_same], few⟩
    have e1 : (upd H u (.lst (ns.map V.int))) b = some o := by
      rw [upd_ne (ne_of_none e hu)]
      exact e
    have e2 : (upd (upd H u (.lst (ns.map V.int))) c (.lst (ns.map V.int))) b = some o := by
      rw [upd_ne (ne_of_none e1 hc)]
      exact e1
    rw [upd_ne (ne_of_none e2 hp)]
    exact e2
theorem scPick : FnScope ["_law_pen_here", "_law_some"] ["_law_pen_here", "_law_some"] (defScope sPick) := ⟨rfl, rfl, rfl, by decide +kernel, rfl, by decide +kernel, by decide +kernel⟩
theorem ok_pick {f fD : Addr} {fd fdD : FuncData} (F : Fun K "_law_pick" "_law_pick" sPick f fd) (T : Txt mg) (FD : Fun K "_law_draw" "_law_draw" sDraw fD fdD) (bD : Binds K fdD ["_law_pen_here", "_law_many"] []) (gD : mg "_law_draw" = some (.ref fD))
    (G : FnOk P w K mg base CX0 1 fD fdD ["_law_pen_here", "_law_many"] spDraw) : FnOk P w K mg base CX0 2 f fd ["_law_pen_here", "_law_some"] spPick := by
  refine F.ok scPick (fun vs H Q E h => ?_) (fun cdv A outer s H vs Q E hr h => ?_)
  · obtain ⟨p, c, ns, B, s, src, rfl, _⟩ := h
    rfl
  · obtain ⟨p, c, ns, B, x, src, rfl, PA0, hB, hs, n1, n2, q⟩ := h
    refine ⟨_, pss_one (ps_ret (pe_ix ix_seq (pv 1) (pe_call G hr (by rfl) gD FD.kp bD .nil pass0 (pa_cons (pv 0) (pa_cons (pe_callB (CallR.or call_len_seq call_len_str) (by rfl) T.len PySem.boot_len (pa_cons (pv 1) pa_nil)) pa_nil))) (fun _ _ => rfl))), ?_⟩
    refine ⟨x, rfl, .ref p, rfl, x, rfl, ?_⟩
    have fin : ∀ (d : Int), 0 ≤ d → d < (src.length : Nat) → ∃ v, v ∈ src ∧ atI src d = some v := fun d h0 h1 => at_in h0 h1
    rcases hs with ⟨l, rfl, nlp, hl⟩ | ⟨z, rfl, rfl⟩
    · refine .inl ⟨l, src, rfl, .inl (SqL.of hl), ?_⟩
      refine ⟨p, c, ns, B, _, rfl, PA0, hB, by omega, by omega, fun d H' d0 d1 PA1 off => ?_⟩
      obtain ⟨v, hv, at1⟩ := fin d d0 d1
      exact .inl ⟨l, src, d, v, rfl, rfl, SqL.of (off l _ nlp hl), at1, q v H' hv PA1 off⟩
    · rw [List.length_map] at n1 n2
      have ez : z.cps.toList.length = z.length := Array.length_toList
      have zs : z.length < sizeLine := small1000 (by omega)
      refine .inr ⟨z, rfl, Nat.le_of_lt zs, ?_⟩
      refine ⟨p, c, ns, B, _, rfl, PA0, hB, by omega, by omega, fun d H' d0 d1 PA1 off => ?_⟩
      have d1' : d < (z.cps.toList.length : Nat) := by rw [ez]; exact d1
      obtain ⟨k, rfl⟩ : ∃ k : Nat, d = (k : Int) := ⟨d.toNat, by omega⟩
      have hk : k < z.cps.toList.length := by omega
      refine .inr (.inr ⟨z, _, z.cps.toList[k], rfl, rfl, Nat.le_of_lt zs, atI_nat (List.getElem?_eq_getElem hk), ?_⟩)
      exact q _ H' (List.mem_map.mpr ⟨_, List.getElem_mem hk, rfl⟩) PA1 off
end
end My
namespace My
open PySem PySem.Spec PyProof.Rows L2
def big59 : Int := (10 : Int) ^ (59 : Int).toNat
/-- the values that are drawn -/
def thD : List PyData := [.none, .int 0, .int 1, .bool true, .bool false, .str "", .str "x", .str "choice", .tuple [], .tuple [.str "a", .int 1], .list [], .list [.int 0], .dict [], oneD, .int big59, .int (-7)]
def fineB (d : PyData) : Bool := d.showable && decide (d.depth ≤ 8) && decide (d.shown.length ≤ 1000)
theorem fine_of {d : PyData} (h : fineB d = true) : Fine d := by
  unfold fineB at h
  simp only [Bool.and_eq_true, decide_eq_true_eq] at h
  exact ⟨h.1.1, h.1.2, Nat.le_trans h.2 (by decide)⟩
theorem all_fine : (thD.all fun d => fineB d && thD.all fun e => fineB (.list [d, e])) = true := by decide +kernel
theorem fine1 {d : PyData} (h : d ∈ thD) : Fine d := by
  have z := List.all_eq_true.mp all_fine d h
  rw [Bool.and_eq_true] at z
  exact fine_of z.1
theorem fine2 {d e : PyData} (h : d ∈ thD) (k : e ∈ thD) : Fine (.list [d, e]) := by
  have z := List.all_eq_true.mp all_fine d h
  rw [Bool.and_eq_true] at z
  exact fine_of (List.all_eq_true.mp z.2 e k)
def spThing : Sp := fun vs H Q _ => ∃ (p c : Addr) (ns : List Int) (B : Int), vs = [.ref p] ∧ PenAt H p c ns B ∧ B ≤ 1000 ∧ ∀ (v : V) (d : PyData) (H' : Hp), d ∈ thD → Tv H' v d → PenAt H' p c ns (B + 1) → Off p H H' → Q v H'
section
variable {P : Program} {w : World} {K : PySem.W.Frag} {mg : Str → Option Value} {base : Heap}
abbrev nThing : List Str := ["_law_pen_here", "_law_some"]
theorem scThing : FnScope nThing ["_law_pen_here"] (defScope sThing) := ⟨rfl, rfl, rfl, by decide +kernel, rfl, by decide +kernel, by decide +kernel⟩
theorem ok_thing {f fP : Addr} {fd fdP : FuncData} (F : Fun K "_law_thing" "_law_thing" sThing f fd) (FP : Fun K "_law_pick" "_law_pick" sPick fP fdP) (bP : Binds K fdP ["_law_pen_here", "_law_some"] []) (gP : mg "_law_pick" = some (.ref fP))
    (G : FnOk P w K mg base CX0 2 fP fdP ["_law_pen_here", "_law_some"] spPick) : FnOk P w K mg base CX0 3 f fd ["_law_pen_here"] spThing := by
  refine F.ok scThing (fun vs H Q E h => ?_) (fun cdv A outer s H vs Q E hr h => ?_)
  · obtain ⟨p, c, ns, B, rfl, _⟩ := h
    rfl
  · obtain ⟨p, c, ns, B, rfl, PA, hB, q⟩ := h
    refine ⟨_, pss_cons (ps_set (i := 1) scThing.nd rfl (.inl rfl) (pe_lst
      (pa_cons pe_non (pa_cons pe_int (pa_cons pe_int (pa_cons pe_bl (pa_cons pe_bl (pa_cons pe_str (pa_cons pe_str (pa_cons pe_str (pa_cons (pe_tup pa_nil) (pa_cons (pe_tup (pa_cons pe_str (pa_cons pe_int pa_nil))) (pa_cons (pe_lst pa_nil) (pa_cons (pe_lst (pa_cons pe_int pa_nil)) (pa_cons pe_dnewK
      (pa_cons (pe_disp (pps_cons pe_str pe_int pps_nil) (by rfl) (by rfl) (fun z => by cases z) (by decide)) (pa_cons (pe_op op_pow pe_int pe_int) (pa_cons (pe_un un_neg pe_int) pa_nil))))))))))))))))))
      (pss_one (ps_ret (pe_call G hr (by rfl) gP FP.kp bP .nil pass0 (pa_cons (pv 0) (pa_cons (pv 1) pa_nil))))), ?_⟩
    refine ⟨Nat.zero_le _, fun t0 h0 => ⟨by show 2 ≤ sizeLine; decide, fun t1 h1 => ⟨Nat.zero_le _, fun l2 h2 => ⟨by show 1 ≤ sizeLine; decide, fun l3 h3 => fun d4 h4 => fun d5 h5 => ?_⟩⟩⟩⟩
    refine ⟨upd_same, [(Sum.inr "x", .int 1)], rfl, by decide, 10, 59, rfl, rfl, ⟨by decide, by decide, by decide⟩, 7, rfl, by show 16 ≤ sizeLine; decide, fun l hl => ?_⟩
    have c6 := same_new (o := .lst [.non, .int 0, .int 1, .bl true, .bl false, .str "", .str "x", .str "choice", .ref t0, .ref t1, .ref l2, .ref l3, .ref d4, .ref d5, .int ((10 : Int) ^ (59 : Int).toNat), .int (-7)]) hl
    have c5 := (same_over h5 (same_new h5)).trans c6
    have c4 := (same_new h4).trans c5
    have c3 := (same_new h3).trans c4
    have c2 := (same_new h2).trans c3
    have c1 := (same_new h1).trans c2
    have c0 := (same_new h0).trans c1
    obtain ⟨b, g, hp, _⟩ := PA.pen
    have n0 : t0 ≠ p := (ne_of_none hp h0).symm
    have p1 := same_new (o := .tup []) h0 _ _ hp
    have n1 : t1 ≠ p := (ne_of_none p1 h1).symm
    have p2 := same_new (o := .tup [.str "a", .int 1]) h1 _ _ p1
    have n2 : l2 ≠ p := (ne_of_none p2 h2).symm
    have p3 := same_new (o := .lst []) h2 _ _ p2
    have n3 : l3 ≠ p := (ne_of_none p3 h3).symm
    have p4 := same_new (o := .lst [.int 0]) h3 _ _ p3
    have n4 : d4 ≠ p := (ne_of_none p4 h4).symm
    have p5 := same_new (o := .dK []) h4 _ _ p4
    have n5 : d5 ≠ p := (ne_of_none p5 h5).symm
    have p6 := same_over (o := .dK (mergeK [] [(Sum.inr (Str.ofString "x"), V.int 1)])) h5 (same_new (o := .dK []) h5) _ _ p5
    have nl : l ≠ p := (ne_of_none p6 hl).symm
    refine ⟨_, rfl, .ref l, rfl, ?_⟩
    refine ⟨p, c, ns, B, .ref l, _, rfl, PA.keep c0, hB, .inl ⟨l, rfl, nl, upd_same⟩, by show 1 ≤ 16; decide, by show 16 ≤ 1000; decide, fun v H' hv PA' off => ?_⟩
    have fin : ∀ (d : PyData), d ∈ thD → Tv H' v d → Q v H' := fun d hd tv => q v d H' hd tv PA' (fun a o n e => off a o n (c0 a o e))
    have flat : ∀ (d : PyData), d ∈ thD → Fl v d → Q v H' := fun d hd f => fin d hd (.th (.flat f))
    simp only [List.mem_cons, List.not_mem_nil, or_false] at hv
    rcases hv with rfl | rfl | rfl | rfl | rfl | rfl | rfl | rfl | rfl | rfl | rfl | rfl | rfl | rfl | rfl | rfl
    · exact flat _ (by simp [thD]) .non
    · exact flat _ (by simp [thD]) (.int 0)
    · exact flat _ (by simp [thD]) (.int 1)
    · exact flat _ (by simp [thD]) (.bl true)
    · exact flat _ (by simp [thD]) (.bl false)
    · exact flat _ (by simp [thD]) (.str "")
    · exact flat _ (by simp [thD]) (.str "x")
    · exact flat _ (by simp [thD]) (.str "choice")
    · exact fin (.tuple []) (by simp [thD]) (.th (.tup (off _ _ n0 (c1 _ _ upd_same)) .nil (by decide)))
    · exact fin (.tuple [.str "a", .int 1]) (by simp [thD]) (.th (.tup (off _ _ n1 (c2 _ _ upd_same)) (.cons (.str _) (.cons (.int _) .nil)) (by decide)))
    · exact fin (.list []) (by simp [thD]) (.th (.lst (off _ _ n2 (c3 _ _ upd_same)) .nil (by decide)))
    · exact fin (.list [.int 0]) (by simp [thD]) (.th (.lst (off _ _ n3 (c4 _ _ upd_same)) (.cons (.int _) .nil) (by decide)))
    · exact fin (.dict []) (by simp [thD]) (.th (.dct (off _ _ n4 (c5 _ _ upd_same))))
    · exact fin oneD (by simp [thD]) (.dc (off _ _ n5 (c6 _ _ upd_same)))
    · exact flat (.int big59) (by simp [thD]) (.int _)
    · exact flat _ (by simp [thD]) (.int (-7))
end
end My
namespace My
open PySem PySem.Spec PyProof.Rows L2
/-- the classes in the order that the law asks them in -/
def eN : Nat → Str
  | 0 => "BadName"
  | 1 => "BadWord"
  | 2 => "BadNumber"
  | 3 => "BadProgram"
  | 4 => "BadStack"
  | 5 => "BadWish"
  | 6 => "BadTalk"
  | 7 => "BadBook"
  | 8 => "Unlike"
  | 9 => "BadDeed"
  | 10 => "BadHandler"
  | 11 => "BadSample"
  | 12 => "NoPlace"
  | 13 => "NoName"
  | 14 => "Taken"
  | 15 => "Unfit"
  | 16 => "BadText"
  | 17 => "BadLine"
  | 18 => "TooMany"
  | _ => "NoChange"
structure Nm (K : PySem.W.Frag) (mg : Str → Option Value) (C : Nat → Addr) : Prop where
  g : ∀ j, j < 20 → mg (eN j) = some (.ref (C j))
  ec : ∀ j, j < 20 → ExcC K (C j)
  xf : ∀ j, j < 20 → XfC K (C j)
  k : ∀ i j, i < 20 → j < 20 → PySem.W.kitOne K (.ref (C i)) (.ref (C j)) = some (decide (i = j))
theorem same_at {H : Hp} {p q : Addr} {o u : HO} (h : H p = none) (e : H q = some u) : upd H p o q = some u := by
  rw [upd_ne (ne_of_none e h)]
  exact e
/-- an error of the class D, as a value -/
structure IsE (K : PySem.W.Frag) (H : Hp) (a D : Addr) : Prop where
  o : ∃ d, H a = some (exo a D d) ∧ ∀ dd, d = some dd → ∃ fs, H dd = some (exd dd fs)
  ec : ExcC K D
theorem IsE.keep {K : PySem.W.Frag} {H H' : Hp} {a D : Addr} (h : IsE K H a D) (k : Same' H H') : IsE K H' a D := by
  obtain ⟨d, h1, h2⟩ := h.o
  refine ⟨⟨d, k _ _ h1, fun dd e => ?_⟩, h.ec⟩
  obtain ⟨fs, z⟩ := h2 dd e
  exact ⟨fs, k _ _ z⟩
abbrev blL (b : Nat → Bool) (n : Nat) : List V := (List.range n).map fun j => .bl (b j)
def spClasses (K : PySem.W.Frag) (C : Nat → Addr) : Sp := fun vs H Q _ => ∃ (a D : Addr) (b : Nat → Bool), vs = [.ref a] ∧ IsE K H a D ∧ (∀ j, j < 20 → PySem.W.kitOne K (.ref D) (.ref (C j)) = some (b j)) ∧
  ∀ (l : Addr) (H' : Hp), Same' H H' → H' l = some (.lst (blL b 20)) → Q (.ref l) H'
section
variable {P : Program} {w : World} {K : PySem.W.Frag} {mg : Str → Option Value} {base : Heap} {C : Nat → Addr}
abbrev nClasses : List Str := ["_law_error", "_law_found"]
theorem scClasses : FnScope nClasses ["_law_error"] (defScope sClasses) := ⟨rfl, rfl, rfl, by decide +kernel, rfl, by decide +kernel, by decide +kernel⟩
theorem ok_classes {f : Addr} {fd : FuncData} (F : Fun K "_law_classes" "_law_classes" sClasses f fd) (T : Txt mg) (N : Nm K mg C) : FnOk P w K mg base CX0 1 f fd ["_law_error"] (spClasses K C) := by
  refine F.ok scClasses (fun vs H Q E h => ?_) (fun cdv A outer s H vs Q E hr h => ?_)
  · obtain ⟨a, D, b, rfl, _⟩ := h
    rfl
  · obtain ⟨a, D, b, rfl, ise, kb, q⟩ := h
    refine ⟨_, (pss_cons (ps_set (i := 1) scClasses.nd rfl (.inl rfl) (pe_lst (pa_cons (pe_callB call_exoIs (by rfl) T.isi (by decide +kernel) (pa_cons (pv 0) (pa_cons (pe_glob (v := .ref (C 0)) rfl (N.g 0 (by decide)) rfl) pa_nil))) (pa_cons (pe_callB call_exoIs (by rfl) T.isi (by decide +kernel) (pa_cons (pv 0) (pa_cons (pe_glob (v := .ref (C 1)) rfl (N.g 1 (by decide)) rfl) pa_nil))) (pa_cons (pe_callB call_exoIs (by rfl) T.isi (by decide +kernel) (pa_cons (pv 0) (pa_cons (pe_glob (v := .ref (C 2)) rfl (N.g 2 (by decide)) rfl) pa_nil))) pa_nil)))))
      (pss_cons (ps_set (i := 1) scClasses.nd rfl (.inl rfl) (pe_op op_cat (pv 1) (pe_lst (pa_cons (pe_callB call_exoIs (by rfl) T.isi (by decide +kernel) (pa_cons (pv 0) (pa_cons (pe_glob (v := .ref (C 3)) rfl (N.g 3 (by decide)) rfl) pa_nil))) (pa_cons (pe_callB call_exoIs (by rfl) T.isi (by decide +kernel) (pa_cons (pv 0) (pa_cons (pe_glob (v := .ref (C 4)) rfl (N.g 4 (by decide)) rfl) pa_nil))) (pa_cons (pe_callB call_exoIs (by rfl) T.isi (by decide +kernel) (pa_cons (pv 0) (pa_cons (pe_glob (v := .ref (C 5)) rfl (N.g 5 (by decide)) rfl) pa_nil))) pa_nil))))))
      (pss_cons (ps_set (i := 1) scClasses.nd rfl (.inl rfl) (pe_op op_cat (pv 1) (pe_lst (pa_cons (pe_callB call_exoIs (by rfl) T.isi (by decide +kernel) (pa_cons (pv 0) (pa_cons (pe_glob (v := .ref (C 6)) rfl (N.g 6 (by decide)) rfl) pa_nil))) (pa_cons (pe_callB call_exoIs (by rfl) T.isi (by decide +kernel) (pa_cons (pv 0) (pa_cons (pe_glob (v := .ref (C 7)) rfl (N.g 7 (by decide)) rfl) pa_nil))) (pa_cons (pe_callB call_exoIs (by rfl) T.isi (by decide +kernel) (pa_cons (pv 0) (pa_cons (pe_glob (v := .ref (C 8)) rfl (N.g 8 (by decide)) rfl) pa_nil))) pa_nil))))))
      (pss_cons (ps_set (i := 1) scClasses.nd rfl (.inl rfl) (pe_op op_cat (pv 1) (pe_lst (pa_cons (pe_callB call_exoIs (by rfl) T.isi (by decide +kernel) (pa_cons (pv 0) (pa_cons (pe_glob (v := .ref (C 9)) rfl (N.g 9 (by decide)) rfl) pa_nil))) (pa_cons (pe_callB call_exoIs (by rfl) T.isi (by decide +kernel) (pa_cons (pv 0) (pa_cons (pe_glob (v := .ref (C 10)) rfl (N.g 10 (by decide)) rfl) pa_nil))) (pa_cons (pe_callB call_exoIs (by rfl) T.isi (by decide +kernel) (pa_cons (pv 0) (pa_cons (pe_glob (v := .ref (C 11)) rfl (N.g 11 (by decide)) rfl) pa_nil))) pa_nil))))))
      (pss_cons (ps_set (i := 1) scClasses.nd rfl (.inl rfl) (pe_op op_cat (pv 1) (pe_lst (pa_cons (pe_callB call_exoIs (by rfl) T.isi (by decide +kernel) (pa_cons (pv 0) (pa_cons (pe_glob (v := .ref (C 12)) rfl (N.g 12 (by decide)) rfl) pa_nil))) (pa_cons (pe_callB call_exoIs (by rfl) T.isi (by decide +kernel) (pa_cons (pv 0) (pa_cons (pe_glob (v := .ref (C 13)) rfl (N.g 13 (by decide)) rfl) pa_nil))) (pa_cons (pe_callB call_exoIs (by rfl) T.isi (by decide +kernel) (pa_cons (pv 0) (pa_cons (pe_glob (v := .ref (C 14)) rfl (N.g 14 (by decide)) rfl) pa_nil))) pa_nil))))))
      (pss_cons (ps_set (i := 1) scClasses.nd rfl (.inl rfl) (pe_op op_cat (pv 1) (pe_lst (pa_cons (pe_callB call_exoIs (by rfl) T.isi (by decide +kernel) (pa_cons (pv 0) (pa_cons (pe_glob (v := .ref (C 15)) rfl (N.g 15 (by decide)) rfl) pa_nil))) (pa_cons (pe_callB call_exoIs (by rfl) T.isi (by decide +kernel) (pa_cons (pv 0) (pa_cons (pe_glob (v := .ref (C 16)) rfl (N.g 16 (by decide)) rfl) pa_nil))) (pa_cons (pe_callB call_exoIs (by rfl) T.isi (by decide +kernel) (pa_cons (pv 0) (pa_cons (pe_glob (v := .ref (C 17)) rfl (N.g 17 (by decide)) rfl) pa_nil))) pa_nil))))))
      (pss_one (ps_ret (pe_op op_cat (pv 1) (pe_lst (pa_cons (pe_callB call_exoIs (by rfl) T.isi (by decide +kernel) (pa_cons (pv 0) (pa_cons (pe_glob (v := .ref (C 18)) rfl (N.g 18 (by decide)) rfl) pa_nil))) (pa_cons (pe_callB call_exoIs (by rfl) T.isi (by decide +kernel) (pa_cons (pv 0) (pa_cons (pe_glob (v := .ref (C 19)) rfl (N.g 19 (by decide)) rfl) pa_nil))) pa_nil)))))))))))), ?_⟩
    obtain ⟨d, ha0, hd0⟩ := ise.o
    refine ⟨.ref a, rfl, a, D, d, .ref (C 0), .ref (C 0), b 0, rfl, .own _, ha0, hd0, ise.ec, kb 0 (by decide), ⟨.ref a, rfl, a, D, d, .ref (C 1), .ref (C 1), b 1, rfl, .own _, ha0, hd0, ise.ec, kb 1 (by decide), ⟨.ref a, rfl, a, D, d, .ref (C 2), .ref (C 2), b 2, rfl, .own _, ha0, hd0, ise.ec, kb 2 (by decide), ⟨by show 3 ≤ sizeLine; decide, fun l0 h0 => ?_⟩⟩⟩⟩
    obtain ⟨H1, e1⟩ : ∃ H1, upd H l0 (.lst [V.bl (b 0), .bl (b 1), .bl (b 2)]) = H1 := ⟨_, rfl⟩
    have sm1 : Same' H H1 := fun b o z => e1 ▸ same_new h0 b o z
    have at1 : H1 l0 = some (.lst [V.bl (b 0), .bl (b 1), .bl (b 2)]) := by rw [← e1, upd_same]
    rw [e1]
    clear e1
    have ha1 := sm1 _ _ ha0
    have hd1 : ∀ dd, d = some dd → ∃ fs, H1 dd = some (exd dd fs) := fun dd z => (hd0 dd z).imp fun _ y => sm1 _ _ y
    refine ⟨.ref l0, rfl, ⟨.ref a, rfl, a, D, d, .ref (C 3), .ref (C 3), b 3, rfl, .own _, ha1, hd1, ise.ec, kb 3 (by decide), ⟨.ref a, rfl, a, D, d, .ref (C 4), .ref (C 4), b 4, rfl, .own _, ha1, hd1, ise.ec, kb 4 (by decide), ⟨.ref a, rfl, a, D, d, .ref (C 5), .ref (C 5), b 5, rfl, .own _, ha1, hd1, ise.ec, kb 5 (by decide), ⟨by show 3 ≤ sizeLine; decide, fun m hm => ⟨l0, m, [V.bl (b 0), V.bl (b 1), V.bl (b 2)], [V.bl (b 3), V.bl (b 4), V.bl (b 5)], rfl, rfl, same_at hm at1, upd_same, by show 6 ≤ sizeLine; decide, fun l1 h1 => ?_⟩⟩⟩⟩⟩⟩
    obtain ⟨H2, e2⟩ : ∃ H2, upd (upd H1 m (.lst [V.bl (b 3), V.bl (b 4), V.bl (b 5)])) l1 (.lst ([V.bl (b 0), V.bl (b 1), V.bl (b 2)] ++ [V.bl (b 3), V.bl (b 4), V.bl (b 5)])) = H2 := ⟨_, rfl⟩
    have sm2 : Same' H H2 := sm1.trans fun b o z => e2 ▸ same_at h1 (same_at hm z)
    have at2 : H2 l1 = some (.lst [V.bl (b 0), V.bl (b 1), V.bl (b 2), V.bl (b 3), V.bl (b 4), V.bl (b 5)]) := by rw [← e2, upd_same]; rfl
    rw [e2]
    clear e2
    have ha2 := sm2 _ _ ha0
    have hd2 : ∀ dd, d = some dd → ∃ fs, H2 dd = some (exd dd fs) := fun dd z => (hd0 dd z).imp fun _ y => sm2 _ _ y
    refine ⟨.ref l1, rfl, ⟨.ref a, rfl, a, D, d, .ref (C 6), .ref (C 6), b 6, rfl, .own _, ha2, hd2, ise.ec, kb 6 (by decide), ⟨.ref a, rfl, a, D, d, .ref (C 7), .ref (C 7), b 7, rfl, .own _, ha2, hd2, ise.ec, kb 7 (by decide), ⟨.ref a, rfl, a, D, d, .ref (C 8), .ref (C 8), b 8, rfl, .own _, ha2, hd2, ise.ec, kb 8 (by decide), ⟨by show 3 ≤ sizeLine; decide, fun m hm => ⟨l1, m, [V.bl (b 0), V.bl (b 1), V.bl (b 2), V.bl (b 3), V.bl (b 4), V.bl (b 5)], [V.bl (b 6), V.bl (b 7), V.bl (b 8)], rfl, rfl, same_at hm at2, upd_same, by show 9 ≤ sizeLine; decide, fun l2 h2 => ?_⟩⟩⟩⟩⟩⟩
    obtain ⟨H3, e3⟩ : ∃ H3, upd (upd H2 m (.lst [V.bl (b 6), V.bl (b 7), V.bl (b 8)])) l2 (.lst ([V.bl (b 0), V.bl (b 1), V.bl (b 2), V.bl (b 3), V.bl (b 4), V.bl (b 5)] ++ [V.bl (b 6), V.bl (b 7), V.bl (b 8)])) = H3 := ⟨_, rfl⟩
    have sm3 : Same' H H3 := sm2.trans fun b o z => e3 ▸ same_at h2 (same_at hm z)
    have at3 : H3 l2 = some (.lst [V.bl (b 0), V.bl (b 1), V.bl (b 2), V.bl (b 3), V.bl (b 4), V.bl (b 5), V.bl (b 6), V.bl (b 7), V.bl (b 8)]) := by rw [← e3, upd_same]; rfl
    rw [e3]
    clear e3
    have ha3 := sm3 _ _ ha0
    have hd3 : ∀ dd, d = some dd → ∃ fs, H3 dd = some (exd dd fs) := fun dd z => (hd0 dd z).imp fun _ y => sm3 _ _ y
    refine ⟨.ref l2, rfl, ⟨.ref a, rfl, a, D, d, .ref (C 9), .ref (C 9), b 9, rfl, .own _, ha3, hd3, ise.ec, kb 9 (by decide), ⟨.ref a, rfl, a, D, d, .ref (C 10), .ref (C 10), b 10, rfl, .own _, ha3, hd3, ise.ec, kb 10 (by decide), ⟨.ref a, rfl, a, D, d, .ref (C 11), .ref (C 11), b 11, rfl, .own _, ha3, hd3, ise.ec, kb 11 (by decide), ⟨by show 3 ≤ sizeLine; decide, fun m hm => ⟨l2, m, [V.bl (b 0), V.bl (b 1), V.bl (b 2), V.bl (b 3), V.bl (b 4), V.bl (b 5), V.bl (b 6), V.bl (b 7), V.bl (b 8)], [V.bl (b 9), V.bl (b 10), V.bl (b 11)], rfl, rfl, same_at hm at3, upd_same, by show 12 ≤ sizeLine; decide, fun l3 h3 => ?_⟩⟩⟩⟩⟩⟩
    obtain ⟨H4, e4⟩ : ∃ H4, upd (upd H3 m (.lst [V.bl (b 9), V.bl (b 10), V.bl (b 11)])) l3 (.lst ([V.bl (b 0), V.bl (b 1), V.bl (b 2), V.bl (b 3), V.bl (b 4), V.bl (b 5), V.bl (b 6), V.bl (b 7), V.bl (b 8)] ++ [V.bl (b 9), V.bl (b 10), V.bl (b 11)])) = H4 := ⟨_, rfl⟩
    have sm4 : Same' H H4 := sm3.trans fun b o z => e4 ▸ same_at h3 (same_at hm z)
    have at4 : H4 l3 = some (.lst [V.bl (b 0), V.bl (b 1), V.bl (b 2), V.bl (b 3), V.bl (b 4), V.bl (b 5), V.bl (b 6), V.bl (b 7), V.bl (b 8), V.bl (b 9), V.bl (b 10), V.bl (b 11)]) := by rw [← e4, upd_same]; rfl
    rw [e4]
    clear e4
    have ha4 := sm4 _ _ ha0
    have hd4 : ∀ dd, d = some dd → ∃ fs, H4 dd = some (exd dd fs) := fun dd z => (hd0 dd z).imp fun _ y => sm4 _ _ y
    refine ⟨.ref l3, rfl, ⟨.ref a, rfl, a, D, d, .ref (C 12), .ref (C 12), b 12, rfl, .own _, ha4, hd4, ise.ec, kb 12 (by decide), ⟨.ref a, rfl, a, D, d, .ref (C 13), .ref (C 13), b 13, rfl, .own _, ha4, hd4, ise.ec, kb 13 (by decide), ⟨.ref a, rfl, a, D, d, .ref (C 14), .ref (C 14), b 14, rfl, .own _, ha4, hd4, ise.ec, kb 14 (by decide), ⟨by show 3 ≤ sizeLine; decide, fun m hm => ⟨l3, m, [V.bl (b 0), V.bl (b 1), V.bl (b 2), V.bl (b 3), V.bl (b 4), V.bl (b 5), V.bl (b 6), V.bl (b 7), V.bl (b 8), V.bl (b 9), V.bl (b 10), V.bl (b 11)], [V.bl (b 12), V.bl (b 13), V.bl (b 14)], rfl, rfl, same_at hm at4, upd_same, by show 15 ≤ sizeLine; decide, fun l4 h4 => ?_⟩⟩⟩⟩⟩⟩
    obtain ⟨H5, e5⟩ : ∃ H5, upd (upd H4 m (.lst [V.bl (b 12), V.bl (b 13), V.bl (b 14)])) l4 (.lst ([V.bl (b 0), V.bl (b 1), V.bl (b 2), V.bl (b 3), V.bl (b 4), V.bl (b 5), V.bl (b 6), V.bl (b 7), V.bl (b 8), V.bl (b 9), V.bl (b 10), V.bl (b 11)] ++ [V.bl (b 12), V.bl (b 13), V.bl (b 14)])) = H5 := ⟨_, rfl⟩
    have sm5 : Same' H H5 := sm4.trans fun b o z => e5 ▸ same_at h4 (same_at hm z)
    have at5 : H5 l4 = some (.lst [V.bl (b 0), V.bl (b 1), V.bl (b 2), V.bl (b 3), V.bl (b 4), V.bl (b 5), V.bl (b 6), V.bl (b 7), V.bl (b 8), V.bl (b 9), V.bl (b 10), V.bl (b 11), V.bl (b 12), V.bl (b 13), V.bl (b 14)]) := by rw [← e5, upd_same]; rfl
    rw [e5]
    clear e5
    have ha5 := sm5 _ _ ha0
    have hd5 : ∀ dd, d = some dd → ∃ fs, H5 dd = some (exd dd fs) := fun dd z => (hd0 dd z).imp fun _ y => sm5 _ _ y
    refine ⟨.ref l4, rfl, ⟨.ref a, rfl, a, D, d, .ref (C 15), .ref (C 15), b 15, rfl, .own _, ha5, hd5, ise.ec, kb 15 (by decide), ⟨.ref a, rfl, a, D, d, .ref (C 16), .ref (C 16), b 16, rfl, .own _, ha5, hd5, ise.ec, kb 16 (by decide), ⟨.ref a, rfl, a, D, d, .ref (C 17), .ref (C 17), b 17, rfl, .own _, ha5, hd5, ise.ec, kb 17 (by decide), ⟨by show 3 ≤ sizeLine; decide, fun m hm => ⟨l4, m, [V.bl (b 0), V.bl (b 1), V.bl (b 2), V.bl (b 3), V.bl (b 4), V.bl (b 5), V.bl (b 6), V.bl (b 7), V.bl (b 8), V.bl (b 9), V.bl (b 10), V.bl (b 11), V.bl (b 12), V.bl (b 13), V.bl (b 14)], [V.bl (b 15), V.bl (b 16), V.bl (b 17)], rfl, rfl, same_at hm at5, upd_same, by show 18 ≤ sizeLine; decide, fun l5 h5 => ?_⟩⟩⟩⟩⟩⟩
    obtain ⟨H6, e6⟩ : ∃ H6, upd (upd H5 m (.lst [V.bl (b 15), V.bl (b 16), V.bl (b 17)])) l5 (.lst ([V.bl (b 0), V.bl (b 1), V.bl (b 2), V.bl (b 3), V.bl (b 4), V.bl (b 5), V.bl (b 6), V.bl (b 7), V.bl (b 8), V.bl (b 9), V.bl (b 10), V.bl (b 11), V.bl (b 12), V.bl (b 13), V.bl (b 14)] ++ [V.bl (b 15), V.bl (b 16), V.bl (b 17)])) = H6 := ⟨_, rfl⟩
    have sm6 : Same' H H6 := sm5.trans fun b o z => e6 ▸ same_at h5 (same_at hm z)
    have at6 : H6 l5 = some (.lst [V.bl (b 0), V.bl (b 1), V.bl (b 2), V.bl (b 3), V.bl (b 4), V.bl (b 5), V.bl (b 6), V.bl (b 7), V.bl (b 8), V.bl (b 9), V.bl (b 10), V.bl (b 11), V.bl (b 12), V.bl (b 13), V.bl (b 14), V.bl (b 15), V.bl (b 16), V.bl (b 17)]) := by rw [← e6, upd_same]; rfl
    rw [e6]
    clear e6
    have ha6 := sm6 _ _ ha0
    have hd6 : ∀ dd, d = some dd → ∃ fs, H6 dd = some (exd dd fs) := fun dd z => (hd0 dd z).imp fun _ y => sm6 _ _ y
    refine ⟨.ref l5, rfl, ⟨.ref a, rfl, a, D, d, .ref (C 18), .ref (C 18), b 18, rfl, .own _, ha6, hd6, ise.ec, kb 18 (by decide), ⟨.ref a, rfl, a, D, d, .ref (C 19), .ref (C 19), b 19, rfl, .own _, ha6, hd6, ise.ec, kb 19 (by decide), ⟨by show 2 ≤ sizeLine; decide, fun m hm => ⟨l5, m, [V.bl (b 0), V.bl (b 1), V.bl (b 2), V.bl (b 3), V.bl (b 4), V.bl (b 5), V.bl (b 6), V.bl (b 7), V.bl (b 8), V.bl (b 9), V.bl (b 10), V.bl (b 11), V.bl (b 12), V.bl (b 13), V.bl (b 14), V.bl (b 15), V.bl (b 16), V.bl (b 17)], [V.bl (b 18), V.bl (b 19)], rfl, rfl, same_at hm at6, upd_same, by show 20 ≤ sizeLine; decide, fun l6 h6 => ?_⟩⟩⟩⟩⟩
    obtain ⟨H7, e7⟩ : ∃ H7, upd (upd H6 m (.lst [V.bl (b 18), V.bl (b 19)])) l6 (.lst ([V.bl (b 0), V.bl (b 1), V.bl (b 2), V.bl (b 3), V.bl (b 4), V.bl (b 5), V.bl (b 6), V.bl (b 7), V.bl (b 8), V.bl (b 9), V.bl (b 10), V.bl (b 11), V.bl (b 12), V.bl (b 13), V.bl (b 14), V.bl (b 15), V.bl (b 16), V.bl (b 17)] ++ [V.bl (b 18), V.bl (b 19)])) = H7 := ⟨_, rfl⟩
    have sm7 : Same' H H7 := sm6.trans fun b o z => e7 ▸ same_at h6 (same_at hm z)
    have at7 : H7 l6 = some (.lst [V.bl (b 0), V.bl (b 1), V.bl (b 2), V.bl (b 3), V.bl (b 4), V.bl (b 5), V.bl (b 6), V.bl (b 7), V.bl (b 8), V.bl (b 9), V.bl (b 10), V.bl (b 11), V.bl (b 12), V.bl (b 13), V.bl (b 14), V.bl (b 15), V.bl (b 16), V.bl (b 17), V.bl (b 18), V.bl (b 19)]) := by rw [← e7, upd_same]; rfl
    rw [e7]
    clear e7
    exact q l6 H7 sm7 at7
end
end My
namespace My
open PySem PySem.Spec PyProof.Rows L2
abbrev idG {α : Type} (us : List α) : List α := us
/-- an error class with one field -/
structure Cl (P : Program) (w : World) (K : PySem.W.Frag) (mg : Str → Option Value) (base : Heap) (C fI : Nat → Addr) (fd : Nat → FuncData) (j : Nat) (f : Str) : Prop where
  ec : EC K (C j) (fI j)
  ok : FnOk P w K mg base CX0 3 (fI j) (fd j) ["self", f] (spI1 (C j) f)
  b : Binds K (fd j) ["self", f] []
  kb : KB K (fd j) ["self", f] [f] idG idG
abbrev revG {α : Type} (us : List α) : List α := us.reverse
/-- .. with two; its keywords turned about -/
structure Cl2 (P : Program) (w : World) (K : PySem.W.Frag) (mg : Str → Option Value) (base : Heap) (C fI : Nat → Addr) (fd : Nat → FuncData) (j : Nat) (f g : Str) : Prop where
  ec : EC K (C j) (fI j)
  ok : FnOk P w K mg base CX0 3 (fI j) (fd j) ["self", f, g] (spI2 (C j) f g)
  b : Binds K (fd j) ["self", f, g] []
  kb : KB K (fd j) ["self", f, g] [g, f] revG revG
abbrev ErL (C : Nat → Addr) (f : Str) (d : PyData) (H : Hp) : List V → List Nat → Prop := Paired fun v j => Er H v (C j) f d
theorem erl_keep {C : Nat → Addr} {f : Str} {d : PyData} {H H' : Hp} (k : Same' H H') : ∀ {xs : List V} {js : List Nat}, ErL C f d H xs js → ErL C f d H' xs js
  | _, _, .nil => .nil
  | _, _, .cons h r => .cons (h.keep k) (erl_keep k r)
def spErrs (C : Nat → Addr) (f : Str) (js : List Nat) : Sp := fun vs H Q _ => ∃ (x : V) (d : PyData), vs = [x] ∧ Tv H x d ∧ ∀ (l : Addr) (xs : List V) (H' : Hp), Same' H H' → H' l = some (.lst xs) → ErL C f d H' xs js → Q (.ref l) H'
theorem rd_pos {i : Nat} {C : Addr} {f : Str} {σ : L2.St} {x : V} {d : PyData} {H : Hp} {Q : VK} (hx : σ[i]? = some (some x)) (tv : Tv H x d) (q : ∀ v H', Same' H H' → Er H' v C f d → Q v H') : tMkE C (spI1 C f) (tCons (tVar i) tNil) σ H Q :=
  ⟨x, hx, (by show 1 ≤ 1000; decide), show asE (spI1 C f) C [x] H Q from as1 tv q⟩
theorem rd_kw {i : Nat} {C : Addr} {f : Str} {σ : L2.St} {x : V} {d : PyData} {H : Hp} {Q : VK} (hx : σ[i]? = some (some x)) (tv : Tv H x d) (q : ∀ v H', Same' H H' → Er H' v C f d → Q v H') : tMkEk C (spI1 C f) idG (tCons (tVar i) tNil) σ H Q :=
  ⟨x, hx, show asE (spI1 C f) C [x] H Q from as1 tv q⟩
section
variable {P : Program} {w : World} {K : PySem.W.Frag} {mg : Str → Option Value} {base : Heap} {C fI : Nat → Addr} {fd : Nat → FuncData}
abbrev nValued : List Str := ["_law_one", "_law_found"]
theorem scValued : FnScope nValued ["_law_one"] (defScope sValued) := ⟨rfl, rfl, rfl, by decide +kernel, rfl, by decide +kernel, by decide +kernel⟩
theorem ok_valued {f : Addr} {fd0 : FuncData} (F : Fun K "_law_valued" "_law_valued" sValued f fd0) (N : Nm K mg C) (c0 : Cl P w K mg base C fI fd 0 "value") (c1 : Cl P w K mg base C fI fd 1 "value") (c2 : Cl P w K mg base C fI fd 2 "value") : FnOk P w K mg base CX0 5 f fd0 ["_law_one"] (spErrs C "value" [0, 0, 1, 1, 2, 2]) := by
  refine F.ok scValued (fun vs H Q E h => ?_) (fun cdv A outer s H vs Q E hr h => ?_)
  · obtain ⟨x, d, rfl, _⟩ := h
    rfl
  · obtain ⟨x, d, rfl, tv, q⟩ := h
    refine ⟨_, pss_cons (ps_set (i := 1) scValued.nd rfl (.inl rfl) (pe_lst (pa_cons (pe_mkE (x := eN 0) c0.ec c0.ok hr pass0 c0.b (by rfl) (N.g 0 (by decide)) (pa_cons (pv 0) pa_nil)) (pa_cons (pe_mkEk (x := eN 0) c0.ec c0.ok hr pass0 c0.kb (by rfl) (N.g 0 (by decide)) (pk_cons (pv 0) pk_nil)) (pa_cons (pe_mkE (x := eN 1) c1.ec c1.ok hr pass0 c1.b (by rfl) (N.g 1 (by decide)) (pa_cons (pv 0) pa_nil)) (pa_cons (pe_mkEk (x := eN 1) c1.ec c1.ok hr pass0 c1.kb (by rfl) (N.g 1 (by decide)) (pk_cons (pv 0) pk_nil)) pa_nil))))))
      (pss_one (ps_ret (pe_op op_cat (pv 1) (pe_lst (pa_cons (pe_mkE (x := eN 2) c2.ec c2.ok hr pass0 c2.b (by rfl) (N.g 2 (by decide)) (pa_cons (pv 0) pa_nil)) (pa_cons (pe_mkEk (x := eN 2) c2.ec c2.ok hr pass0 c2.kb (by rfl) (N.g 2 (by decide)) (pk_cons (pv 0) pk_nil)) pa_nil)))))), ?_⟩
    have s0 : Same' H H := fun _ _ z => z
    refine rd_pos rfl (tv.keep s0) fun v1 H1 m1 r1 => ?_
    have s1 := s0.trans m1
    refine rd_kw rfl (tv.keep s1) fun v2 H2 m2 r2 => ?_
    have s2 := s1.trans m2
    refine rd_pos rfl (tv.keep s2) fun v3 H3 m3 r3 => ?_
    have s3 := s2.trans m3
    refine rd_kw rfl (tv.keep s3) fun v4 H4 m4 r4 => ?_
    have s4 := s3.trans m4
    refine ⟨by show 4 ≤ sizeLine; decide, fun l hl => ?_⟩
    have ml := same_new (o := .lst [v1, v2, v3, v4]) hl
    have sl := s4.trans ml
    obtain ⟨HL, eL⟩ : ∃ HL, upd H4 l (.lst [v1, v2, v3, v4]) = HL := ⟨_, rfl⟩
    have al : HL l = some (.lst [v1, v2, v3, v4]) := by rw [← eL, upd_same]
    rw [eL] at ml sl ⊢
    clear eL
    refine ⟨.ref l, rfl, ?_⟩
    refine rd_pos rfl (tv.keep sl) fun v5 H5 m5 r5 => ?_
    have s5 := sl.trans m5
    refine rd_kw rfl (tv.keep s5) fun v6 H6 m6 r6 => ?_
    have s6 := s5.trans m6
    have fromL := (m5).trans m6
    refine ⟨by show 2 ≤ sizeLine; decide, fun m hm => ⟨l, m, [v1, v2, v3, v4], [v5, v6], rfl, rfl, same_at hm (fromL _ _ al), upd_same, by show 6 ≤ sizeLine; decide, fun p hp => ?_⟩⟩
    have w6 := (same_new (o := .lst [v5, v6]) hm).trans (same_new (o := .lst ([v1, v2, v3, v4] ++ [v5, v6])) hp)
    have w5 := m6.trans w6
    have wL := m5.trans w5
    have w4 := ml.trans wL
    have w3 := m4.trans w4
    have w2 := m3.trans w3
    have w1 := m2.trans w2
    refine q p _ _ (s6.trans w6) upd_same ?_
    exact (.cons (r1.keep w1) (.cons (r2.keep w2) (.cons (r3.keep w3) (.cons (r4.keep w4) (.cons (r5.keep w5) (.cons (r6.keep w6) .nil))))))
abbrev nParted : List Str := ["_law_one", "_law_found"]
theorem scParted : FnScope nParted ["_law_one"] (defScope sParted) := ⟨rfl, rfl, rfl, by decide +kernel, rfl, by decide +kernel, by decide +kernel⟩
theorem ok_parted {f : Addr} {fd0 : FuncData} (F : Fun K "_law_parted" "_law_parted" sParted f fd0) (N : Nm K mg C) (c3 : Cl P w K mg base C fI fd 3 "part") (c4 : Cl P w K mg base C fI fd 4 "part") (c5 : Cl P w K mg base C fI fd 5 "part") (c6 : Cl P w K mg base C fI fd 6 "part") (c7 : Cl P w K mg base C fI fd 7 "part") (c8 : Cl P w K mg base C fI fd 8 "part") : FnOk P w K mg base CX0 5 f fd0 ["_law_one"] (spErrs C "part" [3, 3, 4, 4, 5, 5, 6, 6, 7, 7, 8, 8]) := by
  refine F.ok scParted (fun vs H Q E h => ?_) (fun cdv A outer s H vs Q E hr h => ?_)
  · obtain ⟨x, d, rfl, _⟩ := h
    rfl
  · obtain ⟨x, d, rfl, tv, q⟩ := h
    refine ⟨_, pss_cons (ps_set (i := 1) scParted.nd rfl (.inl rfl) (pe_lst (pa_cons (pe_mkE (x := eN 3) c3.ec c3.ok hr pass0 c3.b (by rfl) (N.g 3 (by decide)) (pa_cons (pv 0) pa_nil)) (pa_cons (pe_mkEk (x := eN 3) c3.ec c3.ok hr pass0 c3.kb (by rfl) (N.g 3 (by decide)) (pk_cons (pv 0) pk_nil)) (pa_cons (pe_mkE (x := eN 4) c4.ec c4.ok hr pass0 c4.b (by rfl) (N.g 4 (by decide)) (pa_cons (pv 0) pa_nil)) (pa_cons (pe_mkEk (x := eN 4) c4.ec c4.ok hr pass0 c4.kb (by rfl) (N.g 4 (by decide)) (pk_cons (pv 0) pk_nil)) (pa_cons (pe_mkE (x := eN 5) c5.ec c5.ok hr pass0 c5.b (by rfl) (N.g 5 (by decide)) (pa_cons (pv 0) pa_nil)) (pa_cons (pe_mkEk (x := eN 5) c5.ec c5.ok hr pass0 c5.kb (by rfl) (N.g 5 (by decide)) (pk_cons (pv 0) pk_nil)) pa_nil))))))))
      (pss_one (ps_ret (pe_op op_cat (pv 1) (pe_lst (pa_cons (pe_mkE (x := eN 6) c6.ec c6.ok hr pass0 c6.b (by rfl) (N.g 6 (by decide)) (pa_cons (pv 0) pa_nil)) (pa_cons (pe_mkEk (x := eN 6) c6.ec c6.ok hr pass0 c6.kb (by rfl) (N.g 6 (by decide)) (pk_cons (pv 0) pk_nil)) (pa_cons (pe_mkE (x := eN 7) c7.ec c7.ok hr pass0 c7.b (by rfl) (N.g 7 (by decide)) (pa_cons (pv 0) pa_nil)) (pa_cons (pe_mkEk (x := eN 7) c7.ec c7.ok hr pass0 c7.kb (by rfl) (N.g 7 (by decide)) (pk_cons (pv 0) pk_nil)) (pa_cons (pe_mkE (x := eN 8) c8.ec c8.ok hr pass0 c8.b (by rfl) (N.g 8 (by decide)) (pa_cons (pv 0) pa_nil)) (pa_cons (pe_mkEk (x := eN 8) c8.ec c8.ok hr pass0 c8.kb (by rfl) (N.g 8 (by decide)) (pk_cons (pv 0) pk_nil)) pa_nil)))))))))), ?_⟩
    have s0 : Same' H H := fun _ _ z => z
    refine rd_pos rfl (tv.keep s0) fun v1 H1 m1 r1 => ?_
    have s1 := s0.trans m1
    refine rd_kw rfl (tv.keep s1) fun v2 H2 m2 r2 => ?_
    have s2 := s1.trans m2
    refine rd_pos rfl (tv.keep s2) fun v3 H3 m3 r3 => ?_
    have s3 := s2.trans m3
    refine rd_kw rfl (tv.keep s3) fun v4 H4 m4 r4 => ?_
    have s4 := s3.trans m4
    refine rd_pos rfl (tv.keep s4) fun v5 H5 m5 r5 => ?_
    have s5 := s4.trans m5
    refine rd_kw rfl (tv.keep s5) fun v6 H6 m6 r6 => ?_
    have s6 := s5.trans m6
    refine ⟨by show 6 ≤ sizeLine; decide, fun l hl => ?_⟩
    have ml := same_new (o := .lst [v1, v2, v3, v4, v5, v6]) hl
    have sl := s6.trans ml
    obtain ⟨HL, eL⟩ : ∃ HL, upd H6 l (.lst [v1, v2, v3, v4, v5, v6]) = HL := ⟨_, rfl⟩
    have al : HL l = some (.lst [v1, v2, v3, v4, v5, v6]) := by rw [← eL, upd_same]
    rw [eL] at ml sl ⊢
    clear eL
    refine ⟨.ref l, rfl, ?_⟩
    refine rd_pos rfl (tv.keep sl) fun v7 H7 m7 r7 => ?_
    have s7 := sl.trans m7
    refine rd_kw rfl (tv.keep s7) fun v8 H8 m8 r8 => ?_
    have s8 := s7.trans m8
    refine rd_pos rfl (tv.keep s8) fun v9 H9 m9 r9 => ?_
    have s9 := s8.trans m9
    refine rd_kw rfl (tv.keep s9) fun v10 H10 m10 r10 => ?_
    have s10 := s9.trans m10
    refine rd_pos rfl (tv.keep s10) fun v11 H11 m11 r11 => ?_
    have s11 := s10.trans m11
    refine rd_kw rfl (tv.keep s11) fun v12 H12 m12 r12 => ?_
    have s12 := s11.trans m12
    have fromL := (((((m7).trans m8).trans m9).trans m10).trans m11).trans m12
    refine ⟨by show 6 ≤ sizeLine; decide, fun m hm => ⟨l, m, [v1, v2, v3, v4, v5, v6], [v7, v8, v9, v10, v11, v12], rfl, rfl, same_at hm (fromL _ _ al), upd_same, by show 12 ≤ sizeLine; decide, fun p hp => ?_⟩⟩
    have w12 := (same_new (o := .lst [v7, v8, v9, v10, v11, v12]) hm).trans (same_new (o := .lst ([v1, v2, v3, v4, v5, v6] ++ [v7, v8, v9, v10, v11, v12])) hp)
    have w11 := m12.trans w12
    have w10 := m11.trans w11
    have w9 := m10.trans w10
    have w8 := m9.trans w9
    have w7 := m8.trans w8
    have wL := m7.trans w7
    have w6 := ml.trans wL
    have w5 := m6.trans w6
    have w4 := m5.trans w5
    have w3 := m4.trans w4
    have w2 := m3.trans w3
    have w1 := m2.trans w2
    refine q p _ _ (s12.trans w12) upd_same ?_
    exact (.cons (r1.keep w1) (.cons (r2.keep w2) (.cons (r3.keep w3) (.cons (r4.keep w4) (.cons (r5.keep w5) (.cons (r6.keep w6) (.cons (r7.keep w7) (.cons (r8.keep w8) (.cons (r9.keep w9) (.cons (r10.keep w10) (.cons (r11.keep w11) (.cons (r12.keep w12) .nil))))))))))))
abbrev nPlaced : List Str := ["_law_one", "_law_found"]
theorem scPlaced : FnScope nPlaced ["_law_one"] (defScope sPlaced) := ⟨rfl, rfl, rfl, by decide +kernel, rfl, by decide +kernel, by decide +kernel⟩
theorem ok_placed {f : Addr} {fd0 : FuncData} (F : Fun K "_law_placed" "_law_placed" sPlaced f fd0) (N : Nm K mg C) (c9 : Cl P w K mg base C fI fd 9 "at") (c10 : Cl P w K mg base C fI fd 10 "at") (c11 : Cl P w K mg base C fI fd 11 "at") (c12 : Cl P w K mg base C fI fd 12 "at") : FnOk P w K mg base CX0 5 f fd0 ["_law_one"] (spErrs C "at" [9, 9, 10, 10, 11, 11, 12, 12]) := by
  refine F.ok scPlaced (fun vs H Q E h => ?_) (fun cdv A outer s H vs Q E hr h => ?_)
  · obtain ⟨x, d, rfl, _⟩ := h
    rfl
  · obtain ⟨x, d, rfl, tv, q⟩ := h
    refine ⟨_, pss_cons (ps_set (i := 1) scPlaced.nd rfl (.inl rfl) (pe_lst (pa_cons (pe_mkE (x := eN 9) c9.ec c9.ok hr pass0 c9.b (by rfl) (N.g 9 (by decide)) (pa_cons (pv 0) pa_nil)) (pa_cons (pe_mkEk (x := eN 9) c9.ec c9.ok hr pass0 c9.kb (by rfl) (N.g 9 (by decide)) (pk_cons (pv 0) pk_nil)) (pa_cons (pe_mkE (x := eN 10) c10.ec c10.ok hr pass0 c10.b (by rfl) (N.g 10 (by decide)) (pa_cons (pv 0) pa_nil)) (pa_cons (pe_mkEk (x := eN 10) c10.ec c10.ok hr pass0 c10.kb (by rfl) (N.g 10 (by decide)) (pk_cons (pv 0) pk_nil)) pa_nil))))))
      (pss_one (ps_ret (pe_op op_cat (pv 1) (pe_lst (pa_cons (pe_mkE (x := eN 11) c11.ec c11.ok hr pass0 c11.b (by rfl) (N.g 11 (by decide)) (pa_cons (pv 0) pa_nil)) (pa_cons (pe_mkEk (x := eN 11) c11.ec c11.ok hr pass0 c11.kb (by rfl) (N.g 11 (by decide)) (pk_cons (pv 0) pk_nil)) (pa_cons (pe_mkE (x := eN 12) c12.ec c12.ok hr pass0 c12.b (by rfl) (N.g 12 (by decide)) (pa_cons (pv 0) pa_nil)) (pa_cons (pe_mkEk (x := eN 12) c12.ec c12.ok hr pass0 c12.kb (by rfl) (N.g 12 (by decide)) (pk_cons (pv 0) pk_nil)) pa_nil)))))))), ?_⟩
    have s0 : Same' H H := fun _ _ z => z
    refine rd_pos rfl (tv.keep s0) fun v1 H1 m1 r1 => ?_
    have s1 := s0.trans m1
    refine rd_kw rfl (tv.keep s1) fun v2 H2 m2 r2 => ?_
    have s2 := s1.trans m2
    refine rd_pos rfl (tv.keep s2) fun v3 H3 m3 r3 => ?_
    have s3 := s2.trans m3
    refine rd_kw rfl (tv.keep s3) fun v4 H4 m4 r4 => ?_
    have s4 := s3.trans m4
    refine ⟨by show 4 ≤ sizeLine; decide, fun l hl => ?_⟩
    have ml := same_new (o := .lst [v1, v2, v3, v4]) hl
    have sl := s4.trans ml
    obtain ⟨HL, eL⟩ : ∃ HL, upd H4 l (.lst [v1, v2, v3, v4]) = HL := ⟨_, rfl⟩
    have al : HL l = some (.lst [v1, v2, v3, v4]) := by rw [← eL, upd_same]
    rw [eL] at ml sl ⊢
    clear eL
    refine ⟨.ref l, rfl, ?_⟩
    refine rd_pos rfl (tv.keep sl) fun v5 H5 m5 r5 => ?_
    have s5 := sl.trans m5
    refine rd_kw rfl (tv.keep s5) fun v6 H6 m6 r6 => ?_
    have s6 := s5.trans m6
    refine rd_pos rfl (tv.keep s6) fun v7 H7 m7 r7 => ?_
    have s7 := s6.trans m7
    refine rd_kw rfl (tv.keep s7) fun v8 H8 m8 r8 => ?_
    have s8 := s7.trans m8
    have fromL := (((m5).trans m6).trans m7).trans m8
    refine ⟨by show 4 ≤ sizeLine; decide, fun m hm => ⟨l, m, [v1, v2, v3, v4], [v5, v6, v7, v8], rfl, rfl, same_at hm (fromL _ _ al), upd_same, by show 8 ≤ sizeLine; decide, fun p hp => ?_⟩⟩
    have w8 := (same_new (o := .lst [v5, v6, v7, v8]) hm).trans (same_new (o := .lst ([v1, v2, v3, v4] ++ [v5, v6, v7, v8])) hp)
    have w7 := m8.trans w8
    have w6 := m7.trans w7
    have w5 := m6.trans w6
    have wL := m5.trans w5
    have w4 := ml.trans wL
    have w3 := m4.trans w4
    have w2 := m3.trans w3
    have w1 := m2.trans w2
    refine q p _ _ (s8.trans w8) upd_same ?_
    exact (.cons (r1.keep w1) (.cons (r2.keep w2) (.cons (r3.keep w3) (.cons (r4.keep w4) (.cons (r5.keep w5) (.cons (r6.keep w6) (.cons (r7.keep w7) (.cons (r8.keep w8) .nil))))))))
abbrev nNamed : List Str := ["_law_one"]
theorem scNamed : FnScope nNamed ["_law_one"] (defScope sNamed) := ⟨rfl, rfl, rfl, by decide +kernel, rfl, by decide +kernel, by decide +kernel⟩
theorem ok_named {f : Addr} {fd0 : FuncData} (F : Fun K "_law_named" "_law_named" sNamed f fd0) (N : Nm K mg C) (c13 : Cl P w K mg base C fI fd 13 "name") (c14 : Cl P w K mg base C fI fd 14 "name") (c15 : Cl P w K mg base C fI fd 15 "name") : FnOk P w K mg base CX0 5 f fd0 ["_law_one"] (spErrs C "name" [13, 13, 14, 14, 15, 15]) := by
  refine F.ok scNamed (fun vs H Q E h => ?_) (fun cdv A outer s H vs Q E hr h => ?_)
  · obtain ⟨x, d, rfl, _⟩ := h
    rfl
  · obtain ⟨x, d, rfl, tv, q⟩ := h
    refine ⟨_, pss_one (ps_ret (pe_lst (pa_cons (pe_mkE (x := eN 13) c13.ec c13.ok hr pass0 c13.b (by rfl) (N.g 13 (by decide)) (pa_cons (pv 0) pa_nil)) (pa_cons (pe_mkEk (x := eN 13) c13.ec c13.ok hr pass0 c13.kb (by rfl) (N.g 13 (by decide)) (pk_cons (pv 0) pk_nil)) (pa_cons (pe_mkE (x := eN 14) c14.ec c14.ok hr pass0 c14.b (by rfl) (N.g 14 (by decide)) (pa_cons (pv 0) pa_nil)) (pa_cons (pe_mkEk (x := eN 14) c14.ec c14.ok hr pass0 c14.kb (by rfl) (N.g 14 (by decide)) (pk_cons (pv 0) pk_nil)) (pa_cons (pe_mkE (x := eN 15) c15.ec c15.ok hr pass0 c15.b (by rfl) (N.g 15 (by decide)) (pa_cons (pv 0) pa_nil)) (pa_cons (pe_mkEk (x := eN 15) c15.ec c15.ok hr pass0 c15.kb (by rfl) (N.g 15 (by decide)) (pk_cons (pv 0) pk_nil)) pa_nil)))))))), ?_⟩
    have s0 : Same' H H := fun _ _ z => z
    refine rd_pos rfl (tv.keep s0) fun v1 H1 m1 r1 => ?_
    have s1 := s0.trans m1
    refine rd_kw rfl (tv.keep s1) fun v2 H2 m2 r2 => ?_
    have s2 := s1.trans m2
    refine rd_pos rfl (tv.keep s2) fun v3 H3 m3 r3 => ?_
    have s3 := s2.trans m3
    refine rd_kw rfl (tv.keep s3) fun v4 H4 m4 r4 => ?_
    have s4 := s3.trans m4
    refine rd_pos rfl (tv.keep s4) fun v5 H5 m5 r5 => ?_
    have s5 := s4.trans m5
    refine rd_kw rfl (tv.keep s5) fun v6 H6 m6 r6 => ?_
    have s6 := s5.trans m6
    refine ⟨by show 6 ≤ sizeLine; decide, fun l hl => ?_⟩
    have w6 := same_new (o := .lst [v1, v2, v3, v4, v5, v6]) hl
    have w5 := m6.trans w6
    have w4 := m5.trans w5
    have w3 := m4.trans w4
    have w2 := m3.trans w3
    have w1 := m2.trans w2
    refine q l _ _ (s6.trans w6) upd_same ?_
    exact (.cons (r1.keep w1) (.cons (r2.keep w2) (.cons (r3.keep w3) (.cons (r4.keep w4) (.cons (r5.keep w5) (.cons (r6.keep w6) .nil))))))
end
end My
namespace My
open PySem PySem.Spec PyProof.Rows L2
theorem rd_pos2 {i j : Nat} {C : Addr} {f g : Str} {σ : L2.St} {x y : V} {d e : PyData} {H : Hp} {Q : VK} (hx : σ[i]? = some (some x)) (hy : σ[j]? = some (some y)) (tx : Tv H x d) (ty : Tv H y e) (q : ∀ v H', Same' H H' → Er H' v C f d → Er H' v C g e → Q v H') :
    tMkE C (spI2 C f g) (tCons (tVar i) (tCons (tVar j) tNil)) σ H Q := ⟨x, hx, y, hy, (by show 2 ≤ 1000; decide), show asE (spI2 C f g) C [x, y] H Q from as2 tx ty q⟩
theorem rd_kw2 {i j : Nat} {C : Addr} {f g : Str} {σ : L2.St} {x y : V} {d e : PyData} {H : Hp} {Q : VK} (hx : σ[i]? = some (some x)) (hy : σ[j]? = some (some y)) (tx : Tv H x d) (ty : Tv H y e) (q : ∀ v H', Same' H H' → Er H' v C f d → Er H' v C g e → Q v H') :
    tMkEk C (spI2 C f g) revG (tCons (tVar j) (tCons (tVar i) tNil)) σ H Q := ⟨y, hy, x, hx, show asE (spI2 C f g) C [x, y] H Q from as2 tx ty q⟩
theorem rd_exoF {K : PySem.W.Frag} {i : Nat} {C : Addr} {f : Str} {σ : L2.St} {v : V} {d : PyData} {H : Hp} {Q : VK} (hv : σ[i]? = some (some v)) (er : Er H v C f d) (xf : XfC K C) (no : PySem.W.findIn K (.ref C) f = some none) (q : ∀ y, Tv H y d → Q y H) : tExoF K f (tVar i) σ H Q := by
  obtain ⟨a, dd, fs, y, rfl, h1, h2, h3, h4⟩ := er
  exact ⟨_, hv, a, C, dd, fs, y, rfl, h1, h2, xf, no, h3, q y h4⟩
/-- repr([v.f, v.g]) != repr([x, y]) -/
theorem rd_test2 {K : PySem.W.Frag} {i j k : Nat} {C : Addr} {f g : Str} {σ : L2.St} {v x y : V} {d e : PyData} {H : Hp} {Q : Bool → Hp → Prop} (hv : σ[k]? = some (some v)) (hx : σ[i]? = some (some x)) (hy : σ[j]? = some (some y)) (e1 : Er H v C f d) (e2 : Er H v C g e) (xf : XfC K C) (n1 : PySem.W.findIn K (.ref C) f = some none)
    (n2 : PySem.W.findIn K (.ref C) g = some none) (tx : Tv H x d) (ty : Tv H y e) (hd : d ∈ thD) (he : e ∈ thD) (q : ∀ H', Same' H H' → Q false H') :
    tTest (tOp rNe (tCB rShow (tCons (tLst (tCons (tExoF K f (tVar k)) (tCons (tExoF K g (tVar k)) tNil))) tNil)) (tCB rShow (tCons (tLst (tCons (tVar i) (tCons (tVar j) tNil))) tNil))) σ H Q := by
  obtain ⟨a, dd, fs, y1, rfl, h1, h2, h3, t1⟩ := e1
  obtain ⟨a', dd', fs', y2, ea, k1, k2, k3, t2⟩ := e2
  cases ea
  refine ⟨_, hv, a, C, dd, fs, y1, rfl, h1, h2, xf, n1, h3, _, hv, a, C, dd', fs', y2, rfl, k1, k2, xf, n2, k3, by show 2 ≤ sizeLine; decide, fun p hp => ?_⟩
  have m1 := same_new (o := .lst [y1, y2]) hp
  refine ⟨.ref p, _, rfl, .two upd_same (t1.keep m1) (t2.keep m1), fine2 hd he, x, hx, y, hy, by show 2 ≤ sizeLine; decide, fun p2 hp2 => ?_⟩
  have m2 := m1.trans (same_new (o := .lst [x, y]) hp2)
  refine ⟨.ref p2, _, rfl, .two upd_same (tx.keep m2) (ty.keep m2), fine2 hd he, rfl, false, ?_, q _ m2⟩
  simp
/-- repr(v.f) != repr(x) -/
theorem rd_test1 {K : PySem.W.Frag} {i k : Nat} {C : Addr} {f : Str} {σ : L2.St} {v x : V} {d : PyData} {H : Hp} {Q : Bool → Hp → Prop} (hv : σ[k]? = some (some v)) (hx : σ[i]? = some (some x)) (e1 : Er H v C f d) (xf : XfC K C) (n1 : PySem.W.findIn K (.ref C) f = some none)
    (tx : Tv H x d) (hd : d ∈ thD) (q : Q false H) :
    tTest (tOp rNe (tCB rShow (tCons (tExoF K f (tVar k)) tNil)) (tCB rShow (tCons (tVar i) tNil))) σ H Q := by
  obtain ⟨a, dd, fs, y1, rfl, h1, h2, h3, t1⟩ := e1
  refine ⟨_, hv, a, C, dd, fs, y1, rfl, h1, h2, xf, n1, h3, y1, _, rfl, .tv t1, fine1 hd, x, hx, x, _, rfl, .tv tx, fine1 hd, rfl, false, ?_, q⟩
  simp
def spOthers : Sp := fun vs H Q _ => ∃ (x y : V) (d e : PyData), vs = [x, y] ∧ Tv H x d ∧ Tv H y e ∧ d ∈ thD ∧ e ∈ thD ∧ ∀ H', Same' H H' → Q (.bl true) H'
abbrev nOth : List Str := ["_law_one", "_law_two", "_law_pages", "_law_bounds", "_law_lines", "_law_error"]
theorem scOth : FnScope nOth ["_law_one", "_law_two"] (defScope sOthers) := ⟨rfl, rfl, rfl, by decide +kernel, rfl, by decide +kernel, by decide +kernel⟩
def inO (i : Nat) : Stmt := (defBody sOthers).getD i (.Pass ⟨0, 0, 0, 0⟩)
abbrev XO (P : Program) (w : World) (K : PySem.W.Frag) (mg : Str → Option Value) (base : Heap) (f : Addr) (cdv : Value) (A : Around) (outer : List Env) (s : Shared) (H : Hp) (E : XK) : Cx := cxOf CX0 P w K mg base nOth "_law_others_right" (defScope sOthers) f cdv A outer s H E
/-- the question of an if, the answer of a return -/
def testOf (s : Stmt) : Expr := match s with
  | .If e .. => e
  | _ => .Name "_" ⟨0, 0, 0, 0⟩
theorem eqv_nil : PyData.eqv (.list []) (.list []) = true := by simp [PyData.eqv, PyData.eqvAll]
section
variable {P : Program} {w : World} {K : PySem.W.Frag} {mg : Str → Option Value} {base : Heap} {C fI : Nat → Addr} {fd : Nat → FuncData} {f : Addr} {cdv : Value} {A0 : Around} {outer : List Env} {s : Shared} {H0 : Hp} {E : XK}
theorem om0 (N : Nm K mg C) (c : Cl2 P w K mg base C fI fd 16 "line" "word") (hr : Room 4 (XO P w K mg base f cdv A0 outer s H0 E).A) :
    ∃ t, PS (XO P w K mg base f cdv A0 outer s H0 E) (inO 0) t ∧ ∀ (x y : V) (d e : PyData) (σ : L2.St) (H : Hp) (D : Ends), σ[0]? = some (some x) → σ[1]? = some (some y) → Tv H x d → Tv H y e →
      (∀ l v1 v2 H', Same' H H' → H' l = some (.lst [v1, v2]) → (∀ v ∈ [v1, v2], Er H' v (C 16) "line" d ∧ Er H' v (C 16) "word" e) → D.nx (σ.set 2 (some (.ref l))) H') → t D σ H := by
  refine ⟨_, ps_set (i := 2) scOth.nd rfl (.inl rfl) (pe_lst (pa_cons (pe_mkE (x := eN 16) c.ec c.ok hr pass0 c.b (by rfl) (N.g 16 (by decide)) (pa_cons (pv 0) (pa_cons (pv 1) pa_nil)))
    (pa_cons (pe_mkEk (x := eN 16) c.ec c.ok hr pass0 c.kb (by rfl) (N.g 16 (by decide)) (pk_cons (pv 1) (pk_cons (pv 0) pk_nil))) pa_nil))), ?_⟩
  intro x y d e σ H D s0 s1 tx ty q
  refine rd_pos2 s0 s1 tx ty fun v1 H1 m1 a1 b1 => ?_
  refine rd_kw2 s0 s1 (tx.keep m1) (ty.keep m1) fun v2 H2 m2 a2 b2 => ?_
  refine ⟨by show 2 ≤ sizeLine; decide, fun l hl => ?_⟩
  have ml := same_new (o := .lst [v1, v2]) hl
  refine q l v1 v2 _ ((m1.trans m2).trans ml) upd_same fun v hv => ?_
  simp only [List.mem_cons, List.not_mem_nil, or_false] at hv
  rcases hv with rfl | rfl
  · exact ⟨a1.keep (m2.trans ml), b1.keep (m2.trans ml)⟩
  · exact ⟨a2.keep ml, b2.keep ml⟩
theorem ot1 (hS : ∃ m, base.Ns sysModules m) (T : Txt mg) (N : Nm K mg C) (no1 : PySem.W.findIn K (.ref (C 16)) "line" = some none) (no2 : PySem.W.findIn K (.ref (C 16)) "word" = some none)
    (hr : Room 4 (XO P w K mg base f cdv A0 outer s H0 E).A) (hg : (XO P w K mg base f cdv A0 outer s H0 E).A.guards = some []) :
    ∃ t, PT (XO P w K mg base f cdv A0 outer s H0 E) (testOf (inO 1)) t ∧ ∀ (x y : V) (d e : PyData) (l : Addr) (xs : List V) (z0 z1 z2 z3 z4 z5 : Option V) (H : Hp) (Q : Bool → Hp → Prop), ([z0, z1, z2, z3, z4, z5] : L2.St)[0]? = some (some x) → ([z0, z1, z2, z3, z4, z5] : L2.St)[1]? = some (some y) → ([z0, z1, z2, z3, z4, z5] : L2.St)[2]? = some (some (.ref l)) → Tv H x d → Tv H y e → d ∈ thD → e ∈ thD →
      H l = some (.lst xs) → (∀ v ∈ xs, Er H v (C 16) "line" d ∧ Er H v (C 16) "word" e) → (∀ H', Same' H H' → Q false H') → t [z0, z1, z2, z3, z4, z5] H Q := by
  have hu : (XO P w K mg base f cdv A0 outer s H0 E).A.units + 64 < cLine := hr.units
  refine ⟨_, pt_cmpR (op_neD hu) (pe_lc (own := [("_law_error", 5)]) (g := gName 5) rfl scOth.nd (pi_list (pv 2)) (blkOk_by (N := nOth) (sc := defScope sOthers) (by decide +kernel)) (fun _ _ _ _ _ => pg_name (i := 5) scOth.nd rfl (Or.inl rfl))
      (fun s1 H1 C1 cl1 fp1 => pts_one (pt_cmpR op_ne
        (pe_callB (call_show (X := (XO P w K mg base f cdv A0 outer s H0 E).blk s1 H1 _ (compEnvC _ cl1 C1 (XO P w K mg base f cdv A0 outer s H0 E).env) fp1) hS hg hu) (by rfl) T.repr (by decide +kernel) (pa_cons (pe_lst (pa_cons (show PE _ _ (tExoF K "line" (tVar 5)) from pe_exoF (pv 5)) (pa_cons (show PE _ _ (tExoF K "word" (tVar 5)) from pe_exoF (pv 5)) pa_nil))) pa_nil))
        (pe_callB (call_show (X := (XO P w K mg base f cdv A0 outer s H0 E).blk s1 H1 _ (compEnvC _ cl1 C1 (XO P w K mg base f cdv A0 outer s H0 E).env) fp1) hS hg hu) (by rfl) T.repr (by decide +kernel) (pa_cons (pe_lst (pa_cons (pv 0) (pa_cons (pv 1) pa_nil))) pa_nil)) (nomark _)))
      (fun _ _ _ _ _ => pe_int)) (pe_lst pa_nil) (nomark _), ?_⟩
  intro x y d e l xs z0 z1 z2 z3 z4 z5 H Q s0 s1 s2 tx ty hd he hl all q
  refine ⟨.ref l, s2, l, rfl, ⟨_, SqL.of hl⟩, fun D1 hD => ?_⟩
  refine lc_list (K := K) (a := l) (xs := xs) (fun i H' => Same' H H' ∧ H' D1 = some (.lst [])) ⟨same_new hD, upd_same⟩ (fun i H' _ hp => SqL.of (hp.1 _ _ hl)) (fun i v H' hv hp => ?_) (fun H' hp => ?_)
  · obtain ⟨sm, ed⟩ := hp
    obtain ⟨e1, e2⟩ := all v (List.mem_of_getElem? hv)
    refine ⟨rfl, ?_⟩
    exact rd_test2 rfl s0 s1 (e1.keep sm) (e2.keep sm) (N.xf 16 (by decide)) no1 no2 (tx.keep sm) (ty.keep sm) hd he fun H3 m => ⟨sm.trans m, m _ _ ed⟩
  · obtain ⟨sm, ed⟩ := hp
    refine ⟨Nat.zero_le _, fun e0 he0 => ⟨.list [], .list [], .lst (xs := []) (SqL.of (same_new he0 _ _ ed)) .nil, .lst (xs := []) (SqL.of upd_same) .nil, rfl, rfl, _, rfl, ?_⟩⟩
    rw [eqv_nil]
    exact q _ (sm.trans (same_new he0))
theorem om2 (N : Nm K mg C) (c : Cl2 P w K mg base C fI fd 18 "what" "most") (hr : Room 4 (XO P w K mg base f cdv A0 outer s H0 E).A) :
    ∃ t, PS (XO P w K mg base f cdv A0 outer s H0 E) (inO 2) t ∧ ∀ (x y : V) (d e : PyData) (σ : L2.St) (H : Hp) (D : Ends), σ[0]? = some (some x) → σ[1]? = some (some y) → Tv H x d → Tv H y e →
      (∀ l v1 v2 H', Same' H H' → H' l = some (.lst [v1, v2]) → (∀ v ∈ [v1, v2], Er H' v (C 18) "what" d ∧ Er H' v (C 18) "most" e) → D.nx (σ.set 3 (some (.ref l))) H') → t D σ H := by
  refine ⟨_, ps_set (i := 3) scOth.nd rfl (.inl rfl) (pe_lst (pa_cons (pe_mkE (x := eN 18) c.ec c.ok hr pass0 c.b (by rfl) (N.g 18 (by decide)) (pa_cons (pv 0) (pa_cons (pv 1) pa_nil)))
    (pa_cons (pe_mkEk (x := eN 18) c.ec c.ok hr pass0 c.kb (by rfl) (N.g 18 (by decide)) (pk_cons (pv 1) (pk_cons (pv 0) pk_nil))) pa_nil))), ?_⟩
  intro x y d e σ H D s0 s1 tx ty q
  refine rd_pos2 s0 s1 tx ty fun v1 H1 m1 a1 b1 => ?_
  refine rd_kw2 s0 s1 (tx.keep m1) (ty.keep m1) fun v2 H2 m2 a2 b2 => ?_
  refine ⟨by show 2 ≤ sizeLine; decide, fun l hl => ?_⟩
  have ml := same_new (o := .lst [v1, v2]) hl
  refine q l v1 v2 _ ((m1.trans m2).trans ml) upd_same fun v hv => ?_
  simp only [List.mem_cons, List.not_mem_nil, or_false] at hv
  rcases hv with rfl | rfl
  · exact ⟨a1.keep (m2.trans ml), b1.keep (m2.trans ml)⟩
  · exact ⟨a2.keep ml, b2.keep ml⟩
theorem ot3 (hS : ∃ m, base.Ns sysModules m) (T : Txt mg) (N : Nm K mg C) (no1 : PySem.W.findIn K (.ref (C 18)) "what" = some none) (no2 : PySem.W.findIn K (.ref (C 18)) "most" = some none)
    (hr : Room 4 (XO P w K mg base f cdv A0 outer s H0 E).A) (hg : (XO P w K mg base f cdv A0 outer s H0 E).A.guards = some []) :
    ∃ t, PT (XO P w K mg base f cdv A0 outer s H0 E) (testOf (inO 3)) t ∧ ∀ (x y : V) (d e : PyData) (l : Addr) (xs : List V) (z0 z1 z2 z3 z4 z5 : Option V) (H : Hp) (Q : Bool → Hp → Prop), ([z0, z1, z2, z3, z4, z5] : L2.St)[0]? = some (some x) → ([z0, z1, z2, z3, z4, z5] : L2.St)[1]? = some (some y) → ([z0, z1, z2, z3, z4, z5] : L2.St)[3]? = some (some (.ref l)) → Tv H x d → Tv H y e → d ∈ thD → e ∈ thD →
      H l = some (.lst xs) → (∀ v ∈ xs, Er H v (C 18) "what" d ∧ Er H v (C 18) "most" e) → (∀ H', Same' H H' → Q false H') → t [z0, z1, z2, z3, z4, z5] H Q := by
  have hu : (XO P w K mg base f cdv A0 outer s H0 E).A.units + 64 < cLine := hr.units
  refine ⟨_, pt_cmpR (op_neD hu) (pe_lc (own := [("_law_error", 5)]) (g := gName 5) rfl scOth.nd (pi_list (pv 3)) (blkOk_by (N := nOth) (sc := defScope sOthers) (by decide +kernel)) (fun _ _ _ _ _ => pg_name (i := 5) scOth.nd rfl (Or.inl rfl))
      (fun s1 H1 C1 cl1 fp1 => pts_one (pt_cmpR op_ne
        (pe_callB (call_show (X := (XO P w K mg base f cdv A0 outer s H0 E).blk s1 H1 _ (compEnvC _ cl1 C1 (XO P w K mg base f cdv A0 outer s H0 E).env) fp1) hS hg hu) (by rfl) T.repr (by decide +kernel) (pa_cons (pe_lst (pa_cons (show PE _ _ (tExoF K "what" (tVar 5)) from pe_exoF (pv 5)) (pa_cons (show PE _ _ (tExoF K "most" (tVar 5)) from pe_exoF (pv 5)) pa_nil))) pa_nil))
        (pe_callB (call_show (X := (XO P w K mg base f cdv A0 outer s H0 E).blk s1 H1 _ (compEnvC _ cl1 C1 (XO P w K mg base f cdv A0 outer s H0 E).env) fp1) hS hg hu) (by rfl) T.repr (by decide +kernel) (pa_cons (pe_lst (pa_cons (pv 0) (pa_cons (pv 1) pa_nil))) pa_nil)) (nomark _)))
      (fun _ _ _ _ _ => pe_int)) (pe_lst pa_nil) (nomark _), ?_⟩
  intro x y d e l xs z0 z1 z2 z3 z4 z5 H Q s0 s1 s2 tx ty hd he hl all q
  refine ⟨.ref l, s2, l, rfl, ⟨_, SqL.of hl⟩, fun D1 hD => ?_⟩
  refine lc_list (K := K) (a := l) (xs := xs) (fun i H' => Same' H H' ∧ H' D1 = some (.lst [])) ⟨same_new hD, upd_same⟩ (fun i H' _ hp => SqL.of (hp.1 _ _ hl)) (fun i v H' hv hp => ?_) (fun H' hp => ?_)
  · obtain ⟨sm, ed⟩ := hp
    obtain ⟨e1, e2⟩ := all v (List.mem_of_getElem? hv)
    refine ⟨rfl, ?_⟩
    exact rd_test2 rfl s0 s1 (e1.keep sm) (e2.keep sm) (N.xf 18 (by decide)) no1 no2 (tx.keep sm) (ty.keep sm) hd he fun H3 m => ⟨sm.trans m, m _ _ ed⟩
  · obtain ⟨sm, ed⟩ := hp
    refine ⟨Nat.zero_le _, fun e0 he0 => ⟨.list [], .list [], .lst (xs := []) (SqL.of (same_new he0 _ _ ed)) .nil, .lst (xs := []) (SqL.of upd_same) .nil, rfl, rfl, _, rfl, ?_⟩⟩
    rw [eqv_nil]
    exact q _ (sm.trans (same_new he0))
theorem om4 (N : Nm K mg C) (c : Cl P w K mg base C fI fd 17 "word") (hr : Room 4 (XO P w K mg base f cdv A0 outer s H0 E).A) :
    ∃ t, PS (XO P w K mg base f cdv A0 outer s H0 E) (inO 4) t ∧ ∀ (x : V) (d : PyData) (σ : L2.St) (H : Hp) (D : Ends), σ[0]? = some (some x) → Tv H x d →
      (∀ l v1 v2 H', Same' H H' → H' l = some (.lst [v1, v2]) → (∀ v ∈ [v1, v2], Er H' v (C 17) "word" d) → D.nx (σ.set 4 (some (.ref l))) H') → t D σ H := by
  refine ⟨_, ps_set (i := 4) scOth.nd rfl (.inl rfl) (pe_lst (pa_cons (pe_mkE (x := eN 17) c.ec c.ok hr pass0 c.b (by rfl) (N.g 17 (by decide)) (pa_cons (pv 0) pa_nil))
    (pa_cons (pe_mkEk (x := eN 17) c.ec c.ok hr pass0 c.kb (by rfl) (N.g 17 (by decide)) (pk_cons (pv 0) pk_nil)) pa_nil))), ?_⟩
  intro x d σ H D s0 tx q
  refine rd_pos s0 tx fun v1 H1 m1 a1 => ?_
  refine rd_kw s0 (tx.keep m1) fun v2 H2 m2 a2 => ?_
  refine ⟨by show 2 ≤ sizeLine; decide, fun l hl => ?_⟩
  have ml := same_new (o := .lst [v1, v2]) hl
  refine q l v1 v2 _ ((m1.trans m2).trans ml) upd_same fun v hv => ?_
  simp only [List.mem_cons, List.not_mem_nil, or_false] at hv
  rcases hv with rfl | rfl
  · exact a1.keep (m2.trans ml)
  · exact a2.keep ml
theorem ot5 (hS : ∃ m, base.Ns sysModules m) (T : Txt mg) (N : Nm K mg C) (no : PySem.W.findIn K (.ref (C 17)) "word" = some none)
    (hr : Room 4 (XO P w K mg base f cdv A0 outer s H0 E).A) (hg : (XO P w K mg base f cdv A0 outer s H0 E).A.guards = some []) :
    ∃ t, PS (XO P w K mg base f cdv A0 outer s H0 E) (inO 5) t ∧ ∀ (x : V) (d : PyData) (l : Addr) (xs : List V) (z0 z1 z2 z3 z4 z5 : Option V) (H : Hp) (D : Ends), ([z0, z1, z2, z3, z4, z5] : L2.St)[0]? = some (some x) → ([z0, z1, z2, z3, z4, z5] : L2.St)[4]? = some (some (.ref l)) → Tv H x d → d ∈ thD →
      H l = some (.lst xs) → (∀ v ∈ xs, Er H v (C 17) "word" d) → (∀ H', Same' H H' → D.rt (.bl true) H') → t D [z0, z1, z2, z3, z4, z5] H := by
  have hu : (XO P w K mg base f cdv A0 outer s H0 E).A.units + 64 < cLine := hr.units
  refine ⟨_, ps_ret (pe_cmpR (op_eqD hu) (pe_lc (own := [("_law_error", 5)]) (g := gName 5) rfl scOth.nd (pi_list (pv 4)) (blkOk_by (N := nOth) (sc := defScope sOthers) (by decide +kernel)) (fun _ _ _ _ _ => pg_name (i := 5) scOth.nd rfl (Or.inl rfl))
      (fun s1 H1 C1 cl1 fp1 => pts_one (pt_cmpR op_ne
        (pe_callB (call_show (X := (XO P w K mg base f cdv A0 outer s H0 E).blk s1 H1 _ (compEnvC _ cl1 C1 (XO P w K mg base f cdv A0 outer s H0 E).env) fp1) hS hg hu) (by rfl) T.repr (by decide +kernel) (pa_cons (show PE _ _ (tExoF K "word" (tVar 5)) from pe_exoF (pv 5)) pa_nil))
        (pe_callB (call_show (X := (XO P w K mg base f cdv A0 outer s H0 E).blk s1 H1 _ (compEnvC _ cl1 C1 (XO P w K mg base f cdv A0 outer s H0 E).env) fp1) hS hg hu) (by rfl) T.repr (by decide +kernel) (pa_cons (pv 0) pa_nil)) (nomark _)))
      (fun _ _ _ _ _ => pe_int)) (pe_lst pa_nil) (nomark _)), ?_⟩
  intro x d l xs z0 z1 z2 z3 z4 z5 H D s0 s2 tx hd hl all q
  refine ⟨.ref l, s2, l, rfl, ⟨_, SqL.of hl⟩, fun D1 hD => ?_⟩
  refine lc_list (K := K) (a := l) (xs := xs) (fun i H' => Same' H H' ∧ H' D1 = some (.lst [])) ⟨same_new hD, upd_same⟩ (fun i H' _ hp => SqL.of (hp.1 _ _ hl)) (fun i v H' hv hp => ?_) (fun H' hp => ?_)
  · obtain ⟨sm, ed⟩ := hp
    refine ⟨rfl, ?_⟩
    exact rd_test1 rfl s0 ((all v (List.mem_of_getElem? hv)).keep sm) (N.xf 17 (by decide)) no (tx.keep sm) hd ⟨sm, ed⟩
  · obtain ⟨sm, ed⟩ := hp
    refine ⟨Nat.zero_le _, fun e0 he0 => ⟨.list [], .list [], .lst (xs := []) (SqL.of (same_new he0 _ _ ed)) .nil, .lst (xs := []) (SqL.of upd_same) .nil, rfl, rfl, ?_⟩⟩
    rw [eqv_nil]
    exact q _ (sm.trans (same_new he0))
end
end My
namespace My
open PySem PySem.Spec PyProof.Rows L2
section
variable {P : Program} {w : World} {K : PySem.W.Frag} {mg : Str → Option Value} {base : Heap} {C fI : Nat → Addr} {fd : Nat → FuncData}
theorem ok_others {f : Addr} {fd0 : FuncData} (F : Fun K "_law_others_right" "_law_others_right" sOthers f fd0) (hS : ∃ m, base.Ns sysModules m) (T : Txt mg) (N : Nm K mg C) (c16 : Cl2 P w K mg base C fI fd 16 "line" "word") (c17 : Cl P w K mg base C fI fd 17 "word") (c18 : Cl2 P w K mg base C fI fd 18 "what" "most")
    (n16 : PySem.W.findIn K (.ref (C 16)) "line" = some none) (m16 : PySem.W.findIn K (.ref (C 16)) "word" = some none) (n17 : PySem.W.findIn K (.ref (C 17)) "word" = some none) (n18 : PySem.W.findIn K (.ref (C 18)) "what" = some none) (m18 : PySem.W.findIn K (.ref (C 18)) "most" = some none) :
    FnG P w K mg base CX0 5 f fd0 ["_law_one", "_law_two"] spOthers := by
  refine okG F scOth (fun vs H Q E h => ?_) (fun cdv A0 outer s H vs Q E hr hg h => ?_)
  · obtain ⟨x, y, d, e, rfl, _⟩ := h
    rfl
  · obtain ⟨x, y, d, e, rfl, tx, ty, hd, he, q⟩ := h
    obtain ⟨t0, h0, q0⟩ := om0 (f := f) (cdv := cdv) (A0 := A0) (outer := outer) (s := s) (H0 := H) (E := E) N c16 hr
    obtain ⟨t1, h1, q1⟩ := ot1 (P := P) (w := w) (f := f) (cdv := cdv) (A0 := A0) (outer := outer) (s := s) (H0 := H) (E := E) hS T N n16 m16 hr hg
    obtain ⟨t2, h2, q2⟩ := om2 (f := f) (cdv := cdv) (A0 := A0) (outer := outer) (s := s) (H0 := H) (E := E) N c18 hr
    obtain ⟨t3, h3, q3⟩ := ot3 (P := P) (w := w) (f := f) (cdv := cdv) (A0 := A0) (outer := outer) (s := s) (H0 := H) (E := E) hS T N n18 m18 hr hg
    obtain ⟨t4, h4, q4⟩ := om4 (f := f) (cdv := cdv) (A0 := A0) (outer := outer) (s := s) (H0 := H) (E := E) N c17 hr
    obtain ⟨t5, h5, q5⟩ := ot5 (P := P) (w := w) (f := f) (cdv := cdv) (A0 := A0) (outer := outer) (s := s) (H0 := H) (E := E) hS T N n17 hr hg
    refine ⟨_, pss_cons h0 (pss_cons (ps_if h1 (pss_one (ps_ret pe_bl)) pss_nil) (pss_cons h2 (pss_cons (ps_if h3 (pss_one (ps_ret pe_bl)) pss_nil) (pss_cons h4 (pss_one h5))))), ?_⟩
    refine q0 x y d e _ _ _ rfl rfl tx ty fun l v1 v2 H1 s1 hl er => ?_
    refine q1 x y d e l _ _ _ _ _ _ _ _ _ rfl rfl rfl (tx.keep s1) (ty.keep s1) hd he hl er fun H2 s2 => iteF ?_
    have s12 := s1.trans s2
    refine q2 x y d e _ _ _ rfl rfl (tx.keep s12) (ty.keep s12) fun l2 v3 v4 H3 s3 hl2 er2 => ?_
    have s13 := s12.trans s3
    refine q3 x y d e l2 _ _ _ _ _ _ _ _ _ rfl rfl rfl (tx.keep s13) (ty.keep s13) hd he hl2 er2 fun H4 s4 => iteF ?_
    have s14 := s13.trans s4
    refine q4 x d _ _ _ rfl (tx.keep s14) fun l3 v5 v6 H5 s5 hl3 er3 => ?_
    have s15 := s14.trans s5
    exact q5 x d l3 _ _ _ _ _ _ _ _ _ rfl rfl (tx.keep s15) hd hl3 er3 fun H6 s6 => q H6 (s15.trans s6)
end
structure Fn (P : Program) (w : World) (K : PySem.W.Frag) (mg : Str → Option Value) (base : Heap) (k : Nat) (x : Str) (st : Stmt) (f : Addr) (fd : FuncData) (ps : List Str) (sp : Sp) : Prop where
  F : Fun K x x st f fd
  b : Binds K fd ps []
  g : mg x = some (.ref f)
  G : FnOk P w K mg base CX0 k f fd ps sp
/-- the field of a class -/
def fld : Nat → Str
  | 0 => "value" | 1 => "value" | 2 => "value"
  | 3 => "part" | 4 => "part" | 5 => "part" | 6 => "part" | 7 => "part" | 8 => "part"
  | 9 => "at" | 10 => "at" | 11 => "at" | 12 => "at"
  | 13 => "name" | 14 => "name" | 15 => "name"
  | 16 => "line" | 17 => "word" | _ => "what"
abbrev PR : Program := PySem.Challenge.rw_layerseen_k01_errors_and_their_fields.prog
abbrev bmVE : List Value := [.type "ValueError", .type "Exception", .type "BaseException", .type "object"]
abbrev jsV : List Nat := [0, 0, 1, 1, 2, 2]
abbrev jsP : List Nat := [3, 3, 4, 4, 5, 5, 6, 6, 7, 7, 8, 8]
abbrev jsA : List Nat := [9, 9, 10, 10, 11, 11, 12, 12]
abbrev jsN : List Nat := [13, 13, 14, 14, 15, 15]
structure Parts (w : World) (K : PySem.W.Frag) (mg : Str → Option Value) (base : Heap) (C fI : Nat → Addr) (fd : Nat → FuncData) (CL fE fT fC fV fP fA fN fO : Addr) (dE dT dC dV dP dA dN dO : FuncData) : Prop where
  T : Txt mg
  N : Nm K mg C
  S : ∃ m, base.Ns sysModules m
  e : Fn PR w K mg base 1 "_law_pen" sPen fE dE ["_law_script"] (spPen K)
  t : Fn PR w K mg base 3 "_law_thing" sThing fT dT ["_law_pen_here"] spThing
  c : Fn PR w K mg base 1 "_law_classes" sClasses fC dC ["_law_error"] (spClasses K C)
  v : Fn PR w K mg base 5 "_law_valued" sValued fV dV ["_law_one"] (spErrs C "value" jsV)
  p : Fn PR w K mg base 5 "_law_parted" sParted fP dP ["_law_one"] (spErrs C "part" jsP)
  a : Fn PR w K mg base 5 "_law_placed" sPlaced fA dA ["_law_one"] (spErrs C "at" jsA)
  n : Fn PR w K mg base 5 "_law_named" sNamed fN dN ["_law_one"] (spErrs C "name" jsN)
  ok : PySem.W.keepIn K (.ref fO) = true
  ob : Binds K dO ["_law_one", "_law_two"] []
  og : mg "_law_others_right" = some (.ref fO)
  oG : FnG PR w K mg base CX0 5 fO dO ["_law_one", "_law_two"] spOthers
  c16 : Cl2 PR w K mg base C fI fd 16 "line" "word"
  c17 : Cl PR w K mg base C fI fd 17 "word"
  c18 : Cl2 PR w K mg base C fI fd 18 "what" "most"
  no : ∀ j, j < 19 → PySem.W.findIn K (.ref (C j)) (fld j) = some none
  x19 : PySem.W.excIn K (C 19) bmVE "ValueError.__new__" = true
  k19 : PySem.W.keepIn K (.ref (C 19)) = true
  gL : mg "LayerError" = some (.ref CL)
  xL : PySem.W.excIn K CL bmVE "ValueError.__new__" = true
  kL : PySem.W.keepIn K (.ref CL) = true
  eL : ExcC K CL
  nL : ∀ j, j < 20 → PySem.W.kitOne K (.ref CL) (.ref (C j)) = some false
  vL : PySem.W.kitOne K (.ref CL) (.type "ValueError") = some true
  jL : ∀ j, j < 20 → PySem.W.kitOne K (.ref (C j)) (.ref CL) = some true
  jV : ∀ j, j < 20 → PySem.W.kitOne K (.ref (C j)) (.type "ValueError") = some true
theorem erl_mem {C : Nat → Addr} {f : Str} {d : PyData} {H : Hp} {v : V} : ∀ {xs : List V} {js : List Nat}, ErL C f d H xs js → v ∈ xs → ∃ j ∈ js, Er H v (C j) f d
  | _, _, .cons h r, hv => by
    rcases List.mem_cons.mp hv with rfl | hv
    · exact ⟨_, List.mem_cons_self, h⟩
    · obtain ⟨j, hj, e⟩ := erl_mem r hv
      exact ⟨j, List.mem_cons_of_mem _ hj, e⟩
/-- an error that is a value, its class told by its number -/
def IsJ (K : PySem.W.Frag) (C : Nat → Addr) (H : Hp) (v : V) (j : Nat) : Prop := ∃ a, v = .ref a ∧ IsE K H a (C j)
abbrev IsL (K : PySem.W.Frag) (C : Nat → Addr) (H : Hp) : List V → List Nat → Prop := Paired fun v j => IsJ K C H v j
theorem isj_of {K : PySem.W.Frag} {mg : Str → Option Value} {C : Nat → Addr} {H : Hp} {v : V} {f : Str} {d : PyData} {j : Nat} (N : Nm K mg C) (hj : j < 20) (h : Er H v (C j) f d) : IsJ K C H v j := by
  obtain ⟨a, dd, fs, y, rfl, h1, h2, _⟩ := h
  exact ⟨a, rfl, ⟨some dd, h1, fun d' e => by injection e with e; subst e; exact ⟨fs, h2⟩⟩, N.ec j hj⟩
theorem isl_of {K : PySem.W.Frag} {mg : Str → Option Value} {C : Nat → Addr} {H : Hp} {f : Str} {d : PyData} (N : Nm K mg C) : ∀ {xs : List V} {js : List Nat}, (∀ j ∈ js, j < 20) → ErL C f d H xs js → IsL K C H xs js
  | _, _, _, .nil => .nil
  | _, _, h, .cons e r => .cons (isj_of N (h _ List.mem_cons_self) e) (isl_of N (fun j hj => h j (List.mem_cons_of_mem _ hj)) r)
theorem isl_keep {K : PySem.W.Frag} {C : Nat → Addr} {H H' : Hp} (k : Same' H H') : ∀ {xs : List V} {js : List Nat}, IsL K C H xs js → IsL K C H' xs js
  | _, _, .nil => .nil
  | _, _, .cons ⟨a, e, h⟩ r => .cons ⟨a, e, h.keep k⟩ (isl_keep k r)
theorem isl_app {K : PySem.W.Frag} {C : Nat → Addr} {H : Hp} : ∀ {xs ys : List V} {js ks : List Nat}, IsL K C H xs js → IsL K C H ys ks → IsL K C H (xs ++ ys) (js ++ ks)
  | _, _, _, _, .nil, h => h
  | _, _, _, _, .cons a r, h => .cons a (isl_app r h)
theorem isl_len {K : PySem.W.Frag} {C : Nat → Addr} {H : Hp} : ∀ {xs : List V} {js : List Nat}, IsL K C H xs js → xs.length = js.length
  | _, _, .nil => rfl
  | _, _, .cons _ r => congrArg Nat.succ (isl_len r)
theorem isl_at {K : PySem.W.Frag} {C : Nat → Addr} {H : Hp} : ∀ {xs : List V} {js : List Nat} {i : Nat} {v : V}, IsL K C H xs js → xs[i]? = some v → ∃ j, js[i]? = some j ∧ IsJ K C H v j
  | _, _, 0, _, .cons a r, e => by
    simp at e
    subst e
    exact ⟨_, rfl, a⟩
  | _, _, i + 1, _, .cons a r, e => isl_at (i := i) r (by simpa using e)
end My
namespace My
open PySem PySem.Spec PyProof.Rows L2
abbrev nLaw : List Str := ["_law_script", "_law_pen_here", "_law_turn", "_law_one", "_law_two", "_law_rows", "_law_spot", "_law_error", "_law_number"]
theorem scLaw : FnScope nLaw ["_law_script"] (defScope sLaw) := ⟨rfl, rfl, rfl, by decide +kernel, rfl, by decide +kernel, by decide +kernel⟩
abbrev XL (w : World) (K : PySem.W.Frag) (mg : Str → Option Value) (base : Heap) (fa : Addr) (cdv : Value) (s : Shared) (H0 : Hp) : Cx := (cxOf CX0 PR w K mg base nLaw "law" (defScope sLaw) fa cdv callerA [] s H0 E0).nox
def inL (i : Nat) : Stmt := (defBody sLaw).getD i (.Pass ⟨0, 0, 0, 0⟩)
def forBody (s : Stmt) : List Stmt := match s with
  | .For _ _ b .. => b
  | _ => []
def inT (i : Nat) : Stmt := (forBody (inL 1)).getD i (.Pass ⟨0, 0, 0, 0⟩)
def inI (i : Nat) : Stmt := (forBody (inT 8)).getD i (.Pass ⟨0, 0, 0, 0⟩)
section
variable {w : World} {K : PySem.W.Frag} {mg : Str → Option Value} {base : Heap} {fa : Addr} {cdv : Value} {s : Shared} {H0 : Hp} {C fI : Nat → Addr} {fd : Nat → FuncData} {CL fE fT fC fV fP fA fN fO : Addr} {dE dT dC dV dP dA dN dO : FuncData}
theorem hrX : Room 13 (XL w K mg base fa cdv s H0).A := ⟨rfl, by show 1 + claimMargin + 1 + 3 * 13 + 5 < recursionLimit; decide +kernel, by show 4 + 3 + 16 * 13 + 200 < cLine; decide +kernel⟩
theorem hgX : (XL w K mg base fa cdv s H0).A.guards = some [] := rfl
theorem lt1 (Y : Parts w K mg base C fI fd CL fE fT fC fV fP fA fN fO dE dT dC dV dP dA dN dO) :
    ∃ t, PT (XL w K mg base fa cdv s H0) (testOf (inT 1)) t ∧ ∀ (x : V) (d : PyData) (z0 z1 z2 z3 z4 z5 z6 z7 z8 : Option V) (H : Hp) (Q : Bool → Hp → Prop), ([z0, z1, z2, z3, z4, z5, z6, z7, z8] : L2.St)[3]? = some (some x) → Tv H x d → d ∈ thD →
      (∀ H', Same' H H' → Q false H') → t [z0, z1, z2, z3, z4, z5, z6, z7, z8] H Q := by
  have hu : (XL w K mg base fa cdv s H0).A.units + 64 < cLine := hrX.units
  refine ⟨_, pt_cmpR (op_neD hu) (pe_lc (own := [("_law_error", 7)]) (g := gName 7) rfl scLaw.nd (pi_list (pe_call Y.v.G (hrX.mono (by decide)) (by rfl) Y.v.g Y.v.F.kp Y.v.b .nil pass0 (pa_cons (pv 3) pa_nil))) (blkOk_by (N := nLaw) (sc := defScope sLaw) (by decide +kernel)) (fun _ _ _ _ _ => pg_name (i := 7) scLaw.nd rfl (Or.inl rfl))
      (fun s1 H1 C1 cl1 fp1 => pts_one (pt_cmpR op_ne
        (pe_callB (call_show (X := (XL w K mg base fa cdv s H0).blk s1 H1 _ (compEnvC _ cl1 C1 (XL w K mg base fa cdv s H0).env) fp1) Y.S rfl hu) (by rfl) Y.T.repr (by decide +kernel) (pa_cons (show PE _ _ (tExoF K "value" (tVar 7)) from pe_exoF (pv 7)) pa_nil))
        (pe_callB (call_show (X := (XL w K mg base fa cdv s H0).blk s1 H1 _ (compEnvC _ cl1 C1 (XL w K mg base fa cdv s H0).env) fp1) Y.S rfl hu) (by rfl) Y.T.repr (by decide +kernel) (pa_cons (pv 3) pa_nil)) (nomark _)))
      (fun _ _ _ _ _ => pe_int)) (pe_lst pa_nil) (nomark _), ?_⟩
  intro x d z0 z1 z2 z3 z4 z5 z6 z7 z8 H Q s3 tx hd q
  refine ⟨x, s3, x, d, rfl, tx, fun l xs H1 m1 hl er => ?_⟩
  refine ⟨l, rfl, ⟨_, SqL.of hl⟩, fun D1 hD => ?_⟩
  refine lc_list (K := K) (a := l) (xs := xs) (fun i H' => Same' H1 H' ∧ H' D1 = some (.lst [])) ⟨same_new hD, upd_same⟩ (fun i H' _ hp => SqL.of (hp.1 _ _ hl)) (fun i v H' hv hp => ?_) (fun H' hp => ?_)
  · obtain ⟨sm, ed⟩ := hp
    refine ⟨rfl, ?_⟩
    obtain ⟨j, hj, e1⟩ := erl_mem er (List.mem_of_getElem? hv)
    have jj : j < 20 ∧ j < 19 ∧ fld j = "value" := (show ∀ j ∈ (jsV), j < 20 ∧ j < 19 ∧ fld j = "value" by decide +kernel) j hj
    exact rd_test1 (by rfl) s3 (e1.keep sm) (Y.N.xf j jj.1) (jj.2.2 ▸ Y.no j jj.2.1) (tx.keep (m1.trans sm)) hd ⟨sm, ed⟩
  · obtain ⟨sm, ed⟩ := hp
    refine ⟨Nat.zero_le _, fun e0 he0 => ⟨.list [], .list [], .lst (xs := []) (SqL.of (same_new he0 _ _ ed)) .nil, .lst (xs := []) (SqL.of upd_same) .nil, rfl, rfl, false, ?_, ?_⟩⟩
    · rw [eqv_nil]
      rfl
    · exact q _ ((m1.trans sm).trans (same_new he0))
theorem lt2 (Y : Parts w K mg base C fI fd CL fE fT fC fV fP fA fN fO dE dT dC dV dP dA dN dO) :
    ∃ t, PT (XL w K mg base fa cdv s H0) (testOf (inT 2)) t ∧ ∀ (x : V) (d : PyData) (z0 z1 z2 z3 z4 z5 z6 z7 z8 : Option V) (H : Hp) (Q : Bool → Hp → Prop), ([z0, z1, z2, z3, z4, z5, z6, z7, z8] : L2.St)[3]? = some (some x) → Tv H x d → d ∈ thD →
      (∀ H', Same' H H' → Q false H') → t [z0, z1, z2, z3, z4, z5, z6, z7, z8] H Q := by
  have hu : (XL w K mg base fa cdv s H0).A.units + 64 < cLine := hrX.units
  refine ⟨_, pt_cmpR (op_neD hu) (pe_lc (own := [("_law_error", 7)]) (g := gName 7) rfl scLaw.nd (pi_list (pe_call Y.p.G (hrX.mono (by decide)) (by rfl) Y.p.g Y.p.F.kp Y.p.b .nil pass0 (pa_cons (pv 3) pa_nil))) (blkOk_by (N := nLaw) (sc := defScope sLaw) (by decide +kernel)) (fun _ _ _ _ _ => pg_name (i := 7) scLaw.nd rfl (Or.inl rfl))
      (fun s1 H1 C1 cl1 fp1 => pts_one (pt_cmpR op_ne
        (pe_callB (call_show (X := (XL w K mg base fa cdv s H0).blk s1 H1 _ (compEnvC _ cl1 C1 (XL w K mg base fa cdv s H0).env) fp1) Y.S rfl hu) (by rfl) Y.T.repr (by decide +kernel) (pa_cons (show PE _ _ (tExoF K "part" (tVar 7)) from pe_exoF (pv 7)) pa_nil))
        (pe_callB (call_show (X := (XL w K mg base fa cdv s H0).blk s1 H1 _ (compEnvC _ cl1 C1 (XL w K mg base fa cdv s H0).env) fp1) Y.S rfl hu) (by rfl) Y.T.repr (by decide +kernel) (pa_cons (pv 3) pa_nil)) (nomark _)))
      (fun _ _ _ _ _ => pe_int)) (pe_lst pa_nil) (nomark _), ?_⟩
  intro x d z0 z1 z2 z3 z4 z5 z6 z7 z8 H Q s3 tx hd q
  refine ⟨x, s3, x, d, rfl, tx, fun l xs H1 m1 hl er => ?_⟩
  refine ⟨l, rfl, ⟨_, SqL.of hl⟩, fun D1 hD => ?_⟩
  refine lc_list (K := K) (a := l) (xs := xs) (fun i H' => Same' H1 H' ∧ H' D1 = some (.lst [])) ⟨same_new hD, upd_same⟩ (fun i H' _ hp => SqL.of (hp.1 _ _ hl)) (fun i v H' hv hp => ?_) (fun H' hp => ?_)
  · obtain ⟨sm, ed⟩ := hp
    refine ⟨rfl, ?_⟩
    obtain ⟨j, hj, e1⟩ := erl_mem er (List.mem_of_getElem? hv)
    have jj : j < 20 ∧ j < 19 ∧ fld j = "part" := (show ∀ j ∈ (jsP), j < 20 ∧ j < 19 ∧ fld j = "part" by decide +kernel) j hj
    exact rd_test1 (by rfl) s3 (e1.keep sm) (Y.N.xf j jj.1) (jj.2.2 ▸ Y.no j jj.2.1) (tx.keep (m1.trans sm)) hd ⟨sm, ed⟩
  · obtain ⟨sm, ed⟩ := hp
    refine ⟨Nat.zero_le _, fun e0 he0 => ⟨.list [], .list [], .lst (xs := []) (SqL.of (same_new he0 _ _ ed)) .nil, .lst (xs := []) (SqL.of upd_same) .nil, rfl, rfl, false, ?_, ?_⟩⟩
    · rw [eqv_nil]
      rfl
    · exact q _ ((m1.trans sm).trans (same_new he0))
theorem lt3 (Y : Parts w K mg base C fI fd CL fE fT fC fV fP fA fN fO dE dT dC dV dP dA dN dO) :
    ∃ t, PT (XL w K mg base fa cdv s H0) (testOf (inT 3)) t ∧ ∀ (x : V) (d : PyData) (z0 z1 z2 z3 z4 z5 z6 z7 z8 : Option V) (H : Hp) (Q : Bool → Hp → Prop), ([z0, z1, z2, z3, z4, z5, z6, z7, z8] : L2.St)[3]? = some (some x) → Tv H x d → d ∈ thD →
      (∀ H', Same' H H' → Q false H') → t [z0, z1, z2, z3, z4, z5, z6, z7, z8] H Q := by
  have hu : (XL w K mg base fa cdv s H0).A.units + 64 < cLine := hrX.units
  refine ⟨_, pt_cmpR (op_neD hu) (pe_lc (own := [("_law_error", 7)]) (g := gName 7) rfl scLaw.nd (pi_list (pe_call Y.a.G (hrX.mono (by decide)) (by rfl) Y.a.g Y.a.F.kp Y.a.b .nil pass0 (pa_cons (pv 3) pa_nil))) (blkOk_by (N := nLaw) (sc := defScope sLaw) (by decide +kernel)) (fun _ _ _ _ _ => pg_name (i := 7) scLaw.nd rfl (Or.inl rfl))
      (fun s1 H1 C1 cl1 fp1 => pts_one (pt_cmpR op_ne
        (pe_callB (call_show (X := (XL w K mg base fa cdv s H0).blk s1 H1 _ (compEnvC _ cl1 C1 (XL w K mg base fa cdv s H0).env) fp1) Y.S rfl hu) (by rfl) Y.T.repr (by decide +kernel) (pa_cons (show PE _ _ (tExoF K "at" (tVar 7)) from pe_exoF (pv 7)) pa_nil))
        (pe_callB (call_show (X := (XL w K mg base fa cdv s H0).blk s1 H1 _ (compEnvC _ cl1 C1 (XL w K mg base fa cdv s H0).env) fp1) Y.S rfl hu) (by rfl) Y.T.repr (by decide +kernel) (pa_cons (pv 3) pa_nil)) (nomark _)))
      (fun _ _ _ _ _ => pe_int)) (pe_lst pa_nil) (nomark _), ?_⟩
  intro x d z0 z1 z2 z3 z4 z5 z6 z7 z8 H Q s3 tx hd q
  refine ⟨x, s3, x, d, rfl, tx, fun l xs H1 m1 hl er => ?_⟩
  refine ⟨l, rfl, ⟨_, SqL.of hl⟩, fun D1 hD => ?_⟩
  refine lc_list (K := K) (a := l) (xs := xs) (fun i H' => Same' H1 H' ∧ H' D1 = some (.lst [])) ⟨same_new hD, upd_same⟩ (fun i H' _ hp => SqL.of (hp.1 _ _ hl)) (fun i v H' hv hp => ?_) (fun H' hp => ?_)
  · obtain ⟨sm, ed⟩ := hp
    refine ⟨rfl, ?_⟩
    obtain ⟨j, hj, e1⟩ := erl_mem er (List.mem_of_getElem? hv)
    have jj : j < 20 ∧ j < 19 ∧ fld j = "at" := (show ∀ j ∈ (jsA), j < 20 ∧ j < 19 ∧ fld j = "at" by decide +kernel) j hj
    exact rd_test1 (by rfl) s3 (e1.keep sm) (Y.N.xf j jj.1) (jj.2.2 ▸ Y.no j jj.2.1) (tx.keep (m1.trans sm)) hd ⟨sm, ed⟩
  · obtain ⟨sm, ed⟩ := hp
    refine ⟨Nat.zero_le _, fun e0 he0 => ⟨.list [], .list [], .lst (xs := []) (SqL.of (same_new he0 _ _ ed)) .nil, .lst (xs := []) (SqL.of upd_same) .nil, rfl, rfl, false, ?_, ?_⟩⟩
    · rw [eqv_nil]
      rfl
    · exact q _ ((m1.trans sm).trans (same_new he0))
/-- the names, and the errors with other fields -/
theorem lt4 (Y : Parts w K mg base C fI fd CL fE fT fC fV fP fA fN fO dE dT dC dV dP dA dN dO) :
    ∃ t, PT (XL w K mg base fa cdv s H0) (testOf (inT 4)) t ∧ ∀ (x y : V) (d e : PyData) (z0 z1 z2 z3 z4 z5 z6 z7 z8 : Option V) (H : Hp) (Q : Bool → Hp → Prop), ([z0, z1, z2, z3, z4, z5, z6, z7, z8] : L2.St)[3]? = some (some x) → ([z0, z1, z2, z3, z4, z5, z6, z7, z8] : L2.St)[4]? = some (some y) → Tv H x d → d ∈ thD → Tv H y e → e ∈ thD →
      (∀ H', Same' H H' → Q false H') → t [z0, z1, z2, z3, z4, z5, z6, z7, z8] H Q := by
  have hu : (XL w K mg base fa cdv s H0).A.units + 64 < cLine := hrX.units
  refine ⟨_, PW.pt (pw_or (pt_cmpR (op_neD hu) (pe_lc (own := [("_law_error", 7)]) (g := gName 7) rfl scLaw.nd (pi_list (pe_call Y.n.G (hrX.mono (by decide)) (by rfl) Y.n.g Y.n.F.kp Y.n.b .nil pass0 (pa_cons (pv 3) pa_nil))) (blkOk_by (N := nLaw) (sc := defScope sLaw) (by decide +kernel)) (fun _ _ _ _ _ => pg_name (i := 7) scLaw.nd rfl (Or.inl rfl))
      (fun s1 H1 C1 cl1 fp1 => pts_one (pt_cmpR op_ne
        (pe_callB (call_show (X := (XL w K mg base fa cdv s H0).blk s1 H1 _ (compEnvC _ cl1 C1 (XL w K mg base fa cdv s H0).env) fp1) Y.S rfl hu) (by rfl) Y.T.repr (by decide +kernel) (pa_cons (show PE _ _ (tExoF K "name" (tVar 7)) from pe_exoF (pv 7)) pa_nil))
        (pe_callB (call_show (X := (XL w K mg base fa cdv s H0).blk s1 H1 _ (compEnvC _ cl1 C1 (XL w K mg base fa cdv s H0).env) fp1) Y.S rfl hu) (by rfl) Y.T.repr (by decide +kernel) (pa_cons (pv 3) pa_nil)) (nomark _)))
      (fun _ _ _ _ _ => pe_int)) (pe_lst pa_nil) (nomark _))
    (pw_or1 (pt_not (pt_val (pe_callG Y.oG (hrX.mono (by decide)) hgX (by rfl) Y.og Y.ok Y.ob .nil pass0 (pa_cons (pv 3) (pa_cons (pv 4) pa_nil))))))), ?_⟩
  intro x y d e z0 z1 z2 z3 z4 z5 z6 z7 z8 H Q s3 s4 tx hd ty he q
  refine ⟨x, s3, x, d, rfl, tx, fun l xs H1 m1 hl er => ?_⟩
  refine ⟨l, rfl, ⟨_, SqL.of hl⟩, fun D1 hD => ?_⟩
  refine lc_list (K := K) (a := l) (xs := xs) (fun i H' => Same' H1 H' ∧ H' D1 = some (.lst [])) ⟨same_new hD, upd_same⟩ (fun i H' _ hp => SqL.of (hp.1 _ _ hl)) (fun i v H' hv hp => ?_) (fun H' hp => ?_)
  · obtain ⟨sm, ed⟩ := hp
    refine ⟨rfl, ?_⟩
    obtain ⟨j, hj, e1⟩ := erl_mem er (List.mem_of_getElem? hv)
    have jj : j < 20 ∧ j < 19 ∧ fld j = "name" := (show ∀ j ∈ (jsN), j < 20 ∧ j < 19 ∧ fld j = "name" by decide +kernel) j hj
    exact rd_test1 (by rfl) s3 (e1.keep sm) (Y.N.xf j jj.1) (jj.2.2 ▸ Y.no j jj.2.1) (tx.keep (m1.trans sm)) hd ⟨sm, ed⟩
  · obtain ⟨sm, ed⟩ := hp
    refine ⟨Nat.zero_le _, fun e0 he0 => ⟨.list [], .list [], .lst (xs := []) (SqL.of (same_new he0 _ _ ed)) .nil, .lst (xs := []) (SqL.of upd_same) .nil, rfl, rfl, false, ?_, ?_⟩⟩
    · rw [eqv_nil]
      rfl
    · have k := (m1.trans sm).trans (same_new (o := .lst []) he0)
      refine iteF ⟨x, s3, y, s4, x, y, d, e, rfl, tx.keep k, ty.keep k, hd, he, fun H2 m2 => ⟨true, rfl, ?_⟩⟩
      exact q H2 (k.trans m2)
end
end My
namespace My
open PySem PySem.Spec PyProof.Rows L2
abbrev jsA1 : List Nat := ((jsV ++ jsP) ++ jsA) ++ jsN
abbrev jsA2 : List Nat := jsA1 ++ [16, 16, 17, 17, 18, 18]
abbrev jsA3 : List Nat := jsA2 ++ [19, 19]
theorem js_half : ∀ i, i < 40 → jsA3[i]? = some (i / 2) := by decide +kernel
theorem dpBools {K : PySem.W.Frag} {H : Hp} : ∀ bs : List Bool, DpAll K H (bs.map V.bl) (bs.map PyData.bool)
  | [] => .nil
  | _ :: r => .cons (.bl _) (dpBools r)
theorem shaped_bools : ∀ bs : List Bool, SeqAt.shaped (.list (bs.map PyData.bool)) = true
  | [] => rfl
  | _ :: r => shaped_bools r
theorem bools_eqvA : ∀ bs : List Bool, PyData.eqvAll (bs.map PyData.bool) (bs.map PyData.bool) = true
  | [] => by simp [PyData.eqvAll]
  | x :: r => by
    have := bools_eqvA r
    simp [PyData.eqvAll, PyData.eqv, this]
theorem bools_eqv (bs : List Bool) : PyData.eqv (.list (bs.map PyData.bool)) (.list (bs.map PyData.bool)) = true := by
  have := bools_eqvA bs
  simp [PyData.eqv, this]
theorem bl_map (b : Nat → Bool) (n : Nat) : blL b n = ((List.range n).map b).map V.bl := by
  show (List.range n).map (fun j => V.bl (b j)) = _
  rw [List.map_map]
  rfl
theorem isj_none {K : PySem.W.Frag} {C : Nat → Addr} {H : Hp} {a : Addr} {j : Nat} (ec : ExcC K (C j)) (h : H a = some (exo a (C j) none)) : IsJ K C H (.ref a) j := ⟨a, rfl, ⟨none, h, fun _ z => by cases z⟩, ec⟩
section
variable {w : World} {K : PySem.W.Frag} {mg : Str → Option Value} {base : Heap} {fa : Addr} {cdv : Value} {s : Shared} {H0 : Hp} {C fI : Nat → Addr} {fd : Nat → FuncData} {CL fE fT fC fV fP fA fN fO : Addr} {dE dT dC dV dP dA dN dO : FuncData}
/-- rows = .. -/
theorem lr5 (Y : Parts w K mg base C fI fd CL fE fT fC fV fP fA fN fO dE dT dC dV dP dA dN dO) :
    ∃ t, PS (XL w K mg base fa cdv s H0) (inT 5) t ∧ ∀ (x : V) (d : PyData) (σ : L2.St) (H : Hp) (D : Ends), σ[3]? = some (some x) → Tv H x d →
      (∀ l xs H', Same' H H' → H' l = some (.lst xs) → IsL K C H' xs jsA1 → D.nx (σ.set 5 (some (.ref l))) H') → t D σ H := by
  refine ⟨_, ps_set (i := 5) scLaw.nd rfl (.inl rfl) (pe_op op_cat (pe_op op_cat (pe_op op_cat (pe_call Y.v.G (hrX.mono (by decide)) (by rfl) Y.v.g Y.v.F.kp Y.v.b .nil pass0 (pa_cons (pv 3) pa_nil)) (pe_call Y.p.G (hrX.mono (by decide)) (by rfl) Y.p.g Y.p.F.kp Y.p.b .nil pass0 (pa_cons (pv 3) pa_nil)))
    (pe_call Y.a.G (hrX.mono (by decide)) (by rfl) Y.a.g Y.a.F.kp Y.a.b .nil pass0 (pa_cons (pv 3) pa_nil))) (pe_call Y.n.G (hrX.mono (by decide)) (by rfl) Y.n.g Y.n.F.kp Y.n.b .nil pass0 (pa_cons (pv 3) pa_nil))), ?_⟩
  intro x d σ H D s3 tx q
  refine ⟨x, s3, x, d, rfl, tx, fun l1 x1 H1 m1 h1 e1 => ?_⟩
  refine ⟨x, s3, x, d, rfl, tx.keep m1, fun l2 x2 H2 m2 h2 e2 => ?_⟩
  have i1 : IsL K C H2 x1 jsV := isl_of Y.N (by decide) (erl_keep m2 e1)
  have i2 : IsL K C H2 x2 jsP := isl_of Y.N (by decide) e2
  have n1 : x1.length = 6 := isl_len i1
  have n2 : x2.length = 12 := isl_len i2
  refine ⟨l1, l2, x1, x2, rfl, rfl, m2 _ _ h1, h2, by rw [n1, n2]; decide, fun p1 hp1 => ?_⟩
  have k1 := same_new (o := .lst (x1 ++ x2)) hp1
  have s2 := (m1.trans m2).trans k1
  have i12 := isl_keep k1 (isl_app i1 i2)
  refine ⟨x, s3, x, d, rfl, tx.keep s2, fun l3 x3 H3 m3 h3 e3 => ?_⟩
  have i3 : IsL K C H3 x3 jsA := isl_of Y.N (by decide) e3
  have n3 : x3.length = 8 := isl_len i3
  refine ⟨p1, l3, x1 ++ x2, x3, rfl, rfl, m3 _ _ upd_same, h3, by rw [List.length_append, n1, n2, n3]; decide, fun p2 hp2 => ?_⟩
  have k2 := same_new (o := .lst ((x1 ++ x2) ++ x3)) hp2
  have s3' := (s2.trans m3).trans k2
  have i123 := isl_keep k2 (isl_app (isl_keep m3 i12) i3)
  refine ⟨x, s3, x, d, rfl, tx.keep s3', fun l4 x4 H4 m4 h4 e4 => ?_⟩
  have i4 : IsL K C H4 x4 jsN := isl_of Y.N (by decide) e4
  have n4 : x4.length = 6 := isl_len i4
  refine ⟨p2, l4, (x1 ++ x2) ++ x3, x4, rfl, rfl, m4 _ _ upd_same, h4, by rw [List.length_append, List.length_append, n1, n2, n3, n4]; decide, fun p3 hp3 => ?_⟩
  have k3 := same_new (o := .lst (((x1 ++ x2) ++ x3) ++ x4)) hp3
  exact q p3 _ _ ((s3'.trans m4).trans k3) upd_same (isl_keep k3 (isl_app (isl_keep m4 i123) i4))
theorem lr6 (Y : Parts w K mg base C fI fd CL fE fT fC fV fP fA fN fO dE dT dC dV dP dA dN dO) :
    ∃ t, PS (XL w K mg base fa cdv s H0) (inT 6) t ∧ ∀ (x y : V) (d e : PyData) (l : Addr) (xs : List V) (σ : L2.St) (H : Hp) (D : Ends), σ[3]? = some (some x) → σ[4]? = some (some y) → σ[5]? = some (some (.ref l)) → Tv H x d → Tv H y e → H l = some (.lst xs) → IsL K C H xs jsA1 →
      (∀ l xs H', Same' H H' → H' l = some (.lst xs) → IsL K C H' xs jsA2 → D.nx (σ.set 5 (some (.ref l))) H') → t D σ H := by
  have r4 : Room 4 (XL w K mg base fa cdv s H0).A := hrX.mono (by decide)
  refine ⟨_, ps_set (i := 5) scLaw.nd rfl (.inl rfl) (pe_op op_cat (pv 5) (pe_lst
    (pa_cons (pe_mkE (x := eN 16) Y.c16.ec Y.c16.ok r4 pass0 Y.c16.b (by rfl) (Y.N.g 16 (by decide)) (pa_cons (pv 3) (pa_cons (pv 4) pa_nil)))
    (pa_cons (pe_mkE (x := eN 16) Y.c16.ec Y.c16.ok r4 pass0 Y.c16.b (by rfl) (Y.N.g 16 (by decide)) (pa_cons (pv 4) (pa_cons (pv 3) pa_nil)))
    (pa_cons (pe_mkE (x := eN 17) Y.c17.ec Y.c17.ok r4 pass0 Y.c17.b (by rfl) (Y.N.g 17 (by decide)) (pa_cons (pv 3) pa_nil))
    (pa_cons (pe_mkE (x := eN 17) Y.c17.ec Y.c17.ok r4 pass0 Y.c17.b (by rfl) (Y.N.g 17 (by decide)) (pa_cons (pv 4) pa_nil))
    (pa_cons (pe_mkE (x := eN 18) Y.c18.ec Y.c18.ok r4 pass0 Y.c18.b (by rfl) (Y.N.g 18 (by decide)) (pa_cons (pv 3) (pa_cons (pv 4) pa_nil)))
    (pa_cons (pe_mkE (x := eN 18) Y.c18.ec Y.c18.ok r4 pass0 Y.c18.b (by rfl) (Y.N.g 18 (by decide)) (pa_cons (pv 4) (pa_cons (pv 3) pa_nil))) pa_nil)))))))), ?_⟩
  intro x y d e l xs σ H D s3 s4 s5 tx ty hl il q
  refine ⟨.ref l, s5, ?_⟩
  refine rd_pos2 s3 s4 tx ty fun v1 H1 m1 r1 _ => ?_
  have s1 := m1
  refine rd_pos2 s4 s3 (ty.keep s1) (tx.keep s1) fun v2 H2 m2 r2 _ => ?_
  have s2 := s1.trans m2
  refine rd_pos s3 (tx.keep s2) fun v3 H3 m3 r3 => ?_
  have s3' := s2.trans m3
  refine rd_pos s4 (ty.keep s3') fun v4 H4 m4 r4 => ?_
  have s4' := s3'.trans m4
  refine rd_pos2 s3 s4 (tx.keep s4') (ty.keep s4') fun v5 H5 m5 r5 _ => ?_
  have s5' := s4'.trans m5
  refine rd_pos2 s4 s3 (ty.keep s5') (tx.keep s5') fun v6 H6 m6 r6 _ => ?_
  have s6 := s5'.trans m6
  refine ⟨by show 6 ≤ sizeLine; decide, fun p hp => ?_⟩
  have k := same_new (o := .lst [v1, v2, v3, v4, v5, v6]) hp
  have n : xs.length = 32 := isl_len il
  refine ⟨l, p, xs, [v1, v2, v3, v4, v5, v6], rfl, rfl, k _ _ (s6 _ _ hl), upd_same, by rw [n]; show 32 + 6 ≤ sizeLine; decide, fun p2 hp2 => ?_⟩
  have k2 := same_new (o := .lst (xs ++ [v1, v2, v3, v4, v5, v6])) hp2
  have u6 := k.trans k2
  have u5 := m6.trans u6
  have u4 := m5.trans u5
  have u3 := m4.trans u4
  have u2 := m3.trans u3
  have u1 := m2.trans u2
  refine q p2 _ _ (s6.trans u6) upd_same (isl_app (isl_keep (s6.trans u6) il) ?_)
  have ij : ∀ {v : V} {f : Str} {d : PyData} {j : Nat} {H' : Hp}, j < 20 → Er H' v (C j) f d → IsJ K C H' v j := fun hj h => isj_of Y.N hj h
  exact .cons (ij (by decide) (r1.keep u1)) (.cons (ij (by decide) (r2.keep u2)) (.cons (ij (by decide) (r3.keep u3)) (.cons (ij (by decide) (r4.keep u4)) (.cons (ij (by decide) (r5.keep u5)) (.cons (ij (by decide) (r6.keep u6)) .nil)))))
theorem lr7 (Y : Parts w K mg base C fI fd CL fE fT fC fV fP fA fN fO dE dT dC dV dP dA dN dO) :
    ∃ t, PS (XL w K mg base fa cdv s H0) (inT 7) t ∧ ∀ (l : Addr) (xs : List V) (σ : L2.St) (H : Hp) (D : Ends), σ[5]? = some (some (.ref l)) → H l = some (.lst xs) → IsL K C H xs jsA2 →
      (∀ l xs H', Same' H H' → H' l = some (.lst xs) → IsL K C H' xs jsA3 → D.nx (σ.set 5 (some (.ref l))) H') → t D σ H := by
  refine ⟨_, ps_set (i := 5) scLaw.nd rfl (.inl rfl) (pe_op op_cat (pv 5) (pe_lst
    (pa_cons (pe_mkN0 (x := eN 19) PySem.F.excBase_ValueError Y.x19 (Y.N.g 19 (by decide)) Y.k19 (by rfl)) (pa_cons (pe_mkN0 (x := eN 19) PySem.F.excBase_ValueError Y.x19 (Y.N.g 19 (by decide)) Y.k19 (by rfl)) pa_nil)))), ?_⟩
  intro l xs σ H D s5 hl il q
  refine ⟨.ref l, s5, Nat.zero_le _, fun a1 h1 => ⟨Nat.zero_le _, fun a2 h2 => ⟨by show 2 ≤ sizeLine; decide, fun p hp => ?_⟩⟩⟩
  have m1 := same_new (o := exo a1 (C 19) none) h1
  have m2 := same_new (o := exo a2 (C 19) none) h2
  have k := same_new (o := .lst [V.ref a1, .ref a2]) hp
  have n : xs.length = 38 := isl_len il
  refine ⟨l, p, xs, [.ref a1, .ref a2], rfl, rfl, k _ _ (m2 _ _ (m1 _ _ hl)), upd_same, by rw [n]; show 38 + 2 ≤ sizeLine; decide, fun p2 hp2 => ?_⟩
  have k2 := same_new (o := .lst (xs ++ [V.ref a1, .ref a2])) hp2
  have kk := k.trans k2
  have all := (m1.trans m2).trans kk
  exact q p2 _ _ all upd_same (isl_app (isl_keep all il) (.cons (isj_none (Y.N.ec 19 (by decide)) (kk _ _ (m2 _ _ upd_same))) (.cons (isj_none (Y.N.ec 19 (by decide)) (kk _ _ upd_same)) .nil)))
end
end My
namespace My
open PySem PySem.Spec PyProof.Rows L2
section
variable {w : World} {K : PySem.W.Frag} {mg : Str → Option Value} {base : Heap} {fa : Addr} {cdv : Value} {s : Shared} {H0 : Hp} {C fI : Nat → Addr} {fd : Nat → FuncData} {CL fE fT fC fV fP fA fN fO : Addr} {dE dT dC dV dP dA dN dO : FuncData}
/-- classes(error) != [..] -/
theorem li0 (Y : Parts w K mg base C fI fd CL fE fT fC fV fP fA fN fO dE dT dC dV dP dA dN dO) :
    ∃ t, PT (XL w K mg base fa cdv s H0) (testOf (inI 0)) t ∧ ∀ (v : V) (i j : Nat) (z0 z1 z2 z3 z4 z5 z6 z7 z8 : Option V) (H : Hp) (Q : Bool → Hp → Prop), ([z0, z1, z2, z3, z4, z5, z6, z7, z8] : L2.St)[6]? = some (some (.int i)) → ([z0, z1, z2, z3, z4, z5, z6, z7, z8] : L2.St)[7]? = some (some v) → i < 40 → j = i / 2 → IsJ K C H v j →
      (∀ H', Same' H H' → Q false H') → t [z0, z1, z2, z3, z4, z5, z6, z7, z8] H Q := by
  have hu : (XL w K mg base fa cdv s H0).A.units + 64 < cLine := hrX.units
  refine ⟨_, pt_cmpR (op_neD hu) (pe_call Y.c.G (hrX.mono (by decide)) (by rfl) Y.c.g Y.c.F.kp Y.c.b .nil pass0 (pa_cons (pv 7) pa_nil))
    (pe_lc (own := [("_law_number", 8)]) (g := gName 8) (tt := tYes) rfl scLaw.nd (pi_range1 (by rfl) Y.T.range (pa_cons pe_int pa_nil)) (blkOk_by (N := nLaw) (sc := defScope sLaw) (by decide +kernel)) (fun _ _ _ _ _ => pg_name (i := 8) scLaw.nd rfl (Or.inl rfl)) (fun _ _ _ _ _ => pts_nil)
      (fun _ _ _ _ _ => pe_cmpR op_eq (pv 8) (pe_op op_fdivN (pv 6) pe_int) (nomark _))) (nomark _), ?_⟩
  intro v i j z0 z1 z2 z3 z4 z5 z6 z7 z8 H Q s6 s7 hi hj is q
  obtain ⟨a, rfl, ise⟩ := is
  have j20 : j < 20 := by omega
  refine ⟨.ref a, s7, a, C j, fun k => decide (j = k), rfl, ise, fun k hk => Y.N.k j k j20 hk, fun l H2 m2 hl2 => ?_⟩
  refine ⟨20, rfl, by decide, by decide, fun D1 hD => ?_⟩
  refine lc_range (lo := 0) (n := 20) (fun k H' => Same' H2 H' ∧ H' D1 = some (.lst (blL (fun n => decide (j = n)) k))) ⟨same_new hD, upd_same⟩ (fun k H' hk hp => ?_) (fun H' hp => ?_)
  · obtain ⟨sm, ed⟩ := hp
    refine ⟨rfl, ?_⟩
    refine ⟨_, rfl, _, s6, i, 2, rfl, rfl, ⟨by decide, by decide⟩, rfl, _, ed, ?_, same_over hD sm, ?_⟩
    · exact small1000 (by rw [List.length_map, List.length_range]; omega)
    · have e : decide (V.int (0 + (k : Int)) = V.int ((i : Int).fdiv 2)) = decide (j = k) := by
        rw [Int.fdiv_eq_ediv_of_nonneg _ (by decide)]
        by_cases z : j = k
        · rw [decide_eq_true z, decide_eq_true]
          congr 1
          omega
        · rw [decide_eq_false z, decide_eq_false]
          intro y
          injection y with y
          omega
      rw [upd_same, e]
      show some (HO.lst ((List.range k).map _ ++ _)) = some (HO.lst ((List.range (k + 1)).map _))
      rw [List.range_succ, List.map_append]
      rfl
  · obtain ⟨sm, ed⟩ := hp
    rw [bl_map] at ed hl2
    refine ⟨_, _, .lst (SqL.of (sm _ _ hl2)) (dpBools _), .lst (SqL.of ed) (dpBools _), shaped_bools _, shaped_bools _, false, ?_, ?_⟩
    · rw [bools_eqv]
      rfl
    · exact q _ (m2.trans sm)
/-- isinstance(error, ..) -/
theorem li1 (Y : Parts w K mg base C fI fd CL fE fT fC fV fP fA fN fO dE dT dC dV dP dA dN dO) :
    ∃ t, PT (XL w K mg base fa cdv s H0) (testOf (inI 1)) t ∧ ∀ (v : V) (j : Nat) (σ : L2.St) (H : Hp) (Q : Bool → Hp → Prop), σ[7]? = some (some v) → j < 20 → IsJ K C H v j → Q false H → t σ H Q := by
  refine ⟨_, PW.pt (pw_or (pt_not (pt_val (pe_callB call_exoIs (by rfl) Y.T.isi (by decide +kernel) (pa_cons (pv 7) (pa_cons (pe_glob (v := .ref CL) rfl Y.gL rfl) pa_nil)))))
    (pw_or1 (pt_not (pt_val (pe_callB call_exoIs (by rfl) Y.T.isi (by decide +kernel) (pa_cons (pv 7) (pa_cons (pe_bltn (by rfl) Y.T.verr (by decide +kernel) (show RelV (.ty "ValueError") _ from rfl)) pa_nil))))))), ?_⟩
  intro v j σ H Q s7 hj is q
  obtain ⟨a, rfl, ise⟩ := is
  obtain ⟨d, ha, hd⟩ := ise.o
  refine ⟨.ref a, s7, a, C j, d, .ref CL, .ref CL, true, rfl, .own _, ha, hd, ise.ec, Y.jL j hj, true, rfl, iteF ?_⟩
  exact ⟨.ref a, s7, a, C j, d, .ty "ValueError", .type "ValueError", true, rfl, .ty _, ha, hd, ise.ec, Y.jV j hj, true, rfl, q⟩
theorem lz (Y : Parts w K mg base C fI fd CL fE fT fC fV fP fA fN fO dE dT dC dV dP dA dN dO) :
    ∃ t, PS (XL w K mg base fa cdv s H0) (inL 2) t ∧ ∀ (σ : L2.St) (H : Hp) (D : Ends), (∀ H', D.rt (.bl true) H') → t D σ H := by
  have hu : (XL w K mg base fa cdv s H0).A.units + 64 < cLine := hrX.units
  refine ⟨_, ps_ret (pe_and (pe_cmpR (op_eqD hu) (pe_call Y.c.G (hrX.mono (by decide)) (by rfl) Y.c.g Y.c.F.kp Y.c.b .nil pass0 (pa_cons (pe_mkN1 PySem.F.excBase_ValueError Y.xL Y.gL Y.kL (by rfl) (pa_cons pe_str pa_nil)) pa_nil)) (pe_op op_rep (pe_lst (pa_cons pe_bl pa_nil)) pe_int) (nomark _))
    (pe_one (pe_callB call_exoIs (by rfl) Y.T.isi (by decide +kernel) (pa_cons (pe_mkN0 PySem.F.excBase_ValueError Y.xL Y.gL Y.kL (by rfl)) (pa_cons (pe_bltn (by rfl) Y.T.verr (by decide +kernel) (show RelV (.ty "ValueError") _ from rfl)) pa_nil))))), ?_⟩
  intro σ H D q
  refine ⟨by show 1 ≤ 1000; decide, fun a ha => ?_⟩
  refine ⟨a, CL, fun _ => false, rfl, ⟨⟨none, upd_same, fun _ z => by cases z⟩, Y.eL⟩, Y.nL, fun l H2 m2 hl => ?_⟩
  refine ⟨by show 1 ≤ sizeLine; decide, fun l2 hl2 => ⟨l2, 20, [.bl false], rfl, rfl, upd_same, by decide, by decide, by decide, fun p hp => ?_⟩⟩
  have e : (List.replicate (20 : Int).toNat [V.bl false]).flatten = ((List.range 20).map fun _ => false).map V.bl := by rfl
  have hl' := same_at hp (same_at hl2 hl) (o := .lst (List.replicate (20 : Int).toNat [V.bl false]).flatten)
  rw [bl_map] at hl'
  rw [e] at hl' ⊢
  refine ⟨_, _, .lst (SqL.of hl') (dpBools _), .lst (SqL.of upd_same) (dpBools _), shaped_bools _, shaped_bools _, ?_⟩
  rw [bools_eqv]
  refine ⟨true, rfl, iteT ?_⟩
  refine ⟨Nat.zero_le _, fun b hb => ?_⟩
  exact ⟨b, CL, none, .ty "ValueError", .type "ValueError", true, rfl, .ty _, upd_same, (fun _ z => nomatch z), Y.eL, Y.vL, q _⟩
end
end My
namespace My
open PySem PySem.Spec PyProof.Rows L2
section
variable {w : World} {K : PySem.W.Frag} {mg : Str → Option Value} {base : Heap} {fa : Addr} {cdv : Value} {s : Shared} {H0 : Hp} {C fI : Nat → Addr} {fd : Nat → FuncData} {CL fE fT fC fV fP fA fN fO : Addr} {dE dT dC dV dP dA dN dO : FuncData}
theorem Tv.pen {H H' : Hp} {v : V} {d : PyData} {p c : Addr} {ns : List Int} {B : Int} (h : Tv H v d) (P : PenAt H p c ns B) (o : Off p H H') : Tv H' v d := by
  obtain ⟨b, g, hp, _⟩ := P.pen
  cases h with
  | dc e =>
    refine .dc (o _ _ (fun z => ?_) e)
    rw [z, hp] at e
    cases e
  | th th =>
    cases th with
    | flat e => exact .th (.flat e)
    | @lst a xs ds e k n =>
      refine .th (.lst (o _ _ (fun z => ?_) e) k n)
      rw [z, hp] at e
      injection e with e
      injection e with e
      subst e
      cases k with
      | cons k1 _ => cases k1
    | tup e k n =>
      refine .th (.tup (o _ _ (fun z => ?_) e) k n)
      rw [z, hp] at e
      cases e
    | dct e =>
      refine .th (.dct (o _ _ (fun z => ?_) e))
      rw [z, hp] at e
      cases e
/-- two values are drawn -/
theorem lr0 (Y : Parts w K mg base C fI fd CL fE fT fC fV fP fA fN fO dE dT dC dV dP dA dN dO) :
    ∃ t, PS (XL w K mg base fa cdv s H0) (inT 0) t ∧ ∀ (p cc : Addr) (ns : List Int) (B : Int) (σ : L2.St) (H : Hp) (D : Ends), σ[1]? = some (some (.ref p)) → PenAt H p cc ns B → B + 1 ≤ 1000 →
      (∀ x y d e H', d ∈ thD → e ∈ thD → Tv H' x d → Tv H' y e → PenAt H' p cc ns (B + 2) → D.nx ((σ.set 3 (some x)).set 4 (some y)) H') → t D σ H := by
  refine ⟨_, ps_asg (pe_tup (pa_cons (pe_call Y.t.G (hrX.mono (by decide)) (by rfl) Y.t.g Y.t.F.kp Y.t.b .nil pass0 (pa_cons (pv 1) pa_nil)) (pa_cons (pe_call Y.t.G (hrX.mono (by decide)) (by rfl) Y.t.g Y.t.F.kp Y.t.b .nil pass0 (pa_cons (pv 1) pa_nil)) pa_nil)))
    (pg_tup (n := 2) rfl (pgs_cons (pg_name (i := 3) scLaw.nd rfl (.inr rfl)) (pgs_cons (pg_name (i := 4) scLaw.nd rfl (.inl rfl)) pgs_nil))), ?_⟩
  intro p cc ns B σ H D s1 PA hB q
  refine ⟨.ref p, s1, p, cc, ns, B, rfl, PA, by omega, fun x d H1 hd tx PA1 off1 => ?_⟩
  refine ⟨.ref p, s1, p, cc, ns, B + 1, rfl, PA1, by omega, fun y e H2 he ty PA2 off2 => ?_⟩
  refine ⟨by show 2 ≤ sizeLine; decide, fun t ht => ⟨t, _, rfl, SqT.of upd_same, rfl, _, _, rfl, _, _, rfl, rfl, ?_⟩⟩
  have k := same_new (o := .tup [x, y]) ht
  exact q x y d e _ hd he ((tx.pen PA1 off2).keep k) (ty.keep k) ((PA2.keep k).more (by omega))
theorem lr8 (Y : Parts w K mg base C fI fd CL fE fT fC fV fP fA fN fO dE dT dC dV dP dA dN dO) :
    ∃ t, PS (XL w K mg base fa cdv s H0) (inT 8) t ∧ ∀ (l : Addr) (xs : List V) (z0 z1 z2 z3 z4 z6 z7 z8 : Option V) (H : Hp) (D : Ends), H l = some (.lst xs) → IsL K C H xs jsA3 →
      (∀ z6 z7 H', Same' H H' → D.nx [z0, z1, z2, z3, z4, some (.ref l), z6, z7, z8] H') → t D [z0, z1, z2, z3, z4, some (.ref l), z6, z7, z8] H := by
  obtain ⟨u0, i0, p0⟩ := li0 (fa := fa) (cdv := cdv) (s := s) (H0 := H0) Y
  obtain ⟨u1, i1, p1⟩ := li1 (fa := fa) (cdv := cdv) (s := s) (H0 := H0) Y
  refine ⟨_, ps_for PassesOwn.never rfl (pi_enum (by rfl) Y.T.enum (pa_cons (pv 5) pa_nil)) (pg_tup (n := 2) rfl (pgs_cons (pg_name (i := 6) scLaw.nd rfl (.inr rfl)) (pgs_cons (pg_name (i := 7) scLaw.nd rfl (.inl rfl)) pgs_nil)))
    (pss_cons (ps_if i0 (pss_one (ps_ret pe_bl)) pss_nil) (pss_one (ps_if i1 (pss_one (ps_ret pe_bl)) pss_nil))), ?_⟩
  intro l xs z0 z1 z2 z3 z4 z6 z7 z8 H D hl il q
  have n : xs.length = 40 := isl_len il
  refine ⟨.ref l, rfl, l, _, rfl, SqL.of hl, ?_⟩
  refine for_it (walk_enum (K := K) (a := l) (xs := xs)) (fun i σ H' => Same' H H' ∧ ∃ z6 z7, σ = [z0, z1, z2, z3, z4, some (.ref l), z6, z7, z8]) ?_ ?_ ?_ ?_
  · exact ⟨fun _ _ e => e, z6, z7, rfl⟩
  · exact fun i σ H' _ hp => SqL.of (hp.1 _ _ hl)
  · intro i x σ H1 H2 hi hp hy
    obtain ⟨sm, z6, z7, rfl⟩ := hp
    obtain ⟨tt, v1, v2, rfl, htt, rfl, e1, e2⟩ := hy
    injection e1 with e1
    subst e1
    rw [n] at hi
    obtain ⟨j, hj, is⟩ := isl_at il (show xs[i]? = some v2 from e2)
    rw [js_half i hi] at hj
    injection hj with hj
    have k := same_new (o := .tup [V.int i, v2]) htt
    have sk := sm.trans k
    obtain ⟨a, rfl, ise⟩ := is
    refine ⟨tt, _, rfl, SqT.of upd_same, rfl, _, _, rfl, _, _, rfl, rfl, ?_⟩
    refine p0 (.ref a) i j _ _ _ _ _ _ _ _ _ _ _ rfl rfl hi hj.symm ⟨a, rfl, ise.keep sk⟩ fun H3 s3 => iteF ?_
    refine p1 (.ref a) j _ _ _ rfl (by omega) ⟨a, rfl, (ise.keep sk).keep s3⟩ (iteF ?_)
    exact ⟨sk.trans s3, _, _, rfl⟩
  · intro σ H1 hp
    obtain ⟨sm, z6, z7, rfl⟩ := hp
    exact q _ _ _ sm
end
section
variable {w : World} {K : PySem.W.Frag} {mg : Str → Option Value} {fa : Addr} {C fI : Nat → Addr} {fd : Nat → FuncData} {CL fE fT fC fV fP fA fN fO : Addr} {dE dT dC dV dP dA dN dO : FuncData}
theorem law_body (Z : ∀ base : Heap, K.In base → base.Ns mainGlobals mg → (∃ m, base.Ns sysModules m) → Parts w K mg base C fI fd CL fE fT fC fV fP fA fN fO dE dT dC dV dP dA dN dO) :
    LawBodyS PySem.Challenge.rw_layerseen_k01_errors_and_their_fields w K mg 63 nLaw "law" sLaw fa := by
  intro base hKb hNb hSb cdv s H a ns hn hO hS
  have Y := Z base hKb hNb hSb
  obtain ⟨t0, h0, q0⟩ := lr0 (fa := fa) (cdv := cdv) (s := s) (H0 := H) Y
  obtain ⟨t1, h1, q1⟩ := lt1 (fa := fa) (cdv := cdv) (s := s) (H0 := H) Y
  obtain ⟨t2, h2, q2⟩ := lt2 (fa := fa) (cdv := cdv) (s := s) (H0 := H) Y
  obtain ⟨t3, h3, q3⟩ := lt3 (fa := fa) (cdv := cdv) (s := s) (H0 := H) Y
  obtain ⟨t4, h4, q4⟩ := lt4 (fa := fa) (cdv := cdv) (s := s) (H0 := H) Y
  obtain ⟨t5, h5, q5⟩ := lr5 (fa := fa) (cdv := cdv) (s := s) (H0 := H) Y
  obtain ⟨t6, h6, q6⟩ := lr6 (fa := fa) (cdv := cdv) (s := s) (H0 := H) Y
  obtain ⟨t7, h7, q7⟩ := lr7 (fa := fa) (cdv := cdv) (s := s) (H0 := H) Y
  obtain ⟨t8, h8, q8⟩ := lr8 (fa := fa) (cdv := cdv) (s := s) (H0 := H) Y
  obtain ⟨tz, hz, qz⟩ := lz (fa := fa) (cdv := cdv) (s := s) (H0 := H) Y
  refine ⟨_, pss_cons (ps_set (i := 1) scLaw.nd rfl (.inl rfl) (pe_call Y.e.G (hrX.mono (by decide)) (by rfl) Y.e.g Y.e.F.kp Y.e.b .nil pass0 (pa_cons (pv 0) pa_nil)))
    (pss_cons (ps_for PassesOwn.never rfl (pi_range1 (by rfl) Y.T.range (pa_cons pe_int pa_nil)) (pg_name (i := 2) scLaw.nd rfl (.inl rfl))
      (pss_cons h0
      (pss_cons (ps_if h1 (pss_one (ps_ret pe_bl)) pss_nil)
      (pss_cons (ps_if h2 (pss_one (ps_ret pe_bl)) pss_nil)
      (pss_cons (ps_if h3 (pss_one (ps_ret pe_bl)) pss_nil)
      (pss_cons (ps_if h4 (pss_one (ps_ret pe_bl)) pss_nil)
      (pss_cons h5 (pss_cons h6 (pss_cons h7 (pss_one h8))))))))))
    (pss_one hz)), ?_⟩
  refine ⟨.ref a, rfl, a, ns, rfl, hS, hn, fun p cc H1 sm1 PA1 => ?_⟩
  refine ⟨6, rfl, by decide, by decide, for_range (lo := 0) (n := 6) (fun i σ H' => ∃ z2 z3 z4 z5 z6 z7 z8 : Option V, σ = [some (.ref a), some (.ref p), z2, z3, z4, z5, z6, z7, z8] ∧ PenAt H' p cc ns (2 * (i : Int))) ⟨none, none, none, none, none, none, none, rfl, PA1.more (by decide)⟩ (fun i σ H2 hi hp => ?_) (fun σ H2 hp => ?_)⟩
  · obtain ⟨z2, z3, z4, z5, z6, z7, z8, rfl, PA2⟩ := hp
    refine q0 p cc ns (2 * (i : Int)) _ _ _ rfl PA2 (by omega) fun x y d e H3 hd he tx ty PA3 => ?_
    refine q1 x d _ _ _ _ _ _ _ _ _ _ _ rfl tx hd fun H4 s4 => iteF ?_
    refine q2 x d _ _ _ _ _ _ _ _ _ _ _ rfl (tx.keep s4) hd fun H5 s5 => iteF ?_
    have c5 := s4.trans s5
    refine q3 x d _ _ _ _ _ _ _ _ _ _ _ rfl (tx.keep c5) hd fun H6 s6 => iteF ?_
    have c6 := c5.trans s6
    refine q4 x y d e _ _ _ _ _ _ _ _ _ _ _ rfl rfl (tx.keep c6) hd (ty.keep c6) he fun H7 s7 => iteF ?_
    have c7 := c6.trans s7
    refine q5 x d _ _ _ rfl (tx.keep c7) fun l1 xs1 H8 s8 hl1 il1 => ?_
    have c8 := c7.trans s8
    refine q6 x y d e l1 xs1 _ _ _ rfl rfl rfl (tx.keep c8) (ty.keep c8) hl1 il1 fun l2 xs2 H9 s9 hl2 il2 => ?_
    have c9 := c8.trans s9
    refine q7 l2 xs2 _ _ _ rfl hl2 il2 fun l3 xs3 H10 s10 hl3 il3 => ?_
    refine q8 l3 xs3 _ _ _ _ _ _ _ _ _ _ hl3 il3 fun z6 z7 H11 s11 => ?_
    exact ⟨_, _, _, _, _, _, _, rfl, (PA3.keep ((c9.trans s10).trans s11)).more (by omega)⟩
  · exact qz σ H2 _ fun H3 => rfl
end
end My
namespace My
open PySem PySem.Spec PyProof.Rows L2
/-- twenty of a kind -/
abbrev t20 {α : Type} (a0 a1 a2 a3 a4 a5 a6 a7 a8 a9 a10 a11 a12 a13 a14 a15 a16 a17 a18 a19 : α) : Nat → α
  | 0 => a0
  | 1 => a1
  | 2 => a2
  | 3 => a3
  | 4 => a4
  | 5 => a5
  | 6 => a6
  | 7 => a7
  | 8 => a8
  | 9 => a9
  | 10 => a10
  | 11 => a11
  | 12 => a12
  | 13 => a13
  | 14 => a14
  | 15 => a15
  | 16 => a16
  | 17 => a17
  | 18 => a18
  | _ => a19
/-! ### what is asked of the written part, decided at once -/
def papB (K : PySem.W.Frag) (C : Addr) : Bool := ["NoneType", "bool", "int", "str"].all fun T => decide (PySem.W.kitOne K (.type T) (.ref C) = some false)
def objB (K : PySem.W.Frag) : Bool := decide (PySem.W.specialIn K (.builtin "object.__class__") "__get__" = some (some (.builtin "getset_descriptor.__get__"))) && decide (PySem.W.takesIn K (.builtin "object.__class__") = some true)
def exB (K : PySem.W.Frag) (C : Addr) : Bool := decide (PySem.W.findIn K (.ref C) "__getattribute__" = some (some (.builtin "BaseException.__getattribute__"))) && (decide (PySem.W.findIn K (.ref C) "__getattr__" = some none) && (decide (PySem.W.subIn K (.ref C) (.type "BaseException") = some true) && (PySem.W.hasDictIn K C
  && (decide (PySem.W.findIn K (.ref C) "__class__" = some (some (.builtin "object.__class__"))) && (decide (PySem.W.mroIn K C (.type "object") = some true)
  && (decide (PySem.W.findIn K (.ref C) "__setattr__" = some (some (.builtin "object.__setattr__"))) && (decide (PySem.W.typeIn K (.ref C) = some (.type "type")) && PySem.W.keepIn K (.ref C))))))))
def noB (K : PySem.W.Frag) (ps : List (Addr × Str)) : Bool := ps.all fun p => decide (PySem.W.findIn K (.ref p.1) p.2 = some none)
def kitsB (K : PySem.W.Frag) (C : Nat → Addr) : Bool := (List.range 20).all fun i => (List.range 20).all fun j => decide (PySem.W.kitOne K (.ref (C i)) (.ref (C j)) = some (decide (i = j)))
def kitLB (K : PySem.W.Frag) (CL : Addr) (C : Nat → Addr) : Bool := decide (PySem.W.kitOne K (.ref CL) (.type "ValueError") = some true) && (List.range 20).all fun j => decide (PySem.W.kitOne K (.ref CL) (.ref (C j)) = some false) && (decide (PySem.W.kitOne K (.ref (C j)) (.ref CL) = some true) && decide (PySem.W.kitOne K (.ref (C j)) (.type "ValueError") = some true))
abbrev fdOf {K : PySem.W.Frag} {x q : Str} {st : Stmt} {f : Addr} {fd : FuncData} (_ : Fun K x q st f fd) : FuncData := fd
theorem pap_mk {K : PySem.W.Frag} {C : Addr} (h : papB K C = true) : ∀ T ∈ ["NoneType", "bool", "int", "str"], PySem.W.kitOne K (.type T) (.ref C) = some false := by
  unfold papB at h
  simp only [List.all_eq_true, decide_eq_true_eq] at h
  exact h
structure ExF (K : PySem.W.Frag) (C : Addr) : Prop where
  ec : ExcC K C
  xf : XfC K C
  sa : PySem.W.findIn K (.ref C) "__setattr__" = some (some (.builtin "object.__setattr__"))
  ty : PySem.W.typeIn K (.ref C) = some (.type "type")
  kp : PySem.W.keepIn K (.ref C) = true
theorem ex_mk {K : PySem.W.Frag} {C : Addr} (hO : objB K = true) (h : exB K C = true) : ExF K C := by
  unfold objB at hO
  unfold exB at h
  simp only [Bool.and_eq_true, decide_eq_true_eq] at hO h
  obtain ⟨o1, o2⟩ := hO
  obtain ⟨h1, h2, h3, h4, h5, h6, h7, h8, h9⟩ := h
  exact ⟨⟨h1, h2, h3, h4, h5, o1, o2, h6⟩, ⟨h1, h2, h3, h4⟩, h7, h8, h9⟩
theorem ex_at {K : PySem.W.Frag} {C : Addr} {Cs : List Addr} (hO : objB K = true) (h : Cs.all (exB K) = true) (i : Nat) (e : Cs[i]? = some C) : ExF K C := ex_mk hO (List.all_eq_true.mp h C (List.mem_of_getElem? e))
theorem no_at {K : PySem.W.Frag} {ps : List (Addr × Str)} {C : Addr} {f : Str} (h : noB K ps = true) (i : Nat) (e : ps[i]? = some (C, f)) : PySem.W.findIn K (.ref C) f = some none := of_decide_eq_true (List.all_eq_true.mp h (C, f) (List.mem_of_getElem? e))
theorem kits_mk {K : PySem.W.Frag} {C : Nat → Addr} (h : kitsB K C = true) (i j : Nat) (hi : i < 20) (hj : j < 20) : PySem.W.kitOne K (.ref (C i)) (.ref (C j)) = some (decide (i = j)) :=
  of_decide_eq_true (List.all_eq_true.mp (List.all_eq_true.mp h i (List.mem_range.mpr hi)) j (List.mem_range.mpr hj))
theorem kitL_mk {K : PySem.W.Frag} {CL : Addr} {C : Nat → Addr} (h : kitLB K CL C = true) : PySem.W.kitOne K (.ref CL) (.type "ValueError") = some true ∧ ∀ j, j < 20 → PySem.W.kitOne K (.ref CL) (.ref (C j)) = some false ∧ PySem.W.kitOne K (.ref (C j)) (.ref CL) = some true ∧ PySem.W.kitOne K (.ref (C j)) (.type "ValueError") = some true := by
  unfold kitLB at h
  rw [Bool.and_eq_true] at h
  refine ⟨of_decide_eq_true h.1, fun j hj => ?_⟩
  have z := List.all_eq_true.mp h.2 j (List.mem_range.mpr hj)
  simp only [Bool.and_eq_true, decide_eq_true_eq] at z
  exact z
theorem kb1 {K : PySem.W.Frag} {nm qual y : Str} {st : Stmt} {f : Addr} {fd : FuncData} (F : Fun K nm qual st f fd)
    (h : ∀ (kV doc pm : Value) (an : Option Addr) (cdv ct u w : Value), bindArgs (PySem.W.fnOf nm qual (defArgs st) (defBody st) (defScope st) .none kV doc pm an cdv ct) ⟨[u], [(y, w)]⟩ = pure [(("self" : Str), u), (y, w)]) : KB K fd ["self", y] [y] idG idG := by
  obtain ⟨oc, od, kV, doc, pm, an, cdv, ct, osl, rfl, lk, hcd⟩ := F.ex
  refine ⟨fun t a ws hl => ?_, fun r => r, fun _ => rfl, rfl⟩
  match ws, hl with
  | [w], _ => exact .of_eq (h kV doc pm an cdv ct (.ref a) w)
theorem rev_vals : ∀ {vs : List V} {us : List Value}, Vals vs us → Vals vs.reverse us.reverse
  | _, _, .nil => .nil
  | _, _, .cons r t => by
    rw [List.reverse_cons, List.reverse_cons]
    exact (rev_vals t).append (.cons r .nil)
theorem kb2 {K : PySem.W.Frag} {nm qual y z : Str} {st : Stmt} {f : Addr} {fd : FuncData} (F : Fun K nm qual st f fd)
    (h : ∀ (kV doc pm : Value) (an : Option Addr) (cdv ct u v w : Value), bindArgs (PySem.W.fnOf nm qual (defArgs st) (defBody st) (defScope st) .none kV doc pm an cdv ct) ⟨[u], [(z, v), (y, w)]⟩ = pure [(("self" : Str), u), (y, w), (z, v)]) : KB K fd ["self", y, z] [z, y] revG revG := by
  obtain ⟨oc, od, kV, doc, pm, an, cdv, ct, osl, rfl, lk, hcd⟩ := F.ex
  refine ⟨fun t a ws hl => ?_, rev_vals, fun _ => List.length_reverse, rfl⟩
  match ws, hl with
  | [v, w], _ => exact .of_eq (h kV doc pm an cdv ct (.ref a) v w)
theorem all_mk {w : World} {K : PySem.W.Frag} {h : Heap} {mg : Str → Option Value} {fa : Addr} (X : K.In h) (G : h.Ns mainGlobals mg) (hfa : mg "law" = some (.ref fa))
    {f_Y : Addr} {od_Y an_Y : Option Addr} {sl_Y : Array (Option Value)} {oc_Y kV_Y dc_Y pm_Y cd_Y ct_Y : Value}
    {f_pe : Addr} {od_pe an_pe : Option Addr} {sl_pe : Array (Option Value)} {oc_pe kV_pe dc_pe pm_pe cd_pe ct_pe : Value}
    {f_dr : Addr} {od_dr an_dr : Option Addr} {sl_dr : Array (Option Value)} {oc_dr kV_dr dc_dr pm_dr cd_dr ct_dr : Value}
    {f_pi : Addr} {od_pi an_pi : Option Addr} {sl_pi : Array (Option Value)} {oc_pi kV_pi dc_pi pm_pi cd_pi ct_pi : Value}
    {f_th : Addr} {od_th an_th : Option Addr} {sl_th : Array (Option Value)} {oc_th kV_th dc_th pm_th cd_th ct_th : Value}
    {f_cl : Addr} {od_cl an_cl : Option Addr} {sl_cl : Array (Option Value)} {oc_cl kV_cl dc_cl pm_cl cd_cl ct_cl : Value}
    {f_va : Addr} {od_va an_va : Option Addr} {sl_va : Array (Option Value)} {oc_va kV_va dc_va pm_va cd_va ct_va : Value}
    {f_pa : Addr} {od_pa an_pa : Option Addr} {sl_pa : Array (Option Value)} {oc_pa kV_pa dc_pa pm_pa cd_pa ct_pa : Value}
    {f_pl : Addr} {od_pl an_pl : Option Addr} {sl_pl : Array (Option Value)} {oc_pl kV_pl dc_pl pm_pl cd_pl ct_pl : Value}
    {f_na : Addr} {od_na an_na : Option Addr} {sl_na : Array (Option Value)} {oc_na kV_na dc_na pm_na cd_na ct_na : Value}
    {f_ot : Addr} {od_ot an_ot : Option Addr} {sl_ot : Array (Option Value)} {oc_ot kV_ot dc_ot pm_ot cd_ot ct_ot : Value}
    {f_la : Addr} {od_la an_la : Option Addr} {sl_la : Array (Option Value)} {oc_la kV_la dc_la pm_la cd_la ct_la : Value}
    {x0 : Addr}
    {x1 : Addr}
    {x2 : Addr}
    {x3 : Addr}
    {x4 : Addr}
    {x5 : Addr}
    {x6 : Addr}
    {x7 : Addr}
    {x8 : Addr}
    {x9 : Addr}
    {x10 : Addr}
    {x11 : Addr}
    {x12 : Addr}
    {x13 : Addr}
    {x14 : Addr}
    {x15 : Addr}
    {x16 : Addr}
    {x17 : Addr}
    {x18 : Addr}
    {x19 : Addr}
    {xL : Addr}
    {bP : Addr}
    {f_i0 : Addr} {od_i0 an_i0 : Option Addr} {sl_i0 : Array (Option Value)} {oc_i0 kV_i0 dc_i0 pm_i0 cd_i0 ct_i0 : Value}
    {f_i1 : Addr} {od_i1 an_i1 : Option Addr} {sl_i1 : Array (Option Value)} {oc_i1 kV_i1 dc_i1 pm_i1 cd_i1 ct_i1 : Value}
    {f_i2 : Addr} {od_i2 an_i2 : Option Addr} {sl_i2 : Array (Option Value)} {oc_i2 kV_i2 dc_i2 pm_i2 cd_i2 ct_i2 : Value}
    {f_i3 : Addr} {od_i3 an_i3 : Option Addr} {sl_i3 : Array (Option Value)} {oc_i3 kV_i3 dc_i3 pm_i3 cd_i3 ct_i3 : Value}
    {f_i4 : Addr} {od_i4 an_i4 : Option Addr} {sl_i4 : Array (Option Value)} {oc_i4 kV_i4 dc_i4 pm_i4 cd_i4 ct_i4 : Value}
    {f_i5 : Addr} {od_i5 an_i5 : Option Addr} {sl_i5 : Array (Option Value)} {oc_i5 kV_i5 dc_i5 pm_i5 cd_i5 ct_i5 : Value}
    {f_i6 : Addr} {od_i6 an_i6 : Option Addr} {sl_i6 : Array (Option Value)} {oc_i6 kV_i6 dc_i6 pm_i6 cd_i6 ct_i6 : Value}
    {f_i7 : Addr} {od_i7 an_i7 : Option Addr} {sl_i7 : Array (Option Value)} {oc_i7 kV_i7 dc_i7 pm_i7 cd_i7 ct_i7 : Value}
    {f_i8 : Addr} {od_i8 an_i8 : Option Addr} {sl_i8 : Array (Option Value)} {oc_i8 kV_i8 dc_i8 pm_i8 cd_i8 ct_i8 : Value}
    {f_i9 : Addr} {od_i9 an_i9 : Option Addr} {sl_i9 : Array (Option Value)} {oc_i9 kV_i9 dc_i9 pm_i9 cd_i9 ct_i9 : Value}
    {f_i10 : Addr} {od_i10 an_i10 : Option Addr} {sl_i10 : Array (Option Value)} {oc_i10 kV_i10 dc_i10 pm_i10 cd_i10 ct_i10 : Value}
    {f_i11 : Addr} {od_i11 an_i11 : Option Addr} {sl_i11 : Array (Option Value)} {oc_i11 kV_i11 dc_i11 pm_i11 cd_i11 ct_i11 : Value}
    {f_i12 : Addr} {od_i12 an_i12 : Option Addr} {sl_i12 : Array (Option Value)} {oc_i12 kV_i12 dc_i12 pm_i12 cd_i12 ct_i12 : Value}
    {f_i13 : Addr} {od_i13 an_i13 : Option Addr} {sl_i13 : Array (Option Value)} {oc_i13 kV_i13 dc_i13 pm_i13 cd_i13 ct_i13 : Value}
    {f_i14 : Addr} {od_i14 an_i14 : Option Addr} {sl_i14 : Array (Option Value)} {oc_i14 kV_i14 dc_i14 pm_i14 cd_i14 ct_i14 : Value}
    {f_i15 : Addr} {od_i15 an_i15 : Option Addr} {sl_i15 : Array (Option Value)} {oc_i15 kV_i15 dc_i15 pm_i15 cd_i15 ct_i15 : Value}
    {f_i16 : Addr} {od_i16 an_i16 : Option Addr} {sl_i16 : Array (Option Value)} {oc_i16 kV_i16 dc_i16 pm_i16 cd_i16 ct_i16 : Value}
    {f_i17 : Addr} {od_i17 an_i17 : Option Addr} {sl_i17 : Array (Option Value)} {oc_i17 kV_i17 dc_i17 pm_i17 cd_i17 ct_i17 : Value}
    {f_i18 : Addr} {od_i18 an_i18 : Option Addr} {sl_i18 : Array (Option Value)} {oc_i18 kV_i18 dc_i18 pm_i18 cd_i18 ct_i18 : Value}
    {nm_x0 q_x0 : Str} {N_x0 : Addr} {bs_x0 bm_x0 sub_x0 : List Value} {sn_x0 : List Str} {ab_x0 : Bool} {col_x0 : Option Bool} {dd_x0 : Option Addr} {k0_x0 k1_x0 k2_x0 k3_x0 k5_x0 : Option Value}
    {nm_x1 q_x1 : Str} {N_x1 : Addr} {bs_x1 bm_x1 sub_x1 : List Value} {sn_x1 : List Str} {ab_x1 : Bool} {col_x1 : Option Bool} {dd_x1 : Option Addr} {k0_x1 k1_x1 k2_x1 k3_x1 k5_x1 : Option Value}
    {nm_x2 q_x2 : Str} {N_x2 : Addr} {bs_x2 bm_x2 sub_x2 : List Value} {sn_x2 : List Str} {ab_x2 : Bool} {col_x2 : Option Bool} {dd_x2 : Option Addr} {k0_x2 k1_x2 k2_x2 k3_x2 k5_x2 : Option Value}
    {nm_x3 q_x3 : Str} {N_x3 : Addr} {bs_x3 bm_x3 sub_x3 : List Value} {sn_x3 : List Str} {ab_x3 : Bool} {col_x3 : Option Bool} {dd_x3 : Option Addr} {k0_x3 k1_x3 k2_x3 k3_x3 k5_x3 : Option Value}
    {nm_x4 q_x4 : Str} {N_x4 : Addr} {bs_x4 bm_x4 sub_x4 : List Value} {sn_x4 : List Str} {ab_x4 : Bool} {col_x4 : Option Bool} {dd_x4 : Option Addr} {k0_x4 k1_x4 k2_x4 k3_x4 k5_x4 : Option Value}
    {nm_x5 q_x5 : Str} {N_x5 : Addr} {bs_x5 bm_x5 sub_x5 : List Value} {sn_x5 : List Str} {ab_x5 : Bool} {col_x5 : Option Bool} {dd_x5 : Option Addr} {k0_x5 k1_x5 k2_x5 k3_x5 k5_x5 : Option Value}
    {nm_x6 q_x6 : Str} {N_x6 : Addr} {bs_x6 bm_x6 sub_x6 : List Value} {sn_x6 : List Str} {ab_x6 : Bool} {col_x6 : Option Bool} {dd_x6 : Option Addr} {k0_x6 k1_x6 k2_x6 k3_x6 k5_x6 : Option Value}
    {nm_x7 q_x7 : Str} {N_x7 : Addr} {bs_x7 bm_x7 sub_x7 : List Value} {sn_x7 : List Str} {ab_x7 : Bool} {col_x7 : Option Bool} {dd_x7 : Option Addr} {k0_x7 k1_x7 k2_x7 k3_x7 k5_x7 : Option Value}
    {nm_x8 q_x8 : Str} {N_x8 : Addr} {bs_x8 bm_x8 sub_x8 : List Value} {sn_x8 : List Str} {ab_x8 : Bool} {col_x8 : Option Bool} {dd_x8 : Option Addr} {k0_x8 k1_x8 k2_x8 k3_x8 k5_x8 : Option Value}
    {nm_x9 q_x9 : Str} {N_x9 : Addr} {bs_x9 bm_x9 sub_x9 : List Value} {sn_x9 : List Str} {ab_x9 : Bool} {col_x9 : Option Bool} {dd_x9 : Option Addr} {k0_x9 k1_x9 k2_x9 k3_x9 k5_x9 : Option Value}
    {nm_x10 q_x10 : Str} {N_x10 : Addr} {bs_x10 bm_x10 sub_x10 : List Value} {sn_x10 : List Str} {ab_x10 : Bool} {col_x10 : Option Bool} {dd_x10 : Option Addr} {k0_x10 k1_x10 k2_x10 k3_x10 k5_x10 : Option Value}
    {nm_x11 q_x11 : Str} {N_x11 : Addr} {bs_x11 bm_x11 sub_x11 : List Value} {sn_x11 : List Str} {ab_x11 : Bool} {col_x11 : Option Bool} {dd_x11 : Option Addr} {k0_x11 k1_x11 k2_x11 k3_x11 k5_x11 : Option Value}
    {nm_x12 q_x12 : Str} {N_x12 : Addr} {bs_x12 bm_x12 sub_x12 : List Value} {sn_x12 : List Str} {ab_x12 : Bool} {col_x12 : Option Bool} {dd_x12 : Option Addr} {k0_x12 k1_x12 k2_x12 k3_x12 k5_x12 : Option Value}
    {nm_x13 q_x13 : Str} {N_x13 : Addr} {bs_x13 bm_x13 sub_x13 : List Value} {sn_x13 : List Str} {ab_x13 : Bool} {col_x13 : Option Bool} {dd_x13 : Option Addr} {k0_x13 k1_x13 k2_x13 k3_x13 k5_x13 : Option Value}
    {nm_x14 q_x14 : Str} {N_x14 : Addr} {bs_x14 bm_x14 sub_x14 : List Value} {sn_x14 : List Str} {ab_x14 : Bool} {col_x14 : Option Bool} {dd_x14 : Option Addr} {k0_x14 k1_x14 k2_x14 k3_x14 k5_x14 : Option Value}
    {nm_x15 q_x15 : Str} {N_x15 : Addr} {bs_x15 bm_x15 sub_x15 : List Value} {sn_x15 : List Str} {ab_x15 : Bool} {col_x15 : Option Bool} {dd_x15 : Option Addr} {k0_x15 k1_x15 k2_x15 k3_x15 k5_x15 : Option Value}
    {nm_x16 q_x16 : Str} {N_x16 : Addr} {bs_x16 bm_x16 sub_x16 : List Value} {sn_x16 : List Str} {ab_x16 : Bool} {col_x16 : Option Bool} {dd_x16 : Option Addr} {k0_x16 k1_x16 k2_x16 k3_x16 k5_x16 : Option Value}
    {nm_x17 q_x17 : Str} {N_x17 : Addr} {bs_x17 bm_x17 sub_x17 : List Value} {sn_x17 : List Str} {ab_x17 : Bool} {col_x17 : Option Bool} {dd_x17 : Option Addr} {k0_x17 k1_x17 k2_x17 k3_x17 k5_x17 : Option Value}
    {nm_x18 q_x18 : Str} {N_x18 : Addr} {bs_x18 bm_x18 sub_x18 : List Value} {sn_x18 : List Str} {ab_x18 : Bool} {col_x18 : Option Bool} {dd_x18 : Option Addr} {k0_x18 k1_x18 k2_x18 k3_x18 k5_x18 : Option Value}
    (a_Y : PySem.W.nsIn K mainGlobals "copied" = some (some (.ref f_Y)))
    (l_Y : K.lookup f_Y = some ⟨oc_Y, od_Y, .func (PySem.W.fnOf "copied" "copied" (defArgs sCopied) (defBody sCopied) (defScope sCopied) .none kV_Y dc_Y pm_Y an_Y cd_Y ct_Y), sl_Y⟩)
    (c_Y : PySem.W.codeIn K cd_Y "copied" = true)
    (k_Y : PySem.W.keepIn K (.ref f_Y) = true)
    (a_pe : PySem.W.nsIn K mainGlobals "_law_pen" = some (some (.ref f_pe)))
    (l_pe : K.lookup f_pe = some ⟨oc_pe, od_pe, .func (PySem.W.fnOf "_law_pen" "_law_pen" (defArgs sPen) (defBody sPen) (defScope sPen) .none kV_pe dc_pe pm_pe an_pe cd_pe ct_pe), sl_pe⟩)
    (c_pe : PySem.W.codeIn K cd_pe "_law_pen" = true)
    (k_pe : PySem.W.keepIn K (.ref f_pe) = true)
    (a_dr : PySem.W.nsIn K mainGlobals "_law_draw" = some (some (.ref f_dr)))
    (l_dr : K.lookup f_dr = some ⟨oc_dr, od_dr, .func (PySem.W.fnOf "_law_draw" "_law_draw" (defArgs sDraw) (defBody sDraw) (defScope sDraw) .none kV_dr dc_dr pm_dr an_dr cd_dr ct_dr), sl_dr⟩)
    (c_dr : PySem.W.codeIn K cd_dr "_law_draw" = true)
    (k_dr : PySem.W.keepIn K (.ref f_dr) = true)
    (a_pi : PySem.W.nsIn K mainGlobals "_law_pick" = some (some (.ref f_pi)))
    (l_pi : K.lookup f_pi = some ⟨oc_pi, od_pi, .func (PySem.W.fnOf "_law_pick" "_law_pick" (defArgs sPick) (defBody sPick) (defScope sPick) .none kV_pi dc_pi pm_pi an_pi cd_pi ct_pi), sl_pi⟩)
    (c_pi : PySem.W.codeIn K cd_pi "_law_pick" = true)
    (k_pi : PySem.W.keepIn K (.ref f_pi) = true)
    (a_th : PySem.W.nsIn K mainGlobals "_law_thing" = some (some (.ref f_th)))
    (l_th : K.lookup f_th = some ⟨oc_th, od_th, .func (PySem.W.fnOf "_law_thing" "_law_thing" (defArgs sThing) (defBody sThing) (defScope sThing) .none kV_th dc_th pm_th an_th cd_th ct_th), sl_th⟩)
    (c_th : PySem.W.codeIn K cd_th "_law_thing" = true)
    (k_th : PySem.W.keepIn K (.ref f_th) = true)
    (a_cl : PySem.W.nsIn K mainGlobals "_law_classes" = some (some (.ref f_cl)))
    (l_cl : K.lookup f_cl = some ⟨oc_cl, od_cl, .func (PySem.W.fnOf "_law_classes" "_law_classes" (defArgs sClasses) (defBody sClasses) (defScope sClasses) .none kV_cl dc_cl pm_cl an_cl cd_cl ct_cl), sl_cl⟩)
    (c_cl : PySem.W.codeIn K cd_cl "_law_classes" = true)
    (k_cl : PySem.W.keepIn K (.ref f_cl) = true)
    (a_va : PySem.W.nsIn K mainGlobals "_law_valued" = some (some (.ref f_va)))
    (l_va : K.lookup f_va = some ⟨oc_va, od_va, .func (PySem.W.fnOf "_law_valued" "_law_valued" (defArgs sValued) (defBody sValued) (defScope sValued) .none kV_va dc_va pm_va an_va cd_va ct_va), sl_va⟩)
    (c_va : PySem.W.codeIn K cd_va "_law_valued" = true)
    (k_va : PySem.W.keepIn K (.ref f_va) = true)
    (a_pa : PySem.W.nsIn K mainGlobals "_law_parted" = some (some (.ref f_pa)))
    (l_pa : K.lookup f_pa = some ⟨oc_pa, od_pa, .func (PySem.W.fnOf "_law_parted" "_law_parted" (defArgs sParted) (defBody sParted) (defScope sParted) .none kV_pa dc_pa pm_pa an_pa cd_pa ct_pa), sl_pa⟩)
    (c_pa : PySem.W.codeIn K cd_pa "_law_parted" = true)
    (k_pa : PySem.W.keepIn K (.ref f_pa) = true)
    (a_pl : PySem.W.nsIn K mainGlobals "_law_placed" = some (some (.ref f_pl)))
    (l_pl : K.lookup f_pl = some ⟨oc_pl, od_pl, .func (PySem.W.fnOf "_law_placed" "_law_placed" (defArgs sPlaced) (defBody sPlaced) (defScope sPlaced) .none kV_pl dc_pl pm_pl an_pl cd_pl ct_pl), sl_pl⟩)
    (c_pl : PySem.W.codeIn K cd_pl "_law_placed" = true)
    (k_pl : PySem.W.keepIn K (.ref f_pl) = true)
    (a_na : PySem.W.nsIn K mainGlobals "_law_named" = some (some (.ref f_na)))
    (l_na : K.lookup f_na = some ⟨oc_na, od_na, .func (PySem.W.fnOf "_law_named" "_law_named" (defArgs sNamed) (defBody sNamed) (defScope sNamed) .none kV_na dc_na pm_na an_na cd_na ct_na), sl_na⟩)
    (c_na : PySem.W.codeIn K cd_na "_law_named" = true)
    (k_na : PySem.W.keepIn K (.ref f_na) = true)
    (a_ot : PySem.W.nsIn K mainGlobals "_law_others_right" = some (some (.ref f_ot)))
    (l_ot : K.lookup f_ot = some ⟨oc_ot, od_ot, .func (PySem.W.fnOf "_law_others_right" "_law_others_right" (defArgs sOthers) (defBody sOthers) (defScope sOthers) .none kV_ot dc_ot pm_ot an_ot cd_ot ct_ot), sl_ot⟩)
    (c_ot : PySem.W.codeIn K cd_ot "_law_others_right" = true)
    (k_ot : PySem.W.keepIn K (.ref f_ot) = true)
    (a_la : PySem.W.nsIn K mainGlobals "law" = some (some (.ref f_la)))
    (l_la : K.lookup f_la = some ⟨oc_la, od_la, .func (PySem.W.fnOf "law" "law" (defArgs sLaw) (defBody sLaw) (defScope sLaw) .none kV_la dc_la pm_la an_la cd_la ct_la), sl_la⟩)
    (c_la : PySem.W.codeIn K cd_la "law" = true)
    (k_la : PySem.W.keepIn K (.ref f_la) = true)
    (g_x0 : PySem.W.nsIn K mainGlobals "BadName" = some (some (.ref x0)))
    (g_x1 : PySem.W.nsIn K mainGlobals "BadWord" = some (some (.ref x1)))
    (g_x2 : PySem.W.nsIn K mainGlobals "BadNumber" = some (some (.ref x2)))
    (g_x3 : PySem.W.nsIn K mainGlobals "BadProgram" = some (some (.ref x3)))
    (g_x4 : PySem.W.nsIn K mainGlobals "BadStack" = some (some (.ref x4)))
    (g_x5 : PySem.W.nsIn K mainGlobals "BadWish" = some (some (.ref x5)))
    (g_x6 : PySem.W.nsIn K mainGlobals "BadTalk" = some (some (.ref x6)))
    (g_x7 : PySem.W.nsIn K mainGlobals "BadBook" = some (some (.ref x7)))
    (g_x8 : PySem.W.nsIn K mainGlobals "Unlike" = some (some (.ref x8)))
    (g_x9 : PySem.W.nsIn K mainGlobals "BadDeed" = some (some (.ref x9)))
    (g_x10 : PySem.W.nsIn K mainGlobals "BadHandler" = some (some (.ref x10)))
    (g_x11 : PySem.W.nsIn K mainGlobals "BadSample" = some (some (.ref x11)))
    (g_x12 : PySem.W.nsIn K mainGlobals "NoPlace" = some (some (.ref x12)))
    (g_x13 : PySem.W.nsIn K mainGlobals "NoName" = some (some (.ref x13)))
    (g_x14 : PySem.W.nsIn K mainGlobals "Taken" = some (some (.ref x14)))
    (g_x15 : PySem.W.nsIn K mainGlobals "Unfit" = some (some (.ref x15)))
    (g_x16 : PySem.W.nsIn K mainGlobals "BadText" = some (some (.ref x16)))
    (g_x17 : PySem.W.nsIn K mainGlobals "BadLine" = some (some (.ref x17)))
    (g_x18 : PySem.W.nsIn K mainGlobals "TooMany" = some (some (.ref x18)))
    (g_x19 : PySem.W.nsIn K mainGlobals "NoChange" = some (some (.ref x19)))
    (g_xL : PySem.W.nsIn K mainGlobals "LayerError" = some (some (.ref xL)))
    (g_bP : PySem.W.nsIn K mainGlobals "Paper" = some (some (.ref bP)))
    (m_i0 : PySem.W.findIn K (.ref x0) "__init__" = some (some (.ref f_i0)))
    (l_i0 : K.lookup f_i0 = some ⟨oc_i0, od_i0, .func (PySem.W.fnOf "__init__" "BadName.__init__" (defArgs sI_BadName) (defBody sI_BadName) (defScope sI_BadName) .none kV_i0 dc_i0 pm_i0 an_i0 cd_i0 ct_i0), sl_i0⟩)
    (c_i0 : PySem.W.codeIn K cd_i0 "BadName.__init__" = true)
    (k_i0 : PySem.W.keepIn K (.ref f_i0) = true)
    (y_i0 : PySem.W.typeIn K (.ref f_i0) = some (.type "function"))
    (m_i1 : PySem.W.findIn K (.ref x1) "__init__" = some (some (.ref f_i1)))
    (l_i1 : K.lookup f_i1 = some ⟨oc_i1, od_i1, .func (PySem.W.fnOf "__init__" "BadWord.__init__" (defArgs sI_BadWord) (defBody sI_BadWord) (defScope sI_BadWord) .none kV_i1 dc_i1 pm_i1 an_i1 cd_i1 ct_i1), sl_i1⟩)
    (c_i1 : PySem.W.codeIn K cd_i1 "BadWord.__init__" = true)
    (k_i1 : PySem.W.keepIn K (.ref f_i1) = true)
    (y_i1 : PySem.W.typeIn K (.ref f_i1) = some (.type "function"))
    (m_i2 : PySem.W.findIn K (.ref x2) "__init__" = some (some (.ref f_i2)))
    (l_i2 : K.lookup f_i2 = some ⟨oc_i2, od_i2, .func (PySem.W.fnOf "__init__" "BadNumber.__init__" (defArgs sI_BadNumber) (defBody sI_BadNumber) (defScope sI_BadNumber) .none kV_i2 dc_i2 pm_i2 an_i2 cd_i2 ct_i2), sl_i2⟩)
    (c_i2 : PySem.W.codeIn K cd_i2 "BadNumber.__init__" = true)
    (k_i2 : PySem.W.keepIn K (.ref f_i2) = true)
    (y_i2 : PySem.W.typeIn K (.ref f_i2) = some (.type "function"))
    (m_i3 : PySem.W.findIn K (.ref x3) "__init__" = some (some (.ref f_i3)))
    (l_i3 : K.lookup f_i3 = some ⟨oc_i3, od_i3, .func (PySem.W.fnOf "__init__" "BadProgram.__init__" (defArgs sI_BadProgram) (defBody sI_BadProgram) (defScope sI_BadProgram) .none kV_i3 dc_i3 pm_i3 an_i3 cd_i3 ct_i3), sl_i3⟩)
    (c_i3 : PySem.W.codeIn K cd_i3 "BadProgram.__init__" = true)
    (k_i3 : PySem.W.keepIn K (.ref f_i3) = true)
    (y_i3 : PySem.W.typeIn K (.ref f_i3) = some (.type "function"))
    (m_i4 : PySem.W.findIn K (.ref x4) "__init__" = some (some (.ref f_i4)))
    (l_i4 : K.lookup f_i4 = some ⟨oc_i4, od_i4, .func (PySem.W.fnOf "__init__" "BadStack.__init__" (defArgs sI_BadStack) (defBody sI_BadStack) (defScope sI_BadStack) .none kV_i4 dc_i4 pm_i4 an_i4 cd_i4 ct_i4), sl_i4⟩)
    (c_i4 : PySem.W.codeIn K cd_i4 "BadStack.__init__" = true)
    (k_i4 : PySem.W.keepIn K (.ref f_i4) = true)
    (y_i4 : PySem.W.typeIn K (.ref f_i4) = some (.type "function"))
    (m_i5 : PySem.W.findIn K (.ref x5) "__init__" = some (some (.ref f_i5)))
    (l_i5 : K.lookup f_i5 = some ⟨oc_i5, od_i5, .func (PySem.W.fnOf "__init__" "BadWish.__init__" (defArgs sI_BadWish) (defBody sI_BadWish) (defScope sI_BadWish) .none kV_i5 dc_i5 pm_i5 an_i5 cd_i5 ct_i5), sl_i5⟩)
    (c_i5 : PySem.W.codeIn K cd_i5 "BadWish.__init__" = true)
    (k_i5 : PySem.W.keepIn K (.ref f_i5) = true)
    (y_i5 : PySem.W.typeIn K (.ref f_i5) = some (.type "function"))
    (m_i6 : PySem.W.findIn K (.ref x6) "__init__" = some (some (.ref f_i6)))
    (l_i6 : K.lookup f_i6 = some ⟨oc_i6, od_i6, .func (PySem.W.fnOf "__init__" "BadTalk.__init__" (defArgs sI_BadTalk) (defBody sI_BadTalk) (defScope sI_BadTalk) .none kV_i6 dc_i6 pm_i6 an_i6 cd_i6 ct_i6), sl_i6⟩)
    (c_i6 : PySem.W.codeIn K cd_i6 "BadTalk.__init__" = true)
    (k_i6 : PySem.W.keepIn K (.ref f_i6) = true)
    (y_i6 : PySem.W.typeIn K (.ref f_i6) = some (.type "function"))
    (m_i7 : PySem.W.findIn K (.ref x7) "__init__" = some (some (.ref f_i7)))
    (l_i7 : K.lookup f_i7 = some ⟨oc_i7, od_i7, .func (PySem.W.fnOf "__init__" "BadBook.__init__" (defArgs sI_BadBook) (defBody sI_BadBook) (defScope sI_BadBook) .none kV_i7 dc_i7 pm_i7 an_i7 cd_i7 ct_i7), sl_i7⟩)
    (c_i7 : PySem.W.codeIn K cd_i7 "BadBook.__init__" = true)
    (k_i7 : PySem.W.keepIn K (.ref f_i7) = true)
    (y_i7 : PySem.W.typeIn K (.ref f_i7) = some (.type "function"))
    (m_i8 : PySem.W.findIn K (.ref x8) "__init__" = some (some (.ref f_i8)))
    (l_i8 : K.lookup f_i8 = some ⟨oc_i8, od_i8, .func (PySem.W.fnOf "__init__" "Unlike.__init__" (defArgs sI_Unlike) (defBody sI_Unlike) (defScope sI_Unlike) .none kV_i8 dc_i8 pm_i8 an_i8 cd_i8 ct_i8), sl_i8⟩)
    (c_i8 : PySem.W.codeIn K cd_i8 "Unlike.__init__" = true)
    (k_i8 : PySem.W.keepIn K (.ref f_i8) = true)
    (y_i8 : PySem.W.typeIn K (.ref f_i8) = some (.type "function"))
    (m_i9 : PySem.W.findIn K (.ref x9) "__init__" = some (some (.ref f_i9)))
    (l_i9 : K.lookup f_i9 = some ⟨oc_i9, od_i9, .func (PySem.W.fnOf "__init__" "BadDeed.__init__" (defArgs sI_BadDeed) (defBody sI_BadDeed) (defScope sI_BadDeed) .none kV_i9 dc_i9 pm_i9 an_i9 cd_i9 ct_i9), sl_i9⟩)
    (c_i9 : PySem.W.codeIn K cd_i9 "BadDeed.__init__" = true)
    (k_i9 : PySem.W.keepIn K (.ref f_i9) = true)
    (y_i9 : PySem.W.typeIn K (.ref f_i9) = some (.type "function"))
    (m_i10 : PySem.W.findIn K (.ref x10) "__init__" = some (some (.ref f_i10)))
    (l_i10 : K.lookup f_i10 = some ⟨oc_i10, od_i10, .func (PySem.W.fnOf "__init__" "BadHandler.__init__" (defArgs sI_BadHandler) (defBody sI_BadHandler) (defScope sI_BadHandler) .none kV_i10 dc_i10 pm_i10 an_i10 cd_i10 ct_i10), sl_i10⟩)
    (c_i10 : PySem.W.codeIn K cd_i10 "BadHandler.__init__" = true)
    (k_i10 : PySem.W.keepIn K (.ref f_i10) = true)
    (y_i10 : PySem.W.typeIn K (.ref f_i10) = some (.type "function"))
    (m_i11 : PySem.W.findIn K (.ref x11) "__init__" = some (some (.ref f_i11)))
    (l_i11 : K.lookup f_i11 = some ⟨oc_i11, od_i11, .func (PySem.W.fnOf "__init__" "BadSample.__init__" (defArgs sI_BadSample) (defBody sI_BadSample) (defScope sI_BadSample) .none kV_i11 dc_i11 pm_i11 an_i11 cd_i11 ct_i11), sl_i11⟩)
    (c_i11 : PySem.W.codeIn K cd_i11 "BadSample.__init__" = true)
    (k_i11 : PySem.W.keepIn K (.ref f_i11) = true)
    (y_i11 : PySem.W.typeIn K (.ref f_i11) = some (.type "function"))
    (m_i12 : PySem.W.findIn K (.ref x12) "__init__" = some (some (.ref f_i12)))
    (l_i12 : K.lookup f_i12 = some ⟨oc_i12, od_i12, .func (PySem.W.fnOf "__init__" "NoPlace.__init__" (defArgs sI_NoPlace) (defBody sI_NoPlace) (defScope sI_NoPlace) .none kV_i12 dc_i12 pm_i12 an_i12 cd_i12 ct_i12), sl_i12⟩)
    (c_i12 : PySem.W.codeIn K cd_i12 "NoPlace.__init__" = true)
    (k_i12 : PySem.W.keepIn K (.ref f_i12) = true)
    (y_i12 : PySem.W.typeIn K (.ref f_i12) = some (.type "function"))
    (m_i13 : PySem.W.findIn K (.ref x13) "__init__" = some (some (.ref f_i13)))
    (l_i13 : K.lookup f_i13 = some ⟨oc_i13, od_i13, .func (PySem.W.fnOf "__init__" "NoName.__init__" (defArgs sI_NoName) (defBody sI_NoName) (defScope sI_NoName) .none kV_i13 dc_i13 pm_i13 an_i13 cd_i13 ct_i13), sl_i13⟩)
    (c_i13 : PySem.W.codeIn K cd_i13 "NoName.__init__" = true)
    (k_i13 : PySem.W.keepIn K (.ref f_i13) = true)
    (y_i13 : PySem.W.typeIn K (.ref f_i13) = some (.type "function"))
    (m_i14 : PySem.W.findIn K (.ref x14) "__init__" = some (some (.ref f_i14)))
    (l_i14 : K.lookup f_i14 = some ⟨oc_i14, od_i14, .func (PySem.W.fnOf "__init__" "Taken.__init__" (defArgs sI_Taken) (defBody sI_Taken) (defScope sI_Taken) .none kV_i14 dc_i14 pm_i14 an_i14 cd_i14 ct_i14), sl_i14⟩)
    (c_i14 : PySem.W.codeIn K cd_i14 "Taken.__init__" = true)
    (k_i14 : PySem.W.keepIn K (.ref f_i14) = true)
    (y_i14 : PySem.W.typeIn K (.ref f_i14) = some (.type "function"))
    (m_i15 : PySem.W.findIn K (.ref x15) "__init__" = some (some (.ref f_i15)))
    (l_i15 : K.lookup f_i15 = some ⟨oc_i15, od_i15, .func (PySem.W.fnOf "__init__" "Unfit.__init__" (defArgs sI_Unfit) (defBody sI_Unfit) (defScope sI_Unfit) .none kV_i15 dc_i15 pm_i15 an_i15 cd_i15 ct_i15), sl_i15⟩)
    (c_i15 : PySem.W.codeIn K cd_i15 "Unfit.__init__" = true)
    (k_i15 : PySem.W.keepIn K (.ref f_i15) = true)
    (y_i15 : PySem.W.typeIn K (.ref f_i15) = some (.type "function"))
    (m_i16 : PySem.W.findIn K (.ref x16) "__init__" = some (some (.ref f_i16)))
    (l_i16 : K.lookup f_i16 = some ⟨oc_i16, od_i16, .func (PySem.W.fnOf "__init__" "BadText.__init__" (defArgs sI_BadText) (defBody sI_BadText) (defScope sI_BadText) .none kV_i16 dc_i16 pm_i16 an_i16 cd_i16 ct_i16), sl_i16⟩)
    (c_i16 : PySem.W.codeIn K cd_i16 "BadText.__init__" = true)
    (k_i16 : PySem.W.keepIn K (.ref f_i16) = true)
    (y_i16 : PySem.W.typeIn K (.ref f_i16) = some (.type "function"))
    (m_i17 : PySem.W.findIn K (.ref x17) "__init__" = some (some (.ref f_i17)))
    (l_i17 : K.lookup f_i17 = some ⟨oc_i17, od_i17, .func (PySem.W.fnOf "__init__" "BadLine.__init__" (defArgs sI_BadLine) (defBody sI_BadLine) (defScope sI_BadLine) .none kV_i17 dc_i17 pm_i17 an_i17 cd_i17 ct_i17), sl_i17⟩)
    (c_i17 : PySem.W.codeIn K cd_i17 "BadLine.__init__" = true)
    (k_i17 : PySem.W.keepIn K (.ref f_i17) = true)
    (y_i17 : PySem.W.typeIn K (.ref f_i17) = some (.type "function"))
    (m_i18 : PySem.W.findIn K (.ref x18) "__init__" = some (some (.ref f_i18)))
    (l_i18 : K.lookup f_i18 = some ⟨oc_i18, od_i18, .func (PySem.W.fnOf "__init__" "TooMany.__init__" (defArgs sI_TooMany) (defBody sI_TooMany) (defScope sI_TooMany) .none kV_i18 dc_i18 pm_i18 an_i18 cd_i18 ct_i18), sl_i18⟩)
    (c_i18 : PySem.W.codeIn K cd_i18 "TooMany.__init__" = true)
    (k_i18 : PySem.W.keepIn K (.ref f_i18) = true)
    (y_i18 : PySem.W.typeIn K (.ref f_i18) = some (.type "function"))
    (z_int : PySem.W.nsIn K mainGlobals "int" = some none)
    (z_len : PySem.W.nsIn K mainGlobals "len" = some none)
    (z_abs : PySem.W.nsIn K mainGlobals "abs" = some none)
    (z_list : PySem.W.nsIn K mainGlobals "list" = some none)
    (z_tuple : PySem.W.nsIn K mainGlobals "tuple" = some none)
    (z_dict : PySem.W.nsIn K mainGlobals "dict" = some none)
    (z_range : PySem.W.nsIn K mainGlobals "range" = some none)
    (z_isinstance : PySem.W.nsIn K mainGlobals "isinstance" = some none)
    (z_repr : PySem.W.nsIn K mainGlobals "repr" = some none)
    (z_enumerate : PySem.W.nsIn K mainGlobals "enumerate" = some none)
    (z_ValueError : PySem.W.nsIn K mainGlobals "ValueError" = some none)
    (lo_x0 : K.lookup x0 = some (PySem.excClassObj nm_x0 q_x0 x0 N_x0 bs_x0 bm_x0 true sn_x0 sub_x0 ab_x0 col_x0 dd_x0 k0_x0 k1_x0 k2_x0 k3_x0 k5_x0 "ValueError.__new__"))
    (ve_x0 : PySem.HandSPX.refsVE bm_x0 = true)
    (lo_x1 : K.lookup x1 = some (PySem.excClassObj nm_x1 q_x1 x1 N_x1 bs_x1 bm_x1 true sn_x1 sub_x1 ab_x1 col_x1 dd_x1 k0_x1 k1_x1 k2_x1 k3_x1 k5_x1 "ValueError.__new__"))
    (ve_x1 : PySem.HandSPX.refsVE bm_x1 = true)
    (lo_x2 : K.lookup x2 = some (PySem.excClassObj nm_x2 q_x2 x2 N_x2 bs_x2 bm_x2 true sn_x2 sub_x2 ab_x2 col_x2 dd_x2 k0_x2 k1_x2 k2_x2 k3_x2 k5_x2 "ValueError.__new__"))
    (ve_x2 : PySem.HandSPX.refsVE bm_x2 = true)
    (lo_x3 : K.lookup x3 = some (PySem.excClassObj nm_x3 q_x3 x3 N_x3 bs_x3 bm_x3 true sn_x3 sub_x3 ab_x3 col_x3 dd_x3 k0_x3 k1_x3 k2_x3 k3_x3 k5_x3 "ValueError.__new__"))
    (ve_x3 : PySem.HandSPX.refsVE bm_x3 = true)
    (lo_x4 : K.lookup x4 = some (PySem.excClassObj nm_x4 q_x4 x4 N_x4 bs_x4 bm_x4 true sn_x4 sub_x4 ab_x4 col_x4 dd_x4 k0_x4 k1_x4 k2_x4 k3_x4 k5_x4 "ValueError.__new__"))
    (ve_x4 : PySem.HandSPX.refsVE bm_x4 = true)
    (lo_x5 : K.lookup x5 = some (PySem.excClassObj nm_x5 q_x5 x5 N_x5 bs_x5 bm_x5 true sn_x5 sub_x5 ab_x5 col_x5 dd_x5 k0_x5 k1_x5 k2_x5 k3_x5 k5_x5 "ValueError.__new__"))
    (ve_x5 : PySem.HandSPX.refsVE bm_x5 = true)
    (lo_x6 : K.lookup x6 = some (PySem.excClassObj nm_x6 q_x6 x6 N_x6 bs_x6 bm_x6 true sn_x6 sub_x6 ab_x6 col_x6 dd_x6 k0_x6 k1_x6 k2_x6 k3_x6 k5_x6 "ValueError.__new__"))
    (ve_x6 : PySem.HandSPX.refsVE bm_x6 = true)
    (lo_x7 : K.lookup x7 = some (PySem.excClassObj nm_x7 q_x7 x7 N_x7 bs_x7 bm_x7 true sn_x7 sub_x7 ab_x7 col_x7 dd_x7 k0_x7 k1_x7 k2_x7 k3_x7 k5_x7 "ValueError.__new__"))
    (ve_x7 : PySem.HandSPX.refsVE bm_x7 = true)
    (lo_x8 : K.lookup x8 = some (PySem.excClassObj nm_x8 q_x8 x8 N_x8 bs_x8 bm_x8 true sn_x8 sub_x8 ab_x8 col_x8 dd_x8 k0_x8 k1_x8 k2_x8 k3_x8 k5_x8 "ValueError.__new__"))
    (ve_x8 : PySem.HandSPX.refsVE bm_x8 = true)
    (lo_x9 : K.lookup x9 = some (PySem.excClassObj nm_x9 q_x9 x9 N_x9 bs_x9 bm_x9 true sn_x9 sub_x9 ab_x9 col_x9 dd_x9 k0_x9 k1_x9 k2_x9 k3_x9 k5_x9 "ValueError.__new__"))
    (ve_x9 : PySem.HandSPX.refsVE bm_x9 = true)
    (lo_x10 : K.lookup x10 = some (PySem.excClassObj nm_x10 q_x10 x10 N_x10 bs_x10 bm_x10 true sn_x10 sub_x10 ab_x10 col_x10 dd_x10 k0_x10 k1_x10 k2_x10 k3_x10 k5_x10 "ValueError.__new__"))
    (ve_x10 : PySem.HandSPX.refsVE bm_x10 = true)
    (lo_x11 : K.lookup x11 = some (PySem.excClassObj nm_x11 q_x11 x11 N_x11 bs_x11 bm_x11 true sn_x11 sub_x11 ab_x11 col_x11 dd_x11 k0_x11 k1_x11 k2_x11 k3_x11 k5_x11 "ValueError.__new__"))
    (ve_x11 : PySem.HandSPX.refsVE bm_x11 = true)
    (lo_x12 : K.lookup x12 = some (PySem.excClassObj nm_x12 q_x12 x12 N_x12 bs_x12 bm_x12 true sn_x12 sub_x12 ab_x12 col_x12 dd_x12 k0_x12 k1_x12 k2_x12 k3_x12 k5_x12 "ValueError.__new__"))
    (ve_x12 : PySem.HandSPX.refsVE bm_x12 = true)
    (lo_x13 : K.lookup x13 = some (PySem.excClassObj nm_x13 q_x13 x13 N_x13 bs_x13 bm_x13 true sn_x13 sub_x13 ab_x13 col_x13 dd_x13 k0_x13 k1_x13 k2_x13 k3_x13 k5_x13 "ValueError.__new__"))
    (ve_x13 : PySem.HandSPX.refsVE bm_x13 = true)
    (lo_x14 : K.lookup x14 = some (PySem.excClassObj nm_x14 q_x14 x14 N_x14 bs_x14 bm_x14 true sn_x14 sub_x14 ab_x14 col_x14 dd_x14 k0_x14 k1_x14 k2_x14 k3_x14 k5_x14 "ValueError.__new__"))
    (ve_x14 : PySem.HandSPX.refsVE bm_x14 = true)
    (lo_x15 : K.lookup x15 = some (PySem.excClassObj nm_x15 q_x15 x15 N_x15 bs_x15 bm_x15 true sn_x15 sub_x15 ab_x15 col_x15 dd_x15 k0_x15 k1_x15 k2_x15 k3_x15 k5_x15 "ValueError.__new__"))
    (ve_x15 : PySem.HandSPX.refsVE bm_x15 = true)
    (lo_x16 : K.lookup x16 = some (PySem.excClassObj nm_x16 q_x16 x16 N_x16 bs_x16 bm_x16 true sn_x16 sub_x16 ab_x16 col_x16 dd_x16 k0_x16 k1_x16 k2_x16 k3_x16 k5_x16 "ValueError.__new__"))
    (ve_x16 : PySem.HandSPX.refsVE bm_x16 = true)
    (lo_x17 : K.lookup x17 = some (PySem.excClassObj nm_x17 q_x17 x17 N_x17 bs_x17 bm_x17 true sn_x17 sub_x17 ab_x17 col_x17 dd_x17 k0_x17 k1_x17 k2_x17 k3_x17 k5_x17 "ValueError.__new__"))
    (ve_x17 : PySem.HandSPX.refsVE bm_x17 = true)
    (lo_x18 : K.lookup x18 = some (PySem.excClassObj nm_x18 q_x18 x18 N_x18 bs_x18 bm_x18 true sn_x18 sub_x18 ab_x18 col_x18 dd_x18 k0_x18 k1_x18 k2_x18 k3_x18 k5_x18 "ValueError.__new__"))
    (ve_x18 : PySem.HandSPX.refsVE bm_x18 = true)
    (hE : ((xL :: [x0, x1, x2, x3, x4, x5, x6, x7, x8, x9, x10, x11, x12, x13, x14, x15, x16, x17, x18, x19]).all (exB K)) = true)
    (hN : noB K [(x0, "value"), (x1, "value"), (x2, "value"), (x3, "part"), (x4, "part"), (x5, "part"), (x6, "part"), (x7, "part"), (x8, "part"), (x9, "at"), (x10, "at"), (x11, "at"), (x12, "at"), (x13, "name"), (x14, "name"), (x15, "name"), (x16, "line"), (x16, "word"), (x17, "word"), (x18, "what"), (x18, "most")] = true)
    (hK : kitsB K (t20 x0 x1 x2 x3 x4 x5 x6 x7 x8 x9 x10 x11 x12 x13 x14 x15 x16 x17 x18 x19) = true)
    (hL : kitLB K xL (t20 x0 x1 x2 x3 x4 x5 x6 x7 x8 x9 x10 x11 x12 x13 x14 x15 x16 x17 x18 x19) = true)
    (hP : papB K bP = true)
    (hO : objB K = true)
    (hX19 : PySem.W.excIn K x19 bmVE "ValueError.__new__" = true)
    (hXL : PySem.W.excIn K xL bmVE "ValueError.__new__" = true) :
    ∃ fd : FuncData, Fun K "law" "law" sLaw fa fd ∧ FnScope nLaw ["_law_script"] (defScope sLaw) ∧ (∀ (s : Shared) (u : Value), BindsTo s fd ⟨[u], []⟩ [("_law_script", u)]) ∧ LawBodyS PySem.Challenge.rw_layerseen_k01_errors_and_their_fields w K mg 63 nLaw "law" sLaw fa := by
  have e := hfa.symm.trans (PySem.W.mg_of X G a_la)
  cases e
  have F_Y := fun_mk (st := sCopied) l_Y c_Y k_Y
  have F_pe := fun_mk (st := sPen) l_pe c_pe k_pe
  have F_dr := fun_mk (st := sDraw) l_dr c_dr k_dr
  have F_pi := fun_mk (st := sPick) l_pi c_pi k_pi
  have F_th := fun_mk (st := sThing) l_th c_th k_th
  have F_cl := fun_mk (st := sClasses) l_cl c_cl k_cl
  have F_va := fun_mk (st := sValued) l_va c_va k_va
  have F_pa := fun_mk (st := sParted) l_pa c_pa k_pa
  have F_pl := fun_mk (st := sPlaced) l_pl c_pl k_pl
  have F_na := fun_mk (st := sNamed) l_na c_na k_na
  have F_ot := fun_mk (st := sOthers) l_ot c_ot k_ot
  have F_la := fun_mk (st := sLaw) l_la c_la k_la
  have F_i0 := fun_mk (st := sI_BadName) l_i0 c_i0 k_i0
  have F_i1 := fun_mk (st := sI_BadWord) l_i1 c_i1 k_i1
  have F_i2 := fun_mk (st := sI_BadNumber) l_i2 c_i2 k_i2
  have F_i3 := fun_mk (st := sI_BadProgram) l_i3 c_i3 k_i3
  have F_i4 := fun_mk (st := sI_BadStack) l_i4 c_i4 k_i4
  have F_i5 := fun_mk (st := sI_BadWish) l_i5 c_i5 k_i5
  have F_i6 := fun_mk (st := sI_BadTalk) l_i6 c_i6 k_i6
  have F_i7 := fun_mk (st := sI_BadBook) l_i7 c_i7 k_i7
  have F_i8 := fun_mk (st := sI_Unlike) l_i8 c_i8 k_i8
  have F_i9 := fun_mk (st := sI_BadDeed) l_i9 c_i9 k_i9
  have F_i10 := fun_mk (st := sI_BadHandler) l_i10 c_i10 k_i10
  have F_i11 := fun_mk (st := sI_BadSample) l_i11 c_i11 k_i11
  have F_i12 := fun_mk (st := sI_NoPlace) l_i12 c_i12 k_i12
  have F_i13 := fun_mk (st := sI_NoName) l_i13 c_i13 k_i13
  have F_i14 := fun_mk (st := sI_Taken) l_i14 c_i14 k_i14
  have F_i15 := fun_mk (st := sI_Unfit) l_i15 c_i15 k_i15
  have F_i16 := fun_mk (st := sI_BadText) l_i16 c_i16 k_i16
  have F_i17 := fun_mk (st := sI_BadLine) l_i17 c_i17 k_i17
  have F_i18 := fun_mk (st := sI_TooMany) l_i18 c_i18 k_i18
  have B_Y := F_Y.binds (ps := ["value"]) fun _ _ _ _ _ _ us hl => match us, hl with | [_], _ => rfl
  have B_pe := F_pe.binds (ps := ["_law_script"]) fun _ _ _ _ _ _ us hl => match us, hl with | [_], _ => rfl
  have B_dr := F_dr.binds (ps := ["_law_pen_here", "_law_many"]) fun _ _ _ _ _ _ us hl => match us, hl with | [_, _], _ => rfl
  have B_pi := F_pi.binds (ps := ["_law_pen_here", "_law_some"]) fun _ _ _ _ _ _ us hl => match us, hl with | [_, _], _ => rfl
  have B_th := F_th.binds (ps := ["_law_pen_here"]) fun _ _ _ _ _ _ us hl => match us, hl with | [_], _ => rfl
  have B_cl := F_cl.binds (ps := ["_law_error"]) fun _ _ _ _ _ _ us hl => match us, hl with | [_], _ => rfl
  have B_va := F_va.binds (ps := ["_law_one"]) fun _ _ _ _ _ _ us hl => match us, hl with | [_], _ => rfl
  have B_pa := F_pa.binds (ps := ["_law_one"]) fun _ _ _ _ _ _ us hl => match us, hl with | [_], _ => rfl
  have B_pl := F_pl.binds (ps := ["_law_one"]) fun _ _ _ _ _ _ us hl => match us, hl with | [_], _ => rfl
  have B_na := F_na.binds (ps := ["_law_one"]) fun _ _ _ _ _ _ us hl => match us, hl with | [_], _ => rfl
  have B_ot := F_ot.binds (ps := ["_law_one", "_law_two"]) fun _ _ _ _ _ _ us hl => match us, hl with | [_, _], _ => rfl
  have B_i0 := F_i0.binds (ps := ["self", "value"]) fun _ _ _ _ _ _ us hl => match us, hl with | [_, _], _ => rfl
  have B_i1 := F_i1.binds (ps := ["self", "value"]) fun _ _ _ _ _ _ us hl => match us, hl with | [_, _], _ => rfl
  have B_i2 := F_i2.binds (ps := ["self", "value"]) fun _ _ _ _ _ _ us hl => match us, hl with | [_, _], _ => rfl
  have B_i3 := F_i3.binds (ps := ["self", "part"]) fun _ _ _ _ _ _ us hl => match us, hl with | [_, _], _ => rfl
  have B_i4 := F_i4.binds (ps := ["self", "part"]) fun _ _ _ _ _ _ us hl => match us, hl with | [_, _], _ => rfl
  have B_i5 := F_i5.binds (ps := ["self", "part"]) fun _ _ _ _ _ _ us hl => match us, hl with | [_, _], _ => rfl
  have B_i6 := F_i6.binds (ps := ["self", "part"]) fun _ _ _ _ _ _ us hl => match us, hl with | [_, _], _ => rfl
  have B_i7 := F_i7.binds (ps := ["self", "part"]) fun _ _ _ _ _ _ us hl => match us, hl with | [_, _], _ => rfl
  have B_i8 := F_i8.binds (ps := ["self", "part"]) fun _ _ _ _ _ _ us hl => match us, hl with | [_, _], _ => rfl
  have B_i9 := F_i9.binds (ps := ["self", "at"]) fun _ _ _ _ _ _ us hl => match us, hl with | [_, _], _ => rfl
  have B_i10 := F_i10.binds (ps := ["self", "at"]) fun _ _ _ _ _ _ us hl => match us, hl with | [_, _], _ => rfl
  have B_i11 := F_i11.binds (ps := ["self", "at"]) fun _ _ _ _ _ _ us hl => match us, hl with | [_, _], _ => rfl
  have B_i12 := F_i12.binds (ps := ["self", "at"]) fun _ _ _ _ _ _ us hl => match us, hl with | [_, _], _ => rfl
  have B_i13 := F_i13.binds (ps := ["self", "name"]) fun _ _ _ _ _ _ us hl => match us, hl with | [_, _], _ => rfl
  have B_i14 := F_i14.binds (ps := ["self", "name"]) fun _ _ _ _ _ _ us hl => match us, hl with | [_, _], _ => rfl
  have B_i15 := F_i15.binds (ps := ["self", "name"]) fun _ _ _ _ _ _ us hl => match us, hl with | [_, _], _ => rfl
  have B_i16 := F_i16.binds (ps := ["self", "line", "word"]) fun _ _ _ _ _ _ us hl => match us, hl with | [_, _, _], _ => rfl
  have B_i17 := F_i17.binds (ps := ["self", "word"]) fun _ _ _ _ _ _ us hl => match us, hl with | [_, _], _ => rfl
  have B_i18 := F_i18.binds (ps := ["self", "what", "most"]) fun _ _ _ _ _ _ us hl => match us, hl with | [_, _, _], _ => rfl
  have T : Txt mg := ⟨PySem.W.mg_none_of X G z_int, PySem.W.mg_none_of X G z_len, PySem.W.mg_none_of X G z_abs, PySem.W.mg_none_of X G z_list, PySem.W.mg_none_of X G z_tuple, PySem.W.mg_none_of X G z_dict, PySem.W.mg_none_of X G z_range, PySem.W.mg_none_of X G z_isinstance, PySem.W.mg_none_of X G z_repr, PySem.W.mg_none_of X G z_enumerate, PySem.W.mg_none_of X G z_ValueError⟩
  have NP : NoPap K mg bP := ⟨PySem.W.mg_of X G g_bP, pap_mk hP⟩
  obtain ⟨vL, jL⟩ := kitL_mk hL
  have E_0 : ExF K x0 := ex_at hO hE 1 rfl
  have E_1 : ExF K x1 := ex_at hO hE 2 rfl
  have E_2 : ExF K x2 := ex_at hO hE 3 rfl
  have E_3 : ExF K x3 := ex_at hO hE 4 rfl
  have E_4 : ExF K x4 := ex_at hO hE 5 rfl
  have E_5 : ExF K x5 := ex_at hO hE 6 rfl
  have E_6 : ExF K x6 := ex_at hO hE 7 rfl
  have E_7 : ExF K x7 := ex_at hO hE 8 rfl
  have E_8 : ExF K x8 := ex_at hO hE 9 rfl
  have E_9 : ExF K x9 := ex_at hO hE 10 rfl
  have E_10 : ExF K x10 := ex_at hO hE 11 rfl
  have E_11 : ExF K x11 := ex_at hO hE 12 rfl
  have E_12 : ExF K x12 := ex_at hO hE 13 rfl
  have E_13 : ExF K x13 := ex_at hO hE 14 rfl
  have E_14 : ExF K x14 := ex_at hO hE 15 rfl
  have E_15 : ExF K x15 := ex_at hO hE 16 rfl
  have E_16 : ExF K x16 := ex_at hO hE 17 rfl
  have E_17 : ExF K x17 := ex_at hO hE 18 rfl
  have E_18 : ExF K x18 := ex_at hO hE 19 rfl
  have E_19 : ExF K x19 := ex_at hO hE 20 rfl
  have E_L : ExF K xL := ex_at hO hE 0 rfl
  have C_0 : EC K x0 f_i0 := ⟨⟨⟨_, _, _, _, _, _, _, _, _, _, _, _, _, _, _, lo_x0, ve_x0⟩, E_0.sa, E_0.ec.hs, E_0.ty, E_0.kp⟩, m_i0, y_i0⟩
  have C_1 : EC K x1 f_i1 := ⟨⟨⟨_, _, _, _, _, _, _, _, _, _, _, _, _, _, _, lo_x1, ve_x1⟩, E_1.sa, E_1.ec.hs, E_1.ty, E_1.kp⟩, m_i1, y_i1⟩
  have C_2 : EC K x2 f_i2 := ⟨⟨⟨_, _, _, _, _, _, _, _, _, _, _, _, _, _, _, lo_x2, ve_x2⟩, E_2.sa, E_2.ec.hs, E_2.ty, E_2.kp⟩, m_i2, y_i2⟩
  have C_3 : EC K x3 f_i3 := ⟨⟨⟨_, _, _, _, _, _, _, _, _, _, _, _, _, _, _, lo_x3, ve_x3⟩, E_3.sa, E_3.ec.hs, E_3.ty, E_3.kp⟩, m_i3, y_i3⟩
  have C_4 : EC K x4 f_i4 := ⟨⟨⟨_, _, _, _, _, _, _, _, _, _, _, _, _, _, _, lo_x4, ve_x4⟩, E_4.sa, E_4.ec.hs, E_4.ty, E_4.kp⟩, m_i4, y_i4⟩
  have C_5 : EC K x5 f_i5 := ⟨⟨⟨_, _, _, _, _, _, _, _, _, _, _, _, _, _, _, lo_x5, ve_x5⟩, E_5.sa, E_5.ec.hs, E_5.ty, E_5.kp⟩, m_i5, y_i5⟩
  have C_6 : EC K x6 f_i6 := ⟨⟨⟨_, _, _, _, _, _, _, _, _, _, _, _, _, _, _, lo_x6, ve_x6⟩, E_6.sa, E_6.ec.hs, E_6.ty, E_6.kp⟩, m_i6, y_i6⟩
  have C_7 : EC K x7 f_i7 := ⟨⟨⟨_, _, _, _, _, _, _, _, _, _, _, _, _, _, _, lo_x7, ve_x7⟩, E_7.sa, E_7.ec.hs, E_7.ty, E_7.kp⟩, m_i7, y_i7⟩
  have C_8 : EC K x8 f_i8 := ⟨⟨⟨_, _, _, _, _, _, _, _, _, _, _, _, _, _, _, lo_x8, ve_x8⟩, E_8.sa, E_8.ec.hs, E_8.ty, E_8.kp⟩, m_i8, y_i8⟩
  have C_9 : EC K x9 f_i9 := ⟨⟨⟨_, _, _, _, _, _, _, _, _, _, _, _, _, _, _, lo_x9, ve_x9⟩, E_9.sa, E_9.ec.hs, E_9.ty, E_9.kp⟩, m_i9, y_i9⟩
  have C_10 : EC K x10 f_i10 := ⟨⟨⟨_, _, _, _, _, _, _, _, _, _, _, _, _, _, _, lo_x10, ve_x10⟩, E_10.sa, E_10.ec.hs, E_10.ty, E_10.kp⟩, m_i10, y_i10⟩
  have C_11 : EC K x11 f_i11 := ⟨⟨⟨_, _, _, _, _, _, _, _, _, _, _, _, _, _, _, lo_x11, ve_x11⟩, E_11.sa, E_11.ec.hs, E_11.ty, E_11.kp⟩, m_i11, y_i11⟩
  have C_12 : EC K x12 f_i12 := ⟨⟨⟨_, _, _, _, _, _, _, _, _, _, _, _, _, _, _, lo_x12, ve_x12⟩, E_12.sa, E_12.ec.hs, E_12.ty, E_12.kp⟩, m_i12, y_i12⟩
  have C_13 : EC K x13 f_i13 := ⟨⟨⟨_, _, _, _, _, _, _, _, _, _, _, _, _, _, _, lo_x13, ve_x13⟩, E_13.sa, E_13.ec.hs, E_13.ty, E_13.kp⟩, m_i13, y_i13⟩
  have C_14 : EC K x14 f_i14 := ⟨⟨⟨_, _, _, _, _, _, _, _, _, _, _, _, _, _, _, lo_x14, ve_x14⟩, E_14.sa, E_14.ec.hs, E_14.ty, E_14.kp⟩, m_i14, y_i14⟩
  have C_15 : EC K x15 f_i15 := ⟨⟨⟨_, _, _, _, _, _, _, _, _, _, _, _, _, _, _, lo_x15, ve_x15⟩, E_15.sa, E_15.ec.hs, E_15.ty, E_15.kp⟩, m_i15, y_i15⟩
  have C_16 : EC K x16 f_i16 := ⟨⟨⟨_, _, _, _, _, _, _, _, _, _, _, _, _, _, _, lo_x16, ve_x16⟩, E_16.sa, E_16.ec.hs, E_16.ty, E_16.kp⟩, m_i16, y_i16⟩
  have C_17 : EC K x17 f_i17 := ⟨⟨⟨_, _, _, _, _, _, _, _, _, _, _, _, _, _, _, lo_x17, ve_x17⟩, E_17.sa, E_17.ec.hs, E_17.ty, E_17.kp⟩, m_i17, y_i17⟩
  have C_18 : EC K x18 f_i18 := ⟨⟨⟨_, _, _, _, _, _, _, _, _, _, _, _, _, _, _, lo_x18, ve_x18⟩, E_18.sa, E_18.ec.hs, E_18.ty, E_18.kp⟩, m_i18, y_i18⟩
  have O_0_value : PySem.W.findIn K (.ref x0) "value" = some none := no_at hN 0 rfl
  have O_1_value : PySem.W.findIn K (.ref x1) "value" = some none := no_at hN 1 rfl
  have O_2_value : PySem.W.findIn K (.ref x2) "value" = some none := no_at hN 2 rfl
  have O_3_part : PySem.W.findIn K (.ref x3) "part" = some none := no_at hN 3 rfl
  have O_4_part : PySem.W.findIn K (.ref x4) "part" = some none := no_at hN 4 rfl
  have O_5_part : PySem.W.findIn K (.ref x5) "part" = some none := no_at hN 5 rfl
  have O_6_part : PySem.W.findIn K (.ref x6) "part" = some none := no_at hN 6 rfl
  have O_7_part : PySem.W.findIn K (.ref x7) "part" = some none := no_at hN 7 rfl
  have O_8_part : PySem.W.findIn K (.ref x8) "part" = some none := no_at hN 8 rfl
  have O_9_at : PySem.W.findIn K (.ref x9) "at" = some none := no_at hN 9 rfl
  have O_10_at : PySem.W.findIn K (.ref x10) "at" = some none := no_at hN 10 rfl
  have O_11_at : PySem.W.findIn K (.ref x11) "at" = some none := no_at hN 11 rfl
  have O_12_at : PySem.W.findIn K (.ref x12) "at" = some none := no_at hN 12 rfl
  have O_13_name : PySem.W.findIn K (.ref x13) "name" = some none := no_at hN 13 rfl
  have O_14_name : PySem.W.findIn K (.ref x14) "name" = some none := no_at hN 14 rfl
  have O_15_name : PySem.W.findIn K (.ref x15) "name" = some none := no_at hN 15 rfl
  have O_16_line : PySem.W.findIn K (.ref x16) "line" = some none := no_at hN 16 rfl
  have O_16_word : PySem.W.findIn K (.ref x16) "word" = some none := no_at hN 17 rfl
  have O_17_word : PySem.W.findIn K (.ref x17) "word" = some none := no_at hN 18 rfl
  have O_18_what : PySem.W.findIn K (.ref x18) "what" = some none := no_at hN 19 rfl
  have O_18_most : PySem.W.findIn K (.ref x18) "most" = some none := no_at hN 20 rfl
  have K_0 := kb1 (y := "value") F_i0 fun _ _ _ _ _ _ _ _ => rfl
  have K_1 := kb1 (y := "value") F_i1 fun _ _ _ _ _ _ _ _ => rfl
  have K_2 := kb1 (y := "value") F_i2 fun _ _ _ _ _ _ _ _ => rfl
  have K_3 := kb1 (y := "part") F_i3 fun _ _ _ _ _ _ _ _ => rfl
  have K_4 := kb1 (y := "part") F_i4 fun _ _ _ _ _ _ _ _ => rfl
  have K_5 := kb1 (y := "part") F_i5 fun _ _ _ _ _ _ _ _ => rfl
  have K_6 := kb1 (y := "part") F_i6 fun _ _ _ _ _ _ _ _ => rfl
  have K_7 := kb1 (y := "part") F_i7 fun _ _ _ _ _ _ _ _ => rfl
  have K_8 := kb1 (y := "part") F_i8 fun _ _ _ _ _ _ _ _ => rfl
  have K_9 := kb1 (y := "at") F_i9 fun _ _ _ _ _ _ _ _ => rfl
  have K_10 := kb1 (y := "at") F_i10 fun _ _ _ _ _ _ _ _ => rfl
  have K_11 := kb1 (y := "at") F_i11 fun _ _ _ _ _ _ _ _ => rfl
  have K_12 := kb1 (y := "at") F_i12 fun _ _ _ _ _ _ _ _ => rfl
  have K_13 := kb1 (y := "name") F_i13 fun _ _ _ _ _ _ _ _ => rfl
  have K_14 := kb1 (y := "name") F_i14 fun _ _ _ _ _ _ _ _ => rfl
  have K_15 := kb1 (y := "name") F_i15 fun _ _ _ _ _ _ _ _ => rfl
  have K_16 := kb2 (y := "line") (z := "word") F_i16 fun _ _ _ _ _ _ _ _ _ => rfl
  have K_17 := kb1 (y := "word") F_i17 fun _ _ _ _ _ _ _ _ => rfl
  have K_18 := kb2 (y := "what") (z := "most") F_i18 fun _ _ _ _ _ _ _ _ _ => rfl
  have NM : Nm K mg (t20 x0 x1 x2 x3 x4 x5 x6 x7 x8 x9 x10 x11 x12 x13 x14 x15 x16 x17 x18 x19) := by
    refine ⟨fun j hj => ?_, fun j hj => ?_, fun j hj => ?_, fun i j hi hj => kits_mk hK i j hi hj⟩
    · match j, hj with
      | 0, _ => exact PySem.W.mg_of X G g_x0
      | 1, _ => exact PySem.W.mg_of X G g_x1
      | 2, _ => exact PySem.W.mg_of X G g_x2
      | 3, _ => exact PySem.W.mg_of X G g_x3
      | 4, _ => exact PySem.W.mg_of X G g_x4
      | 5, _ => exact PySem.W.mg_of X G g_x5
      | 6, _ => exact PySem.W.mg_of X G g_x6
      | 7, _ => exact PySem.W.mg_of X G g_x7
      | 8, _ => exact PySem.W.mg_of X G g_x8
      | 9, _ => exact PySem.W.mg_of X G g_x9
      | 10, _ => exact PySem.W.mg_of X G g_x10
      | 11, _ => exact PySem.W.mg_of X G g_x11
      | 12, _ => exact PySem.W.mg_of X G g_x12
      | 13, _ => exact PySem.W.mg_of X G g_x13
      | 14, _ => exact PySem.W.mg_of X G g_x14
      | 15, _ => exact PySem.W.mg_of X G g_x15
      | 16, _ => exact PySem.W.mg_of X G g_x16
      | 17, _ => exact PySem.W.mg_of X G g_x17
      | 18, _ => exact PySem.W.mg_of X G g_x18
      | 19, _ => exact PySem.W.mg_of X G g_x19
      | n + 20, hj => exact absurd hj (by omega)
    · match j, hj with
      | 0, _ => exact E_0.ec
      | 1, _ => exact E_1.ec
      | 2, _ => exact E_2.ec
      | 3, _ => exact E_3.ec
      | 4, _ => exact E_4.ec
      | 5, _ => exact E_5.ec
      | 6, _ => exact E_6.ec
      | 7, _ => exact E_7.ec
      | 8, _ => exact E_8.ec
      | 9, _ => exact E_9.ec
      | 10, _ => exact E_10.ec
      | 11, _ => exact E_11.ec
      | 12, _ => exact E_12.ec
      | 13, _ => exact E_13.ec
      | 14, _ => exact E_14.ec
      | 15, _ => exact E_15.ec
      | 16, _ => exact E_16.ec
      | 17, _ => exact E_17.ec
      | 18, _ => exact E_18.ec
      | 19, _ => exact E_19.ec
      | n + 20, hj => exact absurd hj (by omega)
    · match j, hj with
      | 0, _ => exact E_0.xf
      | 1, _ => exact E_1.xf
      | 2, _ => exact E_2.xf
      | 3, _ => exact E_3.xf
      | 4, _ => exact E_4.xf
      | 5, _ => exact E_5.xf
      | 6, _ => exact E_6.xf
      | 7, _ => exact E_7.xf
      | 8, _ => exact E_8.xf
      | 9, _ => exact E_9.xf
      | 10, _ => exact E_10.xf
      | 11, _ => exact E_11.xf
      | 12, _ => exact E_12.xf
      | 13, _ => exact E_13.xf
      | 14, _ => exact E_14.xf
      | 15, _ => exact E_15.xf
      | 16, _ => exact E_16.xf
      | 17, _ => exact E_17.xf
      | 18, _ => exact E_18.xf
      | 19, _ => exact E_19.xf
      | n + 20, hj => exact absurd hj (by omega)
  have NO : ∀ j, j < 19 → PySem.W.findIn K (.ref ((t20 x0 x1 x2 x3 x4 x5 x6 x7 x8 x9 x10 x11 x12 x13 x14 x15 x16 x17 x18 x19) j)) (fld j) = some none := fun j hj => by
    match j, hj with
    | 0, _ => exact O_0_value
    | 1, _ => exact O_1_value
    | 2, _ => exact O_2_value
    | 3, _ => exact O_3_part
    | 4, _ => exact O_4_part
    | 5, _ => exact O_5_part
    | 6, _ => exact O_6_part
    | 7, _ => exact O_7_part
    | 8, _ => exact O_8_part
    | 9, _ => exact O_9_at
    | 10, _ => exact O_10_at
    | 11, _ => exact O_11_at
    | 12, _ => exact O_12_at
    | 13, _ => exact O_13_name
    | 14, _ => exact O_14_name
    | 15, _ => exact O_15_name
    | 16, _ => exact O_16_line
    | 17, _ => exact O_17_word
    | 18, _ => exact O_18_what
    | n + 19, hj => exact absurd hj (by omega)
  refine ⟨_, F_la, scLaw, fun s v => .of_eq rfl, ?_⟩
  refine law_body (C := t20 x0 x1 x2 x3 x4 x5 x6 x7 x8 x9 x10 x11 x12 x13 x14 x15 x16 x17 x18 x19) (fI := t20 f_i0 f_i1 f_i2 f_i3 f_i4 f_i5 f_i6 f_i7 f_i8 f_i9 f_i10 f_i11 f_i12 f_i13 f_i14 f_i15 f_i16 f_i17 f_i18 f_i18) (fd := t20 (fdOf F_i0) (fdOf F_i1) (fdOf F_i2) (fdOf F_i3) (fdOf F_i4) (fdOf F_i5) (fdOf F_i6) (fdOf F_i7) (fdOf F_i8) (fdOf F_i9) (fdOf F_i10) (fdOf F_i11) (fdOf F_i12) (fdOf F_i13) (fdOf F_i14) (fdOf F_i15) (fdOf F_i16) (fdOf F_i17) (fdOf F_i18) (fdOf F_i18)) (CL := xL) (fE := f_pe) (fT := f_th) (fC := f_cl) (fV := f_va) (fP := f_pa) (fA := f_pl) (fN := f_na) (fO := f_ot)
    (dE := fdOf F_pe) (dT := fdOf F_th) (dC := fdOf F_cl) (dV := fdOf F_va) (dP := fdOf F_pa) (dA := fdOf F_pl) (dN := fdOf F_na) (dO := fdOf F_ot) fun base hKb hNb hSb => ?_
  have Gcop : FnOk PR w K mg base CX0 2 f_Y _ ["value"] spCopied := ok_copied F_Y NP T B_Y (PySem.W.mg_of X G a_Y)
  have G_0 : FnOk PR w K mg base CX0 3 f_i0 _ ["self", "value"] (spI1 x0 "value") := okI_BadName F_i0 C_0.ox O_0_value F_Y B_Y (PySem.W.mg_of X G a_Y) Gcop
  have L_0 : Cl PR w K mg base (t20 x0 x1 x2 x3 x4 x5 x6 x7 x8 x9 x10 x11 x12 x13 x14 x15 x16 x17 x18 x19) (t20 f_i0 f_i1 f_i2 f_i3 f_i4 f_i5 f_i6 f_i7 f_i8 f_i9 f_i10 f_i11 f_i12 f_i13 f_i14 f_i15 f_i16 f_i17 f_i18 f_i18) (t20 (fdOf F_i0) (fdOf F_i1) (fdOf F_i2) (fdOf F_i3) (fdOf F_i4) (fdOf F_i5) (fdOf F_i6) (fdOf F_i7) (fdOf F_i8) (fdOf F_i9) (fdOf F_i10) (fdOf F_i11) (fdOf F_i12) (fdOf F_i13) (fdOf F_i14) (fdOf F_i15) (fdOf F_i16) (fdOf F_i17) (fdOf F_i18) (fdOf F_i18)) 0 "value" := ⟨C_0, G_0, B_i0, K_0⟩
  have G_1 : FnOk PR w K mg base CX0 3 f_i1 _ ["self", "value"] (spI1 x1 "value") := okI_BadWord F_i1 C_1.ox O_1_value F_Y B_Y (PySem.W.mg_of X G a_Y) Gcop
  have L_1 : Cl PR w K mg base (t20 x0 x1 x2 x3 x4 x5 x6 x7 x8 x9 x10 x11 x12 x13 x14 x15 x16 x17 x18 x19) (t20 f_i0 f_i1 f_i2 f_i3 f_i4 f_i5 f_i6 f_i7 f_i8 f_i9 f_i10 f_i11 f_i12 f_i13 f_i14 f_i15 f_i16 f_i17 f_i18 f_i18) (t20 (fdOf F_i0) (fdOf F_i1) (fdOf F_i2) (fdOf F_i3) (fdOf F_i4) (fdOf F_i5) (fdOf F_i6) (fdOf F_i7) (fdOf F_i8) (fdOf F_i9) (fdOf F_i10) (fdOf F_i11) (fdOf F_i12) (fdOf F_i13) (fdOf F_i14) (fdOf F_i15) (fdOf F_i16) (fdOf F_i17) (fdOf F_i18) (fdOf F_i18)) 1 "value" := ⟨C_1, G_1, B_i1, K_1⟩
  have G_2 : FnOk PR w K mg base CX0 3 f_i2 _ ["self", "value"] (spI1 x2 "value") := okI_BadNumber F_i2 C_2.ox O_2_value F_Y B_Y (PySem.W.mg_of X G a_Y) Gcop
  have L_2 : Cl PR w K mg base (t20 x0 x1 x2 x3 x4 x5 x6 x7 x8 x9 x10 x11 x12 x13 x14 x15 x16 x17 x18 x19) (t20 f_i0 f_i1 f_i2 f_i3 f_i4 f_i5 f_i6 f_i7 f_i8 f_i9 f_i10 f_i11 f_i12 f_i13 f_i14 f_i15 f_i16 f_i17 f_i18 f_i18) (t20 (fdOf F_i0) (fdOf F_i1) (fdOf F_i2) (fdOf F_i3) (fdOf F_i4) (fdOf F_i5) (fdOf F_i6) (fdOf F_i7) (fdOf F_i8) (fdOf F_i9) (fdOf F_i10) (fdOf F_i11) (fdOf F_i12) (fdOf F_i13) (fdOf F_i14) (fdOf F_i15) (fdOf F_i16) (fdOf F_i17) (fdOf F_i18) (fdOf F_i18)) 2 "value" := ⟨C_2, G_2, B_i2, K_2⟩
  have G_3 : FnOk PR w K mg base CX0 3 f_i3 _ ["self", "part"] (spI1 x3 "part") := okI_BadProgram F_i3 C_3.ox O_3_part F_Y B_Y (PySem.W.mg_of X G a_Y) Gcop
  have L_3 : Cl PR w K mg base (t20 x0 x1 x2 x3 x4 x5 x6 x7 x8 x9 x10 x11 x12 x13 x14 x15 x16 x17 x18 x19) (t20 f_i0 f_i1 f_i2 f_i3 f_i4 f_i5 f_i6 f_i7 f_i8 f_i9 f_i10 f_i11 f_i12 f_i13 f_i14 f_i15 f_i16 f_i17 f_i18 f_i18) (t20 (fdOf F_i0) (fdOf F_i1) (fdOf F_i2) (fdOf F_i3) (fdOf F_i4) (fdOf F_i5) (fdOf F_i6) (fdOf F_i7) (fdOf F_i8) (fdOf F_i9) (fdOf F_i10) (fdOf F_i11) (fdOf F_i12) (fdOf F_i13) (fdOf F_i14) (fdOf F_i15) (fdOf F_i16) (fdOf F_i17) (fdOf F_i18) (fdOf F_i18)) 3 "part" := ⟨C_3, G_3, B_i3, K_3⟩
  have G_4 : FnOk PR w K mg base CX0 3 f_i4 _ ["self", "part"] (spI1 x4 "part") := okI_BadStack F_i4 C_4.ox O_4_part F_Y B_Y (PySem.W.mg_of X G a_Y) Gcop
  have L_4 : Cl PR w K mg base (t20 x0 x1 x2 x3 x4 x5 x6 x7 x8 x9 x10 x11 x12 x13 x14 x15 x16 x17 x18 x19) (t20 f_i0 f_i1 f_i2 f_i3 f_i4 f_i5 f_i6 f_i7 f_i8 f_i9 f_i10 f_i11 f_i12 f_i13 f_i14 f_i15 f_i16 f_i17 f_i18 f_i18) (t20 (fdOf F_i0) (fdOf F_i1) (fdOf F_i2) (fdOf F_i3) (fdOf F_i4) (fdOf F_i5) (fdOf F_i6) (fdOf F_i7) (fdOf F_i8) (fdOf F_i9) (fdOf F_i10) (fdOf F_i11) (fdOf F_i12) (fdOf F_i13) (fdOf F_i14) (fdOf F_i15) (fdOf F_i16) (fdOf F_i17) (fdOf F_i18) (fdOf F_i18)) 4 "part" := ⟨C_4, G_4, B_i4, K_4⟩
  have G_5 : FnOk PR w K mg base CX0 3 f_i5 _ ["self", "part"] (spI1 x5 "part") := okI_BadWish F_i5 C_5.ox O_5_part F_Y B_Y (PySem.W.mg_of X G a_Y) Gcop
  have L_5 : Cl PR w K mg base (t20 x0 x1 x2 x3 x4 x5 x6 x7 x8 x9 x10 x11 x12 x13 x14 x15 x16 x17 x18 x19) (t20 f_i0 f_i1 f_i2 f_i3 f_i4 f_i5 f_i6 f_i7 f_i8 f_i9 f_i10 f_i11 f_i12 f_i13 f_i14 f_i15 f_i16 f_i17 f_i18 f_i18) (t20 (fdOf F_i0) (fdOf F_i1) (fdOf F_i2) (fdOf F_i3) (fdOf F_i4) (fdOf F_i5) (fdOf F_i6) (fdOf F_i7) (fdOf F_i8) (fdOf F_i9) (fdOf F_i10) (fdOf F_i11) (fdOf F_i12) (fdOf F_i13) (fdOf F_i14) (fdOf F_i15) (fdOf F_i16) (fdOf F_i17) (fdOf F_i18) (fdOf F_i18)) 5 "part" := ⟨C_5, G_5, B_i5, K_5⟩
  have G_6 : FnOk PR w K mg base CX0 3 f_i6 _ ["self", "part"] (spI1 x6 "part") := okI_BadTalk F_i6 C_6.ox O_6_part F_Y B_Y (PySem.W.mg_of X G a_Y) Gcop
  have L_6 : Cl PR w K mg base (t20 x0 x1 x2 x3 x4 x5 x6 x7 x8 x9 x10 x11 x12 x13 x14 x15 x16 x17 x18 x19) (t20 f_i0 f_i1 f_i2 f_i3 f_i4 f_i5 f_i6 f_i7 f_i8 f_i9 f_i10 f_i11 f_i12 f_i13 f_i14 f_i15 f_i16 f_i17 f_i18 f_i18) (t20 (fdOf F_i0) (fdOf F_i1) (fdOf F_i2) (fdOf F_i3) (fdOf F_i4) (fdOf F_i5) (fdOf F_i6) (fdOf F_i7) (fdOf F_i8) (fdOf F_i9) (fdOf F_i10) (fdOf F_i11) (fdOf F_i12) (fdOf F_i13) (fdOf F_i14) (fdOf F_i15) (fdOf F_i16) (fdOf F_i17) (fdOf F_i18) (fdOf F_i18)) 6 "part" := ⟨C_6, G_6, B_i6, K_6⟩
  have G_7 : FnOk PR w K mg base CX0 3 f_i7 _ ["self", "part"] (spI1 x7 "part") := okI_BadBook F_i7 C_7.ox O_7_part F_Y B_Y (PySem.W.mg_of X G a_Y) Gcop
  have L_7 : Cl PR w K mg base (t20 x0 x1 x2 x3 x4 x5 x6 x7 x8 x9 x10 x11 x12 x13 x14 x15 x16 x17 x18 x19) (t20 f_i0 f_i1 f_i2 f_i3 f_i4 f_i5 f_i6 f_i7 f_i8 f_i9 f_i10 f_i11 f_i12 f_i13 f_i14 f_i15 f_i16 f_i17 f_i18 f_i18) (t20 (fdOf F_i0) (fdOf F_i1) (fdOf F_i2) (fdOf F_i3) (fdOf F_i4) (fdOf F_i5) (fdOf F_i6) (fdOf F_i7) (fdOf F_i8) (fdOf F_i9) (fdOf F_i10) (fdOf F_i11) (fdOf F_i12) (fdOf F_i13) (fdOf F_i14) (fdOf F_i15) (fdOf F_i16) (fdOf F_i17) (fdOf F_i18) (fdOf F_i18)) 7 "part" := ⟨C_7, G_7, B_i7, K_7⟩
  have G_8 : FnOk PR w K mg base CX0 3 f_i8 _ ["self", "part"] (spI1 x8 "part") := okI_Unlike F_i8 C_8.ox O_8_part F_Y B_Y (PySem.W.mg_of X G a_Y) Gcop
  have L_8 : Cl PR w K mg base (t20 x0 x1 x2 x3 x4 x5 x6 x7 x8 x9 x10 x11 x12 x13 x14 x15 x16 x17 x18 x19) (t20 f_i0 f_i1 f_i2 f_i3 f_i4 f_i5 f_i6 f_i7 f_i8 f_i9 f_i10 f_i11 f_i12 f_i13 f_i14 f_i15 f_i16 f_i17 f_i18 f_i18) (t20 (fdOf F_i0) (fdOf F_i1) (fdOf F_i2) (fdOf F_i3) (fdOf F_i4) (fdOf F_i5) (fdOf F_i6) (fdOf F_i7) (fdOf F_i8) (fdOf F_i9) (fdOf F_i10) (fdOf F_i11) (fdOf F_i12) (fdOf F_i13) (fdOf F_i14) (fdOf F_i15) (fdOf F_i16) (fdOf F_i17) (fdOf F_i18) (fdOf F_i18)) 8 "part" := ⟨C_8, G_8, B_i8, K_8⟩
  have G_9 : FnOk PR w K mg base CX0 3 f_i9 _ ["self", "at"] (spI1 x9 "at") := okI_BadDeed F_i9 C_9.ox O_9_at F_Y B_Y (PySem.W.mg_of X G a_Y) Gcop
  have L_9 : Cl PR w K mg base (t20 x0 x1 x2 x3 x4 x5 x6 x7 x8 x9 x10 x11 x12 x13 x14 x15 x16 x17 x18 x19) (t20 f_i0 f_i1 f_i2 f_i3 f_i4 f_i5 f_i6 f_i7 f_i8 f_i9 f_i10 f_i11 f_i12 f_i13 f_i14 f_i15 f_i16 f_i17 f_i18 f_i18) (t20 (fdOf F_i0) (fdOf F_i1) (fdOf F_i2) (fdOf F_i3) (fdOf F_i4) (fdOf F_i5) (fdOf F_i6) (fdOf F_i7) (fdOf F_i8) (fdOf F_i9) (fdOf F_i10) (fdOf F_i11) (fdOf F_i12) (fdOf F_i13) (fdOf F_i14) (fdOf F_i15) (fdOf F_i16) (fdOf F_i17) (fdOf F_i18) (fdOf F_i18)) 9 "at" := ⟨C_9, G_9, B_i9, K_9⟩
  have G_10 : FnOk PR w K mg base CX0 3 f_i10 _ ["self", "at"] (spI1 x10 "at") := okI_BadHandler F_i10 C_10.ox O_10_at F_Y B_Y (PySem.W.mg_of X G a_Y) Gcop
  have L_10 : Cl PR w K mg base (t20 x0 x1 x2 x3 x4 x5 x6 x7 x8 x9 x10 x11 x12 x13 x14 x15 x16 x17 x18 x19) (t20 f_i0 f_i1 f_i2 f_i3 f_i4 f_i5 f_i6 f_i7 f_i8 f_i9 f_i10 f_i11 f_i12 f_i13 f_i14 f_i15 f_i16 f_i17 f_i18 f_i18) (t20 (fdOf F_i0) (fdOf F_i1) (fdOf F_i2) (fdOf F_i3) (fdOf F_i4) (fdOf F_i5) (fdOf F_i6) (fdOf F_i7) (fdOf F_i8) (fdOf F_i9) (fdOf F_i10) (fdOf F_i11) (fdOf F_i12) (fdOf F_i13) (fdOf F_i14) (fdOf F_i15) (fdOf F_i16) (fdOf F_i17) (fdOf F_i18) (fdOf F_i18)) 10 "at" := ⟨C_10, G_10, B_i10, K_10⟩
  have G_11 : FnOk PR w K mg base CX0 3 f_i11 _ ["self", "at"] (spI1 x11 "at") := okI_BadSample F_i11 C_11.ox O_11_at F_Y B_Y (PySem.W.mg_of X G a_Y) Gcop
  have L_11 : Cl PR w K mg base (t20 x0 x1 x2 x3 x4 x5 x6 x7 x8 x9 x10 x11 x12 x13 x14 x15 x16 x17 x18 x19) (t20 f_i0 f_i1 f_i2 f_i3 f_i4 f_i5 f_i6 f_i7 f_i8 f_i9 f_i10 f_i11 f_i12 f_i13 f_i14 f_i15 f_i16 f_i17 f_i18 f_i18) (t20 (fdOf F_i0) (fdOf F_i1) (fdOf F_i2) (fdOf F_i3) (fdOf F_i4) (fdOf F_i5) (fdOf F_i6) (fdOf F_i7) (fdOf F_i8) (fdOf F_i9) (fdOf F_i10) (fdOf F_i11) (fdOf F_i12) (fdOf F_i13) (fdOf F_i14) (fdOf F_i15) (fdOf F_i16) (fdOf F_i17) (fdOf F_i18) (fdOf F_i18)) 11 "at" := ⟨C_11, G_11, B_i11, K_11⟩
  have G_12 : FnOk PR w K mg base CX0 3 f_i12 _ ["self", "at"] (spI1 x12 "at") := okI_NoPlace F_i12 C_12.ox O_12_at F_Y B_Y (PySem.W.mg_of X G a_Y) Gcop
  have L_12 : Cl PR w K mg base (t20 x0 x1 x2 x3 x4 x5 x6 x7 x8 x9 x10 x11 x12 x13 x14 x15 x16 x17 x18 x19) (t20 f_i0 f_i1 f_i2 f_i3 f_i4 f_i5 f_i6 f_i7 f_i8 f_i9 f_i10 f_i11 f_i12 f_i13 f_i14 f_i15 f_i16 f_i17 f_i18 f_i18) (t20 (fdOf F_i0) (fdOf F_i1) (fdOf F_i2) (fdOf F_i3) (fdOf F_i4) (fdOf F_i5) (fdOf F_i6) (fdOf F_i7) (fdOf F_i8) (fdOf F_i9) (fdOf F_i10) (fdOf F_i11) (fdOf F_i12) (fdOf F_i13) (fdOf F_i14) (fdOf F_i15) (fdOf F_i16) (fdOf F_i17) (fdOf F_i18) (fdOf F_i18)) 12 "at" := ⟨C_12, G_12, B_i12, K_12⟩
  have G_13 : FnOk PR w K mg base CX0 3 f_i13 _ ["self", "name"] (spI1 x13 "name") := okI_NoName F_i13 C_13.ox O_13_name F_Y B_Y (PySem.W.mg_of X G a_Y) Gcop
  have L_13 : Cl PR w K mg base (t20 x0 x1 x2 x3 x4 x5 x6 x7 x8 x9 x10 x11 x12 x13 x14 x15 x16 x17 x18 x19) (t20 f_i0 f_i1 f_i2 f_i3 f_i4 f_i5 f_i6 f_i7 f_i8 f_i9 f_i10 f_i11 f_i12 f_i13 f_i14 f_i15 f_i16 f_i17 f_i18 f_i18) (t20 (fdOf F_i0) (fdOf F_i1) (fdOf F_i2) (fdOf F_i3) (fdOf F_i4) (fdOf F_i5) (fdOf F_i6) (fdOf F_i7) (fdOf F_i8) (fdOf F_i9) (fdOf F_i10) (fdOf F_i11) (fdOf F_i12) (fdOf F_i13) (fdOf F_i14) (fdOf F_i15) (fdOf F_i16) (fdOf F_i17) (fdOf F_i18) (fdOf F_i18)) 13 "name" := ⟨C_13, G_13, B_i13, K_13⟩
  have G_14 : FnOk PR w K mg base CX0 3 f_i14 _ ["self", "name"] (spI1 x14 "name") := okI_Taken F_i14 C_14.ox O_14_name F_Y B_Y (PySem.W.mg_of X G a_Y) Gcop
  have L_14 : Cl PR w K mg base (t20 x0 x1 x2 x3 x4 x5 x6 x7 x8 x9 x10 x11 x12 x13 x14 x15 x16 x17 x18 x19) (t20 f_i0 f_i1 f_i2 f_i3 f_i4 f_i5 f_i6 f_i7 f_i8 f_i9 f_i10 f_i11 f_i12 f_i13 f_i14 f_i15 f_i16 f_i17 f_i18 f_i18) (t20 (fdOf F_i0) (fdOf F_i1) (fdOf F_i2) (fdOf F_i3) (fdOf F_i4) (fdOf F_i5) (fdOf F_i6) (fdOf F_i7) (fdOf F_i8) (fdOf F_i9) (fdOf F_i10) (fdOf F_i11) (fdOf F_i12) (fdOf F_i13) (fdOf F_i14) (fdOf F_i15) (fdOf F_i16) (fdOf F_i17) (fdOf F_i18) (fdOf F_i18)) 14 "name" := ⟨C_14, G_14, B_i14, K_14⟩
  have G_15 : FnOk PR w K mg base CX0 3 f_i15 _ ["self", "name"] (spI1 x15 "name") := okI_Unfit F_i15 C_15.ox O_15_name F_Y B_Y (PySem.W.mg_of X G a_Y) Gcop
  have L_15 : Cl PR w K mg base (t20 x0 x1 x2 x3 x4 x5 x6 x7 x8 x9 x10 x11 x12 x13 x14 x15 x16 x17 x18 x19) (t20 f_i0 f_i1 f_i2 f_i3 f_i4 f_i5 f_i6 f_i7 f_i8 f_i9 f_i10 f_i11 f_i12 f_i13 f_i14 f_i15 f_i16 f_i17 f_i18 f_i18) (t20 (fdOf F_i0) (fdOf F_i1) (fdOf F_i2) (fdOf F_i3) (fdOf F_i4) (fdOf F_i5) (fdOf F_i6) (fdOf F_i7) (fdOf F_i8) (fdOf F_i9) (fdOf F_i10) (fdOf F_i11) (fdOf F_i12) (fdOf F_i13) (fdOf F_i14) (fdOf F_i15) (fdOf F_i16) (fdOf F_i17) (fdOf F_i18) (fdOf F_i18)) 15 "name" := ⟨C_15, G_15, B_i15, K_15⟩
  have G_16 : FnOk PR w K mg base CX0 3 f_i16 _ ["self", "line", "word"] (spI2 x16 "line" "word") := okI_BadText F_i16 C_16.ox O_16_line O_16_word F_Y B_Y (PySem.W.mg_of X G a_Y) Gcop
  have L_16 : Cl2 PR w K mg base (t20 x0 x1 x2 x3 x4 x5 x6 x7 x8 x9 x10 x11 x12 x13 x14 x15 x16 x17 x18 x19) (t20 f_i0 f_i1 f_i2 f_i3 f_i4 f_i5 f_i6 f_i7 f_i8 f_i9 f_i10 f_i11 f_i12 f_i13 f_i14 f_i15 f_i16 f_i17 f_i18 f_i18) (t20 (fdOf F_i0) (fdOf F_i1) (fdOf F_i2) (fdOf F_i3) (fdOf F_i4) (fdOf F_i5) (fdOf F_i6) (fdOf F_i7) (fdOf F_i8) (fdOf F_i9) (fdOf F_i10) (fdOf F_i11) (fdOf F_i12) (fdOf F_i13) (fdOf F_i14) (fdOf F_i15) (fdOf F_i16) (fdOf F_i17) (fdOf F_i18) (fdOf F_i18)) 16 "line" "word" := ⟨C_16, G_16, B_i16, K_16⟩
  have G_17 : FnOk PR w K mg base CX0 3 f_i17 _ ["self", "word"] (spI1 x17 "word") := okI_BadLine F_i17 C_17.ox O_17_word F_Y B_Y (PySem.W.mg_of X G a_Y) Gcop
  have L_17 : Cl PR w K mg base (t20 x0 x1 x2 x3 x4 x5 x6 x7 x8 x9 x10 x11 x12 x13 x14 x15 x16 x17 x18 x19) (t20 f_i0 f_i1 f_i2 f_i3 f_i4 f_i5 f_i6 f_i7 f_i8 f_i9 f_i10 f_i11 f_i12 f_i13 f_i14 f_i15 f_i16 f_i17 f_i18 f_i18) (t20 (fdOf F_i0) (fdOf F_i1) (fdOf F_i2) (fdOf F_i3) (fdOf F_i4) (fdOf F_i5) (fdOf F_i6) (fdOf F_i7) (fdOf F_i8) (fdOf F_i9) (fdOf F_i10) (fdOf F_i11) (fdOf F_i12) (fdOf F_i13) (fdOf F_i14) (fdOf F_i15) (fdOf F_i16) (fdOf F_i17) (fdOf F_i18) (fdOf F_i18)) 17 "word" := ⟨C_17, G_17, B_i17, K_17⟩
  have G_18 : FnOk PR w K mg base CX0 3 f_i18 _ ["self", "what", "most"] (spI2 x18 "what" "most") := okI_TooMany F_i18 C_18.ox O_18_what O_18_most F_Y B_Y (PySem.W.mg_of X G a_Y) Gcop
  have L_18 : Cl2 PR w K mg base (t20 x0 x1 x2 x3 x4 x5 x6 x7 x8 x9 x10 x11 x12 x13 x14 x15 x16 x17 x18 x19) (t20 f_i0 f_i1 f_i2 f_i3 f_i4 f_i5 f_i6 f_i7 f_i8 f_i9 f_i10 f_i11 f_i12 f_i13 f_i14 f_i15 f_i16 f_i17 f_i18 f_i18) (t20 (fdOf F_i0) (fdOf F_i1) (fdOf F_i2) (fdOf F_i3) (fdOf F_i4) (fdOf F_i5) (fdOf F_i6) (fdOf F_i7) (fdOf F_i8) (fdOf F_i9) (fdOf F_i10) (fdOf F_i11) (fdOf F_i12) (fdOf F_i13) (fdOf F_i14) (fdOf F_i15) (fdOf F_i16) (fdOf F_i17) (fdOf F_i18) (fdOf F_i18)) 18 "what" "most" := ⟨C_18, G_18, B_i18, K_18⟩
  have Gpen : FnOk PR w K mg base CX0 1 f_pe _ ["_law_script"] (spPen K) := ok_pen F_pe T
  have Gdraw : FnOk PR w K mg base CX0 1 f_dr _ ["_law_pen_here", "_law_many"] spDraw := ok_draw F_dr T
  have Gpick : FnOk PR w K mg base CX0 2 f_pi _ ["_law_pen_here", "_law_some"] spPick := ok_pick F_pi T F_dr B_dr (PySem.W.mg_of X G a_dr) Gdraw
  have Gth : FnOk PR w K mg base CX0 3 f_th _ ["_law_pen_here"] spThing := ok_thing F_th F_pi B_pi (PySem.W.mg_of X G a_pi) Gpick
  have Gcl : FnOk PR w K mg base CX0 1 f_cl _ ["_law_error"] (spClasses K (t20 x0 x1 x2 x3 x4 x5 x6 x7 x8 x9 x10 x11 x12 x13 x14 x15 x16 x17 x18 x19)) := ok_classes F_cl T NM
  have Gva : FnOk PR w K mg base CX0 5 f_va _ ["_law_one"] (spErrs (t20 x0 x1 x2 x3 x4 x5 x6 x7 x8 x9 x10 x11 x12 x13 x14 x15 x16 x17 x18 x19) "value" jsV) := ok_valued F_va NM L_0 L_1 L_2
  have Gpa : FnOk PR w K mg base CX0 5 f_pa _ ["_law_one"] (spErrs (t20 x0 x1 x2 x3 x4 x5 x6 x7 x8 x9 x10 x11 x12 x13 x14 x15 x16 x17 x18 x19) "part" jsP) := ok_parted F_pa NM L_3 L_4 L_5 L_6 L_7 L_8
  have Gpl : FnOk PR w K mg base CX0 5 f_pl _ ["_law_one"] (spErrs (t20 x0 x1 x2 x3 x4 x5 x6 x7 x8 x9 x10 x11 x12 x13 x14 x15 x16 x17 x18 x19) "at" jsA) := ok_placed F_pl NM L_9 L_10 L_11 L_12
  have Gna : FnOk PR w K mg base CX0 5 f_na _ ["_law_one"] (spErrs (t20 x0 x1 x2 x3 x4 x5 x6 x7 x8 x9 x10 x11 x12 x13 x14 x15 x16 x17 x18 x19) "name" jsN) := ok_named F_na NM L_13 L_14 L_15
  have Got := ok_others F_ot hSb T NM L_16 L_17 L_18 O_16_line O_16_word O_17_word O_18_what O_18_most
  exact {
    T := T, N := NM, S := hSb, e := ⟨F_pe, B_pe, (PySem.W.mg_of X G a_pe), Gpen⟩, t := ⟨F_th, B_th, (PySem.W.mg_of X G a_th), Gth⟩, c := ⟨F_cl, B_cl, (PySem.W.mg_of X G a_cl), Gcl⟩, v := ⟨F_va, B_va, (PySem.W.mg_of X G a_va), Gva⟩, p := ⟨F_pa, B_pa, (PySem.W.mg_of X G a_pa), Gpa⟩, a := ⟨F_pl, B_pl, (PySem.W.mg_of X G a_pl), Gpl⟩, n := ⟨F_na, B_na, (PySem.W.mg_of X G a_na), Gna⟩,
    ok := k_ot, ob := B_ot, og := (PySem.W.mg_of X G a_ot), oG := Got, c16 := L_16, c17 := L_17, c18 := L_18, no := NO, x19 := hX19, k19 := E_19.kp, gL := PySem.W.mg_of X G g_xL, xL := hXL, kL := E_L.kp, eL := E_L.ec,
    nL := fun j hj => (jL j hj).1, vL := vL, jL := fun j hj => (jL j hj).2.1, jV := fun j hj => (jL j hj).2.2 }
end My
open PySem PySem.W PyProof.Rows
set_option maxHeartbeats 0 in
theorem PySem.Challenge.cw_layerseen_k01_errors_and_their_fields_holds : PySem.Challenge.rw_layerseen_k01_errors_and_their_fields.Holds := by
  w_on; o_law; k_head; (case hw => w_witness2)
  k_fill
  refine My.lawS_top (l := PySem.Challenge.rw_layerseen_k01_errors_and_their_fields) (n := 63) (N := My.nLaw) (x := "_law_script") (nm := "law") (qual := "law") (st := My.sLaw) (by kernel_rfl) rfl (by decide) rfl (fun w h Y => PySem.W.kIn_of Y) ?Z
  case Z =>
    intro w mg fa h KX G hmg
    refine' My.all_mk KX G hmg ?a_Y ?l_Y ?c_Y ?k_Y ?a_pe ?l_pe ?c_pe ?k_pe ?a_dr ?l_dr ?c_dr ?k_dr ?a_pi ?l_pi ?c_pi ?k_pi ?a_th ?l_th ?c_th ?k_th ?a_cl ?l_cl ?c_cl ?k_cl ?a_va ?l_va ?c_va ?k_va ?a_pa ?l_pa ?c_pa ?k_pa ?a_pl ?l_pl ?c_pl ?k_pl ?a_na ?l_na ?c_na ?k_na ?a_ot ?l_ot ?c_ot ?k_ot ?a_la ?l_la ?c_la ?k_la ?g_x0 ?g_x1 ?g_x2 ?g_x3 ?g_x4 ?g_x5 ?g_x6 ?g_x7 ?g_x8 ?g_x9 ?g_x10 ?g_x11 ?g_x12 ?g_x13 ?g_x14 ?g_x15 ?g_x16 ?g_x17 ?g_x18 ?g_x19 ?g_xL ?g_bP ?m_i0 ?l_i0 ?c_i0 ?k_i0 ?y_i0 ?m_i1 ?l_i1 ?c_i1 ?k_i1 ?y_i1 ?m_i2 ?l_i2 ?c_i2 ?k_i2 ?y_i2 ?m_i3 ?l_i3 ?c_i3 ?k_i3 ?y_i3 ?m_i4 ?l_i4 ?c_i4 ?k_i4 ?y_i4 ?m_i5 ?l_i5 ?c_i5 ?k_i5 ?y_i5 ?m_i6 ?l_i6 ?c_i6 ?k_i6 ?y_i6 ?m_i7 ?l_i7 ?c_i7 ?k_i7 ?y_i7 ?m_i8 ?l_i8 ?c_i8 ?k_i8 ?y_i8 ?m_i9 ?l_i9 ?c_i9 ?k_i9 ?y_i9 ?m_i10 ?l_i10 ?c_i10 ?k_i10 ?y_i10 ?m_i11 ?l_i11 ?c_i11 ?k_i11 ?y_i11 ?m_i12 ?l_i12 ?c_i12 ?k_i12 ?y_i12 ?m_i13 ?l_i13 ?c_i13 ?k_i13 ?y_i13 ?m_i14 ?l_i14 ?c_i14 ?k_i14 ?y_i14 ?m_i15 ?l_i15 ?c_i15 ?k_i15 ?y_i15 ?m_i16 ?l_i16 ?c_i16 ?k_i16 ?y_i16 ?m_i17 ?l_i17 ?c_i17 ?k_i17 ?y_i17 ?m_i18 ?l_i18 ?c_i18 ?k_i18 ?y_i18 ?z_int ?z_len ?z_abs ?z_list ?z_tuple ?z_dict ?z_range ?z_isinstance ?z_repr ?z_enumerate ?z_ValueError ?lo_x0 ?ve_x0 ?lo_x1 ?ve_x1 ?lo_x2 ?ve_x2 ?lo_x3 ?ve_x3 ?lo_x4 ?ve_x4 ?lo_x5 ?ve_x5 ?lo_x6 ?ve_x6 ?lo_x7 ?ve_x7 ?lo_x8 ?ve_x8 ?lo_x9 ?ve_x9 ?lo_x10 ?ve_x10 ?lo_x11 ?ve_x11 ?lo_x12 ?ve_x12 ?lo_x13 ?ve_x13 ?lo_x14 ?ve_x14 ?lo_x15 ?ve_x15 ?lo_x16 ?ve_x16 ?lo_x17 ?ve_x17 ?lo_x18 ?ve_x18 ?hE ?hN ?hK ?hL ?hP ?hO ?hX19 ?hXL
    (case a_Y => k_is)
    (case l_Y => k_is)
    (case c_Y => k_is)
    (case k_Y => k_is)
    (case a_pe => k_is)
    (case l_pe => k_is)
    (case c_pe => k_is)
    (case k_pe => k_is)
    (case a_dr => k_is)
    (case l_dr => k_is)
    (case c_dr => k_is)
    (case k_dr => k_is)
    (case a_pi => k_is)
    (case l_pi => k_is)
    (case c_pi => k_is)
    (case k_pi => k_is)
    (case a_th => k_is)
    (case l_th => k_is)
    (case c_th => k_is)
    (case k_th => k_is)
    (case a_cl => k_is)
    (case l_cl => k_is)
    (case c_cl => k_is)
    (case k_cl => k_is)
    (case a_va => k_is)
    (case l_va => k_is)
    (case c_va => k_is)
    (case k_va => k_is)
    (case a_pa => k_is)
    (case l_pa => k_is)
    (case c_pa => k_is)
    (case k_pa => k_is)
    (case a_pl => k_is)
    (case l_pl => k_is)
    (case c_pl => k_is)
    (case k_pl => k_is)
    (case a_na => k_is)
    (case l_na => k_is)
    (case c_na => k_is)
    (case k_na => k_is)
    (case a_ot => k_is)
    (case l_ot => k_is)
    (case c_ot => k_is)
    (case k_ot => k_is)
    (case a_la => k_is)
    (case l_la => k_is)
    (case c_la => k_is)
    (case k_la => k_is)
    (case g_x0 => k_is)
    (case g_x1 => k_is)
    (case g_x2 => k_is)
    (case g_x3 => k_is)
    (case g_x4 => k_is)
    (case g_x5 => k_is)
    (case g_x6 => k_is)
    (case g_x7 => k_is)
    (case g_x8 => k_is)
    (case g_x9 => k_is)
    (case g_x10 => k_is)
    (case g_x11 => k_is)
    (case g_x12 => k_is)
    (case g_x13 => k_is)
    (case g_x14 => k_is)
    (case g_x15 => k_is)
    (case g_x16 => k_is)
    (case g_x17 => k_is)
    (case g_x18 => k_is)
    (case g_x19 => k_is)
    (case g_xL => k_is)
    (case g_bP => k_is)
    (case m_i0 => k_is)
    (case l_i0 => k_is)
    (case c_i0 => k_is)
    (case k_i0 => k_is)
    (case y_i0 => k_is)
    (case m_i1 => k_is)
    (case l_i1 => k_is)
    (case c_i1 => k_is)
    (case k_i1 => k_is)
    (case y_i1 => k_is)
    (case m_i2 => k_is)
    (case l_i2 => k_is)
    (case c_i2 => k_is)
    (case k_i2 => k_is)
    (case y_i2 => k_is)
    (case m_i3 => k_is)
    (case l_i3 => k_is)
    (case c_i3 => k_is)
    (case k_i3 => k_is)
    (case y_i3 => k_is)
    (case m_i4 => k_is)
    (case l_i4 => k_is)
    (case c_i4 => k_is)
    (case k_i4 => k_is)
    (case y_i4 => k_is)
    (case m_i5 => k_is)
    (case l_i5 => k_is)
    (case c_i5 => k_is)
    (case k_i5 => k_is)
    (case y_i5 => k_is)
    (case m_i6 => k_is)
    (case l_i6 => k_is)
    (case c_i6 => k_is)
    (case k_i6 => k_is)
    (case y_i6 => k_is)
    (case m_i7 => k_is)
    (case l_i7 => k_is)
    (case c_i7 => k_is)
    (case k_i7 => k_is)
    (case y_i7 => k_is)
    (case m_i8 => k_is)
    (case l_i8 => k_is)
    (case c_i8 => k_is)
    (case k_i8 => k_is)
    (case y_i8 => k_is)
    (case m_i9 => k_is)
    (case l_i9 => k_is)
    (case c_i9 => k_is)
    (case k_i9 => k_is)
    (case y_i9 => k_is)
    (case m_i10 => k_is)
    (case l_i10 => k_is)
    (case c_i10 => k_is)
    (case k_i10 => k_is)
    (case y_i10 => k_is)
    (case m_i11 => k_is)
    (case l_i11 => k_is)
    (case c_i11 => k_is)
    (case k_i11 => k_is)
    (case y_i11 => k_is)
    (case m_i12 => k_is)
    (case l_i12 => k_is)
    (case c_i12 => k_is)
    (case k_i12 => k_is)
    (case y_i12 => k_is)
    (case m_i13 => k_is)
    (case l_i13 => k_is)
    (case c_i13 => k_is)
    (case k_i13 => k_is)
    (case y_i13 => k_is)
    (case m_i14 => k_is)
    (case l_i14 => k_is)
    (case c_i14 => k_is)
    (case k_i14 => k_is)
    (case y_i14 => k_is)
    (case m_i15 => k_is)
    (case l_i15 => k_is)
    (case c_i15 => k_is)
    (case k_i15 => k_is)
    (case y_i15 => k_is)
    (case m_i16 => k_is)
    (case l_i16 => k_is)
    (case c_i16 => k_is)
    (case k_i16 => k_is)
    (case y_i16 => k_is)
    (case m_i17 => k_is)
    (case l_i17 => k_is)
    (case c_i17 => k_is)
    (case k_i17 => k_is)
    (case y_i17 => k_is)
    (case m_i18 => k_is)
    (case l_i18 => k_is)
    (case c_i18 => k_is)
    (case k_i18 => k_is)
    (case y_i18 => k_is)
    (case z_int => k_is)
    (case z_len => k_is)
    (case z_abs => k_is)
    (case z_list => k_is)
    (case z_tuple => k_is)
    (case z_dict => k_is)
    (case z_range => k_is)
    (case z_isinstance => k_is)
    (case z_repr => k_is)
    (case z_enumerate => k_is)
    (case z_ValueError => k_is)
    (case lo_x0 => k_is)
    (case ve_x0 => decide +kernel)
    (case lo_x1 => k_is)
    (case ve_x1 => decide +kernel)
    (case lo_x2 => k_is)
    (case ve_x2 => decide +kernel)
    (case lo_x3 => k_is)
    (case ve_x3 => decide +kernel)
    (case lo_x4 => k_is)
    (case ve_x4 => decide +kernel)
    (case lo_x5 => k_is)
    (case ve_x5 => decide +kernel)
    (case lo_x6 => k_is)
    (case ve_x6 => decide +kernel)
    (case lo_x7 => k_is)
    (case ve_x7 => decide +kernel)
    (case lo_x8 => k_is)
    (case ve_x8 => decide +kernel)
    (case lo_x9 => k_is)
    (case ve_x9 => decide +kernel)
    (case lo_x10 => k_is)
    (case ve_x10 => decide +kernel)
    (case lo_x11 => k_is)
    (case ve_x11 => decide +kernel)
    (case lo_x12 => k_is)
    (case ve_x12 => decide +kernel)
    (case lo_x13 => k_is)
    (case ve_x13 => decide +kernel)
    (case lo_x14 => k_is)
    (case ve_x14 => decide +kernel)
    (case lo_x15 => k_is)
    (case ve_x15 => decide +kernel)
    (case lo_x16 => k_is)
    (case ve_x16 => decide +kernel)
    (case lo_x17 => k_is)
    (case ve_x17 => decide +kernel)
    (case lo_x18 => k_is)
    (case ve_x18 => decide +kernel)
    (case hE => kernel_rfl)
    (case hN => kernel_rfl)
    (case hK => kernel_rfl)
    (case hL => kernel_rfl)
    (case hP => kernel_rfl)
    (case hO => kernel_rfl)
    (case hX19 => kernel_rfl)
    (case hXL => kernel_rfl)
