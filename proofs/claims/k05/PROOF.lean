import PyProof.Rows.All
import Wide.All
import OpenK.AllK
import Wide.FinOn
import HandS.ForMost
import HandS.ForExc
import HandS.ExcIs
import HandS.ExcField
import KE.KExcIs
import HandS.IsInst
import KE.KCallOwn
import PyProof.InstNe
import HandS.RaiseMore
import HandS.DictComp
import HandS.Walk
import HandS.Iter
import HandS.Comp
import HandS.Text
import HandS.ExcInit
import HandS.MakeKw
import HandS.MakeKwOnly
import HandS.SortKw
import HandS.Zip0
import KE.DataMinMax
import KE.GoesZip
import KE.GoesMore
import PyProof.ListNew
import HandS.Strs
import HandS.SetFor
import HandS.SetTxt0
import PyProof.Draws
import HandS.Dict
import HandS.More
import HandS.AnyAll
import HandS.OwnEq
import HandS.Star
import HandS.Lambda
import HandS.EndTab
import HandS.ExcOwn
import HandS.HeadHook3
import PySem.Challenge.RW_layerseen_k05_simple_deeds_refused
set_option Elab.async false
set_option linter.all false
set_option maxRecDepth 100000
set_option maxHeartbeats 4000000

namespace My
open PySem PySem.Spec PyProof.Rows L2

/-- what the walk of the law's body has to give, the guards being known -/
def LawBody (l : PySem.W.OpenLaw) (w : World) (K : PySem.W.Frag) (mg : Str → Option Value) (n : Nat) (N : List Str) (qual : Str) (st : Stmt) (fa : Addr) : Prop :=
  ∀ base : Heap, K.In base → base.Ns mainGlobals mg → ∀ (cdv : Value) (s : Shared) (H : Hp) (a : Addr) (ns : List Int), ns.length ≤ n → Only H → SqL K H a (ns.map V.int) →
    ∃ t, PSs (cxOf CX0 l.prog w K mg base N qual (defScope st) fa cdv callerA [] s H E0).nox (defBody st) t ∧
      t { nx := fun _ _ => False, rt := fun v _ => v = .bl true } (start N [.ref a]) H

/-- one call of the law from an abstract heap -/
theorem enter {l : PySem.W.OpenLaw} {w : World} {K : PySem.W.Frag} {mg : Str → Option Value} {n : Nat} {N : List Str} {x nm qual : Str} {st : Stmt} {fa a : Addr} {fd : FuncData}
    {base : Heap} {s : Shared} {H : Hp} {ns : List Int}
    (F : Fun K nm qual st fa fd) (S : FnScope N [x] (defScope st)) (hb : ∀ (s : Shared) (u : Value), BindsTo s fd ⟨[u], []⟩ [(x, u)])
    (B : LawBody l w K mg n N qual st fa) (hKb : K.In base) (hNb : base.Ns mainGlobals mg) (hn : ns.length ≤ n) (hO : Only H) (hS : SqL K H a (ns.map V.int))
    (e0 : Env0 l.prog w K mg base callerA [] s H) :
    codeAny (model l.prog w) callerA (.call (.ref fa) ⟨[.ref a], []⟩)
      (fun r s' => r = .ok (.ret (.bool true)) ∧ ∃ H', s'.os = s.os ∧ AllBare s'.gens ∧ Un [] [] H H' s.heap s'.heap ∧ HOk l.prog w H' s'.heap) s := by
  obtain ⟨oc, od, kV, doc, pm, an, cdv, ct, osl, rfl, lk, hcd⟩ := F.ex
  have stays : ∀ b o, base.get? b = some o → s.heap.get? b = some o := fun b o z => (e0.bs b o z).1
  have KS : K.In s.heap := e0.mod.kin.keeps stays
  have NL : s.heap.NoLimit := e0.mod.nolimit.keeps stays
  have kinds : ∀ y ∈ [x].zip [Value.ref a], (defScope st).names.lookup y.1 = some .local ∨ ((defScope st).names.lookup y.1 = some .cell ∧ ((cellsFrom (s.heap.objs.size + 1) (defScope st).names []).lookup y.1).isSome = true) := by
    intro y hy
    obtain rfl : y = (x, Value.ref a) := List.mem_singleton.mp hy
    cases S.par x (List.mem_singleton.mpr rfl) with
    | inl q => exact .inl q
    | inr q => exact .inr ⟨q, PySem.W.cellsFrom_some _ _ _ (.inl q)⟩
  refine codeAny_call_function (by decide) (KS _ _ lk) rfl S.co S.gen rfl (PySem.W.codeRec_of KS hcd) (hb s (.ref a) _ _ _ _ ?_)
  refine wpAny_newFunctionEnv_cells S.kind kinds fun env he s2 ic => ?_
  subst he
  refine ⟨NL.keeps ic.toInCall.keep, codeAny_func ?_⟩
  obtain ⟨t, ht, hq⟩ := B base hKb hNb cdv s H a ns hn hO hS
  have J0 := inv_start (E := E0) (CX := CX0) S (show callerA.handled = none from rfl) e0 (vs := [.ref a]) (us := [.ref a]) rfl (.cons rfl .nil) ic
  refine wpAny_mono (ht.run [] s2 (start N [.ref a]) H _ (J0.wish _) hq) (fun fl s' hs => ?_) fun e s' hs => hs.elim
  cases fl with
  | ret u =>
    obtain ⟨v, σ', H', J, rv, q⟩ := hs
    subst q
    obtain rfl : u = Value.bool true := rv
    exact ⟨rfl, H', J.os, J.bare, J.base, J.hok⟩
  | next => exact (let ⟨_, _, _, q⟩ := hs; q).elim
  | brk => exact (let ⟨_, _, _, q⟩ := hs; q).elim
  | cont => exact (let ⟨_, _, _, q⟩ := hs; q).elim

/-- the object of the script, looked at through its abstract heap -/
def scriptHp (a : Addr) (vs : List Value) (ns : List Int) : Hp := fun b => if b = a then some (.frz { cls := .type "list", data := .seq vs.toArray } (.lst (ns.map V.int))) else none

/-- from one call in an abstract heap to the call that is asked for -/
theorem settle {l : PySem.W.OpenLaw} {w : World} {K : PySem.W.Frag} {mg mb : Str → Option Value} {n : Nat} {N : List Str} {x nm qual : Str} {st : Stmt} {fa a : Addr} {fd : FuncData} {s : Shared} {H : Hp} {ns : List Int} {vs : List Value}
    (KX : K.In s.heap) (hns : s.heap.Ns mainGlobals mg) (hb : s.heap.Ns builtinsNs mb) (hbb : ∀ x : Str, x ≠ "__name__" → mb x = bootBuiltins x) (hlim : s.heap.NoLimit) (hg : s.gens = #[])
    (ha : s.heap.get? a = some { cls := .type "list", data := .seq vs.toArray }) (hn : ns.length ≤ n)
    (F : Fun K nm qual st fa fd) (S : FnScope N [x] (defScope st)) (hbi : ∀ (s : Shared) (u : Value), BindsTo s fd ⟨[u], []⟩ [(x, u)]) (B : LawBody l w K mg n N qual st fa)
    (hO : Only H) (hS : SqL K H a (ns.map V.int)) (hok : HOk l.prog w H s.heap) (one : ∀ b, H b ≠ none → b = a) (out : H a ≠ none → K.lookup a = none) :
    codeAny (model l.prog w) callerA (.call (.ref fa) ⟨[.ref a], []⟩) (fun r s' => r = .ok (.ret (.bool true)) ∧ OldK s.heap s'.heap ∧ s'.os = s.os ∧ AllBare s'.gens) s := by
  have seen : ∀ {b : Addr} {o : Obj}, H b = none → s.heap.get? b = some o → (hidT s.heap H).get? b = some o := fun q e => hidT_get e q
  have free : ∀ {b : Addr} {o : Obj}, s.heap.get? b = some o → (∀ xs k, o.data ≠ .seq xs k) → H b = none := by
    intro b o e nd
    by_cases z : H b = none
    · exact z
    · have eb := one b z
      rw [eb, ha] at e
      injection e with e
      exact absurd (by rw [← e]) (nd vs.toArray 0)
  have names : ∀ {b : Addr} {m : Str → Option Value}, s.heap.Ns b m → (hidT s.heap H).Ns b m := by
    intro b m nb
    obtain ⟨o, es, ep, e, d, rest⟩ := nb
    exact ⟨o, es, ep, seen (free e fun xs k z => by rw [d] at z; injection z) e, d, rest⟩
  have KB : K.In (hidT s.heap H) := by
    intro b o e
    refine seen ?_ (KX b o e)
    by_cases z : H b = none
    · exact z
    · have eb := one b z
      subst eb
      rw [out z] at e
      injection e
  have E0' : Env0 l.prog w K mg (hidT s.heap H) callerA [] s H := by
    refine ⟨rfl, ⟨KB, names hns, ⟨mb, names hb, hbb⟩, ?_⟩, fun b o e => of_hidT e, Nat.le_of_eq (hidT_size _ _), trivial, ?_, hok, .of_eq hg⟩
    · obtain ⟨mc, c1, c2⟩ := hlim
      exact ⟨mc, names c1, c2⟩
    · intro b z
      exact absurd (show b ∈ ([] : List Addr) from z) List.not_mem_nil
  refine codeAny_mono (enter F S hbi B KB (names hns) hn hO hS E0') fun r s' h => ?_
  obtain ⟨e1, H', os, bare, un, hok'⟩ := h
  refine ⟨e1, OldK.of_keep fun b o e => ?_, os, bare⟩
  by_cases z : H b = none
  · exact un.keep b o e z (show b ∉ ([] : List Addr) from List.not_mem_nil) List.not_mem_nil
  · rcases hO b with y | ⟨ob, xs, y⟩
    · exact absurd y z
    · have g1 := (hok b _ y).1
      have g2 := (hok' b _ (un.frzs b ob _ y)).1
      rw [g1] at e
      injection e with e
      rw [← e]
      exact g2

/-- the goal that the head leaves, from the law's body walked with known guards -/
theorem law_top {l : PySem.W.OpenLaw} {n : Nat} {q : Program} {loose : List Str} {XP : (Str → Option Value) → Heap → Prop} {YP : World → Heap → Prop} {d : DefRec} {K : Params → PySem.W.Frag} {N : List Str} {x nm qual : Str} {st : Stmt}
    (hn : l.most = some n) (hn2 : n ≤ sizeLine) (hdf : d.params.defaults = []) (hY : ∀ (w : World) (h : Heap), YP w h → (K w.params).In h)
    (Z : ∀ (w : World) (mg : Str → Option Value) (fa : Addr) (h : Heap), (K w.params).In h → h.Ns mainGlobals mg → mg d.name = some (.ref fa) →
      ∃ fd : FuncData, Fun (K w.params) nm qual st fa fd ∧ FnScope N [x] (defScope st) ∧ (∀ (s : Shared) (u : Value), BindsTo s fd ⟨[u], []⟩ [(x, u)]) ∧ LawBody l w (K w.params) mg n N qual st fa) :
    PySem.W.WalkO q loose XP YP l.row.toRowW d [] (fun f vs => PySem.call f vs) := by
  refine Att.attach_call hn hdf ?_
  intro w s₀ s mg mb fa o pm cd doc a vs ns G Y ho hd hcd hmg hobj hints hlen hg
  have KX : (K w.params).In s.heap := hY w _ Y
  obtain ⟨fd, F, S, hbi, B⟩ := Z w mg fa _ KX G.T.g hmg
  have rv : Vals (ns.map V.int) vs := vals_ints hints
  have top : ns.length ≤ sizeLine := Nat.le_trans hlen hn2
  have plain := @settle l w (K w.params) mg mb n N x nm qual st fa a fd s
  cases hk : (K w.params).lookup a with
  | some u =>
    have e := KX a u hk
    rw [hobj] at e
    injection e with e
    subst e
    refine plain (H := fun _ => none) (ns := ns) (vs := vs) KX G.T.g G.T.b G.T.builtins G.T.nolimit hg hobj hlen F S hbi B (fun _ => .inl rfl) (.inr ⟨_, vs.toArray, _, hk, rfl, rfl, rfl, ?_, ?_⟩) (fun b u z => ?_) (fun b z => absurd rfl z) (fun z => absurd rfl z)
    · rw [List.size_toArray, hints.length]
      exact top
    · simpa using rv
    · injection z
  | none =>
    refine plain (H := scriptHp a vs ns) (ns := ns) (vs := vs) KX G.T.g G.T.b G.T.builtins G.T.nolimit hg hobj hlen F S hbi B (fun b => ?_) (.inl (.inr ⟨_, if_pos rfl⟩)) (fun b u z => ?_) (fun b z => ?_) (fun _ => hk)
    · by_cases eb : b = a
      · exact .inr ⟨_, _, if_pos eb⟩
      · exact .inl (if_neg eb)
    · by_cases eb : b = a
      · have y := (if_pos eb).symm.trans z
        injection y with y
        subst y
        subst eb
        exact ⟨hobj, by rw [List.length_map]; exact top, vs, _, rv, hobj⟩
      · have y := (if_neg eb).symm.trans z
        injection y
    · by_cases eb : b = a
      · exact eb
      · exact absurd (if_neg eb) z
end My
namespace My
open PySem PySem.Spec PyProof.Rows L2
/-- an exception of the class cls that was caught and is still held, its own dict at d -/
def KeptO (cls : Value) (d : Option Addr) (a : Addr) : HO := .ext fun h => ∃ oe vs, h.get? a = some oe ∧ Zc cls d oe ∧ oe.data = .fields vs
theorem kept_ok {P : Program} {w : World} {H : Hp} {h : Heap} {cls : Value} {d : Option Addr} {a : Addr} {oe : Obj} {vs : Array Value} (e : h.get? a = some oe) (z : Zc cls d oe) (f : oe.data = .fields vs) : ObjOk P w H h a (KeptO cls d a) :=
  ⟨⟨oe, vs, e, z, f⟩, ⟨oe, e⟩, fun _ _ ⟨o, v, q, r⟩ k => ⟨o, v, k o q, r⟩⟩
section
variable {X : Cx} {pins : List (Addr × Obj)} {σ : L2.St} {H : Hp} {s : Shared}
/-- an object of ours, made since the entry and not tracked so far, is tracked from now on -/
theorem track {a : Addr} {o : HO} (I : Inv X pins σ H s) (na : H a = none) (n0 : X.s_0.heap.get? a = none) (nL : a ≠ X.env.locals) (nC : ∀ x c, X.env.cells.lookup x = some c → c ≠ a) (nP : ∀ p ∈ X.pn ++ pins, p.1 ≠ a)
    (ok : ObjOk X.prog X.w (upd H a o) s.heap a o) : Inv X pins σ (upd H a o) s := by
  have far : ∀ {b : Addr} {u : HO}, H b = some u → b ≠ a := fun q z => by
    rw [z, na] at q
    cases q
  have up : ∀ {b : Addr} {u : HO}, H b = some u → (upd H a o) b = some u := fun q => by
    rw [upd_ne (far q)]
    exact q
  refine ⟨I.ok, I.os, I.bare, ⟨I.base.keep, I.base.slot, fun b u q n hx => ?_, I.base.there, fun b xs q => up (I.base.tups b xs q), fun b u xs q => up (I.base.frzs b u xs q), fun b ps q => ?_⟩, I.loc, I.cell, ?_, fun x c q => ?_, fun p hp => ?_, fun b u q => ?_, I.len⟩
  · have nb : b ≠ a := fun z => by
      rw [z, n0] at q
      cases q
    rw [upd_ne nb]
    exact I.base.free b u q n hx
  · obtain ⟨more, q1⟩ := I.base.tbls b ps q
    exact ⟨more, up q1⟩
  · rw [upd_ne (Ne.symm nL)]
    exact I.free
  · rw [upd_ne (nC x c q)]
    exact I.freeC x c q
  · obtain ⟨h1, h2, h3⟩ := I.pin p hp
    refine ⟨h1, ?_, h3⟩
    rw [upd_ne (nP p hp)]
    exact h2
  · by_cases hb : b = a
    · subst hb
      rw [upd_same] at q
      injection q with q
      subst q
      exact ok
    · rw [upd_ne hb] at q
      exact (I.hok b u q).stay (fun _ _ _ r => r) (fun _ r => up r) fun _ _ r => up r
end
/-- what `except x as n: suite` wishes of an exception of the body: slot i is n's; behind the suite the exception is held -/
def wKeep (K : PySem.W.Frag) (c : Value) (i : Nat) (ts : Addr → Value → Option Addr → TS) (D : Ends) : WX := fun cls d σ H =>
  PySem.W.exmOne K cls c = some true ∧ ∀ a, H a = none → ts a cls d { nx := fun σ' H' => D.nx (σ'.set i none) (upd H' a (KeptO cls d a)), rt := fun _ _ => False, bk := fun _ _ => False, ct := fun _ _ => False } (σ.set i (some (.ref a))) H
section
variable {X : Cx} {x n : Str} {c : Value} {i : Nat} {body suite : List Stmt} {b₀ : Stmt} {np pos pos' : Pos} {tb : WX → TS} {ts : Addr → Value → Option Addr → TS}
theorem ps_try_keep (hex : X.ex = []) (hs : X.stack = X.env :: X.outer) (hf : X.env.frame = some X.env.locals) (hN : X.N.Nodup) (hi : X.N[i]? = some n) (hln : X.env.kindOf n = some .local) (hc : Names X x c)
    (hb : ∀ (W : WX) (pn : List (Addr × Obj)) (xe : Value → Shared → Prop), Takes (X.tr pn xe) W → PassesOwn (model X.prog X.w) X.A X.env xe → PSs (X.tr pn xe) body (tb W))
    (hsu : ∀ (a : Addr) (oe : Obj) (cls : Value) (d : Option Addr) (pn : List (Addr × Obj)), Zc cls d oe → (∃ vs, oe.data = .fields vs) → PSs (X.suite a ((a, oe) :: pn)) (b₀ :: suite) (ts a cls d)) :
    PS X (.Try body [.ExceptHandler (some (.Name x np)) (some n) (b₀ :: suite) pos'] [] [] pos) (fun D σ H => tb (wKeep X.K c i ts D) D σ H) := by
  constructor
  intro pins s σ H D I h
  have ok := I.ok
  have hfr : X.A.frames = some (X.env :: X.outer) := by rw [ok.frames, hs]
  -- what the body's exceptions are told to
  have caught : Takes (X.tr (X.pn ++ pins) fun e s₁ => wpAny (model X.prog X.w) X.A (noteFrame e X.env) (fun _ s₂ => wpAny (model X.prog X.w) X.A (setFlight e none) (fun _ s₃ =>
      wpAny (model X.prog X.w) X.A (handleBy e X.env [.ExceptHandler (some (.Name x np)) (some n) (b₀ :: suite) pos']) (SP X pins D) X.xe s₃) X.xe s₂) X.xe s₁) (wKeep X.K c i ts D) := by
    intro u s' xx
    obtain ⟨a, B, sI, pins', σ', H', cls, d, rfl, J', nb, up, sky, na, os, ag, hm, go⟩ := xx
    have J : Inv X pins σ' H' sI := J'.ofTry ok
    rw [show (X.tr (X.pn ++ pins) _).stack = X.env :: X.outer from hs] at sky
    show wpAny (model X.prog X.w) X.A (noteFrame (.ref a) X.env) _ _ _
    refine Sky.land Zc.steady hfr hf sky fun h3 fl3 up3 => ?_
    have none_B : B.get? a = none := fl3.2.1
    obtain ⟨oe3, vs3, he3, hz3, hd3⟩ := fl3.there
    have J3 : Inv X pins σ' H' { s' with heap := h3 } := J.landed nb fl3.1 (up.trans up3) os ag
    have out : a ∉ frs (X.env :: X.outer) := by
      intro z
      obtain ⟨_, o, e1, e2⟩ := (fl3.2.2.1).mem z
      have e3 := he3.symm.trans e1
      injection e3 with e3
      exact e2 vs3 (e3 ▸ hd3)
    have nL : a ≠ X.env.locals := fun z => out (List.mem_filterMap.mpr ⟨X.env, List.mem_cons_self, by rw [hf, z]⟩)
    have nF : a ∉ X.fs := fun z => by
      obtain ⟨e, he, e1⟩ := List.mem_filterMap.mp z
      exact out (List.mem_filterMap.mpr ⟨e, List.mem_cons_of_mem _ he, e1⟩)
    have notI : ∀ o, sI.heap.get? a ≠ some o := fun o z => by
      have e1 := nb a o z (by rw [hs]; exact out)
      rw [none_B] at e1
      cases e1
    have n0 : X.s_0.heap.get? a = none := by
      cases z : X.s_0.heap.get? a with
      | none => rfl
      | some o =>
        obtain ⟨o', e1⟩ := J.base.there a o z (by rw [hex]; exact List.not_mem_nil)
        exact absurd e1 (notI o')
    have nP : ∀ p ∈ X.pn ++ pins, p.1 ≠ a := fun p hp z => notI p.2 (z ▸ (J.pin p hp).1)
    have nC : ∀ v cc, X.env.cells.lookup v = some cc → cc ≠ a := fun v cc q z => by
      obtain ⟨_, o, e1, e2⟩ := J3.cell v cc q
      have e3 : h3.get? cc = some o := e1
      rw [z, he3] at e3
      injection e3 with e3
      rw [← e3, hd3] at e2
      cases e2
    have S3 := J3.suite he3 hd3 na nL nF
    refine wpAny_handleBy_cons (codeAny_handlers_test ?_) (by intro q; cases q)
    have kind : PySem.W.Looks (model X.prog X.w) h3 (typeOf (.ref a)) cls := fun A Q E s k q => wpAny_typeOf_ref (k _ _ he3) (by rw [hz3.1]; exact q)
    have fits := PySem.W.exm_one (M := model X.prog X.w) J3.kIn kind hm
    have named : ∀ {Q : Value → Shared → Prop} {E : Value → Shared → Prop}, Q c { s' with heap := h3 } → wpAny (model X.prog X.w) (X.A.mark (some (.ref a))) (eval (.Name x np) X.env) Q E { s' with heap := h3 } := by
      intro Q E q
      obtain ⟨g, db, hx | ⟨hx, hv, hnn⟩⟩ := hc
      · exact ld_glob (X := X.suite a ((a, oe3) :: (X.pn ++ pins))) S3 g hx q db
      · exact ld_blt (X := X.suite a ((a, oe3) :: (X.pn ++ pins))) S3 g hx hv q hnn db
    refine named (fits.here (codeAny_handlers_suite_as (HandSPX.lands_againZ fl3 fun h4 fl4 up4 => ?_)))
    obtain ⟨oe4, vs4, he4, hz4, hd4⟩ := fl4.there
    have J4 : Inv X pins σ' H' { s' with heap := h4 } := J.landed nb fl4.1 ((up.trans up3).trans up4) os ag
    have S4 := J4.suite he4 hd4 na nL nF
    refine store_ok (X := X.suite a ((a, oe4) :: (X.pn ++ pins))) (v := .ref a) S4 hN hi (.inl hln) rfl (fun s5 S5 => ?_) (.inr hln)
    refine wpAny_mono ((hsu a oe4 cls d (X.pn ++ pins) hz4 ⟨_, hd4⟩).run [] s5 _ H' _ S5 (go a na)) (fun f s6 q => ?_) fun _ _ z => z.elim
    cases f with
    | brk => exact (let ⟨_, _, _, q⟩ := q; q).elim
    | cont => exact (let ⟨_, _, _, q⟩ := q; q).elim
    | ret u => exact (let ⟨_, _, _, _, _, q⟩ := q; q).elim
    | next =>
      obtain ⟨σ6, H6, S6, q6⟩ := q
      refine gone_ok (X := X.suite a ((a, oe4) :: (X.pn ++ pins))) S6 hN hi hln fun s7 S7 => ?_
      obtain ⟨e7, n7, _⟩ := S7.pin (a, oe4) (List.mem_append_left _ List.mem_cons_self)
      exact ⟨_, _, track (S7.unsuite ok) n7 n0 nL nC nP (kept_ok e7 hz4 hd4), q6⟩
  refine wpAny_Try_except (wpAny_mono ((hb (wKeep X.K c i ts D) (X.pn ++ pins) _ caught PassesOwn.looking).run [] s σ H D (I.toTry _) h) (fun f s1 q => ?_) fun e s1 q => q)
  cases f with
  | next => exact (let ⟨σ', H', J, q⟩ := q; wpAny_execs_nil ⟨σ', H', J.ofTry ok, q⟩)
  | brk => exact (let ⟨σ', H', J, q⟩ := q; ⟨σ', H', J.ofTry ok, q⟩)
  | cont => exact (let ⟨σ', H', J, q⟩ := q; ⟨σ', H', J.ofTry ok, q⟩)
  | ret u => exact (let ⟨v, σ', H', J, r, q⟩ := q; ⟨v, σ', H', J.ofTry ok, r, q⟩)
end
end My
namespace My
open PySem PySem.Spec PyProof.Rows L2
section
variable {X : Cx} {pins : List (Addr × Obj)} {σ : L2.St} {H : Hp} {s : Shared} {a C : Addr} {d : Option Addr}
/-- the held exception as the library's rules for instances want it; its own dict, if it has one, is tracked -/
theorem held_inst (I : Inv X pins σ H s) (h : H a = some (KeptO (.ref C) d a)) (hd : ∀ dd, d = some dd → ∃ fs, H dd = some (.xd fs)) : ∃ oe od, PySem.W.InstAt s.heap a oe C od := by
  obtain ⟨⟨oe, vs, e, z, f⟩, _, _⟩ := I.hok a _ h
  have plain : PySem.W.notCls oe = true := by
    unfold PySem.W.notCls
    rw [f] <;> rfl
  cases d with
  | none => exact ⟨oe, none, e, z.1, plain, by rw [z.2]; trivial⟩
  | some dd =>
    obtain ⟨fs, hx⟩ := hd dd rfl
    obtain ⟨mA, ns, _⟩ := (show ObjOk X.prog X.w H s.heap dd (.xd fs) from I.hok dd _ hx)
    obtain ⟨od, ho, _⟩ := lookIn_ns ns
    exact ⟨oe, some od, e, z.1, plain, by rw [z.2]; exact ho⟩
/-- isinstance(e, c), e an exception that is held, c an own class or a built-in one -/
def rHeldIs (K : PySem.W.Frag) : List V → Hp → VK → Prop := fun xs H Q => ∃ (a D : Addr) (d : Option Addr) (c : V) (u : Value) (b : Bool), xs = [.ref a, c] ∧ ClsV c u ∧ H a = some (KeptO (.ref D) d a) ∧ (∀ dd, d = some dd → ∃ fs, H dd = some (.xd fs)) ∧
  ExcC K D ∧ PySem.W.kitOne K (.ref D) u = some b ∧ Q (.bl b) H
theorem call_heldIs : CallR X (.builtin "isinstance") (rHeldIs X.K) := by
  intro pins s σ H xs us Q I r h
  obtain ⟨a, D, d, c, u, b, rfl, k, ha, hd, T, e, q⟩ := h
  obtain ⟨u1, u2, rfl, r1, r2⟩ := vals2 r
  cases r1
  have e2 := k.eq r2
  subst e2
  obtain ⟨oe, od, J⟩ := held_inst I ha hd
  have cls : (PySem.W.clsIn X.K D).isSome = true := by
    obtain ⟨cd, hc, _⟩ := PySem.W.any_some T.hd
    rw [hc] <;> rfl
  exact PySem.W.kia_one (PySem.W.kitx_exc cls T.hg T.hk T.hs T.ha T.hn T.ht T.hm) I.kIn J e (fun z => nomatch z) fun tk => ⟨.bl b, H, I.tok tk, rfl, q⟩
/-- e.f of a held exception -/
def tHeldF (K : PySem.W.Frag) (f : Str) (te : TE) : TE := fun σ H Q => te σ H fun x H1 => ∃ (a C dd : Addr) (fs : List (Str × V)) (v : V), x = .ref a ∧ H1 a = some (KeptO (.ref C) (some dd) a) ∧ H1 dd = some (.xd fs) ∧ XfC K C ∧ PySem.W.findIn K (.ref C) f = some none ∧ fs.lookup f = some v ∧ Q v H1
theorem pe_heldF {te : TE} {n : Str} {e : Expr} {pos : Pos} (he : PE X e te) (hb : attributeBase e n X.env (eval e X.env) = eval e X.env := by rfl) : PE X (.Attribute e n pos) (tHeldF X.K n te) := by
  constructor
  intro pins s σ H Q I h
  refine attr_of hb (thn (he.run pins s σ H _ I h) ?_)
  intro u s1 hu
  obtain ⟨x, H1, I1, rx, a, C, dd, fs, v, ex, ea, ed, T, hno, l, q⟩ := hu
  subst ex
  obtain rfl : u = Value.ref a := rx
  obtain ⟨⟨oe, vs, e1, z, f1⟩, _, _⟩ := I1.hok a _ ea
  obtain ⟨mA, ns, rel⟩ := (show ObjOk X.prog X.w H1 s1.heap dd (.xd fs) from I1.hok dd _ ed)
  obtain ⟨od, ho, hl⟩ := lookIn_ns ns
  obtain ⟨w, hw, rw'⟩ := RelO.some_of (v := v) (o := mA n) (by rw [← l]; exact rel n)
  have plain : PySem.W.notCls oe = true := by
    unfold PySem.W.notCls
    rw [f1] <;> rfl
  have J : PySem.W.InstAt s1.heap a oe C (some od) := ⟨e1, z.1, plain, by rw [z.2]; exact ho⟩
  exact HandSPX.exc_get I1.kIn J T.ga T.gg T.exC (PySem.W.findObj_own T.hdC hno rfl (by rw [hl, hw])) (handed_of rw') ⟨v, H1, I1.tok _, rw', q⟩
end
end My
namespace My
open PySem PySem.Spec PyProof.Rows L2
/-- a def's promise where it is known that no repr is under way -/
structure FnG (P : Program) (w : World) (K : PySem.W.Frag) (mg : Str → Option Value) (base : Heap) (CX : CXT) (k : Nat) (f : Addr) (fd : FuncData) (ps : List Str) (sp : Sp) : Prop where
  len : ∀ vs H Q E, sp vs H Q E → vs.length = ps.length
  run : ∀ (A : Around) (outer : List Env) (s : Shared) (H : Hp) (args : Args) (us : List Value) (vs : List V) (Q : VK) (E : XK), Room k A → A.guards = some [] → Env0 P w K mg base A outer s H → BindsTo s fd args (ps.zip us) → Vals vs us → sp vs H Q E →
    codeAny (model P w) A (.call (.ref f) args) (CR CX outer P w H s Q E) s
theorem toG {P : Program} {w : World} {K : PySem.W.Frag} {mg : Str → Option Value} {base : Heap} {CX : CXT} {k : Nat} {f : Addr} {fd : FuncData} {ps : List Str} {sp : Sp} (F : FnOk P w K mg base CX k f fd ps sp) : FnG P w K mg base CX k f fd ps sp :=
  ⟨F.len, fun A outer s H args us vs Q E r _ => F.run A outer s H args us vs Q E r⟩
section
variable {P : Program} {w : World} {K : PySem.W.Frag} {mg : Str → Option Value} {base : Heap}
/-- a def by its body, the guards known -/
theorem okG {CX : CXT} {x qual : Str} {st : Stmt} {f : Addr} {fd : FuncData} {N ps : List Str} {k : Nat} {sp : Sp} (F : Fun K x qual st f fd) (S : FnScope N ps (defScope st)) (len : ∀ vs H Q E, sp vs H Q E → vs.length = ps.length)
    (body : ∀ (cdv : Value) (A : Around) (outer : List Env) (s : Shared) (H : Hp) (vs : List V) (Q : VK) (E : XK), Room k (A.deeper (envOfC qual (defScope st) s.heap.objs.size f cdv)) → (A.deeper (envOfC qual (defScope st) s.heap.objs.size f cdv)).guards = some [] → sp vs H Q E →
      ∃ t, PSs (cxOf CX P w K mg base N qual (defScope st) f cdv A outer s H E) (defBody st) t ∧ t { nx := fun _ H' => Q .non H', rt := Q } (start N vs) H) : FnG P w K mg base CX (k + 1) f fd ps sp := by
  obtain ⟨oc, od, kV, doc, pm, an, cdv, ct, osl, rfl, lk, hcd⟩ := F.ex
  refine ⟨len, ?_⟩
  intro A outer s H args us vs Q E room guard e0 bind rel prom
  have stays : ∀ b o, base.get? b = some o → s.heap.get? b = some o := fun b o z => (e0.bs b o z).1
  have KS : K.In s.heap := e0.mod.kin.keeps stays
  have many := len _ _ _ _ prom
  have kinds : ∀ y ∈ ps.zip us, (defScope st).names.lookup y.1 = some .local ∨ ((defScope st).names.lookup y.1 = some .cell ∧ ((cellsFrom (s.heap.objs.size + 1) (defScope st).names []).lookup y.1).isSome = true) := by
    intro y hy
    cases S.par y.1 (List.of_mem_zip hy).1 with
    | inl q => exact .inl q
    | inr q => exact .inr ⟨q, PySem.W.cellsFrom_some _ _ _ (.inl q)⟩
  refine codeAny_call_function room.depth (KS _ _ lk) rfl S.co S.gen rfl (PySem.W.codeRec_of KS hcd) (bind _ _ _ _ ?_)
  refine wpAny_newFunctionEnv_cells S.kind kinds fun env he s2 ic => ?_
  subst he
  refine ⟨(e0.mod.nolimit.keeps stays).keeps ic.toInCall.keep, codeAny_func ?_⟩
  have guard' : (A.deeper (envOfC qual (defScope st) s.heap.objs.size f cdv)).guards = some [] := by
    obtain ⟨a1, a2, a3, a4, a5⟩ := A
    first | exact guard | simpa [Around.deeper, Code.guards, Code.isGuard, pushGuards, guardIds] using guard
  obtain ⟨t, ht, hq⟩ := body cdv A outer s H vs Q E (room.deeper _) guard' prom
  refine wpAny_mono (ht.run [] s2 (start N vs) H _ (inv_start S room.hd e0 many rel ic) hq) (fun fl s' hs => ?_) fun e s' hs => hs
  cases fl with
  | ret u => exact (let ⟨v, _, H', J, rv, q⟩ := hs; ⟨v, H', J.os, J.bare, J.base, J.hok, rv, q⟩)
  | next => exact (let ⟨_, H', J, q⟩ := hs; ⟨.non, H', J.os, J.bare, J.base, J.hok, rfl, q⟩)
  | brk => exact (let ⟨_, _, _, q⟩ := hs; q).elim
  | cont => exact (let ⟨_, _, _, q⟩ := hs; q).elim
end
section
variable {X : Cx} {CX : CXT} {k : Nat} {f : Addr} {fd : FuncData} {ps : List Str} {ds : List Value} {dvs : List V} {sp : Sp} {E : XK} {x : Str} {p pos : Pos} {e : Expr} {es : List Expr} {t : TA}
theorem runG {pins : List (Addr × Obj)} {σ : L2.St} {H : Hp} {s : Shared} {Q : VK} {us : List Value} {vs : List V} (F : FnG X.prog X.w X.K X.mg X.base CX k f fd ps sp) (hr : Room k X.A) (hg : X.A.guards = some []) (hb : Binds X.K fd ps ds) (hd : Vals dvs ds) (hx : Passes CX X E)
    (I : Inv X pins σ H s) (r : Vals vs us) (h : sp (vs ++ dvs) H Q E) : wpAny (model X.prog X.w) X.A (call (.ref f) us) (EP X pins σ Q) X.xe s := by
  have rel : Vals (vs ++ dvs) (us ++ ds) := r.append hd
  have many : (us ++ ds).length = ps.length := rel.length ▸ F.len _ _ _ _ h
  refine wpAny_call (codeAny_mono (F.run X.A X.stack s H ⟨us, []⟩ (us ++ ds) (vs ++ dvs) Q E hr hg I.env0 (hb s us I.kIn many) rel h) ?_)
  intro r s' hq
  match r, hq with
  | .error e, hq => exact hx pins σ H s e s' I hq
  | .ok (.ret u), hq => exact I.after hq
/-- f(e, ..) where it is known that no repr is under way -/
theorem pe_callG (F : FnG X.prog X.w X.K X.mg X.base CX k f fd ps sp) (hr : Room k X.A) (hgu : X.A.guards = some []) (hg : Gl X x) (hm : X.mg x = some (.ref f)) (hk : PySem.W.keepIn X.K (.ref f) = true) (hb : Binds X.K fd ps ds) (hd : Vals dvs ds) (hx : Passes CX X E)
    (ha : PA X (e :: es) t) (hdb : (x == ("__debug__" : Str)) = false := by decide) (he : starEach (e :: es) X.env = (false, eval e X.env) :: starEach es X.env := by rfl) (hpl : (backTo pos (starEach es X.env)).any (·.1) = false := by rfl) :
    PE X (.Call (.Name x p) (e :: es) [] pos) (tCall sp dvs E t) := by
  constructor
  intro pins s σ H Q I h
  refine wpAny_Call_Name_kw (ld_glob I hg hm (PySem.W.callWith_K (h₀ := X.base) I.ok.mod.kin hk (thn (ha.run pos pins s σ H _ I h) ?_) he hpl) hdb)
  intro us s1 hu
  obtain ⟨vs, H1, I1, r, q⟩ := hu
  exact ⟨I1.kIn, runG F hr hgu hb hd hx I1 r q⟩
/-- x == y where x is of an own class with an own __eq__ that answers True or False, y anything that is not of a class below x's -/
def rEqOwn (K : PySem.W.Frag) (C : Addr) (sp : Sp) (E : XK) : R2 := fun x y H Q => ∃ (a dx : Addr) (fs : List (Str × V)) (t : Value), x = .ref a ∧ H a = some (.ins C dx fs) ∧ TyX K H y t ∧ PySem.W.notFirst K C t = true ∧ sp [x, y] H (fun v H' => ∃ b, v = .bl b ∧ Q (.bl b) H') E
theorem op_eqOwn {C : Addr} (F : FnG X.prog X.w X.K X.mg X.base CX k f fd ps sp) (hr : Room k X.A) (hgu : X.A.guards = some []) (hs : PySem.W.findIn X.K (.ref C) "__eq__" = some (some (.ref f))) (hf : PySem.W.isFn X.K (.ref f) = true) (hb : Binds X.K fd ps []) (hx : Passes CX X E) :
    OpR X (compareOp .Eq) (rEqOwn X.K C sp E) := by
  intro pins s σ H x y v u Q I rx ry h
  obtain ⟨a, dx, fs, t, rfl, ha, ty, nf, q⟩ := h
  cases rx
  obtain ⟨mA, J, _⟩ := ins_get I.hok ha
  obtain ⟨od, J, _⟩ := J.look
  obtain ⟨m, hF⟩ := I.fr
  obtain ⟨Pp, Z, pz, _⟩ := kit_of I ry ty
  show wpAny (model X.prog X.w) X.A (richCompare .Eq (.ref a) u) (EP X pins σ Q) X.xe s
  refine PySem.W.cmp_K (op := .Eq) (tb := t) hr.units0 hF I.ok.mod.kin J (Z.ty _ _ I.kIn pz) nf hs hf ?_
  refine wpAny_mono (runG (vs := [.ref a, y]) (us := [.ref a, u]) (dvs := []) (ds := []) F hr hgu hb .nil hx I (.cons rfl (.cons ry .nil)) q) (fun r s' z => ?_) fun _ _ z => z
  obtain ⟨w1, H1, I1, r1, b, rfl, q1⟩ := z
  cases r1
  exact ⟨.bl b, H1, I1, rfl, q1⟩
end
end My
namespace My
open PySem PySem.Spec PyProof.Rows L2
section
variable {X : Cx} {CX : CXT} {k : Nat} {f : Addr} {fd : FuncData} {ps : List Str} {sp : Sp} {E : XK}
/-- a def called from within a built-in -/
theorem runAt {A : Around} {pins : List (Addr × Obj)} {σ : L2.St} {H : Hp} {s : Shared} {Q : VK} {us : List Value} {vs : List V} (F : FnG X.prog X.w X.K X.mg X.base CX k f fd ps sp) (hr : Room k A) (hg : A.guards = some []) (fr : A.frames = X.A.frames) (hb : Binds X.K fd ps []) (hx : Passes CX X E)
    (I : Inv X pins σ H s) (r : Vals vs us) (h : sp vs H Q E) : wpAny (model X.prog X.w) A (call (.ref f) us) (EP X pins σ Q) X.xe s := by
  have many : us.length = ps.length := r.length ▸ F.len _ _ _ _ h
  have e0 : Env0 X.prog X.w X.K X.mg X.base A X.stack s H := by
    obtain ⟨h1, h2, h3, h4, h5, h6, h7, h8⟩ := I.env0
    exact ⟨fr.trans h1, h2, h3, h4, h5, h6, h7, h8⟩
  have bind := hb s us I.kIn (by simpa using many)
  rw [List.append_nil] at bind
  refine wpAny_call (codeAny_mono (F.run A X.stack s H ⟨us, []⟩ us vs Q E hr hg e0 bind r h) ?_)
  intro r s' hq
  match r, hq with
  | .error e, hq => exact hx pins σ H s e s' I hq
  | .ok (.ret u), hq => exact I.after hq
/-- x != y where x is of an own class with an own __eq__ that answers True or False and without an own __ne__ -/
theorem op_neOwn {C : Addr} (F : FnG X.prog X.w X.K X.mg X.base CX k f fd ps sp) (hr : Room (k + 1) X.A) (hgu : X.A.guards = some []) (hs : PySem.W.findIn X.K (.ref C) "__eq__" = some (some (.ref f))) (hf : PySem.W.isFn X.K (.ref f) = true)
    (hn : PySem.W.findIn X.K (.ref C) "__ne__" = some (some (.builtin "object.__ne__"))) (hm : PySem.W.mroIn X.K C (.type "object") = some true) (hb : Binds X.K fd ps []) (hx : Passes CX X E) :
    OpR X (compareOp .NotEq) (fun x y H Q => rEqOwn X.K C sp E x y H fun v H' => ∃ b, v = .bl b ∧ Q (.bl (!b)) H') := by
  intro pins s σ H x y v u Q I rx ry h
  obtain ⟨a, dx, fs, t, rfl, ha, ty, nf, q⟩ := h
  cases rx
  obtain ⟨mA, J, _⟩ := ins_get I.hok ha
  obtain ⟨od, J, _⟩ := J.look
  obtain ⟨Pp, Z, pz, _⟩ := kit_of I ry ty
  have KS := I.kIn
  have own : wpAny (model X.prog X.w) X.A.in1 (callSpecialIfBound? (.ref a) "__eq__" [u]) (fun r s' => ∃ b, r = some (.bool b) ∧ EP X pins σ Q (.bool (!b)) s') X.xe s := by
    refine PySem.W.ifBound_K KS J hs hf (wpAny_mono (runAt (vs := [.ref a, y]) (us := [.ref a, u]) F hr.in1 hgu rfl hb hx I (.cons rfl (.cons ry .nil)) q) (fun r s' z => ?_) fun _ _ z => z)
    obtain ⟨w1, H1, I1, r1, b, rfl, b', e, q1⟩ := z
    cases r1
    cases e
    exact ⟨b, rfl, .bl (!b), H1, I1, rfl, q1⟩
  have entry : wpAny (model X.prog X.w) X.A.in1 (Builtin.«object.__ne__» ⟨[.ref a, u], []⟩) (fun r s' => ∃ b, r = .done (.ret (.bool (!b))) ∧ EP X pins σ Q (.bool (!b)) s') X.xe s := by
    unfold Builtin.«object.__ne__»
    refine wpAny_bind (wpAny_of_eq (a := ((Value.ref a : Value), [u])) (by first | rfl | (simp only [slotArgs]; rfl)) ?_)
    refine wpAny_bind (wpAny_cRoomFor hr.in1.units0 (wpAny_bind (wpAny_mono own (fun r s' z => ?_) fun _ _ z => z)))
    obtain ⟨b, rfl, ep⟩ := z
    exact wpAny_bind (wpAny_truthy_bool (wpAny_pure ⟨b, rfl, ep⟩))
  have slot : wpAny (model X.prog X.w) X.A (call (.builtin "object.__ne__") [.ref a, u]) (fun v s' => ∃ b, v = .bool b ∧ EP X pins σ Q (.bool b) s') X.xe s := by
    refine wpAny_call (codeAny_call_builtin PySem.F.cmp_object.ne.plain PySem.F.cmpEntry_ne (PySem.W.check_slot PySem.F.cmpKind_ne PySem.F.cmpSplit_ne (J.type.andThen (PySem.W.looks_mroIn KS hm)) (PySem.F.cmpArgs_ne _ _) (wpAny_mono entry (fun r s' z => ?_) fun _ _ z => z)))
    obtain ⟨b, rfl, ep⟩ := z
    exact ⟨!b, rfl, ep⟩
  have one : wpAny (model X.prog X.w) X.A (tryCompare (.ref a) "__ne__" u) (fun r s' => ∃ b, r = some (.bool b) ∧ EP X pins σ Q (.bool b) s') X.xe s := by
    unfold tryCompare
    have asked : wpAny (model X.prog X.w) X.A (callSpecialIfBound? (.ref a) "__ne__" [u]) (fun r s' => ∃ b, r = some (.bool b) ∧ EP X pins σ Q (.bool b) s') X.xe s := by
      have last : wpAny (model X.prog X.w) X.A (call (.builtin "object.__ne__") ([.ref a] ++ [u]) >>= fun v => pure (some v)) (fun r s' => ∃ b, r = some (.bool b) ∧ EP X pins σ Q (.bool b) s') X.xe s :=
        wpAny_bind (wpAny_mono slot (fun v s' z => wpAny_pure (let ⟨b, e, ep⟩ := z; ⟨b, congrArg some e, ep⟩)) fun _ _ z => z)
      unfold callSpecialIfBound? bindSpecialIfBound?
      refine wpAny_holding (wpAny_bind (wpAny_bind (wpAny_bind (J.type.here ((PySem.W.looks_findIn KS hn).here (wpAny_bind (wpAny_askSetting (wpAny_ite ?_))))))))
      split
      · exact wpAny_bind (wpAny_of_eq (PySem.F.cmp_object.ne.bind _) (wpAny_pure last))
      · exact wpAny_tryCatch (wpAny_bind (wpAny_of_eq (PySem.F.cmp_object.ne.bind _) (wpAny_pure last)))
    refine wpAny_bind (wpAny_mono asked (fun r s' z => ?_) fun _ _ z => z)
    obtain ⟨b, rfl, ep⟩ := z
    exact wpAny_pure ⟨b, rfl, ep⟩
  show wpAny (model X.prog X.w) X.A (richCompare .NotEq (.ref a) u) (EP X pins σ Q) X.xe s
  unfold richCompare
  simp only [oneThing_ref]
  refine wpAny_holding (wpAny_bind (wpAny_cRoomFor hr.units0 (wpAny_bind (J.type.here (wpAny_bind ((Z.ty _ _ KS pz).here ?_))))))
  have fin : ∀ (rest : Option Value → Sem Value), (∀ b, rest (some (.bool b)) = pure (.bool b)) → wpAny (model X.prog X.w) X.A (tryCompare (.ref a) (cmpInfo CmpOp.NotEq).2.1 u >>= rest) (EP X pins σ Q) X.xe s := fun rest hrest => by
    refine wpAny_bind (wpAny_mono one (fun r s' z => ?_) fun _ _ z => z)
    obtain ⟨b, rfl, ep⟩ := z
    rw [hrest]
    exact wpAny_pure ep
  unfold PySem.W.notFirst at nf
  split
  · rename_i ne
    have sub : PySem.W.subIn X.K t (.ref C) = some false := by
      cases e : (t == Value.ref C) with
      | true =>
        rw [eq_of_beq e] at ne
        simp at ne
      | false =>
        rw [e, Bool.false_or] at nf
        exact eq_of_beq nf
    refine wpAny_bind ((PySem.W.looks_subIn KS sub).here ?_)
    simp only [Bool.false_eq_true, if_false]
    exact fin _ fun b => rfl
  · refine wpAny_bind (wpAny_pure ?_)
    simp only [Bool.false_eq_true, if_false]
    exact fin _ fun b => rfl
end
end My
namespace My
open PySem PySem.Spec PyProof.Rows L2
section
variable {X : Cx} {CX : CXT} {k : Nat} {f : Addr} {fd : FuncData} {ps : List Str} {sp : Sp} {E : XK}
/-- str(x), x of an own class with an own __str__ -/
theorem call_strOwn {C : Addr} (F : FnG X.prog X.w X.K X.mg X.base CX k f fd ps sp) (hr : Room (k + 2) X.A) (hgu : X.A.guards = some []) (hs : PySem.W.findIn X.K (.ref C) "__str__" = some (some (.ref f))) (hf : PySem.W.isFn X.K (.ref f) = true) (hb : Binds X.K fd ps []) (hx : Passes CX X E) :
    CallR X (.type "str") (fun xs H Q => ∃ (a dx : Addr) (fs : List (Str × V)), xs = [.ref a] ∧ H a = some (.ins C dx fs) ∧ sp [.ref a] H (fun v H' => ∃ z : Str, v = .str z ∧ Q (.str z) H') E) := by
  intro pins s σ H xs us Q I r h
  obtain ⟨a, dx, fs, rfl, ha, q⟩ := h
  obtain ⟨u, rfl, ru⟩ := vals1 r
  cases ru
  obtain ⟨mA, J, _⟩ := ins_get I.hok ha
  obtain ⟨od, J, _⟩ := J.look
  refine PySem.W.kso_call (Room.units0 (hr.in1.in1)) I.kIn J hs hf (wpAny_mono (runAt (vs := [.ref a]) (us := [.ref a]) F hr.in1.in1 hgu rfl hb hx I (.cons rfl .nil) q) (fun r s' z => ?_) fun _ _ z => z)
  obtain ⟨w1, H1, I1, r1, y, rfl, q1⟩ := z
  obtain ⟨t, rfl⟩ := r1
  exact ⟨.str y, H1, I1, ⟨t, rfl⟩, q1⟩
end
/-- a value without parts, and what it is -/
inductive Fl : V → PyData → Prop
  | non : Fl .non .none
  | bl (b : Bool) : Fl (.bl b) (.bool b)
  | int (i : Int) : Fl (.int i) (.int i)
  | str (x : Str) : Fl (.str x) (.str x)
/-- values without parts, and what they are -/
abbrev Fls : List V → List PyData → Prop := Paired Fl
/-- what a value is: without parts, a list or tuple of such, the dict without entries -/
inductive Th (H : Hp) : V → PyData → Prop
  | flat {x : V} {d : PyData} (h : Fl x d) : Th H x d
  | lst {a : Addr} {xs : List V} {ds : List PyData} (h : H a = some (.lst xs)) (k : Fls xs ds) (n : xs.length ≤ 1000) : Th H (.ref a) (.list ds)
  | tup {a : Addr} {xs : List V} {ds : List PyData} (h : H a = some (.tup xs)) (k : Fls xs ds) (n : xs.length ≤ 1000) : Th H (.ref a) (.tuple ds)
  | dct {a : Addr} (h : H a = some (.dK [])) : Th H (.ref a) (.dict [])
theorem Th.keep {H H' : Hp} {x : V} {d : PyData} (h : Th H x d) (k : ∀ b o, H b = some o → H' b = some o) : Th H' x d := by
  cases h with
  | flat h => exact .flat h
  | lst h r n => exact .lst (k _ _ h) r n
  | tup h r n => exact .tup (k _ _ h) r n
  | dct h => exact .dct (k _ _ h)
theorem fl_dp {K : PySem.W.Frag} {H : Hp} {x : V} {d : PyData} (h : Fl x d) : Dp K H x d := by
  cases h with
  | non => exact .non
  | bl b => exact .bl b
  | int i => exact .int i
  | str x => exact .str x
theorem fls_dp {K : PySem.W.Frag} {H : Hp} : ∀ {xs : List V} {ds : List PyData}, Fls xs ds → DpAll K H xs ds
  | _, _, .nil => .nil
  | _, _, .cons h r => .cons (fl_dp h) (fls_dp r)
theorem fls_noDict : ∀ {xs : List V} {ds : List PyData}, Fls xs ds → PyData.hasDictAll ds = false
  | _, _, .nil => rfl
  | _, _, .cons h r => by
    unfold PyData.hasDictAll
    rw [fls_noDict r]
    cases h <;> rfl
/-- what can be shown in bounds -/
structure Fine (d : PyData) : Prop where
  show_ : d.showable = true
  deep : d.depth ≤ 8
  size : d.shown.length ≤ sizeLine
section
variable {X : Cx}
theorem call_reprT (hg : X.A.guards = some []) (hu : X.A.units + 64 < cLine) : CallR X (.builtin "repr") (fun xs H Q => ∃ x d, xs = [x] ∧ Th H x d ∧ Fine d ∧ Q (.str d.shown) H) := by
  intro pins s σ H xs us Q I r h
  obtain ⟨x, d, rfl, th, fine, q⟩ := h
  obtain ⟨u, rfl, ru⟩ := vals1 r
  have fin : ∀ t tk, EP X pins σ Q (.str d.shown t) { s with toks := tk } := fun t tk => ⟨.str d.shown, H, I.tok tk, ⟨t, rfl⟩, q⟩
  have obj : ∀ a (as : List Addr), Reads s.heap (.ref a) d as → (d.hasDict = true → sysModules ∉ as) → wpAny (model X.prog X.w) X.A (call (.builtin "repr") [.ref a]) (EP X pins σ Q) X.xe s := fun a as rd nd =>
    repr_of_reads' rd fine.show_ nd hg (by have := fine.deep; omega) (fun _ _ e => e) (fun h' u tk hk => ⟨.str d.shown, H, I.kept hk, ⟨u, rfl⟩, q⟩) fine.size
  cases th with
  | flat h =>
    cases h with
    | non =>
      cases ru
      exact PySem.P.repr_of_none (fin _ _)
    | bl b =>
      cases ru
      exact PySem.P.repr_of_bool (by
        have e : (PyData.bool b).shown = if b then ("True" : Str) else "False" := by unfold PyData.shown; rfl
        rw [e] at fin
        cases b <;> exact fin _ _)
    | int i =>
      obtain ⟨t, rfl⟩ := ru
      have sm : i.natAbs.log2 < 1920 := by
        have z := fine.show_
        unfold PyData.showable at z
        exact of_decide_eq_true z
      exact PySem.P.repr_of_int sm (by
        have e : (PyData.int i).shown = (toString i : Str) := by unfold PyData.shown; rfl
        rw [e] at fin
        exact fin _ _)
    | str z =>
      obtain ⟨t, rfl⟩ := ru
      have e : (PyData.str z).shown = reprText z := by unfold PyData.shown; rfl
      have sz := fine.size
      rw [e] at fin sz
      exact PySem.P.repr_of_str (fin _ _) sz
  | @lst a xs ds h k n =>
    cases ru
    obtain ⟨as, rd⟩ := Dp.reads I _ _ _ (Dp.lst (K := X.K) (SqL.of h) (fls_dp k)) rfl
    refine obj a as rd (fun z => ?_)
    unfold PyData.hasDict at z
    rw [fls_noDict k] at z
    cases z
  | @tup a xs ds h k n =>
    cases ru
    obtain ⟨as, rd⟩ := Dp.reads I _ _ _ (Dp.tup (K := X.K) (SqT.of h) (fls_dp k)) rfl
    refine obj a as rd (fun z => ?_)
    unfold PyData.hasDict at z
    rw [fls_noDict k] at z
    cases z
  | @dct a h =>
    cases ru
    obtain ⟨_, nsys, vs, kv, o, es, ep, ho, ex, hd, _, pr, _⟩ := dk_of I.hok h
    cases kv
    have es0 : es.toList = [] := by
      obtain ⟨l⟩ := es
      have pr' : PySem.Pairs _ l [] := pr
      cases l with
      | nil => rfl
      | cons _ _ => cases pr'
    refine obj a _ (Reads.dict (kvs := []) (as := []) (bs := []) ho ex.1 hd (by rw [es0]; exact .nil) (by rw [es0]; exact .nil)) (fun _ => ?_)
    simp only [List.append_nil, List.mem_singleton]
    intro z
    rw [z] at nsys
    simp at nsys
end
end My
namespace My
open PySem PySem.Spec PyProof.Rows L2
def topS (i : Nat) : Stmt := PySem.Challenge.pw_layerseen_k05_simple_deeds_refused.main.body.getD i (.Pass ⟨0, 0, 0, 0⟩)
abbrev sWhole : Stmt := topS 3
abbrev sIndex : Stmt := topS 4
abbrev sCopied : Stmt := topS 5
abbrev sAsc : Stmt := topS 6
abbrev sFieldsOf : Stmt := topS 21
abbrev sNamesIn : Stmt := topS 22
abbrev sValuesIn : Stmt := topS 23
abbrev sWord : Stmt := topS 29
abbrev sName : Stmt := topS 30
abbrev sCheck : Stmt := topS 31
abbrev sChkVal : Stmt := topS 59
abbrev sBlockOf : Stmt := topS 60
abbrev sOtherOf : Stmt := topS 61
abbrev sPen : Stmt := topS 68
abbrev sDraw : Stmt := topS 69
abbrev sPick : Stmt := topS 70
abbrev sHeard : Stmt := topS 71
abbrev sSimpleR : Stmt := topS 72
abbrev sBlockedR : Stmt := topS 73
abbrev sLaw : Stmt := topS 74
structure Txt (mg : Str → Option Value) : Prop where
  int : mg "int" = none
  bool : mg "bool" = none
  len : mg "len" = none
  abs : mg "abs" = none
  list : mg "list" = none
  tuple : mg "tuple" = none
  dict : mg "dict" = none
  range : mg "range" = none
  isi : mg "isinstance" = none
  str : mg "str" = none
  all : mg "all" = none
  repr : mg "repr" = none
  ve : mg "ValueError" = none
  enum : mg "enumerate" = none
  sum : mg "sum" = none
  max : mg "max" = none
  any : mg "any" = none
  zip : mg "zip" = none
  set : mg "set" = none
  sorted : mg "sorted" = none
/-- no value without parts is a paper -/
structure NoPap (K : PySem.W.Frag) (mg : Str → Option Value) (C : Addr) : Prop where
  g : mg "Paper" = some (.ref C)
  kit : ∀ T ∈ ["NoneType", "bool", "int", "str"], PySem.W.kitOne K (.type T) (.ref C) = some false
theorem pe_never {X : Cx} {e : Expr} : PE X e (fun _ _ _ => False) := ⟨fun _ _ _ _ _ _ h => h.elim⟩
def Same' (H H' : Hp) : Prop := ∀ q o, H q = some o → H' q = some o
theorem Same'.trans {H1 H2 H3 : Hp} (h : Same' H1 H2) (k : Same' H2 H3) : Same' H1 H3 := fun b o e => k b o (h b o e)
theorem same_new {H : Hp} {p : Addr} {o : HO} (h : H p = none) : Same' H (upd H p o) := fun b x e => by
  rw [upd_ne (ne_of_none e h)]
  exact e
theorem same_over {H H1 : Hp} {p : Addr} {o : HO} (h : H p = none) (k : Same' H H1) : Same' H (upd H1 p o) := fun b x e => by
  rw [upd_ne (ne_of_none e h)]
  exact k _ _ e
theorem fl_not {K : PySem.W.Frag} {H : Hp} {x : V} {d : PyData} (h : Fl x d) (T : String) (hT : T = "list" ∨ T = "tuple" ∨ T = "dict") : ∃ S, TyX K H x (.type S) ∧ kitB S T = some false := by
  cases h with
  | non => exact ⟨"NoneType", .base .non, by rcases hT with rfl | rfl | rfl <;> decide +kernel⟩
  | bl b => exact ⟨"bool", .base (.bl b), by rcases hT with rfl | rfl | rfl <;> decide +kernel⟩
  | int i => exact ⟨"int", .base (.int i), by rcases hT with rfl | rfl | rfl <;> decide +kernel⟩
  | str z => exact ⟨"str", .base (.str z), by rcases hT with rfl | rfl | rfl <;> decide +kernel⟩
def spFlat : Sp := fun vs H Q _ => ∃ (x : V) (d : PyData), vs = [x] ∧ Fl x d ∧ Q x H
def spCopied : Sp := fun vs H Q _ => ∃ (x : V) (d : PyData), vs = [x] ∧ Th H x d ∧ ∀ y H', Same' H H' → Th H' y d → Q y H'
section
variable {P : Program} {w : World} {K : PySem.W.Frag} {mg : Str → Option Value} {base : Heap}
abbrev nCop : List Str := ["value", "item", "key"]
theorem scCop : FnScope nCop ["value"] (defScope sCopied) := ⟨rfl, rfl, rfl, by decide +kernel, rfl, by decide +kernel, by decide +kernel⟩
theorem fl_pap {C : Addr} {H : Hp} {x : V} {d : PyData} (N : NoPap K mg C) (h : Fl x d) : ∃ t, TyX K H x t ∧ PySem.W.kitOne K t (.ref C) = some false := by
  cases h with
  | non => exact ⟨_, .base .non, N.kit _ (by simp)⟩
  | bl b => exact ⟨_, .base (.bl b), N.kit _ (by simp)⟩
  | int i => exact ⟨_, .base (.int i), N.kit _ (by simp)⟩
  | str z => exact ⟨_, .base (.str z), N.kit _ (by simp)⟩
theorem ok_flat {f CP : Addr} {fd : FuncData} (F : Fun K "copied" "copied" sCopied f fd) (NP : NoPap K mg CP) (T : Txt mg) : FnOk P w K mg base CX0 1 f fd ["value"] spFlat := by
  refine F.ok scCop (fun vs H Q E h => ?_) (fun cdv A outer s H vs Q E hr h => ?_)
  · obtain ⟨x, d, rfl, _⟩ := h
    rfl
  · obtain ⟨x, d, rfl, fl, q⟩ := h
    refine ⟨_, pss_cons (ps_if (pt_val (pe_callB call_isi (by rfl) T.isi (by decide +kernel) (pa_cons (pv 0) (pa_cons (pe_bltn (by rfl) T.list (by decide +kernel) (show RelV (.ty "list") _ from rfl)) pa_nil)))) (pss_one ps_never) pss_nil)
      (pss_cons (ps_if (pt_val (pe_callB call_isi (by rfl) T.isi (by decide +kernel) (pa_cons (pv 0) (pa_cons (pe_bltn (by rfl) T.tuple (by decide +kernel) (show RelV (.ty "tuple") _ from rfl)) pa_nil)))) (pss_one ps_never) pss_nil)
      (pss_cons (ps_if (pt_val (pe_callB call_isi (by rfl) T.isi (by decide +kernel) (pa_cons (pv 0) (pa_cons (pe_bltn (by rfl) T.dict (by decide +kernel) (show RelV (.ty "dict") _ from rfl)) pa_nil)))) (pss_one ps_never) pss_nil)
      (pss_cons (ps_if (pt_val (pe_callB call_isi (by rfl) T.isi (by decide +kernel) (pa_cons (pv 0) (pa_cons (pe_glob (v := .ref CP) rfl NP.g rfl) pa_nil)))) (pss_one ps_never) pss_nil)
      (pss_one (ps_ret (pv 0)))))), ?_⟩
    obtain ⟨S1, t1, k1⟩ := fl_not (K := K) (H := H) fl "list" (by simp)
    obtain ⟨S2, t2, k2⟩ := fl_not (K := K) (H := H) fl "tuple" (by simp)
    obtain ⟨S3, t3, k3⟩ := fl_not (K := K) (H := H) fl "dict" (by simp)
    refine ⟨x, rfl, x, .ty "list", .type S1, .type "list", false, rfl, .ty "list", t1, kit_ty k1, false, rfl, iteF ?_⟩
    refine ⟨x, rfl, x, .ty "tuple", .type S2, .type "tuple", false, rfl, .ty "tuple", t2, kit_ty k2, false, rfl, iteF ?_⟩
    refine ⟨x, rfl, x, .ty "dict", .type S3, .type "dict", false, rfl, .ty "dict", t3, kit_ty k3, false, rfl, iteF ?_⟩
    obtain ⟨t4, ty4, k4⟩ := fl_pap (H := H) NP fl
    refine ⟨x, rfl, x, .ref CP, t4, .ref CP, false, rfl, .own _, ty4, k4, false, rfl, iteF ?_⟩
    exact ⟨x, rfl, q⟩
theorem fls_get : ∀ {xs : List V} {ds : List PyData} {i : Nat} {x : V}, Fls xs ds → xs[i]? = some x → ∃ d, Fl x d
  | _, _, _, _, .nil, h => by simp at h
  | _, _, 0, _, .cons h _, e => by
    simp at e
    subst e
    exact ⟨_, h⟩
  | _, _, i + 1, _, .cons _ r, e => fls_get (i := i) r (by simpa using e)
theorem ok_copied {f CP : Addr} {fd : FuncData} (F : Fun K "copied" "copied" sCopied f fd) (NP : NoPap K mg CP) (T : Txt mg) (b : Binds K fd ["value"] []) (g : mg "copied" = some (.ref f)) : FnOk P w K mg base CX0 2 f fd ["value"] spCopied := by
  have G : FnOk P w K mg base CX0 1 f fd ["value"] spFlat := ok_flat F NP T
  refine F.ok scCop (fun vs H Q E h => ?_) (fun cdv A outer s H vs Q E hr h => ?_)
  · obtain ⟨x, d, rfl, _⟩ := h
    rfl
  · obtain ⟨x, d, rfl, th, q⟩ := h
    refine ⟨_, pss_cons (ps_if (pt_val (pe_callB call_isi (by rfl) T.isi (by decide +kernel) (pa_cons (pv 0) (pa_cons (pe_bltn (by rfl) T.list (by decide +kernel) (show RelV (.ty "list") _ from rfl)) pa_nil))))
        (pss_one (ps_ret (pe_lc (own := [("item", 1)]) (g := gName 1) (tt := tYes) rfl scCop.nd (pi_list (pv 0)) (blkOk_by (N := nCop) (sc := defScope sCopied) (by decide +kernel)) (fun _ _ _ _ _ => pg_name (i := 1) scCop.nd rfl (Or.inl rfl)) (fun _ _ _ _ _ => pts_nil)
          (fun _ _ _ _ _ => pe_call G hr (by rfl) g F.kp b .nil pass0 (pa_cons (pv 1) pa_nil))))) pss_nil)
      (pss_cons (ps_if (pt_val (pe_callB call_isi (by rfl) T.isi (by decide +kernel) (pa_cons (pv 0) (pa_cons (pe_bltn (by rfl) T.tuple (by decide +kernel) (show RelV (.ty "tuple") _ from rfl)) pa_nil))))
        (pss_one (ps_ret (pe_callTy call_tuple_of (by rfl) T.tuple (by decide +kernel) (pa_cons (pe_lc (own := [("item", 1)]) (g := gName 1) (tt := tYes) rfl scCop.nd (pi_tup (pv 0)) (blkOk_by (N := nCop) (sc := defScope sCopied) (by decide +kernel)) (fun _ _ _ _ _ => pg_name (i := 1) scCop.nd rfl (Or.inl rfl)) (fun _ _ _ _ _ => pts_nil)
          (fun _ _ _ _ _ => pe_call G hr (by rfl) g F.kp b .nil pass0 (pa_cons (pv 1) pa_nil))) pa_nil)))) pss_nil)
      (pss_cons (ps_if (pt_val (pe_callB call_isi (by rfl) T.isi (by decide +kernel) (pa_cons (pv 0) (pa_cons (pe_bltn (by rfl) T.dict (by decide +kernel) (show RelV (.ty "dict") _ from rfl)) pa_nil))))
        (pss_one (ps_ret (pe_lock (pe_dc (own := [("key", 2)]) (g := gName 2) (tt := tYes) rfl scCop.nd (pi_keys (pv 0)) (blkOk_by (N := nCop) (sc := defScope sCopied) (by decide +kernel)) (fun _ _ _ _ _ => pg_name (i := 2) scCop.nd rfl (Or.inl rfl)) (fun _ _ _ _ _ => pts_nil)
          (fun _ _ _ _ _ => pe_never) (fun _ _ _ _ _ => pe_never))))) pss_nil)
      (pss_cons (ps_if (pt_val (pe_callB call_isi (by rfl) T.isi (by decide +kernel) (pa_cons (pv 0) (pa_cons (pe_glob (v := .ref CP) rfl NP.g rfl) pa_nil)))) (pss_one ps_never) pss_nil)
      (pss_one (ps_ret (pv 0)))))), ?_⟩
    cases th with
    | flat fl =>
      obtain ⟨S1, t1, k1⟩ := fl_not (K := K) (H := H) fl "list" (by simp)
      obtain ⟨S2, t2, k2⟩ := fl_not (K := K) (H := H) fl "tuple" (by simp)
      obtain ⟨S3, t3, k3⟩ := fl_not (K := K) (H := H) fl "dict" (by simp)
      refine ⟨x, rfl, x, .ty "list", .type S1, .type "list", false, rfl, .ty "list", t1, kit_ty k1, false, rfl, iteF ?_⟩
      refine ⟨x, rfl, x, .ty "tuple", .type S2, .type "tuple", false, rfl, .ty "tuple", t2, kit_ty k2, false, rfl, iteF ?_⟩
      refine ⟨x, rfl, x, .ty "dict", .type S3, .type "dict", false, rfl, .ty "dict", t3, kit_ty k3, false, rfl, iteF ?_⟩
      obtain ⟨t4, ty4, k4⟩ := fl_pap (H := H) NP fl
      refine ⟨x, rfl, x, .ref CP, t4, .ref CP, false, rfl, .own _, ty4, k4, false, rfl, iteF ?_⟩
      exact ⟨x, rfl, q x H (fun _ _ e => e) (.flat fl)⟩
    | @lst a xs ds h k n =>
      refine ⟨.ref a, rfl, .ref a, .ty "list", .type "list", .type "list", true, rfl, .ty "list", .base (.lst h), kit_ty (by decide +kernel), true, rfl, iteT ?_⟩
      refine ⟨.ref a, rfl, a, rfl, ⟨_, SqL.of h⟩, fun D hD => ?_⟩
      refine lc_list (K := K) (a := a) (xs := xs) (fun i H' => Same' H H' ∧ H' D = some (.lst (xs.take i))) ⟨same_new hD, upd_same⟩ (fun i H' _ hp => SqL.of (hp.1 _ _ h)) (fun i x H' hx hp => ?_) (fun H' hp => ?_)
      · obtain ⟨sm, ed⟩ := hp
        obtain ⟨d, fl⟩ := fls_get k hx
        refine ⟨rfl, ?_⟩
        refine ⟨x, rfl, x, d, rfl, fl, _, ed, ?_, same_over hD sm, ?_⟩
        · exact small1000 (by rw [List.length_take]; omega)
        · rw [upd_same, List.take_add_one, hx]
          rfl
      · obtain ⟨sm, ed⟩ := hp
        rw [List.take_length] at ed
        exact q _ _ sm (.lst ed k n)
    | @tup a xs ds h k n =>
      refine ⟨.ref a, rfl, .ref a, .ty "list", .type "tuple", .type "list", false, rfl, .ty "list", .base (.tup h), kit_ty (by decide +kernel), false, rfl, iteF ?_⟩
      refine ⟨.ref a, rfl, .ref a, .ty "tuple", .type "tuple", .type "tuple", true, rfl, .ty "tuple", .base (.tup h), kit_ty (by decide +kernel), true, rfl, iteT ?_⟩
      refine ⟨.ref a, rfl, a, rfl, ⟨_, SqT.of h⟩, fun D hD => ?_⟩
      refine lc_tup (K := K) (a := a) (xs := xs) (fun i H' => Same' H H' ∧ H' D = some (.lst (xs.take i))) ⟨same_new hD, upd_same⟩ (fun i H' _ hp => SqT.of (hp.1 _ _ h)) (fun i x H' hx hp => ?_) (fun H' hp => ?_)
      · obtain ⟨sm, ed⟩ := hp
        obtain ⟨d, fl⟩ := fls_get k hx
        refine ⟨rfl, ?_⟩
        refine ⟨x, rfl, x, d, rfl, fl, _, ed, ?_, same_over hD sm, ?_⟩
        · exact small1000 (by rw [List.length_take]; omega)
        · rw [upd_same, List.take_add_one, hx]
          rfl
      · obtain ⟨sm, ed⟩ := hp
        rw [List.take_length] at ed
        refine ⟨D, _, rfl, .inl ⟨SqL.of ed, fun l hl => ?_⟩⟩
        exact q _ _ (fun b o e => same_new hl b o (sm b o e)) (.tup upd_same k n)
    | @dct a h =>
      refine ⟨.ref a, rfl, .ref a, .ty "list", .type "dict", .type "list", false, rfl, .ty "list", .base (.dK h), kit_ty (by decide +kernel), false, rfl, iteF ?_⟩
      refine ⟨.ref a, rfl, .ref a, .ty "tuple", .type "dict", .type "tuple", false, rfl, .ty "tuple", .base (.dK h), kit_ty (by decide +kernel), false, rfl, iteF ?_⟩
      refine ⟨.ref a, rfl, .ref a, .ty "dict", .type "dict", .type "dict", true, rfl, .ty "dict", .base (.dK h), kit_ty (by decide +kernel), true, rfl, iteT ?_⟩
      refine ⟨a, .dK [], h, trivial, fun od => ⟨.ref a, rfl, a, od, rfl, .inl ⟨[], upd_same, fun D hD => ?_⟩⟩⟩
      have nDa : D ≠ a := fun z => by
        rw [z, upd_same] at hD
        cases hD
      have hD0 : H D = none := by
        rw [upd_ne nDa] at hD
        exact hD
      have atA : (upd (upd H a (.frz od (.dK []))) D (.dK [])) a = some (.frz od (.dK [])) := by rw [upd_ne (Ne.symm nDa), upd_same]
      refine ⟨fun i m H' => H' = upd (upd H a (.frz od (.dK []))) D (.dK []), ⟨0, rfl⟩, fun i m H' hw => .inl ?_⟩
      subst hw
      refine ⟨⟨atA, Nat.zero_le _⟩, atA, q _ _ (fun c o e => ?_) (.dct (by rw [upd_ne nDa, upd_same]))⟩
      by_cases hc : c = a
      · rw [hc, upd_same]
        rw [hc, h] at e
        exact e
      · rw [upd_ne hc, upd_ne (ne_of_none e hD0), upd_ne hc]
        exact e
end
end My
namespace My
open PySem PySem.Spec PyProof.Rows L2
/-! ### words and names, as they are said here -/
def low (c : Nat) : Bool := decide (97 ≤ c) && decide (c ≤ 122)
def wd (z : Str) : Bool := decide (1 ≤ z.length) && decide (z.length ≤ 8) && z.cps.toList.all low
def abc : Str := "abcdefghijklmnopqrstuvwxyz"
theorem low_abc (c : Nat) : decide (c ∈ abc.cps.toList) = low c := by
  have e : abc.cps.toList = [97, 98, 99, 100, 101, 102, 103, 104, 105, 106, 107, 108, 109, 110, 111, 112, 113, 114, 115, 116, 117, 118, 119, 120, 121, 122] := by decide +kernel
  rw [e]
  unfold low
  rw [← Bool.decide_and]
  apply decide_eq_decide.mpr
  simp only [List.mem_cons, List.not_mem_nil, or_false]
  omega
theorem sign_at {z : Str} {i : Nat} {c : Nat} (h : z.cps[i]? = some c) : z.cps.toList[i]? = some c := by simpa using h
/-- what is no text: None, a number, a truth, a tuple, a list, a dict -/
def NoText (K : PySem.W.Frag) (H : Hp) (x : V) : Prop := ∃ T : String, TyX K H x (.type T) ∧ kitB T "str" = some false
def spWord (K : PySem.W.Frag) (ans : Str → Bool) : Sp := fun vs H Q _ => ∃ x : V, vs = [x] ∧
  ((∃ z : Str, x = .str z ∧ z.length ≤ 1000 ∧ ∀ H', Same' H H' → Q (.bl (ans z)) H') ∨ (NoText K H x ∧ Q (.bl false) H))
def kept : List Str := ["put", "copy", "if", "else", "say", "fail", "catch", "choose", "or", "none", "stop", "skip", "cell", "log", "failure", "choice"]
def nm (z : Str) : Bool := wd z && !inV (.str z) (kept.map V.str)
section
variable {P : Program} {w : World} {K : PySem.W.Frag} {mg : Str → Option Value} {base : Heap}
abbrev nWord : List Str := ["value", "sign"]
theorem scWord : FnScope nWord ["value"] (defScope sWord) := ⟨rfl, rfl, rfl, by decide +kernel, rfl, by decide +kernel, by decide +kernel⟩
theorem ok_word {f : Addr} {fd : FuncData} {tl tn : Tok} (F : Fun K "is_word" "is_word" sWord f fd) (T : Txt mg) (mL : mg "LETTERS" = some (.str abc tl)) (mN : mg "LONGEST" = some (.int 8 tn)) : FnOk P w K mg base CX0 1 f fd ["value"] (spWord K wd) := by
  refine F.ok scWord (fun vs H Q E h => ?_) (fun cdv A outer s H vs Q E hr h => ?_)
  · obtain ⟨x, rfl, _⟩ := h
    rfl
  · obtain ⟨x, rfl, h⟩ := h
    refine ⟨_, pss_one (ps_ret (pe_and (pe_callB call_isi (by rfl) T.isi (by decide +kernel) (pa_cons (pv 0) (pa_cons (pe_bltn (by rfl) T.str (by decide +kernel) (show RelV (.ty "str") _ from rfl)) pa_nil)))
      (pe_and (pe_chain op_le op_le pe_int (pe_callB call_len_str (by rfl) T.len PySem.boot_len (pa_cons (pv 0) pa_nil)) (pe_glob (v := .int 8) rfl mN ⟨_, rfl⟩))
      (pe_one (pe_callB (cr_all rfl) (by rfl) T.all (by decide +kernel) (pa_cons
        (pe_lc (own := [("sign", 1)]) (g := gName 1) (tt := tYes) rfl scWord.nd (pi_str (pv 0)) (blkOk_by (N := nWord) (sc := defScope sWord) (by decide +kernel)) (fun _ _ _ _ _ => pg_name (i := 1) scWord.nd rfl (Or.inl rfl)) (fun _ _ _ _ _ => pts_nil)
          (fun _ _ _ _ _ => pe_cmpR op_in_sign (pv 1) (pe_glob (v := .str abc) rfl mL ⟨_, rfl⟩) rfl)) pa_nil)))))), ?_⟩
    refine ⟨x, rfl, ?_⟩
    rcases h with ⟨z, rfl, zl, q⟩ | ⟨⟨T, ty, kt⟩, q⟩
    · refine ⟨.str z, .ty "str", .type "str", .type "str", true, rfl, .ty "str", .base (.str z), kit_ty (by decide +kernel), true, rfl, iteT ?_⟩
      have zs : z.length < sizeLine := small1000 zl
      refine ⟨.str z, rfl, z, rfl, Nat.le_of_lt zs, 1, _, rfl, rfl, _, rfl, ite2 (fun e => ?_) (fun e => ?_)⟩
      · refine ⟨_, 8, rfl, rfl, _, rfl, ite2 (fun e2 => ?_) (fun e2 => ?_)⟩
        · have l1 := of_decide_eq_true e
          have l2 := of_decide_eq_true e2
          refine ⟨.str z, rfl, z, rfl, fun D hD => ?_⟩
          refine lc_it walk_str (fun i H' => Same' H H' ∧ H' D = some (.lst ((z.cps.toList.take i).map fun c => V.bl (low c)))) ⟨same_new hD, upd_same⟩ (fun _ _ _ _ => trivial) (fun i x H1 H2 hi hp hy => ?_) (fun H' hp => ?_)
          · obtain ⟨sm, ed⟩ := hp
            obtain ⟨rfl, c, hc, rfl⟩ := hy
            have hc' := sign_at hc
            refine ⟨rfl, ?_⟩
            refine ⟨_, rfl, c, abc, rfl, rfl, _, ed, ?_, same_over hD sm, ?_⟩
            · rw [List.length_map, List.length_take]
              exact Nat.lt_of_le_of_lt (Nat.min_le_right _ _) (by rw [Array.length_toList]; exact zs)
            · rw [upd_same, List.take_add_one, hc', low_abc, List.map_append]
              rfl
          · obtain ⟨sm, ed⟩ := hp
            refine ⟨D, z.cps.toList.map low, rfl, SqL.of ?_, ?_⟩
            · rw [ed, List.take_of_length_le (by rw [Array.length_toList]; exact Nat.le_refl _), List.map_map]
              rfl
            · have ez : (z.cps.toList.map low).all id = wd z := by
                unfold wd
                rw [decide_eq_true (show 1 ≤ z.length by omega), decide_eq_true (show z.length ≤ 8 by omega), List.all_map]
                rfl
              rw [ez]
              exact q _ sm
        · have ez : wd z = false := by
            have := of_decide_eq_false (Bool.eq_false_iff.mpr e2)
            unfold wd
            rw [decide_eq_false (show ¬ z.length ≤ 8 by omega), Bool.and_false, Bool.false_and]
          exact ez ▸ q H fun _ _ e => e
      · refine ⟨false, rfl, iteF ?_⟩
        have ez : wd z = false := by
          have := of_decide_eq_false (Bool.eq_false_iff.mpr e)
          unfold wd
          rw [decide_eq_false (show ¬ 1 ≤ z.length by omega), Bool.false_and, Bool.false_and]
        exact ez ▸ q H fun _ _ e => e
    · refine ⟨x, .ty "str", .type T, .type "str", false, rfl, .ty "str", ty, kit_ty kt, false, rfl, iteF q⟩
abbrev nName : List Str := ["value"]
theorem scName : FnScope nName ["value"] (defScope sName) := ⟨rfl, rfl, rfl, by decide +kernel, rfl, by decide +kernel, by decide +kernel⟩
theorem ok_name {f fW aK : Addr} {fd fdW : FuncData} (F : Fun K "is_name" "is_name" sName f fd) (FW : Fun K "is_word" "is_word" sWord fW fdW) (bW : Binds K fdW ["value"] []) (gW : mg "is_word" = some (.ref fW)) (G : FnOk P w K mg base CX0 1 fW fdW ["value"] (spWord K wd))
    (mK : mg "KEPT_WORDS" = some (.ref aK)) (hK : ∀ H, SqT K H aK (kept.map V.str)) : FnOk P w K mg base CX0 2 f fd ["value"] (spWord K nm) := by
  refine F.ok scName (fun vs H Q E h => ?_) (fun cdv A outer s H vs Q E hr h => ?_)
  · obtain ⟨x, rfl, _⟩ := h
    rfl
  · obtain ⟨x, rfl, h⟩ := h
    refine ⟨_, pss_one (ps_ret (pe_and (pe_call G hr (by rfl) gW FW.kp bW .nil pass0 (pa_cons (pv 0) pa_nil))
      (pe_one (pe_cmpR op_notIn_seq (pv 0) (pe_glob (v := .ref aK) rfl mK rfl) (by rfl))))), ?_⟩
    refine ⟨x, rfl, x, rfl, ?_⟩
    rcases h with ⟨z, rfl, zl, q⟩ | ⟨nt, q⟩
    · refine .inl ⟨z, rfl, zl, fun H' sm => ?_⟩
      cases hz : wd z with
      | true =>
        refine ⟨true, rfl, iteT ⟨.str z, rfl, aK, _, rfl, .inr (hK _), rfl, by decide +kernel, ?_⟩⟩
        have e : nm z = !inV (.str z) (kept.map V.str) := by
          unfold nm
          rw [hz, Bool.true_and]
        exact e ▸ q H' sm
      | false =>
        refine ⟨false, rfl, iteF ?_⟩
        have e : nm z = false := by
          unfold nm
          rw [hz, Bool.false_and]
        exact e ▸ q H' sm
    · exact .inr ⟨nt, false, rfl, iteF q⟩

end
end My
namespace My
open PySem PySem.Spec PyProof.Rows L2
abbrev sIniN : Stmt := inClass (topS 9) 0
abbrev sIniB : Stmt := inClass (topS 11) 0
abbrev sIniW : Stmt := inClass (topS 10) 0
/-- self.value = copied(value) -/
def spIni (K : PySem.W.Frag) (C : Addr) : Sp := fun vs H Q _ => ∃ (a : Addr) (x : V) (d : PyData), vs = [.ref a, x] ∧ H a = some (exo a C none) ∧ Th H x d ∧
  ∀ (y : V) (dx : Addr) (H' : Hp), (∀ b o, b ≠ a → H b = some o → H' b = some o) → H dx = none → H' a = some (exo a C (some dx)) → H' dx = some (exd dx [("value", y)]) → Th H' y d → Q .non H'
/-- an error class with the field value, as the top has made it -/
structure Err (K : PySem.W.Frag) (mg : Str → Option Value) (name : String) (C fI : Addr) : Prop where
  g : mg name = some (.ref C)
  ox : OexC K C
  ini : PySem.W.findIn K (.ref C) "__init__" = some (some (.ref fI))
  ty : PySem.W.typeIn K (.ref fI) = some (.type "function")
  no : PySem.W.findIn K (.ref C) "value" = some none
theorem th_exo {H : Hp} {x : V} {d : PyData} {a C : Addr} (h : Th H x d) (ha : H a = some (exo a C none)) {H' : Hp} (k : ∀ b o, b ≠ a → H b = some o → H' b = some o) : Th H' x d := by
  have ne : ∀ {b : Addr} {o : HO}, H b = some o → o ≠ exo a C none → b ≠ a := fun e n z => by
    rw [z, ha] at e
    injection e with e
    exact n e.symm
  cases h with
  | flat h => exact .flat h
  | lst h r n => exact .lst (k _ _ (ne h (by intro z; cases z)) h) r n
  | tup h r n => exact .tup (k _ _ (ne h (by intro z; cases z)) h) r n
  | dct h => exact .dct (k _ _ (ne h (by intro z; cases z)) h)
section
variable {P : Program} {w : World} {K : PySem.W.Frag} {mg : Str → Option Value} {base : Heap}
theorem scIniN : FnScope ["self", "value"] ["self", "value"] (defScope sIniN) := ⟨rfl, rfl, rfl, by decide +kernel, rfl, by decide +kernel, by decide +kernel⟩
theorem scIniB : FnScope ["self", "value"] ["self", "value"] (defScope sIniB) := ⟨rfl, rfl, rfl, by decide +kernel, rfl, by decide +kernel, by decide +kernel⟩
theorem ini_read {C : Addr} (ox : OexC K C) (no : PySem.W.findIn K (.ref C) "value" = some none) {vs : List V} {H : Hp} {Q : VK} {E E2 : XK} {N : List Str} (h : spIni K C vs H Q E) (hN : N = (["self", "value"] : List Str)) :
    tOst K "value" (tVar 0) (tCall spCopied [] E2 (tCons (tVar 1) tNil)) { nx := fun _ H' => Q .non H', rt := Q } (start N vs) H := by
  subst hN
  obtain ⟨a, x, d, rfl, ha, th, q⟩ := h
  refine ⟨x, rfl, x, d, rfl, th, fun y H1 sm th1 => ⟨.ref a, rfl, a, C, rfl, ox, no, .inl ⟨sm _ _ ha, fun dx hdx ne => ?_⟩⟩⟩
  have hd0 : H dx = none := by
    cases e : H dx with
    | none => rfl
    | some o =>
      rw [sm _ _ e] at hdx
      cases hdx
  have keep1 : ∀ b o, b ≠ a → H1 b = some o → (upd (upd H1 dx (exd dx [("value", y)])) a (exo a C (some dx))) b = some o := fun b o n e => by
    rw [upd_ne n, upd_ne (ne_of_none e hdx)]
    exact e
  refine q y dx _ (fun b o n e => keep1 b o n (sm b o e)) hd0 upd_same ?_ (th_exo th1 (sm _ _ ha) keep1)
  rw [upd_ne ne, upd_same]
theorem ok_iniN {f fC C : Addr} {fd fdC : FuncData} (F : Fun K "__init__" "BadName.__init__" sIniN f fd) (ox : OexC K C) (no : PySem.W.findIn K (.ref C) "value" = some none) (FC : Fun K "copied" "copied" sCopied fC fdC) (b : Binds K fdC ["value"] []) (g : mg "copied" = some (.ref fC))
    (G : FnOk P w K mg base CX0 2 fC fdC ["value"] spCopied) : FnOk P w K mg base CX0 3 f fd ["self", "value"] (spIni K C) := by
  refine F.ok scIniN (fun vs H Q E h => ?_) (fun cdv A outer s H vs Q E hr h => ?_)
  · obtain ⟨a, x, d, rfl, _⟩ := h
    rfl
  · exact ⟨_, pss_one (ps_ost (pv 0) (pe_call G hr (by rfl) g FC.kp b .nil pass0 (pa_cons (pv 1) pa_nil))), ini_read ox no h rfl⟩
theorem ok_iniB {f fC C : Addr} {fd fdC : FuncData} (F : Fun K "__init__" "BadNumber.__init__" sIniB f fd) (ox : OexC K C) (no : PySem.W.findIn K (.ref C) "value" = some none) (FC : Fun K "copied" "copied" sCopied fC fdC) (b : Binds K fdC ["value"] []) (g : mg "copied" = some (.ref fC))
    (G : FnOk P w K mg base CX0 2 fC fdC ["value"] spCopied) : FnOk P w K mg base CX0 3 f fd ["self", "value"] (spIni K C) := by
  refine F.ok scIniB (fun vs H Q E h => ?_) (fun cdv A outer s H vs Q E hr h => ?_)
  · obtain ⟨a, x, d, rfl, _⟩ := h
    rfl
  · exact ⟨_, pss_one (ps_ost (pv 0) (pe_call G hr (by rfl) g FC.kp b .nil pass0 (pa_cons (pv 1) pa_nil))), ini_read ox no h rfl⟩
/-- what is told of a raised error with the field value -/
def Told (E : XK) (C : Addr) (H : Hp) (d : PyData) : Prop := ∀ (y : V) (dd : Addr) (H' : Hp), Same' H H' → H' dd = some (.xd [("value", y)]) → Th H' y d → E (.ref C) (some dd) H'
/-- what is raised is told -/
theorem raised {C fI : Addr} {x : V} {d : PyData} {H : Hp} {E : XK} (th : Th H x d) (told : Told E C H d) : ∀ a, H a = none → spIni K C (.ref a :: ([x] ++ [])) (upd H a (exo a C none))
    (fun v H2 => v = .non ∧ ∃ (dd : Addr) (fs : List (Str × V)), H2 a = some (exo a C (some dd)) ∧ H2 dd = some (exd dd fs) ∧ H dd = none ∧ E (.ref C) (some dd) (upd (del H2 a) dd (.xd fs))) (fun _ _ _ => False) := by
  intro a ha
  refine ⟨a, x, d, rfl, upd_same, th.keep fun b o e => by rw [upd_ne (ne_of_none e ha)]; exact e, fun y dx H' keep hdx ea ed th' => ⟨rfl, dx, _, ea, ed, ?_, ?_⟩⟩
  · have n : dx ≠ a := fun z => by
      rw [z, upd_same] at hdx
      cases hdx
    rw [upd_ne n] at hdx
    exact hdx
  · have n : dx ≠ a := fun z => by
      rw [z, upd_same] at hdx
      cases hdx
    rw [upd_ne n] at hdx
    have up : ∀ b o, b ≠ a → b ≠ dx → H' b = some o → (upd (del H' a) dx (.xd [("value", y)])) b = some o := fun b o n1 n2 e => by
      rw [upd_ne n2, del_ne n1]
      exact e
    refine told y dx _ (fun b o e => ?_) upd_same ?_
    · have n1 : b ≠ a := ne_of_none e ha
      have n2 : b ≠ dx := ne_of_none e hdx
      exact up b o n1 n2 (keep b o n1 (by rw [upd_ne n1]; exact e))
    · cases th' with
      | flat h => exact .flat h
      | lst h r n => exact .lst (up _ _ (fun z => by rw [z, ea] at h; cases h) (fun z => by rw [z, ed] at h; cases h) h) r n
      | tup h r n => exact .tup (up _ _ (fun z => by rw [z, ea] at h; cases h) (fun z => by rw [z, ed] at h; cases h) h) r n
      | dct h => exact .dct (up _ _ (fun z => by rw [z, ea] at h; cases h) (fun z => by rw [z, ed] at h; cases h) h)
/-- a value that may be asked whether it is a name -/
def NameArg (K : PySem.W.Frag) (H : Hp) (x : V) : Prop := (∃ z : Str, x = .str z ∧ z.length ≤ 1000) ∨ NoText K H x
def isN (x : V) : Bool := match x with
  | .str z => nm z
  | _ => false
theorem noText_isN {H : Hp} {x : V} (h : NoText K H x) : isN x = false := by
  obtain ⟨T, ty, k⟩ := h
  cases x with
  | str z =>
    exfalso
    cases ty with
    | base b =>
      cases b
      exact absurd k (by decide +kernel)
  | _ => rfl
def spCheck (K : PySem.W.Frag) (C : Addr) : Sp := fun vs H Q E => ∃ (x : V) (d : PyData), vs = [x] ∧ NameArg K H x ∧ Th H x d ∧ (isN x = true → ∀ H', Same' H H' → Q .non H') ∧ (isN x = false → Told E C H d)
theorem scCheck : FnScope ["value"] ["value"] (defScope sCheck) := ⟨rfl, rfl, rfl, by decide +kernel, rfl, by decide +kernel, by decide +kernel⟩
theorem ok_check {f fN C fI : Addr} {fd fdN fdI : FuncData} (F : Fun K "check_name" "check_name" sCheck f fd) (FN : Fun K "is_name" "is_name" sName fN fdN) (bN : Binds K fdN ["value"] []) (gN : mg "is_name" = some (.ref fN)) (GN : FnOk P w K mg base CX0 2 fN fdN ["value"] (spWord K nm))
    (EN : Err K mg "BadName" C fI) (bI : Binds K fdI ["self", "value"] []) (GI : FnOk P w K mg base CX0 3 fI fdI ["self", "value"] (spIni K C)) : FnOk P w K mg base (L2.CX P w) 5 f fd ["value"] (spCheck K C) := by
  refine F.okX scCheck (fun vs H Q E h => ?_) (fun cdv A outer s H vs Q E hr h => ?_)
  · obtain ⟨x, d, rfl, _⟩ := h
    rfl
  · obtain ⟨x, d, rfl, na, th, yes, no⟩ := h
    refine ⟨_, pss_one (ps_if (pt_not (pt_val (pe_call GN (hr.mono (by decide)) (by rfl) gN FN.kp bN .nil pass0 (pa_cons (pv 0) pa_nil))))
      (pss_one (ps_raise rfl (takes_of rfl rfl rfl rfl) (pmk_oex EN.ox EN.ini EN.ty GI hr bI .nil pass0 (by rfl) EN.g (pa_cons (pv 0) pa_nil)))) pss_nil), ?_⟩
    refine ⟨x, rfl, x, rfl, ?_⟩
    rcases na with ⟨z, rfl, zl⟩ | nt
    · refine .inl ⟨z, rfl, zl, fun H1 sm => ⟨nm z, rfl, ?_⟩⟩
      cases hz : nm z with
      | true => exact iteF (yes hz H1 sm)
      | false =>
        refine iteT ⟨_, rfl, by show 1 ≤ 1000; decide, ?_⟩
        refine raised (fI := fI) (th.keep sm) fun y dd H' k1 k2 k3 => no hz y dd H' (sm.trans k1) k2 k3
    · refine .inr ⟨nt, false, rfl, iteT ⟨_, rfl, by show 1 ≤ 1000; decide, ?_⟩⟩
      exact raised (fI := fI) th (no (noText_isN nt))
end
end My
namespace My
open PySem PySem.Spec PyProof.Rows L2
/-! ### the pen: a list of a list of ints, of how many were taken, of what is left of a great one -/
structure PenAt (H : Hp) (p c : Addr) (ns : List Int) (B : Int) : Prop where
  pen : ∃ b g : Int, H p = some (.lst [.ref c, .int b, .int g]) ∧ 0 ≤ b ∧ b ≤ B ∧ 0 ≤ g
  cells : H c = some (.lst (ns.map V.int))
  few : ns.length ≤ 63
def Off (p : Addr) (H H' : Hp) : Prop := ∀ q o, q ≠ p → H q = some o → H' q = some o
theorem Off.trans {p : Addr} {H1 H2 H3 : Hp} (h : Off p H1 H2) (k : Off p H2 H3) : Off p H1 H3 := fun q o n e => k q o n (h q o n e)
theorem Off.rfl' {p : Addr} {H : Hp} : Off p H H := fun _ _ _ e => e
theorem Off.new {p a : Addr} {H : Hp} {o : HO} (h : H a = none) : Off p H (upd H a o) := fun q _ _ e => by
  rw [upd_ne (ne_of_none e h)]
  exact e
theorem PenAt.ne {H : Hp} {p c : Addr} {ns : List Int} {B : Int} (P : PenAt H p c ns B) : c ≠ p := by
  obtain ⟨b, g, e, _⟩ := P.pen
  intro z
  have y := P.cells
  rw [z, e] at y
  injection y with y
  injection y with y
  cases ns with
  | nil => cases y
  | cons x r => injection y with y1 y2; cases y1
theorem PenAt.more {H : Hp} {p c : Addr} {ns : List Int} {B C : Int} (P : PenAt H p c ns B) (h : B ≤ C) : PenAt H p c ns C := by
  obtain ⟨b, g, e, h1, h2, h3⟩ := P.pen
  exact ⟨⟨b, g, e, h1, by omega, h3⟩, P.cells, P.few⟩
theorem PenAt.keep {H H' : Hp} {p c : Addr} {ns : List Int} {B : Int} (P : PenAt H p c ns B) (h : ∀ q o, H q = some o → H' q = some o) : PenAt H' p c ns B := by
  obtain ⟨b, g, e, h1, h2, h3⟩ := P.pen
  exact ⟨⟨b, g, h _ _ e, h1, h2, h3⟩, h _ _ P.cells, P.few⟩

/-! ### numbers -/
theorem fm {x m : Int} (h : 0 < m) : 0 ≤ x.fmod m ∧ x.fmod m < m := by
  rw [Int.fmod_eq_emod_of_nonneg _ (by omega)]
  exact ⟨Int.emod_nonneg _ (by omega), Int.emod_lt_of_pos _ h⟩
theorem fd0 {x m : Int} (h : 0 < m) (hx : 0 ≤ x) : 0 ≤ x.fdiv m := by
  rw [Int.fdiv_eq_ediv_of_nonneg _ (by omega)]
  exact Int.ediv_nonneg hx (by omega)
theorem mulB {x y a b : Int} (h0 : 0 ≤ x) (h1 : x ≤ a) (k0 : 0 ≤ y) (k1 : y ≤ b) : 0 ≤ x * y ∧ x * y ≤ a * b :=
  ⟨Int.mul_nonneg h0 k0, Int.mul_le_mul h1 k1 k0 (by omega)⟩
theorem nz1 : (2147483549 : Int) ≠ 0 := by decide
theorem nz2 : (2147483629 : Int) ≠ 0 := by decide
theorem nz3 : (2147483587 : Int) ≠ 0 := by decide
theorem natAbs_lt {x : Int} (h0 : 0 ≤ x) (h1 : x < 18446744073709551616) : x.natAbs < 2 ^ 64 := by
  show x.natAbs < 18446744073709551616
  omega
theorem dpInts {K : PySem.W.Frag} {H : Hp} : ∀ ns : List Int, DpAll K H (ns.map V.int) (ns.map PyData.int)
  | [] => .nil
  | _ :: r => .cons (.int _) (dpInts r)
theorem shaped_ints : ∀ ns : List Int, SeqAt.shaped (.list (ns.map PyData.int)) = true
  | [] => rfl
  | _ :: r => shaped_ints r

theorem at_in {xs : List V} {j : Int} (h0 : 0 ≤ j) (h1 : j < (xs.length : Nat)) : ∃ v, v ∈ xs ∧ atI xs j = some v := by
  obtain ⟨k, rfl⟩ : ∃ k : Nat, j = (k : Int) := ⟨j.toNat, by omega⟩
  have hk : k < xs.length := by omega
  exact ⟨xs[k], List.getElem_mem hk, atI_nat (List.getElem?_eq_getElem hk)⟩
/-! ### the draw -/
def spDraw : Sp := fun vs H Q _ => ∃ (p c : Addr) (ns : List Int) (B m : Int), vs = [.ref p, .int m] ∧ PenAt H p c ns B ∧ B ≤ 1000 ∧ 1 ≤ m ∧ m ≤ 1000 ∧
  ∀ (d : Int) (H' : Hp), 0 ≤ d → d < m → PenAt H' p c ns (B + 1) → Off p H H' → Q (.int d) H'
section
variable {P : Program} {w : World} {K : PySem.W.Frag} {mg : Str → Option Value} {base : Heap}
abbrev nDraw : List Str := ["_law_pen_here", "_law_many", "_law_digit", "_law_begun", "_law_raw", "_law_great", "_law_stirred"]
theorem scDraw : FnScope nDraw ["_law_pen_here", "_law_many"] (defScope sDraw) := ⟨rfl, rfl, rfl, by decide +kernel, rfl, by decide +kernel, by decide +kernel⟩
theorem tail2 {f : Addr} {cdv : Value} {A : Around} {outer : List Env} {s : Shared} {H0 : Hp} {E : XK} (T : Txt mg) :
    ∃ t, PSs (cxOf CX0 P w K mg base nDraw "_law_draw" (defScope sDraw) f cdv A outer s H0 E).nox ((defBody sDraw).drop 6) t ∧
      ∀ (Q : VK) (nx : L2.St → Hp → Prop) (p : Addr) (m b raw : Int) (y2 y5 y6 : Option V) (H : Hp), 0 ≤ b → b ≤ 1000 → 1 ≤ m → (∀ d : Int, 0 ≤ d → d < m → Q (.int d) H) →
        t { nx := nx, rt := Q } [some (.ref p), some (.int m), y2, some (.int b), some (.int raw), y5, y6] H := by
  refine ⟨_, pss_cons (ps_set (i := 6) scDraw.nd rfl (.inl rfl) (pe_op op_modN (pe_callTy call_int1 (by rfl) T.int (by decide +kernel) (pa_cons (pe_op op_pow
          (pe_op op_add (pe_op op_add (pe_op op_modN (pe_callTy call_int1 (by rfl) T.int (by decide +kernel) (pa_cons (pv 4) pa_nil)) pe_int) (pe_op op_mul pe_int (pv 3))) pe_int) pe_int) pa_nil)) pe_int))
      (pss_cons (ps_set (i := 6) scDraw.nd rfl (.inl rfl) (pe_op op_modN (pe_callTy call_int1 (by rfl) T.int (by decide +kernel) (pa_cons (pe_op op_pow
          (pe_op op_add (pe_op op_add (pe_op op_mul (pv 6) (pe_op op_add (pe_op op_mul pe_int (pv 3)) pe_int)) (pe_op op_mul (pe_op op_mul pe_int (pv 3)) (pv 3))) pe_int) pe_int) pa_nil)) pe_int))
      (pss_one (ps_ret (pe_op op_modN (pe_callTy call_int1 (by rfl) T.int (by decide +kernel) (pa_cons (pe_op op_fdivN (pv 6) pe_int) pa_nil)) (pv 1))))), ?_⟩
  intro Q nx p m b raw y2 y5 y6 H b0 bB hm q
  have f1 := fm (x := raw) (m := 2147483549) (by decide)
  refine ⟨.int raw, rfl, .inl ⟨raw, rfl, raw, _, rfl, rfl, nz1, .int b, rfl, _, b, rfl, rfl, .inl ⟨by decide, by decide⟩, _, _, rfl, rfl, _, _, rfl, rfl, _, 5, rfl, rfl, ⟨by decide, by decide, natAbs_lt (by omega) (by omega)⟩, .inl ⟨_, rfl, _, _, rfl, rfl, nz2, ?_⟩⟩⟩
  obtain ⟨z, hz⟩ : ∃ z : Int, ((raw.fmod 2147483549 + 93001 * b + 5003) ^ (5 : Int).toNat).fmod 2147483629 = z := ⟨_, rfl⟩
  have f2 := fm (x := ((raw.fmod 2147483549 + 93001 * b + 5003) ^ (5 : Int).toNat)) (m := 2147483629) (by decide)
  rw [hz] at f2
  have f3 := mulB (x := z) (y := 2 * b + 271) (a := 2147483629) (b := 2000 + 271) f2.1 (by omega) (by omega) (by omega)
  have f4 := mulB (x := 50021 * b) (y := b) (a := 50021 * 1000) (b := 1000) (by omega) (by omega) b0 bB
  refine ⟨.int z, by rw [← hz]; rfl, .int b, rfl, 2, b, rfl, rfl, .inl ⟨by decide, by decide⟩, _, _, rfl, rfl, z, _, rfl, rfl, .inl ⟨by omega, by omega⟩, .int b, rfl, _, b, rfl, rfl, .inl ⟨by decide, by decide⟩, .int b, rfl, _, b, rfl, rfl, .inl ⟨by omega, by omega⟩, _, _, rfl, rfl, _, _, rfl, rfl, _, 3, rfl, rfl, ⟨by decide, by decide, natAbs_lt (by omega) (by omega)⟩, .inl ⟨_, rfl, _, _, rfl, rfl, nz3, ?_⟩⟩
  obtain ⟨v, hv⟩ : ∃ v : Int, ((z * (2 * b + 271) + 50021 * b * b + 72019) ^ (3 : Int).toNat).fmod 2147483587 = v := ⟨_, rfl⟩
  refine ⟨.int v, by rw [← hv]; rfl, v, 32, rfl, rfl, ⟨by decide, by decide⟩, .inl ⟨_, rfl, .int m, rfl, _, m, rfl, rfl, by omega, ?_⟩⟩
  exact q _ (fm (by omega)).1 (fm (by omega)).2
theorem tail1 {f : Addr} {cdv : Value} {A : Around} {outer : List Env} {s : Shared} {H0 : Hp} {E : XK} (T : Txt mg) :
    ∃ t, PSs (cxOf CX0 P w K mg base nDraw "_law_draw" (defScope sDraw) f cdv A outer s H0 E).nox ((defBody sDraw).drop 5) t ∧
      ∀ (Q : VK) (nx : L2.St → Hp → Prop) (p c : Addr) (ns : List Int) (m b b1 g raw : Int) (y2 y5 y6 : Option V) (H : Hp), H p = some (.lst [.ref c, .int b1, .int g]) → H c = some (.lst (ns.map V.int)) → 0 ≤ b → b ≤ 1000 → 0 ≤ g → 1 ≤ m → m ≤ 1000 →
        (∀ (d : Int) (H' : Hp), 0 ≤ d → d < m → (∃ g' : Int, 0 ≤ g' ∧ H' p = some (.lst [.ref c, .int b1, .int g'])) → Off p H H' → Q (.int d) H') →
        t { nx := nx, rt := Q } [some (.ref p), some (.int m), y2, some (.int b), some (.int raw), y5, y6] H := by
  obtain ⟨t2, h2, q2⟩ := tail2 (P := P) (w := w) (K := K) (base := base) (f := f) (cdv := cdv) (A := A) (outer := outer) (s := s) (H0 := H0) (E := E) T
  refine ⟨_, pss_cons (ps_if (PW.pt (pw_and (pt_cmpR op_lt (pv 3) (pe_callB call_len_seq (by rfl) T.len PySem.boot_len (pa_cons (pe_ix ix_list (pv 0) pe_int (fun _ _ => rfl)) pa_nil)) (nomark _))
            (pw_and1 (pt_cmpR op_ge (pe_callB call_abs (by rfl) T.abs (by decide +kernel) (pa_cons (pv 4) pa_nil)) (pe_op op_pow pe_int pe_int) (nomark _)))))
        (pss_cons (ps_set (i := 5) scDraw.nd rfl (.inl rfl) (pe_op op_add (pe_op op_mul pe_int (pe_op op_sub (pe_callB call_abs (by rfl) T.abs (by decide +kernel) (pa_cons (pv 4) pa_nil)) (pe_op op_pow pe_int pe_int)))
            (pe_callTy call_int1 (by rfl) T.int (by decide +kernel) (pa_cons (pe_cmpR op_lt (pv 4) pe_int (nomark _)) pa_nil))))
        (pss_cons (ps_asg (pe_op op_fdivN (pe_callTy call_int1 (by rfl) T.int (by decide +kernel) (pa_cons (pv 5) pa_nil)) (pv 1)) (pg_sub (pv 0) pe_int set_list))
        (pss_one (ps_ret (pe_op op_modN (pe_callTy call_int1 (by rfl) T.int (by decide +kernel) (pa_cons (pv 5) pa_nil)) (pv 1)))))) pss_nil) h2, ?_⟩
  intro Q nx p c ns m b b1 g raw y2 y5 y6 H hp hc b0 bB g0 hm hm2 q
  have last : t2 { nx := nx, rt := Q } [some (.ref p), some (.int m), y2, some (.int b), some (.int raw), y5, y6] H :=
    q2 Q nx p m b raw y2 y5 y6 H b0 bB hm fun d d0 d1 => q d H d0 d1 ⟨g, g0, hp⟩ Off.rfl'
  refine ⟨.int b, rfl, .ref p, rfl, p, _, 0, .ref c, rfl, rfl, SqL.of hp, rfl, c, _, rfl, .inl (SqL.of hc), _, _, rfl, rfl, _, rfl, ite2 (fun e => ?_) (fun e => iteF last)⟩
  refine ⟨.int raw, rfl, raw, rfl, 10, 18, rfl, rfl, ⟨by decide, by decide, by decide⟩, _, _, rfl, rfl, _, rfl, ite2 (fun e2 => ?_) (fun e2 => last)⟩
  have big := of_decide_eq_true e2
  obtain ⟨r, hr⟩ : ∃ r : Int, (if raw < 0 then -raw else raw) = r := ⟨_, rfl⟩
  obtain ⟨u, hu⟩ : ∃ u : Int, 2 * ((if raw < 0 then -raw else raw) - (10 : Int) ^ (18 : Int).toNat) + (if decide (raw < 0) = true then 1 else 0) = u := ⟨_, rfl⟩
  have u0 : 0 ≤ u := by
    rw [← hu]
    have k : (0 : Int) ≤ if decide (raw < 0) = true then 1 else 0 := by split <;> decide
    omega
  refine ⟨.int raw, rfl, raw, rfl, 10, 18, rfl, rfl, ⟨by decide, by decide, by decide⟩, _, _, rfl, rfl, 2, _, rfl, rfl, .inl ⟨by decide, by decide⟩, .int raw, rfl, raw, 0, rfl, rfl, .inr ⟨_, rfl, _, _, rfl, rfl, ?_⟩⟩
  refine ⟨.int u, by rw [← hu]; rfl, .inl ⟨u, rfl, .int m, rfl, u, m, rfl, rfl, ⟨by omega, by omega⟩, ?_⟩⟩
  refine ⟨.ref p, rfl, p, _, 2, 2, rfl, rfl, hp, rfl, ?_⟩
  refine ⟨.int u, by rw [← hu]; rfl, .inl ⟨u, rfl, .int m, rfl, u, m, rfl, rfl, by omega, ?_⟩⟩
  exact q _ _ (fm (by omega)).1 (fm (by omega)).2 ⟨u.fdiv m, fd0 (by omega) u0, upd_same⟩ fun a o n e => by rw [upd_ne n]; exact e
theorem ok_draw {f : Addr} {fd : FuncData} (F : Fun K "_law_draw" "_law_draw" sDraw f fd) (T : Txt mg) : FnOk P w K mg base CX0 1 f fd ["_law_pen_here", "_law_many"] spDraw := by
  refine F.ok scDraw (fun vs H Q E h => ?_) (fun cdv A outer s H vs Q E hr h => ?_)
  · obtain ⟨p, c, ns, B, m, rfl, _⟩ := h
    rfl
  · obtain ⟨p, c, ns, B, m, rfl, PA0, hB, hm, hm2, q⟩ := h
    obtain ⟨b, g, hp, b0, bB, g0⟩ := PA0.pen
    have hc := PA0.cells
    have few := PA0.few
    have ncp := PA0.ne
    obtain ⟨t1, h1, q1⟩ := tail1 (P := P) (w := w) (K := K) (base := base) (f := f) (cdv := cdv) (A := A) (outer := outer) (s := s) (H0 := H) (E := E) T
    refine ⟨_, pss_cons (ps_if (pt_cmpR op_gt (pe_ix ix_list (pv 0) pe_int (fun _ _ => rfl)) pe_int (nomark _))
        (pss_cons (ps_set (i := 2) scDraw.nd rfl (.inl rfl) (pe_op op_modN (pe_callTy call_int1 (by rfl) T.int (by decide +kernel) (pa_cons (pe_ix ix_list (pv 0) pe_int (fun _ _ => rfl)) pa_nil)) (pv 1)))
        (pss_cons (ps_asg (pe_op op_fdivN (pe_callTy call_int1 (by rfl) T.int (by decide +kernel) (pa_cons (pe_ix ix_list (pv 0) pe_int (fun _ _ => rfl)) pa_nil)) (pv 1)) (pg_sub (pv 0) pe_int set_list))
        (pss_one (ps_ret (pv 2))))) pss_nil)
      (pss_cons (ps_set (i := 3) scDraw.nd rfl (.inl rfl) (pe_ix ix_list (pv 0) pe_int (fun _ _ => rfl)))
      (pss_cons (ps_asg (pe_op op_add (pv 3) pe_int) (pg_sub (pv 0) pe_int set_list))
      (pss_cons (ps_set (i := 4) scDraw.nd rfl (.inl rfl) (pe_op op_add (pe_op op_mul pe_int (pv 3)) pe_int))
      (pss_cons (ps_if (pt_cmpR (op_neD hr.units) (pe_ix ix_list (pv 0) pe_int (fun _ _ => rfl)) (pe_lst pa_nil) (nomark _))
        (pss_one (ps_set (i := 4) scDraw.nd rfl (.inl rfl) (pe_ix ix_list (pe_ix ix_list (pv 0) pe_int (fun _ _ => rfl))
          (pe_op op_modN (pe_callTy call_int1 (by rfl) T.int (by decide +kernel) (pa_cons (pv 3) pa_nil)) (pe_callB call_len_seq (by rfl) T.len PySem.boot_len (pa_cons (pe_ix ix_list (pv 0) pe_int (fun _ _ => rfl)) pa_nil))) (fun _ _ => rfl)))) pss_nil) h1)))), ?_⟩
    -- if pen[2] > 0
    refine ⟨.ref p, rfl, p, _, 2, .int g, rfl, rfl, SqL.of hp, rfl, g, 0, rfl, rfl, _, rfl, ite2 (fun e => ?_) (fun e => ?_)⟩
    · refine ⟨.ref p, rfl, p, _, 2, .int g, rfl, rfl, SqL.of hp, rfl, .inl ⟨_, rfl, .int m, rfl, g, m, rfl, rfl, by omega, ?_⟩⟩
      refine ⟨.ref p, rfl, p, _, 2, .int g, rfl, rfl, SqL.of hp, rfl, .inl ⟨_, rfl, .int m, rfl, g, m, rfl, rfl, ⟨by omega, by omega⟩, ?_⟩⟩
      refine ⟨.ref p, rfl, p, _, 2, 2, rfl, rfl, hp, rfl, ?_⟩
      refine ⟨_, rfl, q (g.fmod m) _ (fm (by omega)).1 (fm (by omega)).2 ⟨⟨b, g.fdiv m, upd_same, b0, by omega, fd0 (by omega) g0⟩, by rw [upd_ne ncp]; exact hc, few⟩ fun a o n e => by rw [upd_ne n]; exact e⟩
    · -- begun = pen[1]; pen[1] = begun + 1; raw = ..
      refine ⟨.ref p, rfl, p, _, 1, .int b, rfl, rfl, SqL.of hp, rfl, ?_⟩
      refine ⟨_, rfl, b, 1, rfl, rfl, .ref p, rfl, p, _, 1, 1, rfl, rfl, hp, rfl, ?_⟩
      refine ⟨_, rfl, 72019, b, rfl, rfl, .inl ⟨by decide, by decide⟩, _, _, rfl, rfl, ?_⟩
      obtain ⟨H1, eH⟩ : ∃ H1 : Hp, upd H p (.lst [.ref c, .int (b + 1), .int g]) = H1 := ⟨_, rfl⟩
      have hp1 : H1 p = some (.lst [.ref c, .int (b + 1), .int g]) := by rw [← eH, upd_same]
      have hc1 : H1 c = some (.lst (ns.map V.int)) := by rw [← eH, upd_ne ncp]; exact hc
      have off1 : Off p H H1 := fun a o n e => by rw [← eH, upd_ne n]; exact e
      have eH' : upd H p (.lst (([.ref c, .int b, .int g] : List V).set 1 (.int (b + 1)))) = H1 := eH
      rw [eH']
      clear eH eH'
      -- if pen[0] != []
      refine ⟨.ref p, rfl, p, _, 0, .ref c, rfl, rfl, SqL.of hp1, rfl, Nat.zero_le _, fun l hl => ?_⟩
      have npl : p ≠ l := ne_of_none hp1 hl
      have ncl : c ≠ l := ne_of_none hc1 hl
      have hp2 : (upd H1 l (.lst [])) p = some (.lst [.ref c, .int (b + 1), .int g]) := by rw [upd_ne npl]; exact hp1
      have hc2 : (upd H1 l (.lst [])) c = some (.lst (ns.map V.int)) := by rw [upd_ne ncl]; exact hc1
      have off2 : Off p H (upd H1 l (.lst [])) := off1.trans (Off.new hl)
      refine ⟨.list (ns.map PyData.int), .list [], .lst (SqL.of hc2) (dpInts ns), .lst (SqL.of upd_same) .nil, shaped_ints ns, rfl, _, rfl, ?_⟩
      have last : ∀ (raw : Int) (y2 y5 y6 : Option V) (nx : L2.St → Hp → Prop), t1 { nx := nx, rt := Q } [some (.ref p), some (.int m), y2, some (.int b), some (.int raw), y5, y6] (upd H1 l (.lst [])) := by
        intro raw y2 y5 y6 nx
        refine q1 Q nx p c ns m b (b + 1) g raw y2 y5 y6 _ hp2 hc2 b0 (by omega) g0 hm hm2 fun d H' d0 d1 z off => ?_
        obtain ⟨g', z0, e1⟩ := z
        exact q d H' d0 d1 ⟨⟨b + 1, g', e1, by omega, by omega, z0⟩, off c _ ncp hc2, few⟩ (off2.trans off)
      cases ns with
      | nil => exact iteF (last _ _ _ _ _)
      | cons x r =>
        have lz : ((x :: r).map V.int).length = r.length + 1 := by rw [List.length_map]; rfl
        have lp : (0 : Int) < (((x :: r).map V.int).length : Nat) := by rw [lz]; omega
        obtain ⟨j, ej⟩ : ∃ j : Int, b.fmod (((x :: r).map V.int).length : Nat) = j := ⟨_, rfl⟩
        have j0 := (fm (x := b) lp).1
        have j1 := (fm (x := b) lp).2
        rw [ej] at j0 j1
        obtain ⟨v, hv, at1⟩ := at_in j0 j1
        obtain ⟨y, _, rfl⟩ := List.mem_map.mp hv
        refine iteT ⟨.ref p, rfl, p, _, 0, .ref c, rfl, rfl, SqL.of hp2, rfl, .int b, rfl, .inl ⟨b, rfl, .ref p, rfl, p, _, 0, .ref c, rfl, rfl, SqL.of hp2, rfl, c, _, rfl, .inl (SqL.of hc2), b, _, rfl, rfl, by omega, c, _, _, _, rfl, rfl, SqL.of hc2, (by rw [ej]; exact at1), ?_⟩⟩
        exact last _ _ _ _ _
end
/-! ### the pen is made -/
theorem cut63 {α : Type} (xs : List V) (h : xs.length ≤ 63) : cutV xs none (some 63) = xs := by
  unfold cutV
  rw [show HT.sIx xs.length 0 none = 0 from rfl, show HT.sIx xs.length xs.length (some 63) = min 63 xs.length from HT.sIx_nat xs.length xs.length 63, List.drop_zero, Nat.min_eq_right h, Nat.sub_zero]
  exact List.take_length
def spPen (K : PySem.W.Frag) : Sp := fun vs H Q _ => ∃ (a : Addr) (ns : List Int), vs = [.ref a] ∧ SqL K H a (ns.map V.int) ∧ ns.length ≤ 63 ∧ ∀ (p c : Addr) (H' : Hp), Same' H H' → PenAt H' p c ns 0 → Q (.ref p) H'
def Src (H : Hp) (p : Addr) (s : V) (src : List V) : Prop := (∃ l, s = .ref l ∧ l ≠ p ∧ H l = some (.lst src)) ∨ (∃ z : Str, s = .str z ∧ src = z.cps.toList.map (fun c => V.str ⟨#[c]⟩))
def spPick : Sp := fun vs H Q _ => ∃ (p c : Addr) (ns : List Int) (B : Int) (s : V) (src : List V), vs = [.ref p, s] ∧ PenAt H p c ns B ∧ B ≤ 1000 ∧ Src H p s src ∧ 1 ≤ src.length ∧ src.length ≤ 1000 ∧
  ∀ (v : V) (H' : Hp), v ∈ src → PenAt H' p c ns (B + 1) → Off p H H' → Q v H'
section
variable {P : Program} {w : World} {K : PySem.W.Frag} {mg : Str → Option Value} {base : Heap}
theorem scPen : FnScope ["_law_script"] ["_law_script"] (defScope sPen) := ⟨rfl, rfl, rfl, by decide +kernel, rfl, by decide +kernel, by decide +kernel⟩
theorem ok_pen {f : Addr} {fd : FuncData} (F : Fun K "_law_pen" "_law_pen" sPen f fd) (T : Txt mg) : FnOk P w K mg base CX0 1 f fd ["_law_script"] (spPen K) := by
  refine F.ok scPen (fun vs H Q E h => ?_) (fun cdv A outer s H vs Q E hr h => ?_)
  · obtain ⟨a, ns, rfl, _⟩ := h
    rfl
  · obtain ⟨a, ns, rfl, hS, few, q⟩ := h
    refine ⟨_, pss_one (ps_ret (pe_lst (pa_cons (pe_callTy call_list_of (by rfl) T.list (by decide +kernel) (pa_cons (pe_slice sl_list (pv 0) po_none (po_some pe_int)) pa_nil)) (pa_cons pe_int (pa_cons pe_int pa_nil))))), ?_⟩
    refine ⟨.ref a, rfl, 63, rfl, a, _, rfl, hS, fun u hu => ?_⟩
    rw [cut63 (α := Unit) _ (by rw [List.length_map]; exact few)]
    refine ⟨u, _, rfl, .inl (SqL.of upd_same), fun c hc => ⟨by show 3 ≤ sizeLine; decide, fun p hp => ?_⟩⟩
    have ncp : c ≠ p := fun z => by
      rw [← z, upd_same] at hp
      cases hp
    refine q p c _ (fun b o e => ?_) ⟨⟨0, 0, upd_same, Int.le_refl _, Int.le_refl _, Int.le_refl _⟩, by rw [upd_ne ncp, upd_same], few⟩
    have e1 : (upd H u (.lst (ns.map V.int))) b = some o := by
      rw [upd_ne (ne_of_none e hu)]
      exact e
    have e2 : (upd (upd H u (.lst (ns.map V.int))) c (.lst (ns.map V.int))) b = some o := by
      rw [upd_ne (ne_of_none e1 hc)]
      exact e1
    rw [upd_ne (ne_of_none e2 hp)]
    exact e2
theorem scPick : FnScope ["_law_pen_here", "_law_some"] ["_law_pen_here", "_law_some"] (defScope sPick) := ⟨rfl, rfl, rfl, by decide +kernel, rfl, by decide +kernel, by decide +kernel⟩
theorem ok_pick {f fD : Addr} {fd fdD : FuncData} (F : Fun K "_law_pick" "_law_pick" sPick f fd) (T : Txt mg) (FD : Fun K "_law_draw" "_law_draw" sDraw fD fdD) (bD : Binds K fdD ["_law_pen_here", "_law_many"] []) (gD : mg "_law_draw" = some (.ref fD))
    (G : FnOk P w K mg base CX0 1 fD fdD ["_law_pen_here", "_law_many"] spDraw) : FnOk P w K mg base CX0 2 f fd ["_law_pen_here", "_law_some"] spPick := by
  refine F.ok scPick (fun vs H Q E h => ?_) (fun cdv A outer s H vs Q E hr h => ?_)
  · obtain ⟨p, c, ns, B, s, src, rfl, _⟩ := h
    rfl
  · obtain ⟨p, c, ns, B, x, src, rfl, PA0, hB, hs, n1, n2, q⟩ := h
    refine ⟨_, pss_one (ps_ret (pe_ix ix_seq (pv 1) (pe_call G hr (by rfl) gD FD.kp bD .nil pass0 (pa_cons (pv 0) (pa_cons (pe_callB (CallR.or call_len_seq call_len_str) (by rfl) T.len PySem.boot_len (pa_cons (pv 1) pa_nil)) pa_nil))) (fun _ _ => rfl))), ?_⟩
    refine ⟨x, rfl, .ref p, rfl, x, rfl, ?_⟩
    have fin : ∀ (d : Int), 0 ≤ d → d < (src.length : Nat) → ∃ v, v ∈ src ∧ atI src d = some v := fun d h0 h1 => at_in h0 h1
    rcases hs with ⟨l, rfl, nlp, hl⟩ | ⟨z, rfl, rfl⟩
    · refine .inl ⟨l, src, rfl, .inl (SqL.of hl), ?_⟩
      refine ⟨p, c, ns, B, _, rfl, PA0, hB, by omega, by omega, fun d H' d0 d1 PA1 off => ?_⟩
      obtain ⟨v, hv, at1⟩ := fin d d0 d1
      exact .inl ⟨l, src, d, v, rfl, rfl, SqL.of (off l _ nlp hl), at1, q v H' hv PA1 off⟩
    · rw [List.length_map] at n1 n2
      have ez : z.cps.toList.length = z.length := Array.length_toList
      have zs : z.length < sizeLine := small1000 (by omega)
      refine .inr ⟨z, rfl, Nat.le_of_lt zs, ?_⟩
      refine ⟨p, c, ns, B, _, rfl, PA0, hB, by omega, by omega, fun d H' d0 d1 PA1 off => ?_⟩
      have d1' : d < (z.cps.toList.length : Nat) := by rw [ez]; exact d1
      obtain ⟨k, rfl⟩ : ∃ k : Nat, d = (k : Int) := ⟨d.toNat, by omega⟩
      have hk : k < z.cps.toList.length := by omega
      refine .inr (.inr ⟨z, _, z.cps.toList[k], rfl, rfl, Nat.le_of_lt zs, atI_nat (List.getElem?_eq_getElem hk), ?_⟩)
      exact q _ H' (List.mem_map.mpr ⟨_, List.getElem_mem hk, rfl⟩) PA1 off
end
end My
namespace My
open PySem PySem.Spec PyProof.Rows L2
abbrev sIniP : Stmt := inClass (topS 13) 0
/-- self.part = copied(part) -/
def spIniP (K : PySem.W.Frag) (C : Addr) : Sp := fun vs H Q _ => ∃ (a : Addr) (x : V) (d : PyData), vs = [.ref a, x] ∧ H a = some (exo a C none) ∧ Th H x d ∧
  ∀ (y : V) (dx : Addr) (H' : Hp), (∀ b o, b ≠ a → H b = some o → H' b = some o) → H dx = none → H' a = some (exo a C (some dx)) → H' dx = some (exd dx [("part", y)]) → Th H' y d → Q .non H'
/-- an error class with the field part, as the top has made it -/
structure ErrP (K : PySem.W.Frag) (mg : Str → Option Value) (name : String) (C fI : Addr) : Prop where
  g : mg name = some (.ref C)
  ox : OexC K C
  ini : PySem.W.findIn K (.ref C) "__init__" = some (some (.ref fI))
  ty : PySem.W.typeIn K (.ref fI) = some (.type "function")
  no : PySem.W.findIn K (.ref C) "part" = some none
section
variable {P : Program} {w : World} {K : PySem.W.Frag} {mg : Str → Option Value} {base : Heap}
theorem scIniW : FnScope ["self", "value"] ["self", "value"] (defScope sIniW) := ⟨rfl, rfl, rfl, by decide +kernel, rfl, by decide +kernel, by decide +kernel⟩
theorem ok_iniW {f fC C : Addr} {fd fdC : FuncData} (F : Fun K "__init__" "BadWord.__init__" sIniW f fd) (ox : OexC K C) (no : PySem.W.findIn K (.ref C) "value" = some none) (FC : Fun K "copied" "copied" sCopied fC fdC) (b : Binds K fdC ["value"] []) (g : mg "copied" = some (.ref fC))
    (G : FnOk P w K mg base CX0 2 fC fdC ["value"] spCopied) : FnOk P w K mg base CX0 3 f fd ["self", "value"] (spIni K C) := by
  refine F.ok scIniW (fun vs H Q E h => ?_) (fun cdv A outer s H vs Q E hr h => ?_)
  · obtain ⟨a, x, d, rfl, _⟩ := h
    rfl
  · exact ⟨_, pss_one (ps_ost (pv 0) (pe_call G hr (by rfl) g FC.kp b .nil pass0 (pa_cons (pv 1) pa_nil))), ini_read ox no h rfl⟩
theorem scIniP : FnScope ["self", "part"] ["self", "part"] (defScope sIniP) := ⟨rfl, rfl, rfl, by decide +kernel, rfl, by decide +kernel, by decide +kernel⟩
theorem ini_readP {C : Addr} (ox : OexC K C) (no : PySem.W.findIn K (.ref C) "part" = some none) {vs : List V} {H : Hp} {Q : VK} {E E2 : XK} {N : List Str} (h : spIniP K C vs H Q E) (hN : N = (["self", "part"] : List Str)) :
    tOst K "part" (tVar 0) (tCall spCopied [] E2 (tCons (tVar 1) tNil)) { nx := fun _ H' => Q .non H', rt := Q } (start N vs) H := by
  subst hN
  obtain ⟨a, x, d, rfl, ha, th, q⟩ := h
  refine ⟨x, rfl, x, d, rfl, th, fun y H1 sm th1 => ⟨.ref a, rfl, a, C, rfl, ox, no, .inl ⟨sm _ _ ha, fun dx hdx ne => ?_⟩⟩⟩
  have hd0 : H dx = none := by
    cases e : H dx with
    | none => rfl
    | some o =>
      rw [sm _ _ e] at hdx
      cases hdx
  have keep1 : ∀ b o, b ≠ a → H1 b = some o → (upd (upd H1 dx (exd dx [("part", y)])) a (exo a C (some dx))) b = some o := fun b o n e => by
    rw [upd_ne n, upd_ne (ne_of_none e hdx)]
    exact e
  refine q y dx _ (fun b o n e => keep1 b o n (sm b o e)) hd0 upd_same ?_ (th_exo th1 (sm _ _ ha) keep1)
  rw [upd_ne ne, upd_same]
theorem ok_iniP {f fC C : Addr} {fd fdC : FuncData} (F : Fun K "__init__" "BadProgram.__init__" sIniP f fd) (ox : OexC K C) (no : PySem.W.findIn K (.ref C) "part" = some none) (FC : Fun K "copied" "copied" sCopied fC fdC) (b : Binds K fdC ["value"] []) (g : mg "copied" = some (.ref fC))
    (G : FnOk P w K mg base CX0 2 fC fdC ["value"] spCopied) : FnOk P w K mg base CX0 3 f fd ["self", "part"] (spIniP K C) := by
  refine F.ok scIniP (fun vs H Q E h => ?_) (fun cdv A outer s H vs Q E hr h => ?_)
  · obtain ⟨a, x, d, rfl, _⟩ := h
    rfl
  · exact ⟨_, pss_one (ps_ost (pv 0) (pe_call G hr (by rfl) g FC.kp b .nil pass0 (pa_cons (pv 1) pa_nil))), ini_readP ox no h rfl⟩
/-- what is told of a raised error with the field part -/
def ToldP (E : XK) (C : Addr) (H : Hp) (d : PyData) : Prop := ∀ (y : V) (dd : Addr) (H' : Hp), Same' H H' → H' dd = some (.xd [("part", y)]) → Th H' y d → E (.ref C) (some dd) H'
/-- what is raised is told -/
theorem raisedP {C fI : Addr} {x : V} {d : PyData} {H : Hp} {E : XK} (th : Th H x d) (told : ToldP E C H d) : ∀ a, H a = none → spIniP K C (.ref a :: ([x] ++ [])) (upd H a (exo a C none))
    (fun v H2 => v = .non ∧ ∃ (dd : Addr) (fs : List (Str × V)), H2 a = some (exo a C (some dd)) ∧ H2 dd = some (exd dd fs) ∧ H dd = none ∧ E (.ref C) (some dd) (upd (del H2 a) dd (.xd fs))) (fun _ _ _ => False) := by
  intro a ha
  refine ⟨a, x, d, rfl, upd_same, th.keep fun b o e => by rw [upd_ne (ne_of_none e ha)]; exact e, fun y dx H' keep hdx ea ed th' => ⟨rfl, dx, _, ea, ed, ?_, ?_⟩⟩
  · have n : dx ≠ a := fun z => by
      rw [z, upd_same] at hdx
      cases hdx
    rw [upd_ne n] at hdx
    exact hdx
  · have n : dx ≠ a := fun z => by
      rw [z, upd_same] at hdx
      cases hdx
    rw [upd_ne n] at hdx
    have up : ∀ b o, b ≠ a → b ≠ dx → H' b = some o → (upd (del H' a) dx (.xd [("part", y)])) b = some o := fun b o n1 n2 e => by
      rw [upd_ne n2, del_ne n1]
      exact e
    refine told y dx _ (fun b o e => ?_) upd_same ?_
    · have n1 : b ≠ a := ne_of_none e ha
      have n2 : b ≠ dx := ne_of_none e hdx
      exact up b o n1 n2 (keep b o n1 (by rw [upd_ne n1]; exact e))
    · cases th' with
      | flat h => exact .flat h
      | lst h r n => exact .lst (up _ _ (fun z => by rw [z, ea] at h; cases h) (fun z => by rw [z, ed] at h; cases h) h) r n
      | tup h r n => exact .tup (up _ _ (fun z => by rw [z, ea] at h; cases h) (fun z => by rw [z, ed] at h; cases h) h) r n
      | dct h => exact .dct (up _ _ (fun z => by rw [z, ea] at h; cases h) (fun z => by rw [z, ed] at h; cases h) h)
end
end My
namespace My
open PySem PySem.Spec PyProof.Rows L2
def isW (x : V) : Bool := match x with
  | .int _ => true
  | _ => false
def spWhole : Sp := fun vs H Q _ => ∃ (x : V) (d : PyData), vs = [x] ∧ Th H x d ∧ Q (.bl (isW x)) H
theorem th_kinds {K : PySem.W.Frag} {H : Hp} {x : V} {d : PyData} (h : Th H x d) : ∃ (S : String) (b : Bool), TyX K H x (.type S) ∧ kitB S "int" = some b ∧ (b = true → ∃ c, kitB S "bool" = some c ∧ isW x = !c) ∧ (b = false → isW x = false) := by
  cases h with
  | flat h =>
    cases h with
    | non => exact ⟨"NoneType", false, .base .non, by decide +kernel, (fun z => nomatch z), fun _ => rfl⟩
    | bl b => exact ⟨"bool", true, .base (.bl b), by decide +kernel, fun _ => ⟨true, by decide +kernel, rfl⟩, fun z => nomatch z⟩
    | int i => exact ⟨"int", true, .base (.int i), by decide +kernel, fun _ => ⟨false, by decide +kernel, rfl⟩, fun z => nomatch z⟩
    | str z => exact ⟨"str", false, .base (.str z), by decide +kernel, (fun z => nomatch z), fun _ => rfl⟩
  | lst h k n => exact ⟨"list", false, .base (.lst h), by decide +kernel, (fun z => nomatch z), fun _ => rfl⟩
  | tup h k n => exact ⟨"tuple", false, .base (.tup h), by decide +kernel, (fun z => nomatch z), fun _ => rfl⟩
  | dct h => exact ⟨"dict", false, .base (.dK h), by decide +kernel, (fun z => nomatch z), fun _ => rfl⟩
theorem told_more {E : XK} {C : Addr} {H H' : Hp} {d : PyData} (t : Told E C H d) (sm : Same' H H') : Told E C H' d := fun y dd H2 k => t y dd H2 (sm.trans k)
/-- all else is kept -/
def Keep1 (a : Addr) (H H' : Hp) : Prop := ∀ b o, b ≠ a → H b = some o → H' b = some o
def isV (x : V) : Bool := match x with
  | .int i => decide (0 ≤ i) && decide (i < 4)
  | _ => false
/-- is_index(x, 4) -/
def spIdx : Sp := fun vs H Q _ => ∃ (x : V) (d : PyData), vs = [x, .int 4] ∧ Th H x d ∧ Q (.bl (isV x)) H
def spCkV (C : Addr) : Sp := fun vs H Q E => ∃ (x : V) (d : PyData), vs = [x] ∧ Th H x d ∧ (isV x = true → Q .non H) ∧ (isV x = false → Told E C H d)
section
variable {P : Program} {w : World} {K : PySem.W.Frag} {mg : Str → Option Value} {base : Heap}
theorem scWhole : FnScope ["value"] ["value"] (defScope sWhole) := ⟨rfl, rfl, rfl, by decide +kernel, rfl, by decide +kernel, by decide +kernel⟩
theorem ok_whole {f : Addr} {fd : FuncData} (F : Fun K "is_whole" "is_whole" sWhole f fd) (T : Txt mg) : FnOk P w K mg base CX0 1 f fd ["value"] spWhole := by
  refine F.ok scWhole (fun vs H Q E h => ?_) (fun cdv A outer s H vs Q E hr h => ?_)
  · obtain ⟨x, d, rfl, _⟩ := h
    rfl
  · obtain ⟨x, d, rfl, th, q⟩ := h
    refine ⟨_, pss_one (ps_ret (pe_and (pe_callB call_isi (by rfl) T.isi (by decide +kernel) (pa_cons (pv 0) (pa_cons (pe_bltn (by rfl) T.int (by decide +kernel) (show RelV (.ty "int") _ from rfl)) pa_nil)))
      (pe_one (pe_not (pe_callB call_isi (by rfl) T.isi (by decide +kernel) (pa_cons (pv 0) (pa_cons (pe_bltn (by rfl) T.bool (by decide +kernel) (show RelV (.ty "bool") _ from rfl)) pa_nil))))))), ?_⟩
    obtain ⟨S, b, ty, k, h1, h2⟩ := th_kinds (K := K) th
    refine ⟨x, rfl, x, .ty "int", .type S, .type "int", b, rfl, .ty "int", ty, kit_ty k, b, rfl, ?_⟩
    cases b with
    | true =>
      obtain ⟨c, kc, e⟩ := h1 rfl
      refine iteT ⟨x, rfl, x, .ty "bool", .type S, .type "bool", c, rfl, .ty "bool", ty, kit_ty kc, c, rfl, ?_⟩
      exact e ▸ q
    | false => exact iteF (h2 rfl ▸ q)
theorem scIdx : FnScope ["value", "many"] ["value", "many"] (defScope sIndex) := ⟨rfl, rfl, rfl, by decide +kernel, rfl, by decide +kernel, by decide +kernel⟩
theorem ok_index {f fW : Addr} {fd dW : FuncData} (F : Fun K "is_index" "is_index" sIndex f fd) (FW : Fun K "is_whole" "is_whole" sWhole fW dW) (bW : Binds K dW ["value"] []) (gW : mg "is_whole" = some (.ref fW)) (GW : FnOk P w K mg base CX0 1 fW dW ["value"] spWhole) :
    FnOk P w K mg base CX0 2 f fd ["value", "many"] spIdx := by
  refine F.ok scIdx (fun vs H Q E h => ?_) (fun cdv A outer s H vs Q E hr h => ?_)
  · obtain ⟨x, d, rfl, _⟩ := h
    rfl
  · obtain ⟨x, d, rfl, th, q⟩ := h
    refine ⟨_, pss_one (ps_ret (pe_and (pe_call GW hr (by rfl) gW FW.kp bW .nil pass0 (pa_cons (pv 0) pa_nil)) (pe_one (pe_chain op_le op_lt pe_int (pv 0) (pv 1))))), ?_⟩
    refine ⟨x, rfl, x, d, rfl, th, isW x, rfl, ?_⟩
    cases hw : isW x with
    | false =>
      have hz : isV x = false := by
        cases x <;> first | rfl | cases hw
      exact iteF (hz ▸ q)
    | true =>
      obtain ⟨i, rfl⟩ : ∃ i, x = .int i := by
        cases x <;> first | exact ⟨_, rfl⟩ | cases hw
      refine iteT ⟨.int i, rfl, 0, i, rfl, rfl, decide (0 ≤ i), rfl, ?_⟩
      have e : isV (.int i) = (decide (0 ≤ i) && decide (i < 4)) := rfl
      rw [e] at q
      cases h0 : decide (0 ≤ i) with
      | true =>
        rw [h0, Bool.true_and] at q
        exact iteT ⟨.int 4, rfl, i, 4, rfl, rfl, q⟩
      | false =>
        rw [h0, Bool.false_and] at q
        exact iteF q
theorem scCkV : FnScope ["value"] ["value"] (defScope sChkVal) := ⟨rfl, rfl, rfl, by decide +kernel, rfl, by decide +kernel, by decide +kernel⟩
/-- _check_value -/
theorem ok_ckV {f fX C fI : Addr} {fd dX fdI : FuncData} {tm : Tok} (F : Fun K "_check_value" "_check_value" sChkVal f fd) (FX : Fun K "is_index" "is_index" sIndex fX dX) (bX : Binds K dX ["value", "many"] []) (gX : mg "is_index" = some (.ref fX)) (GX : FnOk P w K mg base CX0 2 fX dX ["value", "many"] spIdx)
    (mM : mg "MOST_VALUE" = some (.int 3 tm)) (EN : Err K mg "BadNumber" C fI) (bI : Binds K fdI ["self", "value"] []) (GI : FnOk P w K mg base CX0 3 fI fdI ["self", "value"] (spIni K C)) : FnOk P w K mg base (L2.CX P w) 5 f fd ["value"] (spCkV C) := by
  refine F.okX scCkV (fun vs H Q E h => ?_) (fun cdv A outer s H vs Q E hr h => ?_)
  · obtain ⟨x, d, rfl, _⟩ := h
    rfl
  · obtain ⟨x, d, rfl, th, yes, no⟩ := h
    refine ⟨_, pss_one (ps_if (pt_not (pt_val (pe_call GX (hr.mono (by decide)) (by rfl) gX FX.kp bX .nil pass0 (pa_cons (pv 0) (pa_cons (pe_op op_add (pe_glob (v := .int 3) rfl mM ⟨_, rfl⟩) pe_int) pa_nil)))))
      (pss_one (ps_raise rfl (takes_of rfl rfl rfl rfl) (pmk_oex EN.ox EN.ini EN.ty GI hr bI .nil pass0 (by rfl) EN.g (pa_cons (pv 0) pa_nil)))) pss_nil), ?_⟩
    refine ⟨x, rfl, 3, 1, rfl, rfl, x, d, rfl, th, isV x, rfl, ?_⟩
    cases hx : isV x with
    | true => exact iteF (yes hx)
    | false => exact iteT ⟨x, rfl, by show 1 ≤ 1000; decide, raised (fI := fI) th (no hx)⟩
end
end My
/-! max([], default = i); list(zip([], t)) -/
namespace MyZ
open PySem RZ
open Sem (wp)
theorem zip_no_len : typeLookup (.type "zip") "__len__" = pure none := by rw [typeLookup_type, builtinLookup_eq_fast]; kernel_rfl
theorem zip_no_hint : typeLookup (.type "zip") "__length_hint__" = pure none := by rw [typeLookup_type, builtinLookup_eq_fast]; kernel_rfl
abbrev zH1 (h : Heap) (l1 : Addr) : Heap := h.push { cls := .type "list_iterator", data := .fields #[.ref l1, .int 0 0] }
abbrev zH2 (h : Heap) (l1 l2 : Addr) : Heap := (zH1 h l1).push { cls := .type "tuple_iterator", data := .fields #[.ref l2, .int 0 0] }
abbrev zH3 (h : Heap) (l1 l2 : Addr) : Heap := (zH2 h l1 l2).push { cls := .type "tuple", data := .seq #[.ref h.objs.size, .ref (zH1 h l1).objs.size] }
abbrev zH4 (h : Heap) (l1 l2 : Addr) : Heap := (zH3 h l1 l2).push { cls := .type "tuple", data := .seq #[.none, .none] }
abbrev zH5 (h : Heap) (l1 l2 : Addr) : Heap := (zH4 h l1 l2).push { cls := .type "zip", data := .fields #[.none, .bool false, .bool false, .ref (zH2 h l1 l2).objs.size, .ref (zH3 h l1 l2).objs.size] }
theorem meets_zipL_new (l1 l2 : Addr) (xs ys : Array Value) :
    Meets (Builtin.«zip.__new__» ⟨[.type "zip", .ref l1, .ref l2], []⟩) (fun _ R s => s.heap.IsList l1 xs ∧ s.heap.IsTuple l2 ys ∧
      R (.ok (.ret (.ref (zH4 s.heap l1 l2).objs.size))) { s with heap := zH5 s.heap l1 l2 }) :=
  .of_wp fun prog w A R s h => by
    obtain ⟨hp, g, d, tk, os⟩ := s; obtain ⟨hl1, hl2, h⟩ := h
    have hsub := sub_zip
    have hL1 : Heap.IsList (Shared.heap ⟨hp, g, d, tk, os⟩) l1 xs := hl1
    have hL2 : Heap.IsTuple (Shared.heap ⟨hp.push { cls := .type "list_iterator", data := .fields #[.ref l1, .int 0 0] }, g, d, tk, os⟩) l2 ys := Heap.IsTuple.push hl2 _
    wp_walk using wpAny_pyIter_list hL1, wpAny_pyIter_tuple hL2
    exact ⟨_, rfl, h⟩
section
variable {prog : Program} {w : World} {A : Around} {E : Value → Shared → Prop} {s : Shared}
theorem call_zipL {l1 l2 : Addr} {xs ys : Array Value} {Q : Value → Shared → Prop} (hl1 : s.heap.IsList l1 xs) (hl2 : s.heap.IsTuple l2 ys)
    (h : ∀ h', IsZip h' (s.heap.objs.size + 4) (s.heap.objs.size + 2) (s.heap.objs.size + 3) .none → IsPair h' (s.heap.objs.size + 2) (.ref s.heap.objs.size) (.ref (s.heap.objs.size + 1)) →
      IsPair h' (s.heap.objs.size + 3) .none .none → h'.IsListIter s.heap.objs.size l1 0 → h'.IsTupleIter (s.heap.objs.size + 1) l2 0 → h'.objs.size = s.heap.objs.size + 5 →
      (∀ c o, s.heap.get? c = some o → h'.get? c = some o) → Q (.ref (s.heap.objs.size + 4)) { s with heap := h' }) :
    wpAny (model prog w) A (call (.type "zip") [.ref l1, .ref l2]) Q E s := by
  refine callType_new F.called_zip (by decide) (F.typeCall_zip_2 _ _) (F.newCall_zip_2 _ _) (fun obj => F.args_object_init_3 obj _ _) F.entry_zip_new
    (meets_zipL_new l1 l2 xs ys) ⟨hl1, hl2, ?_⟩
  have z1 : (zH1 s.heap l1).objs.size = s.heap.objs.size + 1 := Heap.size_push ..
  have z2 : (zH2 s.heap l1 l2).objs.size = s.heap.objs.size + 2 := by rw [Heap.size_push, z1]
  have z3 : (zH3 s.heap l1 l2).objs.size = s.heap.objs.size + 3 := by rw [Heap.size_push, z2]
  have z4 : (zH4 s.heap l1 l2).objs.size = s.heap.objs.size + 4 := by rw [Heap.size_push, z3]
  have z5 : (zH5 s.heap l1 l2).objs.size = s.heap.objs.size + 5 := by rw [Heap.size_push, z4]
  have g5 : (zH5 s.heap l1 l2).get? (zH4 s.heap l1 l2).objs.size = some _ := Heap.get?_push_size _ rfl
  have g4 : (zH5 s.heap l1 l2).get? (zH3 s.heap l1 l2).objs.size = some _ := Heap.get?_push_of_some _ (Heap.get?_push_size _ rfl)
  have g3 : (zH5 s.heap l1 l2).get? (zH2 s.heap l1 l2).objs.size = some _ := Heap.get?_push_of_some _ (Heap.get?_push_of_some _ (Heap.get?_push_size _ rfl))
  have g2 : (zH5 s.heap l1 l2).get? (zH1 s.heap l1).objs.size = some _ := Heap.get?_push_of_some _ (Heap.get?_push_of_some _ (Heap.get?_push_of_some _ (Heap.get?_push_size _ rfl)))
  have g1 : (zH5 s.heap l1 l2).get? s.heap.objs.size = some _ := Heap.get?_push_of_some _ (Heap.get?_push_of_some _ (Heap.get?_push_of_some _ (Heap.get?_push_of_some _ (Heap.get?_push_size _ rfl))))
  show _ ∧ _
  rw [z2, z3, z4] at g5
  rw [z1, z2] at g3
  rw [z3] at g4
  rw [z1] at g2
  rw [z4]
  exact ⟨⟨_, g5, rfl⟩, h _ g5 g3 g4 ⟨_, g1, rfl, rfl⟩ ⟨_, g2, rfl, rfl⟩ z5 fun c o x =>
    Heap.get?_push_of_some _ (Heap.get?_push_of_some _ (Heap.get?_push_of_some _ (Heap.get?_push_of_some _ (Heap.get?_push_of_some _ x))))⟩
theorem sep_of {n a b : Nat} (la : a < n) (lb : b < n) : ZipSep2 (n + 4) (n + 2) (n + 3) n (n + 1) [n, a] [n + 1, b] where
  TIz := fun e => absurd (show (n + 2 : Nat) = n + 4 from e) (by omega)
  TOz := fun e => absurd (show (n + 3 : Nat) = n + 4 from e) (by omega)
  TITO := fun e => absurd (show (n + 2 : Nat) = n + 3 from e) (by omega)
  TIi1 := fun e => absurd (show (n + 2 : Nat) = n from e) (by omega)
  mem1 := List.mem_cons_self
  zf1 := fun m => absurd (show (n + 4 : Nat) = n ∨ (n + 4 : Nat) = a from by simpa only [List.mem_cons, List.not_mem_nil, or_false] using m) (by omega)
  Tf1 := fun m => absurd (show (n + 3 : Nat) = n ∨ (n + 3 : Nat) = a from by simpa only [List.mem_cons, List.not_mem_nil, or_false] using m) (by omega)
  TIi2 := fun e => absurd (show (n + 2 : Nat) = n + 1 from e) (by omega)
  mem2 := List.mem_cons_self
  zf2 := fun m => absurd (show (n + 4 : Nat) = n + 1 ∨ (n + 4 : Nat) = b from by simpa only [List.mem_cons, List.not_mem_nil, or_false] using m) (by omega)
  Tf2 := fun m => absurd (show (n + 3 : Nat) = n + 1 ∨ (n + 3 : Nat) = b from by simpa only [List.mem_cons, List.not_mem_nil, or_false] using m) (by omega)
  sep1_2 := fun m => absurd (show (n : Nat) = n + 1 ∨ (n : Nat) = b from by simpa only [List.mem_cons, List.not_mem_nil, or_false] using m) (by omega)
  sep2_1 := fun m => absurd (show (n + 1 : Nat) = n ∨ (n + 1 : Nat) = a from by simpa only [List.mem_cons, List.not_mem_nil, or_false] using m) (by omega)
theorem out5 {n c k : Nat} (lt : c < n) (sz : k = n + 5) : ¬ (c = k ∨ c = n + 4 ∨ c = n + 3 ∨ c = n ∨ c = n + 1) := by omega
theorem in5 {n c a b k : Nat} (la : a < n) (lb : b < n) (sz : k = n + 5) (h : c = n + 4 ∨ c = n + 2 ∨ c = n + 3 ∨ c = n ∨ c = a ∨ c = n + 1 ∨ c = b) : c < k := by omega
/-- a zip whose first list is empty, walked: no turn -/
theorem walk_zip0 {z TI TO i1 i2 a b : Addr} {ys : Array Value} (hd : A.handled = none) (S : ZipSep2 z TI TO i1 i2 [i1, a] [i2, b]) (n1 : a ≠ i1) (n2 : b ≠ i2) :
    Walks prog w A z (z :: TI :: TO :: ([i1, a] ++ [i2, b])) [z, TO, i1, i2] 0 (fun _ _ => True) (fun _ h => IsZip h z TI TO .none ∧ IsPair h TI (.ref i1) (.ref i2) ∧ IsPair h TO .none .none ∧ (h.IsListIter i1 a 0 ∧ h.IsList a #[]) ∧ (h.IsTupleIter i2 b 0 ∧ h.IsTuple b ys)) where
  sub := fun c hc => by
    simp only [List.mem_cons, List.not_mem_nil, or_false, List.cons_append, List.nil_append] at hc ⊢
    rcases hc with h | h | h | h <;> simp [h]
  frame := fun _ h h' st hk => by
    obtain ⟨q1, q2, q3, ⟨q4, q5⟩, q6, q7⟩ := st
    exact ⟨hk z (by simp) _ q1, hk TI (by simp) _ q2, hk TO (by simp) _ q3, ⟨q4.at fun o e => hk i1 (by simp) o e, q5.at fun o e => hk a (by simp) o e⟩, q6.at fun o e => hk i2 (by simp) o e, q7.at fun o e => hk b (by simp) o e⟩
  item := fun i _ _ _ hi => absurd hi (Nat.not_lt_zero i)
  done := fun s Q E st q => by
    obtain ⟨q1, q2, q3, q45, q67⟩ := st
    refine wpAny_pyNext_zipD2_end (i := 0) S (Draws.list (prog := prog) (w := w) (A := A.in1) hd i1 a n1 #[]) (Draws.tuple (prog := prog) (w := w) (A := A.in1) hd i2 b n2 ys) q1 q2 q3 q45 q67 (Nat.zero_le _) (Nat.zero_le _) (.inl rfl) fun h' tk keep => q h' tk fun c o m e => ?_
    simp only [List.mem_cons, List.not_mem_nil, or_false, not_or] at m
    exact keep c o m.1 m.2.1 m.2.2.1 m.2.2.2 e
  self := fun _ s Q E st q => wpAny_pyIter_zip st.1 q
/-- list(z) of such a zip: a new list without items -/
theorem list_zip0 {z : Addr} {fp wr : List Addr} {St : Nat → Heap → Prop} {Q : Value → Shared → Prop} (V : Walks prog w A.in1.in1 z fp wr 0 (fun _ _ => True) St) (tz : ∀ h : Heap, St 0 h → ∃ o, h.get? z = some o ∧ o.cls = .type "zip") (st : St 0 s.heap) (below : ∀ b ∈ fp, b < s.heap.objs.size) (zin : z ∈ fp)
    (q : ∀ (h' : Heap) (tk : Nat) (c : Nat), (∀ b o, b ∉ s.heap.objs.size :: wr → b ≠ s.heap.objs.size → s.heap.get? b = some o → h'.get? b = some o) → h'.get? s.heap.objs.size = some { cls := .type "list", dict := none, data := .seq #[] c, slots := #[] } → Q (.ref s.heap.objs.size) { s with heap := h', toks := tk }) :
    wpAny (model prog w) A (call (.type "list") [.ref z]) Q E s := by
  have out : s.heap.objs.size ∉ fp := fun m => Nat.lt_irrefl _ (below _ m)
  have nz : s.heap.objs.size ≠ z := fun e => out (e ▸ zin)
  refine callType_codes (Q₁ := fun v s1 => v = .ref s.heap.objs.size ∧ s1 = { s with heap := s.heap.push { cls := .type "list", data := .seq #[] } }) F.called_list (F.typeCall_list_1 _) F.entry_list_init (code_list_new _ ⟨rfl, rfl⟩) fun v s1 e1 => ?_
  obtain ⟨rfl, rfl⟩ := e1
  have atL : (s.heap.push { cls := .type "list", data := .seq #[] }).get? s.heap.objs.size = some { cls := .type "list", data := .seq #[] } := Heap.get?_push_size _ rfl
  have st1 := V.frame 0 s.heap (s.heap.push { cls := .type "list", data := .seq #[] }) st fun b _ o e => Heap.get?_push_of_some _ e
  refine ⟨⟨_, atL, rfl⟩, F.args_list_init_2 _ _, ?_⟩
  have kind : ∀ {h : Heap} {g : Array GenState} {d : _} {tk : Nat} {os : _}, St 0 h → (⟨h, g, d, tk, os⟩ : Shared).TypeIs (.ref z) "zip" := fun {h g d tk os} x => let ⟨o, e1, e2⟩ := tz h x; ⟨o, e1, e2⟩
  show wpAny _ _ (Builtin.List.listItems (.ref s.heap.objs.size) >>= fun old => Builtin.List.listUpdate (.ref s.heap.objs.size) (fun _ => #[]) >>= fun _ => letGo old.toList.reverse >>= fun _ => Builtin.List.listExtendWith (.ref s.heap.objs.size) (.ref z) .none) _ _ _
  unfold Builtin.List.listItems
  refine wpAny_bind (wpAny_bind (wpAny_seqItems atL rfl (wpAny_pure ?_)))
  refine wpAny_bind (wpAny_updateSeq atL rfl ?_)
  have atL2 := Heap.get?_update_self (Obj.mapSeq fun _ => (#[] : Array Value)) atL rfl
  have ap2 : ∀ c o, c ≠ s.heap.objs.size → (s.heap.push { cls := .type "list", data := .seq #[] }).get? c = some o → ((s.heap.push { cls := .type "list", data := .seq #[] }).update s.heap.objs.size (Obj.mapSeq fun _ => (#[] : Array Value))).get? c = some o := fun c o n e => (Heap.get?_update_other _ _ n.symm).trans e
  have st2 := V.frame 0 _ _ st1 fun c m o e => ap2 c o (fun x => out (x ▸ m)) e
  have old2 : ∀ c o, c ≠ s.heap.objs.size → s.heap.get? c = some o → ((s.heap.push { cls := .type "list", data := .seq #[] }).update s.heap.objs.size (Obj.mapSeq fun _ => (#[] : Array Value))).get? c = some o := fun c o n e => ap2 c o n (Heap.get?_push_of_some _ e)
  generalize (s.heap.push { cls := .type "list", data := .seq #[] }).update s.heap.objs.size (Obj.mapSeq fun _ => (#[] : Array Value)) = h2 at atL2 st2 old2 ⊢
  refine wpAny_bind (wpAny_letGo ?_)
  unfold Builtin.List.listExtendWith
  refine wpAny_bind (wpAny_typeOf (kind st2) ?_)
  have a1 : Builtin.List.listSameRef (.ref s.heap.objs.size) (.ref z) = false := by simp [Builtin.List.listSameRef, nz]
  have a2 : (Value.type "zip" == Value.type "list") = false := by decide
  have a3 : (Value.type "zip" == Value.type "tuple") = false := by decide
  simp only [a1, a2, a3, Bool.or_false, Bool.false_eq_true, if_false]
  refine wpAny_bind (V.self 0 _ _ _ st2 (wpAny_bind (wpAny_holding ?_)))
  unfold Builtin.List.listLengthHint
  refine wpAny_bind (wpAny_specialOf (kind st2) zip_no_len ?_)
  show wpAny _ _ (specialOf (Value.ref z) (Str.ofString "__length_hint__") >>= _) _ _ _
  refine wpAny_bind (wpAny_specialOf (kind st2) zip_no_hint (wpAny_pure ?_))
  show wpAny _ _ (rule "list.extend.makes-room" >>= fun _ => Builtin.List.listTouch (.ref s.heap.objs.size) >>= fun _ => again (.builtin "list.extend.loop" ⟨[.ref s.heap.objs.size, .ref z, .none], []⟩)) _ _ _
  refine wpAny_bind (wpAny_rule (wpAny_bind ?_))
  show wpAny _ _ (updateSeq s.heap.objs.size (·.push .none) >>= fun _ => updateSeq s.heap.objs.size (·.pop)) _ _ _
  refine wpAny_bind (wpAny_updateSeq atL2 rfl ?_)
  have atL3 := Heap.get?_update_self (Obj.mapSeq (·.push Value.none)) atL2 rfl
  refine wpAny_updateSeq (hz := by seq_fits) atL3 rfl ?_
  have atL4 := Heap.get?_update_self (Obj.mapSeq (·.pop)) atL3 rfl
  have ap4 : ∀ c o, c ≠ s.heap.objs.size → h2.get? c = some o → ((h2.update s.heap.objs.size (Obj.mapSeq (·.push Value.none))).update s.heap.objs.size (Obj.mapSeq (·.pop))).get? c = some o := fun c o n e => (Heap.get?_update_other _ _ n.symm).trans ((Heap.get?_update_other _ _ n.symm).trans e)
  have st4 := V.frame 0 _ _ st2 fun c m o e => ap4 c o (fun x => out (x ▸ m)) e
  have old4 : ∀ c o, c ≠ s.heap.objs.size → s.heap.get? c = some o → _ := fun c o n e => ap4 c o n (old2 c o n e)
  generalize (h2.update s.heap.objs.size (Obj.mapSeq (·.push Value.none))).update s.heap.objs.size (Obj.mapSeq (·.pop)) = h4 at atL4 st4 old4 ⊢
  refine wpAny_pure ⟨plainId_quiet F.plain_extend_loop _, codeAny_extend_loopS V.toS (Nat.zero_le _) _ out _ 0 0 _ _ _ rfl (Nat.zero_le _) st4 atL4 (ItemsOf.nil _) fun s5 acc c m at5 it5 => ?_⟩
  obtain ⟨h5, g5, d5, tk5, os5⟩ := s5
  have eg : g5 = s.gens := m.gens
  have ed : d5 = s.drawn := m.drawn
  have eo : os5 = s.os := m.os
  subst eg ed eo
  have ea : acc = #[] := Array.eq_empty_of_size_eq_zero it5.1
  subst ea
  exact ⟨rfl, q h5 tk5 c (fun b o m1 n e => m.heap b o m1 (old4 b o n e)) at5⟩
end
end MyZ
namespace My
open PySem PySem.Spec PyProof.Rows L2
section
variable {X : Cx}
theorem cr_maxD0 (hc : X.calm = true) (hu : X.A.units + 1 < cLine) : CallRK X (.builtin "max") [Str.ofString "default"] (fun xs zs H Q => ∃ (a : Addr) (i : Int), xs = [.ref a] ∧ zs = [.int i] ∧ SqL X.K H a [] ∧ Q (.int i) H) := by
  intro pins s σ H xs zs us ws Q I r rz q
  obtain ⟨a, i, rfl, rfl, hs, q⟩ := q
  obtain ⟨its, rv, hl, _⟩ := I.list hs
  obtain ⟨u, rfl, rx⟩ := vals1 r
  cases rx
  obtain ⟨w1, rfl, t, rfl⟩ := vals1 rz
  cases rv
  refine PySem.W.max_list_default (xs := []) (as := []) (I.ok.hd hc) hl.isList ReadsAll.nil ⟨(fun _ h => nomatch h), (fun _ h => nomatch h)⟩ (by simpa [PyData.depthAll] using hu) (fun _ h' tk hk => ⟨.int i, H, I.kept hk, ⟨_, rfl⟩, q⟩) (fun y ys _ _ _ _ _ e => nomatch e)
/-- list(zip(e, e2)), e without items -/
def tLZ (K : PySem.W.Frag) (ta : TA) : TE := fun σ H Q => ta σ H fun vs H1 => ∃ a b ys, vs = [.ref a, .ref b] ∧ SqL K H1 a [] ∧ SqT K H1 b ys ∧ ∀ p, H1 p = none → Q (.ref p) (upd H1 p (.lst []))
theorem pe_listZip0 {e e2 : Expr} {ta : TA} {p0 p pos pos2 : Pos} (hc : X.calm = true) (hgl : Gl X "list") (hml : X.mg "list" = none) (hgz : Gl X "zip") (hmz : X.mg "zip" = none) (ha : PA X [e, e2] ta)
    (s1 : starEach [.Call (.Name "zip" p) [e, e2] [] pos2] X.env = (false, eval (.Call (.Name "zip" p) [e, e2] [] pos2) X.env) :: starEach [] X.env := by rfl) (b1 : (backTo pos (starEach [] X.env)).any (·.1) = false := by rfl)
    (s2 : starEach [e, e2] X.env = (false, eval e X.env) :: starEach [e2] X.env := by rfl) (b2 : (backTo pos2 (starEach [e2] X.env)).any (·.1) = false := by rfl) :
    PE X (.Call (.Name "list" p0) [.Call (.Name "zip" p) [e, e2] [] pos2] [] pos) (tLZ X.K ta) := by
  refine ⟨fun pins s σ H Q I h => ?_⟩
  refine wpAny_Call_Name_kw (ld_blt I hgl hml boot_list ?_)
  refine PyProof.Rows.callWith_type1 ?_ s1 b1
  rw [s1]
  show wpAny _ _ (spliced ((false, eval (.Call (.Name "zip" p) [e, e2] [] pos2) X.env) :: backTo pos (starEach [] X.env))) _ _ s
  refine Calls.spliced_cons ?_
  refine wpAny_Call_Name_kw (ld_blt I hgz hmz PyProof.Rows.boot_zip (PyProof.Rows.callWith_type1 (thn (ha.run pos2 pins s σ H _ I h) fun us s3 ⟨vs, H1, I1, r1, q1⟩ => ?_) s2 b2))
  obtain ⟨a, b, ys, rfl, qa, qb, q⟩ := q1
  obtain ⟨u1, u2, rfl, r1, r2⟩ : ∃ u1 u2, us = [u1, u2] ∧ RelV (.ref a) u1 ∧ RelV (.ref b) u2 := by
    cases r1 with
    | cons x y =>
      cases y with
      | cons x2 y2 =>
        cases y2
        exact ⟨_, _, rfl, x, x2⟩
  cases r1
  cases r2
  obtain ⟨ia, ra, pa, _⟩ := I1.list qa
  obtain ⟨ib, rb, pb, _⟩ := I1.tuple qb
  cases ra
  obtain ⟨ob, hob, _⟩ := id pb
  have la := pa.lt
  have lb := Heap.lt_size hob
  refine MyZ.call_zipL pa.isList (show s3.heap.IsTuple b ib.toArray from pb) fun h' g1 g2 g3 g4 g5 sz keep => ?_
  refine Calls.spliced_nil ?_
  have sep : PySem.ZipSep2 (s3.heap.objs.size + 4) (s3.heap.objs.size + 2) (s3.heap.objs.size + 3) s3.heap.objs.size (s3.heap.objs.size + 1) [s3.heap.objs.size, a] [s3.heap.objs.size + 1, b] := by
    exact MyZ.sep_of la lb
  refine MyZ.list_zip0 (s := { s3 with heap := h' }) (MyZ.walk_zip0 (prog := X.prog) (w := X.w) (A := X.A.in1.in1) (ys := ib.toArray) (I1.ok.hd hc) sep (Nat.ne_of_lt la) (Nat.ne_of_lt (Nat.lt_succ_of_lt lb))) (fun h st => ⟨_, st.1, rfl⟩) ⟨g1, g2, g3, ⟨g4, ?_⟩, g5, ?_⟩ (fun c hm => ?_) (by simp) fun h6 tk c k6 at6 => ?_
  · exact pa.isList.at fun o e => keep _ o e
  · exact Heap.IsTuple.at (show s3.heap.IsTuple b ib.toArray from pb) fun o e => keep _ o e
  · exact MyZ.in5 la lb sz (by simpa only [List.mem_cons, List.not_mem_nil, or_false, List.cons_append, List.nil_append] using hm)
  · have le : s3.heap.objs.size ≤ h'.objs.size := by rw [sz]; exact Nat.le_add_right _ _
    have bel : ∀ c o, s3.heap.get? c = some o → h6.get? c = some o := fun c o e => by
      have no := MyZ.out5 (Heap.lt_size e) sz
      refine k6 c o (fun m => no ?_) (fun m => no (.inl m)) (keep c o e)
      simpa only [List.mem_cons, List.not_mem_nil, or_false] using m
    exact ⟨.ref h'.objs.size, upd H1 h'.objs.size (.lst []), I1.laid (t' := tk) bel le (show ObjOk X.prog X.w _ _ _ (.lst []) from ⟨Nat.zero_le _, [], c, .nil, at6⟩), rfl, q _ (I1.hok.fresh le)⟩
end
end My
/-! [e for x in .. for y in .. for z in ..] where the second source has nothing each time it is asked -/
namespace MyC
open PySem PySem.Spec PyProof.Rows L2
theorem turn3_out (cz : Comprehension) (elt t0 i0 t1 i1 : Expr) (ifs0 ifs1 : List Expr) (scope : Scope) (pos : Pos) (it acc : Value) (env : Env) :
    compTurn (.ListComp elt [⟨t0, i0, ifs0, 0⟩, ⟨t1, i1, ifs1, 0⟩, cz] scope pos) 0 it acc env = (do
      standAt i0.pos
      match ← pyNext it with
      | none => pure (.done .next)
      | some v =>
        letOwnedTupleGo t0 it v
        assign t0 env v
        let mut ok := true
        for c in ifs0 do
          if ok then ok ← isTrue c env (eval c env)
        if ok then
          let x ← eval i1 env
          standAt i1.pos
          let x ← foldedSetIterable i1 env x
          let _ ← runOwn (.compStart (.ListComp elt [⟨t0, i0, ifs0, 0⟩, ⟨t1, i1, ifs1, 0⟩, cz] scope pos) 1 (← holding [x] (pyIter x)) acc env) env
        again (.compLoop (.ListComp elt [⟨t0, i0, ifs0, 0⟩, ⟨t1, i1, ifs1, 0⟩, cz] scope pos) 0 it acc env)) := by rfl
theorem turn3_in (cz : Comprehension) (elt t0 i0 t1 i1 : Expr) (ifs0 ifs1 : List Expr) (scope : Scope) (pos : Pos) (it acc : Value) (env : Env) :
    ∃ rest : Value → Sem Fin, compTurn (.ListComp elt [⟨t0, i0, ifs0, 0⟩, ⟨t1, i1, ifs1, 0⟩, cz] scope pos) 1 it acc env = (do
      standAt i1.pos
      match ← pyNext it with
      | none => pure (.done .next)
      | some v => rest v) := ⟨_, rfl⟩
section
variable {cz : Comprehension} {prog : Program} {w : World} {A : Around} {R : Result → Shared → Prop} {s : Shared} {elt t0 i0 t1 i1 : Expr} {ifs0 ifs1 : List Expr} {scope : Scope} {pos : Pos} {it acc : Value} {env : Env}
theorem loop3_out (hs : ∀ x, foldedSetIterable i1 env x = pure x) (I : Nat → Shared → Prop)
    (turn : ∀ n s, I n s → wpAny (model prog w) A (pyNext it) (fun r sa1 => match r with
      | none => R (.ok .next) sa1
      | some v => wpAny (model prog w) A (letOwnedTupleGo t0 it v) (fun _ sb1 => wpAny (model prog w) A (assign t0 env v) (fun _ sa2 =>
          wpAny (model prog w) A (forIn ifs0 true fun c r => if r = true then do let ok ← isTrue c env (eval c env); pure (ForInStep.yield ok) else pure (ForInStep.yield r)) (fun ok sa3 =>
            if ok = true then wpAny (model prog w) A (eval i1 env) (fun x sa4 => wpAny (model prog w) A (pyIter x) (fun it1 sa5 =>
              codeAny (model prog w) A (.compStart (.ListComp elt [⟨t0, i0, ifs0, 0⟩, ⟨t1, i1, ifs1, 0⟩, cz] scope pos) 1 it1 acc env) (fun r s' => match r with
                | .ok _ => ∃ m, m < n ∧ I m s'
                | .error _ => False) sa5) (notedBy (model prog w) A env fun e s' => R (.error e) s') sa4) (notedBy (model prog w) A env fun e s' => R (.error e) s') sa3
            else ∃ m, m < n ∧ I m sa3) (notedBy (model prog w) A env fun e s' => R (.error e) s') sa2) (notedBy (model prog w) A env fun e s' => R (.error e) s') sb1) (notedBy (model prog w) A env fun e s' => R (.error e) s') sa1) (notedBy (model prog w) A env fun e s' => R (.error e) s') s)
    (n : Nat) (h : I n s) :
    codeAny (model prog w) A (.compLoop (.ListComp elt [⟨t0, i0, ifs0, 0⟩, ⟨t1, i1, ifs1, 0⟩, cz] scope pos) 0 it acc env) R s := by
  refine codeAny_loop rfl I (fun n s hI => ?_) n h
  show wpAny _ A ((compTurn (.ListComp elt [⟨t0, i0, ifs0, 0⟩, ⟨t1, i1, ifs1, 0⟩, cz] scope pos) 0 it acc env).onRaise (fun x => do noteFrame x env; theTreesLotGoes x)) _ _ s
  refine wpAny_noted ?_
  rw [turn3_out]
  refine wpAny_bind (wpAny_standAt (wpAny_bind (wpAny_mono (turn n s hI) (fun r sa1 ha1 => ?_) fun _ _ h' => h')))
  cases r with
  | none => exact wpAny_pure ha1
  | some v =>
    refine wpAny_bind (wpAny_mono ha1 (fun _ sb1 hb1 => ?_) fun _ _ h' => h')
    refine wpAny_bind (wpAny_mono hb1 (fun _ sa2 ha2 => wpAny_bind (wpAny_mono ha2 (fun ok sa3 ha3 => ?_) fun _ _ h' => h')) fun _ _ h' => h')
    cases ok with
    | false => exact wpAny_pure ⟨rfl, ha3⟩
    | true =>
      refine wpAny_bind (wpAny_mono ha3 (fun x sa4 ha4 => ?_) fun _ _ h' => h')
      refine wpAny_bind (wpAny_standAt (wpAny_bind (wpAny_of_eq (hs x) (wpAny_bind (wpAny_holding (wpAny_mono ha4 (fun it1 sa5 ha5 => ?_) fun _ _ h' => h'))))))
      refine wpAny_bind (wpAny_runOwn ?_)
      rw [Around.mark_none]
      refine codeAny_mono ha5 fun r s' hr => ?_
      cases r with
      | ok f =>
        first
          | exact wpAny_pure ⟨rfl, hr⟩
          | exact wpAny_bind (wpAny_pure (wpAny_pure ⟨rfl, hr⟩))
      | error e => exact hr.elim
/-- the loop of the second, at its end at once -/
theorem loop3_in (h : wpAny (model prog w) A (pyNext it) (fun r sa1 => r = none ∧ R (.ok .next) sa1) (notedBy (model prog w) A env fun e s' => R (.error e) s') s) :
    codeAny (model prog w) A (.compLoop (.ListComp elt [⟨t0, i0, ifs0, 0⟩, ⟨t1, i1, ifs1, 0⟩, cz] scope pos) 1 it acc env) R s := by
  refine codeAny_loop rfl (fun _ s' => s' = s) (fun n s' hs => ?_) 0 rfl
  subst hs
  show wpAny _ A ((compTurn (.ListComp elt [⟨t0, i0, ifs0, 0⟩, ⟨t1, i1, ifs1, 0⟩, cz] scope pos) 1 it acc env).onRaise (fun x => do noteFrame x env; theTreesLotGoes x)) _ _ s'
  refine wpAny_noted ?_
  obtain ⟨rest, e⟩ := turn3_in cz elt t0 i0 t1 i1 ifs0 ifs1 scope pos it acc env
  rw [e]
  refine wpAny_bind (wpAny_standAt (wpAny_bind (wpAny_mono h (fun r sa1 hr => ?_) fun _ _ z => z)))
  obtain ⟨rfl, hr⟩ := hr
  exact wpAny_pure hr
theorem start3_1 (h0 : codeAny (model prog w) A (.compLoop (.ListComp elt [⟨t0, i0, ifs0, 0⟩, ⟨t1, i1, ifs1, 0⟩, cz] scope pos) 1 it acc env) R s)
    (h : wpAny (model prog w) A (pyIter it) (fun it' s' => codeAny (model prog w) A (.compLoop (.ListComp elt [⟨t0, i0, ifs0, 0⟩, ⟨t1, i1, ifs1, 0⟩, cz] scope pos) 1 it' acc env) R s')
      (notedBy (model prog w) A env fun x s' => R (.error x) s') s) :
    codeAny (model prog w) A (.compStart (.ListComp elt [⟨t0, i0, ifs0, 0⟩, ⟨t1, i1, ifs1, 0⟩, cz] scope pos) 1 it acc env) R s := by
  refine codeAny_of_tree ?_
  show wpAny _ _ ((compStart (.ListComp elt [⟨t0, i0, ifs0, 0⟩, ⟨t1, i1, ifs1, 0⟩, cz] scope pos) 1 it acc env).onRaise (fun x => do noteFrame x env; standAt theWindowsPlace)) _ _ s
  refine wpAny_notedAt ?_
  unfold compStart
  show wpAny _ _ (ask >>= _) _ _ s
  refine wpAny_bind (wpAny_askSetting (wpAny_ite ?_))
  split
  · first
      | exact wpAny_bind (wpAny_pure (wpAny_pure (And.intro rfl h0)))
      | exact wpAny_pure (And.intro rfl h0)
  · first
      | exact wpAny_bind (wpAny_rule (wpAny_bind (wpAny_standAt (wpAny_bind (wpAny_mono h (fun it' s' h' => wpAny_pure (And.intro rfl h')) fun _ _ x => x)))))
      | (refine wpAny_bind (wpAny_rule ?_); show wpAny _ _ (standAt i1.pos >>= _) _ _ s; exact wpAny_bind (wpAny_standAt (wpAny_bind (wpAny_mono h (fun it' s' h' => wpAny_pure (And.intro rfl h')) fun _ _ x => x))))
end
section
variable {X : Cx} {cz : Comprehension}
def tLc3 (wi : TI) (g : TG) (tt : TT) (wi1 : TI) (vs : List Nat) : TE := fun σ H Q => wi σ H fun J H1 => ∀ D, H1 D = none → ∃ W : Nat → Nat → Hp → Prop, (∃ m, W 0 m (upd H1 D (.lst []))) ∧ ∀ i m H, W i m H →
  (J.stop i H ∧ Q (.ref D) H) ∨ (J.go i H ∧ ∃ Nx : Hp → Prop, (∀ H', Nx H' → ∃ m', m' < m ∧ W (i + 1) m' H') ∧ ∀ x H', J.yld i H x H' → g x (wipe σ vs) H' fun σ2 H2 => wipe σ2 vs = wipe σ vs ∧ tt σ2 H2 fun b H3 =>
    if b = true then wi1 σ2 H3 fun J1 H4 => J1.stop 0 H4 ∧ Nx H4 else Nx H3)
theorem lc3_core {pins : List (Addr × Obj)} {s : Shared} {σ : L2.St} {H : Hp} {Q : VK} {elt tg iter tg1 iter1 : Expr} {ifs ifs1 : List Expr} {scope : Scope} {own : List (Str × Nat)} {pos pos' : Pos} {wi wi1 : TI} {g : TG} {tt : TT} {use : Option (Value → Sem Unit)} {Qf : Value → Shared → Prop}
    (hc : X.calm = true) (hN : X.N.Nodup) (I : Inv X pins σ H s) (hi : PI X tg iter wi) (ok : BlkOk X.N X.env.scope scope own)
    (hg : ∀ (s : Shared) (H : Hp) (C : Addr) (cl : List (Str × Addr)) (fp : List Addr), PG (X.blk s H scope (compEnvC scope cl C X.env) fp) tg g) (ht : ∀ (s : Shared) (H : Hp) (C : Addr) (cl : List (Str × Addr)) (fp : List Addr), PTs (X.blk s H scope (compEnvC scope cl C X.env) fp) ifs tt)
    (hs : ∀ x, foldedSetIterable iter X.env x = pure x)
    (hi1 : ∀ (s : Shared) (H : Hp) (C : Addr) (cl : List (Str × Addr)) (fp : List Addr), PI (X.blk s H scope (compEnvC scope cl C X.env) fp) tg1 iter1 wi1)
    (hs1 : ∀ env x, foldedSetIterable iter1 env x = pure x)
    (h : tLc3 wi g tt wi1 (own.map (·.2)) σ H Q)
    (hRR : ∀ D C s' m H', Inv X pins σ H' s' → Q (.ref D) H' → s'.heap.Ns C m → FpOk X pins H' C → compPost (model X.prog X.w) X.A X.xe use Qf (.ref D) C (.ok .next) s') :
    wpAny (model X.prog X.w) X.A (comprehension (.ListComp elt [⟨tg, iter, ifs, 0⟩, ⟨tg1, iter1, ifs1, 0⟩, cz] scope pos) scope X.env pos' (newList []) false (eval iter X.env) use) Qf X.xe s := by
  have hfree : ∀ y ∈ scope.names, y.2 = .free → ∃ c, X.env.cells.lookup y.1 = some c := fun y hy e => by
    rcases ok.free y hy e with k | k
    · exact I.ok.has _ (.inl k)
    · exact I.ok.has _ (.inr k)
  refine wpAny_comprehension_free (use := use) rfl hs (closure_ok hfree) ok.kind (fun y hy e => by rw [ok.uniq y hy, e])
    (thn (hi.run pins s σ H _ I h) fun xv s1 hx => thn hx fun itv s2 h2 => ?_)
  obtain ⟨it, fp, tn, J, H2, e, I2, T, st2, f2, q⟩ := h2
  subst e
  refine wpAny_newObj_type (newEnv_comp ?_) (by show 0 ≤ sizeLine; decide)
  generalize hD : s2.heap.objs.size = D
  have hDn : H2 D = none := I2.hok.fresh (Nat.le_of_eq hD)
  obtain ⟨W, ⟨m0, w0⟩, turn⟩ := q D hDn
  -- the new list
  generalize hs3 : ({ s2 with heap := s2.heap.push { cls := .type "list", data := .seq ([] : List Value).toArray } } : Shared) = s3
  have I3 : Inv X pins σ (upd H2 D (.lst [])) s3 := by
    rw [← hs3]
    refine I2.laid (t' := s2.toks) (fun b o e => Heap.get?_push_of_some _ e) (Nat.le_of_eq hD) ⟨Nat.zero_le _, [], 0, .nil, ?_⟩
    rw [← hD]
    exact Heap.get?_push_size _ rfl
  have h3 : s3.heap = s2.heap.push { cls := .type "list", data := .seq ([] : List Value).toArray } := by rw [← hs3]
  have sz : ∀ b ∈ fp, b < s2.heap.objs.size := fun b hb => by
    obtain ⟨o, e, _⟩ := T.obj _ _ st2 b hb
    exact Heap.lt_size e
  have f3 : ∀ b ∈ fp, FpOk X pins (upd H2 D (.lst [])) b ∧ b < s3.heap.objs.size := fun b hb => by
    have hlt := sz b hb
    refine ⟨⟨?_, (f2 b hb).2⟩, by rw [h3, Heap.size_push]; exact Nat.lt_succ_of_lt hlt⟩
    rw [upd_ne (by rw [← hD]; exact Nat.ne_of_lt hlt)]
    exact (f2 b hb).1
  have st3 : tn 0 s3.heap := T.keep _ _ _ st2 fun b _ o e => by rw [h3]; exact Heap.get?_push_of_some _ e
  have I4 := block_start I3 ok hN f3
  have pg := hg s3 (upd H2 D (.lst [])) s3.heap.objs.size (cellsFrom (s3.heap.objs.size + 1) scope.names (cloFrom X.env.cells scope.names [])) fp
  have pt := ht s3 (upd H2 D (.lst [])) s3.heap.objs.size (cellsFrom (s3.heap.objs.size + 1) scope.names (cloFrom X.env.cells scope.names [])) fp
  have pi1 := hi1 s3 (upd H2 D (.lst [])) s3.heap.objs.size (cellsFrom (s3.heap.objs.size + 1) scope.names (cloFrom X.env.cells scope.names [])) fp
  show codeAny _ _ (.compStart (.ListComp elt [⟨tg, iter, ifs, 0⟩, ⟨tg1, iter1, ifs1, 0⟩, cz] scope pos) 0 (.ref it) (.ref D) (compEnvC scope (cellsFrom (s3.heap.objs.size + 1) scope.names (cloFrom X.env.cells scope.names [])) s3.heap.objs.size X.env)) (compPost (model X.prog X.w) X.A X.xe use Qf (.ref D) s3.heap.objs.size) { s3 with heap := pushCells (s3.heap.push { cls := .type "dict", data := .dict #[] }) scope.names }
  have nfp : ∀ b ∈ fp, (upd H2 D (.lst [])) b = none := fun b hb => (f3 b hb).1.1
  generalize hce : compEnvC scope (cellsFrom (s3.heap.objs.size + 1) scope.names (cloFrom X.env.cells scope.names [])) s3.heap.objs.size X.env = ce at I4 pg pt pi1 ⊢
  have cL : ce.locals = s3.heap.objs.size := by subst hce; rfl
  generalize hH3 : upd H2 D (.lst []) = H3 at I3 I4 pg pt pi1 w0 nfp f3
  generalize hs4 : ({ s3 with heap := pushCells (s3.heap.push { cls := .type "dict", data := .dict #[] }) scope.names } : Shared) = s4 at I4 ⊢
  have st4 : tn 0 s4.heap := T.keep _ _ _ st3 fun b _ o e => by rw [← hs4]; exact pushCells_keeps _ _ _ _ (Heap.get?_push_of_some _ e)
  have stat : ∀ {σ' : L2.St} {H' : Hp} {s' : Shared}, Inv (X.blk s3 H3 scope ce fp) [] σ' H' s' → (∀ b ∈ fp, H' b = none) → ∀ b ∈ fp, FpOk (X.blk s3 H3 scope ce fp) [] H' b := fun {σ' H' s'} I' hn b hb =>
    ⟨hn b hb, (I'.ok.exf b hb).1, I'.ok.exfs b hb, .inl hb, fun x c e => (I'.ok.exf b hb).2 x c e, fun p hp => absurd (show p ∈ ([] : List (Addr × Obj)) ++ [] from hp) (by simp)⟩
  have loop : codeAny (model X.prog X.w) X.A (.compLoop (.ListComp elt [⟨tg, iter, ifs, 0⟩, ⟨tg1, iter1, ifs1, 0⟩, cz] scope pos) 0 (.ref it) (.ref D) ce) (compPost (model X.prog X.w) X.A X.xe use Qf (.ref D) s3.heap.objs.size) s4 := by
    refine loop3_out (hs1 ce) (fun n s' => ∃ i H', Inv (X.blk s3 H3 scope ce fp) [] (wipe σ (own.map (·.2))) H' s' ∧ tn i s'.heap ∧ (∀ b ∈ fp, H' b = none) ∧ W i n H') ?_ m0 ⟨0, H3, I4, st4, nfp, w0⟩
    rintro n s5 ⟨i, H5, I5, st5, n5, w5⟩
    rcases turn i n H5 w5 with ⟨stop, qq⟩ | ⟨go, Nx, hNx, step⟩
    · have td := T.done (X.blk s3 H3 scope ce fp) rfl rfl rfl hc i [] s5 _ H5 (fun _ _ => False) I5 (stat I5 n5) st5 stop
      refine thnF td fun r s6 ⟨hr, I6⟩ => ?_
      subst hr
      -- back in the def's context
      have I7 : Inv X pins σ H5 s6 := I3.call' (ch := fp) I6.os I6.base I6.hok I6.bare fun b hb => ⟨(f3 b hb).1.2.2.2.1, (f3 b hb).1.2.1, (f3 b hb).1.2.2.2.2.1, (f3 b hb).1.2.2.2.2.2⟩
      have nC : H5 s3.heap.objs.size = none := by
        have z : H5 ce.locals = none := I6.free
        rw [cL] at z
        exact z
      obtain ⟨m, hn, _⟩ := I6.loc
      have hn : s6.heap.Ns ce.locals m := hn
      rw [cL] at hn
      exact hRR D s3.heap.objs.size s6 m H5 I7 qq hn (I3.fpOk (Nat.le_refl _) nC)
    · have ti := T.item (X.blk s3 H3 scope ce fp) rfl rfl rfl hc i [] s5 _ H5 (fun _ _ => False) I5 (stat I5 n5) st5 go
      refine thnF ti fun r s6 ⟨u, hr, h6⟩ => ?_
      subst hr
      refine thnF h6 fun _ s7 ⟨x, H7, I7, r7, y7, st7, n7⟩ => ?_
      have I7' := I7.pinned (stat I7 n7) (T.obj _ _ st7)
      refine thnF (pg.run _ s7 _ H7 x u _ I7' r7 (step x H7 y7)) fun _ s8 ⟨σ8, H8, I8, hw8, q8⟩ => ?_
      refine thnF (pt.run _ s8 σ8 H8 _ I8 q8) fun b s9 ⟨H9, I9, q9⟩ => ?_
      -- the turn's end, from any slots that know what the block knew at its start
      have fin : ∀ {σ9 : L2.St} {s' : Shared} {H' : Hp}, Inv (X.blk s3 H3 scope ce fp) ([] ++ pinsAt fp s7.heap) σ9 H' s' → (wipe σ (own.map (·.2))).length = σ9.length → (∀ (j : Nat) v, (wipe σ (own.map (·.2)))[j]? = some (some v) → σ9[j]? = some (some v)) → Nx H' →
          ∃ m, m < n ∧ ∃ i H', Inv (X.blk s3 H3 scope ce fp) [] (wipe σ (own.map (·.2))) H' s' ∧ tn i s'.heap ∧ (∀ b ∈ fp, H' b = none) ∧ W i m H' := fun {σ9 s' H'} I' hl hk nx => by
        obtain ⟨m', hm, w'⟩ := hNx H' nx
        have pin' : ∀ b ∈ fp, ∀ o, s7.heap.get? b = some o → s'.heap.get? b = some o ∧ H' b = none := fun b hb o e =>
          let z := I'.pin (b, o) (List.mem_append_right _ (List.mem_append_right _ (mem_pinsAt hb e)))
          ⟨z.1, z.2.1⟩
        refine ⟨m', hm, i + 1, H', (I'.unpinned (pins := [])).weak hl hk, T.keep _ _ _ st7 fun b hb o e => (pin' b hb o e).1, fun b hb => ?_, w'⟩
        obtain ⟨o, e, _⟩ := T.obj _ _ st7 b hb
        exact (pin' b hb o e).2
      have hl8 : (wipe σ (own.map (·.2))).length = σ8.length := by rw [← hw8, wipe_length]
      have hk8 : ∀ (j : Nat) v, (wipe σ (own.map (·.2)))[j]? = some (some v) → σ8[j]? = some (some v) := fun j v e => by
        rw [← hw8] at e
        exact (wipe_some e).1
      cases b with
      | false =>
        simp only [Bool.false_eq_true, if_false] at q9 ⊢
        exact fin I9 hl8 hk8 q9
      | true =>
        simp only [if_true] at q9 ⊢
        refine thnF (pi1.run _ s9 σ8 H9 _ I9 q9) fun xv s10 hx => thnF hx fun itv s11 h11 => ?_
        obtain ⟨it1, fp1, tn1, J1, H11, e1, I11, T1, st11, f11, turn1⟩ := h11
        subst e1
        obtain ⟨end1, nx1⟩ := turn1
        have stat1 : ∀ b ∈ fp1, FpOk (X.blk s3 H3 scope ce fp) ([] ++ pinsAt fp s7.heap) H11 b := fun b hb => ⟨(f11 b hb).1, (f11 b hb).2⟩
        have loop1 : codeAny (model X.prog X.w) X.A (.compLoop (.ListComp elt [⟨tg, iter, ifs, 0⟩, ⟨tg1, iter1, ifs1, 0⟩, cz] scope pos) 1 (.ref it1) (.ref D) ce)
            (fun r s' => match r with
              | .ok _ => ∃ m, m < n ∧ ∃ i H', Inv (X.blk s3 H3 scope ce fp) [] (wipe σ (own.map (·.2))) H' s' ∧ tn i s'.heap ∧ (∀ b ∈ fp, H' b = none) ∧ W i m H'
              | .error _ => False) s11 := by
          refine loop3_in ?_
          refine thnF (T1.done (X.blk s3 H3 scope ce fp) rfl rfl rfl hc 0 _ s11 σ8 H11 (fun _ _ => False) I11 stat1 st11 end1) fun r s13 ⟨hr, I13⟩ => ?_
          exact ⟨hr, fin I13 hl8 hk8 nx1⟩
        exact start3_1 loop1 (T1.self X.A 0 _ _ _ st11 loop1)
  exact codeAny_compStart_list loop (T.self X.A 0 _ _ _ st4 loop)
theorem ps_setLc3 {i : Nat} {y : Str} {py : Pos} {elt tg iter tg1 iter1 : Expr} {ifs ifs1 : List Expr} {scope : Scope} {own : List (Str × Nat)} {pos spos : Pos} {wi wi1 : TI} {g : TG} {tt : TT} (hc : X.calm = true) (hN : X.N.Nodup) (hy : X.N[i]? = some y) (hyl : X.env.scope.names.lookup y = some .local)
    (hsw : swapsWith (.ListComp elt [⟨tg, iter, ifs, 0⟩, ⟨tg1, iter1, ifs1, 0⟩, cz] scope pos) (some (.Name y py)) spos.line X.env = pure true) (hi : PI X tg iter wi) (ok : BlkOk X.N X.env.scope scope own)
    (hg : ∀ (s : Shared) (H : Hp) (C : Addr) (cl : List (Str × Addr)) (fp : List Addr), PG (X.blk s H scope (compEnvC scope cl C X.env) fp) tg g) (ht : ∀ (s : Shared) (H : Hp) (C : Addr) (cl : List (Str × Addr)) (fp : List Addr), PTs (X.blk s H scope (compEnvC scope cl C X.env) fp) ifs tt)
    (hi1 : ∀ (s : Shared) (H : Hp) (C : Addr) (cl : List (Str × Addr)) (fp : List Addr), PI (X.blk s H scope (compEnvC scope cl C X.env) fp) tg1 iter1 wi1)
    (hs : ∀ x, foldedSetIterable iter X.env x = pure x := by intro _; rfl) (hs1 : ∀ env x, foldedSetIterable iter1 env x = pure x := by intro _ _; rfl) :
    PS X (.Assign [.Name y py] (.ListComp elt [⟨tg, iter, ifs, 0⟩, ⟨tg1, iter1, ifs1, 0⟩, cz] scope pos) spos) (tAsg (tLc3 wi g tt wi1 (own.map (·.2))) (gName i)) := by
  refine ⟨fun pins s σ H D I h => ?_⟩
  rw [exec_Assign_Name_used _ _ _ _ hsw]
  refine wpAny_bind (wpAny_standAt (wpAny_bind ?_))
  show wpAny _ X.A (do let _ ← comprehension (.ListComp elt [⟨tg, iter, ifs, 0⟩, ⟨tg1, iter1, ifs1, 0⟩, cz] scope pos) scope X.env (firstIterPos [⟨tg, iter, ifs, 0⟩, ⟨tg1, iter1, ifs1, 0⟩, cz] pos) (newList []) false (eval iter X.env) (some (assign (.Name y py) X.env))) _ _ s
  have h : tLc3 wi g tt wi1 (own.map (·.2)) σ H (fun x H1 => gName i x σ H1 D.nx) := h
  refine wpAny_bind (thn (lc3_core (Qf := fun _ s' => SP X pins D .next s') hc hN I hi ok hg ht hs hi1 hs1 h fun L C s' m H' I' q hn f => ?_) fun _ s' hq => wpAny_pure (wpAny_pure hq))
  show wpAny _ _ (assign (.Name y py) X.env (.ref L)) _ _ _
  refine wpAny_assign_Name (store_ok2 (v := V.ref L) I' hN hy (.inl hyl) rfl (fun s2 I2 ⟨a, sb, ha⟩ => ?_) (.inr hyl))
  obtain ⟨f0, f1, f2, f3, f4, f5⟩ := f
  have haC : C ≠ a := by
    rcases ha with z | z
    · rw [z]; exact f1
    · exact fun e => f4 y a z e.symm
  refine ⟨m, hn.sameBut sb haC, fun h3 sb3 => ?_⟩
  exact ⟨_, H', I2.turned (t' := s2.toks) (fun b o hb e => (sb3.2 b hb).trans e) f0 f1 f3 f4 f5, q⟩
end
end MyC
/-! sorted(set(l)) of a list of texts -/
namespace My
open PySem PySem.Spec PyProof.Rows L2
open PySem.Froz (SD sObj TxOk addTx tailTx add_x add_ok is_str)
/-- the set of the texts l, each once -/
structure TSet (P : Program) (w : World) (h : Heap) (a : Addr) (l : List Str) : Prop where
  ex : ∃ D : SD, h.get? a = some (sObj "set" D) ∧ TxOk P w D l ∧ Ris D.2.2.place.toList ∧ (w.params.followText "set-order" = true ∨ D.2.2.led = true)
  nd : l.Nodup
theorem TSet.at {P : Program} {w : World} {h h' : Heap} {a : Addr} {l : List Str} (T : TSet P w h a l) (k : ∀ o, h.get? a = some o → h'.get? a = some o) : TSet P w h' a l := by
  obtain ⟨D, e, r⟩ := T.ex
  exact ⟨⟨D, k _ e, r⟩, T.nd⟩
theorem tail_ris {w : World} {ep : Nat} {es : Array (Int × Value)} {t : SetTable} {b : Bool} (h : Ris t.place.toList) (hl : w.params.followText "set-order" = true ∨ t.led = true) :
    Ris (tailTx ep es t b).2.2.place.toList ∧ (w.params.followText "set-order" = true ∨ (tailTx ep es t b).2.2.led = true) := by
  unfold tailTx
  split
  · exact ⟨relayAll_ris t es _, hl.imp id fun z => (relayAll_led t es _).trans z⟩
  · exact ⟨h, hl⟩
theorem add_ris {w : World} {x : Int} {v : Value} {D : SD} (h : Ris D.2.2.place.toList) (hl : w.params.followText "set-order" = true ∨ D.2.2.led = true) :
    Ris (addTx x v D).2.2.place.toList ∧ (w.params.followText "set-order" = true ∨ (addTx x v D).2.2.led = true) := by
  unfold addTx
  have h1 := layNew_ris D.2.2 D.1 x v h
  have h2 := layNew_led D.2.2 D.1 x v
  refine tail_ris ?_ ?_
  · split
    · exact h1
    · exact h1
  · refine hl.imp id fun z => ?_
    split
    · exact h2.trans z
    · exact h2.trans z
section
variable {P : Program} {w : World} {A : Around} {E : Value → Shared → Prop} {s : Shared}
theorem add_old {a : Addr} {l : List Str} {k : Str} {u : Tok} {Q : Bool → Shared → Prop} (T : TSet P w s.heap a l) (hk : k ∈ l) (hb : l.length < scanBound) (h : Q false s) :
    wpAny (model P w) A (setAddHashed a (.str k u) (hashStr w k)) Q E s := by
  obtain ⟨⟨D, ho, F, _⟩, _⟩ := T
  obtain ⟨es, ep, t⟩ := D
  have hd : (sObj "set" (es, ep, t)).data = .set es ep t := rfl
  have hf : t.fits es.size = true := F.fit
  have hel : ElemsOf (PySem.strKind P w) es.toList := F.el
  have hsz : es.size = l.length := F.sz
  have hb0 : es.size < scanBound := by omega
  have hkey : (PySem.strKind P w).is k (.str k u) = true := is_str k u
  unfold setAddHashed setAddHashedIn
  refine wpAny_holding (wpAny_bind (wpAny_setState_of ho hd hf ?_))
  dsimp only
  rw [byScan_of rfl hb0 hel]
  simp only [↓reduceIte]
  unfold setAddByScan
  refine wpAny_bind ?_
  refine wpAny_bind (wpAny_rule ?_)
  refine wpAny_bind (wpAny_setScan_of (knd := PySem.strKind P w) (k := k) hkey ho hd hf hel ?_)
  cases hfi : List.findIdx? (fun e => (PySem.strKind P w).is k e.2) es.toList with
  | some j =>
    dsimp only
    exact wpAny_pure (wpAny_pure h)
  | none =>
    obtain ⟨e, he, q⟩ := (F.mem k).mp hk
    have c := List.findIdx?_eq_none_iff.mp hfi e he
    rw [q] at c
    cases c
theorem add_any {a : Addr} {l : List Str} {k : Str} {u : Tok} {Q : Bool → Shared → Prop} (T : TSet P w s.heap a l) (hb : l.length + 1 < scanBound)
    (h : ∀ b h' l', Heap.SameBut a s.heap h' → TSet P w h' a l' → (∀ z, z ∈ l' ↔ z = k ∨ z ∈ l) → l'.length ≤ l.length + 1 → Q b { s with heap := h' }) :
    wpAny (model P w) A (setAddHashed a (.str k u) (hashStr w k)) Q E s := by
  by_cases hk : k ∈ l
  · refine add_old T hk (by omega) ?_
    exact h false s.heap l (Heap.SameBut.refl a s.heap) T (fun z => ⟨.inr, fun q => q.elim (fun e => e ▸ hk) id⟩) (Nat.le_succ _)
  · obtain ⟨⟨D, ho, F, r, hl⟩, nd⟩ := T
    refine add_x ho F hk hb ?_
    have sb := Heap.SameBut.update s.heap a (fun _ => sObj "set" (addTx (hashStr w k) (.str k u) D))
    obtain ⟨r2, l2⟩ := add_ris (x := hashStr w k) (v := .str k u) r hl
    refine h true _ (k :: l) sb ⟨⟨_, PySem.Froz.get_upd _ ho rfl, add_ok u F, r2, l2⟩, List.nodup_cons.mpr ⟨hk, nd⟩⟩ (fun z => List.mem_cons) (Nat.le_refl _)
/-- set.update's loop -/
theorem upd_loop {I : Addr} {fp wr : List Addr} {G : Array GenState → Array GenState → Prop} {n : Nat} {Pv : Nat → Value → Prop} {St : Nat → Shared → Prop} {R : Result → Shared → Prop}
    (W : WalksS P w A.in1 I fp wr G n Pv St) (S : Addr) (hSf : S ∉ fp) (xs : List Str) (hn : xs.length = n) (hb : n + 1 < scanBound) (hval : ∀ i v, Pv i v → ∃ t, v = .str (xs.getD i Str.empty) t) :
    ∀ (k i : Nat) (s : Shared) (l : List Str), n - i = k → i ≤ n → St i s → TSet P w s.heap S l → (∀ z, z ∈ l ↔ z ∈ xs.take i) → l.length ≤ i →
      (∀ s' l', Moved (S :: wr) G s s' → TSet P w s'.heap S l' → (∀ z, z ∈ l' ↔ z ∈ xs) → R (.ok (.ret .none)) s') →
      codeAny (model P w) A (.builtin "set.update.loop" ⟨[.ref S, .ref I], []⟩) R s := by
  have hSw : S ∉ wr := fun h => hSf (W.sub _ h)
  have hsub : ∀ b ∈ wr, b ∈ S :: wr := fun b hb => List.mem_cons_of_mem _ hb
  intro k
  induction k with
  | zero =>
    intro i s l hk hi hst hS hm hlen hR
    have hin : i = n := by omega
    subst hin
    refine codeAny_builtin F.entry_set_update_loop ?_
    rw [Around.under_plainId F.plain_set_update_loop _]
    show wpAny _ A.in1 (pyNext (.ref I) >>= _) _ _ s
    refine wpAny_bind (W.done s _ _ hst fun s' hmv => ?_)
    show wpAny _ A.in1 (ret Value.none) _ _ s'
    refine wpAny_pure (hR s' l (hmv.mono hsub) (hS.at fun o e => hmv.heap S o hSw e) fun z => ?_)
    rw [hm z, ← hn, List.take_length]
  | succ k ih =>
    intro i s l hk hi hst hS hm hlen hR
    have hlt : i < n := by omega
    refine codeAny_builtin F.entry_set_update_loop ?_
    rw [Around.under_plainId F.plain_set_update_loop _]
    show wpAny _ A.in1 (pyNext (.ref I) >>= _) _ _ s
    refine wpAny_bind (W.item i s _ _ hlt hst fun v s' hP hst' hmv => ?_)
    obtain ⟨t, rfl⟩ := hval i v hP
    have hS' : TSet P w s'.heap S l := hS.at fun o e => hmv.heap S o hSw e
    show wpAny _ A.in1 (holding [Value.str (xs.getD i Str.empty) t] (setAdd S (.str (xs.getD i Str.empty) t)) >>= _) _ _ s'
    refine wpAny_bind (wpAny_holding ?_)
    unfold setAdd
    refine wpAny_holding ?_
    refine wpAny_bind ((PySem.strKind P w).pyHash (k := xs.getD i Str.empty) (is_str _ _) ?_)
    refine add_any (s := { s' with toks := s'.toks + 1 }) hS' (by omega) fun b h' l' hsb hS2 hm2 hl2 => ?_
    have hxi : i < xs.length := by omega
    have hm3 : ∀ z, z ∈ l' ↔ z ∈ xs.take (i + 1) := fun z => by
      rw [hm2 z, hm z, List.take_add_one, List.getElem?_eq_getElem hxi, List.mem_append, List.getD_eq_getElem?_getD, List.getElem?_eq_getElem hxi]
      simp [Or.comm]
    refine wpAny_pure ⟨plainId_quiet F.plain_set_update_loop _, ih (i + 1) _ l' (by omega) hlt (W.frame _ s' _ _ hst' (Nat.le_succ _) fun b hb o e => ?_) hS2 hm3 (by omega) fun s'' l2 hm'' hS'' hz => ?_⟩
    · rw [hsb.2 b (fun h : b = S => hSf (by rw [← h]; exact hb))]; exact e
    · refine hR s'' l2 (Moved.trans W.gtrans ((hmv.mono hsub).then_heap (Nat.le_succ _) fun b o hb e => ?_) hm'') hS'' hz
      rw [hsb.2 b (fun h : b = S => hb (by rw [h]; exact List.mem_cons_self))]; exact e
/-- set(l), l a list of texts -/
theorem call_set_texts {l : Addr} {items : Array Value} {xs : List Str} {Q : Value → Shared → Prop} (hh : A.handled = none) (hl : s.heap.IsList l items) (hi : StrsAre items.toList xs) (hb : xs.length + 1 < scanBound)
    (h : ∀ (h' : Heap) (tk : Nat) (ys : List Str), TSet P w h' s.heap.objs.size ys → (∀ z, z ∈ ys ↔ z ∈ xs) → (∀ b o, s.heap.get? b = some o → h'.get? b = some o) → Q (.ref s.heap.objs.size) { s with heap := h', toks := tk }) :
    wpAny (model P w) A (call (.type "set") [.ref l]) Q E s := by
  obtain ⟨c, tl, hmro⟩ := F.called_set.mro
  have hmade := F.called_set.made
  have hsub := F.called_set.sub
  refine wpAny_call (codeAny_of_tree ?_)
  show wpAny _ _ (callAny (.type "set") _) _ _ _
  refine wpAny_pure ⟨Code.quiet_builtin _ (by decide +kernel), codeAny_builtin F.entry_type_call ?_⟩
  rw [Around.under_plain (weight_type_call_type "set" [.ref l] []) rfl]
  have h1 := F.called_set.notType
  have h2 := F.called_set.canCreate
  have hct := F.typeCall_set_1 (.ref l)
  repeat (any_goals (first | assumption | wp_step))
  refine codeAny_mono (code_set_led1 (.ref l) (E := E) (Q₁ := fun obj s₁ => obj = .ref s.heap.objs.size ∧ s₁ = { s with heap := s.heap.push { cls := .type "set", dict := none, data := .set #[] 0 (.fresh 0 0 (!w.params.followText "set-order")) } }) ⟨rfl, rfl⟩) fun r s₁ hr => ?_
  cases r with
  | error e => exact hr
  | ok fl =>
    cases fl with
    | ret obj =>
      obtain ⟨rfl, rfl⟩ := hr
      have hS : (s.heap.push { cls := .type "set", dict := none, data := .set #[] 0 (.fresh 0 0 (!w.params.followText "set-order")) }).get? s.heap.objs.size = some { cls := .type "set", dict := none, data := .set #[] 0 (.fresh 0 0 (!w.params.followText "set-order")) } := Heap.get?_push_size _ rfl
      have hT : Shared.TypeIs { s with heap := s.heap.push { cls := .type "set", dict := none, data := .set #[] 0 (.fresh 0 0 (!w.params.followText "set-order")) } } (.ref s.heap.objs.size) "set" := ⟨_, hS, rfl⟩
      have hli := F.called_set.init.lookup
      have hbi := F.called_set.init.bind (.ref s.heap.objs.size)
      repeat (any_goals (first | assumption | wp_step))
      refine codeAny_mono (codeAny_call_builtin (R := wants (fun r s₂ => r = .none ∧ ∃ h' tk ys, s₂ = { s with heap := h', toks := tk } ∧ TSet P w h' s.heap.objs.size ys ∧ (∀ z, z ∈ ys ↔ z ∈ xs) ∧
          (∀ b o, s.heap.get? b = some o → h'.get? b = some o)) E) F.called_set.init.plain F.entry_set_init (check_set_init_1 hT ?_)) fun r₂ s₂ hr₂ => ?_
      · obtain ⟨ol, hol, hcl, nl, hdl⟩ := hl
        obtain ⟨ocls, odict, odata, oslots⟩ := ol
        simp only at hcl hdl
        subst hcl; subst hdl
        have hol' : (s.heap.push { cls := .type "set", dict := none, data := .set #[] 0 (.fresh 0 0 (!w.params.followText "set-order")) }).get? l = some { cls := .type "list", dict := odict, data := .seq items nl, slots := oslots } := Heap.get?_push_of_some _ hol
        have hsls := F.sub_list_set
        have hslf := F.sub_list_frozenset
        have hne : (Value.type "list" == Value.type "dict") = false := by decide
        have hl1 : (s.heap.push { cls := .type "set", dict := none, data := .set #[] 0 (.fresh 0 0 (!w.params.followText "set-order")) }).IsList l items := ⟨_, hol', rfl, nl, rfl⟩
        unfold Builtin.«set.__init__» noKeywords Builtin.Frozenset.updateFrom
        generalize hPI : pyIter = PI
        wp_walk
        subst hPI
        refine wpAny_pyIter_list hl1 ?_
        refine wpAny_bind (wpAny_runValue ?_)
        have hlS : l < s.heap.objs.size := Heap.lt_size hol
        have hh3 : A.in1.in1.in1.handled = none := by simp [hh]
        have hneI : l ≠ (s.heap.push { cls := .type "set", dict := none, data := .set #[] 0 (.fresh 0 0 (!w.params.followText "set-order")) }).objs.size := by
          rw [Heap.size_push]; exact Nat.ne_of_lt (Nat.lt_succ_of_lt hlS)
        have hSf : s.heap.objs.size ∉ [(s.heap.push { cls := .type "set", dict := none, data := .set #[] 0 (.fresh 0 0 (!w.params.followText "set-order")) }).objs.size, l] := by
          rw [Heap.size_push]; simp only [List.mem_cons, List.mem_singleton, List.not_mem_nil, or_false, not_or]
          exact ⟨Nat.ne_of_lt (Nat.lt_succ_self _), Nat.ne_of_gt hlS⟩
        have hsz : xs.length = items.size := by rw [← StrsAre.len_eq hi, Array.length_toList]
        have hval : ∀ (i : Nat) (v : Value), items[i]? = some v → ∃ t, v = .str (xs.getD i Str.empty) t := fun i v hv => SS.strs_at hi i v (by rw [Array.getElem?_toList]; exact hv)
        refine upd_loop ((Walks.list hh3 _ l hneI items).toS) s.heap.objs.size hSf xs hsz (by rw [← hsz]; exact hb) hval (items.size - 0) 0 _ [] (by omega) (Nat.zero_le _)
          ⟨⟨_, Heap.get?_push_size _ rfl, rfl, rfl⟩, (hl1.push _)⟩ ?hS0 (fun z => by simp) (Nat.le_refl _) ?hR
        case hS0 =>
          have hget : ((s.heap.push { cls := .type "set", dict := none, data := .set #[] 0 (.fresh 0 0 (!w.params.followText "set-order")) }).push { cls := .type "list_iterator", data := .fields #[.ref l, .int 0 0] }).get? s.heap.objs.size = some { cls := .type "set", dict := none, data := .set #[] 0 (.fresh 0 0 (!w.params.followText "set-order")) } := Heap.get?_push_of_some _ hS
          refine ⟨⟨(#[], 0, .fresh 0 0 (!w.params.followText "set-order")), ?_, PySem.Froz.TxOk.nil (by rfl), List.Pairwise.nil, ?_⟩, List.nodup_nil⟩
          · exact hget
          · show _ ∨ (!w.params.followText "set-order") = true
            cases w.params.followText "set-order"
            · exact .inr rfl
            · exact .inl rfl
        case hR =>
          intro s' ys hm hS' hz
          obtain ⟨h', g2, d', tk', os'⟩ := s'
          have eg : g2 = s.gens := hm.gens
          have ed : d' = s.drawn := hm.drawn
          have eo : os' = s.os := hm.os
          subst eg; subst ed; subst eo
          show wpAny _ _ _ _ _ _
          refine wpAny_pure ?_
          show wpAny _ _ (ret Value.none) _ _ _
          refine wpAny_pure ⟨rfl, h', tk', ys, rfl, hS', hz, fun b o e => ?_⟩
          have hlt := Heap.lt_size e
          have hb1 : b ≠ s.heap.objs.size := Nat.ne_of_lt hlt
          have hb2 : b ≠ (s.heap.push { cls := .type "set", dict := none, data := .set #[] 0 (.fresh 0 0 (!w.params.followText "set-order")) }).objs.size := by
            rw [Heap.size_push]; exact Nat.ne_of_lt (Nat.lt_succ_of_lt hlt)
          exact hm.heap b o (by simp only [List.mem_cons, List.mem_singleton, List.not_mem_nil, or_false, not_or]; exact ⟨hb1, hb2⟩) (Heap.get?_push_of_some _ (Heap.get?_push_of_some _ e))
      · cases r₂ with
        | error e => exact hr₂
        | ok fl₂ =>
          cases fl₂ with
          | ret r =>
            obtain ⟨rfl, h', tk, ys, rfl, hS', hz, hk'⟩ := hr₂
            repeat (any_goals (first | assumption | wp_step))
            exact h _ _ _ hS' hz hk'
          | _ => exact hr₂.elim
    | _ => exact hr.elim
theorem nodup_len : ∀ (l ys : List Str), l.Nodup → (∀ z ∈ l, z ∈ ys) → l.length ≤ ys.length
  | [], ys, _, _ => Nat.zero_le _
  | x :: l, ys, nd, sub => by
    obtain ⟨hx, nd2⟩ := List.nodup_cons.mp nd
    have p1 : ys.Perm (x :: ys.erase x) := List.perm_cons_erase (sub x List.mem_cons_self)
    have r := nodup_len l (ys.erase x) nd2 fun z hz => (List.mem_cons.mp (p1.mem_iff.mp (sub z (List.mem_cons_of_mem _ hz)))).elim (fun q => absurd q fun e => hx (e ▸ hz)) id
    have := p1.length_eq
    simp only [List.length_cons] at this ⊢
    omega
theorem perm_full : ∀ (l ys : List Str), l.Nodup → (∀ z ∈ l, z ∈ ys) → ys.length ≤ l.length → ys.Perm l
  | [], ys, _, _, h => by
    have : ys = [] := List.eq_nil_of_length_eq_zero (by simpa using h)
    rw [this]
  | x :: l, ys, nd, sub, h => by
    obtain ⟨hx, nd2⟩ := List.nodup_cons.mp nd
    have hm := sub x List.mem_cons_self
    have p1 : ys.Perm (x :: ys.erase x) := List.perm_cons_erase hm
    have hl : (ys.erase x).length ≤ l.length := by
      have := p1.length_eq
      simp only [List.length_cons] at this h
      omega
    refine p1.trans (.cons x (perm_full l (ys.erase x) nd2 (fun z hz => ?_) hl))
    have hzx : z ≠ x := fun e => hx (e ▸ hz)
    rcases List.mem_cons.mp (p1.mem_iff.mp (sub z (List.mem_cons_of_mem _ hz))) with q | q
    · exact absurd q hzx
    · exact q
theorem texts_of : ∀ vs : List Value, (∀ v ∈ vs, ∃ k t, v = Value.str k t) → ∃ ys, StrsAre vs ys ∧ ys.length = vs.length ∧ ∀ k t, Value.str k t ∈ vs → k ∈ ys
  | [], _ => ⟨[], .nil, rfl, fun k t h => by cases h⟩
  | v :: vs, h => by
    obtain ⟨k, t, rfl⟩ := h v List.mem_cons_self
    obtain ⟨ys, h1, h2, h3⟩ := texts_of vs fun u hu => h u (List.mem_cons_of_mem _ hu)
    refine ⟨k :: ys, .cons k t h1, by simp [h2], fun k2 t2 hm => ?_⟩
    rcases List.mem_cons.mp hm with q | q
    · injection q with q1 q2
      rw [q1]
      exact List.mem_cons_self
    · exact List.mem_cons_of_mem _ (h3 k2 t2 q)
/-- sorted(set) -/
theorem sorted_texts {a : Addr} {l : List Str} {Q : Value → Shared → Prop} (T : TSet P w s.heap a l) (hh : A.handled = none) (h64 : l.length < 64)
    (hQ : ∀ s' p (out : Array Value) (c : Nat) (ys : List Str), (∀ b o, s.heap.get? b = some o → s'.heap.get? b = some o) → s'.gens = s.gens → s'.os = s.os → s.heap.objs.size ≤ p →
      s'.heap.get? p = some (seqObj "list" out c) → StrsAre out.toList ys → ys.Perm l → sortedS ys = true → Q (.ref p) s') :
    wpAny (model P w) A (call (.builtin "sorted") [.ref a]) Q E s := by
  obtain ⟨⟨D, ho, F0, hr, hl⟩, nd⟩ := T
  obtain ⟨es, ep, t⟩ := D
  have hsz : es.size = l.length := F0.sz
  refine Calls.call_function_entry kind_sorted plain_sorted entry_sorted (args_sorted1 _) ?_
  unfold Builtin.«sorted»
  refine wpAny_bind (m := checkCount "sorted" 1 1 _) (wpAny_pure ?_)
  refine wpAny_bind (collect_set (A := A.in1) (es := es) (ep := ep) (t := t) hh ⟨_, ho, rfl, rfl⟩ F0.fit (by unfold scanBound; omega) hr hl fun s1 vs k1 hz g1 o1 pm => ?_)
  have hvl : vs.length = l.length := by rw [pm.length_eq, List.length_map, Array.length_toList]; exact hsz
  obtain ⟨ys, hS, hyl, hin⟩ := texts_of vs fun v hv => by
    obtain ⟨e, he, q⟩ := List.mem_map.mp (pm.mem_iff.mp hv)
    obtain ⟨⟨k, hk, _⟩, _⟩ := F0.el e he
    obtain ⟨t, ev⟩ := Value.isStrOf_shape (x := k) (v := e.2) hk
    exact ⟨k, t, by rw [← q]; exact ev⟩
  have pl : ys.Perm l := perm_full l ys nd (fun z hz => by
    obtain ⟨e, he, q⟩ := (F0.mem z).mp hz
    obtain ⟨t, ev⟩ := Value.isStrOf_shape (x := z) (v := e.2) q
    refine hin z t (pm.mem_iff.mpr (List.mem_map.mpr ⟨e, he, ev⟩))) (by omega)
  refine wpAny_bind (wpAny_newList ?_ (by rw [hvl, sizeLine_eq]; omega))
  have hoL : (s1.heap.push (seqObj "list" vs.toArray 0)).get? s1.heap.objs.size = some (seqObj "list" vs.toArray 0) := Heap.get?_push_size _ rfl
  refine wpAny_bind (wpAny_holding (wpAny_call_entry slot_list_sort ⟨_, hoL, rfl⟩ entry_list_sort (list_sort_treeK strKind_oneLt hoL hS.keysOf (fun v₁ v₂ rest e => keyKind_strs (by rw [← e]; exact hS)) (by rw [hvl]; exact h64) fun st' hp hs => ⟨_, rfl, ?_⟩) (args_list_sort _)))
  obtain ⟨ss', b1, b2, b3⟩ := sorted_out_str hS hp hs
  obtain ⟨c, hc⟩ := sortedHeap_at (vs := vs) (out := (arrOf st').map (·.2)) hoL
  refine wpAny_pure ⟨_, rfl, hQ _ s1.heap.objs.size ((arrOf st').map (·.2)) c ss' (fun b u e => ?_) g1 o1 hz hc b1 (b2.trans pl) b3⟩
  have q := k1 b u e
  have hlt := Heap.lt_size q
  show (sortedHeap (s1.heap.push (seqObj "list" vs.toArray 0)) s1.heap.objs.size vs ((arrOf st').map (·.2))).get? b = some u
  rw [sortedHeap_old (Nat.ne_of_lt hlt) (by rw [size_push']; exact Nat.lt_succ_of_lt hlt)]
  exact Heap.get?_push_of_some _ q
end
def TSetO (P : Program) (w : World) (a : Addr) (l : List Str) : HO := .ext fun h => TSet P w h a l
theorem tsetO_new {P : Program} {w : World} {H : Hp} {h : Heap} {a : Addr} {l : List Str} (T : TSet P w h a l) : ObjOk P w H h a (TSetO P w a l) := by
  obtain ⟨D, e, r⟩ := T.ex
  exact ⟨T, ⟨_, e⟩, fun h1 h2 p k => TSet.at p k⟩
section
variable {X : Cx}
theorem cr_setTexts (hc : X.calm = true) : CallR X (.type "set") (fun xs H Q => ∃ (l : Addr) (zs : List Str), xs = [V.ref l] ∧ SqL X.K H l (zs.map V.str) ∧ zs.length < 64 ∧
    ∀ a ys, H a = none → ys.Nodup → (∀ z, z ∈ ys ↔ z ∈ zs) → Q (.ref a) (upd H a (TSetO X.prog X.w a ys))) := by
  intro pins s σ H xs us Q I r h
  obtain ⟨l, zs, rfl, hl, hf, q⟩ := h
  rw [Vals.ref1 r]
  obtain ⟨its, rv, pl, hz⟩ := I.list hl
  refine call_set_texts (P := X.prog) (w := X.w) (xs := zs) (I.ok.hd hc) pl.isList (by simpa using rv.strs) (by unfold scanBound; omega) fun h' tk ys T hm k => ?_
  exact ⟨.ref s.heap.objs.size, upd H s.heap.objs.size (TSetO X.prog X.w s.heap.objs.size ys), I.laid (t' := tk) k (Nat.le_refl _) (tsetO_new T), rfl, q _ ys (I.hok.fresh (Nat.le_refl _)) T.nd hm⟩
theorem cr_sortedTexts (hc : X.calm = true) : CallR X (.builtin "sorted") (fun xs H Q => ∃ (a : Addr) (l : List Str), xs = [V.ref a] ∧ H a = some (TSetO X.prog X.w a l) ∧ l.length < 64 ∧
    ∀ (ys : List Str) (p : Addr), ys.Perm l → sortedS ys = true → H p = none → Q (.ref p) (upd H p (.lst (ys.map V.str)))) := by
  intro pins s σ H vs us Q I r h
  obtain ⟨a, l, rfl, ha, hf, q⟩ := h
  have T : TSet X.prog X.w s.heap a l := (I.hok a _ ha).1
  rw [Vals.ref1 r]
  refine sorted_texts T (I.ok.hd hc) hf fun s' p out c ys k g o hp hg hS pm so => ?_
  have hlen : (ys.map V.str).length ≤ sizeLine := by rw [List.length_map, pm.length_eq, sizeLine_eq]; omega
  have hn : H p = none := I.hok.fresh hp
  have J : Inv X pins σ (upd H p (.lst (ys.map V.str))) { s with heap := s'.heap, gens := s'.gens, drawn := s'.drawn, toks := s'.toks } :=
    I.call (ch := []) (Un.laid k hp hn) (I.hok.laid k hp ⟨hlen, out.toList, c, vals_of_strs hS, hg⟩) (by rw [g]; exact I.bare) (fun _ z => nomatch z)
  have e : s' = { s with heap := s'.heap, gens := s'.gens, drawn := s'.drawn, toks := s'.toks } := by
    cases s'
    cases s
    cases o
    rfl
  rw [e]
  exact ⟨.ref p, _, J, rfl, q ys p pm so hn⟩
end
end My
/-! enumerate of a tuple; for over a list or a tuple -/
namespace MyE
open PySem
open Sem (wp)
open AutoSeq1 (wpAny_loadPart')
theorem enum_new (l : Addr) (items : Array Value) (n : Nat) (dct : Option Addr) (sl : Array (Option Value)) :
    Meets (Builtin.«enumerate.__new__» ⟨[.type "enumerate", .ref l], []⟩) (fun _ R s => s.heap.get? l = some { cls := .type "tuple", dict := dct, data := .seq items n, slots := sl } ∧
      R (.ok (.ret (.ref (s.heap.push { cls := .type "tuple_iterator", data := .fields #[.ref l, .int 0 0] }).objs.size)))
        { s with heap := (s.heap.push { cls := .type "tuple_iterator", data := .fields #[.ref l, .int 0 0] }).push { cls := .type "enumerate", data := .fields #[.none, .bool false, .ref s.heap.objs.size, rawInt 0, .none, .none] } }) :=
  .of_wp fun prog w A R s h => by
    obtain ⟨hh, gg, dd, tt, oo⟩ := s
    obtain ⟨at_, out⟩ := h
    have below := sub_enumerate
    have tup : Heap.IsTuple (Shared.heap ⟨hh, gg, dd, tt, oo⟩) l items := ⟨_, at_, rfl, n, rfl⟩
    wp_walk using wpAny_loadPart' at_
    refine wpAny_stack_any fun st => wpAny_pure ?_
    split
    · rename_i c _ _ _ _ _
      cases (c == Value.type "enumerate") <;> (wp_walk using wpAny_loadPart' at_, wpAny_pyIter_tuple tup; exact ⟨_, rfl, out⟩)
    · wp_walk using wpAny_loadPart' at_, wpAny_pyIter_tuple tup
      exact ⟨_, rfl, out⟩
section
variable {prog : Program} {w : World} {A : Around} {E : Value → Shared → Prop} {s : Shared}
theorem call_enum {l : Addr} {items : Array Value} {Q : Value → Shared → Prop} (tup : s.heap.IsTuple l items)
    (out : ∀ h', IsEnum h' (s.heap.objs.size + 1) s.heap.objs.size 0 .none → h'.IsTupleIter s.heap.objs.size l 0 → (∀ b o, s.heap.get? b = some o → h'.get? b = some o) → Q (.ref (s.heap.objs.size + 1)) { s with heap := h' }) :
    wpAny (model prog w) A (call (.type "enumerate") [.ref l]) Q E s := by
  obtain ⟨⟨c, dct, dt, sl⟩, at_, hc, n, hd⟩ := tup
  simp only at hc hd
  subst hc
  subst hd
  refine callType_new F.called_enumerate (by decide) (F.typeCall_enumerate_1 _) (F.newCall_enumerate_1 _) (fun obj => F.args_object_init_2 obj _) F.entry_enumerate_new (enum_new l items n dct sl) ⟨at_, ?_⟩
  have one : (s.heap.push { cls := .type "tuple_iterator", data := .fields #[.ref l, .int 0 0] }).objs.size = s.heap.objs.size + 1 := Heap.size_push ..
  show _ ∧ _
  rw [one]
  have en : IsEnum ((s.heap.push { cls := .type "tuple_iterator", data := .fields #[.ref l, .int 0 0] }).push { cls := .type "enumerate", data := .fields #[.none, .bool false, .ref s.heap.objs.size, rawInt 0, .none, .none] }) (s.heap.objs.size + 1) s.heap.objs.size 0 .none := by
    have z := Heap.get?_push_size (s.heap.push { cls := .type "tuple_iterator", data := .fields #[.ref l, .int 0 0] }) (o := { cls := .type "enumerate", data := .fields #[.none, .bool false, .ref s.heap.objs.size, rawInt 0, .none, .none] }) rfl
    rw [one] at z
    exact z
  exact ⟨⟨_, en, rfl⟩, out _ en ⟨_, Heap.get?_push_of_some _ (Heap.get?_push_size _ rfl), rfl, rfl⟩ fun b o x => Heap.get?_push_of_some _ (Heap.get?_push_of_some _ x)⟩
end
end MyE
namespace My
open PySem PySem.Spec PyProof.Rows L2
def IteT (K : PySem.W.Frag) (a : Addr) : It :=
  ⟨fun i H => ∃ (xs : List V) (x : V), SqT K H a xs ∧ xs[i]? = some x, fun i H v H' => ∃ T x, v = .ref T ∧ H T = none ∧ H' = upd H T (.tup [.int (i : Nat), x]) ∧ ∀ xs, SqT K H a xs → xs[i]? = some x, fun i H => ∃ xs : List V, SqT K H a xs ∧ xs.length ≤ i⟩
theorem tup_ne {h : Heap} {it a : Addr} {i : Nat} {items : Array Value} (x : h.IsTupleIter it a i) (y : h.IsTuple a items) : a ≠ it := fun e => by
  obtain ⟨o, ho, hc, _⟩ := x
  obtain ⟨o2, ho2, hc2, _⟩ := y
  rw [e, ho] at ho2
  cases ho2
  rw [hc] at hc2
  revert hc2
  decide
theorem turn_enumT {P : Program} {w : World} {K : PySem.W.Frag} {elts : List Expr} {kk : Nat} {tpos : Pos} (a e it : Addr) :
    Turn P w K (.Tuple elts kk tpos) (IteT K a) [e, it] e (fun i h => (∃ old, IsEnum h e it ((i : Nat) : Int) old) ∧ h.IsTupleIter it a i ∧ e ≠ it) where
  mem := by simp
  obj := fun i h st b hb => by
    obtain ⟨⟨old, en⟩, ⟨o, ho, hc, hd⟩, _⟩ := st
    have which : b = e ∨ b = it := by simpa using hb
    rcases which with z | z <;> rw [z]
    · exact ⟨_, en, fun v q => nomatch q⟩
    · exact ⟨o, ho, fun v q => by rw [hd] at q; cases q⟩
  keep := fun i h h' st k => let ⟨⟨old, en⟩, ti, ne⟩ := st; ⟨⟨old, k e (by simp) _ en⟩, ti.at fun o q => k it (by simp) o q, ne⟩
  item := by
    intro X hP hw hK hc i pins s σ H E I hf st hg
    subst hP hw hK
    obtain ⟨⟨old, en⟩, ti, ne⟩ := st
    obtain ⟨xs, x, hq, hx⟩ := hg
    obtain ⟨its, rv, tp, _⟩ := I.tuple hq
    obtain ⟨u, hu, ru⟩ := rv.get hx
    have tp2 : s.heap.IsTuple a its.toArray := tp
    have le : e < s.heap.objs.size := Heap.lt_size en
    have li : it < s.heap.objs.size := let ⟨_, q, _⟩ := ti; Heap.lt_size q
    have ane := tup_ne ti tp2
    have ae : e ≠ a := fun z => by
      obtain ⟨o2, ho2, hc2, _⟩ := tp2
      have en2 : s.heap.get? e = some _ := en
      rw [z, ho2] at en2
      cases en2
      exact absurd (show Value.type "enumerate" = Value.type "tuple" from hc2) (by decide)
    have lu : i < its.toArray.size := by
      rw [List.size_toArray]
      exact (List.getElem?_eq_some_iff.mp hu).1
    refine wpAny_pyNext_enum_itemD (Draws.tuple (A := X.A.in1) (by exact I.ok.hd hc) it a ane its.toArray) en ⟨ti, tp2⟩ lu ne (by simp only [List.mem_cons, List.not_mem_nil, or_false, not_or]; exact ⟨ne, ae⟩) fun y h' tk hy ho st' hT hsz hk => ?_
    have ey : y = u := by
      have : its.toArray[i]? = some u := by simpa using hu
      rw [this] at hy
      cases hy
      rfl
    subst ey
    refine ⟨_, rfl, wpAny_letOwnedTupleGo_enum (s := { s with heap := h', toks := tk + 1 }) ho fun h'' he' sb => ?_⟩
    have hT2 : h''.get? s.heap.objs.size = some { cls := .type "tuple", data := .seq #[.int i tk, y] } := (sb.2 _ (Nat.ne_of_gt le)).trans hT
    have new : ObjOk X.prog X.w (upd H s.heap.objs.size (.tup [.int (i : Nat), x])) h'' s.heap.objs.size (.tup [.int (i : Nat), x]) :=
      ⟨by show 2 ≤ sizeLine; decide, [.int i tk, y], .cons ⟨_, rfl⟩ (.cons ru .nil), ⟨_, hT2, rfl, _, rfl⟩⟩
    have I1 : Inv X pins σ (upd H s.heap.objs.size (.tup [.int (i : Nat), x])) { s with heap := h'', toks := tk + 1 } :=
      I.turnedNew (ch := [e, it]) (fun b ob hb q => (sb.2 b (fun z => hb (by simp [z]))).trans (hk b ob (fun z => hb (by simp [z])) (fun z => hb (by simp [z])) q)) hf (Nat.le_refl _) new
    have up : ((i + 1 : Nat) : Int) = (i : Int) + 1 := by omega
    refine ⟨.ref s.heap.objs.size, _, I1, rfl, ⟨_, x, rfl, I.hok.fresh (Nat.le_refl _), rfl, fun ys hy => by rw [I.tuple_inj hy hq]; exact hx⟩, ⟨⟨y, by rw [up]; exact he'⟩, st'.1.at fun o q => (sb.2 it (Ne.symm ne)).trans q, ne⟩, fun b hb => ?_⟩
    have which : b = e ∨ b = it := by simpa using hb
    have lb : b < s.heap.objs.size := which.elim (fun z => z ▸ le) fun z => z ▸ li
    rw [upd_ne (Nat.ne_of_lt lb)]
    exact (hf b hb).1
  done := by
    intro X hP hw hK hc i pins s σ H E I hf st hg
    subst hP hw hK
    obtain ⟨⟨old, en⟩, ti, ne⟩ := st
    obtain ⟨xs, hq, hx⟩ := hg
    obtain ⟨its, rv, tp, _⟩ := I.tuple hq
    have tp2 : s.heap.IsTuple a its.toArray := tp
    obtain ⟨f0, f1, f2, f3, f4, f5⟩ := hf it (by simp)
    have hl := rv.length
    have none_ : its.toArray[i]? = none := by
      simp only [List.getElem?_toArray]
      exact List.getElem?_eq_none (by omega)
    have D : Draws X.prog X.w X.A.in1 it [it, a] i (fun _ _ => True) (fun j h => j = i ∧ h.IsTupleIter it a i ∧ h.IsTuple a its.toArray) :=
      { live := fun _ _ st => let ⟨o, ho, _⟩ := st.2.1; ⟨o, ho⟩
        frame := fun _ _ _ st k => ⟨st.1, st.2.1.at fun o q => k it (by simp) o q, st.2.2.at fun o q => k a (by simp) o q⟩
        item := fun j s Q E lt st _ => absurd lt (by rw [st.1]; exact Nat.lt_irrefl _)
        done := fun s Q E st out => wpAny_nextOf_tuple_end (by exact I.ok.hd hc) st.2.1 st.2.2 none_ out }
    exact wpAny_pyNext_enum_endD (i := ((i : Nat) : Int)) D en ⟨rfl, ti, tp2⟩ fun h' eb => ⟨rfl, I.turned (t' := s.toks) (fun b o hb q => eb b o hb q) f0 f1 f3 f4 f5⟩
  self := fun A i s Q E st h => let ⟨⟨_, en⟩, _⟩ := st; wpAny_pyIter_enum en h
def iEnumT (K : PySem.W.Frag) (ta : TA) : TI := fun σ H R => ta σ H fun vs H1 => ∃ a xs, vs = [.ref a] ∧ SqT K H1 a xs ∧ R (IteT K a) H1
theorem pi_enumT {X : Cx} {e : Expr} {ta : TA} {p pos tpos : Pos} {elts : List Expr} {kk : Nat} (hg : Gl X "enumerate") (hm : X.mg "enumerate" = none) (ha : PA X [e] ta) (hs : starEach [e] X.env = [(false, eval e X.env)] := by rfl) :
    PI X (.Tuple elts kk tpos) (.Call (.Name "enumerate" p) [e] [] pos) (iEnumT X.K ta) := by
  refine ⟨fun pins s σ H R I h => Call_ (ld_blt I hg hm boot_enumerate (PyProof.Rows.callWith_type1 (thn (ha.run pos pins s σ H _ I h) fun us s1 z => ?_) hs rfl))⟩
  obtain ⟨vs, H1, I1, r1, a, xs, rfl, hq, q⟩ := z
  obtain ⟨u, rfl, r⟩ := vals1 r1
  obtain rfl : u = Value.ref a := r
  obtain ⟨its, rv, tp, _⟩ := I1.tuple hq
  refine MyE.call_enum (show s1.heap.IsTuple a its.toArray from tp) fun h' en ti hk => wpAny_pyIter_enum en ?_
  have I2 : Inv X pins σ H1 { s1 with heap := h' } := I1.kept (t' := s1.toks) hk
  refine ⟨s1.heap.objs.size + 1, [s1.heap.objs.size + 1, s1.heap.objs.size], _, _, H1, rfl, I2, turn_enumT a (s1.heap.objs.size + 1) s1.heap.objs.size, ⟨⟨.none, en⟩, ti, Nat.succ_ne_self _⟩, fun b hb => ?_, q⟩
  have big : s1.heap.objs.size ≤ b := by
    have which : b = s1.heap.objs.size + 1 ∨ b = s1.heap.objs.size := by simpa using hb
    exact which.elim (fun z => z ▸ Nat.le_succ _) fun z => z ▸ Nat.le_refl _
  exact I1.fpOk big (I1.hok.fresh big)
/-- for over a list or a tuple -/
def iSeq (K : PySem.W.Frag) (tl : TE) : TI := fun σ H R => tl σ H fun x H1 => ∃ a, x = .ref a ∧ (((∃ xs, SqL K H1 a xs) ∧ R (Itl K a) H1) ∨ ((∃ xs, SqT K H1 a xs) ∧ R (Itt K a) H1))
theorem pi_seq {X : Cx} {tg l : Expr} {tl : TE} (hl : PE X l tl) : PI X tg l (iSeq X.K tl) := by
  refine ⟨fun pins s σ H R I h => thn (hl.run pins s σ H _ I h) fun v s1 z => ?_⟩
  obtain ⟨x, H1, I1, r1, a, rfl, q⟩ := z
  obtain rfl : v = Value.ref a := r1
  have mine : ∀ b ∈ [s1.heap.objs.size], FpOk X pins H1 b := fun b hb => by
    rw [List.mem_singleton.mp hb]
    exact I1.fpOk (Nat.le_refl _) (I1.hok.fresh (Nat.le_refl _))
  rcases q with ⟨⟨xs, hq⟩, q⟩ | ⟨⟨xs, hq⟩, q⟩
  · obtain ⟨its, rv, p, _⟩ := I1.list hq
    exact wpAny_pyIter_list p.isList ⟨s1.heap.objs.size, _, _, _, H1, rfl, I1.kept (t' := s1.toks) fun b o e => Heap.get?_push_of_some _ e, turn_list a _, ⟨_, Heap.get?_push_size _ rfl, rfl, rfl⟩, mine, q⟩
  · obtain ⟨its, rv, p, _⟩ := I1.tuple hq
    exact wpAny_pyIter_tuple (show s1.heap.IsTuple a its.toArray from p) ⟨s1.heap.objs.size, _, _, _, H1, rfl, I1.kept (t' := s1.toks) fun b o e => Heap.get?_push_of_some _ e, turn_tuple a _, ⟨_, Heap.get?_push_size _ rfl, rfl, rfl⟩, mine, q⟩
end My
namespace My
open PySem PySem.Spec PyProof.Rows L2
theorem walk_enumT {K : PySem.W.Frag} {a : Addr} {xs : List V} : Walk (IteT K a) xs.length (fun H => SqT K H a xs) (YPair (fun i => some (.int (i : Nat))) (fun i => xs[i]?)) := by
  refine ⟨fun i _ hi q => ⟨xs, xs[i], q, by simp [hi]⟩, fun _ q => ⟨xs, q, Nat.le_refl _⟩, fun i H v H' _ q y => ?_⟩
  obtain ⟨t, x, h1, h2, h3, h4⟩ := y
  exact ⟨t, .int (i : Nat), x, h1, h2, h3, rfl, h4 xs q⟩
end My
namespace My
open PySem PySem.Spec PyProof.Rows L2
/-- ys: the texts of xs, ascending, each once -/
structure Asc (xs ys : List Str) : Prop where
  nd : ys.Nodup
  so : sortedS ys = true
  mem : ∀ z, z ∈ ys ↔ z ∈ xs
def Sq (K : PySem.W.Frag) (H : Hp) (l : Addr) (xs : List V) : Prop := SqL K H l xs ∨ SqT K H l xs
theorem Sq.keep {K : PySem.W.Frag} {H H' : Hp} {l : Addr} {xs : List V} (h : Sq K H l xs) (s : Same' H H') : Sq K H' l xs := h.imp (fun q => q.ext s) fun q => q.ext s
def spAsc (K : PySem.W.Frag) : Sp := fun vs H Q _ => ∃ (l : Addr) (xs : List Str), vs = [.ref l] ∧ Sq K H l (xs.map V.str) ∧ xs.length < 64 ∧ ∀ (p : Addr) (ys : List Str) (H' : Hp), Asc xs ys → Same' H H' → H' p = some (.tup (ys.map V.str)) → Q (.ref p) H'
section
variable {P : Program} {w : World} {K : PySem.W.Frag} {mg : Str → Option Value} {base : Heap}
abbrev nAsc : List Str := ["names", "name"]
theorem scAsc : FnScope nAsc ["names"] (defScope sAsc) := ⟨rfl, rfl, rfl, by decide +kernel, rfl, by decide +kernel, by decide +kernel⟩
theorem ok_asc {f : Addr} {fd : FuncData} (F : Fun K "ascending" "ascending" sAsc f fd) (T : Txt mg) : FnOk P w K mg base CX0 1 f fd ["names"] (spAsc K) := by
  refine F.ok scAsc (fun vs H Q E h => ?_) (fun cdv A outer s H vs Q E hr h => ?_)
  · obtain ⟨l, xs, rfl, _⟩ := h
    rfl
  · obtain ⟨l, xs, rfl, hl, few, q⟩ := h
    refine ⟨_, pss_one (ps_ret (pe_callTy call_tuple_of (by rfl) T.tuple (by decide +kernel) (pa_cons (pe_callB (cr_sortedTexts rfl) (by rfl) T.sorted (by decide +kernel) (pa_cons (pe_callTy (cr_setTexts rfl) (by rfl) T.set (by decide +kernel) (pa_cons
      (pe_lc (own := [("name", 1)]) (g := gName 1) (tt := tYes) rfl scAsc.nd (pi_seq (pv 0)) (blkOk_by (N := nAsc) (sc := defScope sAsc) (by decide +kernel)) (fun _ _ _ _ _ => pg_name (i := 1) scAsc.nd rfl (Or.inl rfl)) (fun _ _ _ _ _ => pts_nil)
        (fun _ _ _ _ _ => pe_callTy SkE.call_str_str (by rfl) T.str (by decide +kernel) (pa_cons (pv 1) pa_nil))) pa_nil)) pa_nil)) pa_nil))), ?_⟩
    have lz : (xs.map V.str).length = xs.length := List.length_map ..
    have fin : ∀ (H1 : Hp) (D : Addr), Same' H H1 → H1 D = some (.lst (xs.map V.str)) → ∃ (l : Addr) (zs : List Str), [V.ref D] = [V.ref l] ∧ SqL K H1 l (zs.map V.str) ∧ zs.length < 64 ∧
        ∀ a ys, H1 a = none → ys.Nodup → (∀ z, z ∈ ys ↔ z ∈ zs) → ∃ (a2 : Addr) (l2 : List Str), [V.ref a] = [V.ref a2] ∧ (upd H1 a (TSetO P w a ys)) a2 = some (TSetO P w a2 l2) ∧ l2.length < 64 ∧
          ∀ (ys2 : List Str) (p : Addr), ys2.Perm l2 → sortedS ys2 = true → (upd H1 a (TSetO P w a ys)) p = none → ∃ p2 zs2, [V.ref p] = [V.ref p2] ∧
            ((SqL K (upd (upd H1 a (TSetO P w a ys)) p (.lst (ys2.map V.str))) p2 zs2 ∧ ∀ l, (upd (upd H1 a (TSetO P w a ys)) p (.lst (ys2.map V.str))) l = none → Q (.ref l) (upd (upd (upd H1 a (TSetO P w a ys)) p (.lst (ys2.map V.str))) l (.tup zs2))) ∨
              (SqT K (upd (upd H1 a (TSetO P w a ys)) p (.lst (ys2.map V.str))) p2 zs2 ∧ Q (.ref p2) (upd (upd H1 a (TSetO P w a ys)) p (.lst (ys2.map V.str))))) := by
      intro H1 D sm eD
      refine ⟨D, xs, rfl, SqL.of eD, few, fun a ys ha nd mem => ⟨a, ys, rfl, upd_same, ?_, fun ys2 p pm so hp => ⟨p, _, rfl, .inl ⟨SqL.of upd_same, fun l hl => ?_⟩⟩⟩⟩
      · exact Nat.lt_of_le_of_lt (nodup_len ys xs nd fun z hz => (mem z).mp hz) few
      · refine q l ys2 _ ⟨pm.nodup_iff.mpr nd, so, fun z => pm.mem_iff.trans (mem z)⟩ ?_ upd_same
        exact sm.trans ((same_new ha).trans ((same_new hp).trans (same_new hl)))
    refine ⟨.ref l, rfl, l, rfl, ?_⟩
    have lap : ∀ (D : Addr), H D = none → ∀ (i : Nat) (x : V) (H' H2 : Hp), (Same' H H' ∧ H' D = some (.lst ((xs.take i).map V.str))) → YAt (xs.map V.str) i H' x H2 → i < (xs.map V.str).length →
        ∃ z, x = .str z ∧ H2 = H' ∧ (xs.take (i + 1)).map V.str = (xs.take i).map V.str ++ [.str z] ∧ ((xs.take i).map V.str).length < sizeLine := by
      rintro D hD i x H' H2 ⟨sm, ed⟩ ⟨rfl, hx⟩ hi
      rw [List.getElem?_map] at hx
      cases ez : xs[i]? with
      | none => rw [ez] at hx; cases hx
      | some z =>
        rw [ez] at hx
        refine ⟨z, (Option.some.inj hx).symm, rfl, ?_, ?_⟩
        · rw [List.take_add_one, ez, List.map_append]
          rfl
        · rw [List.length_map, List.length_take, sizeLine_eq]
          omega
    rcases hl with hl | hl
    · refine .inl ⟨⟨_, hl⟩, fun D hD => ?_⟩
      refine lc_it walk_list (fun i H' => Same' H H' ∧ H' D = some (.lst ((xs.take i).map V.str))) ⟨same_new hD, upd_same⟩ (fun i H' _ p => hl.ext p.1) (fun i x H' H2 hi hp hy => ?_) (fun H' hp => ?_)
      · obtain ⟨z, rfl, rfl, e1, e2⟩ := lap D hD i x H' H2 hp hy hi
        refine ⟨rfl, ⟨.str z, rfl, z, rfl, _, hp.2, e2, same_over hD hp.1, ?_⟩⟩
        rw [upd_same, e1]
      · refine fin H' D hp.1 ?_
        rw [hp.2, List.take_of_length_le (by rw [lz]; exact Nat.le_refl _)]
    · refine .inr ⟨⟨_, hl⟩, fun D hD => ?_⟩
      refine lc_it walk_tup (fun i H' => Same' H H' ∧ H' D = some (.lst ((xs.take i).map V.str))) ⟨same_new hD, upd_same⟩ (fun i H' _ p => hl.ext p.1) (fun i x H' H2 hi hp hy => ?_) (fun H' hp => ?_)
      · obtain ⟨z, rfl, rfl, e1, e2⟩ := lap D hD i x H' H2 hp hy hi
        refine ⟨rfl, ⟨.str z, rfl, z, rfl, _, hp.2, e2, same_over hD hp.1, ?_⟩⟩
        rw [upd_same, e1]
      · refine fin H' D hp.1 ?_
        rw [hp.2, List.take_of_length_le (by rw [lz]; exact Nat.le_refl _)]
end
/-! ### Stop, and what stands in programs of it alone -/
abbrev sBlocks : Stmt := inClass (topS 46) 1
abbrev sStopI : Stmt := inClass (topS 54) 1
def StopAt (CS : Addr) (H : Hp) (a : Addr) : Prop := ∃ dx t, H a = some (.ins CS dx [("fields", .ref t)]) ∧ H t = some (.tup [])
theorem StopAt.keep {CS : Addr} {H H' : Hp} {a : Addr} (h : StopAt CS H a) (s : Same' H H') : StopAt CS H' a := let ⟨dx, t, e1, e2⟩ := h; ⟨dx, t, s _ _ e1, s _ _ e2⟩
def spBlocks : Sp := fun vs H Q _ => ∃ x : V, vs = [x] ∧ ∀ t, H t = none → Q (.ref t) (upd H t (.tup []))
def spStopI (CS : Addr) : Sp := fun vs H Q _ => ∃ (a dx : Addr), vs = [.ref a] ∧ H a = some (.ins CS dx []) ∧ ∀ H', Keep1 a H H' → StopAt CS H' a → Q .non H'
/-- what is asked of the class Stop and of SHAPES -/
structure StK (K : PySem.W.Frag) (w : World) (mg : Str → Option Value) (CS CD CC aS aT : Addr) : Prop where
  c : Cls K CS
  nf : NoAttr K CS "fields"
  dc : PySem.W.findIn K (.ref CS) "__class__" = some (some (.builtin "object.__class__"))
  mo : PySem.W.mroIn K CS (.type "object") = some true
  hn : PySem.W.specialIn K (.builtin "object.__class__") "__get__" = some (some (.builtin "getset_descriptor.__get__"))
  tk : PySem.W.takesIn K (.builtin "object.__class__") = some true
  wd : ∃ u, Con K CS "WORD" (.str "stop") u
  gD : mg "Deed" = some (.ref CD)
  kD : PySem.W.kitOne K (.ref CS) (.ref CD) = some true
  gC : mg "Choose" = some (.ref CC)
  kC : PySem.W.kitOne K (.ref CS) (.ref CC) = some false
  gS : mg "SHAPES" = some (.ref aS)
  sh : KDct K w aS "stop" (.ref aT)
  sT : ∀ H, SqT K H aT []
def spFo (CS : Addr) : Sp := fun vs H Q _ => ∃ a : Addr, vs = [.ref a] ∧ StopAt CS H a ∧ ∀ (l : Addr) (H' : Hp), Same' H H' → H' l = some (.lst []) → Q (.ref l) H'
section
variable {P : Program} {w : World} {K : PySem.W.Frag} {mg : Str → Option Value} {base : Heap}
def tNoT : TT := fun _ _ _ => False
def tNoE : TE := fun _ _ _ => False
def gNo : TG := fun _ _ _ _ => False
theorem pts_never {X : Cx} {es : List Expr} : PTs X es tNoT := ⟨fun _ _ _ _ _ _ h => h.elim⟩
theorem pe_nev {X : Cx} {e : Expr} : PE X e tNoE := ⟨fun _ _ _ _ _ _ h => h.elim⟩
theorem pg_nev {X : Cx} {e : Expr} : PG X e gNo := ⟨fun _ _ _ _ _ _ _ _ _ h => h.elim⟩
theorem scBl : FnScope ["self"] ["self"] (defScope sBlocks) := ⟨rfl, rfl, rfl, by decide +kernel, rfl, by decide +kernel, by decide +kernel⟩
theorem ok_blocks {f : Addr} {fd : FuncData} (F : Fun K "blocks" "Deed.blocks" sBlocks f fd) : FnOk P w K mg base CX0 1 f fd ["self"] spBlocks := by
  refine F.ok scBl (fun vs H Q E h => ?_) (fun cdv A outer s H vs Q E hr h => ?_)
  · obtain ⟨x, rfl, _⟩ := h
    rfl
  · obtain ⟨x, rfl, q⟩ := h
    exact ⟨_, pss_one (ps_ret (pe_tup pa_nil)), by show 0 ≤ sizeLine; decide, fun t ht => q t ht⟩
theorem scStI : FnScope ["self"] ["self"] (defScope sStopI) := ⟨rfl, rfl, rfl, by decide +kernel, rfl, by decide +kernel, by decide +kernel⟩
theorem ok_stopI {f CS CD CC aS aT : Addr} {fd : FuncData} (F : Fun K "__init__" "Stop.__init__" sStopI f fd) (S : StK K w mg CS CD CC aS aT) : FnOk P w K mg base CX0 1 f fd ["self"] (spStopI CS) := by
  refine F.ok scStI (fun vs H Q E h => ?_) (fun cdv A outer s H vs Q E hr h => ?_)
  · obtain ⟨a, dx, rfl, _⟩ := h
    rfl
  · obtain ⟨a, dx, rfl, ha, q⟩ := h
    refine ⟨_, pss_one (ps_fld (pv 0) (pe_tup pa_nil) (by rfl)), ?_⟩
    refine ⟨by show 0 ≤ sizeLine; decide, fun t ht => ?_⟩
    have na : a ≠ t := ne_of_none ha ht
    have ea : (upd H t (.tup [])) a = some (.ins CS dx []) := by rw [upd_ne na]; exact ha
    refine ⟨.ref a, rfl, a, CS, dx, [], rfl, ea, S.c, S.nf, by decide, ?_⟩
    refine q _ (fun b o n e => ?_) ⟨dx, t, upd_same, ?_⟩
    · rw [upd_ne n, upd_ne (ne_of_none e ht)]
      exact e
    · rw [upd_ne na.symm]
      exact upd_same
abbrev nFo : List Str := ["deed", "kinds", "shape"]
theorem scFo : FnScope nFo ["deed"] (defScope sFieldsOf) := ⟨rfl, rfl, rfl, by decide +kernel, rfl, by decide +kernel, by decide +kernel⟩
theorem ok_fieldsOf {f CS CD CC aS aT : Addr} {fd : FuncData} (F : Fun K "fields_of" "fields_of" sFieldsOf f fd) (T : Txt mg) (S : StK K w mg CS CD CC aS aT) : FnOk P w K mg base CX0 1 f fd ["deed"] (spFo CS) := by
  refine F.ok scFo (fun vs H Q E h => ?_) (fun cdv A outer s H vs Q E hr h => ?_)
  · obtain ⟨a, rfl, _⟩ := h
    rfl
  · obtain ⟨a, rfl, st, q⟩ := h
    refine ⟨_, pss_cons (ps_setLc (i := 1) (own := [("shape", 2)]) (g := gName 2) rfl scFo.nd rfl rfl (sw_true rfl rfl rfl (by decide +kernel)) (pi_tup (pe_ix ix_kdict (pe_glob (v := .ref aS) rfl S.gS rfl) (pe_con (pv 0) (by rfl)) (fun _ _ => rfl))) (blkOk_by (N := nFo) (sc := defScope sFieldsOf) (by decide +kernel))
        (fun _ _ _ _ _ => pg_name (i := 2) scFo.nd rfl (Or.inl rfl)) (fun _ _ _ _ _ => pts_never) (fun _ _ _ _ _ => pe_nev))
      (pss_one (ps_ret (pe_listZip0 rfl (by rfl) T.list (by rfl) T.zip (pa_cons (pv 1) (pa_cons (pe_fld (pv 0) (by rfl)) pa_nil))))), ?_⟩
    obtain ⟨dx, t, ea, et⟩ := id st
    obtain ⟨u, cw⟩ := S.wd
    refine ⟨.ref a, rfl, a, CS, dx, _, .str "stop", u, rfl, ea, S.c, cw, rfl, aS, "stop", .ref aT, rfl, rfl, S.sh, aT, rfl, ⟨_, S.sT _⟩, fun D hD => ?_⟩
    refine lc_it (walk_tup (K := K) (a := aT) (xs := [])) (fun i H' => Same' H H' ∧ H' D = some (.lst [])) ⟨same_new hD, upd_same⟩ (fun i H' _ hp => S.sT _) (fun i x H' H2 hi hp hy => absurd hi (Nat.not_lt_zero _)) (fun H' hp => ?_)
    obtain ⟨sm, ed⟩ := hp
    refine ⟨.ref D, rfl, .ref a, rfl, a, CS, dx, _, .ref t, rfl, sm _ _ ea, S.c, S.nf, rfl, D, t, [], rfl, SqL.of ed, SqT.of (sm _ _ et), fun l hl => ?_⟩
    exact q l _ (sm.trans (same_new hl)) upd_same
end
end My
namespace My
open PySem PySem.Spec PyProof.Rows L2
structure FnB (P : Program) (w : World) (K : PySem.W.Frag) (mg : Str → Option Value) (base : Heap) (k : Nat) (x : Str) (st : Stmt) (f : Addr) (fd : FuncData) (ps : List Str) (sp : Sp) : Prop where
  F : Fun K x x st f fd
  b : Binds K fd ps []
  g : mg x = some (.ref f)
  G : FnOk P w K mg base CX0 k f fd ps sp
structure MethB (P : Program) (w : World) (K : PySem.W.Frag) (mg : Str → Option Value) (base : Heap) (k : Nat) (C : Addr) (m : Str) (f : Addr) (fd : FuncData) (ps : List Str) (sp : Sp) : Prop where
  m : Meth K C m f
  b : Binds K fd ps []
  G : FnOk P w K mg base CX0 k f fd ps sp
/-! ### two walks in one comprehension -/
section
variable {J : It} {n : Nat} {G : Hp → Prop} {Y : Nat → Hp → V → Hp → Prop} {wi1 : TI} {g g1 : TG} {tt tt1 : TT} {te : TE} {vs vs1 : List Nat} {σ : L2.St} {H1 : Hp} {D : Addr} {Qd : Hp → Prop}
def InW (J1 : It) (g1 : TG) (tt1 : TT) (te : TE) (vs1 : List Nat) (D : Addr) (Nx : Hp → Prop) (σ2 : L2.St) (H4 : Hp) : Prop := ∃ W1 : Nat → Nat → Hp → Prop, (∃ m, W1 0 m H4) ∧ ∀ j k H, W1 j k H →
  (J1.stop j H ∧ Nx H) ∨ (J1.go j H ∧ ∃ Nx1 : Hp → Prop, (∀ H', Nx1 H' → ∃ k', k' < k ∧ W1 (j + 1) k' H') ∧ ∀ x H', J1.yld j H x H' → g1 x (wipe σ2 vs1) H' fun σ3 H5 => wipe σ3 vs1 = wipe σ2 vs1 ∧ tt1 σ3 H5 fun b H6 =>
    if b = true then te σ3 H6 fun y H7 => ∃ acc, H7 D = some (.lst acc) ∧ acc.length < sizeLine ∧ Nx1 (upd H7 D (.lst (acc ++ [y]))) else Nx1 H6)
theorem lc2_in {J1 : It} {n1 : Nat} {G1 : Hp → Prop} {Y1 : Nat → Hp → V → Hp → Prop} {Nx : Hp → Prop} {σ2 : L2.St} {H4 : Hp} (w : Walk J1 n1 G1 Y1) (Pw : Nat → Hp → Prop) (h0 : Pw 0 H4) (hG : ∀ j H, j ≤ n1 → Pw j H → G1 H)
    (hs : ∀ j x H H', j < n1 → Pw j H → Y1 j H x H' → g1 x (wipe σ2 vs1) H' fun σ3 H5 => wipe σ3 vs1 = wipe σ2 vs1 ∧ tt1 σ3 H5 fun b H6 =>
      if b = true then te σ3 H6 fun y H7 => ∃ acc, H7 D = some (.lst acc) ∧ acc.length < sizeLine ∧ Pw (j + 1) (upd H7 D (.lst (acc ++ [y]))) else Pw (j + 1) H6) (hd : ∀ H, Pw n1 H → Nx H) : InW J1 g1 tt1 te vs1 D Nx σ2 H4 := by
  refine ⟨fun j k H => k = n1 - j ∧ j ≤ n1 ∧ Pw j H, ⟨n1, by simp, Nat.zero_le _, h0⟩, ?_⟩
  rintro j k H ⟨rfl, hj, p⟩
  have q := hG j H hj p
  rcases Nat.lt_or_ge j n1 with lt | ge
  · exact .inr ⟨w.goes j H lt q, Pw (j + 1), fun H' p' => ⟨n1 - (j + 1), by omega, rfl, lt, p'⟩, fun x H' y => hs j x H H' lt p (w.yields j H x H' lt q y)⟩
  · obtain rfl : j = n1 := by omega
    exact .inl ⟨w.stops H q, hd H p⟩
theorem lc2_out (w : Walk J n G Y) (Pv : Nat → Hp → Prop) (h0 : Pv 0 (upd H1 D (.lst []))) (hG : ∀ i H, i ≤ n → Pv i H → G H)
    (hs : ∀ i x H H', i < n → Pv i H → Y i H x H' → g x (wipe σ vs) H' fun σ2 H2 => wipe σ2 vs = wipe σ vs ∧ tt σ2 H2 fun b H3 => if b = true then wi1 σ2 H3 fun J1 H4 => InW J1 g1 tt1 te vs1 D (Pv (i + 1)) σ2 H4 else Pv (i + 1) H3) (hd : ∀ H, Pv n H → Qd H) :
    ∃ W : Nat → Nat → Hp → Prop, (∃ m, W 0 m (upd H1 D (.lst []))) ∧ ∀ i m H, W i m H → (J.stop i H ∧ Qd H) ∨ (J.go i H ∧ ∃ Nx : Hp → Prop, (∀ H', Nx H' → ∃ m', m' < m ∧ W (i + 1) m' H') ∧ ∀ x H', J.yld i H x H' → g x (wipe σ vs) H' fun σ2 H2 => wipe σ2 vs = wipe σ vs ∧ tt σ2 H2 fun b H3 =>
      if b = true then wi1 σ2 H3 fun J1 H4 => InW J1 g1 tt1 te vs1 D Nx σ2 H4 else Nx H3) := by
  refine ⟨fun i m H => m = n - i ∧ i ≤ n ∧ Pv i H, ⟨n, by simp, Nat.zero_le _, h0⟩, ?_⟩
  rintro i m H ⟨rfl, hi, p⟩
  have q := hG i H hi p
  rcases Nat.lt_or_ge i n with lt | ge
  · exact .inr ⟨w.goes i H lt q, Pv (i + 1), fun H' p' => ⟨n - (i + 1), by omega, rfl, lt, p'⟩, fun x H' y => hs i x H H' lt p (w.yields i H x H' lt q y)⟩
  · obtain rfl : i = n := by omega
    exact .inl ⟨w.stops H q, hd H p⟩
end
def spNi (CS : Addr) : Sp := fun vs H Q _ => ∃ T a : Addr, vs = [.ref T] ∧ H T = some (.tup [.ref a]) ∧ StopAt CS H a ∧ ∀ (l : Addr) (H' : Hp), Same' H H' → H' l = some (.lst []) → Q (.ref l) H'
section
variable {P : Program} {w : World} {K : PySem.W.Frag} {mg : Str → Option Value} {base : Heap}
/-- what a walk of three clauses over one thing comes to, the second source without anything -/
theorem lc3_one {T a D : Addr} {g : TG} {wi1 : TI} {vs : List Nat} {σ : L2.St} {H : Hp} {Q : Hp → Prop} (eT : H T = some (.tup [.ref a])) (hD : H D = none)
    (turn : ∀ H1, Same' H H1 → H1 D = some (.lst []) → g (.ref a) (wipe σ vs) H1 fun σ2 H2 => wipe σ2 vs = wipe σ vs ∧ wi1 σ2 H2 fun J1 H4 => J1.stop 0 H4 ∧ Same' H H4 ∧ H4 D = some (.lst []))
    (q : ∀ H1, Same' H H1 → H1 D = some (.lst []) → Q H1) :
    ∃ W : Nat → Nat → Hp → Prop, (∃ m, W 0 m (upd H D (.lst []))) ∧ ∀ i m H', W i m H' →
      ((Itt K T).stop i H' ∧ Q H') ∨ ((Itt K T).go i H' ∧ ∃ Nx : Hp → Prop, (∀ H'', Nx H'' → ∃ m', m' < m ∧ W (i + 1) m' H'') ∧ ∀ x H'', (Itt K T).yld i H' x H'' → g x (wipe σ vs) H'' fun σ2 H2 => wipe σ2 vs = wipe σ vs ∧ tYes σ2 H2 fun b H3 =>
        if b = true then wi1 σ2 H3 fun J1 H4 => J1.stop 0 H4 ∧ Nx H4 else Nx H3) := by
  refine ⟨fun i m H' => m = 1 - i ∧ i ≤ 1 ∧ Same' H H' ∧ H' D = some (.lst []), ⟨1, rfl, Nat.zero_le _, same_new hD, upd_same⟩, ?_⟩
  rintro i m H' ⟨rfl, hi, sm, ed⟩
  match i, hi with
  | 0, _ =>
    refine .inr ⟨⟨_, _, SqT.of (sm _ _ eT), rfl⟩, fun H'' => Same' H H'' ∧ H'' D = some (.lst []), fun H'' nx => ⟨0, Nat.one_pos, rfl, Nat.le_refl _, nx⟩, fun x H'' hx => ?_⟩
    obtain ⟨rfl, hx⟩ := hx
    have e := hx _ (SqT.of (sm _ _ eT))
    cases e
    exact turn _ sm ed
  | 1, _ => exact .inl ⟨⟨_, SqT.of (sm _ _ eT), Nat.le_refl _⟩, q H' sm ed⟩
abbrev nNi : List Str := ["deeds", "own", "inner", "deed", "field", "block", "pair"]
theorem scNi : FnScope nNi ["deeds"] (defScope sNamesIn) := ⟨rfl, rfl, rfl, by decide +kernel, rfl, by decide +kernel, by decide +kernel⟩
abbrev XNi (P : Program) (w : World) (K : PySem.W.Frag) (mg : Str → Option Value) (base : Heap) (f : Addr) (cdv : Value) (A : Around) (outer : List Env) (s : Shared) (H : Hp) (E : XK) : Cx := (cxOf CX0 P w K mg base nNi "names_in" (defScope sNamesIn) f cdv A outer s H E).nox
theorem ok_namesIn {f fF fB CS CD CC aS aT : Addr} {fd dF dB : FuncData} (F : Fun K "names_in" "names_in" sNamesIn f fd) (S : StK K w mg CS CD CC aS aT) (Fo : FnB P w K mg base 1 "fields_of" sFieldsOf fF dF ["deed"] (spFo CS)) (Bl : MethB P w K mg base 1 CS "blocks" fB dB ["self"] spBlocks) : FnOk P w K mg base CX0 2 f fd ["deeds"] (spNi CS) := by
  refine F.ok scNi (fun vs H Q E h => ?_) (fun cdv A0 outer s H vs Q E hr h => ?_)
  · obtain ⟨T, a, rfl, _⟩ := h
    rfl
  · obtain ⟨T, a, rfl, eT, st, q⟩ := h
    refine ⟨_, pss_cons (ps_setLc2 (i := 1) (own := [("deed", 3), ("field", 4)]) (vs1 := [4]) (g := gName 3) (tt := tYes) (g1 := gName 4) rfl scNi.nd rfl rfl (sw_true rfl rfl rfl (by decide +kernel)) (pi_tup (pv 0)) (blkOk_by (N := nNi) (sc := defScope sNamesIn) (by decide +kernel)) (by decide)
        (fun _ _ _ _ _ => pg_name (i := 3) scNi.nd rfl (Or.inl rfl)) (fun _ _ _ _ _ => pts_nil)
        (fun s1 H1 C1 cl1 fp1 => show PI ((XNi P w K mg base f cdv A0 outer s H E).blk s1 H1 _ (compEnvC _ cl1 C1 (XNi P w K mg base f cdv A0 outer s H E).env) fp1) _ _ (iList K (tCall (spFo CS) [] E0 (tCons (tVar 3) tNil))) from
          pi_list (pe_call (X := (XNi P w K mg base f cdv A0 outer s H E).blk s1 H1 _ (compEnvC _ cl1 C1 (XNi P w K mg base f cdv A0 outer s H E).env) fp1) Fo.G hr (by rfl) Fo.g Fo.F.kp Fo.b .nil pass0 (pa_cons (pv 3) pa_nil)))
        (fun _ _ _ _ _ => pg_name (i := 4) scNi.nd rfl (Or.inl rfl)) (fun _ _ _ _ _ => pts_never) (fun _ _ _ _ _ => pe_nev))
      (pss_cons (MyC.ps_setLc3 (i := 2) (own := [("deed", 3), ("block", 5), ("pair", 6)]) (g := gName 3) (tt := tYes) rfl scNi.nd rfl rfl (sw_true rfl rfl rfl (by decide +kernel)) (pi_tup (pv 0)) (blkOk_by (N := nNi) (sc := defScope sNamesIn) (by decide +kernel))
        (fun _ _ _ _ _ => pg_name (i := 3) scNi.nd rfl (Or.inl rfl)) (fun _ _ _ _ _ => pts_nil)
        (fun s1 H1 C1 cl1 fp1 => show PI ((XNi P w K mg base f cdv A0 outer s H E).blk s1 H1 _ (compEnvC _ cl1 C1 (XNi P w K mg base f cdv A0 outer s H E).env) fp1) _ _ (iTup K (tMeth CS "blocks" spBlocks [] E0 (tVar 3) tNil)) from
          pi_tup (pe_meth0 (X := (XNi P w K mg base f cdv A0 outer s H E).blk s1 H1 _ (compEnvC _ cl1 C1 (XNi P w K mg base f cdv A0 outer s H E).env) fp1) (pv 3) S.c Bl.m Bl.G hr Bl.b .nil pass0)))
      (pss_one (ps_ret (pe_op op_cat (pv 1) (pv 2))))), ?_⟩
    refine ⟨.ref T, rfl, T, rfl, ⟨_, SqT.of eT⟩, fun D hD => ?_⟩
    refine lc2_out (walk_tup (K := K) (a := T) (xs := [.ref a])) (fun i H' => Same' H H' ∧ H' D = some (.lst [])) ⟨same_new hD, upd_same⟩ (fun i H' _ hp => SqT.of (hp.1 _ _ eT)) (fun i x H2 H3 hi hp hx => ?_) (fun H2 hp => ?_)
    · obtain ⟨sm, ed⟩ := hp
      obtain ⟨rfl, e2⟩ := hx
      obtain rfl : i = 0 := Nat.lt_one_iff.mp hi
      cases e2
      refine ⟨rfl, ⟨.ref a, rfl, a, rfl, st.keep sm, fun l H4 s4 el => ?_⟩⟩
      refine ⟨l, rfl, ⟨_, SqL.of el⟩, ?_⟩
      refine lc2_in (walk_list (K := K) (a := l) (xs := [])) (fun j H' => Same' H H' ∧ H' D = some (.lst []) ∧ H' l = some (.lst [])) ⟨sm.trans s4, s4 _ _ ed, el⟩ (fun j H' _ hp => SqL.of hp.2.2) (fun j x H5 H6 hj hp hx => absurd hj (Nat.not_lt_zero _)) (fun H5 hp => ⟨hp.1, hp.2.1⟩)
    · obtain ⟨sm, ed⟩ := hp
      have eT2 := sm _ _ eT
      refine ⟨.ref T, rfl, T, rfl, ⟨_, SqT.of eT2⟩, fun D2 hD2 => ?_⟩
      refine lc3_one eT2 hD2 (fun H3 s3 ed3 => ⟨rfl, ?_⟩) (fun H3 s3 ed3 => ?_)
      · obtain ⟨dx, t, ea, et⟩ := (st.keep sm).keep s3
        refine ⟨.ref a, rfl, a, dx, _, rfl, ea, rfl, .ref a, rfl, fun t2 ht2 => ?_⟩
        have s4 := same_new (o := .tup []) ht2
        exact ⟨t2, rfl, ⟨_, SqT.of upd_same⟩, ⟨_, SqT.of upd_same, Nat.le_refl _⟩, s3.trans s4, s4 _ _ ed3⟩
      · refine ⟨.ref D, rfl, .ref D2, rfl, D, D2, [], [], rfl, rfl, s3 _ _ ed, ed3, Nat.zero_le _, fun l hl => ?_⟩
        exact q l _ (sm.trans (s3.trans (same_new hl))) upd_same
end
end My
namespace My
open PySem PySem.Spec PyProof.Rows L2
section
variable {P : Program} {w : World} {K : PySem.W.Frag} {mg : Str → Option Value} {base : Heap}
abbrev nVi : List Str := ["deeds", "own", "inner", "deed", "kind", "block", "pair", "part"]
theorem scVi : FnScope nVi ["deeds"] (defScope sValuesIn) := ⟨rfl, rfl, rfl, by decide +kernel, rfl, by decide +kernel, by decide +kernel⟩
abbrev XVi (P : Program) (w : World) (K : PySem.W.Frag) (mg : Str → Option Value) (base : Heap) (f : Addr) (cdv : Value) (A : Around) (outer : List Env) (s : Shared) (H : Hp) (E : XK) : Cx := (cxOf CX0 P w K mg base nVi "values_in" (defScope sValuesIn) f cdv A outer s H E).nox
theorem ok_valuesIn {f fF fB CS CD CC aS aT : Addr} {fd dF dB : FuncData} (F : Fun K "values_in" "values_in" sValuesIn f fd) (S : StK K w mg CS CD CC aS aT) (Fo : FnB P w K mg base 1 "fields_of" sFieldsOf fF dF ["deed"] (spFo CS)) (Bl : MethB P w K mg base 1 CS "blocks" fB dB ["self"] spBlocks) : FnOk P w K mg base CX0 2 f fd ["deeds"] (spNi CS) := by
  refine F.ok scVi (fun vs H Q E h => ?_) (fun cdv A0 outer s H vs Q E hr h => ?_)
  · obtain ⟨T, a, rfl, _⟩ := h
    rfl
  · obtain ⟨T, a, rfl, eT, st, q⟩ := h
    refine ⟨_, pss_cons (ps_setLc2 (i := 1) (own := [("deed", 3), ("kind", 4), ("part", 7)]) (vs1 := [4, 7]) (g := gName 3) (tt := tYes) (g1 := gNo) rfl scVi.nd rfl rfl (sw_true rfl rfl rfl (by decide +kernel)) (pi_tup (pv 0)) (blkOk_by (N := nVi) (sc := defScope sValuesIn) (by decide +kernel)) (by decide)
        (fun _ _ _ _ _ => pg_name (i := 3) scVi.nd rfl (Or.inl rfl)) (fun _ _ _ _ _ => pts_nil)
        (fun s1 H1 C1 cl1 fp1 => show PI ((XVi P w K mg base f cdv A0 outer s H E).blk s1 H1 _ (compEnvC _ cl1 C1 (XVi P w K mg base f cdv A0 outer s H E).env) fp1) _ _ (iList K (tCall (spFo CS) [] E0 (tCons (tVar 3) tNil))) from
          pi_list (pe_call (X := (XVi P w K mg base f cdv A0 outer s H E).blk s1 H1 _ (compEnvC _ cl1 C1 (XVi P w K mg base f cdv A0 outer s H E).env) fp1) Fo.G hr (by rfl) Fo.g Fo.F.kp Fo.b .nil pass0 (pa_cons (pv 3) pa_nil)))
        (fun _ _ _ _ _ => pg_nev) (fun _ _ _ _ _ => pts_never) (fun _ _ _ _ _ => pe_nev))
      (pss_cons (MyC.ps_setLc3 (i := 2) (own := [("deed", 3), ("block", 5), ("pair", 6)]) (g := gName 3) (tt := tYes) rfl scVi.nd rfl rfl (sw_true rfl rfl rfl (by decide +kernel)) (pi_tup (pv 0)) (blkOk_by (N := nVi) (sc := defScope sValuesIn) (by decide +kernel))
        (fun _ _ _ _ _ => pg_name (i := 3) scVi.nd rfl (Or.inl rfl)) (fun _ _ _ _ _ => pts_nil)
        (fun s1 H1 C1 cl1 fp1 => show PI ((XVi P w K mg base f cdv A0 outer s H E).blk s1 H1 _ (compEnvC _ cl1 C1 (XVi P w K mg base f cdv A0 outer s H E).env) fp1) _ _ (iTup K (tMeth CS "blocks" spBlocks [] E0 (tVar 3) tNil)) from
          pi_tup (pe_meth0 (X := (XVi P w K mg base f cdv A0 outer s H E).blk s1 H1 _ (compEnvC _ cl1 C1 (XVi P w K mg base f cdv A0 outer s H E).env) fp1) (pv 3) S.c Bl.m Bl.G hr Bl.b .nil pass0)))
      (pss_one (ps_ret (pe_op op_cat (pv 1) (pv 2))))), ?_⟩
    refine ⟨.ref T, rfl, T, rfl, ⟨_, SqT.of eT⟩, fun D hD => ?_⟩
    refine lc2_out (walk_tup (K := K) (a := T) (xs := [.ref a])) (fun i H' => Same' H H' ∧ H' D = some (.lst [])) ⟨same_new hD, upd_same⟩ (fun i H' _ hp => SqT.of (hp.1 _ _ eT)) (fun i x H2 H3 hi hp hx => ?_) (fun H2 hp => ?_)
    · obtain ⟨sm, ed⟩ := hp
      obtain ⟨rfl, e2⟩ := hx
      obtain rfl : i = 0 := Nat.lt_one_iff.mp hi
      cases e2
      refine ⟨rfl, ⟨.ref a, rfl, a, rfl, st.keep sm, fun l H4 s4 el => ?_⟩⟩
      refine ⟨l, rfl, ⟨_, SqL.of el⟩, ?_⟩
      refine lc2_in (walk_list (K := K) (a := l) (xs := [])) (fun j H' => Same' H H' ∧ H' D = some (.lst []) ∧ H' l = some (.lst [])) ⟨sm.trans s4, s4 _ _ ed, el⟩ (fun j H' _ hp => SqL.of hp.2.2) (fun j x H5 H6 hj hp hx => absurd hj (Nat.not_lt_zero _)) (fun H5 hp => ⟨hp.1, hp.2.1⟩)
    · obtain ⟨sm, ed⟩ := hp
      have eT2 := sm _ _ eT
      refine ⟨.ref T, rfl, T, rfl, ⟨_, SqT.of eT2⟩, fun D2 hD2 => ?_⟩
      refine lc3_one eT2 hD2 (fun H3 s3 ed3 => ⟨rfl, ?_⟩) (fun H3 s3 ed3 => ?_)
      · obtain ⟨dx, t, ea, et⟩ := (st.keep sm).keep s3
        refine ⟨.ref a, rfl, a, dx, _, rfl, ea, rfl, .ref a, rfl, fun t2 ht2 => ?_⟩
        have s4 := same_new (o := .tup []) ht2
        exact ⟨t2, rfl, ⟨_, SqT.of upd_same⟩, ⟨_, SqT.of upd_same, Nat.le_refl _⟩, s3.trans s4, s4 _ _ ed3⟩
      · refine ⟨.ref D, rfl, .ref D2, rfl, D, D2, [], [], rfl, rfl, s3 _ _ ed, ed3, Nat.zero_le _, fun l hl => ?_⟩
        exact q l _ (sm.trans (s3.trans (same_new hl))) upd_same
end
end My
namespace My
open PySem PySem.Spec PyProof.Rows L2
/-! ### Program(Stop()) -/
abbrev sProgI : Stmt := inClass (topS 58) 0
structure PgK (P : Program) (w : World) (K : PySem.W.Frag) (mg : Str → Option Value) (base : Heap) (CP CS CD CC aS aT fB fN fV fA : Addr) (dB dN dV dA : FuncData) : Prop where
  T : Txt mg
  S : StK K w mg CS CD CC aS aT
  c : Cls K CP
  no : ∀ f ∈ (["deeds", "size", "depth", "used_names", "used_values", "cells", "logs", "failures", "chooses"] : List Str), NoAttr K CP f
  mD : ∃ u, mg "MOST_DEEDS" = some (.int 60 u)
  mN : ∃ u, mg "MOST_NESTED" = some (.int 6 u)
  Bl : MethB P w K mg base 1 CS "blocks" fB dB ["self"] spBlocks
  Ni : FnB P w K mg base 2 "names_in" sNamesIn fN dN ["deeds"] (spNi CS)
  Vi : FnB P w K mg base 2 "values_in" sValuesIn fV dV ["deeds"] (spNi CS)
  As : FnB P w K mg base 1 "ascending" sAsc fA dA ["names"] (spAsc K)
def ProgAt (CP : Addr) (H : Hp) (a : Addr) : Prop := ∃ dx fs, H a = some (.ins CP dx fs)
def spProgT (CP CS : Addr) : Sp := fun vs H Q _ => ∃ (a dx T st : Addr), vs = [.ref a, .ref T] ∧ H a = some (.ins CP dx []) ∧ H T = some (.tup [.ref st]) ∧ StopAt CS H st ∧ ∀ H', Keep1 a H H' → ProgAt CP H' a → Q .non H'
def spProg (CP CS : Addr) : Sp := fun vs H Q _ => ∃ (a dx st : Addr), vs = [.ref a, .ref st] ∧ H a = some (.ins CP dx []) ∧ StopAt CS H st ∧ ∀ H', Keep1 a H H' → ProgAt CP H' a → Q .non H'
theorem Keep1.of {a : Addr} {H H' : Hp} (s : Same' H H') : Keep1 a H H' := fun b o _ e => s b o e
theorem Keep1.trans {a : Addr} {H H1 H2 : Hp} (h : Keep1 a H H1) (k : Keep1 a H1 H2) : Keep1 a H H2 := fun b o n e => k b o n (h b o n e)
section
variable {P : Program} {w : World} {K : PySem.W.Frag} {mg : Str → Option Value} {base : Heap}
/-- a walk over an empty list -/
theorem lc_nil {b D : Addr} {g : TG} {tt : TT} {te : TE} {vs : List Nat} {σ : L2.St} {H : Hp} {Qd : Hp → Prop} (eb : H b = some (.lst [])) (hD : H D = none) (q : Qd (upd H D (.lst []))) :
    ∃ W : Nat → Nat → Hp → Prop, (∃ m, W 0 m (upd H D (.lst []))) ∧ ∀ i m H', W i m H' →
      ((Itl K b).stop i H' ∧ Qd H') ∨ ((Itl K b).go i H' ∧ ∃ Nx : Hp → Prop, (∀ H'', Nx H'' → ∃ m', m' < m ∧ W (i + 1) m' H'') ∧ ∀ x H'', (Itl K b).yld i H' x H'' → g x (wipe σ vs) H'' fun σ2 H2 => wipe σ2 vs = wipe σ vs ∧ tt σ2 H2 fun b' H3 =>
        if b' = true then te σ2 H3 fun y H4 => ∃ acc, H4 D = some (.lst acc) ∧ acc.length < sizeLine ∧ Nx (upd H4 D (.lst (acc ++ [y]))) else Nx H3) := by
  refine ⟨fun i m H' => i = 0 ∧ H' = upd H D (.lst []), ⟨0, rfl, rfl⟩, ?_⟩
  rintro i m H' ⟨rfl, rfl⟩
  exact .inl ⟨⟨_, SqL.of (same_new hD _ _ eb), Nat.le_refl _⟩, q⟩
theorem StopAt.ne {CS CP dx a b : Addr} {H : Hp} (h : StopAt CS H b) (ha : H a = some (.ins CP dx [])) : ∀ H', Keep1 a H H' → StopAt CS H' b := by
  obtain ⟨dy, t, e1, e2⟩ := h
  intro H' k
  refine ⟨dy, t, k _ _ (fun z => ?_) e1, k _ _ (fun z => ?_) e2⟩
  · rw [z, ha] at e1
    cases e1
  · rw [z, ha] at e2
    cases e2
theorem StK.ty {CS CD CC aS aT b : Addr} {H : Hp} (S : StK K w mg CS CD CC aS aT) (h : StopAt CS H b) : TyX K H (.ref b) (.ref CS) := by
  obtain ⟨dy, t, e1, e2⟩ := h
  exact .base (.ins e1 S.c S.dc S.hn S.tk S.mo)
structure PSt (CP dx a : Addr) (H H' : Hp) (fs : List (Str × V)) (Ls : List Addr) : Prop where
  i : H' a = some (.ins CP dx fs)
  k : Keep1 a H H'
  ls : ∀ b, b ∈ Ls → H' b = some (.lst []) ∧ b ≠ a
theorem PSt.same {CP dx a : Addr} {H H' H2 : Hp} {fs : List (Str × V)} {Ls : List Addr} (p : PSt CP dx a H H' fs Ls) (s : Same' H' H2) : PSt CP dx a H H2 fs Ls := ⟨s _ _ p.i, p.k.trans (.of s), fun b hb => ⟨s _ _ (p.ls b hb).1, (p.ls b hb).2⟩⟩
theorem PSt.set {CP dx a : Addr} {H H' : Hp} {fs : List (Str × V)} {Ls : List Addr} (p : PSt CP dx a H H' fs Ls) (fs2 : List (Str × V)) : PSt CP dx a H (upd H' a (.ins CP dx fs2)) fs2 Ls :=
  ⟨upd_same, fun b o n e => by rw [upd_ne n]; exact p.k b o n e, fun b hb => ⟨by rw [upd_ne (p.ls b hb).2]; exact (p.ls b hb).1, (p.ls b hb).2⟩⟩
theorem PSt.add {CP dx a U : Addr} {H H' : Hp} {fs : List (Str × V)} {Ls : List Addr} (p : PSt CP dx a H H' fs Ls) (e : H' U = some (.lst [])) : PSt CP dx a H H' fs (U :: Ls) := by
  refine ⟨p.i, p.k, fun b hb => ?_⟩
  rcases List.mem_cons.mp hb with rfl | hb
  · refine ⟨e, fun z => ?_⟩
    rw [z, p.i] at e
    cases e
  · exact p.ls b hb
theorem PSt.go {CP dx a : Addr} {H H' : Hp} {f : Str} {v : V} {fs : List (Str × V)} {Ls : List Addr} {Gl : L2.St → Hp → Prop} {σ : L2.St} (fs2 : List (Str × V)) (p : PSt CP dx a H H' fs Ls) (e : putF f v fs = fs2) (q : ∀ H2, PSt CP dx a H H2 fs2 Ls → Gl σ H2) : Gl σ (upd H' a (.ins CP dx (putF f v fs))) := by
  rw [e]
  exact q _ (p.set _)
abbrev nPi : List Str := ["self", "deeds", "at", "deed", "blocks", "block", "kind", "name"]
theorem scPi : FnScope nPi ["self", "deeds"] (defScope sProgI) := ⟨rfl, rfl, rfl, by decide +kernel, rfl, by decide +kernel, by decide +kernel⟩
abbrev XPi (P : Program) (w : World) (K : PySem.W.Frag) (mg : Str → Option Value) (base : Heap) (f : Addr) (cdv : Value) (A : Around) (outer : List Env) (s : Shared) (H : Hp) (E : XK) : Cx := (cxOf (L2.CX P w) P w K mg base nPi "Program.__init__" (defScope sProgI) f cdv A outer s H E).nox
theorem prog_body {CP CS CD CC aS aT fB fN fV fA f : Addr} {dB dN dV dA : FuncData} {cdv : Value} {A0 : Around} {outer : List Env} {s : Shared} {H : Hp} {vs : List V} {Q : VK} {E : XK} (Z : PgK P w K mg base CP CS CD CC aS aT fB fN fV fA dB dN dV dA)
    (hr : Room 4 (XPi P w K mg base f cdv A0 outer s H E).A) (h : spProgT CP CS vs H Q E) : ∃ t, PSs (XPi P w K mg base f cdv A0 outer s H E) (defBody sProgI) t ∧ t { nx := fun _ H' => Q .non H', rt := Q } (L2.start nPi vs) H := by
  obtain ⟨a, dx, T, st, rfl, ha, eT, sa, q⟩ := h
  have hu : (XPi P w K mg base f cdv A0 outer s H E).A.units + 1 < cLine := by
    have h := hr.un
    omega
  obtain ⟨uD, mD⟩ := Z.mD
  obtain ⟨uN, mN⟩ := Z.mN
  refine ⟨_, pss_cons (ps_for PassesOwn.never rfl (pi_enumT (by rfl) Z.T.enum (pa_cons (pv 1) pa_nil)) (pg_tup (n := 2) rfl (pgs_cons (pg_name (i := 2) scPi.nd rfl (.inl rfl)) (pgs_cons (pg_name (i := 3) scPi.nd rfl (.inl rfl)) pgs_nil)))
      (pss_one (ps_if (pt_not (pt_val (pe_callB call_isi (by rfl) Z.T.isi (by decide +kernel) (pa_cons (pv 3) (pa_cons (pe_glob (v := .ref CD) rfl Z.S.gD rfl) pa_nil))))) (pss_one ps_never) pss_nil)))
    (pss_cons (ps_setLc2 (i := 4) (own := [("deed", 3), ("block", 5)]) (vs1 := [5]) (g := gName 3) (tt := tYes) (g1 := gName 5) rfl scPi.nd rfl rfl (sw_true rfl rfl rfl (by decide +kernel)) (pi_tup (pv 1)) (blkOk_by (N := nPi) (sc := defScope sProgI) (by decide +kernel)) (by decide)
        (fun _ _ _ _ _ => pg_name (i := 3) scPi.nd rfl (Or.inl rfl)) (fun _ _ _ _ _ => pts_nil)
        (fun s1 H1 C1 cl1 fp1 => show PI ((XPi P w K mg base f cdv A0 outer s H E).blk s1 H1 _ (compEnvC _ cl1 C1 (XPi P w K mg base f cdv A0 outer s H E).env) fp1) _ _ (iTup K (tMeth CS "blocks" spBlocks [] E0 (tVar 3) tNil)) from
          pi_tup (pe_meth0 (X := (XPi P w K mg base f cdv A0 outer s H E).blk s1 H1 _ (compEnvC _ cl1 C1 (XPi P w K mg base f cdv A0 outer s H E).env) fp1) (pv 3) Z.S.c Z.Bl.m Z.Bl.G (hr.mono (by decide)) Z.Bl.b .nil pass0))
        (fun _ _ _ _ _ => pg_name (i := 5) scPi.nd rfl (Or.inl rfl)) (fun _ _ _ _ _ => pts_nil) (fun _ _ _ _ _ => pe_nev))
    (pss_cons (ps_fld (pv 0) (pv 1) (by rfl))
    (pss_cons (ps_fld (pv 0) (pe_op op_add (pe_callB call_len_seq (by rfl) Z.T.len PySem.boot_len (pa_cons (pv 1) pa_nil)) (pe_callB (cr_sum rfl) (by rfl) Z.T.sum (by decide +kernel) (pa_cons
        (pe_lc (own := [("block", 5)]) (g := gName 5) (tt := tYes) rfl scPi.nd (pi_list (pv 4)) (blkOk_by (N := nPi) (sc := defScope sProgI) (by decide +kernel)) (fun _ _ _ _ _ => pg_name (i := 5) scPi.nd rfl (Or.inl rfl)) (fun _ _ _ _ _ => pts_nil) (fun _ _ _ _ _ => pe_nev)) pa_nil))) (by rfl))
    (pss_cons (ps_fld (pv 0) (pe_callBK (cr_maxD0 rfl hu) (by rfl) Z.T.max (by decide +kernel) (pa_cons
        (pe_lc (own := [("block", 5)]) (g := gName 5) (tt := tYes) rfl scPi.nd (pi_list (pv 4)) (blkOk_by (N := nPi) (sc := defScope sProgI) (by decide +kernel)) (fun _ _ _ _ _ => pg_name (i := 5) scPi.nd rfl (Or.inl rfl)) (fun _ _ _ _ _ => pts_nil) (fun _ _ _ _ _ => pe_nev)) pa_nil) (pk_cons pe_int pk_nil)) (by rfl))
    (pss_cons (ps_if (pt_cmpR op_gt (pe_fld (pv 0) (by rfl)) (pe_glob (v := .int 60) rfl mD ⟨_, rfl⟩) (nomark _)) (pss_one ps_never) pss_nil)
    (pss_cons (ps_if (pt_cmpR op_gt (pe_fld (pv 0) (by rfl)) (pe_glob (v := .int 6) rfl mN ⟨_, rfl⟩) (nomark _)) (pss_one ps_never) pss_nil)
    (pss_cons (ps_fld (pv 0) (pe_call Z.Ni.G (hr.mono (by decide)) (by rfl) Z.Ni.g Z.Ni.F.kp Z.Ni.b .nil pass0 (pa_cons (pv 1) pa_nil)) (by rfl))
    (pss_cons (ps_fld (pv 0) (pe_call Z.Vi.G (hr.mono (by decide)) (by rfl) Z.Vi.g Z.Vi.F.kp Z.Vi.b .nil pass0 (pa_cons (pv 1) pa_nil)) (by rfl))
    (pss_cons (ps_fld (pv 0) (pe_call Z.As.G (hr.mono (by decide)) (by rfl) Z.As.g Z.As.F.kp Z.As.b .nil pass0 (pa_cons
        (pe_lc (own := [("kind", 6), ("name", 7)]) (g := gNo) rfl scPi.nd (pi_list (pe_fld (pv 0) (by rfl))) (blkOk_by (N := nPi) (sc := defScope sProgI) (by decide +kernel)) (fun _ _ _ _ _ => pg_nev) (fun _ _ _ _ _ => pts_never) (fun _ _ _ _ _ => pe_nev)) pa_nil)) (by rfl))
    (pss_cons (ps_fld (pv 0) (pe_call Z.As.G (hr.mono (by decide)) (by rfl) Z.As.g Z.As.F.kp Z.As.b .nil pass0 (pa_cons
        (pe_lc (own := [("kind", 6), ("name", 7)]) (g := gNo) rfl scPi.nd (pi_list (pe_fld (pv 0) (by rfl))) (blkOk_by (N := nPi) (sc := defScope sProgI) (by decide +kernel)) (fun _ _ _ _ _ => pg_nev) (fun _ _ _ _ _ => pts_never) (fun _ _ _ _ _ => pe_nev)) pa_nil)) (by rfl))
    (pss_cons (ps_fld (pv 0) (pe_call Z.As.G (hr.mono (by decide)) (by rfl) Z.As.g Z.As.F.kp Z.As.b .nil pass0 (pa_cons
        (pe_lc (own := [("kind", 6), ("name", 7)]) (g := gNo) rfl scPi.nd (pi_list (pe_fld (pv 0) (by rfl))) (blkOk_by (N := nPi) (sc := defScope sProgI) (by decide +kernel)) (fun _ _ _ _ _ => pg_nev) (fun _ _ _ _ _ => pts_never) (fun _ _ _ _ _ => pe_nev)) pa_nil)) (by rfl))
    (pss_one (ps_fld (pv 0) (pe_callB (cr_any rfl) (by rfl) Z.T.any (by decide +kernel) (pa_cons (pe_op op_cat
        (pe_lc (own := [("deed", 3)]) (g := gName 3) (tt := tYes) rfl scPi.nd (pi_tup (pv 1)) (blkOk_by (N := nPi) (sc := defScope sProgI) (by decide +kernel)) (fun _ _ _ _ _ => pg_name (i := 3) scPi.nd rfl (Or.inl rfl)) (fun _ _ _ _ _ => pts_nil)
          (fun _ _ _ _ _ => show PE _ _ (tCB (rIsi K) (tCons (tVar 3) (tCons (tC (.ref CC)) tNil))) from pe_callB call_isi (by rfl) Z.T.isi (by decide +kernel) (pa_cons (pv 3) (pa_cons (pe_glob (v := .ref CC) rfl Z.S.gC rfl) pa_nil))))
        (pe_lc (own := [("block", 5)]) (g := gName 5) (tt := tYes) rfl scPi.nd (pi_list (pv 4)) (blkOk_by (N := nPi) (sc := defScope sProgI) (by decide +kernel)) (fun _ _ _ _ _ => pg_name (i := 5) scPi.nd rfl (Or.inl rfl)) (fun _ _ _ _ _ => pts_nil) (fun _ _ _ _ _ => pe_nev))) pa_nil)) (by rfl)))))))))))))), ?_⟩
  have nT : T ≠ a := fun z => by rw [z, ha] at eT; cases eT
  have tk : ∀ H', Keep1 a H H' → H' T = some (.tup [.ref st]) := fun H' k => k _ _ nT eT
  have sk := sa.ne ha
  -- the check
  refine ⟨.ref T, rfl, T, [.ref st], rfl, SqT.of eT, ?_⟩
  refine for_it (walk_enumT (K := K) (a := T) (xs := [.ref st])) (fun i σ H' => Same' H H' ∧ ∃ z2 z3 : Option V, σ = [some (.ref a), some (.ref T), z2, z3, none, none, none, none]) ⟨fun _ _ e => e, none, none, rfl⟩ (fun i σ H' _ hp => SqT.of (hp.1 _ _ eT)) (fun i x σ H1 H2 hi hp hy => ?_) (fun σ H1 hp => ?_)
  · obtain ⟨sm, z2, z3, rfl⟩ := hp
    obtain ⟨tt, v1, v2, rfl, htt, rfl, e1, e2⟩ := hy
    obtain rfl : i = 0 := Nat.lt_one_iff.mp hi
    cases e2
    have s2 := same_new (o := .tup [v1, V.ref st]) htt
    refine ⟨tt, _, rfl, SqT.of upd_same, rfl, _, _, rfl, _, _, rfl, rfl, ?_⟩
    refine ⟨.ref st, rfl, .ref st, .ref CD, _, .ref CD, true, rfl, .own _, Z.S.ty ((sa.keep sm).keep s2), Z.S.kD, true, rfl, iteF ?_⟩
    exact ⟨sm.trans s2, _, _, rfl⟩
  obtain ⟨s1, z2, z3, rfl⟩ := hp
  -- blocks
  refine ⟨.ref T, rfl, T, rfl, ⟨_, SqT.of (s1 _ _ eT)⟩, fun B hB => ?_⟩
  refine lc2_out (walk_tup (K := K) (a := T) (xs := [.ref st])) (fun i H' => Same' H1 H' ∧ H' B = some (.lst [])) ⟨same_new hB, upd_same⟩ (fun i H' _ hp => SqT.of (hp.1 _ _ (s1 _ _ eT))) (fun i x H2 H3 hi hp hx => ?_) (fun H2 hp => ?_)
  · obtain ⟨sm, ed⟩ := hp
    obtain ⟨rfl, e2⟩ := hx
    obtain rfl : i = 0 := Nat.lt_one_iff.mp hi
    cases e2
    obtain ⟨dy, t0, ea, et⟩ := (sa.keep s1).keep sm
    refine ⟨rfl, ⟨.ref st, rfl, st, dy, _, rfl, ea, rfl, .ref st, rfl, fun t2 ht2 => ?_⟩⟩
    have s4 := same_new (o := .tup []) ht2
    refine ⟨t2, rfl, ⟨_, SqT.of upd_same⟩, ?_⟩
    exact lc2_in (walk_tup (K := K) (a := t2) (xs := [])) (fun j H' => Same' H1 H' ∧ H' B = some (.lst []) ∧ H' t2 = some (.tup [])) ⟨sm.trans s4, s4 _ _ ed, upd_same⟩ (fun j H' _ hp => SqT.of hp.2.2) (fun j x H5 H6 hj hp hx => absurd hj (Nat.not_lt_zero _)) (fun H5 hp => ⟨hp.1, hp.2.1⟩)
  obtain ⟨s2, eB⟩ := hp
  have s12 := s1.trans s2
  have nB : B ≠ a := (ne_of_none (s1 _ _ ha) hB).symm
  -- deeds
  refine ⟨.ref T, rfl, .ref a, rfl, a, CP, dx, [], rfl, s12 _ _ ha, Z.c, Z.no _ (by simp), by decide, ?_⟩
  have P3 : PSt CP dx a H H2 [] [B] := ⟨s12 _ _ ha, .of s12, fun b hb => by obtain rfl := List.mem_singleton.mp hb; exact ⟨eB, nB⟩⟩
  refine PSt.go [("deeds", .ref T)] P3 rfl fun H3 P3 => ?_
  -- size
  refine ⟨.ref T, rfl, T, [.ref st], rfl, .inr (SqT.of (tk _ P3.k)), ?_⟩
  refine ⟨.ref B, rfl, B, rfl, ⟨_, SqL.of (P3.ls B (by simp)).1⟩, fun D hD => lc_nil (P3.ls B (by simp)).1 hD ?_⟩
  have P4 := P3.same (same_new (o := .lst []) hD)
  refine ⟨D, [], rfl, SqL.of upd_same, ⟨1, 0, rfl, rfl, ?_⟩⟩
  refine ⟨.ref a, rfl, a, CP, dx, _, rfl, P4.i, Z.c, Z.no _ (by simp), by simp, ?_⟩
  refine PSt.go [("deeds", .ref T), ("size", .int 1)] P4 rfl fun H5 P5 => ?_
  -- depth
  refine ⟨.ref B, rfl, B, rfl, ⟨_, SqL.of (P5.ls B (by simp)).1⟩, fun D hD => lc_nil (P5.ls B (by simp)).1 hD ?_⟩
  have P6 := P5.same (same_new (o := .lst []) hD)
  refine ⟨D, 0, rfl, rfl, SqL.of upd_same, ?_⟩
  refine ⟨.ref a, rfl, a, CP, dx, _, rfl, P6.i, Z.c, Z.no _ (by simp), by simp, ?_⟩
  refine PSt.go [("deeds", .ref T), ("size", .int 1), ("depth", .int 0)] P6 rfl fun H7 P7 => ?_
  -- the two bounds
  refine ⟨.ref a, rfl, a, CP, dx, _, .int 1, rfl, P7.i, Z.c, Z.no _ (by simp), rfl, 1, 60, rfl, rfl, false, rfl, iteF ?_⟩
  refine ⟨.ref a, rfl, a, CP, dx, _, .int 0, rfl, P7.i, Z.c, Z.no _ (by simp), rfl, 0, 6, rfl, rfl, false, rfl, iteF ?_⟩
  -- used_names
  refine ⟨.ref T, rfl, T, st, rfl, tk _ P7.k, sk _ P7.k, fun U H8 s8 eU => ?_⟩
  have P8 := (P7.same s8).add eU
  refine ⟨.ref a, rfl, a, CP, dx, _, rfl, P8.i, Z.c, Z.no _ (by simp), by simp, ?_⟩
  refine PSt.go [("deeds", .ref T), ("size", .int 1), ("depth", .int 0), ("used_names", .ref U)] P8 rfl fun H9 P9 => ?_
  -- used_values
  refine ⟨.ref T, rfl, T, st, rfl, tk _ P9.k, sk _ P9.k, fun U2 H8 s8 eU => ?_⟩
  have P10 := P9.same s8
  refine ⟨.ref a, rfl, a, CP, dx, _, rfl, P10.i, Z.c, Z.no _ (by simp), by simp, ?_⟩
  refine PSt.go [("deeds", .ref T), ("size", .int 1), ("depth", .int 0), ("used_names", .ref U), ("used_values", .ref U2)] P10 rfl fun Ha Pa => ?_
  -- cells
  refine ⟨.ref a, rfl, a, CP, dx, _, .ref U, rfl, Pa.i, Z.c, Z.no _ (by simp), rfl, U, rfl, ⟨_, SqL.of (Pa.ls U (by simp)).1⟩, fun D hD => lc_nil (Pa.ls U (by simp)).1 hD ?_⟩
  refine ⟨D, [], rfl, .inl (SqL.of upd_same), by decide, fun p ys Hb _ sb _ => ?_⟩
  have Pb := (Pa.same (same_new (o := .lst []) hD)).same sb
  refine ⟨.ref a, rfl, a, CP, dx, _, rfl, Pb.i, Z.c, Z.no _ (by simp), by simp, ?_⟩
  refine PSt.go [("deeds", .ref T), ("size", .int 1), ("depth", .int 0), ("used_names", .ref U), ("used_values", .ref U2), ("cells", .ref p)] Pb rfl fun Ha Pa => ?_
  -- logs
  refine ⟨.ref a, rfl, a, CP, dx, _, .ref U, rfl, Pa.i, Z.c, Z.no _ (by simp), rfl, U, rfl, ⟨_, SqL.of (Pa.ls U (by simp)).1⟩, fun D hD => lc_nil (Pa.ls U (by simp)).1 hD ?_⟩
  refine ⟨D, [], rfl, .inl (SqL.of upd_same), by decide, fun p2 ys Hb _ sb _ => ?_⟩
  have Pb := (Pa.same (same_new (o := .lst []) hD)).same sb
  refine ⟨.ref a, rfl, a, CP, dx, _, rfl, Pb.i, Z.c, Z.no _ (by simp), by simp, ?_⟩
  refine PSt.go [("deeds", .ref T), ("size", .int 1), ("depth", .int 0), ("used_names", .ref U), ("used_values", .ref U2), ("cells", .ref p), ("logs", .ref p2)] Pb rfl fun Ha Pa => ?_
  -- failures
  refine ⟨.ref a, rfl, a, CP, dx, _, .ref U, rfl, Pa.i, Z.c, Z.no _ (by simp), rfl, U, rfl, ⟨_, SqL.of (Pa.ls U (by simp)).1⟩, fun D hD => lc_nil (Pa.ls U (by simp)).1 hD ?_⟩
  refine ⟨D, [], rfl, .inl (SqL.of upd_same), by decide, fun p3 ys Hb _ sb _ => ?_⟩
  have Pb := (Pa.same (same_new (o := .lst []) hD)).same sb
  refine ⟨.ref a, rfl, a, CP, dx, _, rfl, Pb.i, Z.c, Z.no _ (by simp), by simp, ?_⟩
  refine PSt.go [("deeds", .ref T), ("size", .int 1), ("depth", .int 0), ("used_names", .ref U), ("used_values", .ref U2), ("cells", .ref p), ("logs", .ref p2), ("failures", .ref p3)] Pb rfl fun Ha Pa => ?_
  -- chooses
  refine ⟨.ref T, rfl, T, rfl, ⟨_, SqT.of (tk _ Pa.k)⟩, fun D hD => ?_⟩
  refine lc_it (walk_tup (K := K) (a := T) (xs := [.ref st])) (fun i H' => Same' Ha H' ∧ H' D = some (.lst (List.replicate i (.bl false)))) ⟨same_new hD, upd_same⟩ (fun i H' _ hp => SqT.of (hp.1 _ _ (tk _ Pa.k))) (fun i x H' Hb hi hp hy => ?_) (fun H' hp => ?_)
  · obtain ⟨rfl, e2⟩ := hy
    obtain rfl : i = 0 := Nat.lt_one_iff.mp hi
    cases e2
    refine ⟨rfl, ⟨.ref st, rfl, .ref st, .ref CC, _, .ref CC, false, rfl, .own _, Z.S.ty ((sk _ Pa.k).keep hp.1), Z.S.kC, _, hp.2, by decide, same_over hD hp.1, upd_same⟩⟩
  obtain ⟨sc, ec⟩ := hp
  have Pc := Pa.same sc
  refine ⟨.ref B, rfl, B, rfl, ⟨_, SqL.of (Pc.ls B (by simp)).1⟩, fun D2 hD2 => lc_nil (Pc.ls B (by simp)).1 hD2 ?_⟩
  have s2 := same_new (o := .lst []) hD2
  refine ⟨D, D2, _, [], rfl, rfl, s2 _ _ ec, upd_same, by simp [sizeLine_eq], fun l hl => ?_⟩
  have Pd := (Pc.same s2).same (same_new (o := .lst (List.replicate 1 (.bl false) ++ [])) hl)
  refine ⟨l, [false], rfl, SqL.of upd_same, ?_⟩
  refine ⟨.ref a, rfl, a, CP, dx, _, rfl, Pd.i, Z.c, Z.no _ (by simp), by simp, ?_⟩
  exact q _ (Pd.set _).k ⟨dx, _, (Pd.set _).i⟩
end
end My
namespace My
open PySem PySem.Spec PyProof.Rows L2
/-! ### the deeds' inits -/
abbrev sPutI : Stmt := inClass (topS 49) 1
abbrev sCopyI : Stmt := inClass (topS 50) 1
abbrev sSayI : Stmt := inClass (topS 51) 1
abbrev sFailI : Stmt := inClass (topS 52) 1
abbrev sIfI : Stmt := inClass (topS 55) 1
abbrev sCatchI : Stmt := inClass (topS 56) 1
abbrev sChooseI : Stmt := inClass (topS 57) 1
/-- what is told of a raised error, all but the new object kept -/
def TK (a : Addr) (E : XK) (C : Addr) (H : Hp) (d : PyData) : Prop := ∀ (y : V) (dd : Addr) (H' : Hp), Keep1 a H H' → H' dd = some (.xd [("value", y)]) → Th H' y d → E (.ref C) (some dd) H'
def TP (a : Addr) (E : XK) (C : Addr) (H : Hp) (z : Str) : Prop := ∀ (dd : Addr) (H' : Hp), Keep1 a H H' → H' dd = some (.xd [("part", .str z)]) → E (.ref C) (some dd) H'
theorem TK.told {a C : Addr} {E : XK} {H H' : Hp} {d : PyData} (h : TK a E C H d) (k : Keep1 a H H') : Told E C H' d := fun y dd H2 s => h y dd H2 (k.trans (.of s))
theorem th_str {H : Hp} {y : V} {z : Str} (h : Th H y (.str z)) : y = .str z := by
  cases h with
  | flat h => cases h; rfl
theorem TP.told {a C : Addr} {E : XK} {H H' : Hp} {z : Str} (h : TP a E C H z) (k : Keep1 a H H') : ToldP E C H' (.str z) := fun y dd H2 s e t => h dd H2 (k.trans (.of s)) (by rw [← th_str t]; exact e)
/-- a class whose objects have the fields fs -/
structure DCls (K : PySem.W.Frag) (mg : Str → Option Value) (name : String) (C : Addr) (fs : List Str) : Prop where
  g : mg name = some (.ref C)
  c : Cls K C
  no : ∀ f ∈ fs, NoAttr K C f
def isWd (x : V) : Bool := match x with
  | .str z => wd z
  | _ => false
theorem noText_isWd {K : PySem.W.Frag} {H : Hp} {x : V} (h : NoText K H x) : isWd x = false := by
  obtain ⟨T, ty, k⟩ := h
  cases x with
  | str z =>
    exfalso
    cases ty with
    | base b =>
      cases b
      exact absurd k (by decide +kernel)
  | _ => rfl
theorem NameArg.keep {K : PySem.W.Frag} {H H' : Hp} {x : V} {d : PyData} (h : NameArg K H x) (th : Th H x d) (s : Same' H H') : NameArg K H' x := by
  cases th with
  | flat h =>
    cases h with
    | non => exact .inr ⟨"NoneType", .base .non, by decide +kernel⟩
    | bl b => exact .inr ⟨"bool", .base (.bl b), by decide +kernel⟩
    | int i => exact .inr ⟨"int", .base (.int i), by decide +kernel⟩
    | str z =>
      rcases h with h | ⟨T, ty, k⟩
      · exact .inl h
      · cases ty with
        | base b =>
          cases b
          exact absurd k (by decide +kernel)
  | lst e k n => exact .inr ⟨"list", .base (.lst (s _ _ e)), by decide +kernel⟩
  | tup e k n => exact .inr ⟨"tuple", .base (.tup (s _ _ e)), by decide +kernel⟩
  | dct e => exact .inr ⟨"dict", .base (.dK (s _ _ e)), by decide +kernel⟩
def spPutI (K : PySem.W.Frag) (C CN CZ : Addr) : Sp := fun vs H Q E => ∃ (a dx : Addr) (x v : V) (d dv : PyData), vs = [.ref a, x, v] ∧ H a = some (.ins C dx []) ∧ NameArg K H x ∧ Th H x d ∧ Th H v dv ∧
  (isN x = false → TK a E CN H d) ∧ (isN x = true → isV v = false → TK a E CZ H dv) ∧ (isN x = true → isV v = true → ∀ (t : Addr) (H' : Hp), Keep1 a H H' → H' a = some (.ins C dx [("cell", x), ("value", v), ("fields", .ref t)]) → Q .non H')
def spCopyI (K : PySem.W.Frag) (C CN : Addr) : Sp := fun vs H Q E => ∃ (a dx : Addr) (x v : V) (d dv : PyData), vs = [.ref a, x, v] ∧ H a = some (.ins C dx []) ∧ NameArg K H x ∧ Th H x d ∧ NameArg K H v ∧ Th H v dv ∧
  (isN x = false → TK a E CN H d) ∧ (isN x = true → isN v = false ∧ TK a E CN H dv)
def spSayI (K : PySem.W.Frag) (C CN CW : Addr) : Sp := fun vs H Q E => ∃ (a dx : Addr) (x v : V) (d dv : PyData), vs = [.ref a, x, v] ∧ H a = some (.ins C dx []) ∧ NameArg K H x ∧ Th H x d ∧ NameArg K H v ∧ Th H v dv ∧
  (isN x = false → TK a E CN H d) ∧ (isN x = true → isWd v = false → TK a E CW H dv) ∧ (isN x = true → isWd v = true → ∀ (t : Addr) (H' : Hp), Keep1 a H H' → H' a = some (.ins C dx [("log", x), ("word", v), ("fields", .ref t)]) → Q .non H')
def spFailI (K : PySem.W.Frag) (C CN : Addr) : Sp := fun vs H Q E => ∃ (a dx : Addr) (x : V) (d : PyData), vs = [.ref a, x] ∧ H a = some (.ins C dx []) ∧ NameArg K H x ∧ Th H x d ∧ isN x = false ∧ TK a E CN H d
/-- is the argument a program? -/
def PArg (a : Addr) (K : PySem.W.Frag) (CP : Addr) (H : Hp) (b : V) (r : Bool) : Prop := ∀ H', Keep1 a H H' → ∃ t, TyX K H' b t ∧ PySem.W.kitOne K t (.ref CP) = some r
def Blocks2 (a : Addr) (K : PySem.W.Frag) (CP CR : Addr) (H : Hp) (b o : V) (E : XK) : Prop := ∃ r, PArg a K CP H b r ∧ (r = false → TP a E CR H "block") ∧ (r = true → PArg a K CP H o false ∧ o ≠ .non ∧ TP a E CR H "other")
def spIfI (K : PySem.W.Frag) (C CN CZ CP CR : Addr) : Sp := fun vs H Q E => ∃ (a dx : Addr) (x v b o : V) (d dv : PyData), vs = [.ref a, x, v, b, o] ∧ H a = some (.ins C dx []) ∧ NameArg K H x ∧ Th H x d ∧ Th H v dv ∧
  (isN x = false → TK a E CN H d) ∧ (isN x = true → isV v = false → TK a E CZ H dv) ∧ (isN x = true → isV v = true → Blocks2 a K CP CR H b o E)
def spCatchI (K : PySem.W.Frag) (C CN CP CR : Addr) : Sp := fun vs H Q E => ∃ (a dx : Addr) (x b o : V) (d : PyData), vs = [.ref a, x, b, o] ∧ H a = some (.ins C dx []) ∧ NameArg K H x ∧ Th H x d ∧
  (isN x = false → TK a E CN H d) ∧ (isN x = true → Blocks2 a K CP CR H b o E)
def spChooseI (K : PySem.W.Frag) (C CP CR : Addr) : Sp := fun vs H Q E => ∃ (a dx : Addr) (b o : V), vs = [.ref a, b, o] ∧ H a = some (.ins C dx []) ∧ Blocks2 a K CP CR H b o E
def spBlk (K : PySem.W.Frag) (CP CR : Addr) : Sp := fun vs H Q E => ∃ (b : V) (t : Value) (r : Bool), vs = [b] ∧ TyX K H b t ∧ PySem.W.kitOne K t (.ref CP) = some r ∧ (r = true → Q b H) ∧ (r = false → ToldP E CR H (.str "block"))
def spOth (K : PySem.W.Frag) (CP CR : Addr) : Sp := fun vs H Q E => ∃ (o : V) (t : Value), vs = [o] ∧ TyX K H o t ∧ PySem.W.kitOne K t (.ref CP) = some false ∧ o ≠ .non ∧ ToldP E CR H (.str "other")
section
variable {P : Program} {w : World} {K : PySem.W.Frag} {mg : Str → Option Value} {base : Heap}
theorem scBlk : FnScope ["value"] ["value"] (defScope sBlockOf) := ⟨rfl, rfl, rfl, by decide +kernel, rfl, by decide +kernel, by decide +kernel⟩
theorem scOth : FnScope ["value"] ["value"] (defScope sOtherOf) := ⟨rfl, rfl, rfl, by decide +kernel, rfl, by decide +kernel, by decide +kernel⟩
theorem ok_blk {f CP CR fI : Addr} {fd fdI : FuncData} (F : Fun K "_block_of" "_block_of" sBlockOf f fd) (T : Txt mg) (gP : mg "Program" = some (.ref CP)) (EN : ErrP K mg "BadProgram" CR fI) (bI : Binds K fdI ["self", "part"] []) (GI : FnOk P w K mg base CX0 3 fI fdI ["self", "part"] (spIniP K CR)) :
    FnOk P w K mg base (L2.CX P w) 5 f fd ["value"] (spBlk K CP CR) := by
  refine F.okX scBlk (fun vs H Q E h => ?_) (fun cdv A outer s H vs Q E hr h => ?_)
  · obtain ⟨b, t, r, rfl, _⟩ := h
    rfl
  · obtain ⟨b, t, r, rfl, ty, kt, yes, no⟩ := h
    refine ⟨_, pss_cons (ps_if (pt_not (pt_val (pe_callB call_isi (by rfl) T.isi (by decide +kernel) (pa_cons (pv 0) (pa_cons (pe_glob (v := .ref CP) rfl gP rfl) pa_nil)))))
      (pss_one (ps_raise rfl (takes_of rfl rfl rfl rfl) (pmk_oex EN.ox EN.ini EN.ty GI hr bI .nil pass0 (by rfl) EN.g (pa_cons pe_str pa_nil)))) pss_nil) (pss_one (ps_ret (pv 0))), ?_⟩
    refine ⟨b, rfl, b, .ref CP, t, .ref CP, r, rfl, .own _, ty, kt, r, rfl, ?_⟩
    cases r with
    | true => exact iteF ⟨b, rfl, yes rfl⟩
    | false => exact iteT ⟨by show 1 ≤ 1000; decide, raisedP (fI := fI) (.flat (.str _)) (no rfl)⟩
theorem ok_oth {f CP CR fI : Addr} {fd fdI : FuncData} (F : Fun K "_other_of" "_other_of" sOtherOf f fd) (T : Txt mg) (gP : mg "Program" = some (.ref CP)) (EN : ErrP K mg "BadProgram" CR fI) (bI : Binds K fdI ["self", "part"] []) (GI : FnOk P w K mg base CX0 3 fI fdI ["self", "part"] (spIniP K CR)) :
    FnOk P w K mg base (L2.CX P w) 5 f fd ["value"] (spOth K CP CR) := by
  refine F.okX scOth (fun vs H Q E h => ?_) (fun cdv A outer s H vs Q E hr h => ?_)
  · obtain ⟨o, t, rfl, _⟩ := h
    rfl
  · obtain ⟨o, t, rfl, ty, kt, nn, no⟩ := h
    refine ⟨_, pss_cons (ps_if (pt_cmpR op_isN (pv 0) pe_non (nomark _)) (pss_one ps_never) pss_nil)
      (pss_cons (ps_if (pt_not (pt_val (pe_callB call_isi (by rfl) T.isi (by decide +kernel) (pa_cons (pv 0) (pa_cons (pe_glob (v := .ref CP) rfl gP rfl) pa_nil)))))
      (pss_one (ps_raise rfl (takes_of rfl rfl rfl rfl) (pmk_oex EN.ox EN.ini EN.ty GI hr bI .nil pass0 (by rfl) EN.g (pa_cons pe_str pa_nil)))) pss_nil) (pss_one (ps_ret (pv 0)))), ?_⟩
    refine ⟨o, rfl, rfl, _, rfl, ite2 (fun e => absurd (of_decide_eq_true e) nn) (fun _ => ?_)⟩
    refine ⟨o, rfl, o, .ref CP, t, .ref CP, false, rfl, .own _, ty, kt, false, rfl, iteT ?_⟩
    exact ⟨by show 1 ≤ 1000; decide, raisedP (fI := fI) (.flat (.str _)) no⟩
end
end My
namespace My
open PySem PySem.Spec PyProof.Rows L2
section
variable {P : Program} {w : World} {K : PySem.W.Frag} {mg : Str → Option Value} {base : Heap}
theorem pxc {A : Prop} : A → A := id
theorem scPutI : FnScope ["self", "cell", "value"] ["self", "cell", "value"] (defScope sPutI) := ⟨rfl, rfl, rfl, by decide +kernel, rfl, by decide +kernel, by decide +kernel⟩
theorem scCopyI : FnScope ["self", "cell", "other"] ["self", "cell", "other"] (defScope sCopyI) := ⟨rfl, rfl, rfl, by decide +kernel, rfl, by decide +kernel, by decide +kernel⟩
theorem scSayI : FnScope ["self", "log", "word"] ["self", "log", "word"] (defScope sSayI) := ⟨rfl, rfl, rfl, by decide +kernel, rfl, by decide +kernel, by decide +kernel⟩
theorem scFailI : FnScope ["self", "name"] ["self", "name"] (defScope sFailI) := ⟨rfl, rfl, rfl, by decide +kernel, rfl, by decide +kernel, by decide +kernel⟩
theorem ok_putI {f fCh fV C CN CZ : Addr} {fd fdCh fdV : FuncData} (F : Fun K "__init__" "Put.__init__" sPutI f fd) (D : DCls K mg "Put" C ["cell", "value", "fields"]) (FC : Fun K "check_name" "check_name" sCheck fCh fdCh) (bC : Binds K fdCh ["value"] []) (gC : mg "check_name" = some (.ref fCh)) (G : FnOk P w K mg base (L2.CX P w) 5 fCh fdCh ["value"] (spCheck K CN))
    (FV : Fun K "_check_value" "_check_value" sChkVal fV fdV) (bV : Binds K fdV ["value"] []) (gV : mg "_check_value" = some (.ref fV)) (GV : FnOk P w K mg base (L2.CX P w) 5 fV fdV ["value"] (spCkV CZ)) : FnOk P w K mg base (L2.CX P w) 6 f fd ["self", "cell", "value"] (spPutI K C CN CZ) := by
  refine F.okX scPutI (fun vs H Q E h => ?_) (fun cdv A outer s H vs Q E hr h => ?_)
  · obtain ⟨a, dx, x, v, d, dv, rfl, _⟩ := h
    rfl
  · obtain ⟨a, dx, x, v, d, dv, rfl, ha, na, th, tv, e1, e2, yes⟩ := h
    refine ⟨_, pss_cons (ps_expr (pe_call G hr (by rfl) gC FC.kp bC .nil (passes_call (takes_of rfl rfl rfl rfl) (fun _ _ _ _ h => h)) (pa_cons (pv 1) pa_nil)))
      (pss_cons (ps_expr (pe_call GV hr (by rfl) gV FV.kp bV .nil (passes_call (takes_of rfl rfl rfl rfl) (fun _ _ _ _ h => h)) (pa_cons (pv 2) pa_nil)))
      (pss_cons (ps_fld (pv 0) (pv 1) (by rfl)) (pss_cons (ps_fld (pv 0) (pv 2) (by rfl)) (pss_one (ps_fld (pv 0) (pe_tup (pa_cons (pv 1) (pa_cons (pv 2) pa_nil))) (by rfl)))))), ?_⟩
    refine ⟨x, rfl, x, d, rfl, na, th, fun hx H1 sm => ?_, fun hx => (e1 hx).told fun _ _ _ e => e⟩
    refine ⟨v, rfl, v, dv, rfl, tv.keep sm, fun hv => ?_, fun hv => (e2 hx hv).told (.of sm)⟩
    refine ⟨x, rfl, .ref a, rfl, a, C, dx, [], rfl, sm _ _ ha, D.c, D.no _ (by simp), by decide, ?_⟩
    refine ⟨v, rfl, .ref a, rfl, a, C, dx, [("cell", x)], rfl, upd_same, D.c, D.no _ (by simp), by show 1 < 1000; decide, ?_⟩
    refine ⟨x, rfl, v, rfl, by show 2 ≤ sizeLine; decide, fun t ht => ?_⟩
    have na2 : a ≠ t := ne_of_none upd_same ht
    refine ⟨.ref a, rfl, a, C, dx, [("cell", x), ("value", v)], rfl, by rw [upd_ne na2]; exact upd_same, D.c, D.no _ (by simp), by show 2 < 1000; decide, ?_⟩
    refine yes hx hv t _ (fun b o n e => ?_) upd_same
    have e' := sm b o e
    have nt : b ≠ t := fun z => by
      rw [z] at n e'
      rw [upd_ne n, upd_ne n] at ht
      rw [ht] at e'
      cases e'
    rw [upd_ne n, upd_ne nt, upd_ne n, upd_ne n]
    exact e'
theorem ok_copyI {f fCh C CN : Addr} {fd fdCh : FuncData} (F : Fun K "__init__" "Copy.__init__" sCopyI f fd) (FC : Fun K "check_name" "check_name" sCheck fCh fdCh) (bC : Binds K fdCh ["value"] []) (gC : mg "check_name" = some (.ref fCh)) (G : FnOk P w K mg base (L2.CX P w) 5 fCh fdCh ["value"] (spCheck K CN)) :
    FnOk P w K mg base (L2.CX P w) 6 f fd ["self", "cell", "other"] (spCopyI K C CN) := by
  refine F.okX scCopyI (fun vs H Q E h => ?_) (fun cdv A outer s H vs Q E hr h => ?_)
  · obtain ⟨a, dx, x, v, d, dv, rfl, _⟩ := h
    rfl
  · obtain ⟨a, dx, x, v, d, dv, rfl, ha, na, th, nv, tv, e1, e2⟩ := h
    refine ⟨_, pss_cons (ps_expr (pe_call G hr (by rfl) gC FC.kp bC .nil (passes_call (takes_of rfl rfl rfl rfl) (fun _ _ _ _ h => h)) (pa_cons (pv 1) pa_nil)))
      (pss_cons (ps_expr (pe_call G hr (by rfl) gC FC.kp bC .nil (passes_call (takes_of rfl rfl rfl rfl) (fun _ _ _ _ h => h)) (pa_cons (pv 2) pa_nil)))
      (pss_cons ps_never (pss_cons ps_never (pss_one ps_never)))), ?_⟩
    refine ⟨x, rfl, x, d, rfl, na, th, fun hx H1 sm => ?_, fun hx => (e1 hx).told fun _ _ _ e => e⟩
    refine ⟨v, rfl, v, dv, rfl, nv.keep tv sm, tv.keep sm, fun hv => ?_, fun _ => (e2 hx).2.told (.of sm)⟩
    rw [(e2 hx).1] at hv
    cases hv
theorem ok_sayI {f fCh fW C CN CW fI : Addr} {fd fdCh fdW fdI : FuncData} (F : Fun K "__init__" "Say.__init__" sSayI f fd) (D : DCls K mg "Say" C ["log", "word", "fields"]) (FC : Fun K "check_name" "check_name" sCheck fCh fdCh) (bC : Binds K fdCh ["value"] []) (gC : mg "check_name" = some (.ref fCh)) (G : FnOk P w K mg base (L2.CX P w) 5 fCh fdCh ["value"] (spCheck K CN))
    (FW : Fun K "is_word" "is_word" sWord fW fdW) (bW : Binds K fdW ["value"] []) (gW : mg "is_word" = some (.ref fW)) (GW : FnOk P w K mg base CX0 1 fW fdW ["value"] (spWord K wd))
    (EN : Err K mg "BadWord" CW fI) (bI : Binds K fdI ["self", "value"] []) (GI : FnOk P w K mg base CX0 3 fI fdI ["self", "value"] (spIni K CW)) : FnOk P w K mg base (L2.CX P w) 6 f fd ["self", "log", "word"] (spSayI K C CN CW) := by
  refine F.okX scSayI (fun vs H Q E h => ?_) (fun cdv A outer s H vs Q E hr h => ?_)
  · obtain ⟨a, dx, x, v, d, dv, rfl, _⟩ := h
    rfl
  · obtain ⟨a, dx, x, v, d, dv, rfl, ha, na, th, nv, tv, e1, e2, yes⟩ := h
    refine ⟨_, pss_cons (ps_expr (pe_call G hr (by rfl) gC FC.kp bC .nil (passes_call (takes_of rfl rfl rfl rfl) (fun _ _ _ _ h => h)) (pa_cons (pv 1) pa_nil)))
      (pss_cons (ps_if (pt_not (pt_val (pe_call GW (hr.mono (by decide)) (by rfl) gW FW.kp bW .nil pass0 (pa_cons (pv 2) pa_nil)))) (pss_one (ps_raise rfl (takes_of rfl rfl rfl rfl) (pmk_oex EN.ox EN.ini EN.ty GI (hr.mono (by decide)) bI .nil pass0 (by rfl) EN.g (pa_cons (pv 2) pa_nil)))) pss_nil)
      (pss_cons (ps_fld (pv 0) (pv 1) (by rfl)) (pss_cons (ps_fld (pv 0) (pv 2) (by rfl)) (pss_one (ps_fld (pv 0) (pe_tup (pa_cons (pv 1) (pa_cons (pv 2) pa_nil))) (by rfl)))))), ?_⟩
    refine ⟨x, rfl, x, d, rfl, na, th, fun hx H0 sm0 => ?_, fun hx => (e1 hx).told fun _ _ _ e => e⟩
    have good : isWd v = true → ∀ H1, Same' H H1 → tSeq (sFld K (tVar 0) (tVar 1) "log") (tSeq (sFld K (tVar 0) (tVar 2) "word") (sFld K (tVar 0) (tTup (tCons (tVar 1) (tCons (tVar 2) tNil))) "fields")) { nx := fun _ H' => Q V.non H', rt := Q } (L2.start ["self", "log", "word"] [V.ref a, x, v]) H1 := fun hv H1 sm => by
      refine ⟨x, rfl, .ref a, rfl, a, C, dx, [], rfl, sm _ _ ha, D.c, D.no _ (by simp), by decide, ?_⟩
      refine ⟨v, rfl, .ref a, rfl, a, C, dx, [("log", x)], rfl, upd_same, D.c, D.no _ (by simp), by show 1 < 1000; decide, ?_⟩
      refine ⟨x, rfl, v, rfl, by show 2 ≤ sizeLine; decide, fun t ht => ?_⟩
      have na2 : a ≠ t := ne_of_none upd_same ht
      refine ⟨.ref a, rfl, a, C, dx, [("log", x), ("word", v)], rfl, by rw [upd_ne na2]; exact upd_same, D.c, D.no _ (by simp), by show 2 < 1000; decide, ?_⟩
      refine yes hx hv t _ (fun b o n e => ?_) upd_same
      have e' := sm b o e
      have nt : b ≠ t := fun z => by
        rw [z] at n e'
        rw [upd_ne n, upd_ne n] at ht
        rw [ht] at e'
        cases e'
      rw [upd_ne n, upd_ne nt, upd_ne n, upd_ne n]
      exact e'
    refine ⟨v, rfl, v, rfl, ?_⟩
    rcases nv.keep tv sm0 with ⟨z, rfl, zl⟩ | nt
    · refine .inl ⟨z, rfl, zl, fun H1 sm => ⟨wd z, rfl, ?_⟩⟩
      cases hz : wd z with
      | true => exact iteF (good hz H1 (sm0.trans sm))
      | false => exact iteT ⟨_, rfl, by show 1 ≤ 1000; decide, raised (fI := fI) (tv.keep (sm0.trans sm)) ((e2 hx hz).told (.of (sm0.trans sm)))⟩
    · exact .inr ⟨nt, false, rfl, iteT ⟨_, rfl, by show 1 ≤ 1000; decide, raised (fI := fI) (tv.keep sm0) ((e2 hx (noText_isWd nt)).told (.of sm0))⟩⟩
theorem ok_failI {f fCh C CN : Addr} {fd fdCh : FuncData} (F : Fun K "__init__" "Fail.__init__" sFailI f fd) (FC : Fun K "check_name" "check_name" sCheck fCh fdCh) (bC : Binds K fdCh ["value"] []) (gC : mg "check_name" = some (.ref fCh)) (G : FnOk P w K mg base (L2.CX P w) 5 fCh fdCh ["value"] (spCheck K CN)) :
    FnOk P w K mg base (L2.CX P w) 6 f fd ["self", "name"] (spFailI K C CN) := by
  refine F.okX scFailI (fun vs H Q E h => ?_) (fun cdv A outer s H vs Q E hr h => ?_)
  · obtain ⟨a, dx, x, d, rfl, _⟩ := h
    rfl
  · obtain ⟨a, dx, x, d, rfl, ha, na, th, hx, e1⟩ := h
    refine ⟨_, pss_cons (ps_expr (pe_call G hr (by rfl) gC FC.kp bC .nil (passes_call (takes_of rfl rfl rfl rfl) (fun _ _ _ _ h => h)) (pa_cons (pv 1) pa_nil))) (pss_cons ps_never (pss_one ps_never)), ?_⟩
    refine ⟨x, rfl, x, d, rfl, na, th, fun h => ?_, fun _ => e1.told fun _ _ _ e => e⟩
    rw [hx] at h
    cases h
end
end My
namespace My
open PySem PySem.Spec PyProof.Rows L2
section
variable {P : Program} {w : World} {K : PySem.W.Frag} {mg : Str → Option Value} {base : Heap}
theorem scIfI : FnScope ["self", "cell", "value", "block", "other"] ["self", "cell", "value", "block", "other"] (defScope sIfI) := ⟨rfl, rfl, rfl, by decide +kernel, rfl, by decide +kernel, by decide +kernel⟩
theorem scCatchI : FnScope ["self", "name", "block", "other"] ["self", "name", "block", "other"] (defScope sCatchI) := ⟨rfl, rfl, rfl, by decide +kernel, rfl, by decide +kernel, by decide +kernel⟩
theorem scChooseI : FnScope ["self", "block", "other"] ["self", "block", "other"] (defScope sChooseI) := ⟨rfl, rfl, rfl, by decide +kernel, rfl, by decide +kernel, by decide +kernel⟩
theorem keep_upd {a : Addr} {H H1 : Hp} {o : HO} (k : Keep1 a H H1) : Keep1 a H (upd H1 a o) := fun b u n e => by
  rw [upd_ne n]
  exact k b u n e
/-- the two blocks: one of them is refused -/
theorem two_blocks {nm : String} {C CP CR a dx : Addr} {fs0 : List Str} {fs : List (Str × V)} {H H1 : Hp} {b o : V} {E : XK} {σ : L2.St} {ib io : Nat} {t3 : TS} {D : Ends} (DC : DCls K mg nm C fs0) (mb : (Str.ofString "block") ∈ fs0) (B : Blocks2 a K CP CR H b o E) (k : Keep1 a H H1) (i : H1 a = some (.ins C dx fs)) (few : fs.length < 1000)
    (s0 : σ[0]? = some (some (.ref a))) (sb : σ[ib]? = some (some b)) (so : σ[io]? = some (some o)) :
    tSeq (sFld K (tVar 0) (tCall (spBlk K CP CR) [] E (tCons (tVar ib) tNil)) "block") (tSeq (sFld K (tVar 0) (tCall (spOth K CP CR) [] E (tCons (tVar io) tNil)) "other") t3) D σ H1 := by
  obtain ⟨r, pb, nb, yb⟩ := B
  obtain ⟨t, ty, kt⟩ := pb H1 k
  refine ⟨b, sb, b, t, r, rfl, ty, kt, fun hr => ?_, fun hr => (nb hr).told k⟩
  obtain ⟨po, nn, eo⟩ := yb hr
  refine ⟨.ref a, s0, a, C, dx, fs, rfl, i, DC.c, DC.no _ mb, few, ?_⟩
  obtain ⟨t2, ty2, kt2⟩ := po _ (keep_upd k)
  exact ⟨o, so, o, t2, rfl, ty2, kt2, nn, eo.told (keep_upd k)⟩
theorem ok_ifI {f fCh fV fB fO C CN CZ CP CR : Addr} {fd fdCh fdV dB dO : FuncData} (F : FunD K "__init__" "If.__init__" (defArgs sIfI) (defBody sIfI) (defScope sIfI) [.non] [] f fd) (D : DCls K mg "If" C ["cell", "value", "block"]) (FC : Fun K "check_name" "check_name" sCheck fCh fdCh) (bC : Binds K fdCh ["value"] []) (gC : mg "check_name" = some (.ref fCh)) (G : FnOk P w K mg base (L2.CX P w) 5 fCh fdCh ["value"] (spCheck K CN))
    (FV : Fun K "_check_value" "_check_value" sChkVal fV fdV) (bV : Binds K fdV ["value"] []) (gV : mg "_check_value" = some (.ref fV)) (GV : FnOk P w K mg base (L2.CX P w) 5 fV fdV ["value"] (spCkV CZ))
    (FB : Fun K "_block_of" "_block_of" sBlockOf fB dB) (bB : Binds K dB ["value"] []) (gB : mg "_block_of" = some (.ref fB)) (GB : FnOk P w K mg base (L2.CX P w) 5 fB dB ["value"] (spBlk K CP CR))
    (FO : Fun K "_other_of" "_other_of" sOtherOf fO dO) (bO : Binds K dO ["value"] []) (gO : mg "_other_of" = some (.ref fO)) (GO : FnOk P w K mg base (L2.CX P w) 5 fO dO ["value"] (spOth K CP CR)) : FnOk P w K mg base (L2.CX P w) 6 f fd ["self", "cell", "value", "block", "other"] (spIfI K C CN CZ CP CR) := by
  refine F.ok scIfI (fun vs H Q E h => ?_) (fun cdv A outer s H vs Q E hr h => ?_)
  · obtain ⟨a, dx, x, v, b, o, d, dv, rfl, _⟩ := h
    rfl
  · obtain ⟨a, dx, x, v, b, o, d, dv, rfl, ha, na, th, tv, e1, e2, yes⟩ := h
    refine ⟨_, pss_cons (ps_expr (pe_call G hr (by rfl) gC FC.kp bC .nil (passes_call (takes_of rfl rfl rfl rfl) (fun _ _ _ _ h => h)) (pa_cons (pv 1) pa_nil)))
      (pss_cons (ps_expr (pe_call GV hr (by rfl) gV FV.kp bV .nil (passes_call (takes_of rfl rfl rfl rfl) (fun _ _ _ _ h => h)) (pa_cons (pv 2) pa_nil)))
      (pss_cons (ps_fld (pv 0) (pv 1) (by rfl)) (pss_cons (ps_fld (pv 0) (pv 2) (by rfl))
      (pss_cons (ps_fld (pv 0) (pe_call GB hr (by rfl) gB FB.kp bB .nil (passes_call (takes_of rfl rfl rfl rfl) (fun _ _ _ _ h => h)) (pa_cons (pv 3) pa_nil)) (by rfl))
      (pss_cons (ps_fld (pv 0) (pe_call GO hr (by rfl) gO FO.kp bO .nil (passes_call (takes_of rfl rfl rfl rfl) (fun _ _ _ _ h => h)) (pa_cons (pv 4) pa_nil)) (by rfl)) (pss_one ps_never)))))), ?_⟩
    refine ⟨x, rfl, x, d, rfl, na, th, fun hx H1 sm => ?_, fun hx => (e1 hx).told fun _ _ _ e => e⟩
    refine ⟨v, rfl, v, dv, rfl, tv.keep sm, fun hv => ?_, fun hv => (e2 hx hv).told (.of sm)⟩
    refine ⟨x, rfl, .ref a, rfl, a, C, dx, [], rfl, sm _ _ ha, D.c, D.no _ (by simp), by decide, ?_⟩
    refine ⟨v, rfl, .ref a, rfl, a, C, dx, [("cell", x)], rfl, upd_same, D.c, D.no _ (by simp), by show 1 < 1000; decide, ?_⟩
    exact two_blocks D (by simp) (yes hx hv) (keep_upd (keep_upd (.of sm))) upd_same (by show 2 < 1000; decide) rfl rfl rfl
theorem ok_catchI {f fCh fB fO C CN CP CR : Addr} {fd fdCh dB dO : FuncData} (F : FunD K "__init__" "Catch.__init__" (defArgs sCatchI) (defBody sCatchI) (defScope sCatchI) [.non] [] f fd) (D : DCls K mg "Catch" C ["name", "block"]) (FC : Fun K "check_name" "check_name" sCheck fCh fdCh) (bC : Binds K fdCh ["value"] []) (gC : mg "check_name" = some (.ref fCh)) (G : FnOk P w K mg base (L2.CX P w) 5 fCh fdCh ["value"] (spCheck K CN))
    (FB : Fun K "_block_of" "_block_of" sBlockOf fB dB) (bB : Binds K dB ["value"] []) (gB : mg "_block_of" = some (.ref fB)) (GB : FnOk P w K mg base (L2.CX P w) 5 fB dB ["value"] (spBlk K CP CR))
    (FO : Fun K "_other_of" "_other_of" sOtherOf fO dO) (bO : Binds K dO ["value"] []) (gO : mg "_other_of" = some (.ref fO)) (GO : FnOk P w K mg base (L2.CX P w) 5 fO dO ["value"] (spOth K CP CR)) : FnOk P w K mg base (L2.CX P w) 6 f fd ["self", "name", "block", "other"] (spCatchI K C CN CP CR) := by
  refine F.ok scCatchI (fun vs H Q E h => ?_) (fun cdv A outer s H vs Q E hr h => ?_)
  · obtain ⟨a, dx, x, b, o, d, rfl, _⟩ := h
    rfl
  · obtain ⟨a, dx, x, b, o, d, rfl, ha, na, th, e1, yes⟩ := h
    refine ⟨_, pss_cons (ps_expr (pe_call G hr (by rfl) gC FC.kp bC .nil (passes_call (takes_of rfl rfl rfl rfl) (fun _ _ _ _ h => h)) (pa_cons (pv 1) pa_nil)))
      (pss_cons (ps_fld (pv 0) (pv 1) (by rfl))
      (pss_cons (ps_fld (pv 0) (pe_call GB hr (by rfl) gB FB.kp bB .nil (passes_call (takes_of rfl rfl rfl rfl) (fun _ _ _ _ h => h)) (pa_cons (pv 2) pa_nil)) (by rfl))
      (pss_cons (ps_fld (pv 0) (pe_call GO hr (by rfl) gO FO.kp bO .nil (passes_call (takes_of rfl rfl rfl rfl) (fun _ _ _ _ h => h)) (pa_cons (pv 3) pa_nil)) (by rfl)) (pss_one ps_never)))), ?_⟩
    refine ⟨x, rfl, x, d, rfl, na, th, fun hx H1 sm => ?_, fun hx => (e1 hx).told fun _ _ _ e => e⟩
    refine ⟨x, rfl, .ref a, rfl, a, C, dx, [], rfl, sm _ _ ha, D.c, D.no _ (by simp), by decide, ?_⟩
    exact two_blocks D (by simp) (yes hx) (keep_upd (.of sm)) upd_same (by show 1 < 1000; decide) rfl rfl rfl
theorem ok_chooseI {f fB fO C CP CR : Addr} {fd dB dO : FuncData} (F : FunD K "__init__" "Choose.__init__" (defArgs sChooseI) (defBody sChooseI) (defScope sChooseI) [.non] [] f fd) (D : DCls K mg "Choose" C ["block"])
    (FB : Fun K "_block_of" "_block_of" sBlockOf fB dB) (bB : Binds K dB ["value"] []) (gB : mg "_block_of" = some (.ref fB)) (GB : FnOk P w K mg base (L2.CX P w) 5 fB dB ["value"] (spBlk K CP CR))
    (FO : Fun K "_other_of" "_other_of" sOtherOf fO dO) (bO : Binds K dO ["value"] []) (gO : mg "_other_of" = some (.ref fO)) (GO : FnOk P w K mg base (L2.CX P w) 5 fO dO ["value"] (spOth K CP CR)) : FnOk P w K mg base (L2.CX P w) 6 f fd ["self", "block", "other"] (spChooseI K C CP CR) := by
  refine F.ok scChooseI (fun vs H Q E h => ?_) (fun cdv A outer s H vs Q E hr h => ?_)
  · obtain ⟨a, dx, b, o, rfl, _⟩ := h
    rfl
  · obtain ⟨a, dx, b, o, rfl, ha, yes⟩ := h
    refine ⟨_, pss_cons (ps_fld (pv 0) (pe_call GB hr (by rfl) gB FB.kp bB .nil (passes_call (takes_of rfl rfl rfl rfl) (fun _ _ _ _ h => h)) (pa_cons (pv 1) pa_nil)) (by rfl))
      (pss_cons (ps_fld (pv 0) (pe_call GO hr (by rfl) gO FO.kp bO .nil (passes_call (takes_of rfl rfl rfl rfl) (fun _ _ _ _ h => h)) (pa_cons (pv 2) pa_nil)) (by rfl)) (pss_one ps_never)), ?_⟩
    exact two_blocks D (by simp) yes (fun _ _ _ e => e) ha (by decide) rfl rfl rfl
theorem ok_progI {CP CS CD CC aS aT fB fN fV fA f : Addr} {dB dN dV dA fd : FuncData} (F : Fun K "__init__" "Program.__init__" sProgI f fd) (Z : PgK P w K mg base CP CS CD CC aS aT fB fN fV fA dB dN dV dA) : FnR P w K mg base (L2.CX P w) 5 f (spProg CP CS) := by
  obtain ⟨oc, od, kV, doc, pm, an, cdv, ct, osl, rfl, lk, hcd⟩ := F.ex
  refine FnR.imp (StX.fn_star (ps := ["self"]) (pv := "deeds") (sp := spProgT CP CS) lk hcd scPi StX.cxUp (StX.bind_star1 (B := fun us => bindArgs (PySem.W.fnOf "__init__" "Program.__init__" (defArgs sProgI) (defBody sProgI) (defScope sProgI) .none kV doc pm an cdv ct) ⟨us, []⟩) (fun _ => rfl) (fun _ _ _ => rfl)) fun A0 outer s H vs Q E hr h => ?_) fun vs H Q E h => ?_
  · obtain ⟨t, ht, hq⟩ := prog_body (f := f) (cdv := cdv) (A0 := A0) (outer := outer) (s := s) Z hr h
    exact ⟨t, ht.nox, hq⟩
  · obtain ⟨a, dx, st, rfl, ha, sa, q⟩ := h
    refine ⟨[.ref a], [.ref st], rfl, rfl, by show 1 ≤ sizeLine; decide, fun p hp => ?_⟩
    have s := same_new (o := .tup [.ref st]) hp
    exact ⟨a, dx, p, st, rfl, s _ _ ha, upd_same, sa.keep s, fun H' k e => q H' ((Keep1.of s).trans k) e⟩
end
end My
namespace My
open PySem PySem.Spec PyProof.Rows L2
/-- what the walk of the law's body has to give where one def of the text makes lambdas: its code object at c, the table of that one at P, empty so far -/
def LawBodyT (l : PySem.W.OpenLaw) (w : World) (K : PySem.W.Frag) (mg : Str → Option Value) (n : Nat) (N : List Str) (qual : Str) (st : Stmt) (fa c P : Addr) : Prop :=
  ∀ base : Heap, K.In base → base.Ns mainGlobals mg → LamX.TabB base mg c P → ∀ (cdv : Value) (s : Shared) (H : Hp) (a : Addr) (ns : List Int), ns.length ≤ n → H P = some (.tbl #[]) → SqL K H a (ns.map V.int) →
    ∃ t, PSs (cxOf CX0 l.prog w K mg base N qual (defScope st) fa cdv callerA [] s H E0).nox (defBody st) t ∧
      t { nx := fun _ _ => False, rt := fun v _ => v = .bl true } (start N [.ref a]) H
theorem enterB {l : PySem.W.OpenLaw} {w : World} {K : PySem.W.Frag} {mg : Str → Option Value} {N : List Str} {x nm qual : Str} {st : Stmt} {fa a : Addr} {fd : FuncData}
    {base : Heap} {s : Shared} {H : Hp} (F : Fun K nm qual st fa fd) (S : FnScope N [x] (defScope st)) (hb : ∀ (s : Shared) (u : Value), BindsTo s fd ⟨[u], []⟩ [(x, u)])
    (B : ∀ cdv : Value, ∃ t, PSs (cxOf CX0 l.prog w K mg base N qual (defScope st) fa cdv callerA [] s H E0).nox (defBody st) t ∧ t { nx := fun _ _ => False, rt := fun v _ => v = .bl true } (start N [.ref a]) H)
    (e0 : Env0 l.prog w K mg base callerA [] s H) :
    codeAny (model l.prog w) callerA (.call (.ref fa) ⟨[.ref a], []⟩)
      (fun r s' => r = .ok (.ret (.bool true)) ∧ ∃ H', s'.os = s.os ∧ AllBare s'.gens ∧ Un [] [] H H' s.heap s'.heap ∧ HOk l.prog w H' s'.heap) s := by
  obtain ⟨oc, od, kV, doc, pm, an, cdv, ct, osl, rfl, lk, hcd⟩ := F.ex
  have stays : ∀ b o, base.get? b = some o → s.heap.get? b = some o := fun b o z => (e0.bs b o z).1
  have KS : K.In s.heap := e0.mod.kin.keeps stays
  have NL : s.heap.NoLimit := e0.mod.nolimit.keeps stays
  have kinds : ∀ y ∈ [x].zip [Value.ref a], (defScope st).names.lookup y.1 = some .local ∨ ((defScope st).names.lookup y.1 = some .cell ∧ ((cellsFrom (s.heap.objs.size + 1) (defScope st).names []).lookup y.1).isSome = true) := by
    intro y hy
    obtain rfl : y = (x, Value.ref a) := List.mem_singleton.mp hy
    cases S.par x (List.mem_singleton.mpr rfl) with
    | inl q => exact .inl q
    | inr q => exact .inr ⟨q, PySem.W.cellsFrom_some _ _ _ (.inl q)⟩
  refine codeAny_call_function (by decide) (KS _ _ lk) rfl S.co S.gen rfl (PySem.W.codeRec_of KS hcd) (hb s (.ref a) _ _ _ _ ?_)
  refine wpAny_newFunctionEnv_cells S.kind kinds fun env he s2 ic => ?_
  subst he
  refine ⟨NL.keeps ic.toInCall.keep, codeAny_func ?_⟩
  obtain ⟨t, ht, hq⟩ := B cdv
  have J0 := inv_start (E := E0) (CX := CX0) S (show callerA.handled = none from rfl) e0 (vs := [.ref a]) (us := [.ref a]) rfl (.cons rfl .nil) ic
  refine wpAny_mono (ht.run [] s2 (start N [.ref a]) H _ (J0.wish _) hq) (fun fl s' hs => ?_) fun e s' hs => hs.elim
  cases fl with
  | ret u =>
    obtain ⟨v, σ', H', J, rv, q⟩ := hs
    subst q
    obtain rfl : u = Value.bool true := rv
    exact ⟨rfl, H', J.os, J.bare, J.base, J.hok⟩
  | next => exact (let ⟨_, _, _, q⟩ := hs; q).elim
  | brk => exact (let ⟨_, _, _, q⟩ := hs; q).elim
  | cont => exact (let ⟨_, _, _, q⟩ := hs; q).elim
/-- a table that is empty so far -/
abbrev tab0 : Obj := { cls := .none, data := .fields #[] }
theorem settleT {l : PySem.W.OpenLaw} {w : World} {K : PySem.W.Frag} {mg mb : Str → Option Value} {n : Nat} {N : List Str} {x nm qual : Str} {st : Stmt} {fa a c P : Addr} {fd : FuncData} {s : Shared} {H : Hp} {ns : List Int} {vs : List Value}
    (KX : K.In s.heap) (hns : s.heap.Ns mainGlobals mg) (hb : s.heap.Ns builtinsNs mb) (hbb : ∀ x : Str, x ≠ "__name__" → mb x = bootBuiltins x) (hlim : s.heap.NoLimit) (hg : s.gens = #[])
    (ha : s.heap.get? a = some { cls := .type "list", data := .seq vs.toArray }) (hn : ns.length ≤ n)
    (hT : s.heap.get? P = some tab0) (nT : K.lookup P = none) (C : PySem.W.CodeHd s.heap c P) (bm : s.heap.BuiltinsAt mg P)
    (F : Fun K nm qual st fa fd) (S : FnScope N [x] (defScope st)) (hbi : ∀ (s : Shared) (u : Value), BindsTo s fd ⟨[u], []⟩ [(x, u)]) (B : LawBodyT l w K mg n N qual st fa c P)
    (hP : H P = some (.tbl #[])) (hO : ∀ b, b ≠ P → H b = none ∨ ∃ o xs, H b = some (.frz o (.lst xs))) (hS : SqL K H a (ns.map V.int)) (hok : HOk l.prog w H s.heap) (one : ∀ b, H b ≠ none → b = a ∨ b = P) (out : H a ≠ none → K.lookup a = none) :
    codeAny (model l.prog w) callerA (.call (.ref fa) ⟨[.ref a], []⟩) (fun r s' => r = .ok (.ret (.bool true)) ∧ OldK s.heap s'.heap ∧ s'.os = s.os ∧ AllBare s'.gens) s := by
  -- what is neither the script nor the table is not tracked
  have free : ∀ {b : Addr} {o : Obj}, s.heap.get? b = some o → (∀ xs k, o.data ≠ .seq xs k) → o.data ≠ .fields #[] → H b = none := by
    intro b o e nd nf
    by_cases z : H b = none
    · exact z
    · rcases one b z with eb | eb
      · rw [eb, ha] at e
        injection e with e
        exact absurd (by rw [← e]) (nd vs.toArray 0)
      · rw [eb, hT] at e
        injection e with e
        exact absurd (by rw [← e]) nf
  have seen : ∀ {b : Addr} {o : Obj}, s.heap.get? b = some o → (∀ xs k, o.data ≠ .seq xs k) → o.data ≠ .fields #[] → (hidT s.heap H).get? b = some o := fun e h1 h2 => hidT_get e (free e h1 h2)
  have names : ∀ {b : Addr} {m : Str → Option Value}, s.heap.Ns b m → (hidT s.heap H).Ns b m := by
    intro b m nb
    obtain ⟨o, es, ep, e, d, rest⟩ := nb
    exact ⟨o, es, ep, seen e (fun xs k z => by rw [d] at z; injection z) (fun z => by rw [d] at z; injection z), d, rest⟩
  have KB : K.In (hidT s.heap H) := by
    intro b o e
    refine hidT_get (KX b o e) ?_
    by_cases z : H b = none
    · exact z
    · rcases one b z with eb | eb
      · subst eb
        rw [out z] at e
        injection e
      · subst eb
        rw [nT] at e
        injection e
  have E0' : Env0 l.prog w K mg (hidT s.heap H) callerA [] s H := by
    refine ⟨rfl, ⟨KB, names hns, ⟨mb, names hb, hbb⟩, ?_⟩, fun b o e => of_hidT e, Nat.le_of_eq (hidT_size _ _), trivial, ?_, hok, .of_eq hg⟩
    · obtain ⟨mc, c1, c2⟩ := hlim
      exact ⟨mc, names c1, c2⟩
    · intro b z
      exact absurd (show b ∈ ([] : List Addr) from z) List.not_mem_nil
  have TB : LamX.TabB (hidT s.heap H) mg c P := by
    refine ⟨?_, ?_, fun z => ?_⟩
    · obtain ⟨o, us, file, tf, flags, tg, inF, text, tt, e1, r1, r2, r3, rest⟩ := C
      refine ⟨o, us, file, tf, flags, tg, inF, text, tt, seen e1 (fun xs k z => by rw [r2] at z; injection z) (fun z => ?_), r1, r2, r3, rest⟩
      rw [r2] at z
      injection z with z
      rw [z] at r3
      simp at r3
    · obtain ⟨b, ob, b1, b2, b3, b4, b5, b6, b7, b8⟩ := bm
      exact ⟨b, ob, b1, b2, b3, b4, seen b5 (fun xs k z => by rw [b8] at z; injection z) (fun z => by rw [b8] at z; injection z), b6, b7, b8⟩
    · obtain ⟨o, es, ep, e, d, _⟩ := hns
      rw [z, hT] at e
      injection e with e
      rw [← e] at d
      injection d
  refine codeAny_mono (enterB F S hbi (fun cdv => B _ KB (names hns) TB cdv s H a ns hn hP hS) E0') fun r s' h => ?_
  obtain ⟨e1, H', os, bare, un, hok'⟩ := h
  obtain ⟨more, eP⟩ := un.tbls P #[] hP
  have grown : s'.heap.get? P = some { cls := .none, data := .fields (#[] ++ more) } := hok' P _ eP
  have kept : ∀ b o, b ≠ P → s.heap.get? b = some o → s'.heap.get? b = some o := by
    intro b o nb e
    by_cases z : H b = none
    · exact un.keep b o e z (show b ∉ ([] : List Addr) from List.not_mem_nil) List.not_mem_nil
    · rcases hO b nb with y | ⟨ob, xs, y⟩
      · exact absurd y z
      · have g1 := (hok b _ y).1
        have g2 := (hok' b _ (un.frzs b ob _ y)).1
        rw [g1] at e
        injection e with e
        rw [← e]
        exact g2
  refine ⟨e1, ⟨fun b o e => ?_, fun b o e => ?_⟩, os, bare⟩
  · by_cases nb : b = P
    · subst nb
      rw [hT] at e
      injection e with e
      subst e
      exact .inr (.inl ⟨(C.tab hT).isCodeTable, rfl, #[], more, rfl, grown⟩)
    · exact .inl (kept b o nb e)
  · by_cases nb : b = P
    · subst nb
      exact ⟨_, grown⟩
    · exact ⟨o, kept b o nb e⟩
/-- the goal that the head leaves, from the law's body walked with known guards and one table -/
theorem law_topT {l : PySem.W.OpenLaw} {n : Nat} {q : Program} {loose : List Str} {XP : (Str → Option Value) → Heap → Prop} {YP : World → Heap → Prop} {d : DefRec} {K : Params → PySem.W.Frag} {N : List Str} {x nm qual : Str} {st : Stmt}
    (hn : l.most = some n) (hn2 : n ≤ sizeLine) (hdf : d.params.defaults = []) (hY : ∀ (w : World) (h : Heap), YP w h → (K w.params).In h)
    (Z : ∀ (w : World) (mg : Str → Option Value) (fa : Addr) (h : Heap), YP w h → (K w.params).In h → h.Ns mainGlobals mg → mg d.name = some (.ref fa) →
      ∃ (fd : FuncData) (c P : Addr), h.get? P = some tab0 ∧ (K w.params).lookup P = none ∧ PySem.W.CodeHd h c P ∧ Fun (K w.params) nm qual st fa fd ∧ FnScope N [x] (defScope st) ∧ (∀ (s : Shared) (u : Value), BindsTo s fd ⟨[u], []⟩ [(x, u)]) ∧ LawBodyT l w (K w.params) mg n N qual st fa c P) :
    PySem.W.WalkO q loose XP YP l.row.toRowW d [] (fun f vs => PySem.call f vs) := by
  refine Att.attach_call hn hdf ?_
  intro w s₀ s mg mb fa o pm cd doc a vs ns G Y ho hd hcd hmg hobj hints hlen hg
  have KX : (K w.params).In s.heap := hY w _ Y
  obtain ⟨fd, c, P, hT, nT, C, F, S, hbi, B⟩ := Z w mg fa _ Y KX G.T.g hmg
  have bmP : s.heap.BuiltinsAt mg P := by
    obtain ⟨bm, ob, b1, b2, b3, b4, b5, b6⟩ := G.T.bmain
    refine ⟨bm, ob, b1, b2, fun z => ?_, fun z => ?_, b3, b4, b5, b6⟩
    · obtain ⟨o', es, ep, e, hd', _⟩ := G.T.g
      rw [z, e] at b3
      injection b3 with b3
      rw [b3, b6] at hd'
      injection hd'
    · rw [z, hT] at b3
      injection b3 with b3
      rw [← b3] at b6
      injection b6
  have rv : Vals (ns.map V.int) vs := vals_ints hints
  have top : ns.length ≤ sizeLine := Nat.le_trans hlen hn2
  have naP : a ≠ P := fun z => by
    rw [z, hT] at hobj
    injection hobj with hobj
    have := congrArg Obj.data hobj
    injection this
  have plain := @settleT l w (K w.params) mg mb n N x nm qual st fa a c P fd s
  cases hk : (K w.params).lookup a with
  | some u =>
    have e := KX a u hk
    rw [hobj] at e
    injection e with e
    subst e
    refine plain (H := fun b => if b = P then some (.tbl #[]) else none) (ns := ns) (vs := vs) KX G.T.g G.T.b G.T.builtins G.T.nolimit hg hobj hlen hT nT C bmP F S hbi B (if_pos rfl) (fun b nb => .inl (if_neg nb)) (.inr ⟨_, vs.toArray, _, hk, rfl, rfl, rfl, ?_, ?_⟩) (fun b u z => ?_) (fun b z => ?_) (fun z => absurd (if_neg naP) z)
    · rw [List.size_toArray, hints.length]
      exact top
    · simpa using rv
    · by_cases hb : b = P
      · have y := (if_pos hb).symm.trans z
        injection y with y
        subst y
        subst hb
        exact hT
      · have y := (if_neg hb).symm.trans z
        injection y
    · by_cases hb : b = P
      · exact .inr hb
      · exact absurd (if_neg hb) z
  | none =>
    refine plain (H := fun b => if b = P then some (.tbl #[]) else scriptHp a vs ns b) (ns := ns) (vs := vs) KX G.T.g G.T.b G.T.builtins G.T.nolimit hg hobj hlen hT nT C bmP F S hbi B (if_pos rfl) (fun b nb => ?_) (.inl (.inr ⟨_, (if_neg naP).trans (if_pos rfl)⟩)) (fun b u z => ?_) (fun b z => ?_) (fun _ => hk)
    · by_cases eb : b = a
      · exact .inr ⟨_, _, (if_neg nb).trans (if_pos eb)⟩
      · exact .inl ((if_neg nb).trans (if_neg eb))
    · by_cases hb : b = P
      · have y := (if_pos hb).symm.trans z
        injection y with y
        subst y
        subst hb
        exact hT
      · have z1 := (if_neg hb).symm.trans z
        by_cases eb : b = a
        · have y := (if_pos eb).symm.trans z1
          injection y with y
          subst y
          subst eb
          exact ⟨hobj, by rw [List.length_map]; exact top, vs, _, rv, hobj⟩
        · have y := (if_neg eb).symm.trans z1
          injection y
    · by_cases hb : b = P
      · exact .inr hb
      · by_cases eb : b = a
        · exact .inl eb
        · exact absurd ((if_neg hb).trans (if_neg eb)) z
end My
namespace My
open PySem PySem.Spec PyProof.Rows L2
/-- what the walk of the law's body has to give where several defs of the text make lambdas: their code objects and tables, empty so far -/
def LawBodyTs (l : PySem.W.OpenLaw) (w : World) (K : PySem.W.Frag) (mg : Str → Option Value) (n : Nat) (N : List Str) (qual : Str) (st : Stmt) (fa : Addr) (cs : List (Addr × Addr)) : Prop :=
  ∀ base : Heap, K.In base → base.Ns mainGlobals mg → (∀ p ∈ cs, LamX.TabB base mg p.1 p.2) → ∀ (cdv : Value) (s : Shared) (H : Hp) (a : Addr) (ns : List Int), ns.length ≤ n → (∀ p ∈ cs, H p.2 = some (.tbl #[])) → SqL K H a (ns.map V.int) →
    ∃ t, PSs (cxOf CX0 l.prog w K mg base N qual (defScope st) fa cdv callerA [] s H E0).nox (defBody st) t ∧
      t { nx := fun _ _ => False, rt := fun v _ => v = .bl true } (start N [.ref a]) H
theorem settleTs {l : PySem.W.OpenLaw} {w : World} {K : PySem.W.Frag} {mg mb : Str → Option Value} {n : Nat} {N : List Str} {x nm qual : Str} {st : Stmt} {fa a : Addr} {cs : List (Addr × Addr)} {fd : FuncData} {s : Shared} {H : Hp} {ns : List Int} {vs : List Value}
    (KX : K.In s.heap) (hns : s.heap.Ns mainGlobals mg) (hb : s.heap.Ns builtinsNs mb) (hbb : ∀ x : Str, x ≠ "__name__" → mb x = bootBuiltins x) (hlim : s.heap.NoLimit) (hg : s.gens = #[])
    (ha : s.heap.get? a = some { cls := .type "list", data := .seq vs.toArray }) (hn : ns.length ≤ n)
    (hT : ∀ p ∈ cs, s.heap.get? p.2 = some tab0) (nT : ∀ p ∈ cs, K.lookup p.2 = none) (C : ∀ p ∈ cs, PySem.W.CodeHd s.heap p.1 p.2) (bm : ∀ p ∈ cs, s.heap.BuiltinsAt mg p.2)
    (F : Fun K nm qual st fa fd) (S : FnScope N [x] (defScope st)) (hbi : ∀ (s : Shared) (u : Value), BindsTo s fd ⟨[u], []⟩ [(x, u)]) (B : LawBodyTs l w K mg n N qual st fa cs)
    (hP : ∀ p ∈ cs, H p.2 = some (.tbl #[])) (hO : ∀ b, b ∉ cs.map (·.2) → H b = none ∨ ∃ o xs, H b = some (.frz o (.lst xs))) (hS : SqL K H a (ns.map V.int)) (hok : HOk l.prog w H s.heap) (one : ∀ b, H b ≠ none → b = a ∨ b ∈ cs.map (·.2)) (out : H a ≠ none → K.lookup a = none) :
    codeAny (model l.prog w) callerA (.call (.ref fa) ⟨[.ref a], []⟩) (fun r s' => r = .ok (.ret (.bool true)) ∧ OldK s.heap s'.heap ∧ s'.os = s.os ∧ AllBare s'.gens) s := by
  have isT : ∀ b, b ∈ cs.map (·.2) → s.heap.get? b = some tab0 := fun b hb => by
    obtain ⟨p, hp, e⟩ := List.mem_map.mp hb
    exact e ▸ hT p hp
  -- what is neither the script nor a table is not tracked
  have free : ∀ {b : Addr} {o : Obj}, s.heap.get? b = some o → (∀ xs k, o.data ≠ .seq xs k) → o.data ≠ .fields #[] → H b = none := by
    intro b o e nd nf
    by_cases z : H b = none
    · exact z
    · rcases one b z with eb | eb
      · rw [eb, ha] at e
        injection e with e
        exact absurd (by rw [← e]) (nd vs.toArray 0)
      · rw [isT b eb] at e
        injection e with e
        exact absurd (by rw [← e]) nf
  have seen : ∀ {b : Addr} {o : Obj}, s.heap.get? b = some o → (∀ xs k, o.data ≠ .seq xs k) → o.data ≠ .fields #[] → (hidT s.heap H).get? b = some o := fun e h1 h2 => hidT_get e (free e h1 h2)
  have names : ∀ {b : Addr} {m : Str → Option Value}, s.heap.Ns b m → (hidT s.heap H).Ns b m := by
    intro b m nb
    obtain ⟨o, es, ep, e, d, rest⟩ := nb
    exact ⟨o, es, ep, seen e (fun xs k z => by rw [d] at z; injection z) (fun z => by rw [d] at z; injection z), d, rest⟩
  have KB : K.In (hidT s.heap H) := by
    intro b o e
    refine hidT_get (KX b o e) ?_
    by_cases z : H b = none
    · exact z
    · rcases one b z with eb | eb
      · subst eb
        rw [out z] at e
        injection e
      · obtain ⟨p, hp, ep⟩ := List.mem_map.mp eb
        have z2 := nT p hp
        rw [ep, e] at z2
        cases z2
  have E0' : Env0 l.prog w K mg (hidT s.heap H) callerA [] s H := by
    refine ⟨rfl, ⟨KB, names hns, ⟨mb, names hb, hbb⟩, ?_⟩, fun b o e => of_hidT e, Nat.le_of_eq (hidT_size _ _), trivial, ?_, hok, .of_eq hg⟩
    · obtain ⟨mc, c1, c2⟩ := hlim
      exact ⟨mc, names c1, c2⟩
    · intro b z
      exact absurd (show b ∈ ([] : List Addr) from z) List.not_mem_nil
  have TB : ∀ p ∈ cs, LamX.TabB (hidT s.heap H) mg p.1 p.2 := by
    intro p hp
    refine ⟨?_, ?_, fun z => ?_⟩
    · obtain ⟨o, us, file, tf, flags, tg, inF, text, tt, e1, r1, r2, r3, rest⟩ := C p hp
      refine ⟨o, us, file, tf, flags, tg, inF, text, tt, seen e1 (fun xs k z => by rw [r2] at z; injection z) (fun z => ?_), r1, r2, r3, rest⟩
      rw [r2] at z
      injection z with z
      rw [z] at r3
      simp at r3
    · obtain ⟨b, ob, b1, b2, b3, b4, b5, b6, b7, b8⟩ := bm p hp
      exact ⟨b, ob, b1, b2, b3, b4, seen b5 (fun xs k z => by rw [b8] at z; injection z) (fun z => by rw [b8] at z; injection z), b6, b7, b8⟩
    · obtain ⟨o, es, ep, e, d, _⟩ := hns
      rw [z, hT p hp] at e
      injection e with e
      rw [← e] at d
      injection d
  refine codeAny_mono (enterB F S hbi (fun cdv => B _ KB (names hns) TB cdv s H a ns hn hP hS) E0') fun r s' h => ?_
  obtain ⟨e1, H', os, bare, un, hok'⟩ := h
  have grow : ∀ b, b ∈ cs.map (·.2) → ∃ more : Array Value, s'.heap.get? b = some { cls := .none, data := .fields (#[] ++ more) } := fun b hb => by
    obtain ⟨p, hp, ep⟩ := List.mem_map.mp hb
    subst ep
    obtain ⟨more, eP⟩ := un.tbls p.2 #[] (hP p hp)
    exact ⟨more, hok' p.2 _ eP⟩
  have kept : ∀ b o, b ∉ cs.map (·.2) → s.heap.get? b = some o → s'.heap.get? b = some o := by
    intro b o nb e
    by_cases z : H b = none
    · exact un.keep b o e z (show b ∉ ([] : List Addr) from List.not_mem_nil) List.not_mem_nil
    · rcases hO b nb with y | ⟨ob, xs, y⟩
      · exact absurd y z
      · have g1 := (hok b _ y).1
        have g2 := (hok' b _ (un.frzs b ob _ y)).1
        rw [g1] at e
        injection e with e
        rw [← e]
        exact g2
  refine ⟨e1, ⟨fun b o e => ?_, fun b o e => ?_⟩, os, bare⟩
  · by_cases nb : b ∈ cs.map (·.2)
    · rw [isT b nb] at e
      injection e with e
      subst e
      obtain ⟨more, grown⟩ := grow b nb
      obtain ⟨p, hp, ep⟩ := List.mem_map.mp nb
      subst ep
      exact .inr (.inl ⟨((C p hp).tab (hT p hp)).isCodeTable, rfl, #[], more, rfl, grown⟩)
    · exact .inl (kept b o nb e)
  · by_cases nb : b ∈ cs.map (·.2)
    · obtain ⟨more, grown⟩ := grow b nb
      exact ⟨_, grown⟩
    · exact ⟨o, kept b o nb e⟩
/-- the goal that the head leaves, from the law's body walked with known guards and one table -/
theorem law_topTs {l : PySem.W.OpenLaw} {n : Nat} {q : Program} {loose : List Str} {XP : (Str → Option Value) → Heap → Prop} {YP : World → Heap → Prop} {d : DefRec} {K : Params → PySem.W.Frag} {N : List Str} {x nm qual : Str} {st : Stmt}
    (hn : l.most = some n) (hn2 : n ≤ sizeLine) (hdf : d.params.defaults = []) (hY : ∀ (w : World) (h : Heap), YP w h → (K w.params).In h)
    (Z : ∀ (w : World) (mg : Str → Option Value) (fa : Addr) (h : Heap), YP w h → (K w.params).In h → h.Ns mainGlobals mg → mg d.name = some (.ref fa) →
      ∃ (fd : FuncData) (cs : List (Addr × Addr)), (∀ p ∈ cs, h.get? p.2 = some tab0) ∧ (∀ p ∈ cs, (K w.params).lookup p.2 = none) ∧ (∀ p ∈ cs, PySem.W.CodeHd h p.1 p.2) ∧ Fun (K w.params) nm qual st fa fd ∧ FnScope N [x] (defScope st) ∧ (∀ (s : Shared) (u : Value), BindsTo s fd ⟨[u], []⟩ [(x, u)]) ∧ LawBodyTs l w (K w.params) mg n N qual st fa cs) :
    PySem.W.WalkO q loose XP YP l.row.toRowW d [] (fun f vs => PySem.call f vs) := by
  refine Att.attach_call hn hdf ?_
  intro w s₀ s mg mb fa o pm cd doc a vs ns G Y ho hd hcd hmg hobj hints hlen hg
  have KX : (K w.params).In s.heap := hY w _ Y
  obtain ⟨fd, cs, hT, nT, C, F, S, hbi, B⟩ := Z w mg fa _ Y KX G.T.g hmg
  have isT : ∀ b, b ∈ cs.map (·.2) → s.heap.get? b = some tab0 := fun b hb => by
    obtain ⟨p, hp, e⟩ := List.mem_map.mp hb
    exact e ▸ hT p hp
  have memT : ∀ p ∈ cs, p.2 ∈ cs.map (·.2) := fun p hp => List.mem_map.mpr ⟨p, hp, rfl⟩
  have bmP : ∀ p ∈ cs, s.heap.BuiltinsAt mg p.2 := by
    intro p hp
    obtain ⟨bm, ob, b1, b2, b3, b4, b5, b6⟩ := G.T.bmain
    refine ⟨bm, ob, b1, b2, fun z => ?_, fun z => ?_, b3, b4, b5, b6⟩
    · obtain ⟨o', es, ep, e, hd', _⟩ := G.T.g
      rw [z, e] at b3
      injection b3 with b3
      rw [b3, b6] at hd'
      injection hd'
    · rw [z, hT p hp] at b3
      injection b3 with b3
      rw [← b3] at b6
      injection b6
  have rv : Vals (ns.map V.int) vs := vals_ints hints
  have top : ns.length ≤ sizeLine := Nat.le_trans hlen hn2
  have naP : a ∉ cs.map (·.2) := fun z => by
    rw [isT a z] at hobj
    injection hobj with hobj
    have := congrArg Obj.data hobj
    injection this
  have plain := @settleTs l w (K w.params) mg mb n N x nm qual st fa a cs fd s
  cases hk : (K w.params).lookup a with
  | some u =>
    have e := KX a u hk
    rw [hobj] at e
    injection e with e
    subst e
    refine plain (H := fun b => if b ∈ cs.map (·.2) then some (.tbl #[]) else none) (ns := ns) (vs := vs) KX G.T.g G.T.b G.T.builtins G.T.nolimit hg hobj hlen hT nT C bmP F S hbi B (fun p hp => if_pos (memT p hp)) (fun b nb => .inl (if_neg nb)) (.inr ⟨_, vs.toArray, _, hk, rfl, rfl, rfl, ?_, ?_⟩) (fun b u z => ?_) (fun b z => ?_) (fun z => absurd (if_neg naP) z)
    · rw [List.size_toArray, hints.length]
      exact top
    · simpa using rv
    · by_cases hb : b ∈ cs.map (·.2)
      · have y := (if_pos hb).symm.trans z
        injection y with y
        subst y
        exact isT b hb
      · have y := (if_neg hb).symm.trans z
        injection y
    · by_cases hb : b ∈ cs.map (·.2)
      · exact .inr hb
      · exact absurd (if_neg hb) z
  | none =>
    refine plain (H := fun b => if b ∈ cs.map (·.2) then some (.tbl #[]) else scriptHp a vs ns b) (ns := ns) (vs := vs) KX G.T.g G.T.b G.T.builtins G.T.nolimit hg hobj hlen hT nT C bmP F S hbi B (fun p hp => if_pos (memT p hp)) (fun b nb => ?_) (.inl (.inr ⟨_, (if_neg naP).trans (if_pos rfl)⟩)) (fun b u z => ?_) (fun b z => ?_) (fun _ => hk)
    · by_cases eb : b = a
      · exact .inr ⟨_, _, (if_neg nb).trans (if_pos eb)⟩
      · exact .inl ((if_neg nb).trans (if_neg eb))
    · by_cases hb : b ∈ cs.map (·.2)
      · have y := (if_pos hb).symm.trans z
        injection y with y
        subst y
        exact isT b hb
      · have z1 := (if_neg hb).symm.trans z
        by_cases eb : b = a
        · have y := (if_pos eb).symm.trans z1
          injection y with y
          subst y
          subst eb
          exact ⟨hobj, by rw [List.length_map]; exact top, vs, _, rv, hobj⟩
        · have y := (if_neg eb).symm.trans z1
          injection y
    · by_cases hb : b ∈ cs.map (·.2)
      · exact .inr hb
      · by_cases eb : b = a
        · exact .inl eb
        · exact absurd ((if_neg hb).trans (if_neg eb)) z
end My
/-! a lambda handed to a def whose handler still knows its locals -/
namespace MyL
open PySem PySem.Spec PyProof.Rows L2 LamX
section
variable {X : Cx} {pins : List (Addr × Obj)} {σ : L2.St} {H : Hp} {s : Shared}
/-- the context of the def g that got the lambda -/
abbrev InG (X : Cx) (Ng : List Str) (qg : Str) (sg : Scope) (g : Addr) (cdg : Value) (s : Shared) (H : Hp) (pn : List (Addr × Obj)) (xe : Value → Shared → Prop) : Cx := (cxOf C8.CX0 X.prog X.w X.K X.mg X.base Ng qg sg g cdg X.A X.stack s H C8.E0).tr pn xe
/-- the call of the lambda itself, by what its body comes to -/
theorem code_lam {Ng : List Str} {qg : Str} {sg : Scope} {g f c' : Addr} {cdg pm ctv : Value} {params : Arguments} {body : Expr} {scope : Scope} {k : Nat} {pn pinsZ : List (Addr × Obj)} {xe : Value → Shared → Prop} {E : XK} {tb : TE} {σZ : L2.St} {HZ : Hp} {s1 : Shared} {Q : VK}
    (I : Inv X pins σ H s) (L : LamS X.env.scope scope) (hf : s.heap.get? f = some (PySem.W.kla_obj "<lambda>" (X.env.qual ++ "<lambda>") params body scope (cloFrom X.env.cells scope.names []) pm c' ctv)) (hfn : H f = none) (hfr : f ∉ frs X.stack)
    (hbind : bindArgs (PySem.W.kla_fn "<lambda>" (X.env.qual ++ "<lambda>") params body scope (cloFrom X.env.cells scope.names []) pm (.ref c') ctv) ⟨[], []⟩ = pure []) (hr : Room (k + 1) (X.A.deeper (envOfC qg sg s.heap.objs.size g cdg)))
    (hbody : ∀ (A : Around) (outer : List Env) (s : Shared) (H : Hp), Room k (A.deeper (lamEnv X scope s.heap.objs.size f c')) → PE (lamCx X A outer s H E scope f c') body tb)
    (I1 : Inv (InG X Ng qg sg g cdg s H pn xe) pinsZ σZ HZ s1) (hc : HZ c' = some (CodeO c' (X.env.qual ++ "<lambda>"))) (ht : tb σ HZ Q) :
    (∃ ox, s1.heap.get? f = some ox ∧ ox = PySem.W.kla_obj "<lambda>" (X.env.qual ++ "<lambda>") params body scope (cloFrom X.env.cells scope.names []) pm c' ctv) ∧
    codeAny (model X.prog X.w) (X.A.deeper (envOfC qg sg s.heap.objs.size g cdg)) (.call (.ref f) ⟨[], []⟩) (CR (L2.CX X.prog X.w) (envOfC qg sg s.heap.objs.size g cdg :: X.stack) X.prog X.w HZ s1 Q E) s1 := by
  have un : Un (frs X.stack) [] H HZ s.heap s1.heap := I1.base
  have here := un.keep f _ hf hfn hfr (fun z => nomatch (show f ∈ ([] : List Addr) from z))
  obtain ⟨⟨oc, vs, t, e1, e2, e3⟩, _, _⟩ := I1.hok c' _ hc
  refine ⟨⟨_, here, rfl⟩, PySem.W.kla_callFunE hr.depth here rfl L.co L.gen rfl ⟨c', oc, vs, t, rfl, e1, e2, e3⟩ ?_⟩
  rw [hbind]
  refine wpAny_pure (wpAny_newFunctionEnv (fun y hy => (L.own y hy).2) (fun y hy => absurd hy (by simp)) (fun h₁ hns fresh => ⟨I1.nolimit.fresh _ fresh, ?_⟩) L.kind)
  have J := lam_start2 (tk := s1.toks + ([] : List (Str × Value)).length) (A := X.A.deeper (envOfC qg sg s.heap.objs.size g cdg)) (outer := envOfC qg sg s.heap.objs.size g cdg :: X.stack) (E := E) (f := f) (c' := c') I L I1.env0 hr.hd un hns
    (fun b o e => fresh.extBut b o (Nat.ne_of_lt (Heap.lt_size e)) (Heap.get?_push_of_some _ e))
  refine PySem.W.kla_codeExpr (wpAny_mono ((hbody _ _ s1 HZ (hr.deeper _)).run [] _ _ HZ Q J ht) (fun v s' ⟨w', H', J', rv, q⟩ => ?_) fun e s' hq => hq)
  exact ⟨w', H', J'.os, J'.bare, J'.base, J'.hok, rv, q⟩
/-- a(), in the def g: what the body may let out is taken at the very slots -/
theorem pe_actS {Ng : List Str} {qg : Str} {sg : Scope} {g f c' : Addr} {cdg pm ctv : Value} {params : Arguments} {body : Expr} {scope : Scope} {k i : Nat} {a : Str} {pn : List (Addr × Obj)} {xe : Value → Shared → Prop} {W : WX} {tb : XK → TE} {p1 p2 : Pos}
    (I : Inv X pins σ H s) (L : LamS X.env.scope scope) (hf : s.heap.get? f = some (PySem.W.kla_obj "<lambda>" (X.env.qual ++ "<lambda>") params body scope (cloFrom X.env.cells scope.names []) pm c' ctv)) (hfn : H f = none) (hfr : f ∉ frs X.stack)
    (hbind : bindArgs (PySem.W.kla_fn "<lambda>" (X.env.qual ++ "<lambda>") params body scope (cloFrom X.env.cells scope.names []) pm (.ref c') ctv) ⟨[], []⟩ = pure []) (tk : Takes (InG X Ng qg sg g cdg s H pn xe) W) (hr : Room (k + 1) (X.A.deeper (envOfC qg sg s.heap.objs.size g cdg)))
    (hbody : ∀ (A : Around) (outer : List Env) (s : Shared) (H : Hp) (E : XK), Room k (A.deeper (lamEnv X scope s.heap.objs.size f c')) → PE (lamCx X A outer s H E scope f c') body (tb E))
    (hN : Ng[i]? = some a) (hv : Vis sg a) (hd : (a == ("__debug__" : Str)) = false) (hcd : (a == ("__classdict__" : Str)) = false) :
    PE (InG X Ng qg sg g cdg s H pn xe) (.Call (.Name a p1) [] [] p2) (fun σZ HZ Q => σZ[i]? = some (some (.ref f)) ∧ HZ c' = some (CodeO c' (X.env.qual ++ "<lambda>")) ∧ tb (WE W σZ) σ HZ Q) := by
  refine ⟨fun pinsZ sZ σZ HZ Q IZ ⟨hs, hc, ht⟩ => ?_⟩
  refine wpAny_Call_Name_kw (thn ((pe_var (pos := p1) (i := i) hN hv hd hcd).run pinsZ sZ σZ HZ (fun v H1 => v = .ref f ∧ H1 = HZ) IZ ⟨.ref f, hs, rfl, rfl⟩) fun u s1 ⟨v, H1, I1, r1, ev, eH⟩ => ?_)
  subst ev
  subst eH
  obtain rfl : u = Value.ref f := r1
  obtain ⟨⟨ox, here, eo⟩, rc⟩ := code_lam (E := WE W σZ) (tb := tb (WE W σZ)) (Q := Q) I L hf hfn hfr hbind hr (fun A o s H h => hbody A o s H _ h) I1 hc ht
  subst eo
  refine PySem.W.callWith_F0 ⟨_, _, _, _, here⟩ (wpAny_call (codeAny_mono rc fun r s' hq => ?_))
  cases r with
  | error e => exact passAt tk σZ pinsZ _ s1 e s' I1 hq
  | ok fl =>
    cases fl with
    | ret u => exact I1.after hq
    | next => exact False.elim hq
    | brk => exact False.elim hq
    | cont => exact False.elim hq
end
/-- the def that calls what it got; TT: what it makes of the lambda's reading -/
def Gives (X : Cx) (Ng : List Str) (x : Str) (sg : Scope) (g : Addr) (cdg : Value) (bg : List Stmt) (a : Str) (q : Str) (TT : (XK → Hp → VK → Prop) → Hp → VK → Prop) : Prop :=
  ∀ (f c' : Addr) (s : Shared) (H : Hp) (Q : VK) (tl : XK → Hp → VK → Prop),
    (∀ (W : WX) (pn : List (Addr × Obj)) (xe : Value → Shared → Prop) (p1 p2 : Pos), Takes (InG X Ng x sg g cdg s H pn xe) W →
      PE (InG X Ng x sg g cdg s H pn xe) (.Call (.Name a p1) [] [] p2) (fun σZ HZ Q => σZ[0]? = some (some (.ref f)) ∧ HZ c' = some (CodeO c' q) ∧ tl (WE W σZ) HZ Q)) →
    H c' = some (CodeO c' q) → TT tl H Q →
    ∃ t, PSs (cxOf C8.CX0 X.prog X.w X.K X.mg X.base Ng x sg g cdg X.A X.stack s H C8.E0).nox bg t ∧ t { nx := fun _ H' => Q .non H', rt := Q } (L2.start Ng [.ref f]) H
section
variable {X : Cx}
/-- x(lambda: body) -/
theorem pe_lamcallS {T : List (Addr × Str)} {TT : (XK → Hp → VK → Prop) → Hp → VK → Prop} {x a : Str} {g c P : Addr} {k : Nat} {pg : Arguments} {bg : List Stmt} {sg : Scope} {dV kV doc pm cdv ct oc : Value} {an od : Option Addr} {osl : Array (Option Value)} {Ng : List Str}
    {params : Arguments} {body : Expr} {scope : Scope} {t : XK → TE} {p lpos pos : Pos} (hg : Gl X x) (hm : X.mg x = some (.ref g)) (hk : PySem.W.keepIn X.K (.ref g) = true)
    (lk : X.K.lookup g = some ⟨oc, od, .func (PySem.W.fnOf x x pg bg sg dV kV doc pm an cdv ct), osl⟩) (hcg : PySem.W.codeIn X.K cdv x = true) (hb : L2.Binds X.K (PySem.W.fnOf x x pg bg sg dV kV doc pm an cdv ct) [a] []) (Sg : FnScope Ng [a] sg) (hNg : Ng[0]? = some a) (hva : Vis sg a)
    (hG : Gives X Ng x sg g cdv bg a (X.env.qual ++ "<lambda>") TT) (TB : TabB X.base X.mg c P) (hcode : X.env.code = .ref c) (hmT : (P, X.env.qual ++ "<lambda>") ∈ T) (hu : ∀ p ∈ T, p.1 = P → p.2 = X.env.qual ++ "<lambda>") (hr : Room (k + 2) X.A) (L : LamS X.env.scope scope) (hdef : defaultsOf params X.env = ([], []))
    (hbind : ∀ (q : Str) (cl : List (Str × Addr)) (pm cv ctv : Value), bindArgs (PySem.W.kla_fn "<lambda>" q params body scope cl pm cv ctv) ⟨[], []⟩ = pure [])
    (hbody : ∀ (A : Around) (outer : List Env) (s : Shared) (H : Hp) (E : XK) (f c' : Addr), Room k (A.deeper (lamEnv X scope s.heap.objs.size f c')) → PE (lamCx X A outer s H E scope f c') body (t E))
    (hdb : (x == ("__debug__" : Str)) = false := by decide) (hd : (a == ("__debug__" : Str)) = false := by decide) (hcd : (a == ("__classdict__" : Str)) = false := by decide) : PE X (.Call (.Name x p) [.Lambda params body scope lpos] [] pos) (tLam T TT t) := by
  refine ⟨fun pins s σ H Q I ⟨hT, h⟩ => wpAny_Call_Name_kw (ld_glob I hg hm ?_ hdb)⟩
  refine PySem.W.callWith_K (h₀ := X.base) I.ok.mod.kin hk ?_ (by rfl) (by rfl)
  show wpAny _ _ (spliced ((false, eval (.Lambda params body scope lpos) X.env) :: backTo pos (starEach [] X.env))) _ _ s
  refine Calls.spliced_cons (lam_make2 I TB hcode hmT hu hT hdef (L.has I.ok) fun f c' pm' ctv H1 s1 I1 eN T1 hf hfn hfr hco => Calls.spliced_nil ⟨I1.kIn, wpAny_call (codeAny_mono (run_ofS (N := Ng) (ps := [a]) (us := [.ref f]) (vs := [.ref f]) (Q := Q) (E := C8.E0) (CX := C8.CX0) lk hcg Sg hr I1.env0 (hb s1 [.ref f] I1.kIn rfl) (.cons rfl .nil) rfl
    fun hr' => ?_) fun r s2 hq => ?_)⟩)
  · obtain ⟨t', ht', hq'⟩ := hG f c' s1 H1 Q (fun E H' Q' => t E σ H' Q') (fun W pn xe p1 p2 tk => pe_actS (i := 0) I1 L hf hfn hfr (hbind _ _ _ _ _) tk hr' (fun A outer s H E hr2 => hbody A outer s H E f c' hr2) hNg hva hd hcd) hco (h H1 eN T1)
    exact ⟨t', ht'.nox, hq'⟩
  · cases r with
    | error e => exact (show False from hq).elim
    | ok fl =>
      cases fl with
      | ret u => exact I1.after hq
      | next => exact False.elim hq
      | brk => exact False.elim hq
      | cont => exact False.elim hq
end
end MyL
namespace My
open PySem PySem.Spec PyProof.Rows L2
def told4 : Nat → Str
  | 0 => "name"
  | 1 => "number"
  | 2 => "word"
  | _ => "program"
def fld4 (k : Nat) : Str := if k = 3 then "part" else "value"
structure E5 where
  n : Addr
  z : Addr
  w : Addr
  r : Addr
  l : Addr
/-- an error class as it is caught here -/
structure EK4 (K : PySem.W.Frag) (A : E5) (C : Addr) (k : Nat) : Prop where
  ec : ExcC K C
  xf : XfC K C
  no : PySem.W.findIn K (.ref C) (fld4 k) = some none
  ex : PySem.W.exmOne K (.ref C) (.ref A.l) = some true
  kN : PySem.W.kitOne K (.ref C) (.ref A.n) = some (k == 0)
  kZ : PySem.W.kitOne K (.ref C) (.ref A.z) = some (k == 1)
  kW : PySem.W.kitOne K (.ref C) (.ref A.w) = some (k == 2)
  kR : PySem.W.kitOne K (.ref C) (.ref A.r) = some (k == 3)
  kV : PySem.W.kitOne K (.ref C) (.type "ValueError") = some true
/-- what the error holds, and how it is shown -/
def Holds (H : Hp) (dd : Addr) (k : Nat) (z : Str) : Prop := (k < 3 ∧ ∃ y pd, H dd = some (.xd [("value", y)]) ∧ Th H y pd ∧ Fine pd ∧ z = pd.shown) ∨ (k = 3 ∧ H dd = some (.xd [("part", .str z)]))
/-- what the lambda's body must end in -/
def EH (K : PySem.W.Frag) (A : E5) (H H1 : Hp) (Q : VK) : XK := fun cls d H' => ∃ (C dd : Addr) (k : Nat) (z : Str), cls = .ref C ∧ d = some dd ∧ EK4 K A C k ∧ Same' H1 H' ∧ Holds H' dd k z ∧
  ∀ t H2, Same' H H2 → H2 t = some (.tup [.str (told4 k), .str z]) → Q (.ref t) H2
def TH (K : PySem.W.Frag) (A : E5) : (XK → Hp → VK → Prop) → Hp → VK → Prop := fun tl H Q => ∀ H1, Same' H H1 → ∀ E : XK, (∀ cls d H', EH K A H H1 Q cls d H' → E cls d H') → ∀ Q' : VK, tl E H1 Q'
abbrev nHeard : List Str := ["_law_ask", "_law_raised", "_law_found", "error"]
theorem scHeard : FnScope nHeard ["_law_ask"] (defScope sHeard) := ⟨rfl, rfl, rfl, by decide +kernel, rfl, by decide +kernel, by decide +kernel⟩
abbrev YH (X : Cx) (g : Addr) (cdg : Value) (s : Shared) (H : Hp) : Cx := cxOf C8.CX0 X.prog X.w X.K X.mg X.base nHeard "_law_heard" (defScope sHeard) g cdg X.A X.stack s H C8.E0
theorem heard_gives {X : Cx} {g : Addr} {A : E5} {cdg : Value} {q : Str} (hr : Room 2 X.A) (hg : X.A.guards = some []) (T : Txt X.mg) (gN : X.mg "BadName" = some (.ref A.n)) (gZ : X.mg "BadNumber" = some (.ref A.z)) (gW : X.mg "BadWord" = some (.ref A.w)) (gR : X.mg "BadProgram" = some (.ref A.r)) (gL : X.mg "LayerError" = some (.ref A.l)) :
    MyL.Gives X nHeard "_law_heard" (defScope sHeard) g cdg (defBody sHeard) "_law_ask" q (TH X.K A) := by
  intro f c' s H Q tl act hc h
  have hu : (YH X g cdg s H).nox.A.units + 64 < cLine := by
    have := (hr.deeper (YH X g cdg s H).env).units
    exact this
  have hg' : (YH X g cdg s H).nox.A.guards = some [] := hg
  refine ⟨_, pss_cons (ps_par (i := 1) (j := 2) rfl scHeard.nd rfl rfl (by decide) rfl rfl (pa_cons pe_non (pa_cons (pe_lst pa_nil) pa_nil)) (by rfl))
    (pss_cons (ps_try_keep (X := (YH X g cdg s H).nox) (c := .ref A.l) (i := 3) (n := "error")
        (tb := fun W D σ H => σ[0]? = some (some (.ref f)) ∧ H c' = some (LamX.CodeO c' q) ∧ tl (WE W σ) H (fun v H1 => D.nx σ H1))
        rfl rfl rfl scHeard.nd rfl rfl ⟨rfl, by decide, .inl gL⟩ (fun W pn xe tk _ => pss_one (ps_expr (act W pn xe _ _ tk))) (fun a oe cls d pn _ _ => pss_one (ps_set (i := 1) scHeard.nd rfl (.inl rfl) (pv 3))))
    (pss_cons (ps_if (pt_val (pe_callB call_heldIs (by rfl) T.isi (by decide +kernel) (pa_cons (pv 1) (pa_cons (pe_glob (v := .ref A.n) rfl gN rfl) pa_nil))))
      (pss_one (ps_expr (pe_bm PySem.F.plainAttrs_list PySem.F.slot_list_append PySem.F.type_list_append mt_append (pv 2) (pa_cons (pe_tup (pa_cons pe_str (pa_cons (pe_callB (call_reprT hg' hu) (by rfl) T.repr (by decide +kernel) (pa_cons (pe_heldF (pv 1)) pa_nil)) pa_nil))) pa_nil)))) pss_nil)
    (pss_cons (ps_if (pt_val (pe_callB call_heldIs (by rfl) T.isi (by decide +kernel) (pa_cons (pv 1) (pa_cons (pe_glob (v := .ref A.z) rfl gZ rfl) pa_nil))))
      (pss_one (ps_expr (pe_bm PySem.F.plainAttrs_list PySem.F.slot_list_append PySem.F.type_list_append mt_append (pv 2) (pa_cons (pe_tup (pa_cons pe_str (pa_cons (pe_callB (call_reprT hg' hu) (by rfl) T.repr (by decide +kernel) (pa_cons (pe_heldF (pv 1)) pa_nil)) pa_nil))) pa_nil)))) pss_nil)
    (pss_cons (ps_if (pt_val (pe_callB call_heldIs (by rfl) T.isi (by decide +kernel) (pa_cons (pv 1) (pa_cons (pe_glob (v := .ref A.w) rfl gW rfl) pa_nil))))
      (pss_one (ps_expr (pe_bm PySem.F.plainAttrs_list PySem.F.slot_list_append PySem.F.type_list_append mt_append (pv 2) (pa_cons (pe_tup (pa_cons pe_str (pa_cons (pe_callB (call_reprT hg' hu) (by rfl) T.repr (by decide +kernel) (pa_cons (pe_heldF (pv 1)) pa_nil)) pa_nil))) pa_nil)))) pss_nil)
    (pss_cons (ps_if (pt_val (pe_callB call_heldIs (by rfl) T.isi (by decide +kernel) (pa_cons (pv 1) (pa_cons (pe_glob (v := .ref A.r) rfl gR rfl) pa_nil))))
      (pss_one (ps_expr (pe_bm PySem.F.plainAttrs_list PySem.F.slot_list_append PySem.F.type_list_append mt_append (pv 2) (pa_cons (pe_tup (pa_cons pe_str (pa_cons (pe_heldF (pv 1)) pa_nil))) pa_nil)))) pss_nil)
    (pss_one (ps_ret (pe_ifExp (PW.pt (pw_and (pt_cmpR op_eq (pe_callB call_len_seq (by rfl) T.len PySem.boot_len (pa_cons (pv 2) pa_nil)) pe_int (nomark _))
        (pw_and1 (pt_val (pe_callB call_heldIs (by rfl) T.isi (by decide +kernel) (pa_cons (pv 1) (pa_cons (pe_bltn (by rfl) T.ve (by decide +kernel) (show RelV (.ty "ValueError") _ from rfl)) pa_nil)))))))
      (pe_ix ix_list (pv 2) pe_int (fun _ _ => rfl)) pe_never)))))))), ?_⟩
  refine ⟨Nat.zero_le _, fun l hl => ⟨_, _, rfl, ?_⟩⟩
  have sm0 := same_new (o := .lst []) hl
  have el0 : (upd H l (.lst [])) l = some (.lst []) := upd_same
  generalize upd H l (.lst []) = H0 at sm0 el0 ⊢
  refine ⟨rfl, sm0 _ _ hc, h _ sm0 _ (fun cls d H' e => ?_) _⟩
  obtain ⟨C, dd, k, z, rfl, rfl, ek, smE, hold, fin⟩ := e
  refine ⟨ek.ex, fun a ha => ⟨.ref a, rfl, ?_⟩⟩
  have sm3 := same_new (o := KeptO (.ref C) (some dd) a) ha
  have ea : (upd H' a (KeptO (.ref C) (some dd) a)) a = some (KeptO (.ref C) (some dd) a) := upd_same
  have sH := (sm0.trans smE).trans sm3
  have el := sm3 _ _ (smE _ _ el0)
  have nd : ∃ fs, H' dd = some (.xd fs) := by
    rcases hold with ⟨_, y, pd, e, _⟩ | ⟨_, e⟩
    · exact ⟨_, e⟩
    · exact ⟨_, e⟩
  have hold3 : Holds (upd H' a (KeptO (.ref C) (some dd) a)) dd k z := by
    rcases hold with ⟨h1, y, pd, e, th, fn, ez⟩ | ⟨h1, e⟩
    · exact .inl ⟨h1, y, pd, sm3 _ _ e, th.keep sm3, fn, ez⟩
    · exact .inr ⟨h1, sm3 _ _ e⟩
  obtain ⟨fs, ed'⟩ := nd
  have ed := sm3 _ _ ed'
  have nla : a ≠ l := fun w => by
    rw [w, smE _ _ el0] at ha
    cases ha
  have nld : dd ≠ l := fun w => by
    rw [w, smE _ _ el0] at ed'
    cases ed'
  have last : ∀ (t : Addr), (upd H' a (KeptO (.ref C) (some dd) a)) t = none → ∀ H4 : Hp, H4 = upd (upd (upd H' a (KeptO (.ref C) (some dd) a)) t (.tup [.str (told4 k), .str z])) l (.lst [.ref t]) → H4 a = some (KeptO (.ref C) (some dd) a) ∧ H4 dd = some (.xd fs) ∧ H4 l = some (.lst [.ref t]) ∧ Q (.ref t) H4 := by
    intro t ht H4 e4
    have nlt : t ≠ l := fun w => by
      rw [w, el] at ht
      cases ht
    have s4 : Same' H H4 := fun c o e => by
      have h1 : c ≠ l := fun w => by
        rw [w, hl] at e
        cases e
      rw [e4, upd_ne h1]
      exact same_new ht _ _ (sH _ _ e)
    refine ⟨?_, ?_, by rw [e4, upd_same], fin t H4 s4 (by rw [e4, upd_ne nlt, upd_same])⟩
    · rw [e4, upd_ne nla]
      exact same_new ht _ _ ea
    · rw [e4, upd_ne nld]
      exact same_new ht _ _ ed
  have dh : ∀ {H4 : Hp}, H4 dd = some (.xd fs) → ∀ d', some dd = some d' → ∃ fs, H4 d' = some (.xd fs) := fun e d' q => by
    injection q with q
    subst q
    exact ⟨_, e⟩
  rcases hold3 with ⟨hk, y, pd, e, th, fn, rfl⟩ | ⟨rfl, e⟩
  · match k, hk with
    | 0, _ =>
      refine ⟨.ref a, rfl, a, C, some dd, .ref A.n, .ref A.n, _, rfl, .own _, ea, dh ed, ek.ec, ek.kN, _, rfl, iteT ?_⟩
      refine ⟨.ref l, rfl, .inl ⟨rfl, _, SqL.of el⟩, .ref a, rfl, a, C, dd, _, y, rfl, ea, e, ek.xf, ek.no, rfl, y, pd, rfl, th, fn, by show 2 ≤ sizeLine; decide, fun t ht => ?_⟩
      obtain ⟨fa, fd, fl, fq⟩ := last t ht _ rfl
      refine ⟨l, [], .ref t, rfl, rfl, same_new ht _ _ el, by decide, ?_⟩
      refine ⟨.ref a, rfl, a, C, some dd, .ref A.z, .ref A.z, _, rfl, .own _, fa, dh fd, ek.ec, ek.kZ, _, rfl, iteF ?_⟩
      refine ⟨.ref a, rfl, a, C, some dd, .ref A.w, .ref A.w, _, rfl, .own _, fa, dh fd, ek.ec, ek.kW, _, rfl, iteF ?_⟩
      refine ⟨.ref a, rfl, a, C, some dd, .ref A.r, .ref A.r, _, rfl, .own _, fa, dh fd, ek.ec, ek.kR, _, rfl, iteF ?_⟩
      refine ⟨.ref l, rfl, l, _, rfl, .inl (SqL.of fl), rfl, _, rfl, iteT ?_⟩
      refine ⟨.ref a, rfl, a, C, some dd, .ty "ValueError", .type "ValueError", true, rfl, .ty _, fa, dh fd, ek.ec, ek.kV, true, rfl, iteT ?_⟩
      exact ⟨.ref l, rfl, l, _, 0, .ref t, rfl, rfl, SqL.of fl, rfl, fq⟩
    | 1, _ =>
      refine ⟨.ref a, rfl, a, C, some dd, .ref A.n, .ref A.n, _, rfl, .own _, ea, dh ed, ek.ec, ek.kN, _, rfl, iteF ?_⟩
      refine ⟨.ref a, rfl, a, C, some dd, .ref A.z, .ref A.z, _, rfl, .own _, ea, dh ed, ek.ec, ek.kZ, _, rfl, iteT ?_⟩
      refine ⟨.ref l, rfl, .inl ⟨rfl, _, SqL.of el⟩, .ref a, rfl, a, C, dd, _, y, rfl, ea, e, ek.xf, ek.no, rfl, y, pd, rfl, th, fn, by show 2 ≤ sizeLine; decide, fun t ht => ?_⟩
      obtain ⟨fa, fd, fl, fq⟩ := last t ht _ rfl
      refine ⟨l, [], .ref t, rfl, rfl, same_new ht _ _ el, by decide, ?_⟩
      refine ⟨.ref a, rfl, a, C, some dd, .ref A.w, .ref A.w, _, rfl, .own _, fa, dh fd, ek.ec, ek.kW, _, rfl, iteF ?_⟩
      refine ⟨.ref a, rfl, a, C, some dd, .ref A.r, .ref A.r, _, rfl, .own _, fa, dh fd, ek.ec, ek.kR, _, rfl, iteF ?_⟩
      refine ⟨.ref l, rfl, l, _, rfl, .inl (SqL.of fl), rfl, _, rfl, iteT ?_⟩
      refine ⟨.ref a, rfl, a, C, some dd, .ty "ValueError", .type "ValueError", true, rfl, .ty _, fa, dh fd, ek.ec, ek.kV, true, rfl, iteT ?_⟩
      exact ⟨.ref l, rfl, l, _, 0, .ref t, rfl, rfl, SqL.of fl, rfl, fq⟩
    | 2, _ =>
      refine ⟨.ref a, rfl, a, C, some dd, .ref A.n, .ref A.n, _, rfl, .own _, ea, dh ed, ek.ec, ek.kN, _, rfl, iteF ?_⟩
      refine ⟨.ref a, rfl, a, C, some dd, .ref A.z, .ref A.z, _, rfl, .own _, ea, dh ed, ek.ec, ek.kZ, _, rfl, iteF ?_⟩
      refine ⟨.ref a, rfl, a, C, some dd, .ref A.w, .ref A.w, _, rfl, .own _, ea, dh ed, ek.ec, ek.kW, _, rfl, iteT ?_⟩
      refine ⟨.ref l, rfl, .inl ⟨rfl, _, SqL.of el⟩, .ref a, rfl, a, C, dd, _, y, rfl, ea, e, ek.xf, ek.no, rfl, y, pd, rfl, th, fn, by show 2 ≤ sizeLine; decide, fun t ht => ?_⟩
      obtain ⟨fa, fd, fl, fq⟩ := last t ht _ rfl
      refine ⟨l, [], .ref t, rfl, rfl, same_new ht _ _ el, by decide, ?_⟩
      refine ⟨.ref a, rfl, a, C, some dd, .ref A.r, .ref A.r, _, rfl, .own _, fa, dh fd, ek.ec, ek.kR, _, rfl, iteF ?_⟩
      refine ⟨.ref l, rfl, l, _, rfl, .inl (SqL.of fl), rfl, _, rfl, iteT ?_⟩
      refine ⟨.ref a, rfl, a, C, some dd, .ty "ValueError", .type "ValueError", true, rfl, .ty _, fa, dh fd, ek.ec, ek.kV, true, rfl, iteT ?_⟩
      exact ⟨.ref l, rfl, l, _, 0, .ref t, rfl, rfl, SqL.of fl, rfl, fq⟩
  · refine ⟨.ref a, rfl, a, C, some dd, .ref A.n, .ref A.n, _, rfl, .own _, ea, dh ed, ek.ec, ek.kN, _, rfl, iteF ?_⟩
    refine ⟨.ref a, rfl, a, C, some dd, .ref A.z, .ref A.z, _, rfl, .own _, ea, dh ed, ek.ec, ek.kZ, _, rfl, iteF ?_⟩
    refine ⟨.ref a, rfl, a, C, some dd, .ref A.w, .ref A.w, _, rfl, .own _, ea, dh ed, ek.ec, ek.kW, _, rfl, iteF ?_⟩
    refine ⟨.ref a, rfl, a, C, some dd, .ref A.r, .ref A.r, _, rfl, .own _, ea, dh ed, ek.ec, ek.kR, _, rfl, iteT ?_⟩
    refine ⟨.ref l, rfl, .inl ⟨rfl, _, SqL.of el⟩, .ref a, rfl, a, C, dd, _, .str z, rfl, ea, e, ek.xf, ek.no, rfl, by show 2 ≤ sizeLine; decide, fun t ht => ?_⟩
    obtain ⟨fa, fd, fl, fq⟩ := last t ht _ rfl
    refine ⟨l, [], .ref t, rfl, rfl, same_new ht _ _ el, by decide, ?_⟩
    refine ⟨.ref l, rfl, l, _, rfl, .inl (SqL.of fl), rfl, _, rfl, iteT ?_⟩
    refine ⟨.ref a, rfl, a, C, some dd, .ty "ValueError", .type "ValueError", true, rfl, .ty _, fa, dh fd, ek.ec, ek.kV, true, rfl, iteT ?_⟩
    exact ⟨.ref l, rfl, l, _, 0, .ref t, rfl, rfl, SqL.of fl, rfl, fq⟩
end My
namespace My
open PySem PySem.Spec PyProof.Rows L2
open LamX (ExtN Tabs TabS TabB lamSB lamS_by tLam lamCx)
theorem th_ext {H H' : Hp} {x : V} {d : PyData} (h : Th H x d) (e : ExtN H H') : Th H' x d := by
  cases h with
  | flat h => exact .flat h
  | lst h r n => exact .lst (e _ _ h (fun ps z => by cases z)) r n
  | tup h r n => exact .tup (e _ _ h (fun ps z => by cases z)) r n
  | dct h => exact .dct (e _ _ h (fun ps z => by cases z))
/-- a drawn value: what it is, and that it can be shown -/
structure Val (H : Hp) (v : V) (d : PyData) : Prop where
  th : Th H v d
  fine : Fine d
  ok : PyData.strOk d.shown = true
  few : ∀ z, v = .str z → z.length ≤ 1000
theorem Val.ext {H H' : Hp} {v : V} {d : PyData} (h : Val H v d) (e : ExtN H H') : Val H' v d := ⟨th_ext h.th e, h.fine, h.ok, h.few⟩
theorem Val.keep {H H' : Hp} {v : V} {d : PyData} (h : Val H v d) (e : Same' H H') : Val H' v d := ⟨h.th.keep e, h.fine, h.ok, h.few⟩
theorem Val.arg {K : PySem.W.Frag} {H : Hp} {v : V} {d : PyData} (h : Val H v d) : NameArg K H v := by
  obtain ⟨th, _, _, few⟩ := h
  cases th with
  | flat h =>
    cases h with
    | non => exact .inr ⟨"NoneType", .base .non, by decide +kernel⟩
    | bl b => exact .inr ⟨"bool", .base (.bl b), by decide +kernel⟩
    | int i => exact .inr ⟨"int", .base (.int i), by decide +kernel⟩
    | str z => exact .inl ⟨z, rfl, few z rfl⟩
  | lst h k n => exact .inr ⟨"list", .base (.lst h), by decide +kernel⟩
  | tup h k n => exact .inr ⟨"tuple", .base (.tup h), by decide +kernel⟩
  | dct h => exact .inr ⟨"dict", .base (.dK h), by decide +kernel⟩
/-- x(lambda: ..), x being _law_heard -/
theorem pe_ask {X : Cx} {P c g : Addr} {A : E5} {fdg : FuncData} (FH : Fun X.K "_law_heard" "_law_heard" sHeard g fdg) (gH : X.mg "_law_heard" = some (.ref g)) (hgl : Gl X "_law_heard") (T : Txt X.mg) (gN : X.mg "BadName" = some (.ref A.n)) (gZ : X.mg "BadNumber" = some (.ref A.z)) (gW : X.mg "BadWord" = some (.ref A.w)) (gR : X.mg "BadProgram" = some (.ref A.r)) (gL : X.mg "LayerError" = some (.ref A.l))
    (hr : Room 9 X.A) (hg : X.A.guards = some []) (TB : TabB X.base X.mg c P) (hcode : X.env.code = .ref c) {TT : List (Addr × Str)} (hT : (P, X.env.qual ++ "<lambda>") ∈ TT) (hu : ∀ p ∈ TT, p.1 = P → p.2 = X.env.qual ++ "<lambda>") {params : Arguments} {body : Expr} {scope : Scope} {t : XK → TE} {p lpos pos : Pos}
    (L : lamSB X.env.scope scope = true) (hdef : defaultsOf params X.env = ([], [])) (hbind : ∀ (q : Str) (cl : List (Str × Addr)) (pm cv ctv : Value), bindArgs (PySem.W.kla_fn "<lambda>" q params body scope cl pm cv ctv) ⟨[], []⟩ = pure [])
    (hbody : ∀ (A : Around) (outer : List Env) (s : Shared) (H : Hp) (E : XK) (f c' : Addr), Room 7 (A.deeper (LamX.lamEnv X scope s.heap.objs.size f c')) → PE (lamCx X A outer s H E scope f c') body (t E)) :
    PE X (.Call (.Name "_law_heard" p) [.Lambda params body scope lpos] [] pos) (tLam TT (TH X.K A) t) := by
  obtain ⟨oc, od, kV, doc, pm, an, cdv, ct, osl, rfl, lk, hcd⟩ := FH.ex
  exact MyL.pe_lamcallS (a := "_law_ask") (Ng := nHeard) hgl gH FH.kp lk hcd (FH.binds (ps := ["_law_ask"]) fun _ _ _ _ _ _ us hl => match us, hl with | [_], _ => rfl) scHeard rfl (.inl rfl) (heard_gives (hr.mono (by decide)) hg T gN gZ gW gR gL) TB hcode hT hu hr (lamS_by L) hdef hbind hbody
theorem made_up {H2 : Hp} {x dx : Addr} {o : HO} (hx : H2 x = none) (hdx : H2 dx = none) : Same' H2 (upd (upd H2 dx (.own x)) x o) := fun b u e => by
  rw [upd_ne (ne_of_none e hx), upd_ne (ne_of_none e hdx)]
  exact e
theorem made_same {H H' : Hp} {x dx : Addr} {o : HO} (hx : H x = none) (hdx : H dx = none) (k : Keep1 x (upd (upd H dx (.own x)) x o) H') : Same' H H' := fun b u e => k b u (ne_of_none e hx) (by rw [upd_ne (ne_of_none e hx), upd_ne (ne_of_none e hdx)]; exact e)
section
variable {K : PySem.W.Frag} {A : E5} {T : List (Addr × Str)} {σ : L2.St} {H : Hp} {Q : VK}
/-- what a call of _law_heard comes to, from what the lambda's body ends in -/
theorem rd_lam {t : XK → TE} {C : Addr} {k : Nat} {z : Str} (tb : Tabs T H) (ek : EK4 K A C k) (q : ∀ r H3, ExtN H H3 → Tabs T H3 → H3 r = some (.tup [.str (told4 k), .str z]) → Q (.ref r) H3)
    (body : ∀ (H2 : Hp) (E : XK) (Q' : VK), ExtN H H2 → (∀ dd H', Same' H2 H' → Holds H' dd k z → E (.ref C) (some dd) H') → t E σ H2 Q') : tLam T (TH K A) t σ H Q :=
  ⟨tb, fun H1 e1 tb1 H2 sm2 E hE Q' => body H2 E Q' (e1.trans (.of sm2)) fun dd H' s' ho => hE _ _ _ ⟨C, dd, k, z, rfl, rfl, ek, s', ho, fun r H3 s3 e3 => q r H3 (e1.trans (.of s3)) (tb1.ext s3) e3⟩⟩
/-- the error's telling, from the handler's wish -/
theorem tk_of {H2 : Hp} {E : XK} {C x dx : Addr} {k : Nat} {o : HO} {d : PyData} (hE : ∀ dd H', Same' H2 H' → Holds H' dd k d.shown → E (.ref C) (some dd) H') (hk : k < 3) (fn : Fine d) (hx : H2 x = none) (hdx : H2 dx = none) : TK x E C (upd (upd H2 dx (.own x)) x o) d :=
  fun y dd H' k1 e th => hE dd H' (made_same hx hdx k1) (.inl ⟨hk, y, d, e, th, fn, rfl⟩)
theorem tp_of {H2 : Hp} {E : XK} {C x dx : Addr} {o : HO} {z : Str} (hE : ∀ dd H', Same' H2 H' → Holds H' dd 3 z → E (.ref C) (some dd) H') (hx : H2 x = none) (hdx : H2 dx = none) : TP x E C (upd (upd H2 dx (.own x)) x o) z :=
  fun dd H' k1 e => hE dd H' (made_same hx hdx k1) (.inr ⟨rfl, e⟩)
end
/-! ### the tuples told so far, in a list of their own -/
abbrev Tl (H : Hp) : List V → List (Str × Str) → Prop := Paired fun v q => ∃ t, v = .ref t ∧ H t = some (.tup [.str q.1, .str q.2])
theorem tl_keep {H H' : Hp} (k : ∀ t xs, H t = some (.tup xs) → H' t = some (.tup xs)) : ∀ {ts : List V} {bs : List (Str × Str)}, Tl H ts bs → Tl H' ts bs
  | _, _, .nil => .nil
  | _, _, .cons ⟨t, e, h⟩ r => .cons ⟨t, e, k _ _ h⟩ (tl_keep k r)
theorem tl_snoc {H : Hp} {v : V} {q : Str × Str} (h : ∃ t, v = .ref t ∧ H t = some (.tup [.str q.1, .str q.2])) : ∀ {ts : List V} {bs : List (Str × Str)}, Tl H ts bs → Tl H (ts ++ [v]) (bs ++ [q])
  | _, _, .nil => .cons h .nil
  | _, _, .cons a r => .cons a (tl_snoc h r)
def tellD (q : Str × Str) : PyData := .tuple [.str q.1, .str q.2]
theorem tl_dp {K : PySem.W.Frag} {H : Hp} : ∀ {ts : List V} {bs : List (Str × Str)}, Tl H ts bs → DpAll K H ts (bs.map tellD)
  | _, _, .nil => .nil
  | _, _, .cons ⟨t, e, h⟩ r => by
    subst e
    exact .cons (.tup (SqT.of h) (.cons (.str _) (.cons (.str _) .nil))) (tl_dp r)
theorem tabs_off {T : List (Addr × Str)} {p : Addr} {H H' : Hp} {xs : List V} (h : Tabs T H) (hp : H p = some (.lst xs)) (o : Off p H H') : Tabs T H' := fun q hq => by
  obtain ⟨ps, h1, h2, h3⟩ := h q hq
  refine ⟨ps, o _ _ (fun z => ?_) h1, h2, fun pos cv e => ?_⟩
  · rw [z, hp] at h1
    cases h1
  · obtain ⟨c, e1, e2⟩ := h3 pos cv e
    refine ⟨c, e1, o _ _ (fun z => ?_) e2⟩
    rw [z, hp] at e2
    unfold LamX.CodeO at e2
    cases e2
theorem PenAt.ext {H H' : Hp} {p c : Addr} {ns : List Int} {B : Int} (h : PenAt H p c ns B) (e : ExtN H H') : PenAt H' p c ns B := by
  obtain ⟨b, g, hp, h1, h2, h3⟩ := h.pen
  exact ⟨⟨b, g, e _ _ hp (fun _ z => by cases z), h1, h2, h3⟩, e _ _ h.cells (fun _ z => by cases z), h.few⟩
structure StS (Hs H : Hp) (l : Addr) (T : List (Addr × Str)) (ts : List V) (bs : List (Str × Str)) : Prop where
  e : ExtN Hs H
  tabs : Tabs T H
  nl : ∀ o, Hs l = some o → ∃ ps, o = .tbl ps
  lst : H l = some (.lst ts)
  tl : Tl H ts bs
  few : ts.length ≤ 12
theorem StS.start {Hs H3 : Hp} {l r : Addr} {T : List (Addr × Str)} {z1 z2 : Str} (e : ExtN Hs H3) (tb : Tabs T H3) (hr : H3 r = some (.tup [.str z1, .str z2])) (hl : H3 l = none) : StS Hs (upd H3 l (.lst [.ref r])) l T [.ref r] [(z1, z2)] := by
  have up := same_new (o := .lst [.ref r]) hl
  refine ⟨e.trans (.of up), tb.ext up, fun o h => ?_, upd_same, .cons ⟨r, rfl, up _ _ hr⟩ .nil, by show 1 ≤ 12; decide⟩
  cases o with
  | tbl ps => exact ⟨ps, rfl⟩
  | _ =>
    have z := e l _ h (fun ps z => by cases z)
    rw [hl] at z
    cases z
theorem StS.grow {Hs H H3 : Hp} {l r : Addr} {T : List (Addr × Str)} {ts : List V} {bs : List (Str × Str)} {z1 z2 : Str} (h : StS Hs H l T ts bs) (few : ts.length ≤ 11) (e : ExtN H H3) (tb : Tabs T H3) (hr : H3 r = some (.tup [.str z1, .str z2])) :
    H3 l = some (.lst ts) ∧ ts.length < sizeLine ∧ StS Hs (upd H3 l (.lst (ts ++ [.ref r]))) l T (ts ++ [.ref r]) (bs ++ [(z1, z2)]) := by
  have hl : H3 l = some (.lst ts) := e _ _ h.lst (fun _ z => by cases z)
  have nt : r ≠ l := fun z => by
    rw [z, hl] at hr
    cases hr
  have off : Off l H3 (upd H3 l (.lst (ts ++ [.ref r]))) := fun q o n e => by
    rw [upd_ne n]
    exact e
  refine ⟨hl, by rw [sizeLine_eq]; omega, ⟨fun b o hb n => ?_, tabs_off tb hl off, h.nl, upd_same, ?_, ?_⟩⟩
  · have nb : b ≠ l := fun z => by
      obtain ⟨ps, eo⟩ := h.nl o (z ▸ hb)
      exact n ps eo
    exact off _ _ nb (e _ _ (h.e _ _ hb n) n)
  · refine tl_snoc ⟨r, rfl, off _ _ nt hr⟩ (tl_keep (fun t xs k => ?_) h.tl)
    have k3 := e _ _ k (fun _ z => by cases z)
    refine off _ _ (fun z => ?_) k3
    rw [z, hl] at k3
    cases k3
  · rw [List.length_append, List.length_singleton]
    omega
end My
namespace My
open PySem PySem.Spec PyProof.Rows L2
open LamX (ExtN Tabs TabS TabB lamSB lamS_by tLam lamCx)
theorem ft {P : Prop} {b : Bool} (h : b = true) (k : b = false) : P := by
  rw [h] at k
  cases k
/-- what is no program: the plain values, and a stop -/
inductive Wr (CS : Addr) (H : Hp) : V → Prop where
  | flat {x : V} {d : PyData} (h : Fl x d) : Wr CS H x
  | lst {a : Addr} {xs : List V} (h : H a = some (.lst xs)) : Wr CS H (.ref a)
  | tup {a : Addr} {xs : List V} (h : H a = some (.tup xs)) : Wr CS H (.ref a)
  | dct {a : Addr} (h : H a = some (.dK [])) : Wr CS H (.ref a)
  | stop {a dx : Addr} {fs : List (Str × V)} (h : H a = some (.ins CS dx fs)) : Wr CS H (.ref a)
theorem Wr.ext {CS : Addr} {H H' : Hp} {x : V} (h : Wr CS H x) (e : ExtN H H') : Wr CS H' x := by
  cases h with
  | flat h => exact .flat h
  | lst h => exact .lst (e _ _ h fun _ z => by cases z)
  | tup h => exact .tup (e _ _ h fun _ z => by cases z)
  | dct h => exact .dct (e _ _ h fun _ z => by cases z)
  | stop h => exact .stop (e _ _ h fun _ z => by cases z)
/-- what is asked of the class Program beside the others -/
structure PgN (K : PySem.W.Frag) (CP CS : Addr) : Prop where
  flat : ∀ S ∈ (["NoneType", "bool", "int", "str", "list", "tuple", "dict"] : List String), PySem.W.kitOne K (.type S) (.ref CP) = some false
  stop : PySem.W.kitOne K (.ref CS) (.ref CP) = some false
  self : PySem.W.kitOne K (.ref CP) (.ref CP) = some true
  c : Cls K CP
  dc : PySem.W.findIn K (.ref CP) "__class__" = some (some (.builtin "object.__class__"))
  mo : PySem.W.mroIn K CP (.type "object") = some true
theorem Wr.ty {K : PySem.W.Frag} {w : World} {mg : Str → Option Value} {CP CS CD CC aS aT : Addr} {H : Hp} {x : V} (N : PgN K CP CS) (S : StK K w mg CS CD CC aS aT) (h : Wr CS H x) : ∃ t, TyX K H x t ∧ PySem.W.kitOne K t (.ref CP) = some false := by
  cases h with
  | flat h =>
    cases h with
    | non => exact ⟨_, .base .non, N.flat _ (by simp)⟩
    | bl b => exact ⟨_, .base (.bl b), N.flat _ (by simp)⟩
    | int i => exact ⟨_, .base (.int i), N.flat _ (by simp)⟩
    | str z => exact ⟨_, .base (.str z), N.flat _ (by simp)⟩
  | lst h => exact ⟨_, .base (.lst h), N.flat _ (by simp)⟩
  | tup h => exact ⟨_, .base (.tup h), N.flat _ (by simp)⟩
  | dct h => exact ⟨_, .base (.dK h), N.flat _ (by simp)⟩
  | stop h => exact ⟨_, .base (.ins h S.c S.dc S.hn S.tk S.mo), N.stop⟩
theorem parg_wr {K : PySem.W.Frag} {w : World} {mg : Str → Option Value} {CP CS CD CC aS aT x dx : Addr} {H2 : Hp} {o : HO} {b : V} (N : PgN K CP CS) (S : StK K w mg CS CD CC aS aT) (h : Wr CS H2 b) (hx : H2 x = none) (hdx : H2 dx = none) : PArg x K CP (upd (upd H2 dx (.own x)) x o) b false :=
  fun H' k => (h.ext (.of (made_same hx hdx k))).ty N S
theorem parg_pg {K : PySem.W.Frag} {w : World} {mg : Str → Option Value} {CP CS CD CC aS aT x dx p : Addr} {H2 : Hp} {o : HO} (N : PgN K CP CS) (S : StK K w mg CS CD CC aS aT) (h : ProgAt CP H2 p) (hx : H2 x = none) (hdx : H2 dx = none) : PArg x K CP (upd (upd H2 dx (.own x)) x o) (.ref p) true :=
  fun H' k => by
    obtain ⟨dy, fs, e⟩ := h
    exact ⟨_, .base (.ins (made_same hx hdx k _ _ e) N.c N.dc S.hn S.tk N.mo), N.self⟩
section
variable {K : PySem.W.Frag} {w : World} {mg : Str → Option Value} {A : E5} {C CP CS CD CC aS aT x dx p : Addr} {H2 : Hp} {Q : VK} {E : XK} {vo vw b o : V} {d dw : PyData} {z : Str}
abbrev Nw (H2 : Hp) (x dx C : Addr) : Hp := upd (upd H2 dx (.own x)) x (.ins C dx [])
theorem put_name (Vo : Val H2 vo d) (no : isN vo = false) (Vw : Val H2 vw dw) (hE : ∀ dd H', Same' H2 H' → Holds H' dd 0 d.shown → E (.ref A.n) (some dd) H') (hx : H2 x = none) (hdx : H2 dx = none) : spPutI K C A.n A.z [.ref x, vo, vw] (Nw H2 x dx C) Q E :=
  ⟨x, dx, vo, vw, d, dw, rfl, upd_same, (Vo.keep (made_up hx hdx)).arg, (Vo.keep (made_up hx hdx)).th, (Vw.keep (made_up hx hdx)).th, fun _ => tk_of hE (by decide) Vo.fine hx hdx, fun h => ft h no, fun h => ft h no⟩
theorem put_num (hz : isN (.str z) = true) (lz : z.length ≤ 1000) (Vw : Val H2 vw dw) (nw : isV vw = false) (hE : ∀ dd H', Same' H2 H' → Holds H' dd 1 dw.shown → E (.ref A.z) (some dd) H') (hx : H2 x = none) (hdx : H2 dx = none) : spPutI K C A.n A.z [.ref x, .str z, vw] (Nw H2 x dx C) Q E :=
  ⟨x, dx, .str z, vw, .str z, dw, rfl, upd_same, .inl ⟨z, rfl, lz⟩, .flat (.str z), (Vw.keep (made_up hx hdx)).th, fun h => ft hz h, fun _ _ => tk_of hE (by decide) Vw.fine hx hdx, fun _ h => ft h nw⟩
theorem cop_name (Vo : Val H2 vo d) (no : isN vo = false) (Vw : Val H2 vw dw) (hE : ∀ dd H', Same' H2 H' → Holds H' dd 0 d.shown → E (.ref A.n) (some dd) H') (hx : H2 x = none) (hdx : H2 dx = none) : spCopyI K C A.n [.ref x, vo, vw] (Nw H2 x dx C) Q E :=
  ⟨x, dx, vo, vw, d, dw, rfl, upd_same, (Vo.keep (made_up hx hdx)).arg, (Vo.keep (made_up hx hdx)).th, (Vw.keep (made_up hx hdx)).arg, (Vw.keep (made_up hx hdx)).th, fun _ => tk_of hE (by decide) Vo.fine hx hdx, fun h => ft h no⟩
theorem cop_far (hz : isN (.str z) = true) (lz : z.length ≤ 1000) (Vw : Val H2 vw dw) (nw : isN vw = false) (hE : ∀ dd H', Same' H2 H' → Holds H' dd 0 dw.shown → E (.ref A.n) (some dd) H') (hx : H2 x = none) (hdx : H2 dx = none) : spCopyI K C A.n [.ref x, .str z, vw] (Nw H2 x dx C) Q E :=
  ⟨x, dx, .str z, vw, .str z, dw, rfl, upd_same, .inl ⟨z, rfl, lz⟩, .flat (.str z), (Vw.keep (made_up hx hdx)).arg, (Vw.keep (made_up hx hdx)).th, fun h => ft hz h, fun _ => ⟨nw, tk_of hE (by decide) Vw.fine hx hdx⟩⟩
theorem say_name (Vo : Val H2 vo d) (no : isN vo = false) (Vw : Val H2 vw dw) (hE : ∀ dd H', Same' H2 H' → Holds H' dd 0 d.shown → E (.ref A.n) (some dd) H') (hx : H2 x = none) (hdx : H2 dx = none) : spSayI K C A.n A.w [.ref x, vo, vw] (Nw H2 x dx C) Q E :=
  ⟨x, dx, vo, vw, d, dw, rfl, upd_same, (Vo.keep (made_up hx hdx)).arg, (Vo.keep (made_up hx hdx)).th, (Vw.keep (made_up hx hdx)).arg, (Vw.keep (made_up hx hdx)).th, fun _ => tk_of hE (by decide) Vo.fine hx hdx, fun h => ft h no, fun h => ft h no⟩
theorem say_word (hz : isN (.str z) = true) (lz : z.length ≤ 1000) (Vw : Val H2 vw dw) (nw : isWd vw = false) (hE : ∀ dd H', Same' H2 H' → Holds H' dd 2 dw.shown → E (.ref A.w) (some dd) H') (hx : H2 x = none) (hdx : H2 dx = none) : spSayI K C A.n A.w [.ref x, .str z, vw] (Nw H2 x dx C) Q E :=
  ⟨x, dx, .str z, vw, .str z, dw, rfl, upd_same, .inl ⟨z, rfl, lz⟩, .flat (.str z), (Vw.keep (made_up hx hdx)).arg, (Vw.keep (made_up hx hdx)).th, fun h => ft hz h, fun _ _ => tk_of hE (by decide) Vw.fine hx hdx, fun _ h => ft h nw⟩
theorem fail_name (Vo : Val H2 vo d) (no : isN vo = false) (hE : ∀ dd H', Same' H2 H' → Holds H' dd 0 d.shown → E (.ref A.n) (some dd) H') (hx : H2 x = none) (hdx : H2 dx = none) : spFailI K C A.n [.ref x, vo] (Nw H2 x dx C) Q E :=
  ⟨x, dx, vo, d, rfl, upd_same, (Vo.keep (made_up hx hdx)).arg, (Vo.keep (made_up hx hdx)).th, no, tk_of hE (by decide) Vo.fine hx hdx⟩
theorem b2_block (N : PgN K CP CS) (S : StK K w mg CS CD CC aS aT) (hb : Wr CS H2 b) (hE : ∀ dd H', Same' H2 H' → Holds H' dd 3 "block" → E (.ref A.r) (some dd) H') (hx : H2 x = none) (hdx : H2 dx = none) : Blocks2 x K CP A.r (Nw H2 x dx C) b o E :=
  ⟨false, parg_wr N S hb hx hdx, fun _ => tp_of hE hx hdx, (fun h => nomatch h)⟩
theorem b2_other (N : PgN K CP CS) (S : StK K w mg CS CD CC aS aT) (hp : ProgAt CP H2 p) (ho : Wr CS H2 o) (nn : o ≠ .non) (hE : ∀ dd H', Same' H2 H' → Holds H' dd 3 "other" → E (.ref A.r) (some dd) H') (hx : H2 x = none) (hdx : H2 dx = none) : Blocks2 x K CP A.r (Nw H2 x dx C) (.ref p) o E :=
  ⟨true, parg_pg N S hp hx hdx, (fun h => nomatch h), fun _ => ⟨parg_wr N S ho hx hdx, nn, tp_of hE hx hdx⟩⟩
theorem if_name (Vo : Val H2 vo d) (no : isN vo = false) (Vw : Val H2 vw dw) (hE : ∀ dd H', Same' H2 H' → Holds H' dd 0 d.shown → E (.ref A.n) (some dd) H') (hx : H2 x = none) (hdx : H2 dx = none) : spIfI K C A.n A.z CP A.r [.ref x, vo, vw, b, o] (Nw H2 x dx C) Q E :=
  ⟨x, dx, vo, vw, b, o, d, dw, rfl, upd_same, (Vo.keep (made_up hx hdx)).arg, (Vo.keep (made_up hx hdx)).th, (Vw.keep (made_up hx hdx)).th, fun _ => tk_of hE (by decide) Vo.fine hx hdx, fun h => ft h no, fun h => ft h no⟩
theorem if_num (hz : isN (.str z) = true) (lz : z.length ≤ 1000) (Vw : Val H2 vw dw) (nw : isV vw = false) (hE : ∀ dd H', Same' H2 H' → Holds H' dd 1 dw.shown → E (.ref A.z) (some dd) H') (hx : H2 x = none) (hdx : H2 dx = none) : spIfI K C A.n A.z CP A.r [.ref x, .str z, vw, b, o] (Nw H2 x dx C) Q E :=
  ⟨x, dx, .str z, vw, b, o, .str z, dw, rfl, upd_same, .inl ⟨z, rfl, lz⟩, .flat (.str z), (Vw.keep (made_up hx hdx)).th, fun h => ft hz h, fun _ _ => tk_of hE (by decide) Vw.fine hx hdx, fun _ h => ft h nw⟩
theorem if_blk {i : Int} (hz : isN (.str z) = true) (lz : z.length ≤ 1000) (hi : isV (.int i) = true) (B : Blocks2 x K CP A.r (Nw H2 x dx C) b o E) : spIfI K C A.n A.z CP A.r [.ref x, .str z, .int i, b, o] (Nw H2 x dx C) Q E :=
  ⟨x, dx, .str z, .int i, b, o, .str z, .int i, rfl, upd_same, .inl ⟨z, rfl, lz⟩, .flat (.str z), .flat (.int i), fun h => ft hz h, fun _ h => ft hi h, fun _ _ => B⟩
theorem cat_name (Vo : Val H2 vo d) (no : isN vo = false) (hE : ∀ dd H', Same' H2 H' → Holds H' dd 0 d.shown → E (.ref A.n) (some dd) H') (hx : H2 x = none) (hdx : H2 dx = none) : spCatchI K C A.n CP A.r [.ref x, vo, b, o] (Nw H2 x dx C) Q E :=
  ⟨x, dx, vo, b, o, d, rfl, upd_same, (Vo.keep (made_up hx hdx)).arg, (Vo.keep (made_up hx hdx)).th, fun _ => tk_of hE (by decide) Vo.fine hx hdx, fun h => ft h no⟩
theorem cat_blk (hz : isN (.str z) = true) (lz : z.length ≤ 1000) (B : Blocks2 x K CP A.r (Nw H2 x dx C) b o E) : spCatchI K C A.n CP A.r [.ref x, .str z, b, o] (Nw H2 x dx C) Q E :=
  ⟨x, dx, .str z, b, o, .str z, rfl, upd_same, .inl ⟨z, rfl, lz⟩, .flat (.str z), fun h => ft hz h, fun _ => B⟩
theorem cho_blk (B : Blocks2 x K CP A.r (Nw H2 x dx C) b o E) : spChooseI K C CP A.r [.ref x, b, o] (Nw H2 x dx C) Q E := ⟨x, dx, b, o, rfl, upd_same, B⟩
end
end My
namespace My
open PySem PySem.Spec PyProof.Rows L2
open LamX (ExtN Tabs TabS TabB lamSB lamS_by tLam lamCx)
def T2 (P1 P2 : Addr) : List (Addr × Str) := [(P1, (envOfC "_law_simple_right" (defScope sSimpleR) 0 0 .none).qual ++ "<lambda>"), (P2, (envOfC "_law_blocked_right" (defScope sBlockedR) 0 0 .none).qual ++ "<lambda>")]
structure HdK (K : PySem.W.Frag) (mg : Str → Option Value) (A : E5) (fH : Addr) (dH : FuncData) (P1 P2 : Addr) : Prop where
  T : Txt mg
  FH : Fun K "_law_heard" "_law_heard" sHeard fH dH
  gH : mg "_law_heard" = some (.ref fH)
  gN : mg "BadName" = some (.ref A.n)
  gZ : mg "BadNumber" = some (.ref A.z)
  gW : mg "BadWord" = some (.ref A.w)
  gR : mg "BadProgram" = some (.ref A.r)
  gL : mg "LayerError" = some (.ref A.l)
  eN : EK4 K A A.n 0
  eZ : EK4 K A A.z 1
  eW : EK4 K A A.w 2
  eR : EK4 K A A.r 3
  ne : P1 ≠ P2
structure Mk6 (P : Program) (w : World) (K : PySem.W.Frag) (mg : Str → Option Value) (base : Heap) (nm : Str) (C f : Addr) (d : FuncData) (ps : List Str) (sp : Sp) : Prop where
  M : Mk K C f
  b : Binds K d ps []
  g : mg nm = some (.ref C)
  G : FnOk P w K mg base (L2.CX P w) 6 f d ps sp
theorem hu1 {P1 P2 : Addr} (ne : P1 ≠ P2) : ∀ p ∈ T2 P1 P2, p.1 = P1 → p.2 = (envOfC "_law_simple_right" (defScope sSimpleR) 0 0 .none).qual ++ "<lambda>" := by
  intro p hp e
  unfold T2 at hp
  rcases List.mem_cons.mp hp with rfl | hp
  · rfl
  · obtain rfl := List.mem_singleton.mp hp
    exact absurd e.symm ne
theorem hu2 {P1 P2 : Addr} (ne : P1 ≠ P2) : ∀ p ∈ T2 P1 P2, p.1 = P2 → p.2 = (envOfC "_law_blocked_right" (defScope sBlockedR) 0 0 .none).qual ++ "<lambda>" := by
  intro p hp e
  unfold T2 at hp
  rcases List.mem_cons.mp hp with rfl | hp
  · exact absurd e ne
  · obtain rfl := List.mem_singleton.mp hp
    rfl
abbrev nSim : List Str := ["_law_odd", "_law_far", "_law_wrong", "_law_bad", "_law_heard_here", "_law_due"]
theorem scSim : FnScope nSim ["_law_odd", "_law_far", "_law_wrong", "_law_bad"] (defScope sSimpleR) := ⟨rfl, rfl, rfl, by decide +kernel, rfl, by decide +kernel, by decide +kernel⟩
def inS (i : Nat) : Stmt := (defBody sSimpleR).getD i (.Pass ⟨0, 0, 0, 0⟩)
abbrev XS (P : Program) (w : World) (K : PySem.W.Frag) (mg : Str → Option Value) (base : Heap) (f c : Addr) (A : Around) (outer : List Env) (s : Shared) (H : Hp) (E : XK) : Cx := cxOf CX0 P w K mg base nSim "_law_simple_right" (defScope sSimpleR) f (.ref c) A outer s H E
structure Vs4 (H : Hp) (vo vf vw vb : V) (d1 d2 d3 d4 : PyData) : Prop where
  o : Val H vo d1
  no : isN vo = false
  f : Val H vf d2
  nf : isN vf = false
  w : Val H vw d3
  nw : isV vw = false
  b : Val H vb d4
  nb : isWd vb = false
theorem Vs4.ext {H H' : Hp} {vo vf vw vb : V} {d1 d2 d3 d4 : PyData} (h : Vs4 H vo vf vw vb d1 d2 d3 d4) (e : ExtN H H') : Vs4 H' vo vf vw vb d1 d2 d3 d4 := ⟨h.o.ext e, h.no, h.f.ext e, h.nf, h.w.ext e, h.nw, h.b.ext e, h.nb⟩
theorem nx_ok : isN (.str "x") = true := by decide +kernel
theorem nf_ok : isN (.str "f") = true := by decide +kernel
theorem nl_ok : isN (.str "l") = true := by decide +kernel
/-- (word=.., log=..) in the parameters' order -/
abbrev gWL {α : Type} (us ws : List α) : List α := us ++ (ws.drop 1 ++ ws.take 1)
/-- (other=.., block=.., name=..) in the parameters' order -/
abbrev gNBO {α : Type} (us ws : List α) : List α := us ++ (ws.drop 2 ++ ((ws.drop 1).take 1 ++ ws.take 1))
section
variable {P : Program} {w : World} {K : PySem.W.Frag} {mg : Str → Option Value} {base : Heap} {f c : Addr} {A0 : Around} {outer : List Env} {s : Shared} {H0 : Hp} {E0' : XK} {A : E5} {fH P1 P2 : Addr} {dH : FuncData}
theorem rs0 {C fI : Addr} {dI : FuncData} (hd : HdK K mg A fH dH P1 P2) (hr : Room 9 (XS P w K mg base f c A0 outer s H0 E0').A) (hg : (XS P w K mg base f c A0 outer s H0 E0').A.guards = some []) (TB : TabB base mg c P1) (M : Mk6 P w K mg base "Put" C fI dI ["self", "cell", "value"] (spPutI K C A.n A.z)) :
    ∃ t, PS (XS P w K mg base f c A0 outer s H0 E0') (inS 0) t ∧ ∀ (H : Hp) (vo vf vw vb : V) (d1 d2 d3 d4 : PyData) (y4 y5 : Option V) (D : Ends), Vs4 H vo vf vw vb d1 d2 d3 d4 → Tabs (T2 P1 P2) H →
      (∀ l ts H', StS H H' l (T2 P1 P2) ts [(told4 0, d1.shown)] → ts.length = 1 → D.nx [some vo, some vf, some vw, some vb, some (.ref l), y5] H') → t D [some vo, some vf, some vw, some vb, y4, y5] H := by
  refine ⟨_, ps_set (i := 4) scSim.nd rfl (.inl rfl) (pe_lst (pa_cons (pe_ask (A := A) (TT := T2 P1 P2) (t := fun E => tMake C (spPutI K C A.n A.z) [] E (tCons (tVar 0) (tCons (tVar 2) tNil))) hd.FH hd.gH (by rfl) hd.T hd.gN hd.gZ hd.gW hd.gR hd.gL hr hg TB rfl (.head _) (hu1 hd.ne) (by show lamSB (defScope sSimpleR) _ = true; decide +kernel) rfl (fun _ _ _ _ _ => rfl) (fun A1 outer1 s1 H1 E f1 c1 hr2 => pe_make M.M M.G hr2 (by rfl) M.g M.b .nil (passes_call (takes_of rfl rfl rfl rfl) (fun _ _ _ _ h => h)) (pa_cons (pv 0) (pa_cons (pv 2) pa_nil)))) pa_nil)), ?_⟩
  intro H vo vf vw vb d1 d2 d3 d4 y4 y5 D V tb q
  refine rd_lam tb hd.eN (fun r H3 e3 tb3 hr3 => ⟨by show 1 ≤ sizeLine; decide, fun l hl => ?_⟩) fun H2 E Q' e2 hE => ⟨vo, rfl, vw, rfl, fun x dx hx hdx _ => put_name (V.ext e2).o V.no (V.ext e2).w hE hx hdx⟩
  exact q l _ _ (StS.start e3 tb3 hr3 hl) rfl
theorem rs1 {C fI : Addr} {dI : FuncData} (hd : HdK K mg A fH dH P1 P2) (hr : Room 9 (XS P w K mg base f c A0 outer s H0 E0').A) (hg : (XS P w K mg base f c A0 outer s H0 E0').A.guards = some []) (TB : TabB base mg c P1) (M : Mk6 P w K mg base "Put" C fI dI ["self", "cell", "value"] (spPutI K C A.n A.z)) :
    ∃ t, PS (XS P w K mg base f c A0 outer s H0 E0') (inS 1) t ∧ ∀ (Hs H : Hp) (l : Addr) (ts : List V) (bs : List (Str × Str)) (vo vf vw vb : V) (d1 d2 d3 d4 : PyData) (y5 : Option V) (D : Ends), Vs4 Hs vo vf vw vb d1 d2 d3 d4 → StS Hs H l (T2 P1 P2) ts bs → ts.length = 1 →
      (∀ ts' H', StS Hs H' l (T2 P1 P2) ts' (bs ++ [(told4 1, d3.shown)]) → ts'.length = 2 → D.nx [some vo, some vf, some vw, some vb, some (.ref l), y5] H') → t D [some vo, some vf, some vw, some vb, some (.ref l), y5] H := by
  refine ⟨_, ps_expr (pe_bm PySem.F.plainAttrs_list PySem.F.slot_list_append PySem.F.type_list_append mt_append (pv 4) (pa_cons (pe_ask (A := A) (TT := T2 P1 P2) (t := fun E => tMake C (spPutI K C A.n A.z) [] E (tCons (tC (.str "x")) (tCons (tVar 2) tNil))) hd.FH hd.gH (by rfl) hd.T hd.gN hd.gZ hd.gW hd.gR hd.gL hr hg TB rfl (.head _) (hu1 hd.ne) (by show lamSB (defScope sSimpleR) _ = true; decide +kernel) rfl (fun _ _ _ _ _ => rfl) (fun A1 outer1 s1 H1 E f1 c1 hr2 => pe_make M.M M.G hr2 (by rfl) M.g M.b .nil (passes_call (takes_of rfl rfl rfl rfl) (fun _ _ _ _ h => h)) (pa_cons pe_str (pa_cons (pv 2) pa_nil)))) pa_nil)), ?_⟩
  intro Hs H l ts bs vo vf vw vb d1 d2 d3 d4 y5 D V S0 hn q
  refine ⟨.ref l, rfl, .inl ⟨rfl, _, SqL.of S0.lst⟩, rd_lam S0.tabs hd.eZ (fun r H3 e3 tb3 hr3 => ?_) fun H2 E Q' e2 hE => ⟨vw, rfl, fun x dx hx hdx _ => put_num nx_ok (by decide +kernel) (V.ext (S0.e.trans e2)).w V.nw hE hx hdx⟩⟩
  obtain ⟨hl, sz, S1⟩ := S0.grow (by omega) e3 tb3 hr3
  exact ⟨l, ts, .ref r, rfl, rfl, hl, sz, q _ _ S1 (by rw [List.length_append, List.length_singleton, hn])⟩
theorem rs2 {C fI : Addr} {dI : FuncData} (hd : HdK K mg A fH dH P1 P2) (hr : Room 9 (XS P w K mg base f c A0 outer s H0 E0').A) (hg : (XS P w K mg base f c A0 outer s H0 E0').A.guards = some []) (TB : TabB base mg c P1) (M : Mk6 P w K mg base "Copy" C fI dI ["self", "cell", "other"] (spCopyI K C A.n)) :
    ∃ t, PS (XS P w K mg base f c A0 outer s H0 E0') (inS 2) t ∧ ∀ (Hs H : Hp) (l : Addr) (ts : List V) (bs : List (Str × Str)) (vo vf vw vb : V) (d1 d2 d3 d4 : PyData) (y5 : Option V) (D : Ends), Vs4 Hs vo vf vw vb d1 d2 d3 d4 → StS Hs H l (T2 P1 P2) ts bs → ts.length = 2 →
      (∀ ts' H', StS Hs H' l (T2 P1 P2) ts' (bs ++ [(told4 0, d1.shown)]) → ts'.length = 3 → D.nx [some vo, some vf, some vw, some vb, some (.ref l), y5] H') → t D [some vo, some vf, some vw, some vb, some (.ref l), y5] H := by
  refine ⟨_, ps_expr (pe_bm PySem.F.plainAttrs_list PySem.F.slot_list_append PySem.F.type_list_append mt_append (pv 4) (pa_cons (pe_ask (A := A) (TT := T2 P1 P2) (t := fun E => tMake C (spCopyI K C A.n) [] E (tCons (tVar 0) (tCons (tVar 1) tNil))) hd.FH hd.gH (by rfl) hd.T hd.gN hd.gZ hd.gW hd.gR hd.gL hr hg TB rfl (.head _) (hu1 hd.ne) (by show lamSB (defScope sSimpleR) _ = true; decide +kernel) rfl (fun _ _ _ _ _ => rfl) (fun A1 outer1 s1 H1 E f1 c1 hr2 => pe_make M.M M.G hr2 (by rfl) M.g M.b .nil (passes_call (takes_of rfl rfl rfl rfl) (fun _ _ _ _ h => h)) (pa_cons (pv 0) (pa_cons (pv 1) pa_nil)))) pa_nil)), ?_⟩
  intro Hs H l ts bs vo vf vw vb d1 d2 d3 d4 y5 D V S0 hn q
  refine ⟨.ref l, rfl, .inl ⟨rfl, _, SqL.of S0.lst⟩, rd_lam S0.tabs hd.eN (fun r H3 e3 tb3 hr3 => ?_) fun H2 E Q' e2 hE => ⟨vo, rfl, vf, rfl, fun x dx hx hdx _ => cop_name (V.ext (S0.e.trans e2)).o V.no (V.ext (S0.e.trans e2)).f hE hx hdx⟩⟩
  obtain ⟨hl, sz, S1⟩ := S0.grow (by omega) e3 tb3 hr3
  exact ⟨l, ts, .ref r, rfl, rfl, hl, sz, q _ _ S1 (by rw [List.length_append, List.length_singleton, hn])⟩
theorem rs3 {C fI : Addr} {dI : FuncData} (hd : HdK K mg A fH dH P1 P2) (hr : Room 9 (XS P w K mg base f c A0 outer s H0 E0').A) (hg : (XS P w K mg base f c A0 outer s H0 E0').A.guards = some []) (TB : TabB base mg c P1) (M : Mk6 P w K mg base "Copy" C fI dI ["self", "cell", "other"] (spCopyI K C A.n)) :
    ∃ t, PS (XS P w K mg base f c A0 outer s H0 E0') (inS 3) t ∧ ∀ (Hs H : Hp) (l : Addr) (ts : List V) (bs : List (Str × Str)) (vo vf vw vb : V) (d1 d2 d3 d4 : PyData) (y5 : Option V) (D : Ends), Vs4 Hs vo vf vw vb d1 d2 d3 d4 → StS Hs H l (T2 P1 P2) ts bs → ts.length = 3 →
      (∀ ts' H', StS Hs H' l (T2 P1 P2) ts' (bs ++ [(told4 0, d2.shown)]) → ts'.length = 4 → D.nx [some vo, some vf, some vw, some vb, some (.ref l), y5] H') → t D [some vo, some vf, some vw, some vb, some (.ref l), y5] H := by
  refine ⟨_, ps_expr (pe_bm PySem.F.plainAttrs_list PySem.F.slot_list_append PySem.F.type_list_append mt_append (pv 4) (pa_cons (pe_ask (A := A) (TT := T2 P1 P2) (t := fun E => tMake C (spCopyI K C A.n) [] E (tCons (tC (.str "x")) (tCons (tVar 1) tNil))) hd.FH hd.gH (by rfl) hd.T hd.gN hd.gZ hd.gW hd.gR hd.gL hr hg TB rfl (.head _) (hu1 hd.ne) (by show lamSB (defScope sSimpleR) _ = true; decide +kernel) rfl (fun _ _ _ _ _ => rfl) (fun A1 outer1 s1 H1 E f1 c1 hr2 => pe_make M.M M.G hr2 (by rfl) M.g M.b .nil (passes_call (takes_of rfl rfl rfl rfl) (fun _ _ _ _ h => h)) (pa_cons pe_str (pa_cons (pv 1) pa_nil)))) pa_nil)), ?_⟩
  intro Hs H l ts bs vo vf vw vb d1 d2 d3 d4 y5 D V S0 hn q
  refine ⟨.ref l, rfl, .inl ⟨rfl, _, SqL.of S0.lst⟩, rd_lam S0.tabs hd.eN (fun r H3 e3 tb3 hr3 => ?_) fun H2 E Q' e2 hE => ⟨vf, rfl, fun x dx hx hdx _ => cop_far nx_ok (by decide +kernel) (V.ext (S0.e.trans e2)).f V.nf hE hx hdx⟩⟩
  obtain ⟨hl, sz, S1⟩ := S0.grow (by omega) e3 tb3 hr3
  exact ⟨l, ts, .ref r, rfl, rfl, hl, sz, q _ _ S1 (by rw [List.length_append, List.length_singleton, hn])⟩
theorem rs4 {C fI : Addr} {dI : FuncData} (hd : HdK K mg A fH dH P1 P2) (hr : Room 9 (XS P w K mg base f c A0 outer s H0 E0').A) (hg : (XS P w K mg base f c A0 outer s H0 E0').A.guards = some []) (TB : TabB base mg c P1) (M : Mk6 P w K mg base "Say" C fI dI ["self", "log", "word"] (spSayI K C A.n A.w)) :
    ∃ t, PS (XS P w K mg base f c A0 outer s H0 E0') (inS 4) t ∧ ∀ (Hs H : Hp) (l : Addr) (ts : List V) (bs : List (Str × Str)) (vo vf vw vb : V) (d1 d2 d3 d4 : PyData) (y5 : Option V) (D : Ends), Vs4 Hs vo vf vw vb d1 d2 d3 d4 → StS Hs H l (T2 P1 P2) ts bs → ts.length = 4 →
      (∀ ts' H', StS Hs H' l (T2 P1 P2) ts' (bs ++ [(told4 0, d1.shown)]) → ts'.length = 5 → D.nx [some vo, some vf, some vw, some vb, some (.ref l), y5] H') → t D [some vo, some vf, some vw, some vb, some (.ref l), y5] H := by
  refine ⟨_, ps_expr (pe_bm PySem.F.plainAttrs_list PySem.F.slot_list_append PySem.F.type_list_append mt_append (pv 4) (pa_cons (pe_ask (A := A) (TT := T2 P1 P2) (t := fun E => tMake C (spSayI K C A.n A.w) [] E (tCons (tVar 0) (tCons (tVar 3) tNil))) hd.FH hd.gH (by rfl) hd.T hd.gN hd.gZ hd.gW hd.gR hd.gL hr hg TB rfl (.head _) (hu1 hd.ne) (by show lamSB (defScope sSimpleR) _ = true; decide +kernel) rfl (fun _ _ _ _ _ => rfl) (fun A1 outer1 s1 H1 E f1 c1 hr2 => pe_make M.M M.G hr2 (by rfl) M.g M.b .nil (passes_call (takes_of rfl rfl rfl rfl) (fun _ _ _ _ h => h)) (pa_cons (pv 0) (pa_cons (pv 3) pa_nil)))) pa_nil)), ?_⟩
  intro Hs H l ts bs vo vf vw vb d1 d2 d3 d4 y5 D V S0 hn q
  refine ⟨.ref l, rfl, .inl ⟨rfl, _, SqL.of S0.lst⟩, rd_lam S0.tabs hd.eN (fun r H3 e3 tb3 hr3 => ?_) fun H2 E Q' e2 hE => ⟨vo, rfl, vb, rfl, fun x dx hx hdx _ => say_name (V.ext (S0.e.trans e2)).o V.no (V.ext (S0.e.trans e2)).b hE hx hdx⟩⟩
  obtain ⟨hl, sz, S1⟩ := S0.grow (by omega) e3 tb3 hr3
  exact ⟨l, ts, .ref r, rfl, rfl, hl, sz, q _ _ S1 (by rw [List.length_append, List.length_singleton, hn])⟩
theorem rs5 {C fI : Addr} {dI : FuncData} {gk : List Value → List Value → List Value} (hd : HdK K mg A fH dH P1 P2) (hr : Room 9 (XS P w K mg base f c A0 outer s H0 E0').A) (hg : (XS P w K mg base f c A0 outer s H0 E0').A.guards = some []) (TB : TabB base mg c P1) (M : Mk6 P w K mg base "Say" C fI dI ["self", "log", "word"] (spSayI K C A.n A.w)) (kb : KBn K dI ["self", "log", "word"] 1 ["word", "log"] gk gWL) :
    ∃ t, PS (XS P w K mg base f c A0 outer s H0 E0') (inS 5) t ∧ ∀ (Hs H : Hp) (l : Addr) (ts : List V) (bs : List (Str × Str)) (vo vf vw vb : V) (d1 d2 d3 d4 : PyData) (y5 : Option V) (D : Ends), Vs4 Hs vo vf vw vb d1 d2 d3 d4 → StS Hs H l (T2 P1 P2) ts bs → ts.length = 5 →
      (∀ ts' H', StS Hs H' l (T2 P1 P2) ts' (bs ++ [(told4 2, d4.shown)]) → ts'.length = 6 → D.nx [some vo, some vf, some vw, some vb, some (.ref l), y5] H') → t D [some vo, some vf, some vw, some vb, some (.ref l), y5] H := by
  refine ⟨_, ps_expr (pe_bm PySem.F.plainAttrs_list PySem.F.slot_list_append PySem.F.type_list_append mt_append (pv 4) (pa_cons (pe_ask (A := A) (TT := T2 P1 P2) (t := fun E => tMakeK C 0 2 (spSayI K C A.n A.w) gWL E tNil (tCons (tVar 3) (tCons (tC (.str "l")) tNil))) hd.FH hd.gH (by rfl) hd.T hd.gN hd.gZ hd.gW hd.gR hd.gL hr hg TB rfl (.head _) (hu1 hd.ne) (by show lamSB (defScope sSimpleR) _ = true; decide +kernel) rfl (fun _ _ _ _ _ => rfl) (fun A1 outer1 s1 H1 E f1 c1 hr2 => pe_makeK0 (ks := ["word", "log"]) M.M M.G hr2 (by rfl) M.g kb (passes_call (takes_of rfl rfl rfl rfl) (fun _ _ _ _ h => h)) (pk_cons (pv 3) (pk_cons pe_str pk_nil)))) pa_nil)), ?_⟩
  intro Hs H l ts bs vo vf vw vb d1 d2 d3 d4 y5 D V S0 hn q
  refine ⟨.ref l, rfl, .inl ⟨rfl, _, SqL.of S0.lst⟩, rd_lam S0.tabs hd.eW (fun r H3 e3 tb3 hr3 => ?_) fun H2 E Q' e2 hE => ⟨vb, rfl, rfl, rfl, fun x dx hx hdx _ => say_word nl_ok (by decide +kernel) (V.ext (S0.e.trans e2)).b V.nb hE hx hdx⟩⟩
  obtain ⟨hl, sz, S1⟩ := S0.grow (by omega) e3 tb3 hr3
  exact ⟨l, ts, .ref r, rfl, rfl, hl, sz, q _ _ S1 (by rw [List.length_append, List.length_singleton, hn])⟩
theorem rs6 {C fI : Addr} {dI : FuncData} (hd : HdK K mg A fH dH P1 P2) (hr : Room 9 (XS P w K mg base f c A0 outer s H0 E0').A) (hg : (XS P w K mg base f c A0 outer s H0 E0').A.guards = some []) (TB : TabB base mg c P1) (M : Mk6 P w K mg base "Fail" C fI dI ["self", "name"] (spFailI K C A.n)) :
    ∃ t, PS (XS P w K mg base f c A0 outer s H0 E0') (inS 6) t ∧ ∀ (Hs H : Hp) (l : Addr) (ts : List V) (bs : List (Str × Str)) (vo vf vw vb : V) (d1 d2 d3 d4 : PyData) (y5 : Option V) (D : Ends), Vs4 Hs vo vf vw vb d1 d2 d3 d4 → StS Hs H l (T2 P1 P2) ts bs → ts.length = 6 →
      (∀ ts' H', StS Hs H' l (T2 P1 P2) ts' (bs ++ [(told4 0, d1.shown)]) → ts'.length = 7 → D.nx [some vo, some vf, some vw, some vb, some (.ref l), y5] H') → t D [some vo, some vf, some vw, some vb, some (.ref l), y5] H := by
  refine ⟨_, ps_expr (pe_bm PySem.F.plainAttrs_list PySem.F.slot_list_append PySem.F.type_list_append mt_append (pv 4) (pa_cons (pe_ask (A := A) (TT := T2 P1 P2) (t := fun E => tMake C (spFailI K C A.n) [] E (tCons (tVar 0) tNil)) hd.FH hd.gH (by rfl) hd.T hd.gN hd.gZ hd.gW hd.gR hd.gL hr hg TB rfl (.head _) (hu1 hd.ne) (by show lamSB (defScope sSimpleR) _ = true; decide +kernel) rfl (fun _ _ _ _ _ => rfl) (fun A1 outer1 s1 H1 E f1 c1 hr2 => pe_make M.M M.G hr2 (by rfl) M.g M.b .nil (passes_call (takes_of rfl rfl rfl rfl) (fun _ _ _ _ h => h)) (pa_cons (pv 0) pa_nil))) pa_nil)), ?_⟩
  intro Hs H l ts bs vo vf vw vb d1 d2 d3 d4 y5 D V S0 hn q
  refine ⟨.ref l, rfl, .inl ⟨rfl, _, SqL.of S0.lst⟩, rd_lam S0.tabs hd.eN (fun r H3 e3 tb3 hr3 => ?_) fun H2 E Q' e2 hE => ⟨vo, rfl, fun x dx hx hdx _ => fail_name (V.ext (S0.e.trans e2)).o V.no hE hx hdx⟩⟩
  obtain ⟨hl, sz, S1⟩ := S0.grow (by omega) e3 tb3 hr3
  exact ⟨l, ts, .ref r, rfl, rfl, hl, sz, q _ _ S1 (by rw [List.length_append, List.length_singleton, hn])⟩
end
end My
namespace My
open PySem PySem.Spec PyProof.Rows L2
open LamX (ExtN Tabs TabS TabB lamSB lamS_by tLam lamCx)
theorem told_ok4 (k : Nat) : PyData.strOk (told4 k) = true := by
  match k with
  | 0 | 1 | 2 => decide +kernel
  | n + 3 => exact (by decide +kernel : PyData.strOk "program" = true)
theorem seven_shaped {a b c d e f g a' b' c' d' e' f' g' : Str} (h1 : PyData.strOk a = true) (h2 : PyData.strOk b = true) (h3 : PyData.strOk c = true) (h4 : PyData.strOk d = true) (h5 : PyData.strOk e = true) (h6 : PyData.strOk f = true) (h7 : PyData.strOk g = true) (k1 : PyData.strOk a' = true) (k2 : PyData.strOk b' = true) (k3 : PyData.strOk c' = true) (k4 : PyData.strOk d' = true) (k5 : PyData.strOk e' = true) (k6 : PyData.strOk f' = true) (k7 : PyData.strOk g' = true) :
    SeqAt.shaped (.list ([(a', a), (b', b), (c', c), (d', d), (e', e), (f', f), (g', g)].map tellD)) = true := by
  unfold SeqAt.shaped
  simp [tellD, PyData.canLay0, PyData.canLayAll0, h1, h2, h3, h4, h5, h6, h7, k1, k2, k3, k4, k5, k6, k7, PyData.depth, PyData.depthAll]
theorem nine_shaped {a b c d e f g i j a' b' c' d' e' f' g' i' j' : Str} (h1 : PyData.strOk a = true) (h2 : PyData.strOk b = true) (h3 : PyData.strOk c = true) (h4 : PyData.strOk d = true) (h5 : PyData.strOk e = true) (h6 : PyData.strOk f = true) (h7 : PyData.strOk g = true) (h8 : PyData.strOk i = true) (h9 : PyData.strOk j = true) (k1 : PyData.strOk a' = true) (k2 : PyData.strOk b' = true) (k3 : PyData.strOk c' = true) (k4 : PyData.strOk d' = true) (k5 : PyData.strOk e' = true) (k6 : PyData.strOk f' = true) (k7 : PyData.strOk g' = true) (k8 : PyData.strOk i' = true) (k9 : PyData.strOk j' = true) :
    SeqAt.shaped (.list ([(a', a), (b', b), (c', c), (d', d), (e', e), (f', f), (g', g), (i', i), (j', j)].map tellD)) = true := by
  unfold SeqAt.shaped
  simp [tellD, PyData.canLay0, PyData.canLayAll0, h1, h2, h3, h4, h5, h6, h7, h8, h9, k1, k2, k3, k4, k5, k6, k7, k8, k9, PyData.depth, PyData.depthAll]
theorem tells_eqv : ∀ bs : List (Str × Str), PyData.eqvAll (bs.map tellD) (bs.map tellD) = true
  | [] => by simp [PyData.eqvAll]
  | q :: r => by
    have h := tells_eqv r
    simp [tellD, PyData.eqv, PyData.eqvAll] at h ⊢
    exact h
theorem list_eqv (bs : List (Str × Str)) : PyData.eqv (.list (bs.map tellD)) (.list (bs.map tellD)) = true := by
  have h := tells_eqv bs
  simp only [PyData.eqv]
  exact h
section
variable {P : Program} {w : World} {K : PySem.W.Frag} {mg : Str → Option Value} {base : Heap} {f c : Addr} {A0 : Around} {outer : List Env} {s : Shared} {H0 : Hp} {E0' : XK} {A : E5} {fH P1 P2 : Addr} {dH : FuncData}
theorem rs7 (T : Txt mg) (hr : Room 9 (XS P w K mg base f c A0 outer s H0 E0').A) (hg : (XS P w K mg base f c A0 outer s H0 E0').A.guards = some []) :
    ∃ t7 t8, PS (XS P w K mg base f c A0 outer s H0 E0') (inS 7) t7 ∧ PS (XS P w K mg base f c A0 outer s H0 E0') (inS 8) t8 ∧ ∀ (Hs H : Hp) (l : Addr) (ts : List V) (vo vf vw vb : V) (d1 d2 d3 d4 : PyData) (yd : Option V) (D : Ends), Vs4 Hs vo vf vw vb d1 d2 d3 d4 →
      StS Hs H l (T2 P1 P2) ts [(told4 0, d1.shown), (told4 1, d3.shown), (told4 0, d1.shown), (told4 0, d2.shown), (told4 0, d1.shown), (told4 2, d4.shown), (told4 0, d1.shown)] →
      (∀ H', Same' H H' → D.rt (.bl true) H') → tSeq t7 t8 D [some vo, some vf, some vw, some vb, some (.ref l), yd] H := by
  have hu : (XS P w K mg base f c A0 outer s H0 E0').A.units + 64 < cLine := hr.units
  refine ⟨_, _, ps_set (i := 5) scSim.nd rfl (.inl rfl) (pe_lst (pa_cons (pe_tup (pa_cons pe_str (pa_cons (pe_callB (call_reprT hg hu) (by rfl) T.repr (by decide +kernel) (pa_cons (pv 0) pa_nil)) pa_nil))) (pa_cons (pe_tup (pa_cons pe_str (pa_cons (pe_callB (call_reprT hg hu) (by rfl) T.repr (by decide +kernel) (pa_cons (pv 2) pa_nil)) pa_nil))) (pa_cons (pe_tup (pa_cons pe_str (pa_cons (pe_callB (call_reprT hg hu) (by rfl) T.repr (by decide +kernel) (pa_cons (pv 0) pa_nil)) pa_nil))) (pa_cons (pe_tup (pa_cons pe_str (pa_cons (pe_callB (call_reprT hg hu) (by rfl) T.repr (by decide +kernel) (pa_cons (pv 1) pa_nil)) pa_nil))) (pa_cons (pe_tup (pa_cons pe_str (pa_cons (pe_callB (call_reprT hg hu) (by rfl) T.repr (by decide +kernel) (pa_cons (pv 0) pa_nil)) pa_nil))) pa_nil)))))), ps_ret (pe_cmpR (op_eqD hu) (pv 4) (pe_op op_cat (pv 5) (pe_lst (pa_cons (pe_tup (pa_cons pe_str (pa_cons (pe_callB (call_reprT hg hu) (by rfl) T.repr (by decide +kernel) (pa_cons (pv 3) pa_nil)) pa_nil))) (pa_cons (pe_tup (pa_cons pe_str (pa_cons (pe_callB (call_reprT hg hu) (by rfl) T.repr (by decide +kernel) (pa_cons (pv 0) pa_nil)) pa_nil))) pa_nil)))) (nomark _)), ?_⟩
  intro Hs H l ts vo vf vw vb d1 d2 d3 d4 yd D V S0 q
  have V' := V.ext S0.e
  refine ⟨vo, rfl, vo, d1, rfl, V'.o.th, V'.o.fine, by show 2 ≤ sizeLine; decide, fun t1 h1 => ?_⟩
  have a1 := same_new (o := .tup [.str (told4 0), .str d1.shown]) h1
  refine ⟨vw, rfl, vw, d3, rfl, (V'.w.keep a1).th, V'.w.fine, by show 2 ≤ sizeLine; decide, fun t2 h2 => ?_⟩
  have a2 := same_new (o := .tup [.str (told4 1), .str d3.shown]) h2
  refine ⟨vo, rfl, vo, d1, rfl, (V'.o.keep (a1.trans a2)).th, V'.o.fine, by show 2 ≤ sizeLine; decide, fun t3 h3 => ?_⟩
  have a3 := same_new (o := .tup [.str (told4 0), .str d1.shown]) h3
  refine ⟨vf, rfl, vf, d2, rfl, (V'.f.keep (a1.trans (a2.trans a3))).th, V'.f.fine, by show 2 ≤ sizeLine; decide, fun t4 h4 => ?_⟩
  have a4 := same_new (o := .tup [.str (told4 0), .str d2.shown]) h4
  refine ⟨vo, rfl, vo, d1, rfl, (V'.o.keep (a1.trans (a2.trans (a3.trans a4)))).th, V'.o.fine, by show 2 ≤ sizeLine; decide, fun t5 h5 => ?_⟩
  have a5 := same_new (o := .tup [.str (told4 0), .str d1.shown]) h5
  refine ⟨by show 5 ≤ sizeLine; decide, fun ld hld => ?_⟩
  have a6 := same_new (o := .lst [.ref t1, .ref t2, .ref t3, .ref t4, .ref t5]) hld
  refine ⟨.ref l, rfl, .ref ld, rfl, ?_⟩
  refine ⟨vb, rfl, vb, d4, rfl, (V'.b.keep (a1.trans (a2.trans (a3.trans (a4.trans (a5.trans a6)))))).th, V'.b.fine, by show 2 ≤ sizeLine; decide, fun t7 h7 => ?_⟩
  have a7 := same_new (o := .tup [.str (told4 2), .str d4.shown]) h7
  refine ⟨vo, rfl, vo, d1, rfl, (V'.o.keep (a1.trans (a2.trans (a3.trans (a4.trans (a5.trans (a6.trans a7))))))).th, V'.o.fine, by show 2 ≤ sizeLine; decide, fun t8 h8 => ?_⟩
  have a8 := same_new (o := .tup [.str (told4 0), .str d1.shown]) h8
  refine ⟨by show 2 ≤ sizeLine; decide, fun l2 hl2 => ?_⟩
  have a9 := same_new (o := .lst [.ref t7, .ref t8]) hl2
  refine ⟨ld, l2, [.ref t1, .ref t2, .ref t3, .ref t4, .ref t5], [.ref t7, .ref t8], rfl, rfl, (a7.trans (a8.trans a9)) _ _ upd_same, upd_same, by show 7 ≤ sizeLine; decide, fun r hrr => ?_⟩
  have a10 := same_new (o := .lst ([.ref t1, .ref t2, .ref t3, .ref t4, .ref t5] ++ [.ref t7, .ref t8])) hrr
  have e1 := (a2.trans (a3.trans (a4.trans (a5.trans (a6.trans (a7.trans (a8.trans (a9.trans a10)))))))) _ _ (upd_same (a := t1) (o := .tup [.str (told4 0), .str d1.shown]))
  have e2 := (a3.trans (a4.trans (a5.trans (a6.trans (a7.trans (a8.trans (a9.trans a10))))))) _ _ (upd_same (a := t2) (o := .tup [.str (told4 1), .str d3.shown]))
  have e3 := (a4.trans (a5.trans (a6.trans (a7.trans (a8.trans (a9.trans a10)))))) _ _ (upd_same (a := t3) (o := .tup [.str (told4 0), .str d1.shown]))
  have e4 := (a5.trans (a6.trans (a7.trans (a8.trans (a9.trans a10))))) _ _ (upd_same (a := t4) (o := .tup [.str (told4 0), .str d2.shown]))
  have e5 := (a6.trans (a7.trans (a8.trans (a9.trans a10)))) _ _ (upd_same (a := t5) (o := .tup [.str (told4 0), .str d1.shown]))
  have e7 := (a8.trans (a9.trans a10)) _ _ (upd_same (a := t7) (o := .tup [.str (told4 2), .str d4.shown]))
  have e8 := (a9.trans a10) _ _ (upd_same (a := t8) (o := .tup [.str (told4 0), .str d1.shown]))
  have tl2 : Tl _ [.ref t1, .ref t2, .ref t3, .ref t4, .ref t5, .ref t7, .ref t8] [(told4 0, d1.shown), (told4 1, d3.shown), (told4 0, d1.shown), (told4 0, d2.shown), (told4 0, d1.shown), (told4 2, d4.shown), (told4 0, d1.shown)] := (.cons ⟨t1, rfl, e1⟩ (.cons ⟨t2, rfl, e2⟩ (.cons ⟨t3, rfl, e3⟩ (.cons ⟨t4, rfl, e4⟩ (.cons ⟨t5, rfl, e5⟩ (.cons ⟨t7, rfl, e7⟩ (.cons ⟨t8, rfl, e8⟩ .nil)))))))
  have all := (a1.trans (a2.trans (a3.trans (a4.trans (a5.trans (a6.trans (a7.trans (a8.trans (a9.trans a10)))))))))
  refine ⟨_, _, .lst (SqL.of (all _ _ S0.lst)) (tl_dp (tl_keep (fun t xs e => all _ _ e) S0.tl)), .lst (xs := [.ref t1, .ref t2, .ref t3, .ref t4, .ref t5, .ref t7, .ref t8]) (SqL.of upd_same) (tl_dp tl2), (seven_shaped V'.o.ok V'.w.ok V'.o.ok V'.f.ok V'.o.ok V'.b.ok V'.o.ok (told_ok4 0) (told_ok4 1) (told_ok4 0) (told_ok4 0) (told_ok4 0) (told_ok4 2) (told_ok4 0)), (seven_shaped V'.o.ok V'.w.ok V'.o.ok V'.f.ok V'.o.ok V'.b.ok V'.o.ok (told_ok4 0) (told_ok4 1) (told_ok4 0) (told_ok4 0) (told_ok4 0) (told_ok4 2) (told_ok4 0)), ?_⟩
  rw [list_eqv]
  exact q _ all
/-- the whole of it -/
def spSim (P1 P2 : Addr) : Sp := fun vs H Q _ => ∃ (vo vf vw vb : V) (d1 d2 d3 d4 : PyData), vs = [vo, vf, vw, vb] ∧ Vs4 H vo vf vw vb d1 d2 d3 d4 ∧ Tabs (T2 P1 P2) H ∧ ∀ H', ExtN H H' → Tabs (T2 P1 P2) H' → Q (.bl true) H'
/-- a def by its body, the guards and the code object known -/
theorem okGc {P : Program} {w : World} {K : PySem.W.Frag} {mg : Str → Option Value} {base : Heap} {CX : CXT} {x qual : Str} {st : Stmt} {f : Addr} {N ps : List Str} {k : Nat} {sp : Sp} {oc kV doc pm cdv ct : Value} {od an : Option Addr} {osl : Array (Option Value)}
    (lk : K.lookup f = some ⟨oc, od, .func (PySem.W.fnOf x qual (defArgs st) (defBody st) (defScope st) .none kV doc pm an cdv ct), osl⟩) (hcd : PySem.W.codeIn K cdv qual = true) (S : FnScope N ps (defScope st)) (len : ∀ vs H Q E, sp vs H Q E → vs.length = ps.length)
    (body : ∀ (A : Around) (outer : List Env) (s : Shared) (H : Hp) (vs : List V) (Q : VK) (E : XK), Room k (A.deeper (envOfC qual (defScope st) s.heap.objs.size f cdv)) → (A.deeper (envOfC qual (defScope st) s.heap.objs.size f cdv)).guards = some [] → sp vs H Q E →
      ∃ t, PSs (cxOf CX P w K mg base N qual (defScope st) f cdv A outer s H E) (defBody st) t ∧ t { nx := fun _ H' => Q .non H', rt := Q } (start N vs) H) : FnG P w K mg base CX (k + 1) f (PySem.W.fnOf x qual (defArgs st) (defBody st) (defScope st) .none kV doc pm an cdv ct) ps sp := by
  refine ⟨len, fun A outer s H args us vs Q E room guard e0 bind rel prom => ?_⟩
  have guard' : (A.deeper (envOfC qual (defScope st) s.heap.objs.size f cdv)).guards = some [] := by
    cases A
    exact guard
  exact LamX.run_ofS lk hcd S room e0 bind rel (len _ _ _ _ prom) fun hr' => body A outer s H vs Q E hr' guard' prom
theorem ok_simple {oc kV doc pm ct : Value} {od an : Option Addr} {osl : Array (Option Value)} {CP CC CY CF fP fC fY fF : Addr} {dP dC dY dF : FuncData} {gk : List Value → List Value → List Value} (hd : HdK K mg A fH dH P1 P2) (TB : TabB base mg c P1)
    (MP : Mk6 P w K mg base "Put" CP fP dP ["self", "cell", "value"] (spPutI K CP A.n A.z)) (MC : Mk6 P w K mg base "Copy" CC fC dC ["self", "cell", "other"] (spCopyI K CC A.n)) (MY : Mk6 P w K mg base "Say" CY fY dY ["self", "log", "word"] (spSayI K CY A.n A.w)) (kb : KBn K dY ["self", "log", "word"] 1 ["word", "log"] gk gWL)
    (MF : Mk6 P w K mg base "Fail" CF fF dF ["self", "name"] (spFailI K CF A.n))
    (lk : K.lookup f = some ⟨oc, od, .func (PySem.W.fnOf "_law_simple_right" "_law_simple_right" (defArgs sSimpleR) (defBody sSimpleR) (defScope sSimpleR) .none kV doc pm an (.ref c) ct), osl⟩) (hcd : PySem.W.codeIn K (.ref c) "_law_simple_right" = true) :
    FnG P w K mg base CX0 10 f (PySem.W.fnOf "_law_simple_right" "_law_simple_right" (defArgs sSimpleR) (defBody sSimpleR) (defScope sSimpleR) .none kV doc pm an (.ref c) ct) ["_law_odd", "_law_far", "_law_wrong", "_law_bad"] (spSim P1 P2) := by
  refine okGc lk hcd scSim (fun vs H Q E h => ?_) (fun A1 outer s H vs Q E hr hg h => ?_)
  · obtain ⟨vo, vf, vw, vb, d1, d2, d3, d4, rfl, _⟩ := h
    rfl
  · obtain ⟨vo, vf, vw, vb, d1, d2, d3, d4, rfl, V, tb, q⟩ := h
    obtain ⟨t0, h0, q0⟩ := rs0 (f := f) (c := c) (A0 := A1) (outer := outer) (s := s) (H0 := H) (E0' := E) hd hr hg TB MP
    obtain ⟨t1, h1, q1⟩ := rs1 (f := f) (c := c) (A0 := A1) (outer := outer) (s := s) (H0 := H) (E0' := E) hd hr hg TB MP
    obtain ⟨t2, h2, q2⟩ := rs2 (f := f) (c := c) (A0 := A1) (outer := outer) (s := s) (H0 := H) (E0' := E) hd hr hg TB MC
    obtain ⟨t3, h3, q3⟩ := rs3 (f := f) (c := c) (A0 := A1) (outer := outer) (s := s) (H0 := H) (E0' := E) hd hr hg TB MC
    obtain ⟨t4, h4, q4⟩ := rs4 (f := f) (c := c) (A0 := A1) (outer := outer) (s := s) (H0 := H) (E0' := E) hd hr hg TB MY
    obtain ⟨t5, h5, q5⟩ := rs5 (f := f) (c := c) (A0 := A1) (outer := outer) (s := s) (H0 := H) (E0' := E) hd hr hg TB MY kb
    obtain ⟨t6, h6, q6⟩ := rs6 (f := f) (c := c) (A0 := A1) (outer := outer) (s := s) (H0 := H) (E0' := E) hd hr hg TB MF
    obtain ⟨t7, t8, h7, h8, q7⟩ := rs7 (P := P) (w := w) (K := K) (mg := mg) (base := base) (f := f) (c := c) (A0 := A1) (outer := outer) (s := s) (H0 := H) (E0' := E) (P1 := P1) (P2 := P2) hd.T hr hg
    refine ⟨_, pss_cons h0 (pss_cons h1 (pss_cons h2 (pss_cons h3 (pss_cons h4 (pss_cons h5 (pss_cons h6 (pss_cons h7 (pss_one h8)))))))), ?_⟩
    refine q0 H vo vf vw vb d1 d2 d3 d4 _ _ { nx := _, rt := Q } V tb fun l ts1 H1 S1 n1 => ?_
    refine q1 H H1 l ts1 _ vo vf vw vb d1 d2 d3 d4 _ _ V S1 n1 fun ts2 H2 S2 n2 => ?_
    refine q2 H H2 l ts2 _ vo vf vw vb d1 d2 d3 d4 _ _ V S2 n2 fun ts3 H3 S3 n3 => ?_
    refine q3 H H3 l ts3 _ vo vf vw vb d1 d2 d3 d4 _ _ V S3 n3 fun ts4 H4 S4 n4 => ?_
    refine q4 H H4 l ts4 _ vo vf vw vb d1 d2 d3 d4 _ _ V S4 n4 fun ts5 H5 S5 n5 => ?_
    refine q5 H H5 l ts5 _ vo vf vw vb d1 d2 d3 d4 _ _ V S5 n5 fun ts6 H6 S6 n6 => ?_
    refine q6 H H6 l ts6 _ vo vf vw vb d1 d2 d3 d4 _ _ V S6 n6 fun ts7 H7 S7 n7 => ?_
    refine q7 H H7 l ts7 vo vf vw vb d1 d2 d3 d4 _ _ V S7 fun H8 s8 => ?_
    exact q H8 (S7.e.trans (.of s8)) (S7.tabs.ext s8)
end
end My
namespace My
open PySem PySem.Spec PyProof.Rows L2
open LamX (ExtN Tabs TabS TabB lamSB lamS_by tLam lamCx)
abbrev nBlo : List Str := ["_law_odd", "_law_wrong", "_law_lost", "_law_gone", "_law_fine", "_law_heard_here", "_law_due"]
theorem scBlo : FnScope nBlo ["_law_odd", "_law_wrong", "_law_lost", "_law_gone"] (defScope sBlockedR) := ⟨rfl, rfl, rfl, by decide +kernel, rfl, by decide +kernel, by decide +kernel⟩
def inB (i : Nat) : Stmt := (defBody sBlockedR).getD i (.Pass ⟨0, 0, 0, 0⟩)
abbrev XB (P : Program) (w : World) (K : PySem.W.Frag) (mg : Str → Option Value) (base : Heap) (f c : Addr) (A : Around) (outer : List Env) (s : Shared) (H : Hp) (E : XK) : Cx := cxOf CX0 P w K mg base nBlo "_law_blocked_right" (defScope sBlockedR) f (.ref c) A outer s H E
structure Vb4 (CS : Addr) (H : Hp) (vo vw vl vg : V) (d1 d2 : PyData) : Prop where
  o : Val H vo d1
  no : isN vo = false
  w : Val H vw d2
  nw : isV vw = false
  l : Wr CS H vl
  g : Wr CS H vg
  ng : vg ≠ .non
theorem Vb4.ext {CS : Addr} {H H' : Hp} {vo vw vl vg : V} {d1 d2 : PyData} (h : Vb4 CS H vo vw vl vg d1 d2) (e : ExtN H H') : Vb4 CS H' vo vw vl vg d1 d2 := ⟨h.o.ext e, h.no, h.w.ext e, h.nw, h.l.ext e, h.g.ext e, h.ng⟩
theorem ProgAt.ext {CP p : Addr} {H H' : Hp} (h : ProgAt CP H p) (e : ExtN H H') : ProgAt CP H' p := by
  obtain ⟨dx, fs, h⟩ := h
  exact ⟨dx, fs, e _ _ h fun _ z => by cases z⟩
/-- a call that might raise, but doesn't -/
theorem passF {X : Cx} : Passes (L2.CX X.prog X.w) X (fun _ _ _ => False) := fun _ _ _ _ _ _ _ h => by
  obtain ⟨_, _, _, _, _, _, _, _, _, _, _, _, z⟩ := h
  exact z.elim
section
variable {P : Program} {w : World} {K : PySem.W.Frag} {mg : Str → Option Value} {base : Heap} {f c : Addr} {A0 : Around} {outer : List Env} {s : Shared} {H0 : Hp} {E0' : XK} {A : E5} {fH P1 P2 CP CS CD CC aS aT : Addr} {dH : FuncData}
/-- fine = Program(Stop()) -/
theorem rb0 {fP fS : Addr} {dS : FuncData} (hr : Room 9 (XB P w K mg base f c A0 outer s H0 E0').A) (MP : Mk K CP fP) (gP : mg "Program" = some (.ref CP)) (GP : FnR P w K mg base (L2.CX P w) 5 fP (spProg CP CS))
    (MS : Mk K CS fS) (bS : Binds K dS ["self"] []) (gS : mg "Stop" = some (.ref CS)) (GS : FnOk P w K mg base CX0 1 fS dS ["self"] (spStopI CS)) :
    ∃ t, PS (XB P w K mg base f c A0 outer s H0 E0') (inB 0) t ∧ ∀ (H : Hp) (y0 y1 y2 y3 y4 y5 y6 : Option V) (D : Ends), (∀ p H', Same' H H' → ProgAt CP H' p → D.nx [y0, y1, y2, y3, some (.ref p), y5, y6] H') → t D [y0, y1, y2, y3, y4, y5, y6] H := by
  refine ⟨_, ps_set (i := 4) scBlo.nd rfl (.inr rfl) (StX.pe_makeR (E := fun _ _ _ => False) MP GP (hr.mono (by decide)) (by rfl) gP passF (pa_cons (pe_make0 (E := fun _ _ _ => False) MS GS (hr.mono (by decide)) (by rfl) gS bS .nil pass0) pa_nil)), ?_⟩
  intro H y0 y1 y2 y3 y4 y5 y6 D q
  intro x dx hx hdx _
  refine ⟨x, dx, rfl, upd_same, fun H1 k1 sa => ⟨rfl, ?_⟩⟩
  intro p dp hp hdp _
  refine ⟨p, dp, x, rfl, upd_same, sa.keep (made_up hp hdp), fun H2 k2 pa => ⟨rfl, ?_⟩⟩
  exact q p H2 ((made_same hx hdx k1).trans (made_same hp hdp k2)) pa
theorem rb1 {C fI : Addr} {dI : FuncData} (hd : HdK K mg A fH dH P1 P2) (hr : Room 9 (XB P w K mg base f c A0 outer s H0 E0').A) (hg : (XB P w K mg base f c A0 outer s H0 E0').A.guards = some []) (TB : TabB base mg c P2) (N : PgN K CP CS) (S : StK K w mg CS CD CC aS aT) (M : Mk6 P w K mg base "If" C fI dI ["self", "cell", "value", "block", "other"] (spIfI K C A.n A.z CP A.r)) :
    ∃ t, PS (XB P w K mg base f c A0 outer s H0 E0') (inB 1) t ∧ ∀ (H : Hp) (p : Addr) (vo vw vl vg : V) (d1 d2 : PyData) (y5 y6 : Option V) (D : Ends), Vb4 CS H vo vw vl vg d1 d2 → ProgAt CP H p → Tabs (T2 P1 P2) H →
      (∀ l ts H', StS H H' l (T2 P1 P2) ts [(told4 0, d1.shown)] → ts.length = 1 → D.nx [some vo, some vw, some vl, some vg, some (.ref p), some (.ref l), y6] H') → t D [some vo, some vw, some vl, some vg, some (.ref p), y5, y6] H := by
  refine ⟨_, ps_set (i := 5) scBlo.nd rfl (.inl rfl) (pe_lst (pa_cons (pe_ask (A := A) (TT := T2 P1 P2) (t := fun E => tMake C (spIfI K C A.n A.z CP A.r) [] E (tCons (tVar 0) (tCons (tVar 1) (tCons (tVar 2) (tCons (tVar 3) tNil))))) hd.FH hd.gH (by rfl) hd.T hd.gN hd.gZ hd.gW hd.gR hd.gL hr hg TB rfl (.tail _ (.head _)) (hu2 hd.ne) (by show lamSB (defScope sBlockedR) _ = true; decide +kernel) rfl (fun _ _ _ _ _ => rfl) (fun A1 outer1 s1 H1 E f1 c1 hr2 => pe_make M.M M.G hr2 (by rfl) M.g M.b .nil (passes_call (takes_of rfl rfl rfl rfl) (fun _ _ _ _ h => h)) (pa_cons (pv 0) (pa_cons (pv 1) (pa_cons (pv 2) (pa_cons (pv 3) pa_nil)))))) pa_nil)), ?_⟩
  intro H p vo vw vl vg d1 d2 y5 y6 D V pp tb q
  refine rd_lam tb hd.eN (fun r H3 e3 tb3 hr3 => ⟨by show 1 ≤ sizeLine; decide, fun l hl => ?_⟩) fun H2 E Q' e2 hE => ⟨vo, rfl, vw, rfl, vl, rfl, vg, rfl, fun x dx hx hdx _ => if_name (V.ext (e2)).o V.no (V.ext (e2)).w hE hx hdx⟩
  exact q l _ _ (StS.start e3 tb3 hr3 hl) rfl
theorem rb2 {C fI : Addr} {dI : FuncData} (hd : HdK K mg A fH dH P1 P2) (hr : Room 9 (XB P w K mg base f c A0 outer s H0 E0').A) (hg : (XB P w K mg base f c A0 outer s H0 E0').A.guards = some []) (TB : TabB base mg c P2) (N : PgN K CP CS) (S : StK K w mg CS CD CC aS aT) (M : Mk6 P w K mg base "If" C fI dI ["self", "cell", "value", "block", "other"] (spIfI K C A.n A.z CP A.r)) :
    ∃ t, PS (XB P w K mg base f c A0 outer s H0 E0') (inB 2) t ∧ ∀ (Hs H : Hp) (p l : Addr) (ts : List V) (bs : List (Str × Str)) (vo vw vl vg : V) (d1 d2 : PyData) (y6 : Option V) (D : Ends), Vb4 CS Hs vo vw vl vg d1 d2 → ProgAt CP Hs p → StS Hs H l (T2 P1 P2) ts bs → ts.length = 1 →
      (∀ ts' H', StS Hs H' l (T2 P1 P2) ts' (bs ++ [(told4 1, d2.shown)]) → ts'.length = 2 → D.nx [some vo, some vw, some vl, some vg, some (.ref p), some (.ref l), y6] H') → t D [some vo, some vw, some vl, some vg, some (.ref p), some (.ref l), y6] H := by
  refine ⟨_, ps_expr (pe_bm PySem.F.plainAttrs_list PySem.F.slot_list_append PySem.F.type_list_append mt_append (pv 5) (pa_cons (pe_ask (A := A) (TT := T2 P1 P2) (t := fun E => tMake C (spIfI K C A.n A.z CP A.r) [] E (tCons (tC (.str "x")) (tCons (tVar 1) (tCons (tVar 2) (tCons (tVar 3) tNil))))) hd.FH hd.gH (by rfl) hd.T hd.gN hd.gZ hd.gW hd.gR hd.gL hr hg TB rfl (.tail _ (.head _)) (hu2 hd.ne) (by show lamSB (defScope sBlockedR) _ = true; decide +kernel) rfl (fun _ _ _ _ _ => rfl) (fun A1 outer1 s1 H1 E f1 c1 hr2 => pe_make M.M M.G hr2 (by rfl) M.g M.b .nil (passes_call (takes_of rfl rfl rfl rfl) (fun _ _ _ _ h => h)) (pa_cons pe_str (pa_cons (pv 1) (pa_cons (pv 2) (pa_cons (pv 3) pa_nil)))))) pa_nil)), ?_⟩
  intro Hs H p l ts bs vo vw vl vg d1 d2 y6 D V pp S0 hn q
  refine ⟨.ref l, rfl, .inl ⟨rfl, _, SqL.of S0.lst⟩, rd_lam S0.tabs hd.eZ (fun r H3 e3 tb3 hr3 => ?_) fun H2 E Q' e2 hE => ⟨vw, rfl, vl, rfl, vg, rfl, fun x dx hx hdx _ => if_num nx_ok (by decide +kernel) (V.ext (S0.e.trans e2)).w V.nw hE hx hdx⟩⟩
  obtain ⟨hl, sz, S1⟩ := S0.grow (by omega) e3 tb3 hr3
  exact ⟨l, ts, .ref r, rfl, rfl, hl, sz, q _ _ S1 (by rw [List.length_append, List.length_singleton, hn])⟩
theorem rb3 {C fI : Addr} {dI : FuncData} (hd : HdK K mg A fH dH P1 P2) (hr : Room 9 (XB P w K mg base f c A0 outer s H0 E0').A) (hg : (XB P w K mg base f c A0 outer s H0 E0').A.guards = some []) (TB : TabB base mg c P2) (N : PgN K CP CS) (S : StK K w mg CS CD CC aS aT) (M : Mk6 P w K mg base "If" C fI dI ["self", "cell", "value", "block", "other"] (spIfI K C A.n A.z CP A.r)) :
    ∃ t, PS (XB P w K mg base f c A0 outer s H0 E0') (inB 3) t ∧ ∀ (Hs H : Hp) (p l : Addr) (ts : List V) (bs : List (Str × Str)) (vo vw vl vg : V) (d1 d2 : PyData) (y6 : Option V) (D : Ends), Vb4 CS Hs vo vw vl vg d1 d2 → ProgAt CP Hs p → StS Hs H l (T2 P1 P2) ts bs → ts.length = 2 →
      (∀ ts' H', StS Hs H' l (T2 P1 P2) ts' (bs ++ [(told4 3, ("block" : Str))]) → ts'.length = 3 → D.nx [some vo, some vw, some vl, some vg, some (.ref p), some (.ref l), y6] H') → t D [some vo, some vw, some vl, some vg, some (.ref p), some (.ref l), y6] H := by
  refine ⟨_, ps_expr (pe_bm PySem.F.plainAttrs_list PySem.F.slot_list_append PySem.F.type_list_append mt_append (pv 5) (pa_cons (pe_ask (A := A) (TT := T2 P1 P2) (t := fun E => tMake C (spIfI K C A.n A.z CP A.r) [] E (tCons (tC (.str "x")) (tCons (tC (.int 1)) (tCons (tVar 2) (tCons (tVar 3) tNil))))) hd.FH hd.gH (by rfl) hd.T hd.gN hd.gZ hd.gW hd.gR hd.gL hr hg TB rfl (.tail _ (.head _)) (hu2 hd.ne) (by show lamSB (defScope sBlockedR) _ = true; decide +kernel) rfl (fun _ _ _ _ _ => rfl) (fun A1 outer1 s1 H1 E f1 c1 hr2 => pe_make M.M M.G hr2 (by rfl) M.g M.b .nil (passes_call (takes_of rfl rfl rfl rfl) (fun _ _ _ _ h => h)) (pa_cons pe_str (pa_cons pe_int (pa_cons (pv 2) (pa_cons (pv 3) pa_nil)))))) pa_nil)), ?_⟩
  intro Hs H p l ts bs vo vw vl vg d1 d2 y6 D V pp S0 hn q
  refine ⟨.ref l, rfl, .inl ⟨rfl, _, SqL.of S0.lst⟩, rd_lam S0.tabs hd.eR (fun r H3 e3 tb3 hr3 => ?_) fun H2 E Q' e2 hE => ⟨vl, rfl, vg, rfl, fun x dx hx hdx _ => if_blk nx_ok (by decide +kernel) (by decide) (b2_block N S (V.ext (S0.e.trans e2)).l hE hx hdx)⟩⟩
  obtain ⟨hl, sz, S1⟩ := S0.grow (by omega) e3 tb3 hr3
  exact ⟨l, ts, .ref r, rfl, rfl, hl, sz, q _ _ S1 (by rw [List.length_append, List.length_singleton, hn])⟩
theorem rb4 {C fI : Addr} {dI : FuncData} (hd : HdK K mg A fH dH P1 P2) (hr : Room 9 (XB P w K mg base f c A0 outer s H0 E0').A) (hg : (XB P w K mg base f c A0 outer s H0 E0').A.guards = some []) (TB : TabB base mg c P2) (N : PgN K CP CS) (S : StK K w mg CS CD CC aS aT) (M : Mk6 P w K mg base "If" C fI dI ["self", "cell", "value", "block", "other"] (spIfI K C A.n A.z CP A.r)) :
    ∃ t, PS (XB P w K mg base f c A0 outer s H0 E0') (inB 4) t ∧ ∀ (Hs H : Hp) (p l : Addr) (ts : List V) (bs : List (Str × Str)) (vo vw vl vg : V) (d1 d2 : PyData) (y6 : Option V) (D : Ends), Vb4 CS Hs vo vw vl vg d1 d2 → ProgAt CP Hs p → StS Hs H l (T2 P1 P2) ts bs → ts.length = 3 →
      (∀ ts' H', StS Hs H' l (T2 P1 P2) ts' (bs ++ [(told4 3, ("other" : Str))]) → ts'.length = 4 → D.nx [some vo, some vw, some vl, some vg, some (.ref p), some (.ref l), y6] H') → t D [some vo, some vw, some vl, some vg, some (.ref p), some (.ref l), y6] H := by
  refine ⟨_, ps_expr (pe_bm PySem.F.plainAttrs_list PySem.F.slot_list_append PySem.F.type_list_append mt_append (pv 5) (pa_cons (pe_ask (A := A) (TT := T2 P1 P2) (t := fun E => tMake C (spIfI K C A.n A.z CP A.r) [] E (tCons (tC (.str "x")) (tCons (tC (.int 3)) (tCons (tVar 4) (tCons (tVar 3) tNil))))) hd.FH hd.gH (by rfl) hd.T hd.gN hd.gZ hd.gW hd.gR hd.gL hr hg TB rfl (.tail _ (.head _)) (hu2 hd.ne) (by show lamSB (defScope sBlockedR) _ = true; decide +kernel) rfl (fun _ _ _ _ _ => rfl) (fun A1 outer1 s1 H1 E f1 c1 hr2 => pe_make M.M M.G hr2 (by rfl) M.g M.b .nil (passes_call (takes_of rfl rfl rfl rfl) (fun _ _ _ _ h => h)) (pa_cons pe_str (pa_cons pe_int (pa_cons (pv 4) (pa_cons (pv 3) pa_nil)))))) pa_nil)), ?_⟩
  intro Hs H p l ts bs vo vw vl vg d1 d2 y6 D V pp S0 hn q
  refine ⟨.ref l, rfl, .inl ⟨rfl, _, SqL.of S0.lst⟩, rd_lam S0.tabs hd.eR (fun r H3 e3 tb3 hr3 => ?_) fun H2 E Q' e2 hE => ⟨_, rfl, vg, rfl, fun x dx hx hdx _ => if_blk nx_ok (by decide +kernel) (by decide) (b2_other N S (pp.ext (S0.e.trans e2)) (V.ext (S0.e.trans e2)).g V.ng hE hx hdx)⟩⟩
  obtain ⟨hl, sz, S1⟩ := S0.grow (by omega) e3 tb3 hr3
  exact ⟨l, ts, .ref r, rfl, rfl, hl, sz, q _ _ S1 (by rw [List.length_append, List.length_singleton, hn])⟩
theorem rb5 {C fI : Addr} {dI : FuncData} (hd : HdK K mg A fH dH P1 P2) (hr : Room 9 (XB P w K mg base f c A0 outer s H0 E0').A) (hg : (XB P w K mg base f c A0 outer s H0 E0').A.guards = some []) (TB : TabB base mg c P2) (N : PgN K CP CS) (S : StK K w mg CS CD CC aS aT) (M : Mk6 P w K mg base "Catch" C fI dI ["self", "name", "block", "other"] (spCatchI K C A.n CP A.r)) :
    ∃ t, PS (XB P w K mg base f c A0 outer s H0 E0') (inB 5) t ∧ ∀ (Hs H : Hp) (p l : Addr) (ts : List V) (bs : List (Str × Str)) (vo vw vl vg : V) (d1 d2 : PyData) (y6 : Option V) (D : Ends), Vb4 CS Hs vo vw vl vg d1 d2 → ProgAt CP Hs p → StS Hs H l (T2 P1 P2) ts bs → ts.length = 4 →
      (∀ ts' H', StS Hs H' l (T2 P1 P2) ts' (bs ++ [(told4 0, d1.shown)]) → ts'.length = 5 → D.nx [some vo, some vw, some vl, some vg, some (.ref p), some (.ref l), y6] H') → t D [some vo, some vw, some vl, some vg, some (.ref p), some (.ref l), y6] H := by
  refine ⟨_, ps_expr (pe_bm PySem.F.plainAttrs_list PySem.F.slot_list_append PySem.F.type_list_append mt_append (pv 5) (pa_cons (pe_ask (A := A) (TT := T2 P1 P2) (t := fun E => tMake C (spCatchI K C A.n CP A.r) [] E (tCons (tVar 0) (tCons (tVar 2) (tCons (tVar 3) tNil)))) hd.FH hd.gH (by rfl) hd.T hd.gN hd.gZ hd.gW hd.gR hd.gL hr hg TB rfl (.tail _ (.head _)) (hu2 hd.ne) (by show lamSB (defScope sBlockedR) _ = true; decide +kernel) rfl (fun _ _ _ _ _ => rfl) (fun A1 outer1 s1 H1 E f1 c1 hr2 => pe_make M.M M.G hr2 (by rfl) M.g M.b .nil (passes_call (takes_of rfl rfl rfl rfl) (fun _ _ _ _ h => h)) (pa_cons (pv 0) (pa_cons (pv 2) (pa_cons (pv 3) pa_nil))))) pa_nil)), ?_⟩
  intro Hs H p l ts bs vo vw vl vg d1 d2 y6 D V pp S0 hn q
  refine ⟨.ref l, rfl, .inl ⟨rfl, _, SqL.of S0.lst⟩, rd_lam S0.tabs hd.eN (fun r H3 e3 tb3 hr3 => ?_) fun H2 E Q' e2 hE => ⟨vo, rfl, vl, rfl, vg, rfl, fun x dx hx hdx _ => cat_name (V.ext (S0.e.trans e2)).o V.no hE hx hdx⟩⟩
  obtain ⟨hl, sz, S1⟩ := S0.grow (by omega) e3 tb3 hr3
  exact ⟨l, ts, .ref r, rfl, rfl, hl, sz, q _ _ S1 (by rw [List.length_append, List.length_singleton, hn])⟩
theorem rb6 {C fI : Addr} {dI : FuncData} (hd : HdK K mg A fH dH P1 P2) (hr : Room 9 (XB P w K mg base f c A0 outer s H0 E0').A) (hg : (XB P w K mg base f c A0 outer s H0 E0').A.guards = some []) (TB : TabB base mg c P2) (N : PgN K CP CS) (S : StK K w mg CS CD CC aS aT) (M : Mk6 P w K mg base "Catch" C fI dI ["self", "name", "block", "other"] (spCatchI K C A.n CP A.r)) :
    ∃ t, PS (XB P w K mg base f c A0 outer s H0 E0') (inB 6) t ∧ ∀ (Hs H : Hp) (p l : Addr) (ts : List V) (bs : List (Str × Str)) (vo vw vl vg : V) (d1 d2 : PyData) (y6 : Option V) (D : Ends), Vb4 CS Hs vo vw vl vg d1 d2 → ProgAt CP Hs p → StS Hs H l (T2 P1 P2) ts bs → ts.length = 5 →
      (∀ ts' H', StS Hs H' l (T2 P1 P2) ts' (bs ++ [(told4 3, ("block" : Str))]) → ts'.length = 6 → D.nx [some vo, some vw, some vl, some vg, some (.ref p), some (.ref l), y6] H') → t D [some vo, some vw, some vl, some vg, some (.ref p), some (.ref l), y6] H := by
  refine ⟨_, ps_expr (pe_bm PySem.F.plainAttrs_list PySem.F.slot_list_append PySem.F.type_list_append mt_append (pv 5) (pa_cons (pe_ask (A := A) (TT := T2 P1 P2) (t := fun E => tMake C (spCatchI K C A.n CP A.r) [] E (tCons (tC (.str "f")) (tCons (tVar 2) (tCons (tVar 3) tNil)))) hd.FH hd.gH (by rfl) hd.T hd.gN hd.gZ hd.gW hd.gR hd.gL hr hg TB rfl (.tail _ (.head _)) (hu2 hd.ne) (by show lamSB (defScope sBlockedR) _ = true; decide +kernel) rfl (fun _ _ _ _ _ => rfl) (fun A1 outer1 s1 H1 E f1 c1 hr2 => pe_make M.M M.G hr2 (by rfl) M.g M.b .nil (passes_call (takes_of rfl rfl rfl rfl) (fun _ _ _ _ h => h)) (pa_cons pe_str (pa_cons (pv 2) (pa_cons (pv 3) pa_nil))))) pa_nil)), ?_⟩
  intro Hs H p l ts bs vo vw vl vg d1 d2 y6 D V pp S0 hn q
  refine ⟨.ref l, rfl, .inl ⟨rfl, _, SqL.of S0.lst⟩, rd_lam S0.tabs hd.eR (fun r H3 e3 tb3 hr3 => ?_) fun H2 E Q' e2 hE => ⟨vl, rfl, vg, rfl, fun x dx hx hdx _ => cat_blk nf_ok (by decide +kernel) (b2_block N S (V.ext (S0.e.trans e2)).l hE hx hdx)⟩⟩
  obtain ⟨hl, sz, S1⟩ := S0.grow (by omega) e3 tb3 hr3
  exact ⟨l, ts, .ref r, rfl, rfl, hl, sz, q _ _ S1 (by rw [List.length_append, List.length_singleton, hn])⟩
theorem rb7 {C fI : Addr} {dI : FuncData} {gk : List Value → List Value → List Value} (hd : HdK K mg A fH dH P1 P2) (hr : Room 9 (XB P w K mg base f c A0 outer s H0 E0').A) (hg : (XB P w K mg base f c A0 outer s H0 E0').A.guards = some []) (TB : TabB base mg c P2) (N : PgN K CP CS) (S : StK K w mg CS CD CC aS aT) (M : Mk6 P w K mg base "Catch" C fI dI ["self", "name", "block", "other"] (spCatchI K C A.n CP A.r)) (kb : KBn K dI ["self", "name", "block", "other"] 1 ["other", "block", "name"] gk gNBO) :
    ∃ t, PS (XB P w K mg base f c A0 outer s H0 E0') (inB 7) t ∧ ∀ (Hs H : Hp) (p l : Addr) (ts : List V) (bs : List (Str × Str)) (vo vw vl vg : V) (d1 d2 : PyData) (y6 : Option V) (D : Ends), Vb4 CS Hs vo vw vl vg d1 d2 → ProgAt CP Hs p → StS Hs H l (T2 P1 P2) ts bs → ts.length = 6 →
      (∀ ts' H', StS Hs H' l (T2 P1 P2) ts' (bs ++ [(told4 3, ("other" : Str))]) → ts'.length = 7 → D.nx [some vo, some vw, some vl, some vg, some (.ref p), some (.ref l), y6] H') → t D [some vo, some vw, some vl, some vg, some (.ref p), some (.ref l), y6] H := by
  refine ⟨_, ps_expr (pe_bm PySem.F.plainAttrs_list PySem.F.slot_list_append PySem.F.type_list_append mt_append (pv 5) (pa_cons (pe_ask (A := A) (TT := T2 P1 P2) (t := fun E => tMakeK C 0 3 (spCatchI K C A.n CP A.r) gNBO E tNil (tCons (tVar 3) (tCons (tVar 4) (tCons (tC (.str "f")) tNil)))) hd.FH hd.gH (by rfl) hd.T hd.gN hd.gZ hd.gW hd.gR hd.gL hr hg TB rfl (.tail _ (.head _)) (hu2 hd.ne) (by show lamSB (defScope sBlockedR) _ = true; decide +kernel) rfl (fun _ _ _ _ _ => rfl) (fun A1 outer1 s1 H1 E f1 c1 hr2 => pe_makeK0 (ks := ["other", "block", "name"]) M.M M.G hr2 (by rfl) M.g kb (passes_call (takes_of rfl rfl rfl rfl) (fun _ _ _ _ h => h)) (pk_cons (pv 3) (pk_cons (pv 4) (pk_cons pe_str pk_nil))))) pa_nil)), ?_⟩
  intro Hs H p l ts bs vo vw vl vg d1 d2 y6 D V pp S0 hn q
  refine ⟨.ref l, rfl, .inl ⟨rfl, _, SqL.of S0.lst⟩, rd_lam S0.tabs hd.eR (fun r H3 e3 tb3 hr3 => ?_) fun H2 E Q' e2 hE => ⟨vg, rfl, _, rfl, rfl, rfl, fun x dx hx hdx _ => cat_blk nf_ok (by decide +kernel) (b2_other N S (pp.ext (S0.e.trans e2)) (V.ext (S0.e.trans e2)).g V.ng hE hx hdx)⟩⟩
  obtain ⟨hl, sz, S1⟩ := S0.grow (by omega) e3 tb3 hr3
  exact ⟨l, ts, .ref r, rfl, rfl, hl, sz, q _ _ S1 (by rw [List.length_append, List.length_singleton, hn])⟩
theorem rb8 {C fI : Addr} {dI : FuncData} (hd : HdK K mg A fH dH P1 P2) (hr : Room 9 (XB P w K mg base f c A0 outer s H0 E0').A) (hg : (XB P w K mg base f c A0 outer s H0 E0').A.guards = some []) (TB : TabB base mg c P2) (N : PgN K CP CS) (S : StK K w mg CS CD CC aS aT) (M : Mk6 P w K mg base "Choose" C fI dI ["self", "block", "other"] (spChooseI K C CP A.r)) :
    ∃ t, PS (XB P w K mg base f c A0 outer s H0 E0') (inB 8) t ∧ ∀ (Hs H : Hp) (p l : Addr) (ts : List V) (bs : List (Str × Str)) (vo vw vl vg : V) (d1 d2 : PyData) (y6 : Option V) (D : Ends), Vb4 CS Hs vo vw vl vg d1 d2 → ProgAt CP Hs p → StS Hs H l (T2 P1 P2) ts bs → ts.length = 7 →
      (∀ ts' H', StS Hs H' l (T2 P1 P2) ts' (bs ++ [(told4 3, ("block" : Str))]) → ts'.length = 8 → D.nx [some vo, some vw, some vl, some vg, some (.ref p), some (.ref l), y6] H') → t D [some vo, some vw, some vl, some vg, some (.ref p), some (.ref l), y6] H := by
  refine ⟨_, ps_expr (pe_bm PySem.F.plainAttrs_list PySem.F.slot_list_append PySem.F.type_list_append mt_append (pv 5) (pa_cons (pe_ask (A := A) (TT := T2 P1 P2) (t := fun E => tMake C (spChooseI K C CP A.r) [] E (tCons (tVar 2) (tCons (tVar 3) tNil))) hd.FH hd.gH (by rfl) hd.T hd.gN hd.gZ hd.gW hd.gR hd.gL hr hg TB rfl (.tail _ (.head _)) (hu2 hd.ne) (by show lamSB (defScope sBlockedR) _ = true; decide +kernel) rfl (fun _ _ _ _ _ => rfl) (fun A1 outer1 s1 H1 E f1 c1 hr2 => pe_make M.M M.G hr2 (by rfl) M.g M.b .nil (passes_call (takes_of rfl rfl rfl rfl) (fun _ _ _ _ h => h)) (pa_cons (pv 2) (pa_cons (pv 3) pa_nil)))) pa_nil)), ?_⟩
  intro Hs H p l ts bs vo vw vl vg d1 d2 y6 D V pp S0 hn q
  refine ⟨.ref l, rfl, .inl ⟨rfl, _, SqL.of S0.lst⟩, rd_lam S0.tabs hd.eR (fun r H3 e3 tb3 hr3 => ?_) fun H2 E Q' e2 hE => ⟨vl, rfl, vg, rfl, fun x dx hx hdx _ => cho_blk (b2_block N S (V.ext (S0.e.trans e2)).l hE hx hdx)⟩⟩
  obtain ⟨hl, sz, S1⟩ := S0.grow (by omega) e3 tb3 hr3
  exact ⟨l, ts, .ref r, rfl, rfl, hl, sz, q _ _ S1 (by rw [List.length_append, List.length_singleton, hn])⟩
theorem rb9 {C fI : Addr} {dI : FuncData} (hd : HdK K mg A fH dH P1 P2) (hr : Room 9 (XB P w K mg base f c A0 outer s H0 E0').A) (hg : (XB P w K mg base f c A0 outer s H0 E0').A.guards = some []) (TB : TabB base mg c P2) (N : PgN K CP CS) (S : StK K w mg CS CD CC aS aT) (M : Mk6 P w K mg base "Choose" C fI dI ["self", "block", "other"] (spChooseI K C CP A.r)) :
    ∃ t, PS (XB P w K mg base f c A0 outer s H0 E0') (inB 9) t ∧ ∀ (Hs H : Hp) (p l : Addr) (ts : List V) (bs : List (Str × Str)) (vo vw vl vg : V) (d1 d2 : PyData) (y6 : Option V) (D : Ends), Vb4 CS Hs vo vw vl vg d1 d2 → ProgAt CP Hs p → StS Hs H l (T2 P1 P2) ts bs → ts.length = 8 →
      (∀ ts' H', StS Hs H' l (T2 P1 P2) ts' (bs ++ [(told4 3, ("other" : Str))]) → ts'.length = 9 → D.nx [some vo, some vw, some vl, some vg, some (.ref p), some (.ref l), y6] H') → t D [some vo, some vw, some vl, some vg, some (.ref p), some (.ref l), y6] H := by
  refine ⟨_, ps_expr (pe_bm PySem.F.plainAttrs_list PySem.F.slot_list_append PySem.F.type_list_append mt_append (pv 5) (pa_cons (pe_ask (A := A) (TT := T2 P1 P2) (t := fun E => tMake C (spChooseI K C CP A.r) [] E (tCons (tVar 4) (tCons (tVar 3) tNil))) hd.FH hd.gH (by rfl) hd.T hd.gN hd.gZ hd.gW hd.gR hd.gL hr hg TB rfl (.tail _ (.head _)) (hu2 hd.ne) (by show lamSB (defScope sBlockedR) _ = true; decide +kernel) rfl (fun _ _ _ _ _ => rfl) (fun A1 outer1 s1 H1 E f1 c1 hr2 => pe_make M.M M.G hr2 (by rfl) M.g M.b .nil (passes_call (takes_of rfl rfl rfl rfl) (fun _ _ _ _ h => h)) (pa_cons (pv 4) (pa_cons (pv 3) pa_nil)))) pa_nil)), ?_⟩
  intro Hs H p l ts bs vo vw vl vg d1 d2 y6 D V pp S0 hn q
  refine ⟨.ref l, rfl, .inl ⟨rfl, _, SqL.of S0.lst⟩, rd_lam S0.tabs hd.eR (fun r H3 e3 tb3 hr3 => ?_) fun H2 E Q' e2 hE => ⟨_, rfl, vg, rfl, fun x dx hx hdx _ => cho_blk (b2_other N S (pp.ext (S0.e.trans e2)) (V.ext (S0.e.trans e2)).g V.ng hE hx hdx)⟩⟩
  obtain ⟨hl, sz, S1⟩ := S0.grow (by omega) e3 tb3 hr3
  exact ⟨l, ts, .ref r, rfl, rfl, hl, sz, q _ _ S1 (by rw [List.length_append, List.length_singleton, hn])⟩
theorem rb10 (T : Txt mg) (hr : Room 9 (XB P w K mg base f c A0 outer s H0 E0').A) (hg : (XB P w K mg base f c A0 outer s H0 E0').A.guards = some []) :
    ∃ t7 t8, PS (XB P w K mg base f c A0 outer s H0 E0') (inB 10) t7 ∧ PS (XB P w K mg base f c A0 outer s H0 E0') (inB 11) t8 ∧ ∀ (Hs H : Hp) (l : Addr) (ts : List V) (p : Addr) (vo vw vl vg : V) (d1 d2 : PyData) (yd : Option V) (D : Ends), Vb4 CS Hs vo vw vl vg d1 d2 →
      StS Hs H l (T2 P1 P2) ts [(told4 0, d1.shown), (told4 1, d2.shown), (told4 3, ("block" : Str)), (told4 3, ("other" : Str)), (told4 0, d1.shown), (told4 3, ("block" : Str)), (told4 3, ("other" : Str)), (told4 3, ("block" : Str)), (told4 3, ("other" : Str))] →
      (∀ H', Same' H H' → D.rt (.bl true) H') → tSeq t7 t8 D [some vo, some vw, some vl, some vg, some (.ref p), some (.ref l), yd] H := by
  have hu : (XB P w K mg base f c A0 outer s H0 E0').A.units + 64 < cLine := hr.units
  refine ⟨_, _, ps_set (i := 6) scBlo.nd rfl (.inl rfl) (pe_lst (pa_cons (pe_tup (pa_cons pe_str (pa_cons (pe_callB (call_reprT hg hu) (by rfl) T.repr (by decide +kernel) (pa_cons (pv 0) pa_nil)) pa_nil))) (pa_cons (pe_tup (pa_cons pe_str (pa_cons (pe_callB (call_reprT hg hu) (by rfl) T.repr (by decide +kernel) (pa_cons (pv 1) pa_nil)) pa_nil))) (pa_cons (pe_tup (pa_cons pe_str (pa_cons pe_str pa_nil))) (pa_cons (pe_tup (pa_cons pe_str (pa_cons pe_str pa_nil))) (pa_cons (pe_tup (pa_cons pe_str (pa_cons (pe_callB (call_reprT hg hu) (by rfl) T.repr (by decide +kernel) (pa_cons (pv 0) pa_nil)) pa_nil))) pa_nil)))))), ps_ret (pe_cmpR (op_eqD hu) (pv 5) (pe_op op_cat (pv 6) (pe_op op_rep (pe_lst (pa_cons (pe_tup (pa_cons pe_str (pa_cons pe_str pa_nil))) (pa_cons (pe_tup (pa_cons pe_str (pa_cons pe_str pa_nil))) pa_nil))) pe_int)) (nomark _)), ?_⟩
  intro Hs H l ts p vo vw vl vg d1 d2 yd D V S0 q
  have V' := V.ext S0.e
  refine ⟨vo, rfl, vo, d1, rfl, V'.o.th, V'.o.fine, by show 2 ≤ sizeLine; decide, fun t1 h1 => ?_⟩
  have a1 := same_new (o := .tup [.str (told4 0), .str d1.shown]) h1
  refine ⟨vw, rfl, vw, d2, rfl, (V'.w.keep a1).th, V'.w.fine, by show 2 ≤ sizeLine; decide, fun t2 h2 => ?_⟩
  have a2 := same_new (o := .tup [.str (told4 1), .str d2.shown]) h2
  refine ⟨by show 2 ≤ sizeLine; decide, fun t3 h3 => ?_⟩
  have a3 := same_new (o := .tup [.str (told4 3), .str "block"]) h3
  refine ⟨by show 2 ≤ sizeLine; decide, fun t4 h4 => ?_⟩
  have a4 := same_new (o := .tup [.str (told4 3), .str "other"]) h4
  refine ⟨vo, rfl, vo, d1, rfl, (V'.o.keep (a1.trans (a2.trans (a3.trans a4)))).th, V'.o.fine, by show 2 ≤ sizeLine; decide, fun t5 h5 => ?_⟩
  have a5 := same_new (o := .tup [.str (told4 0), .str d1.shown]) h5
  refine ⟨by show 5 ≤ sizeLine; decide, fun ld hld => ?_⟩
  have a6 := same_new (o := .lst [.ref t1, .ref t2, .ref t3, .ref t4, .ref t5]) hld
  refine ⟨.ref l, rfl, .ref ld, rfl, ?_⟩
  refine ⟨by show 2 ≤ sizeLine; decide, fun t7 h7 => ?_⟩
  have a7 := same_new (o := .tup [.str (told4 3), .str "block"]) h7
  refine ⟨by show 2 ≤ sizeLine; decide, fun t8 h8 => ?_⟩
  have a8 := same_new (o := .tup [.str (told4 3), .str "other"]) h8
  refine ⟨by show 2 ≤ sizeLine; decide, fun l2 hl2 => ?_⟩
  have a9 := same_new (o := .lst [.ref t7, .ref t8]) hl2
  refine ⟨l2, 2, _, rfl, rfl, upd_same, by decide, by decide, by show 2 * 2 ≤ sizeLine; decide, fun r2 hr2 => ?_⟩
  have a10 := same_new (o := .lst [.ref t7, .ref t8, .ref t7, .ref t8]) hr2
  refine ⟨ld, r2, [.ref t1, .ref t2, .ref t3, .ref t4, .ref t5], [.ref t7, .ref t8, .ref t7, .ref t8], rfl, rfl, (a7.trans (a8.trans (a9.trans a10))) _ _ upd_same, upd_same, by show 9 ≤ sizeLine; decide, fun r hrr => ?_⟩
  have a11 := same_new (o := .lst ([.ref t1, .ref t2, .ref t3, .ref t4, .ref t5] ++ [.ref t7, .ref t8, .ref t7, .ref t8])) hrr
  have e1 := (a2.trans (a3.trans (a4.trans (a5.trans (a6.trans (a7.trans (a8.trans (a9.trans (a10.trans a11))))))))) _ _ (upd_same (a := t1) (o := .tup [.str (told4 0), .str d1.shown]))
  have e2 := (a3.trans (a4.trans (a5.trans (a6.trans (a7.trans (a8.trans (a9.trans (a10.trans a11)))))))) _ _ (upd_same (a := t2) (o := .tup [.str (told4 1), .str d2.shown]))
  have e3 := (a4.trans (a5.trans (a6.trans (a7.trans (a8.trans (a9.trans (a10.trans a11))))))) _ _ (upd_same (a := t3) (o := .tup [.str (told4 3), .str "block"]))
  have e4 := (a5.trans (a6.trans (a7.trans (a8.trans (a9.trans (a10.trans a11)))))) _ _ (upd_same (a := t4) (o := .tup [.str (told4 3), .str "other"]))
  have e5 := (a6.trans (a7.trans (a8.trans (a9.trans (a10.trans a11))))) _ _ (upd_same (a := t5) (o := .tup [.str (told4 0), .str d1.shown]))
  have e7 := (a8.trans (a9.trans (a10.trans a11))) _ _ (upd_same (a := t7) (o := .tup [.str (told4 3), .str "block"]))
  have e8 := (a9.trans (a10.trans a11)) _ _ (upd_same (a := t8) (o := .tup [.str (told4 3), .str "other"]))
  have tl2 : Tl _ [.ref t1, .ref t2, .ref t3, .ref t4, .ref t5, .ref t7, .ref t8, .ref t7, .ref t8] [(told4 0, d1.shown), (told4 1, d2.shown), (told4 3, ("block" : Str)), (told4 3, ("other" : Str)), (told4 0, d1.shown), (told4 3, ("block" : Str)), (told4 3, ("other" : Str)), (told4 3, ("block" : Str)), (told4 3, ("other" : Str))] := (.cons ⟨t1, rfl, e1⟩ (.cons ⟨t2, rfl, e2⟩ (.cons ⟨t3, rfl, e3⟩ (.cons ⟨t4, rfl, e4⟩ (.cons ⟨t5, rfl, e5⟩ (.cons ⟨t7, rfl, e7⟩ (.cons ⟨t8, rfl, e8⟩ (.cons ⟨t7, rfl, e7⟩ (.cons ⟨t8, rfl, e8⟩ .nil)))))))))
  have all := (a1.trans (a2.trans (a3.trans (a4.trans (a5.trans (a6.trans (a7.trans (a8.trans (a9.trans (a10.trans a11))))))))))
  refine ⟨_, _, .lst (SqL.of (all _ _ S0.lst)) (tl_dp (tl_keep (fun t xs e => all _ _ e) S0.tl)), .lst (xs := [.ref t1, .ref t2, .ref t3, .ref t4, .ref t5, .ref t7, .ref t8, .ref t7, .ref t8]) (SqL.of upd_same) (tl_dp tl2), (nine_shaped V'.o.ok V'.w.ok (by decide +kernel) (by decide +kernel) V'.o.ok (by decide +kernel) (by decide +kernel) (by decide +kernel) (by decide +kernel) (told_ok4 0) (told_ok4 1) (told_ok4 3) (told_ok4 3) (told_ok4 0) (told_ok4 3) (told_ok4 3) (told_ok4 3) (told_ok4 3)), (nine_shaped V'.o.ok V'.w.ok (by decide +kernel) (by decide +kernel) V'.o.ok (by decide +kernel) (by decide +kernel) (by decide +kernel) (by decide +kernel) (told_ok4 0) (told_ok4 1) (told_ok4 3) (told_ok4 3) (told_ok4 0) (told_ok4 3) (told_ok4 3) (told_ok4 3) (told_ok4 3)), ?_⟩
  rw [list_eqv]
  exact q _ all
/-- the whole of it -/
def spBlo (CS P1 P2 : Addr) : Sp := fun vs H Q _ => ∃ (vo vw vl vg : V) (d1 d2 : PyData), vs = [vo, vw, vl, vg] ∧ Vb4 CS H vo vw vl vg d1 d2 ∧ Tabs (T2 P1 P2) H ∧ ∀ H', ExtN H H' → Tabs (T2 P1 P2) H' → Q (.bl true) H'
theorem ok_blocked {oc kV doc pm ct : Value} {od an : Option Addr} {osl : Array (Option Value)} {CI CA CH fP fS fI fA fC : Addr} {dS dI dA dC : FuncData} {gk : List Value → List Value → List Value} (hd : HdK K mg A fH dH P1 P2) (TB : TabB base mg c P2) (N : PgN K CP CS) (S : StK K w mg CS CD CC aS aT)
    (MP : Mk K CP fP) (gP : mg "Program" = some (.ref CP)) (GP : FnR P w K mg base (L2.CX P w) 5 fP (spProg CP CS)) (MS : Mk K CS fS) (bS : Binds K dS ["self"] []) (gS : mg "Stop" = some (.ref CS)) (GS : FnOk P w K mg base CX0 1 fS dS ["self"] (spStopI CS))
    (MI : Mk6 P w K mg base "If" CI fI dI ["self", "cell", "value", "block", "other"] (spIfI K CI A.n A.z CP A.r)) (MA : Mk6 P w K mg base "Catch" CA fA dA ["self", "name", "block", "other"] (spCatchI K CA A.n CP A.r)) (kb : KBn K dA ["self", "name", "block", "other"] 1 ["other", "block", "name"] gk gNBO)
    (MC : Mk6 P w K mg base "Choose" CH fC dC ["self", "block", "other"] (spChooseI K CH CP A.r))
    (lk : K.lookup f = some ⟨oc, od, .func (PySem.W.fnOf "_law_blocked_right" "_law_blocked_right" (defArgs sBlockedR) (defBody sBlockedR) (defScope sBlockedR) .none kV doc pm an (.ref c) ct), osl⟩) (hcd : PySem.W.codeIn K (.ref c) "_law_blocked_right" = true) :
    FnG P w K mg base CX0 10 f (PySem.W.fnOf "_law_blocked_right" "_law_blocked_right" (defArgs sBlockedR) (defBody sBlockedR) (defScope sBlockedR) .none kV doc pm an (.ref c) ct) ["_law_odd", "_law_wrong", "_law_lost", "_law_gone"] (spBlo CS P1 P2) := by
  refine okGc lk hcd scBlo (fun vs H Q E h => ?_) (fun A1 outer s H vs Q E hr hg h => ?_)
  · obtain ⟨vo, vw, vl, vg, d1, d2, rfl, _⟩ := h
    rfl
  · obtain ⟨vo, vw, vl, vg, d1, d2, rfl, V, tb, q⟩ := h
    obtain ⟨t0, h0, q0⟩ := rb0 (f := f) (c := c) (A0 := A1) (outer := outer) (s := s) (H0 := H) (E0' := E) hr MP gP GP MS bS gS GS
    obtain ⟨t1, h1, q1⟩ := rb1 (f := f) (c := c) (A0 := A1) (outer := outer) (s := s) (H0 := H) (E0' := E) hd hr hg TB N S MI
    obtain ⟨t2, h2, q2⟩ := rb2 (f := f) (c := c) (A0 := A1) (outer := outer) (s := s) (H0 := H) (E0' := E) hd hr hg TB N S MI
    obtain ⟨t3, h3, q3⟩ := rb3 (f := f) (c := c) (A0 := A1) (outer := outer) (s := s) (H0 := H) (E0' := E) hd hr hg TB N S MI
    obtain ⟨t4, h4, q4⟩ := rb4 (f := f) (c := c) (A0 := A1) (outer := outer) (s := s) (H0 := H) (E0' := E) hd hr hg TB N S MI
    obtain ⟨t5, h5, q5⟩ := rb5 (f := f) (c := c) (A0 := A1) (outer := outer) (s := s) (H0 := H) (E0' := E) hd hr hg TB N S MA
    obtain ⟨t6, h6, q6⟩ := rb6 (f := f) (c := c) (A0 := A1) (outer := outer) (s := s) (H0 := H) (E0' := E) hd hr hg TB N S MA
    obtain ⟨t7, h7, q7⟩ := rb7 (f := f) (c := c) (A0 := A1) (outer := outer) (s := s) (H0 := H) (E0' := E) hd hr hg TB N S MA kb
    obtain ⟨t8, h8, q8⟩ := rb8 (f := f) (c := c) (A0 := A1) (outer := outer) (s := s) (H0 := H) (E0' := E) hd hr hg TB N S MC
    obtain ⟨t9, h9, q9⟩ := rb9 (f := f) (c := c) (A0 := A1) (outer := outer) (s := s) (H0 := H) (E0' := E) hd hr hg TB N S MC
    obtain ⟨t10, t11, h10, h11, q10⟩ := rb10 (P := P) (w := w) (K := K) (mg := mg) (base := base) (f := f) (c := c) (A0 := A1) (outer := outer) (s := s) (H0 := H) (E0' := E) (P1 := P1) (P2 := P2) (CS := CS) hd.T hr hg
    refine ⟨_, pss_cons h0 (pss_cons h1 (pss_cons h2 (pss_cons h3 (pss_cons h4 (pss_cons h5 (pss_cons h6 (pss_cons h7 (pss_cons h8 (pss_cons h9 (pss_cons h10 (pss_one h11))))))))))), ?_⟩
    refine q0 H _ _ _ _ _ _ _ { nx := _, rt := Q } fun p Hs ss pp => ?_
    have V2 := V.ext (.of ss)
    refine q1 Hs p vo vw vl vg d1 d2 _ _ _ V2 pp (tb.ext ss) fun l ts1 H1 S1 n1 => ?_
    refine q2 Hs H1 p l ts1 _ vo vw vl vg d1 d2 _ _ V2 pp S1 n1 fun ts2 H2 S2 n2 => ?_
    refine q3 Hs H2 p l ts2 _ vo vw vl vg d1 d2 _ _ V2 pp S2 n2 fun ts3 H3 S3 n3 => ?_
    refine q4 Hs H3 p l ts3 _ vo vw vl vg d1 d2 _ _ V2 pp S3 n3 fun ts4 H4 S4 n4 => ?_
    refine q5 Hs H4 p l ts4 _ vo vw vl vg d1 d2 _ _ V2 pp S4 n4 fun ts5 H5 S5 n5 => ?_
    refine q6 Hs H5 p l ts5 _ vo vw vl vg d1 d2 _ _ V2 pp S5 n5 fun ts6 H6 S6 n6 => ?_
    refine q7 Hs H6 p l ts6 _ vo vw vl vg d1 d2 _ _ V2 pp S6 n6 fun ts7 H7 S7 n7 => ?_
    refine q8 Hs H7 p l ts7 _ vo vw vl vg d1 d2 _ _ V2 pp S7 n7 fun ts8 H8 S8 n8 => ?_
    refine q9 Hs H8 p l ts8 _ vo vw vl vg d1 d2 _ _ V2 pp S8 n8 fun ts9 H9 S9 n9 => ?_
    refine q10 Hs H9 l ts9 p vo vw vl vg d1 d2 _ _ V2 S9 fun H10 s10 => ?_
    exact q H10 ((ExtN.of ss).trans (S9.e.trans (.of s10))) (S9.tabs.ext s10)
end
end My
namespace My
open PySem PySem.Spec PyProof.Rows L2
open LamX (ExtN Tabs TabS TabB)
/-! ### the drawn values -/
def flatD : V → PyData
  | .bl b => .bool b
  | .int i => .int i
  | .str z => .str z
  | _ => .none
def okFlat (v : V) : Bool := (match v with | .non => true | .bl _ => true | .int _ => true | .str z => decide (z.length ≤ 1000) | _ => false) && (flatD v).showable && decide ((flatD v).depth ≤ 8) && decide ((flatD v).shown.length ≤ 1000) && PyData.strOk (flatD v).shown
theorem val_flat {H : Hp} {v : V} (h : okFlat v = true) : Val H v (flatD v) := by
  unfold okFlat at h
  simp only [Bool.and_eq_true, decide_eq_true_eq] at h
  obtain ⟨⟨⟨⟨h1, h2⟩, h3⟩, h4⟩, h5⟩ := h
  refine ⟨.flat ?_, ⟨h2, h3, Nat.le_trans h4 (by decide)⟩, h5, fun z e => ?_⟩
  · cases v with
    | non => exact .non
    | bl b => exact .bl b
    | int i => exact .int i
    | str z => exact .str z
    | _ => cases h1
  · subst e
    exact of_decide_eq_true h1
def big40 : Int := (10 : Int) ^ (40 : Int).toNat
def someA : List V := [.non, .int 0, .str "", .str "X", .str "put", .str "choice", .str "abcdefghi", .str "x1"]
def someB : List V := [.bl true, .str "x "]
def wrongA : List V := [.int (-1), .int 4, .non, .bl true, .bl false, .str "1"]
def wrongB : List V := [.int big40]
def badA : List V := [.non, .str "", .str "A", .str "abcdefghi", .str "a b", .int 0, .bl true]
def badB : List V := [.str "a\n"]
theorem some_flat : ∀ v ∈ someA ++ someB, okFlat v = true ∧ isN v = false := by decide +kernel
theorem wrong_flat : ∀ v ∈ wrongA ++ wrongB, okFlat v = true ∧ isV v = false := by decide +kernel
theorem bad_flat : ∀ v ∈ badA ++ badB, okFlat v = true ∧ isWd v = false := by decide +kernel
theorem fine_of {d : PyData} (h : (d.showable && decide (d.depth ≤ 8) && decide (d.shown.length ≤ 1000) && PyData.strOk d.shown) = true) : Fine d ∧ PyData.strOk d.shown = true := by
  simp only [Bool.and_eq_true, decide_eq_true_eq] at h
  exact ⟨⟨h.1.1.1, h.1.1.2, Nat.le_trans h.1.2 (by decide)⟩, h.2⟩
/-- a tuple, a list and a dict: what they hold is known -/
structure Tri (H : Hp) (p : Addr) (x : V) (t l d : Addr) : Prop where
  et : H t = some (.tup [x])
  el : H l = some (.lst [x])
  ed : H d = some (.dK [])
  nt : t ≠ p
  nl : l ≠ p
  nd : d ≠ p
theorem Tri.off {H H' : Hp} {p : Addr} {x : V} {t l d : Addr} (h : Tri H p x t l d) (o : Off p H H') : Tri H' p x t l d := ⟨o _ _ h.nt h.et, o _ _ h.nl h.el, o _ _ h.nd h.ed, h.nt, h.nl, h.nd⟩
theorem val_tri {H : Hp} {p t l d : Addr} {x v : V} {e : PyData} {as bs : List V} {f : V → Bool} (T : Tri H p x t l d) (fx : Fl x e) (fl : ∀ v ∈ as ++ bs, okFlat v = true ∧ f v = false) (h1 : Fine (.tuple [e]) ∧ PyData.strOk (PyData.tuple [e]).shown = true) (h2 : Fine (.list [e]) ∧ PyData.strOk (PyData.list [e]).shown = true)
    (h3 : Fine (.dict []) ∧ PyData.strOk (PyData.dict []).shown = true) (fr : ∀ a, f (.ref a) = false) (hv : v ∈ as ++ ([.ref t, .ref l, .ref d] ++ bs)) : ∃ dv, Val H v dv ∧ f v = false := by
  have flat : v ∈ as ++ bs → ∃ dv, Val H v dv ∧ f v = false := fun h => ⟨_, val_flat (fl v h).1, (fl v h).2⟩
  simp only [List.mem_append] at hv flat
  rcases hv with h | h | h
  · exact flat (.inl h)
  · simp only [List.mem_cons, List.not_mem_nil, or_false] at h
    rcases h with rfl | rfl | rfl
    · exact ⟨_, ⟨.tup T.et (.cons fx .nil) (by show 1 ≤ 1000; decide), h1.1, h1.2, fun _ z => by cases z⟩, fr _⟩
    · exact ⟨_, ⟨.lst T.el (.cons fx .nil) (by show 1 ≤ 1000; decide), h2.1, h2.2, fun _ z => by cases z⟩, fr _⟩
    · exact ⟨_, ⟨.dct T.ed, h3.1, h3.2, fun _ z => by cases z⟩, fr _⟩
  · exact flat (.inr h)
abbrev someL (t l d : Addr) : List V := someA ++ ([.ref t, .ref l, .ref d] ++ someB)
abbrev wrongL (t l d : Addr) : List V := wrongA ++ ([.ref t, .ref l, .ref d] ++ wrongB)
abbrev badL (t l d : Addr) : List V := badA ++ ([.ref t, .ref l, .ref d] ++ badB)
abbrev lostL (t l s m : Addr) : List V := [.non, .int 0, .str "skip", .ref t, .ref l, .ref s, .ref m, .bl true]
abbrev goneL (t l s m d : Addr) : List V := [.int 0, .str "skip", .ref t, .ref l, .ref s, .ref m, .bl false, .ref d]
structure Lost (CS : Addr) (H : Hp) (p t l s m : Addr) : Prop where
  et : H t = some (.tup [])
  el : H l = some (.lst [])
  es : ∃ dx fs, H s = some (.ins CS dx fs)
  em : ∃ xs, H m = some (.lst xs)
  nt : t ≠ p
  nl : l ≠ p
  ns : s ≠ p
  nm : m ≠ p
theorem Lost.off {CS : Addr} {H H' : Hp} {p t l s m : Addr} (h : Lost CS H p t l s m) (o : Off p H H') : Lost CS H' p t l s m :=
  let ⟨dx, fs, e⟩ := h.es
  let ⟨xs, e2⟩ := h.em
  ⟨o _ _ h.nt h.et, o _ _ h.nl h.el, ⟨dx, fs, o _ _ h.ns e⟩, ⟨xs, o _ _ h.nm e2⟩, h.nt, h.nl, h.ns, h.nm⟩
theorem lost_wr {CS : Addr} {H : Hp} {p t l s m : Addr} {v : V} (h : Lost CS H p t l s m) (hv : v ∈ lostL t l s m) : Wr CS H v := by
  simp only [List.mem_cons, List.not_mem_nil, or_false] at hv
  obtain ⟨dx, fs, e⟩ := h.es
  obtain ⟨xs, e2⟩ := h.em
  rcases hv with rfl | rfl | rfl | rfl | rfl | rfl | rfl | rfl
  · exact .flat .non
  · exact .flat (.int _)
  · exact .flat (.str _)
  · exact .tup h.et
  · exact .lst h.el
  · exact .stop e
  · exact .lst e2
  · exact .flat (.bl _)
structure Gone (CS : Addr) (H : Hp) (p t l s m d : Addr) : Prop where
  et : H t = some (.tup [])
  el : H l = some (.lst [])
  es : ∃ dx fs, H s = some (.ins CS dx fs)
  em : ∃ xs, H m = some (.tup xs)
  ed : H d = some (.dK [])
  nt : t ≠ p
  nl : l ≠ p
  ns : s ≠ p
  nm : m ≠ p
  nd : d ≠ p
theorem Gone.off {CS : Addr} {H H' : Hp} {p t l s m d : Addr} (h : Gone CS H p t l s m d) (o : Off p H H') : Gone CS H' p t l s m d :=
  let ⟨dx, fs, e⟩ := h.es
  let ⟨xs, e2⟩ := h.em
  ⟨o _ _ h.nt h.et, o _ _ h.nl h.el, ⟨dx, fs, o _ _ h.ns e⟩, ⟨xs, o _ _ h.nm e2⟩, o _ _ h.nd h.ed, h.nt, h.nl, h.ns, h.nm, h.nd⟩
theorem gone_wr {CS : Addr} {H : Hp} {p t l s m d : Addr} {v : V} (h : Gone CS H p t l s m d) (hv : v ∈ goneL t l s m d) : Wr CS H v ∧ v ≠ .non := by
  simp only [List.mem_cons, List.not_mem_nil, or_false] at hv
  obtain ⟨dx, fs, e⟩ := h.es
  obtain ⟨xs, e2⟩ := h.em
  rcases hv with rfl | rfl | rfl | rfl | rfl | rfl | rfl | rfl
  · exact ⟨.flat (.int _), fun z => by cases z⟩
  · exact ⟨.flat (.str _), fun z => by cases z⟩
  · exact ⟨.tup h.et, fun z => by cases z⟩
  · exact ⟨.lst h.el, fun z => by cases z⟩
  · exact ⟨.stop e, fun z => by cases z⟩
  · exact ⟨.tup e2, fun z => by cases z⟩
  · exact ⟨.flat (.bl _), fun z => by cases z⟩
  · exact ⟨.dct h.ed, fun z => by cases z⟩
abbrev nLaw : List Str := ["_law_script", "_law_pen_here", "_law_some", "_law_turn", "_law_odd", "_law_far", "_law_wrong", "_law_bad", "_law_lost", "_law_gone"]
theorem scLaw : FnScope nLaw ["_law_script"] (defScope sLaw) := ⟨rfl, rfl, rfl, by decide +kernel, rfl, by decide +kernel, by decide +kernel⟩
abbrev PR : Program := PySem.Challenge.rw_layerseen_k05_simple_deeds_refused.prog
abbrev XL (w : World) (K : PySem.W.Frag) (mg : Str → Option Value) (base : Heap) (fa : Addr) (cdv : Value) (s : Shared) (H0 : Hp) : Cx := (cxOf CX0 PR w K mg base nLaw "law" (defScope sLaw) fa cdv callerA [] s H0 E0).nox
def inL (i : Nat) : Stmt := (defBody sLaw).getD i (.Pass ⟨0, 0, 0, 0⟩)
def inLoop (i : Nat) : Stmt := match inL 2 with
  | .For _ _ b _ _ => b.getD i (.Pass ⟨0, 0, 0, 0⟩)
  | _ => .Pass ⟨0, 0, 0, 0⟩
end My
namespace My
open PySem PySem.Spec PyProof.Rows L2
open LamX (ExtN Tabs TabS TabB)
theorem PenAt.new {H : Hp} {p c a : Addr} {ns : List Int} {B : Int} {o : HO} (P : PenAt H p c ns B) (h : H a = none) : PenAt (upd H a o) p c ns B := P.keep fun q x e => by
  rw [upd_ne (ne_of_none e h)]
  exact e
theorem PenAt.same {H H' : Hp} {p c : Addr} {ns : List Int} {B : Int} (P : PenAt H p c ns B) (h : Same' H H') : PenAt H' p c ns B := P.keep h
theorem PenAt.nw {H H' : Hp} {p c a : Addr} {ns : List Int} {B : Int} (P : PenAt H p c ns B) (s : Same' H H') (h : H' a = none) : a ≠ p := by
  obtain ⟨b, g, hp, _⟩ := (P.same s).pen
  exact (ne_of_none hp h).symm
theorem Off.same {p : Addr} {H H' : Hp} (s : Same' H H') : Off p H H' := fun a o _ e => s a o e
section
variable {w : World} {K : PySem.W.Frag} {mg : Str → Option Value} {base : Heap} {fa : Addr} {cdv : Value} {s : Shared} {H0 : Hp}
theorem hrX : Room 12 (XL w K mg base fa cdv s H0).A := ⟨rfl, by show 1 + claimMargin + 1 + 3 * 12 + 5 < recursionLimit; decide +kernel, by show 4 + 3 + 16 * 12 + 200 < cLine; decide +kernel⟩
theorem hgX : (XL w K mg base fa cdv s H0).A.guards = some [] := rfl
/-- some = [..] -/
theorem lp1 : ∃ t, PS (XL w K mg base fa cdv s H0) (inL 1) t ∧ ∀ (y0 y1 y2 y3 y4 y5 y6 y7 y8 y9 : Option V) (H : Hp) (D : Ends),
      (∀ t l d ls H', Same' H H' → H t = none → H l = none → H d = none → H ls = none → H' t = some (.tup [.str "x"]) → H' l = some (.lst [.str "x"]) → H' d = some (.dK []) → H' ls = some (.lst (someL t l d)) → D.nx [y0, y1, some (.ref ls), y3, y4, y5, y6, y7, y8, y9] H') → t D [y0, y1, y2, y3, y4, y5, y6, y7, y8, y9] H := by
  refine ⟨_, ps_set (i := 2) scLaw.nd rfl (.inl rfl) (pe_lst (pa_cons pe_non (pa_cons pe_int (pa_cons pe_str (pa_cons pe_str (pa_cons pe_str (pa_cons pe_str (pa_cons pe_str (pa_cons pe_str (pa_cons (pe_tup (pa_cons pe_str pa_nil)) (pa_cons (pe_lst (pa_cons pe_str pa_nil)) (pa_cons pe_dnewK (pa_cons pe_bl (pa_cons pe_str pa_nil)))))))))))))), ?_⟩
  intro y0 y1 y2 y3 y4 y5 y6 y7 y8 y9 H D q
  refine ⟨by show 1 ≤ sizeLine; decide, fun t ht => ⟨by show 1 ≤ sizeLine; decide, fun l hl => fun d hd => ⟨by show 13 ≤ sizeLine; decide, fun ls hls => ?_⟩⟩⟩
  have a1 := same_new (o := .tup [.str "x"]) ht
  have a2 := same_new (o := .lst [.str "x"]) hl
  have a3 := same_new (o := .dK []) hd
  have a4 := same_new (o := .lst (someL t l d)) hls
  have old : ∀ {b : Addr} {H' : Hp}, Same' H H' → H' b = none → H b = none := fun {b H'} k e => by
    cases h : H b with
    | none => rfl
    | some o =>
      rw [k _ _ h] at e
      cases e
  exact q t l d ls _ (((a1.trans a2).trans a3).trans a4) ht (old a1 hl) (old (a1.trans a2) hd) (old ((a1.trans a2).trans a3) hls) (((a2.trans a3).trans a4) _ _ upd_same) ((a3.trans a4) _ _ upd_same) (a4 _ _ upd_same) upd_same
/-- odd, far = .. -/
theorem lq0 {fP : Addr} {fdP : FuncData} (FP : Fun K "_law_pick" "_law_pick" sPick fP fdP) (bP : Binds K fdP ["_law_pen_here", "_law_some"] []) (gP : mg "_law_pick" = some (.ref fP)) (GP : FnOk PR w K mg base CX0 2 fP fdP ["_law_pen_here", "_law_some"] spPick) :
    ∃ t, PS (XL w K mg base fa cdv s H0) (inLoop 0) t ∧ ∀ (p c : Addr) (ns : List Int) (B : Int) (ls t1 l1 d1 : Addr) (y0 y3 y4 y5 y6 y7 y8 y9 : Option V) (H : Hp) (D : Ends), PenAt H p c ns B → B + 2 ≤ 1000 → H ls = some (.lst (someL t1 l1 d1)) → ls ≠ p →
      (∀ v1 v2 H', v1 ∈ someL t1 l1 d1 → v2 ∈ someL t1 l1 d1 → PenAt H' p c ns (B + 2) → Off p H H' → D.nx [y0, some (.ref p), some (.ref ls), y3, some v1, some v2, y6, y7, y8, y9] H') → t D [y0, some (.ref p), some (.ref ls), y3, y4, y5, y6, y7, y8, y9] H := by
  refine ⟨_, ps_par (i := 4) (j := 5) rfl scLaw.nd rfl rfl (by decide) rfl rfl
        (pa_cons (pe_call GP (hrX.mono (by decide)) (by rfl) gP FP.kp bP .nil pass0 (pa_cons (pv 1) (pa_cons (pv 2) pa_nil))) (pa_cons (pe_call GP (hrX.mono (by decide)) (by rfl) gP FP.kp bP .nil pass0 (pa_cons (pv 1) (pa_cons (pv 2) pa_nil))) pa_nil)) (by rfl), ?_⟩
  intro p c ns B ls t1 l1 d1 y0 y3 y4 y5 y6 y7 y8 y9 H D PA hB e1 n1 q
  refine ⟨.ref p, rfl, .ref ls, rfl, p, c, ns, B, .ref ls, _, rfl, PA, by omega, .inl ⟨ls, rfl, n1, e1⟩, by show 1 ≤ 13; decide, by show 13 ≤ 1000; decide, fun v1 H1 m1 PA1 o1 => ?_⟩
  refine ⟨.ref p, rfl, .ref ls, rfl, p, c, ns, B + 1, .ref ls, _, rfl, PA1, by omega, .inl ⟨ls, rfl, n1, o1 _ _ n1 e1⟩, by show 1 ≤ 13; decide, by show 13 ≤ 1000; decide, fun v2 H2 m2 PA2 o2 => ⟨_, _, rfl, ?_⟩⟩
  exact q v1 v2 H2 m1 m2 (PA2.more (by omega)) (o1.trans o2)
/-- wrong = .. -/
theorem lq1 {fP : Addr} {fdP : FuncData} (FP : Fun K "_law_pick" "_law_pick" sPick fP fdP) (bP : Binds K fdP ["_law_pen_here", "_law_some"] []) (gP : mg "_law_pick" = some (.ref fP)) (GP : FnOk PR w K mg base CX0 2 fP fdP ["_law_pen_here", "_law_some"] spPick) :
    ∃ t, PS (XL w K mg base fa cdv s H0) (inLoop 1) t ∧ ∀ (p c : Addr) (ns : List Int) (B : Int) (y0 y2 y3 y4 y5 y6 y7 y8 y9 : Option V) (H : Hp) (D : Ends), PenAt H p c ns B → B + 1 ≤ 1000 →
      (∀ v t l d H', v ∈ wrongL t l d → Tri H' p (.int 1) t l d → PenAt H' p c ns (B + 1) → Off p H H' → D.nx [y0, some (.ref p), y2, y3, y4, y5, some v, y7, y8, y9] H') → t D [y0, some (.ref p), y2, y3, y4, y5, y6, y7, y8, y9] H := by
  refine ⟨_, ps_set (i := 6) scLaw.nd rfl (.inl rfl) (pe_call GP (hrX.mono (by decide)) (by rfl) gP FP.kp bP .nil pass0 (pa_cons (pv 1) (pa_cons (pe_lst (pa_cons (pe_un un_neg pe_int) (pa_cons pe_int (pa_cons pe_non (pa_cons pe_bl (pa_cons pe_bl (pa_cons pe_str (pa_cons (pe_tup (pa_cons pe_int pa_nil)) (pa_cons (pe_lst (pa_cons pe_int pa_nil)) (pa_cons pe_dnewK (pa_cons (pe_op op_pow pe_int pe_int) pa_nil))))))))))) pa_nil))), ?_⟩
  intro p c ns B y0 y2 y3 y4 y5 y6 y7 y8 y9 H D PA hB q
  refine ⟨.ref p, rfl, 1, rfl, by show 1 ≤ sizeLine; decide, fun t ht => ⟨by show 1 ≤ sizeLine; decide, fun l hl => fun d hd => ⟨10, 40, rfl, rfl, ⟨by decide, by decide, by decide⟩, by show 10 ≤ sizeLine; decide, fun ls hls => ?_⟩⟩⟩
  have a1 := same_new (o := .tup [.int 1]) ht
  have a2 := same_new (o := .lst [.int 1]) hl
  have a3 := same_new (o := .dK []) hd
  have a4 := same_new (o := .lst (wrongL t l d)) hls
  have al := ((a1.trans a2).trans a3).trans a4
  have T : Tri _ p (.int 1) t l d := ⟨((a2.trans a3).trans a4) _ _ upd_same, (a3.trans a4) _ _ upd_same, a4 _ _ upd_same, PA.nw (fun _ _ e => e) ht, PA.nw a1 hl, PA.nw (a1.trans a2) hd⟩
  refine ⟨p, c, ns, B, .ref ls, _, rfl, PA.same al, by omega, .inl ⟨ls, rfl, PA.nw ((a1.trans a2).trans a3) hls, upd_same⟩, by show 1 ≤ 10; decide, by show 10 ≤ 1000; decide, fun v H1 hv PA1 o1 => ?_⟩
  exact q v t l d H1 hv (T.off o1) PA1 ((Off.same al).trans o1)
/-- bad = .. -/
theorem lq2 {fP : Addr} {fdP : FuncData} (FP : Fun K "_law_pick" "_law_pick" sPick fP fdP) (bP : Binds K fdP ["_law_pen_here", "_law_some"] []) (gP : mg "_law_pick" = some (.ref fP)) (GP : FnOk PR w K mg base CX0 2 fP fdP ["_law_pen_here", "_law_some"] spPick) :
    ∃ t, PS (XL w K mg base fa cdv s H0) (inLoop 2) t ∧ ∀ (p c : Addr) (ns : List Int) (B : Int) (y0 y2 y3 y4 y5 y6 y7 y8 y9 : Option V) (H : Hp) (D : Ends), PenAt H p c ns B → B + 1 ≤ 1000 →
      (∀ v t l d H', v ∈ badL t l d → Tri H' p (.str "a") t l d → PenAt H' p c ns (B + 1) → Off p H H' → D.nx [y0, some (.ref p), y2, y3, y4, y5, y6, some v, y8, y9] H') → t D [y0, some (.ref p), y2, y3, y4, y5, y6, y7, y8, y9] H := by
  refine ⟨_, ps_set (i := 7) scLaw.nd rfl (.inl rfl) (pe_call GP (hrX.mono (by decide)) (by rfl) gP FP.kp bP .nil pass0 (pa_cons (pv 1) (pa_cons (pe_lst (pa_cons pe_non (pa_cons pe_str (pa_cons pe_str (pa_cons pe_str (pa_cons pe_str (pa_cons pe_int (pa_cons pe_bl (pa_cons (pe_tup (pa_cons pe_str pa_nil)) (pa_cons (pe_lst (pa_cons pe_str pa_nil)) (pa_cons pe_dnewK (pa_cons pe_str pa_nil)))))))))))) pa_nil))), ?_⟩
  intro p c ns B y0 y2 y3 y4 y5 y6 y7 y8 y9 H D PA hB q
  refine ⟨.ref p, rfl, by show 1 ≤ sizeLine; decide, fun t ht => ⟨by show 1 ≤ sizeLine; decide, fun l hl => fun d hd => ⟨by show 11 ≤ sizeLine; decide, fun ls hls => ?_⟩⟩⟩
  have a1 := same_new (o := .tup [.str "a"]) ht
  have a2 := same_new (o := .lst [.str "a"]) hl
  have a3 := same_new (o := .dK []) hd
  have a4 := same_new (o := .lst (badL t l d)) hls
  have al := ((a1.trans a2).trans a3).trans a4
  have T : Tri _ p (.str "a") t l d := ⟨((a2.trans a3).trans a4) _ _ upd_same, (a3.trans a4) _ _ upd_same, a4 _ _ upd_same, PA.nw (fun _ _ e => e) ht, PA.nw a1 hl, PA.nw (a1.trans a2) hd⟩
  refine ⟨p, c, ns, B, .ref ls, _, rfl, PA.same al, by omega, .inl ⟨ls, rfl, PA.nw ((a1.trans a2).trans a3) hls, upd_same⟩, by show 1 ≤ 11; decide, by show 11 ≤ 1000; decide, fun v H1 hv PA1 o1 => ?_⟩
  exact q v t l d H1 hv (T.off o1) PA1 ((Off.same al).trans o1)
/-- lost = .. -/
theorem lq3 {fP CS fS : Addr} {fdP dS : FuncData} (FP : Fun K "_law_pick" "_law_pick" sPick fP fdP) (bP : Binds K fdP ["_law_pen_here", "_law_some"] []) (gP : mg "_law_pick" = some (.ref fP)) (GP : FnOk PR w K mg base CX0 2 fP fdP ["_law_pen_here", "_law_some"] spPick)
    (MS : Mk K CS fS) (bS : Binds K dS ["self"] []) (gS : mg "Stop" = some (.ref CS)) (GS : FnOk PR w K mg base CX0 1 fS dS ["self"] (spStopI CS)) :
    ∃ t, PS (XL w K mg base fa cdv s H0) (inLoop 3) t ∧ ∀ (p c : Addr) (ns : List Int) (B : Int) (y0 y2 y3 y4 y5 y6 y7 y8 y9 : Option V) (H : Hp) (D : Ends), PenAt H p c ns B → B + 1 ≤ 1000 →
      (∀ v t l x m H', v ∈ lostL t l x m → Lost CS H' p t l x m → PenAt H' p c ns (B + 1) → Off p H H' → D.nx [y0, some (.ref p), y2, y3, y4, y5, y6, y7, some v, y9] H') → t D [y0, some (.ref p), y2, y3, y4, y5, y6, y7, y8, y9] H := by
  refine ⟨_, ps_set (i := 8) scLaw.nd rfl (.inl rfl) (pe_call GP (hrX.mono (by decide)) (by rfl) gP FP.kp bP .nil pass0 (pa_cons (pv 1) (pa_cons (pe_lst (pa_cons pe_non (pa_cons pe_int (pa_cons pe_str (pa_cons (pe_tup pa_nil) (pa_cons (pe_lst pa_nil) (pa_cons (pe_make0 (E := fun _ _ _ => False) MS GS (hrX.mono (by decide)) (by rfl) gS bS .nil pass0) (pa_cons (pe_lst (pa_cons (pe_make0 (E := fun _ _ _ => False) MS GS (hrX.mono (by decide)) (by rfl) gS bS .nil pass0) pa_nil)) (pa_cons pe_bl pa_nil))))))))) pa_nil))), ?_⟩
  intro p c ns B y0 y2 y3 y4 y5 y6 y7 y8 y9 H D PA hB q
  refine ⟨.ref p, rfl, by show 0 ≤ sizeLine; decide, fun t ht => ⟨by show 0 ≤ sizeLine; decide, fun l hl => ?_⟩⟩
  have a1 := same_new (o := .tup []) ht
  have a2 := same_new (o := .lst []) hl
  intro x dx hx hdx _
  refine ⟨x, dx, rfl, upd_same, fun H3 k3 sa => ⟨rfl, ?_⟩⟩
  have a3 := made_same hx hdx k3
  intro x2 dx2 hx2 hdx2 _
  refine ⟨x2, dx2, rfl, upd_same, fun H4 k4 sa2 => ⟨rfl, by show 1 ≤ sizeLine; decide, fun m hm => ⟨by show 8 ≤ sizeLine; decide, fun ls hls => ?_⟩⟩⟩
  have a4 := made_same hx2 hdx2 k4
  have a5 := same_new (o := .lst [.ref x2]) hm
  have a6 := same_new (o := .lst (lostL t l x m)) hls
  have b2 := a1.trans a2
  have b3 := b2.trans a3
  have b4 := b3.trans a4
  have b5 := b4.trans a5
  obtain ⟨dz, tz, ez, _⟩ := ((sa.keep a4).keep a5).keep a6
  have L : Lost CS _ p t l x m := ⟨((((a2.trans a3).trans a4).trans a5).trans a6) _ _ upd_same, (((a3.trans a4).trans a5).trans a6) _ _ upd_same, ⟨dz, _, ez⟩, ⟨_, a6 _ _ upd_same⟩, PA.nw (fun _ _ e => e) ht, PA.nw a1 hl, PA.nw b2 hx, PA.nw b4 hm⟩
  refine ⟨p, c, ns, B, .ref ls, _, rfl, PA.same (b5.trans a6), by omega, .inl ⟨ls, rfl, PA.nw b5 hls, upd_same⟩, by show 1 ≤ 8; decide, by show 8 ≤ 1000; decide, fun v H7 hv PA1 o1 => ?_⟩
  exact q v t l x m H7 hv (L.off o1) PA1 ((Off.same (b5.trans a6)).trans o1)
/-- gone = .. -/
theorem lq4 {fP CS fS : Addr} {fdP dS : FuncData} (FP : Fun K "_law_pick" "_law_pick" sPick fP fdP) (bP : Binds K fdP ["_law_pen_here", "_law_some"] []) (gP : mg "_law_pick" = some (.ref fP)) (GP : FnOk PR w K mg base CX0 2 fP fdP ["_law_pen_here", "_law_some"] spPick)
    (MS : Mk K CS fS) (bS : Binds K dS ["self"] []) (gS : mg "Stop" = some (.ref CS)) (GS : FnOk PR w K mg base CX0 1 fS dS ["self"] (spStopI CS)) :
    ∃ t, PS (XL w K mg base fa cdv s H0) (inLoop 4) t ∧ ∀ (p c : Addr) (ns : List Int) (B : Int) (y0 y2 y3 y4 y5 y6 y7 y8 y9 : Option V) (H : Hp) (D : Ends), PenAt H p c ns B → B + 1 ≤ 1000 →
      (∀ v t l x m d H', v ∈ goneL t l x m d → Gone CS H' p t l x m d → PenAt H' p c ns (B + 1) → Off p H H' → D.nx [y0, some (.ref p), y2, y3, y4, y5, y6, y7, y8, some v] H') → t D [y0, some (.ref p), y2, y3, y4, y5, y6, y7, y8, y9] H := by
  refine ⟨_, ps_set (i := 9) scLaw.nd rfl (.inl rfl) (pe_call GP (hrX.mono (by decide)) (by rfl) gP FP.kp bP .nil pass0 (pa_cons (pv 1) (pa_cons (pe_lst (pa_cons pe_int (pa_cons pe_str (pa_cons (pe_tup pa_nil) (pa_cons (pe_lst pa_nil) (pa_cons (pe_make0 (E := fun _ _ _ => False) MS GS (hrX.mono (by decide)) (by rfl) gS bS .nil pass0) (pa_cons (pe_tup (pa_cons (pe_make0 (E := fun _ _ _ => False) MS GS (hrX.mono (by decide)) (by rfl) gS bS .nil pass0) pa_nil)) (pa_cons pe_bl (pa_cons pe_dnewK pa_nil))))))))) pa_nil))), ?_⟩
  intro p c ns B y0 y2 y3 y4 y5 y6 y7 y8 y9 H D PA hB q
  refine ⟨.ref p, rfl, by show 0 ≤ sizeLine; decide, fun t ht => ⟨by show 0 ≤ sizeLine; decide, fun l hl => ?_⟩⟩
  have a1 := same_new (o := .tup []) ht
  have a2 := same_new (o := .lst []) hl
  intro x dx hx hdx _
  refine ⟨x, dx, rfl, upd_same, fun H3 k3 sa => ⟨rfl, ?_⟩⟩
  have a3 := made_same hx hdx k3
  intro x2 dx2 hx2 hdx2 _
  refine ⟨x2, dx2, rfl, upd_same, fun H4 k4 sa2 => ⟨rfl, by show 1 ≤ sizeLine; decide, fun m hm => fun d hd => ⟨by show 8 ≤ sizeLine; decide, fun ls hls => ?_⟩⟩⟩
  have a4 := made_same hx2 hdx2 k4
  have a5 := same_new (o := .tup [.ref x2]) hm
  have a6 := same_new (o := .dK []) hd
  have a7 := same_new (o := .lst (goneL t l x m d)) hls
  have b2 := a1.trans a2
  have b3 := b2.trans a3
  have b4 := b3.trans a4
  have b5 := b4.trans a5
  have b6 := b5.trans a6
  obtain ⟨dz, tz, ez, _⟩ := (((sa.keep a4).keep a5).keep a6).keep a7
  have L : Gone CS _ p t l x m d := ⟨(((((a2.trans a3).trans a4).trans a5).trans a6).trans a7) _ _ upd_same, ((((a3.trans a4).trans a5).trans a6).trans a7) _ _ upd_same, ⟨dz, _, ez⟩, ⟨_, (a6.trans a7) _ _ upd_same⟩, a7 _ _ upd_same, PA.nw (fun _ _ e => e) ht, PA.nw a1 hl, PA.nw b2 hx, PA.nw b4 hm, PA.nw b5 hd⟩
  refine ⟨p, c, ns, B, .ref ls, _, rfl, PA.same (b6.trans a7), by omega, .inl ⟨ls, rfl, PA.nw b6 hls, upd_same⟩, by show 1 ≤ 8; decide, by show 8 ≤ 1000; decide, fun v H7 hv PA1 o1 => ?_⟩
  exact q v t l x m d H7 hv (L.off o1) PA1 ((Off.same (b6.trans a7)).trans o1)
end
end My
namespace My
open PySem PySem.Spec PyProof.Rows L2
open LamX (ExtN Tabs TabS TabB)
theorem Tri.ext {H H' : Hp} {p : Addr} {x : V} {t l d : Addr} (h : Tri H p x t l d) (o : ExtN H H') : Tri H' p x t l d := ⟨o _ _ h.et (fun _ z => by cases z), o _ _ h.el (fun _ z => by cases z), o _ _ h.ed (fun _ z => by cases z), h.nt, h.nl, h.nd⟩
theorem fn_x : (Fine (.tuple [.str "x"]) ∧ PyData.strOk (PyData.tuple [.str "x"]).shown = true) ∧ (Fine (.list [.str "x"]) ∧ PyData.strOk (PyData.list [.str "x"]).shown = true) := ⟨fine_of (by decide +kernel), fine_of (by decide +kernel)⟩
theorem fn_1 : (Fine (.tuple [.int 1]) ∧ PyData.strOk (PyData.tuple [.int 1]).shown = true) ∧ (Fine (.list [.int 1]) ∧ PyData.strOk (PyData.list [.int 1]).shown = true) := ⟨fine_of (by decide +kernel), fine_of (by decide +kernel)⟩
theorem fn_a : (Fine (.tuple [.str "a"]) ∧ PyData.strOk (PyData.tuple [.str "a"]).shown = true) ∧ (Fine (.list [.str "a"]) ∧ PyData.strOk (PyData.list [.str "a"]).shown = true) := ⟨fine_of (by decide +kernel), fine_of (by decide +kernel)⟩
theorem fn_d : Fine (.dict []) ∧ PyData.strOk (PyData.dict []).shown = true := fine_of (by decide +kernel)
/-- the parts that the law's body stands on -/
structure Parts (w : World) (K : PySem.W.Frag) (mg : Str → Option Value) (base : Heap) (A : E5) (P1 P2 CS CPt CSy : Addr) (fE fK fG fF fS fP fY : Addr) (dE dK dG dF dS dP dY : FuncData) : Prop where
  T : Txt mg
  Fe : Fun K "_law_pen" "_law_pen" sPen fE dE
  be : Binds K dE ["_law_script"] []
  ge : mg "_law_pen" = some (.ref fE)
  Ge : FnOk PR w K mg base CX0 1 fE dE ["_law_script"] (spPen K)
  Fk : Fun K "_law_pick" "_law_pick" sPick fK dK
  bk : Binds K dK ["_law_pen_here", "_law_some"] []
  gk : mg "_law_pick" = some (.ref fK)
  Gk : FnOk PR w K mg base CX0 2 fK dK ["_law_pen_here", "_law_some"] spPick
  kg : PySem.W.keepIn K (.ref fG) = true
  bg : Binds K dG ["_law_odd", "_law_far", "_law_wrong", "_law_bad"] []
  gg : mg "_law_simple_right" = some (.ref fG)
  Gg : FnG PR w K mg base CX0 10 fG dG ["_law_odd", "_law_far", "_law_wrong", "_law_bad"] (spSim P1 P2)
  kf : PySem.W.keepIn K (.ref fF) = true
  bf : Binds K dF ["_law_odd", "_law_wrong", "_law_lost", "_law_gone"] []
  gf : mg "_law_blocked_right" = some (.ref fF)
  Gf : FnG PR w K mg base CX0 10 fF dF ["_law_odd", "_law_wrong", "_law_lost", "_law_gone"] (spBlo CS P1 P2)
  MS : Mk K CS fS
  bS : Binds K dS ["self"] []
  gS : mg "Stop" = some (.ref CS)
  GS : FnOk PR w K mg base CX0 1 fS dS ["self"] (spStopI CS)
  MP : Mk6 PR w K mg base "Put" CPt fP dP ["self", "cell", "value"] (spPutI K CPt A.n A.z)
  MY : Mk6 PR w K mg base "Say" CSy fY dY ["self", "log", "word"] (spSayI K CSy A.n A.w)
  DP : DCls K mg "Put" CPt ["cell", "value", "fields"]
  DY : DCls K mg "Say" CSy ["log", "word", "fields"]
theorem wd_put : isWd (.str "put") = true := by decide +kernel
section
variable {w : World} {K : PySem.W.Frag} {mg : Str → Option Value} {base : Heap} {fa : Addr} {cdv : Value} {s : Shared} {H0 : Hp} {A : E5} {P1 P2 CS CPt CSy : Addr} {fE fK fG fF fS fP fY : Addr} {dE dK dG dF dS dP dY : FuncData}
theorem put_made {i : Int} {x dx : Addr} {H : Hp} {Q : Addr → Hp → Prop} (hi : isV (.int i) = true) (q : ∀ x dx t H', H' x = some (.ins CPt dx [("cell", .str "x"), ("value", .int i), ("fields", .ref t)]) → Q x H') :
    ∀ x dx, H x = none → H dx = none → dx ≠ x → spPutI K CPt A.n A.z [.ref x, .str "x", .int i] (Nw H x dx CPt) (fun v H2 => v = .non ∧ Q x H2) (fun _ _ _ => False) := fun x dx hx hdx _ =>
  ⟨x, dx, .str "x", .int i, .str "x", .int i, rfl, upd_same, .inl ⟨_, rfl, by decide +kernel⟩, .flat (.str _), .flat (.int _), fun h => ft nx_ok h, fun _ h => ft hi h, fun _ _ t H' _ e => ⟨rfl, q x dx t H' e⟩⟩
theorem say_made {H : Hp} {Q : Addr → Hp → Prop} (q : ∀ x dx t H', H' x = some (.ins CSy dx [("log", .str "l"), ("word", .str "put"), ("fields", .ref t)]) → Q x H') :
    ∀ x dx, H x = none → H dx = none → dx ≠ x → spSayI K CSy A.n A.w [.ref x, .str "l", .str "put"] (Nw H x dx CSy) (fun v H2 => v = .non ∧ Q x H2) (fun _ _ _ => False) := fun x dx hx hdx _ =>
  ⟨x, dx, .str "l", .str "put", .str "l", .str "put", rfl, upd_same, .inl ⟨_, rfl, by decide +kernel⟩, .flat (.str _), .inl ⟨_, rfl, by decide +kernel⟩, .flat (.str _), fun h => ft nl_ok h, fun _ h => ft wd_put h, fun _ _ t H' _ e => ⟨rfl, q x dx t H' e⟩⟩
theorem tab_nil {H : Hp} (h : ∀ p ∈ ([(0, P1), (0, P2)] : List (Nat × Addr)), H p.2 = some (.tbl #[])) : Tabs (T2 P1 P2) H := fun p hp => by
  unfold T2 at hp
  rcases List.mem_cons.mp hp with rfl | hp
  · exact TabS.nil (h (0, P1) (by simp))
  · obtain rfl := List.mem_singleton.mp hp
    exact TabS.nil (h (0, P2) (by simp))
theorem law_body {c1 c2 : Addr} (Z : ∀ base : Heap, K.In base → base.Ns mainGlobals mg → TabB base mg c1 P1 → TabB base mg c2 P2 → Parts w K mg base A P1 P2 CS CPt CSy fE fK fG fF fS fP fY dE dK dG dF dS dP dY) :
    LawBodyTs PySem.Challenge.rw_layerseen_k05_simple_deeds_refused w K mg 63 nLaw "law" sLaw fa [(c1, P1), (c2, P2)] := by
  intro base hKb hNb TB cdv s H a ns hn hP hS
  have Y := Z base hKb hNb (TB (c1, P1) (by simp)) (TB (c2, P2) (by simp))
  obtain ⟨u1, h1, q1⟩ := lp1 (w := w) (K := K) (mg := mg) (base := base) (fa := fa) (cdv := cdv) (s := s) (H0 := H)
  obtain ⟨t0, k0, p0⟩ := lq0 (base := base) (fa := fa) (cdv := cdv) (s := s) (H0 := H) Y.Fk Y.bk Y.gk Y.Gk
  obtain ⟨t1, k1, p1⟩ := lq1 (base := base) (fa := fa) (cdv := cdv) (s := s) (H0 := H) Y.Fk Y.bk Y.gk Y.Gk
  obtain ⟨t2, k2, p2⟩ := lq2 (base := base) (fa := fa) (cdv := cdv) (s := s) (H0 := H) Y.Fk Y.bk Y.gk Y.Gk
  obtain ⟨t3, k3, p3⟩ := lq3 (base := base) (fa := fa) (cdv := cdv) (s := s) (H0 := H) Y.Fk Y.bk Y.gk Y.Gk Y.MS Y.bS Y.gS Y.GS
  obtain ⟨t4, k4, p4⟩ := lq4 (base := base) (fa := fa) (cdv := cdv) (s := s) (H0 := H) Y.Fk Y.bk Y.gk Y.Gk Y.MS Y.bS Y.gS Y.GS
  refine ⟨_, pss_cons (ps_set (i := 1) scLaw.nd rfl (.inl rfl) (pe_call Y.Ge (hrX.mono (by decide)) (by rfl) Y.ge Y.Fe.kp Y.be .nil pass0 (pa_cons (pv 0) pa_nil)))
    (pss_cons h1 (pss_cons (ps_for PassesOwn.never rfl (pi_range1 (by rfl) Y.T.range (pa_cons pe_int pa_nil)) (pg_name (i := 3) scLaw.nd rfl (.inl rfl))
      (pss_cons k0 (pss_cons k1 (pss_cons k2 (pss_cons k3 (pss_cons k4 (pss_one (ps_if (PW.pt (pw_or (pt_not (pt_val (pe_callG Y.Gg (hrX.mono (by decide)) hgX (by rfl) Y.gg Y.kg Y.bg .nil pass0 (pa_cons (pv 4) (pa_cons (pv 5) (pa_cons (pv 6) (pa_cons (pv 7) pa_nil)))))))
        (pw_or1 (pt_not (pt_val (pe_callG Y.Gf (hrX.mono (by decide)) hgX (by rfl) Y.gf Y.kf Y.bf .nil pass0 (pa_cons (pv 4) (pa_cons (pv 6) (pa_cons (pv 8) (pa_cons (pv 9) pa_nil)))))))))) (pss_one (ps_ret pe_bl)) pss_nil))))))))
    (pss_one (ps_ret (pe_and (pe_cmpR op_eq (pe_fld (pe_make (E := fun _ _ _ => False) Y.MY.M Y.MY.G (hrX.mono (by decide)) (by rfl) Y.MY.g Y.MY.b .nil passF (pa_cons pe_str (pa_cons pe_str pa_nil))) (by rfl)) pe_str (nomark _))
      (pe_and (pe_cmpR op_eq (pe_fld (pe_make (E := fun _ _ _ => False) Y.MP.M Y.MP.G (hrX.mono (by decide)) (by rfl) Y.MP.g Y.MP.b .nil passF (pa_cons pe_str (pa_cons pe_int pa_nil))) (by rfl)) pe_int (nomark _))
      (pe_one (pe_cmpR op_eq (pe_fld (pe_make (E := fun _ _ _ => False) Y.MP.M Y.MP.G (hrX.mono (by decide)) (by rfl) Y.MP.g Y.MP.b .nil passF (pa_cons pe_str (pa_cons pe_int pa_nil))) (by rfl)) pe_int (nomark _))))))))), ?_⟩
  refine ⟨.ref a, rfl, a, ns, rfl, hS, hn, fun p cc H1 sm1 PA1 => ?_⟩
  have tb1 : Tabs (T2 P1 P2) H1 := (tab_nil fun p hp => by
    simp only [List.mem_cons, List.not_mem_nil, or_false] at hp
    rcases hp with rfl | rfl
    · exact hP (c1, P1) (by simp)
    · exact hP (c2, P2) (by simp)).ext sm1
  refine q1 _ _ _ _ _ _ _ _ _ _ _ _ fun t l d ls H2 sm2 ft1 fl1 fd1 fs1 et el ed es => ?_
  have T0 : Tri H2 p (.str "x") t l d := ⟨et, el, ed, PA1.nw (fun _ _ e => e) ft1, PA1.nw (fun _ _ e => e) fl1, PA1.nw (fun _ _ e => e) fd1⟩
  have nls : ls ≠ p := PA1.nw (fun _ _ e => e) fs1
  refine ⟨10, rfl, by decide, by decide, for_range (lo := 0) (n := 10) (fun i σ H' => ∃ y3 y4 y5 y6 y7 y8 y9 : Option V, σ = [some (.ref a), some (.ref p), some (.ref ls), y3, y4, y5, y6, y7, y8, y9] ∧ PenAt H' p cc ns (6 * (i : Int)) ∧ Tabs (T2 P1 P2) H' ∧ Tri H' p (.str "x") t l d ∧ H' ls = some (.lst (someL t l d)))
    ⟨none, none, none, none, none, none, none, rfl, (PA1.same sm2).more (by decide), tb1.ext sm2, T0, es⟩ (fun i σ H3 hi hp => ?_) (fun σ H3 hp => ?_)⟩
  · obtain ⟨y3, y4, y5, y6, y7, y8, y9, rfl, PA3, tb3, T3, es3⟩ := hp
    refine p0 p cc ns (6 * (i : Int)) ls t l d _ _ _ _ _ _ _ _ H3 _ PA3 (by omega) es3 nls fun v1 v2 Ha m1 m2 PAa oa => ?_
    refine p1 p cc ns (6 * (i : Int) + 2) _ _ _ _ _ _ _ _ _ Ha _ PAa (by omega) fun vw tw lw dw Hb mw Tw PAb ob => ?_
    refine p2 p cc ns (6 * (i : Int) + 2 + 1) _ _ _ _ _ _ _ _ _ Hb _ PAb (by omega) fun vb tb' lb db Hc mb Tb PAc oc => ?_
    refine p3 p cc ns (6 * (i : Int) + 2 + 1 + 1) _ _ _ _ _ _ _ _ _ Hc _ PAc (by omega) fun vl tl ll xl ml Hd mvl Ll PAd od => ?_
    refine p4 p cc ns (6 * (i : Int) + 2 + 1 + 1 + 1) _ _ _ _ _ _ _ _ _ Hd _ PAd (by omega) fun vg tg lg xg mg' dg He mvg Gg PAe oe => ?_
    have o1 := ((((oa.trans ob).trans oc).trans od).trans oe)
    obtain ⟨b3, g3, e3, _⟩ := PA3.pen
    have tbE := tabs_off tb3 e3 o1
    have T4 := T3.off o1
    obtain ⟨d1, V1, N1⟩ := val_tri (f := isN) T4 (.str _) some_flat fn_x.1 fn_x.2 fn_d (fun _ => rfl) m1
    obtain ⟨d2, V2, N2⟩ := val_tri (f := isN) T4 (.str _) some_flat fn_x.1 fn_x.2 fn_d (fun _ => rfl) m2
    obtain ⟨d3, V3, N3⟩ := val_tri (f := isV) (Tw.off ((oc.trans od).trans oe)) (.int _) wrong_flat fn_1.1 fn_1.2 fn_d (fun _ => rfl) mw
    obtain ⟨d4, V4, N4⟩ := val_tri (f := isWd) (Tb.off (od.trans oe)) (.str _) bad_flat fn_a.1 fn_a.2 fn_d (fun _ => rfl) mb
    have Wl := lost_wr (Ll.off oe) mvl
    obtain ⟨Wg, Ng⟩ := gone_wr Gg mvg
    refine ⟨v1, rfl, v2, rfl, vw, rfl, vb, rfl, v1, v2, vw, vb, d1, d2, d3, d4, rfl, ⟨V1, N1, V2, N2, V3, N3, V4, N4⟩, tbE, fun H5 e5 tb5 => ⟨true, rfl, iteF ?_⟩⟩
    refine ⟨v1, rfl, vw, rfl, vl, rfl, vg, rfl, v1, vw, vl, vg, d1, d3, rfl, ⟨V1.ext e5, N1, V3.ext e5, N3, Wl.ext e5, Wg.ext e5, Ng⟩, tb5, fun H6 e6 tb6 => ⟨true, rfl, iteF ?_⟩⟩
    have e56 := e5.trans e6
    exact ⟨_, _, _, _, _, _, _, rfl, (PAe.ext e56).more (by omega), tb6, T4.ext e56, e56 _ _ (o1 _ _ nls es3) (fun _ z => by cases z)⟩
  · obtain ⟨y3, y4, y5, y6, y7, y8, y9, rfl, PA3, tb3, T3, es3⟩ := hp
    refine say_made fun x dx tt H4 ex => ?_
    refine ⟨x, CSy, dx, _, .str "put", rfl, ex, Y.DY.c, Y.DY.no _ (by simp), rfl, rfl, true, rfl, iteT ?_⟩
    refine put_made (i := 3) (x := x) (dx := dx) (by decide) fun x2 dx2 tt2 H5 ex2 => ?_
    refine ⟨x2, CPt, dx2, _, .int 3, rfl, ex2, Y.DP.c, Y.DP.no _ (by simp), rfl, rfl, true, rfl, iteT ?_⟩
    refine put_made (i := 0) (x := x) (dx := dx) (by decide) fun x3 dx3 tt3 H6 ex3 => ?_
    exact ⟨x3, CPt, dx3, _, .int 0, rfl, ex3, Y.DP.c, Y.DP.no _ (by simp), rfl, rfl, rfl⟩
end
end My
namespace My
open PySem PySem.Spec PyProof.Rows L2
open LamX (ExtN Tabs TabS TabB)
def sayB : List Str → List Value → Bool
  | [], [] => true
  | k :: ks, .str x _ :: vs => decide (x = k) && sayB ks vs
  | _, _ => false
theorem say_of : ∀ (ks : List Str) (vs : List Value), sayB ks vs = true → Vals (ks.map V.str) vs
  | [], [], _ => .nil
  | k :: ks, .str x t :: vs, h => by
    unfold sayB at h
    rw [Bool.and_eq_true] at h
    have e : x = k := of_decide_eq_true h.1
    subst e
    exact .cons ⟨t, rfl⟩ (say_of ks vs h.2)
/-! ### what is asked of the written part, decided at once -/
def objB (K : PySem.W.Frag) : Bool := decide (PySem.W.specialIn K (.builtin "object.__class__") "__get__" = some (some (.builtin "getset_descriptor.__get__"))) && decide (PySem.W.takesIn K (.builtin "object.__class__") = some true)
def clsB (K : PySem.W.Frag) (C : Addr) (fs : List Str) : Bool := PySem.W.plainGet K C Str.empty && (PySem.W.hasDictIn K C && (PySem.W.plainOver K C && (decide (PySem.W.findIn K (.ref C) "__setattr__" = some (some (.builtin "object.__setattr__"))) && ((fs.all fun f => decide (PySem.W.findIn K (.ref C) f = some none))
  && (decide (PySem.W.findIn K (.ref C) "__class__" = some (some (.builtin "object.__class__"))) && (decide (PySem.W.mroIn K C (.type "object") = some true) && (PySem.W.makesIn K C && PySem.W.keepIn K (.ref C))))))))
structure ClsF (K : PySem.W.Frag) (C : Addr) (fs : List Str) : Prop where
  c : Cls K C
  no : ∀ f ∈ fs, NoAttr K C f
  dc : PySem.W.findIn K (.ref C) "__class__" = some (some (.builtin "object.__class__"))
  mo : PySem.W.mroIn K C (.type "object") = some true
  ms : PySem.W.makesIn K C = true
  kp : PySem.W.keepIn K (.ref C) = true
theorem cls_mk {K : PySem.W.Frag} {C : Addr} {fs : List Str} (h : clsB K C fs = true) : ClsF K C fs := by
  unfold clsB at h
  simp only [Bool.and_eq_true, decide_eq_true_eq, List.all_eq_true] at h
  obtain ⟨h1, h2, h3, h4, h5, h6, h7, h8, h9⟩ := h
  exact ⟨⟨h1, h2, h3, h4⟩, h5, h6, h7, h8, h9⟩
def excB (K : PySem.W.Frag) (A : E5) (C : Addr) (k : Nat) : Bool := decide (PySem.W.findIn K (.ref C) "__getattribute__" = some (some (.builtin "BaseException.__getattribute__"))) && (decide (PySem.W.findIn K (.ref C) "__getattr__" = some none) && (decide (PySem.W.subIn K (.ref C) (.type "BaseException") = some true) && (PySem.W.hasDictIn K C
  && (decide (PySem.W.findIn K (.ref C) "__class__" = some (some (.builtin "object.__class__"))) && (decide (PySem.W.mroIn K C (.type "object") = some true) && (decide (PySem.W.findIn K (.ref C) (fld4 k) = some none) && (decide (PySem.W.exmOne K (.ref C) (.ref A.l) = some true) && (decide (PySem.W.kitOne K (.ref C) (.ref A.n) = some (k == 0))
  && (decide (PySem.W.kitOne K (.ref C) (.ref A.z) = some (k == 1)) && (decide (PySem.W.kitOne K (.ref C) (.ref A.w) = some (k == 2)) && (decide (PySem.W.kitOne K (.ref C) (.ref A.r) = some (k == 3)) && (decide (PySem.W.kitOne K (.ref C) (.type "ValueError") = some true)
  && (decide (PySem.W.findIn K (.ref C) "__setattr__" = some (some (.builtin "object.__setattr__"))) && (decide (PySem.W.typeIn K (.ref C) = some (.type "type")) && PySem.W.keepIn K (.ref C)))))))))))))))
theorem exc_mk {K : PySem.W.Frag} {A : E5} {C : Addr} {k : Nat} (hO : objB K = true) (h : excB K A C k = true) : EK4 K A C k ∧ PySem.W.findIn K (.ref C) "__setattr__" = some (some (.builtin "object.__setattr__")) ∧ PySem.W.typeIn K (.ref C) = some (.type "type") ∧ PySem.W.keepIn K (.ref C) = true := by
  unfold objB at hO
  unfold excB at h
  simp only [Bool.and_eq_true, decide_eq_true_eq] at hO h
  obtain ⟨o1, o2⟩ := hO
  obtain ⟨h1, h2, h3, h4, h5, h6, h7, h8, h9, h10, h11, h12, h13, h14, h15, h16⟩ := h
  exact ⟨⟨⟨h1, h2, h3, h4, h5, o1, o2, h6⟩, ⟨h1, h2, h3, h4⟩, h7, h8, h9, h10, h11, h12, h13⟩, h14, h15, h16⟩
def papB (K : PySem.W.Frag) (C : Addr) : Bool := ["NoneType", "bool", "int", "str"].all fun T => decide (PySem.W.kitOne K (.type T) (.ref C) = some false)
theorem pap_mk {K : PySem.W.Frag} {C : Addr} (h : papB K C = true) : ∀ T ∈ ["NoneType", "bool", "int", "str"], PySem.W.kitOne K (.type T) (.ref C) = some false := by
  unfold papB at h
  simp only [List.all_eq_true, decide_eq_true_eq] at h
  exact h
def pgB (K : PySem.W.Frag) (CP CS CD CH : Addr) : Bool := (["NoneType", "bool", "int", "str", "list", "tuple", "dict"].all fun T => decide (PySem.W.kitOne K (.type T) (.ref CP) = some false)) && (decide (PySem.W.kitOne K (.ref CS) (.ref CP) = some false) && (decide (PySem.W.kitOne K (.ref CP) (.ref CP) = some true)
  && (decide (PySem.W.kitOne K (.ref CS) (.ref CD) = some true) && decide (PySem.W.kitOne K (.ref CS) (.ref CH) = some false))))
theorem pg_mk {K : PySem.W.Frag} {CP CS CD CH : Addr} (h : pgB K CP CS CD CH = true) : (∀ T ∈ (["NoneType", "bool", "int", "str", "list", "tuple", "dict"] : List String), PySem.W.kitOne K (.type T) (.ref CP) = some false) ∧ PySem.W.kitOne K (.ref CS) (.ref CP) = some false ∧ PySem.W.kitOne K (.ref CP) (.ref CP) = some true ∧
    PySem.W.kitOne K (.ref CS) (.ref CD) = some true ∧ PySem.W.kitOne K (.ref CS) (.ref CH) = some false := by
  unfold pgB at h
  simp only [List.all_eq_true, Bool.and_eq_true, decide_eq_true_eq] at h
  exact h
abbrev fdOf {K : PySem.W.Frag} {x q : Str} {st : Stmt} {f : Addr} {fd : FuncData} (_ : Fun K x q st f fd) : FuncData := fd
abbrev fdD {K : PySem.W.Frag} {x q : Str} {params : Arguments} {body : List Stmt} {scope : Scope} {dvs : List V} {kws : List (Str × V)} {f : Addr} {fd : FuncData} (_ : FunD K x q params body scope dvs kws f fd) : FuncData := fd
theorem kb_wl {K : PySem.W.Frag} {f : Addr} {fd : FuncData} (F : Fun K "__init__" "Say.__init__" sSayI f fd) : KBn K fd ["self", "log", "word"] 1 ["word", "log"] gWL gWL := by
  obtain ⟨oc, od, kV, doc, pm, an, cdv, ct, osl, rfl, lk, hcd⟩ := F.ex
  refine ⟨fun s us ws _ l1 l2 => ?_, fun a b => a.append ((b.drop 1).append (b.take 1))⟩
  match us, ws, l1, l2 with
  | [u], [v1, v2], _, _ => exact .of_eq rfl
theorem all_mk {w : World} {K : PySem.W.Frag} {h : Heap} {mg : Str → Option Value} {fa : Addr} (X : K.In h) (G : h.Ns mainGlobals mg) (hfa : mg "law" = some (.ref fa)) {TT : List Addr} (hT : ∀ P, P ∈ TT → h.get? P = some tab0)
    {f_W : Addr} {od_W an_W : Option Addr} {sl_W : Array (Option Value)} {oc_W kV_W dc_W pm_W cd_W ct_W : Value}
    {f_X : Addr} {od_X an_X : Option Addr} {sl_X : Array (Option Value)} {oc_X kV_X dc_X pm_X cd_X ct_X : Value}
    {f_Y : Addr} {od_Y an_Y : Option Addr} {sl_Y : Array (Option Value)} {oc_Y kV_Y dc_Y pm_Y cd_Y ct_Y : Value}
    {f_as : Addr} {od_as an_as : Option Addr} {sl_as : Array (Option Value)} {oc_as kV_as dc_as pm_as cd_as ct_as : Value}
    {f_fo : Addr} {od_fo an_fo : Option Addr} {sl_fo : Array (Option Value)} {oc_fo kV_fo dc_fo pm_fo cd_fo ct_fo : Value}
    {f_ni : Addr} {od_ni an_ni : Option Addr} {sl_ni : Array (Option Value)} {oc_ni kV_ni dc_ni pm_ni cd_ni ct_ni : Value}
    {f_vi : Addr} {od_vi an_vi : Option Addr} {sl_vi : Array (Option Value)} {oc_vi kV_vi dc_vi pm_vi cd_vi ct_vi : Value}
    {f_D : Addr} {od_D an_D : Option Addr} {sl_D : Array (Option Value)} {oc_D kV_D dc_D pm_D cd_D ct_D : Value}
    {f_N : Addr} {od_N an_N : Option Addr} {sl_N : Array (Option Value)} {oc_N kV_N dc_N pm_N cd_N ct_N : Value}
    {f_C : Addr} {od_C an_C : Option Addr} {sl_C : Array (Option Value)} {oc_C kV_C dc_C pm_C cd_C ct_C : Value}
    {f_cv : Addr} {od_cv an_cv : Option Addr} {sl_cv : Array (Option Value)} {oc_cv kV_cv dc_cv pm_cv cd_cv ct_cv : Value}
    {f_bo : Addr} {od_bo an_bo : Option Addr} {sl_bo : Array (Option Value)} {oc_bo kV_bo dc_bo pm_bo cd_bo ct_bo : Value}
    {f_oo : Addr} {od_oo an_oo : Option Addr} {sl_oo : Array (Option Value)} {oc_oo kV_oo dc_oo pm_oo cd_oo ct_oo : Value}
    {f_pe : Addr} {od_pe an_pe : Option Addr} {sl_pe : Array (Option Value)} {oc_pe kV_pe dc_pe pm_pe cd_pe ct_pe : Value}
    {f_dr : Addr} {od_dr an_dr : Option Addr} {sl_dr : Array (Option Value)} {oc_dr kV_dr dc_dr pm_dr cd_dr ct_dr : Value}
    {f_pi : Addr} {od_pi an_pi : Option Addr} {sl_pi : Array (Option Value)} {oc_pi kV_pi dc_pi pm_pi cd_pi ct_pi : Value}
    {f_he : Addr} {od_he an_he : Option Addr} {sl_he : Array (Option Value)} {oc_he kV_he dc_he pm_he cd_he ct_he : Value}
    {f_sr : Addr} {od_sr an_sr : Option Addr} {sl_sr : Array (Option Value)} {oc_sr kV_sr dc_sr pm_sr  ct_sr : Value}
    {f_br : Addr} {od_br an_br : Option Addr} {sl_br : Array (Option Value)} {oc_br kV_br dc_br pm_br  ct_br : Value}
    {f_la : Addr} {od_la an_la : Option Addr} {sl_la : Array (Option Value)} {oc_la kV_la dc_la pm_la cd_la ct_la : Value}
    {xL : Addr}
    {xN : Addr}
    {xZ : Addr}
    {xW : Addr}
    {xR : Addr}
    {cD : Addr}
    {cP : Addr}
    {cC : Addr}
    {cY : Addr}
    {cF : Addr}
    {cS : Addr}
    {cI : Addr}
    {cA : Addr}
    {cH : Addr}
    {cG : Addr}
    {bP : Addr}
    {f_iN : Addr} {od_iN an_iN : Option Addr} {sl_iN : Array (Option Value)} {oc_iN kV_iN dc_iN pm_iN cd_iN ct_iN : Value}
    {f_iZ : Addr} {od_iZ an_iZ : Option Addr} {sl_iZ : Array (Option Value)} {oc_iZ kV_iZ dc_iZ pm_iZ cd_iZ ct_iZ : Value}
    {f_iW : Addr} {od_iW an_iW : Option Addr} {sl_iW : Array (Option Value)} {oc_iW kV_iW dc_iW pm_iW cd_iW ct_iW : Value}
    {f_iR : Addr} {od_iR an_iR : Option Addr} {sl_iR : Array (Option Value)} {oc_iR kV_iR dc_iR pm_iR cd_iR ct_iR : Value}
    {f_ip : Addr} {od_ip an_ip : Option Addr} {sl_ip : Array (Option Value)} {oc_ip kV_ip dc_ip pm_ip cd_ip ct_ip : Value}
    {f_ic : Addr} {od_ic an_ic : Option Addr} {sl_ic : Array (Option Value)} {oc_ic kV_ic dc_ic pm_ic cd_ic ct_ic : Value}
    {f_iy : Addr} {od_iy an_iy : Option Addr} {sl_iy : Array (Option Value)} {oc_iy kV_iy dc_iy pm_iy cd_iy ct_iy : Value}
    {f_ig : Addr} {od_ig an_ig : Option Addr} {sl_ig : Array (Option Value)} {oc_ig kV_ig dc_ig pm_ig cd_ig ct_ig : Value}
    {f_is : Addr} {od_is an_is : Option Addr} {sl_is : Array (Option Value)} {oc_is kV_is dc_is pm_is cd_is ct_is : Value}
    {f_ii : Addr} {od_ii an_ii : Option Addr} {sl_ii : Array (Option Value)} {oc_ii kV_ii dc_ii pm_ii cd_ii ct_ii : Value}
    {f_ia : Addr} {od_ia an_ia : Option Addr} {sl_ia : Array (Option Value)} {oc_ia kV_ia dc_ia pm_ia cd_ia ct_ia : Value}
    {f_ih : Addr} {od_ih an_ih : Option Addr} {sl_ih : Array (Option Value)} {oc_ih kV_ih dc_ih pm_ih cd_ih ct_ih : Value}
    {f_ir : Addr} {od_ir an_ir : Option Addr} {sl_ir : Array (Option Value)} {oc_ir kV_ir dc_ir pm_ir cd_ir ct_ir : Value}
    {f_bl : Addr} {od_bl an_bl : Option Addr} {sl_bl : Array (Option Value)} {oc_bl kV_bl dc_bl pm_bl cd_bl ct_bl : Value}
    {T1 T2x T3 cQ1 P1 cQ2 P2 aK aS aT : Addr} {LT : Str} {tl tn t3 t60 t6 tw : Tok} {dK0 dT1 dT2 dT3 dT odQ1 odQ2 : Option Addr} {itsK vsQ1 vsQ2 : Array Value} {nTu nT1 nT2 nT3 nT : Nat} {slTu slT1 slT2 slT3 slT slQ1 slQ2 : Array (Option Value)} {oQ1 oQ2 oT1 oT2 oT3 : Value}
    {nm_xN q_xN : Str} {N_xN : Addr} {bs_xN bm_xN sub_xN : List Value} {sn_xN : List Str} {ab_xN : Bool} {col_xN : Option Bool} {dd_xN : Option Addr} {k0_xN k1_xN k2_xN k3_xN k5_xN : Option Value}
    {nm_xZ q_xZ : Str} {N_xZ : Addr} {bs_xZ bm_xZ sub_xZ : List Value} {sn_xZ : List Str} {ab_xZ : Bool} {col_xZ : Option Bool} {dd_xZ : Option Addr} {k0_xZ k1_xZ k2_xZ k3_xZ k5_xZ : Option Value}
    {nm_xW q_xW : Str} {N_xW : Addr} {bs_xW bm_xW sub_xW : List Value} {sn_xW : List Str} {ab_xW : Bool} {col_xW : Option Bool} {dd_xW : Option Addr} {k0_xW k1_xW k2_xW k3_xW k5_xW : Option Value}
    {nm_xR q_xR : Str} {N_xR : Addr} {bs_xR bm_xR sub_xR : List Value} {sn_xR : List Str} {ab_xR : Bool} {col_xR : Option Bool} {dd_xR : Option Addr} {k0_xR k1_xR k2_xR k3_xR k5_xR : Option Value}
    (a_W : PySem.W.nsIn K mainGlobals "is_whole" = some (some (.ref f_W)))
    (l_W : K.lookup f_W = some ⟨oc_W, od_W, .func (PySem.W.fnOf "is_whole" "is_whole" (defArgs sWhole) (defBody sWhole) (defScope sWhole) .none kV_W dc_W pm_W an_W cd_W ct_W), sl_W⟩)
    (c_W : PySem.W.codeIn K cd_W "is_whole" = true)
    (k_W : PySem.W.keepIn K (.ref f_W) = true)
    (a_X : PySem.W.nsIn K mainGlobals "is_index" = some (some (.ref f_X)))
    (l_X : K.lookup f_X = some ⟨oc_X, od_X, .func (PySem.W.fnOf "is_index" "is_index" (defArgs sIndex) (defBody sIndex) (defScope sIndex) .none kV_X dc_X pm_X an_X cd_X ct_X), sl_X⟩)
    (c_X : PySem.W.codeIn K cd_X "is_index" = true)
    (k_X : PySem.W.keepIn K (.ref f_X) = true)
    (a_Y : PySem.W.nsIn K mainGlobals "copied" = some (some (.ref f_Y)))
    (l_Y : K.lookup f_Y = some ⟨oc_Y, od_Y, .func (PySem.W.fnOf "copied" "copied" (defArgs sCopied) (defBody sCopied) (defScope sCopied) .none kV_Y dc_Y pm_Y an_Y cd_Y ct_Y), sl_Y⟩)
    (c_Y : PySem.W.codeIn K cd_Y "copied" = true)
    (k_Y : PySem.W.keepIn K (.ref f_Y) = true)
    (a_as : PySem.W.nsIn K mainGlobals "ascending" = some (some (.ref f_as)))
    (l_as : K.lookup f_as = some ⟨oc_as, od_as, .func (PySem.W.fnOf "ascending" "ascending" (defArgs sAsc) (defBody sAsc) (defScope sAsc) .none kV_as dc_as pm_as an_as cd_as ct_as), sl_as⟩)
    (c_as : PySem.W.codeIn K cd_as "ascending" = true)
    (k_as : PySem.W.keepIn K (.ref f_as) = true)
    (a_fo : PySem.W.nsIn K mainGlobals "fields_of" = some (some (.ref f_fo)))
    (l_fo : K.lookup f_fo = some ⟨oc_fo, od_fo, .func (PySem.W.fnOf "fields_of" "fields_of" (defArgs sFieldsOf) (defBody sFieldsOf) (defScope sFieldsOf) .none kV_fo dc_fo pm_fo an_fo cd_fo ct_fo), sl_fo⟩)
    (c_fo : PySem.W.codeIn K cd_fo "fields_of" = true)
    (k_fo : PySem.W.keepIn K (.ref f_fo) = true)
    (a_ni : PySem.W.nsIn K mainGlobals "names_in" = some (some (.ref f_ni)))
    (l_ni : K.lookup f_ni = some ⟨oc_ni, od_ni, .func (PySem.W.fnOf "names_in" "names_in" (defArgs sNamesIn) (defBody sNamesIn) (defScope sNamesIn) .none kV_ni dc_ni pm_ni an_ni cd_ni ct_ni), sl_ni⟩)
    (c_ni : PySem.W.codeIn K cd_ni "names_in" = true)
    (k_ni : PySem.W.keepIn K (.ref f_ni) = true)
    (a_vi : PySem.W.nsIn K mainGlobals "values_in" = some (some (.ref f_vi)))
    (l_vi : K.lookup f_vi = some ⟨oc_vi, od_vi, .func (PySem.W.fnOf "values_in" "values_in" (defArgs sValuesIn) (defBody sValuesIn) (defScope sValuesIn) .none kV_vi dc_vi pm_vi an_vi cd_vi ct_vi), sl_vi⟩)
    (c_vi : PySem.W.codeIn K cd_vi "values_in" = true)
    (k_vi : PySem.W.keepIn K (.ref f_vi) = true)
    (a_D : PySem.W.nsIn K mainGlobals "is_word" = some (some (.ref f_D)))
    (l_D : K.lookup f_D = some ⟨oc_D, od_D, .func (PySem.W.fnOf "is_word" "is_word" (defArgs sWord) (defBody sWord) (defScope sWord) .none kV_D dc_D pm_D an_D cd_D ct_D), sl_D⟩)
    (c_D : PySem.W.codeIn K cd_D "is_word" = true)
    (k_D : PySem.W.keepIn K (.ref f_D) = true)
    (a_N : PySem.W.nsIn K mainGlobals "is_name" = some (some (.ref f_N)))
    (l_N : K.lookup f_N = some ⟨oc_N, od_N, .func (PySem.W.fnOf "is_name" "is_name" (defArgs sName) (defBody sName) (defScope sName) .none kV_N dc_N pm_N an_N cd_N ct_N), sl_N⟩)
    (c_N : PySem.W.codeIn K cd_N "is_name" = true)
    (k_N : PySem.W.keepIn K (.ref f_N) = true)
    (a_C : PySem.W.nsIn K mainGlobals "check_name" = some (some (.ref f_C)))
    (l_C : K.lookup f_C = some ⟨oc_C, od_C, .func (PySem.W.fnOf "check_name" "check_name" (defArgs sCheck) (defBody sCheck) (defScope sCheck) .none kV_C dc_C pm_C an_C cd_C ct_C), sl_C⟩)
    (c_C : PySem.W.codeIn K cd_C "check_name" = true)
    (k_C : PySem.W.keepIn K (.ref f_C) = true)
    (a_cv : PySem.W.nsIn K mainGlobals "_check_value" = some (some (.ref f_cv)))
    (l_cv : K.lookup f_cv = some ⟨oc_cv, od_cv, .func (PySem.W.fnOf "_check_value" "_check_value" (defArgs sChkVal) (defBody sChkVal) (defScope sChkVal) .none kV_cv dc_cv pm_cv an_cv cd_cv ct_cv), sl_cv⟩)
    (c_cv : PySem.W.codeIn K cd_cv "_check_value" = true)
    (k_cv : PySem.W.keepIn K (.ref f_cv) = true)
    (a_bo : PySem.W.nsIn K mainGlobals "_block_of" = some (some (.ref f_bo)))
    (l_bo : K.lookup f_bo = some ⟨oc_bo, od_bo, .func (PySem.W.fnOf "_block_of" "_block_of" (defArgs sBlockOf) (defBody sBlockOf) (defScope sBlockOf) .none kV_bo dc_bo pm_bo an_bo cd_bo ct_bo), sl_bo⟩)
    (c_bo : PySem.W.codeIn K cd_bo "_block_of" = true)
    (k_bo : PySem.W.keepIn K (.ref f_bo) = true)
    (a_oo : PySem.W.nsIn K mainGlobals "_other_of" = some (some (.ref f_oo)))
    (l_oo : K.lookup f_oo = some ⟨oc_oo, od_oo, .func (PySem.W.fnOf "_other_of" "_other_of" (defArgs sOtherOf) (defBody sOtherOf) (defScope sOtherOf) .none kV_oo dc_oo pm_oo an_oo cd_oo ct_oo), sl_oo⟩)
    (c_oo : PySem.W.codeIn K cd_oo "_other_of" = true)
    (k_oo : PySem.W.keepIn K (.ref f_oo) = true)
    (a_pe : PySem.W.nsIn K mainGlobals "_law_pen" = some (some (.ref f_pe)))
    (l_pe : K.lookup f_pe = some ⟨oc_pe, od_pe, .func (PySem.W.fnOf "_law_pen" "_law_pen" (defArgs sPen) (defBody sPen) (defScope sPen) .none kV_pe dc_pe pm_pe an_pe cd_pe ct_pe), sl_pe⟩)
    (c_pe : PySem.W.codeIn K cd_pe "_law_pen" = true)
    (k_pe : PySem.W.keepIn K (.ref f_pe) = true)
    (a_dr : PySem.W.nsIn K mainGlobals "_law_draw" = some (some (.ref f_dr)))
    (l_dr : K.lookup f_dr = some ⟨oc_dr, od_dr, .func (PySem.W.fnOf "_law_draw" "_law_draw" (defArgs sDraw) (defBody sDraw) (defScope sDraw) .none kV_dr dc_dr pm_dr an_dr cd_dr ct_dr), sl_dr⟩)
    (c_dr : PySem.W.codeIn K cd_dr "_law_draw" = true)
    (k_dr : PySem.W.keepIn K (.ref f_dr) = true)
    (a_pi : PySem.W.nsIn K mainGlobals "_law_pick" = some (some (.ref f_pi)))
    (l_pi : K.lookup f_pi = some ⟨oc_pi, od_pi, .func (PySem.W.fnOf "_law_pick" "_law_pick" (defArgs sPick) (defBody sPick) (defScope sPick) .none kV_pi dc_pi pm_pi an_pi cd_pi ct_pi), sl_pi⟩)
    (c_pi : PySem.W.codeIn K cd_pi "_law_pick" = true)
    (k_pi : PySem.W.keepIn K (.ref f_pi) = true)
    (a_he : PySem.W.nsIn K mainGlobals "_law_heard" = some (some (.ref f_he)))
    (l_he : K.lookup f_he = some ⟨oc_he, od_he, .func (PySem.W.fnOf "_law_heard" "_law_heard" (defArgs sHeard) (defBody sHeard) (defScope sHeard) .none kV_he dc_he pm_he an_he cd_he ct_he), sl_he⟩)
    (c_he : PySem.W.codeIn K cd_he "_law_heard" = true)
    (k_he : PySem.W.keepIn K (.ref f_he) = true)
    (a_sr : PySem.W.nsIn K mainGlobals "_law_simple_right" = some (some (.ref f_sr)))
    (l_sr : K.lookup f_sr = some ⟨oc_sr, od_sr, .func (PySem.W.fnOf "_law_simple_right" "_law_simple_right" (defArgs sSimpleR) (defBody sSimpleR) (defScope sSimpleR) .none kV_sr dc_sr pm_sr an_sr (.ref cQ1) ct_sr), sl_sr⟩)
    (c_sr : PySem.W.codeIn K (.ref cQ1) "_law_simple_right" = true)
    (k_sr : PySem.W.keepIn K (.ref f_sr) = true)
    (a_br : PySem.W.nsIn K mainGlobals "_law_blocked_right" = some (some (.ref f_br)))
    (l_br : K.lookup f_br = some ⟨oc_br, od_br, .func (PySem.W.fnOf "_law_blocked_right" "_law_blocked_right" (defArgs sBlockedR) (defBody sBlockedR) (defScope sBlockedR) .none kV_br dc_br pm_br an_br (.ref cQ2) ct_br), sl_br⟩)
    (c_br : PySem.W.codeIn K (.ref cQ2) "_law_blocked_right" = true)
    (k_br : PySem.W.keepIn K (.ref f_br) = true)
    (a_la : PySem.W.nsIn K mainGlobals "law" = some (some (.ref f_la)))
    (l_la : K.lookup f_la = some ⟨oc_la, od_la, .func (PySem.W.fnOf "law" "law" (defArgs sLaw) (defBody sLaw) (defScope sLaw) .none kV_la dc_la pm_la an_la cd_la ct_la), sl_la⟩)
    (c_la : PySem.W.codeIn K cd_la "law" = true)
    (k_la : PySem.W.keepIn K (.ref f_la) = true)
    (g_xL : PySem.W.nsIn K mainGlobals "LayerError" = some (some (.ref xL)))
    (g_xN : PySem.W.nsIn K mainGlobals "BadName" = some (some (.ref xN)))
    (g_xZ : PySem.W.nsIn K mainGlobals "BadNumber" = some (some (.ref xZ)))
    (g_xW : PySem.W.nsIn K mainGlobals "BadWord" = some (some (.ref xW)))
    (g_xR : PySem.W.nsIn K mainGlobals "BadProgram" = some (some (.ref xR)))
    (g_cD : PySem.W.nsIn K mainGlobals "Deed" = some (some (.ref cD)))
    (g_cP : PySem.W.nsIn K mainGlobals "Put" = some (some (.ref cP)))
    (g_cC : PySem.W.nsIn K mainGlobals "Copy" = some (some (.ref cC)))
    (g_cY : PySem.W.nsIn K mainGlobals "Say" = some (some (.ref cY)))
    (g_cF : PySem.W.nsIn K mainGlobals "Fail" = some (some (.ref cF)))
    (g_cS : PySem.W.nsIn K mainGlobals "Stop" = some (some (.ref cS)))
    (g_cI : PySem.W.nsIn K mainGlobals "If" = some (some (.ref cI)))
    (g_cA : PySem.W.nsIn K mainGlobals "Catch" = some (some (.ref cA)))
    (g_cH : PySem.W.nsIn K mainGlobals "Choose" = some (some (.ref cH)))
    (g_cG : PySem.W.nsIn K mainGlobals "Program" = some (some (.ref cG)))
    (g_bP : PySem.W.nsIn K mainGlobals "Paper" = some (some (.ref bP)))
    (m_iN : PySem.W.findIn K (.ref xN) "__init__" = some (some (.ref f_iN)))
    (l_iN : K.lookup f_iN = some ⟨oc_iN, od_iN, .func (PySem.W.fnOf "__init__" "BadName.__init__" (defArgs sIniN) (defBody sIniN) (defScope sIniN) .none kV_iN dc_iN pm_iN an_iN cd_iN ct_iN), sl_iN⟩)
    (c_iN : PySem.W.codeIn K cd_iN "BadName.__init__" = true)
    (k_iN : PySem.W.keepIn K (.ref f_iN) = true)
    (y_iN : PySem.W.typeIn K (.ref f_iN) = some (.type "function"))
    (n_iN : PySem.W.isFn K (.ref f_iN) = true)
    (m_iZ : PySem.W.findIn K (.ref xZ) "__init__" = some (some (.ref f_iZ)))
    (l_iZ : K.lookup f_iZ = some ⟨oc_iZ, od_iZ, .func (PySem.W.fnOf "__init__" "BadNumber.__init__" (defArgs sIniB) (defBody sIniB) (defScope sIniB) .none kV_iZ dc_iZ pm_iZ an_iZ cd_iZ ct_iZ), sl_iZ⟩)
    (c_iZ : PySem.W.codeIn K cd_iZ "BadNumber.__init__" = true)
    (k_iZ : PySem.W.keepIn K (.ref f_iZ) = true)
    (y_iZ : PySem.W.typeIn K (.ref f_iZ) = some (.type "function"))
    (n_iZ : PySem.W.isFn K (.ref f_iZ) = true)
    (m_iW : PySem.W.findIn K (.ref xW) "__init__" = some (some (.ref f_iW)))
    (l_iW : K.lookup f_iW = some ⟨oc_iW, od_iW, .func (PySem.W.fnOf "__init__" "BadWord.__init__" (defArgs sIniW) (defBody sIniW) (defScope sIniW) .none kV_iW dc_iW pm_iW an_iW cd_iW ct_iW), sl_iW⟩)
    (c_iW : PySem.W.codeIn K cd_iW "BadWord.__init__" = true)
    (k_iW : PySem.W.keepIn K (.ref f_iW) = true)
    (y_iW : PySem.W.typeIn K (.ref f_iW) = some (.type "function"))
    (n_iW : PySem.W.isFn K (.ref f_iW) = true)
    (m_iR : PySem.W.findIn K (.ref xR) "__init__" = some (some (.ref f_iR)))
    (l_iR : K.lookup f_iR = some ⟨oc_iR, od_iR, .func (PySem.W.fnOf "__init__" "BadProgram.__init__" (defArgs sIniP) (defBody sIniP) (defScope sIniP) .none kV_iR dc_iR pm_iR an_iR cd_iR ct_iR), sl_iR⟩)
    (c_iR : PySem.W.codeIn K cd_iR "BadProgram.__init__" = true)
    (k_iR : PySem.W.keepIn K (.ref f_iR) = true)
    (y_iR : PySem.W.typeIn K (.ref f_iR) = some (.type "function"))
    (n_iR : PySem.W.isFn K (.ref f_iR) = true)
    (m_ip : PySem.W.findIn K (.ref cP) "__init__" = some (some (.ref f_ip)))
    (l_ip : K.lookup f_ip = some ⟨oc_ip, od_ip, .func (PySem.W.fnOf "__init__" "Put.__init__" (defArgs sPutI) (defBody sPutI) (defScope sPutI) .none kV_ip dc_ip pm_ip an_ip cd_ip ct_ip), sl_ip⟩)
    (c_ip : PySem.W.codeIn K cd_ip "Put.__init__" = true)
    (k_ip : PySem.W.keepIn K (.ref f_ip) = true)
    (n_ip : PySem.W.isFn K (.ref f_ip) = true)
    (m_ic : PySem.W.findIn K (.ref cC) "__init__" = some (some (.ref f_ic)))
    (l_ic : K.lookup f_ic = some ⟨oc_ic, od_ic, .func (PySem.W.fnOf "__init__" "Copy.__init__" (defArgs sCopyI) (defBody sCopyI) (defScope sCopyI) .none kV_ic dc_ic pm_ic an_ic cd_ic ct_ic), sl_ic⟩)
    (c_ic : PySem.W.codeIn K cd_ic "Copy.__init__" = true)
    (k_ic : PySem.W.keepIn K (.ref f_ic) = true)
    (n_ic : PySem.W.isFn K (.ref f_ic) = true)
    (m_iy : PySem.W.findIn K (.ref cY) "__init__" = some (some (.ref f_iy)))
    (l_iy : K.lookup f_iy = some ⟨oc_iy, od_iy, .func (PySem.W.fnOf "__init__" "Say.__init__" (defArgs sSayI) (defBody sSayI) (defScope sSayI) .none kV_iy dc_iy pm_iy an_iy cd_iy ct_iy), sl_iy⟩)
    (c_iy : PySem.W.codeIn K cd_iy "Say.__init__" = true)
    (k_iy : PySem.W.keepIn K (.ref f_iy) = true)
    (n_iy : PySem.W.isFn K (.ref f_iy) = true)
    (m_ig : PySem.W.findIn K (.ref cF) "__init__" = some (some (.ref f_ig)))
    (l_ig : K.lookup f_ig = some ⟨oc_ig, od_ig, .func (PySem.W.fnOf "__init__" "Fail.__init__" (defArgs sFailI) (defBody sFailI) (defScope sFailI) .none kV_ig dc_ig pm_ig an_ig cd_ig ct_ig), sl_ig⟩)
    (c_ig : PySem.W.codeIn K cd_ig "Fail.__init__" = true)
    (k_ig : PySem.W.keepIn K (.ref f_ig) = true)
    (n_ig : PySem.W.isFn K (.ref f_ig) = true)
    (m_is : PySem.W.findIn K (.ref cS) "__init__" = some (some (.ref f_is)))
    (l_is : K.lookup f_is = some ⟨oc_is, od_is, .func (PySem.W.fnOf "__init__" "Stop.__init__" (defArgs sStopI) (defBody sStopI) (defScope sStopI) .none kV_is dc_is pm_is an_is cd_is ct_is), sl_is⟩)
    (c_is : PySem.W.codeIn K cd_is "Stop.__init__" = true)
    (k_is : PySem.W.keepIn K (.ref f_is) = true)
    (n_is : PySem.W.isFn K (.ref f_is) = true)
    (m_ii : PySem.W.findIn K (.ref cI) "__init__" = some (some (.ref f_ii)))
    (l_ii : K.lookup f_ii = some ⟨oc_ii, od_ii, .func (PySem.W.fnOf "__init__" "If.__init__" (defArgs sIfI) (defBody sIfI) (defScope sIfI) (.ref T1) kV_ii dc_ii pm_ii an_ii cd_ii ct_ii), sl_ii⟩)
    (c_ii : PySem.W.codeIn K cd_ii "If.__init__" = true)
    (k_ii : PySem.W.keepIn K (.ref f_ii) = true)
    (n_ii : PySem.W.isFn K (.ref f_ii) = true)
    (m_ia : PySem.W.findIn K (.ref cA) "__init__" = some (some (.ref f_ia)))
    (l_ia : K.lookup f_ia = some ⟨oc_ia, od_ia, .func (PySem.W.fnOf "__init__" "Catch.__init__" (defArgs sCatchI) (defBody sCatchI) (defScope sCatchI) (.ref T2x) kV_ia dc_ia pm_ia an_ia cd_ia ct_ia), sl_ia⟩)
    (c_ia : PySem.W.codeIn K cd_ia "Catch.__init__" = true)
    (k_ia : PySem.W.keepIn K (.ref f_ia) = true)
    (n_ia : PySem.W.isFn K (.ref f_ia) = true)
    (m_ih : PySem.W.findIn K (.ref cH) "__init__" = some (some (.ref f_ih)))
    (l_ih : K.lookup f_ih = some ⟨oc_ih, od_ih, .func (PySem.W.fnOf "__init__" "Choose.__init__" (defArgs sChooseI) (defBody sChooseI) (defScope sChooseI) (.ref T3) kV_ih dc_ih pm_ih an_ih cd_ih ct_ih), sl_ih⟩)
    (c_ih : PySem.W.codeIn K cd_ih "Choose.__init__" = true)
    (k_ih : PySem.W.keepIn K (.ref f_ih) = true)
    (n_ih : PySem.W.isFn K (.ref f_ih) = true)
    (m_ir : PySem.W.findIn K (.ref cG) "__init__" = some (some (.ref f_ir)))
    (l_ir : K.lookup f_ir = some ⟨oc_ir, od_ir, .func (PySem.W.fnOf "__init__" "Program.__init__" (defArgs sProgI) (defBody sProgI) (defScope sProgI) .none kV_ir dc_ir pm_ir an_ir cd_ir ct_ir), sl_ir⟩)
    (c_ir : PySem.W.codeIn K cd_ir "Program.__init__" = true)
    (k_ir : PySem.W.keepIn K (.ref f_ir) = true)
    (n_ir : PySem.W.isFn K (.ref f_ir) = true)
    (m_bl : PySem.W.findIn K (.ref cS) "blocks" = some (some (.ref f_bl)))
    (l_bl : K.lookup f_bl = some ⟨oc_bl, od_bl, .func (PySem.W.fnOf "blocks" "Deed.blocks" (defArgs sBlocks) (defBody sBlocks) (defScope sBlocks) .none kV_bl dc_bl pm_bl an_bl cd_bl ct_bl), sl_bl⟩)
    (c_bl : PySem.W.codeIn K cd_bl "Deed.blocks" = true)
    (k_bl : PySem.W.keepIn K (.ref f_bl) = true)
    (n_bl : PySem.W.isFn K (.ref f_bl) = true)
    (lT1 : K.lookup T1 = some ⟨oT1, dT1, .seq #[.none] nT1, slT1⟩)
    (lT2 : K.lookup T2x = some ⟨oT2, dT2, .seq #[.none] nT2, slT2⟩)
    (lT3 : K.lookup T3 = some ⟨oT3, dT3, .seq #[.none] nT3, slT3⟩)
    (lQ1 : K.lookup cQ1 = some ⟨oQ1, odQ1, .fields vsQ1, slQ1⟩)
    (pQ1 : vsQ1[11]? = some (.ref P1))
    (hQ1 : PySem.W.codeHdIn K cQ1 P1 = true)
    (nQ1 : K.lookup P1 = none)
    (lQ2 : K.lookup cQ2 = some ⟨oQ2, odQ2, .fields vsQ2, slQ2⟩)
    (pQ2 : vsQ2[11]? = some (.ref P2))
    (hQ2 : PySem.W.codeHdIn K cQ2 P2 = true)
    (nQ2 : K.lookup P2 = none)
    (neP : (P1 == P2) = false)
    (gL : PySem.W.nsIn K mainGlobals "LETTERS" = some (some (.str LT tl)))
    (eL : decide (LT = abc) = true)
    (gLo : PySem.W.nsIn K mainGlobals "LONGEST" = some (some (.int 8 tn)))
    (gMV : PySem.W.nsIn K mainGlobals "MOST_VALUE" = some (some (.int 3 t3)))
    (gMD : PySem.W.nsIn K mainGlobals "MOST_DEEDS" = some (some (.int 60 t60)))
    (gMN : PySem.W.nsIn K mainGlobals "MOST_NESTED" = some (some (.int 6 t6)))
    (gK : PySem.W.nsIn K mainGlobals "KEPT_WORDS" = some (some (.ref aK)))
    (lK0 : K.lookup aK = some ⟨.type "tuple", dK0, .seq itsK nTu, slTu⟩)
    (vK : sayB kept itsK.toList = true)
    (zK : decide (itsK.size ≤ sizeLine) = true)
    (gS : PySem.W.nsIn K mainGlobals "SHAPES" = some (some (.ref aS)))
    (sS : PySem.W.nsIn K aS "stop" = some (some (.ref aT)))
    (lT : K.lookup aT = some ⟨.type "tuple", dT, .seq #[] nT, slT⟩)
    (hD : He.dicW K aS = some (He.keysIn w.params ["put", "copy", "say", "fail", "none", "stop", "if", "catch", "choose"]))
    (z_int : PySem.W.nsIn K mainGlobals "int" = some none)
    (z_bool : PySem.W.nsIn K mainGlobals "bool" = some none)
    (z_len : PySem.W.nsIn K mainGlobals "len" = some none)
    (z_abs : PySem.W.nsIn K mainGlobals "abs" = some none)
    (z_list : PySem.W.nsIn K mainGlobals "list" = some none)
    (z_tuple : PySem.W.nsIn K mainGlobals "tuple" = some none)
    (z_dict : PySem.W.nsIn K mainGlobals "dict" = some none)
    (z_range : PySem.W.nsIn K mainGlobals "range" = some none)
    (z_isinstance : PySem.W.nsIn K mainGlobals "isinstance" = some none)
    (z_str : PySem.W.nsIn K mainGlobals "str" = some none)
    (z_all : PySem.W.nsIn K mainGlobals "all" = some none)
    (z_repr : PySem.W.nsIn K mainGlobals "repr" = some none)
    (z_ValueError : PySem.W.nsIn K mainGlobals "ValueError" = some none)
    (z_enumerate : PySem.W.nsIn K mainGlobals "enumerate" = some none)
    (z_sum : PySem.W.nsIn K mainGlobals "sum" = some none)
    (z_max : PySem.W.nsIn K mainGlobals "max" = some none)
    (z_any : PySem.W.nsIn K mainGlobals "any" = some none)
    (z_zip : PySem.W.nsIn K mainGlobals "zip" = some none)
    (z_set : PySem.W.nsIn K mainGlobals "set" = some none)
    (z_sorted : PySem.W.nsIn K mainGlobals "sorted" = some none)
    (lo_xN : K.lookup xN = some (PySem.excClassObj nm_xN q_xN xN N_xN bs_xN bm_xN true sn_xN sub_xN ab_xN col_xN dd_xN k0_xN k1_xN k2_xN k3_xN k5_xN "ValueError.__new__"))
    (ve_xN : PySem.HandSPX.refsVE bm_xN = true)
    (lo_xZ : K.lookup xZ = some (PySem.excClassObj nm_xZ q_xZ xZ N_xZ bs_xZ bm_xZ true sn_xZ sub_xZ ab_xZ col_xZ dd_xZ k0_xZ k1_xZ k2_xZ k3_xZ k5_xZ "ValueError.__new__"))
    (ve_xZ : PySem.HandSPX.refsVE bm_xZ = true)
    (lo_xW : K.lookup xW = some (PySem.excClassObj nm_xW q_xW xW N_xW bs_xW bm_xW true sn_xW sub_xW ab_xW col_xW dd_xW k0_xW k1_xW k2_xW k3_xW k5_xW "ValueError.__new__"))
    (ve_xW : PySem.HandSPX.refsVE bm_xW = true)
    (lo_xR : K.lookup xR = some (PySem.excClassObj nm_xR q_xR xR N_xR bs_xR bm_xR true sn_xR sub_xR ab_xR col_xR dd_xR k0_xR k1_xR k2_xR k3_xR k5_xR "ValueError.__new__"))
    (ve_xR : PySem.HandSPX.refsVE bm_xR = true)
    (vw : PySem.W.findIn K (.ref cS) "WORD" = some (some (.str "stop" tw)))
    (vg : PySem.W.specialIn K (.str "stop" tw) "__get__" = some none)
    (hB_cP : clsB K cP ["cell", "value", "fields"] = true)
    (hB_cC : clsB K cC [] = true)
    (hB_cY : clsB K cY ["log", "word", "fields"] = true)
    (hB_cF : clsB K cF [] = true)
    (hB_cS : clsB K cS ["fields"] = true)
    (hB_cI : clsB K cI ["cell", "value", "block"] = true)
    (hB_cA : clsB K cA ["name", "block"] = true)
    (hB_cH : clsB K cH ["block"] = true)
    (hB_cG : clsB K cG ["deeds", "size", "depth", "used_names", "used_values", "cells", "logs", "failures", "chooses"] = true)
    (hX_xN : excB K ⟨xN, xZ, xW, xR, xL⟩ xN 0 = true)
    (hX_xZ : excB K ⟨xN, xZ, xW, xR, xL⟩ xZ 1 = true)
    (hX_xW : excB K ⟨xN, xZ, xW, xR, xL⟩ xW 2 = true)
    (hX_xR : excB K ⟨xN, xZ, xW, xR, xL⟩ xR 3 = true)
    (hPg : pgB K cG cS cD cH = true)
    (hPap : papB K bP = true)
    (hO : objB K = true)
    (mQ1 : P1 ∈ TT)
    (mQ2 : P2 ∈ TT) :
    ∃ (fd : FuncData) (cs : List (Addr × Addr)), (∀ p ∈ cs, h.get? p.2 = some tab0) ∧ (∀ p ∈ cs, K.lookup p.2 = none) ∧ (∀ p ∈ cs, PySem.W.CodeHd h p.1 p.2) ∧ Fun K "law" "law" sLaw fa fd ∧ FnScope nLaw ["_law_script"] (defScope sLaw) ∧ (∀ (s : Shared) (u : Value), BindsTo s fd ⟨[u], []⟩ [("_law_script", u)]) ∧ LawBodyTs PySem.Challenge.rw_layerseen_k05_simple_deeds_refused w K mg 63 nLaw "law" sLaw fa cs := by
  have e := hfa.symm.trans (PySem.W.mg_of X G a_la)
  cases e
  have eL' : LT = abc := of_decide_eq_true eL
  subst eL'
  have nP : P1 ≠ P2 := fun z => by
    rw [z] at neP
    simp at neP
  have F_W := fun_mk (st := sWhole) l_W c_W k_W
  have F_X := fun_mk (st := sIndex) l_X c_X k_X
  have F_Y := fun_mk (st := sCopied) l_Y c_Y k_Y
  have F_as := fun_mk (st := sAsc) l_as c_as k_as
  have F_fo := fun_mk (st := sFieldsOf) l_fo c_fo k_fo
  have F_ni := fun_mk (st := sNamesIn) l_ni c_ni k_ni
  have F_vi := fun_mk (st := sValuesIn) l_vi c_vi k_vi
  have F_D := fun_mk (st := sWord) l_D c_D k_D
  have F_N := fun_mk (st := sName) l_N c_N k_N
  have F_C := fun_mk (st := sCheck) l_C c_C k_C
  have F_cv := fun_mk (st := sChkVal) l_cv c_cv k_cv
  have F_bo := fun_mk (st := sBlockOf) l_bo c_bo k_bo
  have F_oo := fun_mk (st := sOtherOf) l_oo c_oo k_oo
  have F_pe := fun_mk (st := sPen) l_pe c_pe k_pe
  have F_dr := fun_mk (st := sDraw) l_dr c_dr k_dr
  have F_pi := fun_mk (st := sPick) l_pi c_pi k_pi
  have F_he := fun_mk (st := sHeard) l_he c_he k_he
  have F_sr := fun_mk (st := sSimpleR) l_sr c_sr k_sr
  have F_br := fun_mk (st := sBlockedR) l_br c_br k_br
  have F_la := fun_mk (st := sLaw) l_la c_la k_la
  have F_iN := fun_mk (st := sIniN) l_iN c_iN k_iN
  have F_iZ := fun_mk (st := sIniB) l_iZ c_iZ k_iZ
  have F_iW := fun_mk (st := sIniW) l_iW c_iW k_iW
  have F_iR := fun_mk (st := sIniP) l_iR c_iR k_iR
  have F_ip := fun_mk (st := sPutI) l_ip c_ip k_ip
  have F_ic := fun_mk (st := sCopyI) l_ic c_ic k_ic
  have F_iy := fun_mk (st := sSayI) l_iy c_iy k_iy
  have F_ig := fun_mk (st := sFailI) l_ig c_ig k_ig
  have F_is := fun_mk (st := sStopI) l_is c_is k_is
  have F_ir := fun_mk (st := sProgI) l_ir c_ir k_ir
  have F_bl := fun_mk (st := sBlocks) l_bl c_bl k_bl
  have B_W := F_W.binds (ps := ["value"]) fun _ _ _ _ _ _ us hl => match us, hl with | [_], _ => rfl
  have B_X := F_X.binds (ps := ["value", "many"]) fun _ _ _ _ _ _ us hl => match us, hl with | [_, _], _ => rfl
  have B_Y := F_Y.binds (ps := ["value"]) fun _ _ _ _ _ _ us hl => match us, hl with | [_], _ => rfl
  have B_as := F_as.binds (ps := ["names"]) fun _ _ _ _ _ _ us hl => match us, hl with | [_], _ => rfl
  have B_fo := F_fo.binds (ps := ["deed"]) fun _ _ _ _ _ _ us hl => match us, hl with | [_], _ => rfl
  have B_ni := F_ni.binds (ps := ["deeds"]) fun _ _ _ _ _ _ us hl => match us, hl with | [_], _ => rfl
  have B_vi := F_vi.binds (ps := ["deeds"]) fun _ _ _ _ _ _ us hl => match us, hl with | [_], _ => rfl
  have B_D := F_D.binds (ps := ["value"]) fun _ _ _ _ _ _ us hl => match us, hl with | [_], _ => rfl
  have B_N := F_N.binds (ps := ["value"]) fun _ _ _ _ _ _ us hl => match us, hl with | [_], _ => rfl
  have B_C := F_C.binds (ps := ["value"]) fun _ _ _ _ _ _ us hl => match us, hl with | [_], _ => rfl
  have B_cv := F_cv.binds (ps := ["value"]) fun _ _ _ _ _ _ us hl => match us, hl with | [_], _ => rfl
  have B_bo := F_bo.binds (ps := ["value"]) fun _ _ _ _ _ _ us hl => match us, hl with | [_], _ => rfl
  have B_oo := F_oo.binds (ps := ["value"]) fun _ _ _ _ _ _ us hl => match us, hl with | [_], _ => rfl
  have B_pe := F_pe.binds (ps := ["_law_script"]) fun _ _ _ _ _ _ us hl => match us, hl with | [_], _ => rfl
  have B_dr := F_dr.binds (ps := ["_law_pen_here", "_law_many"]) fun _ _ _ _ _ _ us hl => match us, hl with | [_, _], _ => rfl
  have B_pi := F_pi.binds (ps := ["_law_pen_here", "_law_some"]) fun _ _ _ _ _ _ us hl => match us, hl with | [_, _], _ => rfl
  have B_he := F_he.binds (ps := ["_law_ask"]) fun _ _ _ _ _ _ us hl => match us, hl with | [_], _ => rfl
  have B_sr := F_sr.binds (ps := ["_law_odd", "_law_far", "_law_wrong", "_law_bad"]) fun _ _ _ _ _ _ us hl => match us, hl with | [_, _, _, _], _ => rfl
  have B_br := F_br.binds (ps := ["_law_odd", "_law_wrong", "_law_lost", "_law_gone"]) fun _ _ _ _ _ _ us hl => match us, hl with | [_, _, _, _], _ => rfl
  have B_iN := F_iN.binds (ps := ["self", "value"]) fun _ _ _ _ _ _ us hl => match us, hl with | [_, _], _ => rfl
  have B_iZ := F_iZ.binds (ps := ["self", "value"]) fun _ _ _ _ _ _ us hl => match us, hl with | [_, _], _ => rfl
  have B_iW := F_iW.binds (ps := ["self", "value"]) fun _ _ _ _ _ _ us hl => match us, hl with | [_, _], _ => rfl
  have B_iR := F_iR.binds (ps := ["self", "part"]) fun _ _ _ _ _ _ us hl => match us, hl with | [_, _], _ => rfl
  have B_ip := F_ip.binds (ps := ["self", "cell", "value"]) fun _ _ _ _ _ _ us hl => match us, hl with | [_, _, _], _ => rfl
  have B_ic := F_ic.binds (ps := ["self", "cell", "other"]) fun _ _ _ _ _ _ us hl => match us, hl with | [_, _, _], _ => rfl
  have B_iy := F_iy.binds (ps := ["self", "log", "word"]) fun _ _ _ _ _ _ us hl => match us, hl with | [_, _, _], _ => rfl
  have B_ig := F_ig.binds (ps := ["self", "name"]) fun _ _ _ _ _ _ us hl => match us, hl with | [_, _], _ => rfl
  have B_is := F_is.binds (ps := ["self"]) fun _ _ _ _ _ _ us hl => match us, hl with | [_], _ => rfl
  have B_bl := F_bl.binds (ps := ["self"]) fun _ _ _ _ _ _ us hl => match us, hl with | [_], _ => rfl
  have T : Txt mg := ⟨PySem.W.mg_none_of X G z_int, PySem.W.mg_none_of X G z_bool, PySem.W.mg_none_of X G z_len, PySem.W.mg_none_of X G z_abs, PySem.W.mg_none_of X G z_list, PySem.W.mg_none_of X G z_tuple, PySem.W.mg_none_of X G z_dict, PySem.W.mg_none_of X G z_range, PySem.W.mg_none_of X G z_isinstance, PySem.W.mg_none_of X G z_str, PySem.W.mg_none_of X G z_all, PySem.W.mg_none_of X G z_repr, PySem.W.mg_none_of X G z_ValueError, PySem.W.mg_none_of X G z_enumerate, PySem.W.mg_none_of X G z_sum, PySem.W.mg_none_of X G z_max, PySem.W.mg_none_of X G z_any, PySem.W.mg_none_of X G z_zip, PySem.W.mg_none_of X G z_set, PySem.W.mg_none_of X G z_sorted⟩
  have FD_ii : FunD K "__init__" "If.__init__" (defArgs sIfI) (defBody sIfI) (defScope sIfI) [.non] [] f_ii _ := ⟨⟨oc_ii, od_ii, .ref T1, kV_ii, dc_ii, pm_ii, an_ii, cd_ii, ct_ii, sl_ii, rfl, l_ii, c_ii, .inr ⟨by simp, T1, _, [.none], nT1, rfl, lT1, rfl, .cons rfl .nil⟩, .inl rfl⟩, k_ii⟩
  have FD_ia : FunD K "__init__" "Catch.__init__" (defArgs sCatchI) (defBody sCatchI) (defScope sCatchI) [.non] [] f_ia _ := ⟨⟨oc_ia, od_ia, .ref T2x, kV_ia, dc_ia, pm_ia, an_ia, cd_ia, ct_ia, sl_ia, rfl, l_ia, c_ia, .inr ⟨by simp, T2x, _, [.none], nT2, rfl, lT2, rfl, .cons rfl .nil⟩, .inl rfl⟩, k_ia⟩
  have FD_ih : FunD K "__init__" "Choose.__init__" (defArgs sChooseI) (defBody sChooseI) (defScope sChooseI) [.non] [] f_ih _ := ⟨⟨oc_ih, od_ih, .ref T3, kV_ih, dc_ih, pm_ih, an_ih, cd_ih, ct_ih, sl_ih, rfl, l_ih, c_ih, .inr ⟨by simp, T3, _, [.none], nT3, rfl, lT3, rfl, .cons rfl .nil⟩, .inl rfl⟩, k_ih⟩
  obtain ⟨ds_ii, v_ii, B_ii⟩ := FD_ii.binds1 (ps := ["self", "cell", "value", "block", "other"]) 5 1 (by simp) rfl (fun T kV doc pm an cdv ct us its e1 e2 => match us, its, e1, e2 with | [_, _, _, _, _], [_], _, _ => ⟨_, rfl, rfl⟩)
  obtain rfl : ds_ii = [] := by cases v_ii; rfl
  obtain ⟨ds_ia, v_ia, B_ia⟩ := FD_ia.binds1 (ps := ["self", "name", "block", "other"]) 4 1 (by simp) rfl (fun T kV doc pm an cdv ct us its e1 e2 => match us, its, e1, e2 with | [_, _, _, _], [_], _, _ => ⟨_, rfl, rfl⟩)
  obtain rfl : ds_ia = [] := by cases v_ia; rfl
  obtain ⟨ds_ih, v_ih, B_ih⟩ := FD_ih.binds1 (ps := ["self", "block", "other"]) 3 1 (by simp) rfl (fun T kV doc pm an cdv ct us its e1 e2 => match us, its, e1, e2 with | [_, _, _], [_], _, _ => ⟨_, rfl, rfl⟩)
  obtain rfl : ds_ih = [] := by cases v_ih; rfl
  obtain ⟨itsG, kbA⟩ := FD_ia.kbindsD (ps := ["self", "name", "block", "other"]) 1 ["other", "block", "name"] (fun us _ ws => us ++ (ws.drop 2 ++ ((ws.drop 1).take 1 ++ ws.take 1))) (by simp) (fun a _ b => a.append ((b.drop 2).append (((b.drop 1).take 1).append (b.take 1)))) (fun T kV doc pm an cdv ct us its ws e1 e2 e3 => match us, its, ws, e1, e2, e3 with | [_], [_], [_, _, _], _, _, _ => ⟨_, rfl, rfl⟩)
  have tK : ∀ H, SqT K H aK (kept.map V.str) := fun H => .inr ⟨_, itsK, nTu, lK0, rfl, rfl, of_decide_eq_true zK, say_of _ _ vK⟩
  have tT : ∀ H, SqT K H aT [] := fun H => .inr ⟨_, #[], nT, lT, rfl, rfl, (by show 0 ≤ sizeLine; decide), .nil⟩
  obtain ⟨esD, nD, kd⟩ := He.dicW_ok hD
  have kdt : KDct K w aS "stop" (.ref aT) := ⟨esD, nD, _, kd.at_, kd.lit, sS, rfl⟩
  have C_cP := cls_mk hB_cP
  have C_cC := cls_mk hB_cC
  have C_cY := cls_mk hB_cY
  have C_cF := cls_mk hB_cF
  have C_cS := cls_mk hB_cS
  have C_cI := cls_mk hB_cI
  have C_cA := cls_mk hB_cA
  have C_cH := cls_mk hB_cH
  have C_cG := cls_mk hB_cG
  obtain ⟨e_xN, sa_xN, ty_xN, kp_xN⟩ := exc_mk hO hX_xN
  obtain ⟨e_xZ, sa_xZ, ty_xZ, kp_xZ⟩ := exc_mk hO hX_xZ
  obtain ⟨e_xW, sa_xW, ty_xW, kp_xW⟩ := exc_mk hO hX_xW
  obtain ⟨e_xR, sa_xR, ty_xR, kp_xR⟩ := exc_mk hO hX_xR
  obtain ⟨pg1, pg2, pg3, pg4, pg5⟩ := pg_mk hPg
  have hO' := hO
  unfold objB at hO'
  simp only [Bool.and_eq_true, decide_eq_true_eq] at hO'
  have E_xN : Err K mg "BadName" xN f_iN := ⟨PySem.W.mg_of X G g_xN, ⟨⟨_, _, _, _, _, _, _, _, _, _, _, _, _, _, _, lo_xN, ve_xN⟩, sa_xN, e_xN.ec.hs, ty_xN, kp_xN⟩, m_iN, y_iN, e_xN.no⟩
  have E_xZ : Err K mg "BadNumber" xZ f_iZ := ⟨PySem.W.mg_of X G g_xZ, ⟨⟨_, _, _, _, _, _, _, _, _, _, _, _, _, _, _, lo_xZ, ve_xZ⟩, sa_xZ, e_xZ.ec.hs, ty_xZ, kp_xZ⟩, m_iZ, y_iZ, e_xZ.no⟩
  have E_xW : Err K mg "BadWord" xW f_iW := ⟨PySem.W.mg_of X G g_xW, ⟨⟨_, _, _, _, _, _, _, _, _, _, _, _, _, _, _, lo_xW, ve_xW⟩, sa_xW, e_xW.ec.hs, ty_xW, kp_xW⟩, m_iW, y_iW, e_xW.no⟩
  have E_xR : ErrP K mg "BadProgram" xR f_iR := ⟨PySem.W.mg_of X G g_xR, ⟨⟨_, _, _, _, _, _, _, _, _, _, _, _, _, _, _, lo_xR, ve_xR⟩, sa_xR, e_xR.ec.hs, ty_xR, kp_xR⟩, m_iR, y_iR, e_xR.no⟩
  have S : StK K w mg cS cD cH aS aT := ⟨C_cS.c, C_cS.no _ (by simp), C_cS.dc, C_cS.mo, hO'.1, hO'.2, ⟨_, vw, ⟨_, rfl⟩, vg, by decide +kernel⟩, PySem.W.mg_of X G g_cD, pg4, PySem.W.mg_of X G g_cH, pg5, PySem.W.mg_of X G gS, kdt, tT⟩
  have PN : PgN K cG cS := ⟨pg1, pg2, pg3, C_cG.c, C_cG.dc, C_cG.mo⟩
  have NP : NoPap K mg bP := ⟨PySem.W.mg_of X G g_bP, pap_mk hPap⟩
  have MS : Mk K cS f_is := ⟨C_cS.ms, m_is, n_is, C_cS.kp⟩
  refine ⟨_, [(cQ1, P1), (cQ2, P2)], fun p hp => ?_, fun p hp => ?_, fun p hp => ?_, F_la, scLaw, fun s v => .of_eq rfl, ?_⟩
  · simp only [List.mem_cons, List.not_mem_nil, or_false] at hp
    rcases hp with rfl | rfl
    · exact hT _ mQ1
    · exact hT _ mQ2
  · simp only [List.mem_cons, List.not_mem_nil, or_false] at hp
    rcases hp with rfl | rfl
    · exact nQ1
    · exact nQ2
  · simp only [List.mem_cons, List.not_mem_nil, or_false] at hp
    rcases hp with rfl | rfl
    · exact PySem.W.codeHd_of_K X hQ1
    · exact PySem.W.codeHd_of_K X hQ2
  refine law_body (A := ⟨xN, xZ, xW, xR, xL⟩) (CS := cS) (CPt := cP) (CSy := cY) (fE := f_pe) (fK := f_pi) (fG := f_sr) (fF := f_br) (fS := f_is) (fP := f_ip) (fY := f_iy) (dE := fdOf F_pe) (dK := fdOf F_pi) (dG := fdOf F_sr) (dF := fdOf F_br) (dS := fdOf F_is) (dP := fdOf F_ip) (dY := fdOf F_iy) fun base hKb hNb TB1 TB2 => ?_
  have G_Y : FnOk PR w K mg base CX0 2 f_Y (fdOf F_Y) ["value"] spCopied := ok_copied F_Y NP T B_Y (PySem.W.mg_of X G a_Y)
  have G_iN : FnOk PR w K mg base CX0 3 f_iN (fdOf F_iN) ["self", "value"] (spIni K xN) := ok_iniN F_iN E_xN.ox E_xN.no F_Y B_Y (PySem.W.mg_of X G a_Y) G_Y
  have G_iZ : FnOk PR w K mg base CX0 3 f_iZ (fdOf F_iZ) ["self", "value"] (spIni K xZ) := ok_iniB F_iZ E_xZ.ox E_xZ.no F_Y B_Y (PySem.W.mg_of X G a_Y) G_Y
  have G_iW : FnOk PR w K mg base CX0 3 f_iW (fdOf F_iW) ["self", "value"] (spIni K xW) := ok_iniW F_iW E_xW.ox E_xW.no F_Y B_Y (PySem.W.mg_of X G a_Y) G_Y
  have G_iR : FnOk PR w K mg base CX0 3 f_iR (fdOf F_iR) ["self", "part"] (spIniP K xR) := ok_iniP F_iR E_xR.ox E_xR.no F_Y B_Y (PySem.W.mg_of X G a_Y) G_Y
  have G_D : FnOk PR w K mg base CX0 1 f_D (fdOf F_D) ["value"] (spWord K wd) := ok_word F_D T (PySem.W.mg_of X G gL) (PySem.W.mg_of X G gLo)
  have G_N : FnOk PR w K mg base CX0 2 f_N (fdOf F_N) ["value"] (spWord K nm) := ok_name F_N F_D B_D (PySem.W.mg_of X G a_D) G_D (PySem.W.mg_of X G gK) tK
  have G_C : FnOk PR w K mg base (L2.CX PR w) 5 f_C (fdOf F_C) ["value"] (spCheck K xN) := ok_check F_C F_N B_N (PySem.W.mg_of X G a_N) G_N E_xN B_iN G_iN
  have G_W : FnOk PR w K mg base CX0 1 f_W (fdOf F_W) ["value"] spWhole := ok_whole F_W T
  have G_X : FnOk PR w K mg base CX0 2 f_X (fdOf F_X) ["value", "many"] spIdx := ok_index F_X F_W B_W (PySem.W.mg_of X G a_W) G_W
  have G_cv : FnOk PR w K mg base (L2.CX PR w) 5 f_cv (fdOf F_cv) ["value"] (spCkV xZ) := ok_ckV F_cv F_X B_X (PySem.W.mg_of X G a_X) G_X (PySem.W.mg_of X G gMV) E_xZ B_iZ G_iZ
  have G_as : FnOk PR w K mg base CX0 1 f_as (fdOf F_as) ["names"] (spAsc K) := ok_asc F_as T
  have G_bl : FnOk PR w K mg base CX0 1 f_bl (fdOf F_bl) ["self"] spBlocks := ok_blocks F_bl
  have G_is : FnOk PR w K mg base CX0 1 f_is (fdOf F_is) ["self"] (spStopI cS) := ok_stopI F_is S
  have G_fo : FnOk PR w K mg base CX0 1 f_fo (fdOf F_fo) ["deed"] (spFo cS) := ok_fieldsOf F_fo T S
  have Fo : FnB PR w K mg base 1 "fields_of" sFieldsOf f_fo (fdOf F_fo) ["deed"] (spFo cS) := ⟨F_fo, B_fo, (PySem.W.mg_of X G a_fo), G_fo⟩
  have Bl : MethB PR w K mg base 1 cS "blocks" f_bl (fdOf F_bl) ["self"] spBlocks := ⟨⟨m_bl, n_bl, k_bl⟩, B_bl, G_bl⟩
  have G_ni : FnOk PR w K mg base CX0 2 f_ni (fdOf F_ni) ["deeds"] (spNi cS) := ok_namesIn F_ni S Fo Bl
  have G_vi : FnOk PR w K mg base CX0 2 f_vi (fdOf F_vi) ["deeds"] (spNi cS) := ok_valuesIn F_vi S Fo Bl
  have Zp : PgK PR w K mg base cG cS cD cH aS aT f_bl f_ni f_vi f_as (fdOf F_bl) (fdOf F_ni) (fdOf F_vi) (fdOf F_as) := ⟨T, S, C_cG.c, C_cG.no, ⟨_, (PySem.W.mg_of X G gMD)⟩, ⟨_, (PySem.W.mg_of X G gMN)⟩, Bl, ⟨F_ni, B_ni, (PySem.W.mg_of X G a_ni), G_ni⟩, ⟨F_vi, B_vi, (PySem.W.mg_of X G a_vi), G_vi⟩, ⟨F_as, B_as, (PySem.W.mg_of X G a_as), G_as⟩⟩
  have G_ir : FnR PR w K mg base (L2.CX PR w) 5 f_ir (spProg cG cS) := ok_progI F_ir Zp
  have G_bo : FnOk PR w K mg base (L2.CX PR w) 5 f_bo (fdOf F_bo) ["value"] (spBlk K cG xR) := ok_blk F_bo T (PySem.W.mg_of X G g_cG) E_xR B_iR G_iR
  have G_oo : FnOk PR w K mg base (L2.CX PR w) 5 f_oo (fdOf F_oo) ["value"] (spOth K cG xR) := ok_oth F_oo T (PySem.W.mg_of X G g_cG) E_xR B_iR G_iR
  have G_ip : FnOk PR w K mg base (L2.CX PR w) 6 f_ip (fdOf F_ip) ["self", "cell", "value"] (spPutI K cP xN xZ) := ok_putI F_ip (⟨PySem.W.mg_of X G g_cP, C_cP.c, C_cP.no⟩ : DCls K mg "Put" cP ["cell", "value", "fields"]) F_C B_C (PySem.W.mg_of X G a_C) G_C F_cv B_cv (PySem.W.mg_of X G a_cv) G_cv
  have G_ic : FnOk PR w K mg base (L2.CX PR w) 6 f_ic (fdOf F_ic) ["self", "cell", "other"] (spCopyI K cC xN) := ok_copyI F_ic F_C B_C (PySem.W.mg_of X G a_C) G_C
  have G_iy : FnOk PR w K mg base (L2.CX PR w) 6 f_iy (fdOf F_iy) ["self", "log", "word"] (spSayI K cY xN xW) := ok_sayI F_iy (⟨PySem.W.mg_of X G g_cY, C_cY.c, C_cY.no⟩ : DCls K mg "Say" cY ["log", "word", "fields"]) F_C B_C (PySem.W.mg_of X G a_C) G_C F_D B_D (PySem.W.mg_of X G a_D) G_D E_xW B_iW G_iW
  have G_ig : FnOk PR w K mg base (L2.CX PR w) 6 f_ig (fdOf F_ig) ["self", "name"] (spFailI K cF xN) := ok_failI F_ig F_C B_C (PySem.W.mg_of X G a_C) G_C
  have G_ii : FnOk PR w K mg base (L2.CX PR w) 6 f_ii (fdD FD_ii) ["self", "cell", "value", "block", "other"] (spIfI K cI xN xZ cG xR) := ok_ifI FD_ii (⟨PySem.W.mg_of X G g_cI, C_cI.c, C_cI.no⟩ : DCls K mg "If" cI ["cell", "value", "block"]) F_C B_C (PySem.W.mg_of X G a_C) G_C F_cv B_cv (PySem.W.mg_of X G a_cv) G_cv F_bo B_bo (PySem.W.mg_of X G a_bo) G_bo F_oo B_oo (PySem.W.mg_of X G a_oo) G_oo
  have G_ia : FnOk PR w K mg base (L2.CX PR w) 6 f_ia (fdD FD_ia) ["self", "name", "block", "other"] (spCatchI K cA xN cG xR) := ok_catchI FD_ia (⟨PySem.W.mg_of X G g_cA, C_cA.c, C_cA.no⟩ : DCls K mg "Catch" cA ["name", "block"]) F_C B_C (PySem.W.mg_of X G a_C) G_C F_bo B_bo (PySem.W.mg_of X G a_bo) G_bo F_oo B_oo (PySem.W.mg_of X G a_oo) G_oo
  have G_ih : FnOk PR w K mg base (L2.CX PR w) 6 f_ih (fdD FD_ih) ["self", "block", "other"] (spChooseI K cH cG xR) := ok_chooseI FD_ih (⟨PySem.W.mg_of X G g_cH, C_cH.c, C_cH.no⟩ : DCls K mg "Choose" cH ["block"]) F_bo B_bo (PySem.W.mg_of X G a_bo) G_bo F_oo B_oo (PySem.W.mg_of X G a_oo) G_oo
  have M_ip : Mk6 PR w K mg base "Put" cP f_ip (fdOf F_ip) ["self", "cell", "value"] (spPutI K cP xN xZ) := ⟨⟨C_cP.ms, m_ip, n_ip, C_cP.kp⟩, B_ip, PySem.W.mg_of X G g_cP, G_ip⟩
  have M_ic : Mk6 PR w K mg base "Copy" cC f_ic (fdOf F_ic) ["self", "cell", "other"] (spCopyI K cC xN) := ⟨⟨C_cC.ms, m_ic, n_ic, C_cC.kp⟩, B_ic, PySem.W.mg_of X G g_cC, G_ic⟩
  have M_iy : Mk6 PR w K mg base "Say" cY f_iy (fdOf F_iy) ["self", "log", "word"] (spSayI K cY xN xW) := ⟨⟨C_cY.ms, m_iy, n_iy, C_cY.kp⟩, B_iy, PySem.W.mg_of X G g_cY, G_iy⟩
  have M_ig : Mk6 PR w K mg base "Fail" cF f_ig (fdOf F_ig) ["self", "name"] (spFailI K cF xN) := ⟨⟨C_cF.ms, m_ig, n_ig, C_cF.kp⟩, B_ig, PySem.W.mg_of X G g_cF, G_ig⟩
  have M_ii : Mk6 PR w K mg base "If" cI f_ii (fdD FD_ii) ["self", "cell", "value", "block", "other"] (spIfI K cI xN xZ cG xR) := ⟨⟨C_cI.ms, m_ii, n_ii, C_cI.kp⟩, B_ii, PySem.W.mg_of X G g_cI, G_ii⟩
  have M_ia : Mk6 PR w K mg base "Catch" cA f_ia (fdD FD_ia) ["self", "name", "block", "other"] (spCatchI K cA xN cG xR) := ⟨⟨C_cA.ms, m_ia, n_ia, C_cA.kp⟩, B_ia, PySem.W.mg_of X G g_cA, G_ia⟩
  have M_ih : Mk6 PR w K mg base "Choose" cH f_ih (fdD FD_ih) ["self", "block", "other"] (spChooseI K cH cG xR) := ⟨⟨C_cH.ms, m_ih, n_ih, C_cH.kp⟩, B_ih, PySem.W.mg_of X G g_cH, G_ih⟩
  have hd : HdK K mg (⟨xN, xZ, xW, xR, xL⟩ : E5) f_he (fdOf F_he) P1 P2 := ⟨T, F_he, (PySem.W.mg_of X G a_he), (PySem.W.mg_of X G g_xN), (PySem.W.mg_of X G g_xZ), (PySem.W.mg_of X G g_xW), (PySem.W.mg_of X G g_xR), (PySem.W.mg_of X G g_xL), e_xN, e_xZ, e_xW, e_xR, nP⟩
  have G_sr := ok_simple (P := PR) (w := w) hd TB1 M_ip M_ic M_iy (kb_wl F_iy) M_ig l_sr c_sr
  have G_br := ok_blocked (P := PR) (w := w) hd TB2 PN S ⟨C_cG.ms, m_ir, n_ir, C_cG.kp⟩ (PySem.W.mg_of X G g_cG) G_ir MS B_is (PySem.W.mg_of X G g_cS) G_is M_ii M_ia kbA M_ih l_br c_br
  have G_pe : FnOk PR w K mg base CX0 1 f_pe (fdOf F_pe) ["_law_script"] (spPen K) := ok_pen F_pe T
  have G_dr : FnOk PR w K mg base CX0 1 f_dr (fdOf F_dr) ["_law_pen_here", "_law_many"] spDraw := ok_draw F_dr T
  have G_pi : FnOk PR w K mg base CX0 2 f_pi (fdOf F_pi) ["_law_pen_here", "_law_some"] spPick := ok_pick F_pi T F_dr B_dr (PySem.W.mg_of X G a_dr) G_dr
  exact { T := T, Fe := F_pe, be := B_pe, ge := (PySem.W.mg_of X G a_pe), Ge := G_pe, Fk := F_pi, bk := B_pi, gk := (PySem.W.mg_of X G a_pi), Gk := G_pi, kg := k_sr, bg := B_sr, gg := (PySem.W.mg_of X G a_sr), Gg := G_sr, kf := k_br, bf := B_br, gf := (PySem.W.mg_of X G a_br), Gf := G_br, MS := MS, bS := B_is, gS := (PySem.W.mg_of X G g_cS), GS := G_is, MP := M_ip, MY := M_iy, DP := (⟨PySem.W.mg_of X G g_cP, C_cP.c, C_cP.no⟩ : DCls K mg "Put" cP ["cell", "value", "fields"]), DY := (⟨PySem.W.mg_of X G g_cY, C_cY.c, C_cY.no⟩ : DCls K mg "Say" cY ["log", "word", "fields"]) }
end My
/-! The head writes an equation for each tree of objects on the way of the top and for each heap, some n * n nodes each, and the compiled file would be over the 256 MiB that are kept. These names stand where it would write them: it goes on without them, and the kernel reads those trees as they are. -/
def PySem.W.Fast.tw12071467120367062624 : Unit := ()
def PySem.W.Fast.tw4058311561300954784 : Unit := ()
def PySem.W.Fast.tw7481141859343530337 : Unit := ()
def PySem.W.Fast.tw2955862682581437796 : Unit := ()
def PySem.W.Fast.tw11153334706650344551 : Unit := ()
def PySem.W.Fast.tw17557765765298305287 : Unit := ()
def PySem.W.Fast.tw15412390303552391337 : Unit := ()
def PySem.W.Fast.tw5748779911219205065 : Unit := ()
def PySem.W.Fast.tw18086818992619371242 : Unit := ()
def PySem.W.Fast.tw17408434675002905418 : Unit := ()
def PySem.W.Fast.tw15966523492167473994 : Unit := ()
def PySem.W.Fast.tw4701257188965983724 : Unit := ()
def PySem.W.Fast.tw11569673176922323758 : Unit := ()
def PySem.W.Fast.tw7225418320507451599 : Unit := ()
def PySem.W.Fast.tw8515631450836469232 : Unit := ()
def PySem.W.Fast.tw16585546272976498737 : Unit := ()
def PySem.W.Fast.tw13317990922653781553 : Unit := ()
def PySem.W.Fast.tw3663279715293342834 : Unit := ()
def PySem.W.Fast.tw17562010501887084275 : Unit := ()
def PySem.W.Fast.tw3474127564174450740 : Unit := ()
def PySem.W.Fast.tw5587966397800567988 : Unit := ()
def PySem.W.Fast.tw15598707360888461333 : Unit := ()
def PySem.W.Fast.tw13487265341836029173 : Unit := ()
def PySem.W.Fast.tw3408919179092532693 : Unit := ()
def PySem.W.Fast.tw5795728043037246742 : Unit := ()
def PySem.W.Fast.tw17283132336862720632 : Unit := ()
def PySem.W.Fast.tw1710685323937307288 : Unit := ()
def PySem.W.Fast.tw12326574046818011096 : Unit := ()
def PySem.W.Fast.tw10790434392843917561 : Unit := ()
def PySem.W.Fast.tw572309433083283353 : Unit := ()
def PySem.W.Fast.tw11811583880930480443 : Unit := ()
def PySem.W.Fast.tw4764583195130104316 : Unit := ()
def PySem.W.Fast.tw16917215372892368957 : Unit := ()
def PySem.W.Fast.tw6123283534822113982 : Unit := ()
def PySem.W.Fast.tw7001767794441637151 : Unit := ()
def PySem.W.Fast.tw9997696542021829599 : Unit := ()
open PySem PySem.W PyProof.Rows
set_option maxHeartbeats 0 in
theorem PySem.Challenge.cw_layerseen_k05_simple_deeds_refused_holds : PySem.Challenge.rw_layerseen_k05_simple_deeds_refused.Holds := by
  w_on; o_law; k_head; (case hw => w_witness2)
  k_fill
  refine My.law_topTs (l := PySem.Challenge.rw_layerseen_k05_simple_deeds_refused) (n := 63) (N := My.nLaw) (x := "_law_script") (nm := "law") (qual := "law") (st := My.sLaw) rfl (by decide) rfl (fun w h Y => PySem.W.km_in_of Y) ?Z
  case Z =>
    intro w mg fa h Y KX G hmg
    have hT8 := PySem.W.km_tabs_of Y
    refine' My.all_mk KX G hmg hT8 ?a_W ?l_W ?c_W ?k_W ?a_X ?l_X ?c_X ?k_X ?a_Y ?l_Y ?c_Y ?k_Y ?a_as ?l_as ?c_as ?k_as ?a_fo ?l_fo ?c_fo ?k_fo ?a_ni ?l_ni ?c_ni ?k_ni ?a_vi ?l_vi ?c_vi ?k_vi ?a_D ?l_D ?c_D ?k_D ?a_N ?l_N ?c_N ?k_N ?a_C ?l_C ?c_C ?k_C ?a_cv ?l_cv ?c_cv ?k_cv ?a_bo ?l_bo ?c_bo ?k_bo ?a_oo ?l_oo ?c_oo ?k_oo ?a_pe ?l_pe ?c_pe ?k_pe ?a_dr ?l_dr ?c_dr ?k_dr ?a_pi ?l_pi ?c_pi ?k_pi ?a_he ?l_he ?c_he ?k_he ?a_sr ?l_sr ?c_sr ?k_sr ?a_br ?l_br ?c_br ?k_br ?a_la ?l_la ?c_la ?k_la ?g_xL ?g_xN ?g_xZ ?g_xW ?g_xR ?g_cD ?g_cP ?g_cC ?g_cY ?g_cF ?g_cS ?g_cI ?g_cA ?g_cH ?g_cG ?g_bP ?m_iN ?l_iN ?c_iN ?k_iN ?y_iN ?n_iN ?m_iZ ?l_iZ ?c_iZ ?k_iZ ?y_iZ ?n_iZ ?m_iW ?l_iW ?c_iW ?k_iW ?y_iW ?n_iW ?m_iR ?l_iR ?c_iR ?k_iR ?y_iR ?n_iR ?m_ip ?l_ip ?c_ip ?k_ip ?n_ip ?m_ic ?l_ic ?c_ic ?k_ic ?n_ic ?m_iy ?l_iy ?c_iy ?k_iy ?n_iy ?m_ig ?l_ig ?c_ig ?k_ig ?n_ig ?m_is ?l_is ?c_is ?k_is ?n_is ?m_ii ?l_ii ?c_ii ?k_ii ?n_ii ?m_ia ?l_ia ?c_ia ?k_ia ?n_ia ?m_ih ?l_ih ?c_ih ?k_ih ?n_ih ?m_ir ?l_ir ?c_ir ?k_ir ?n_ir ?m_bl ?l_bl ?c_bl ?k_bl ?n_bl ?lT1 ?lT2 ?lT3 ?lQ1 ?pQ1 ?hQ1 ?nQ1 ?lQ2 ?pQ2 ?hQ2 ?nQ2 ?neP ?gL ?eL ?gLo ?gMV ?gMD ?gMN ?gK ?lK0 ?vK ?zK ?gS ?sS ?lT ?hD ?z_int ?z_bool ?z_len ?z_abs ?z_list ?z_tuple ?z_dict ?z_range ?z_isinstance ?z_str ?z_all ?z_repr ?z_ValueError ?z_enumerate ?z_sum ?z_max ?z_any ?z_zip ?z_set ?z_sorted ?lo_xN ?ve_xN ?lo_xZ ?ve_xZ ?lo_xW ?ve_xW ?lo_xR ?ve_xR ?vw ?vg ?hB_cP ?hB_cC ?hB_cY ?hB_cF ?hB_cS ?hB_cI ?hB_cA ?hB_cH ?hB_cG ?hX_xN ?hX_xZ ?hX_xW ?hX_xR ?hPg ?hPap ?hO ?mQ1 ?mQ2
    (case a_W => k_is)
    (case l_W => k_is)
    (case c_W => k_is)
    (case k_W => k_is)
    (case a_X => k_is)
    (case l_X => k_is)
    (case c_X => k_is)
    (case k_X => k_is)
    (case a_Y => k_is)
    (case l_Y => k_is)
    (case c_Y => k_is)
    (case k_Y => k_is)
    (case a_as => k_is)
    (case l_as => k_is)
    (case c_as => k_is)
    (case k_as => k_is)
    (case a_fo => k_is)
    (case l_fo => k_is)
    (case c_fo => k_is)
    (case k_fo => k_is)
    (case a_ni => k_is)
    (case l_ni => k_is)
    (case c_ni => k_is)
    (case k_ni => k_is)
    (case a_vi => k_is)
    (case l_vi => k_is)
    (case c_vi => k_is)
    (case k_vi => k_is)
    (case a_D => k_is)
    (case l_D => k_is)
    (case c_D => k_is)
    (case k_D => k_is)
    (case a_N => k_is)
    (case l_N => k_is)
    (case c_N => k_is)
    (case k_N => k_is)
    (case a_C => k_is)
    (case l_C => k_is)
    (case c_C => k_is)
    (case k_C => k_is)
    (case a_cv => k_is)
    (case l_cv => k_is)
    (case c_cv => k_is)
    (case k_cv => k_is)
    (case a_bo => k_is)
    (case l_bo => k_is)
    (case c_bo => k_is)
    (case k_bo => k_is)
    (case a_oo => k_is)
    (case l_oo => k_is)
    (case c_oo => k_is)
    (case k_oo => k_is)
    (case a_pe => k_is)
    (case l_pe => k_is)
    (case c_pe => k_is)
    (case k_pe => k_is)
    (case a_dr => k_is)
    (case l_dr => k_is)
    (case c_dr => k_is)
    (case k_dr => k_is)
    (case a_pi => k_is)
    (case l_pi => k_is)
    (case c_pi => k_is)
    (case k_pi => k_is)
    (case a_he => k_is)
    (case l_he => k_is)
    (case c_he => k_is)
    (case k_he => k_is)
    (case a_sr => k_is)
    (case l_sr => k_is)
    (case c_sr => k_is)
    (case k_sr => k_is)
    (case a_br => k_is)
    (case l_br => k_is)
    (case c_br => k_is)
    (case k_br => k_is)
    (case a_la => k_is)
    (case l_la => k_is)
    (case c_la => k_is)
    (case k_la => k_is)
    (case g_xL => k_is)
    (case g_xN => k_is)
    (case g_xZ => k_is)
    (case g_xW => k_is)
    (case g_xR => k_is)
    (case g_cD => k_is)
    (case g_cP => k_is)
    (case g_cC => k_is)
    (case g_cY => k_is)
    (case g_cF => k_is)
    (case g_cS => k_is)
    (case g_cI => k_is)
    (case g_cA => k_is)
    (case g_cH => k_is)
    (case g_cG => k_is)
    (case g_bP => k_is)
    (case m_iN => k_is)
    (case l_iN => k_is)
    (case c_iN => k_is)
    (case k_iN => k_is)
    (case y_iN => k_is)
    (case n_iN => k_is)
    (case m_iZ => k_is)
    (case l_iZ => k_is)
    (case c_iZ => k_is)
    (case k_iZ => k_is)
    (case y_iZ => k_is)
    (case n_iZ => k_is)
    (case m_iW => k_is)
    (case l_iW => k_is)
    (case c_iW => k_is)
    (case k_iW => k_is)
    (case y_iW => k_is)
    (case n_iW => k_is)
    (case m_iR => k_is)
    (case l_iR => k_is)
    (case c_iR => k_is)
    (case k_iR => k_is)
    (case y_iR => k_is)
    (case n_iR => k_is)
    (case m_ip => k_is)
    (case l_ip => k_is)
    (case c_ip => k_is)
    (case k_ip => k_is)
    (case n_ip => k_is)
    (case m_ic => k_is)
    (case l_ic => k_is)
    (case c_ic => k_is)
    (case k_ic => k_is)
    (case n_ic => k_is)
    (case m_iy => k_is)
    (case l_iy => k_is)
    (case c_iy => k_is)
    (case k_iy => k_is)
    (case n_iy => k_is)
    (case m_ig => k_is)
    (case l_ig => k_is)
    (case c_ig => k_is)
    (case k_ig => k_is)
    (case n_ig => k_is)
    (case m_is => k_is)
    (case l_is => k_is)
    (case c_is => k_is)
    (case k_is => k_is)
    (case n_is => k_is)
    (case m_ii => k_is)
    (case l_ii => k_is)
    (case c_ii => k_is)
    (case k_ii => k_is)
    (case n_ii => k_is)
    (case m_ia => k_is)
    (case l_ia => k_is)
    (case c_ia => k_is)
    (case k_ia => k_is)
    (case n_ia => k_is)
    (case m_ih => k_is)
    (case l_ih => k_is)
    (case c_ih => k_is)
    (case k_ih => k_is)
    (case n_ih => k_is)
    (case m_ir => k_is)
    (case l_ir => k_is)
    (case c_ir => k_is)
    (case k_ir => k_is)
    (case n_ir => k_is)
    (case m_bl => k_is)
    (case l_bl => k_is)
    (case c_bl => k_is)
    (case k_bl => k_is)
    (case n_bl => k_is)
    (case lT1 => k_is)
    (case lT2 => k_is)
    (case lT3 => k_is)
    (case lQ1 => k_is)
    (case pQ1 => rfl)
    (case hQ1 => kernel_rfl)
    (case nQ1 => kernel_rfl)
    (case lQ2 => k_is)
    (case pQ2 => rfl)
    (case hQ2 => kernel_rfl)
    (case nQ2 => kernel_rfl)
    (case neP => rfl)
    (case gL => k_is)
    (case eL => decide +kernel)
    (case gLo => k_is)
    (case gMV => k_is)
    (case gMD => k_is)
    (case gMN => k_is)
    (case gK => k_is)
    (case lK0 => k_is)
    (case vK => decide +kernel)
    (case zK => decide +kernel)
    (case gS => k_is)
    (case sS => k_is)
    (case lT => k_is)
    (case hD => kernel_rfl)
    (case z_int => k_is)
    (case z_bool => k_is)
    (case z_len => k_is)
    (case z_abs => k_is)
    (case z_list => k_is)
    (case z_tuple => k_is)
    (case z_dict => k_is)
    (case z_range => k_is)
    (case z_isinstance => k_is)
    (case z_str => k_is)
    (case z_all => k_is)
    (case z_repr => k_is)
    (case z_ValueError => k_is)
    (case z_enumerate => k_is)
    (case z_sum => k_is)
    (case z_max => k_is)
    (case z_any => k_is)
    (case z_zip => k_is)
    (case z_set => k_is)
    (case z_sorted => k_is)
    (case lo_xN => k_is)
    (case ve_xN => decide +kernel)
    (case lo_xZ => k_is)
    (case ve_xZ => decide +kernel)
    (case lo_xW => k_is)
    (case ve_xW => decide +kernel)
    (case lo_xR => k_is)
    (case ve_xR => decide +kernel)
    (case vw => k_is)
    (case vg => k_is)
    (case hB_cP => kernel_rfl)
    (case hB_cC => kernel_rfl)
    (case hB_cY => kernel_rfl)
    (case hB_cF => kernel_rfl)
    (case hB_cS => kernel_rfl)
    (case hB_cI => kernel_rfl)
    (case hB_cA => kernel_rfl)
    (case hB_cH => kernel_rfl)
    (case hB_cG => kernel_rfl)
    (case hX_xN => kernel_rfl)
    (case hX_xZ => kernel_rfl)
    (case hX_xW => kernel_rfl)
    (case hX_xR => kernel_rfl)
    (case hPg => kernel_rfl)
    (case hPap => kernel_rfl)
    (case hO => kernel_rfl)
    (case mQ1 => first | exact List.Mem.head _ | decide)
    (case mQ2 => first | exact List.Mem.head _ | decide)
