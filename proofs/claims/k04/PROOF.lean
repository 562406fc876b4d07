import PyProof.Rows.All
import Wide.All
import OpenK.AllK
import Wide.FinOn
import HandS.ForMost
import HandS.ForExc
import HandS.ExcIs
import HandS.ExcField
import KE.KExcIs
import HandS.IsInst
import KE.KCallOwn
import PyProof.InstNe
import HandS.RaiseMore
import HandS.DictComp
import HandS.Walk
import HandS.Iter
import HandS.Comp
import HandS.Text
import HandS.Strs
import HandS.SetFor
import HandS.SetTxt0
import KE.GoesMore
import PyProof.Draws
import HandS.Dict
import HandS.More
import HandS.AnyAll
import HandS.OwnEq
import HandS.FStr
import HandS.MakeKw
import HandS.MakeKwOnly
import HandS.DeepEq
import HandS.SortKw
import HandS.Zip0
import KE.DataMinMax
import KE.GoesZip
import PyProof.ListNew
import KE.KItemsList
import HandS.ExcValue
import HandS.Star
import PyProof.EqKinds
import HandS.TupAny
import HandS.TupLen
import PyProof.NeKinds
import HandS.Style
import HandS.ClsMeth
import HandS.HeadHook3
import PySem.Challenge.RW_layerseen_k04_simple_deeds_made
set_option Elab.async false
set_option linter.all false
set_option maxRecDepth 100000
set_option maxHeartbeats 4000000

namespace My
open PySem PySem.Spec PyProof.Rows L2

/-- what the walk of the law's body has to give, the guards being known -/
def LawBody (l : PySem.W.OpenLaw) (w : World) (K : PySem.W.Frag) (mg : Str → Option Value) (n : Nat) (N : List Str) (qual : Str) (st : Stmt) (fa : Addr) : Prop :=
  ∀ base : Heap, K.In base → base.Ns mainGlobals mg → ∀ (cdv : Value) (s : Shared) (H : Hp) (a : Addr) (ns : List Int), ns.length ≤ n → Only H → SqL K H a (ns.map V.int) →
    ∃ t, PSs (cxOf CX0 l.prog w K mg base N qual (defScope st) fa cdv callerA [] s H E0).nox (defBody st) t ∧
      t { nx := fun _ _ => False, rt := fun v _ => v = .bl true } (start N [.ref a]) H

/-- one call of the law from an abstract heap -/
theorem enter {l : PySem.W.OpenLaw} {w : World} {K : PySem.W.Frag} {mg : Str → Option Value} {n : Nat} {N : List Str} {x nm qual : Str} {st : Stmt} {fa a : Addr} {fd : FuncData}
    {base : Heap} {s : Shared} {H : Hp} {ns : List Int}
    (F : Fun K nm qual st fa fd) (S : FnScope N [x] (defScope st)) (hb : ∀ (s : Shared) (u : Value), BindsTo s fd ⟨[u], []⟩ [(x, u)])
    (B : LawBody l w K mg n N qual st fa) (hKb : K.In base) (hNb : base.Ns mainGlobals mg) (hn : ns.length ≤ n) (hO : Only H) (hS : SqL K H a (ns.map V.int))
    (e0 : Env0 l.prog w K mg base callerA [] s H) :
    codeAny (model l.prog w) callerA (.call (.ref fa) ⟨[.ref a], []⟩)
      (fun r s' => r = .ok (.ret (.bool true)) ∧ ∃ H', s'.os = s.os ∧ AllBare s'.gens ∧ Un [] [] H H' s.heap s'.heap ∧ HOk l.prog w H' s'.heap) s := by
  obtain ⟨oc, od, kV, doc, pm, an, cdv, ct, osl, rfl, lk, hcd⟩ := F.ex
  have stays : ∀ b o, base.get? b = some o → s.heap.get? b = some o := fun b o z => (e0.bs b o z).1
  have KS : K.In s.heap := e0.mod.kin.keeps stays
  have NL : s.heap.NoLimit := e0.mod.nolimit.keeps stays
  have kinds : ∀ y ∈ [x].zip [Value.ref a], (defScope st).names.lookup y.1 = some .local ∨ ((defScope st).names.lookup y.1 = some .cell ∧ ((cellsFrom (s.heap.objs.size + 1) (defScope st).names []).lookup y.1).isSome = true) := by
    intro y hy
    obtain rfl : y = (x, Value.ref a) := List.mem_singleton.mp hy
    cases S.par x (List.mem_singleton.mpr rfl) with
    | inl q => exact .inl q
    | inr q => exact .inr ⟨q, PySem.W.cellsFrom_some _ _ _ (.inl q)⟩
  refine codeAny_call_function (by decide) (KS _ _ lk) rfl S.co S.gen rfl (PySem.W.codeRec_of KS hcd) (hb s (.ref a) _ _ _ _ ?_)
  refine wpAny_newFunctionEnv_cells S.kind kinds fun env he s2 ic => ?_
  subst he
  refine ⟨NL.keeps ic.toInCall.keep, codeAny_func ?_⟩
  obtain ⟨t, ht, hq⟩ := B base hKb hNb cdv s H a ns hn hO hS
  have J0 := inv_start (E := E0) (CX := CX0) S (show callerA.handled = none from rfl) e0 (vs := [.ref a]) (us := [.ref a]) rfl (.cons rfl .nil) ic
  refine wpAny_mono (ht.run [] s2 (start N [.ref a]) H _ (J0.wish _) hq) (fun fl s' hs => ?_) fun e s' hs => hs.elim
  cases fl with
  | ret u =>
    obtain ⟨v, σ', H', J, rv, q⟩ := hs
    subst q
    obtain rfl : u = Value.bool true := rv
    exact ⟨rfl, H', J.os, J.bare, J.base, J.hok⟩
  | next => exact (let ⟨_, _, _, q⟩ := hs; q).elim
  | brk => exact (let ⟨_, _, _, q⟩ := hs; q).elim
  | cont => exact (let ⟨_, _, _, q⟩ := hs; q).elim

/-- the object of the script, looked at through its abstract heap -/
def scriptHp (a : Addr) (vs : List Value) (ns : List Int) : Hp := fun b => if b = a then some (.frz { cls := .type "list", data := .seq vs.toArray } (.lst (ns.map V.int))) else none

/-- from one call in an abstract heap to the call that is asked for -/
theorem settle {l : PySem.W.OpenLaw} {w : World} {K : PySem.W.Frag} {mg mb : Str → Option Value} {n : Nat} {N : List Str} {x nm qual : Str} {st : Stmt} {fa a : Addr} {fd : FuncData} {s : Shared} {H : Hp} {ns : List Int} {vs : List Value}
    (KX : K.In s.heap) (hns : s.heap.Ns mainGlobals mg) (hb : s.heap.Ns builtinsNs mb) (hbb : ∀ x : Str, x ≠ "__name__" → mb x = bootBuiltins x) (hlim : s.heap.NoLimit) (hg : s.gens = #[])
    (ha : s.heap.get? a = some { cls := .type "list", data := .seq vs.toArray }) (hn : ns.length ≤ n)
    (F : Fun K nm qual st fa fd) (S : FnScope N [x] (defScope st)) (hbi : ∀ (s : Shared) (u : Value), BindsTo s fd ⟨[u], []⟩ [(x, u)]) (B : LawBody l w K mg n N qual st fa)
    (hO : Only H) (hS : SqL K H a (ns.map V.int)) (hok : HOk l.prog w H s.heap) (one : ∀ b, H b ≠ none → b = a) (out : H a ≠ none → K.lookup a = none) :
    codeAny (model l.prog w) callerA (.call (.ref fa) ⟨[.ref a], []⟩) (fun r s' => r = .ok (.ret (.bool true)) ∧ OldK s.heap s'.heap ∧ s'.os = s.os ∧ AllBare s'.gens) s := by
  have seen : ∀ {b : Addr} {o : Obj}, H b = none → s.heap.get? b = some o → (hidT s.heap H).get? b = some o := fun q e => hidT_get e q
  have free : ∀ {b : Addr} {o : Obj}, s.heap.get? b = some o → (∀ xs k, o.data ≠ .seq xs k) → H b = none := by
    intro b o e nd
    by_cases z : H b = none
    · exact z
    · have eb := one b z
      rw [eb, ha] at e
      injection e with e
      exact absurd (by rw [← e]) (nd vs.toArray 0)
  have names : ∀ {b : Addr} {m : Str → Option Value}, s.heap.Ns b m → (hidT s.heap H).Ns b m := by
    intro b m nb
    obtain ⟨o, es, ep, e, d, rest⟩ := nb
    exact ⟨o, es, ep, seen (free e fun xs k z => by rw [d] at z; injection z) e, d, rest⟩
  have KB : K.In (hidT s.heap H) := by
    intro b o e
    refine seen ?_ (KX b o e)
    by_cases z : H b = none
    · exact z
    · have eb := one b z
      subst eb
      rw [out z] at e
      injection e
  have E0' : Env0 l.prog w K mg (hidT s.heap H) callerA [] s H := by
    refine ⟨rfl, ⟨KB, names hns, ⟨mb, names hb, hbb⟩, ?_⟩, fun b o e => of_hidT e, Nat.le_of_eq (hidT_size _ _), trivial, ?_, hok, .of_eq hg⟩
    · obtain ⟨mc, c1, c2⟩ := hlim
      exact ⟨mc, names c1, c2⟩
    · intro b z
      exact absurd (show b ∈ ([] : List Addr) from z) List.not_mem_nil
  refine codeAny_mono (enter F S hbi B KB (names hns) hn hO hS E0') fun r s' h => ?_
  obtain ⟨e1, H', os, bare, un, hok'⟩ := h
  refine ⟨e1, OldK.of_keep fun b o e => ?_, os, bare⟩
  by_cases z : H b = none
  · exact un.keep b o e z (show b ∉ ([] : List Addr) from List.not_mem_nil) List.not_mem_nil
  · rcases hO b with y | ⟨ob, xs, y⟩
    · exact absurd y z
    · have g1 := (hok b _ y).1
      have g2 := (hok' b _ (un.frzs b ob _ y)).1
      rw [g1] at e
      injection e with e
      rw [← e]
      exact g2

/-- the goal that the head leaves, from the law's body walked with known guards -/
theorem law_top {l : PySem.W.OpenLaw} {n : Nat} {q : Program} {loose : List Str} {XP : (Str → Option Value) → Heap → Prop} {YP : World → Heap → Prop} {d : DefRec} {K : Params → PySem.W.Frag} {N : List Str} {x nm qual : Str} {st : Stmt}
    (hn : l.most = some n) (hn2 : n ≤ sizeLine) (hdf : d.params.defaults = []) (hY : ∀ (w : World) (h : Heap), YP w h → (K w.params).In h)
    (Z : ∀ (w : World) (mg : Str → Option Value) (fa : Addr) (h : Heap), (K w.params).In h → h.Ns mainGlobals mg → mg d.name = some (.ref fa) →
      ∃ fd : FuncData, Fun (K w.params) nm qual st fa fd ∧ FnScope N [x] (defScope st) ∧ (∀ (s : Shared) (u : Value), BindsTo s fd ⟨[u], []⟩ [(x, u)]) ∧ LawBody l w (K w.params) mg n N qual st fa) :
    PySem.W.WalkO q loose XP YP l.row.toRowW d [] (fun f vs => PySem.call f vs) := by
  refine Att.attach_call hn hdf ?_
  intro w s₀ s mg mb fa o pm cd doc a vs ns G Y ho hd hcd hmg hobj hints hlen hg
  have KX : (K w.params).In s.heap := hY w _ Y
  obtain ⟨fd, F, S, hbi, B⟩ := Z w mg fa _ KX G.T.g hmg
  have rv : Vals (ns.map V.int) vs := vals_ints hints
  have top : ns.length ≤ sizeLine := Nat.le_trans hlen hn2
  have plain := @settle l w (K w.params) mg mb n N x nm qual st fa a fd s
  cases hk : (K w.params).lookup a with
  | some u =>
    have e := KX a u hk
    rw [hobj] at e
    injection e with e
    subst e
    refine plain (H := fun _ => none) (ns := ns) (vs := vs) KX G.T.g G.T.b G.T.builtins G.T.nolimit hg hobj hlen F S hbi B (fun _ => .inl rfl) (.inr ⟨_, vs.toArray, _, hk, rfl, rfl, rfl, ?_, ?_⟩) (fun b u z => ?_) (fun b z => absurd rfl z) (fun z => absurd rfl z)
    · rw [List.size_toArray, hints.length]
      exact top
    · simpa using rv
    · injection z
  | none =>
    refine plain (H := scriptHp a vs ns) (ns := ns) (vs := vs) KX G.T.g G.T.b G.T.builtins G.T.nolimit hg hobj hlen F S hbi B (fun b => ?_) (.inl (.inr ⟨_, if_pos rfl⟩)) (fun b u z => ?_) (fun b z => ?_) (fun _ => hk)
    · by_cases eb : b = a
      · exact .inr ⟨_, _, if_pos eb⟩
      · exact .inl (if_neg eb)
    · by_cases eb : b = a
      · have y := (if_pos eb).symm.trans z
        injection y with y
        subst y
        subst eb
        exact ⟨hobj, by rw [List.length_map]; exact top, vs, _, rv, hobj⟩
      · have y := (if_neg eb).symm.trans z
        injection y
    · by_cases eb : b = a
      · exact eb
      · exact absurd (if_neg eb) z
end My
namespace My
open PySem PySem.Spec PyProof.Rows L2
/-- an exception of the class cls that was caught and is still held, its own dict at d -/
def KeptO (cls : Value) (d : Option Addr) (a : Addr) : HO := .ext fun h => ∃ oe vs, h.get? a = some oe ∧ Zc cls d oe ∧ oe.data = .fields vs
theorem kept_ok {P : Program} {w : World} {H : Hp} {h : Heap} {cls : Value} {d : Option Addr} {a : Addr} {oe : Obj} {vs : Array Value} (e : h.get? a = some oe) (z : Zc cls d oe) (f : oe.data = .fields vs) : ObjOk P w H h a (KeptO cls d a) :=
  ⟨⟨oe, vs, e, z, f⟩, ⟨oe, e⟩, fun _ _ ⟨o, v, q, r⟩ k => ⟨o, v, k o q, r⟩⟩
section
variable {X : Cx} {pins : List (Addr × Obj)} {σ : L2.St} {H : Hp} {s : Shared}
/-- an object of ours, made since the entry and not tracked so far, is tracked from now on -/
theorem track {a : Addr} {o : HO} (I : Inv X pins σ H s) (na : H a = none) (n0 : X.s_0.heap.get? a = none) (nL : a ≠ X.env.locals) (nC : ∀ x c, X.env.cells.lookup x = some c → c ≠ a) (nP : ∀ p ∈ X.pn ++ pins, p.1 ≠ a)
    (ok : ObjOk X.prog X.w (upd H a o) s.heap a o) : Inv X pins σ (upd H a o) s := by
  have far : ∀ {b : Addr} {u : HO}, H b = some u → b ≠ a := fun q z => by
    rw [z, na] at q
    cases q
  have up : ∀ {b : Addr} {u : HO}, H b = some u → (upd H a o) b = some u := fun q => by
    rw [upd_ne (far q)]
    exact q
  refine ⟨I.ok, I.os, I.bare, ⟨I.base.keep, I.base.slot, fun b u q n hx => ?_, I.base.there, fun b xs q => up (I.base.tups b xs q), fun b u xs q => up (I.base.frzs b u xs q), fun b ps q => ?_⟩, I.loc, I.cell, ?_, fun x c q => ?_, fun p hp => ?_, fun b u q => ?_, I.len⟩
  · have nb : b ≠ a := fun z => by
      rw [z, n0] at q
      cases q
    rw [upd_ne nb]
    exact I.base.free b u q n hx
  · obtain ⟨more, q1⟩ := I.base.tbls b ps q
    exact ⟨more, up q1⟩
  · rw [upd_ne (Ne.symm nL)]
    exact I.free
  · rw [upd_ne (nC x c q)]
    exact I.freeC x c q
  · obtain ⟨h1, h2, h3⟩ := I.pin p hp
    refine ⟨h1, ?_, h3⟩
    rw [upd_ne (nP p hp)]
    exact h2
  · by_cases hb : b = a
    · subst hb
      rw [upd_same] at q
      injection q with q
      subst q
      exact ok
    · rw [upd_ne hb] at q
      exact (I.hok b u q).stay (fun _ _ _ r => r) (fun _ r => up r) fun _ _ r => up r
end
/-- what `except x as n: suite` wishes of an exception of the body: slot i is n's; behind the suite the exception is held -/
def wKeep (K : PySem.W.Frag) (c : Value) (i : Nat) (ts : Addr → Value → Option Addr → TS) (D : Ends) : WX := fun cls d σ H =>
  PySem.W.exmOne K cls c = some true ∧ ∀ a, H a = none → ts a cls d { nx := fun σ' H' => D.nx (σ'.set i none) (upd H' a (KeptO cls d a)), rt := fun _ _ => False, bk := fun _ _ => False, ct := fun _ _ => False } (σ.set i (some (.ref a))) H
section
variable {X : Cx} {x n : Str} {c : Value} {i : Nat} {body suite : List Stmt} {b₀ : Stmt} {np pos pos' : Pos} {tb : WX → TS} {ts : Addr → Value → Option Addr → TS}
theorem ps_try_keep (hex : X.ex = []) (hs : X.stack = X.env :: X.outer) (hf : X.env.frame = some X.env.locals) (hN : X.N.Nodup) (hi : X.N[i]? = some n) (hln : X.env.kindOf n = some .local) (hc : Names X x c)
    (hb : ∀ (W : WX) (pn : List (Addr × Obj)) (xe : Value → Shared → Prop), Takes (X.tr pn xe) W → PassesOwn (model X.prog X.w) X.A X.env xe → PSs (X.tr pn xe) body (tb W))
    (hsu : ∀ (a : Addr) (oe : Obj) (cls : Value) (d : Option Addr) (pn : List (Addr × Obj)), Zc cls d oe → (∃ vs, oe.data = .fields vs) → PSs (X.suite a ((a, oe) :: pn)) (b₀ :: suite) (ts a cls d)) :
    PS X (.Try body [.ExceptHandler (some (.Name x np)) (some n) (b₀ :: suite) pos'] [] [] pos) (fun D σ H => tb (wKeep X.K c i ts D) D σ H) := by
  constructor
  intro pins s σ H D I h
  have ok := I.ok
  have hfr : X.A.frames = some (X.env :: X.outer) := by rw [ok.frames, hs]
  -- what the body's exceptions are told to
  have caught : Takes (X.tr (X.pn ++ pins) fun e s₁ => wpAny (model X.prog X.w) X.A (noteFrame e X.env) (fun _ s₂ => wpAny (model X.prog X.w) X.A (setFlight e none) (fun _ s₃ =>
      wpAny (model X.prog X.w) X.A (handleBy e X.env [.ExceptHandler (some (.Name x np)) (some n) (b₀ :: suite) pos']) (SP X pins D) X.xe s₃) X.xe s₂) X.xe s₁) (wKeep X.K c i ts D) := by
    intro u s' xx
    obtain ⟨a, B, sI, pins', σ', H', cls, d, rfl, J', nb, up, sky, na, os, ag, hm, go⟩ := xx
    have J : Inv X pins σ' H' sI := J'.ofTry ok
    rw [show (X.tr (X.pn ++ pins) _).stack = X.env :: X.outer from hs] at sky
    show wpAny (model X.prog X.w) X.A (noteFrame (.ref a) X.env) _ _ _
    refine Sky.land Zc.steady hfr hf sky fun h3 fl3 up3 => ?_
    have none_B : B.get? a = none := fl3.2.1
    obtain ⟨oe3, vs3, he3, hz3, hd3⟩ := fl3.there
    have J3 : Inv X pins σ' H' { s' with heap := h3 } := J.landed nb fl3.1 (up.trans up3) os ag
    have out : a ∉ frs (X.env :: X.outer) := by
      intro z
      obtain ⟨_, o, e1, e2⟩ := (fl3.2.2.1).mem z
      have e3 := he3.symm.trans e1
      injection e3 with e3
      exact e2 vs3 (e3 ▸ hd3)
    have nL : a ≠ X.env.locals := fun z => out (List.mem_filterMap.mpr ⟨X.env, List.mem_cons_self, by rw [hf, z]⟩)
    have nF : a ∉ X.fs := fun z => by
      obtain ⟨e, he, e1⟩ := List.mem_filterMap.mp z
      exact out (List.mem_filterMap.mpr ⟨e, List.mem_cons_of_mem _ he, e1⟩)
    have notI : ∀ o, sI.heap.get? a ≠ some o := fun o z => by
      have e1 := nb a o z (by rw [hs]; exact out)
      rw [none_B] at e1
      cases e1
    have n0 : X.s_0.heap.get? a = none := by
      cases z : X.s_0.heap.get? a with
      | none => rfl
      | some o =>
        obtain ⟨o', e1⟩ := J.base.there a o z (by rw [hex]; exact List.not_mem_nil)
        exact absurd e1 (notI o')
    have nP : ∀ p ∈ X.pn ++ pins, p.1 ≠ a := fun p hp z => notI p.2 (z ▸ (J.pin p hp).1)
    have nC : ∀ v cc, X.env.cells.lookup v = some cc → cc ≠ a := fun v cc q z => by
      obtain ⟨_, o, e1, e2⟩ := J3.cell v cc q
      have e3 : h3.get? cc = some o := e1
      rw [z, he3] at e3
      injection e3 with e3
      rw [← e3, hd3] at e2
      cases e2
    have S3 := J3.suite he3 hd3 na nL nF
    refine wpAny_handleBy_cons (codeAny_handlers_test ?_) (by intro q; cases q)
    have kind : PySem.W.Looks (model X.prog X.w) h3 (typeOf (.ref a)) cls := fun A Q E s k q => wpAny_typeOf_ref (k _ _ he3) (by rw [hz3.1]; exact q)
    have fits := PySem.W.exm_one (M := model X.prog X.w) J3.kIn kind hm
    have named : ∀ {Q : Value → Shared → Prop} {E : Value → Shared → Prop}, Q c { s' with heap := h3 } → wpAny (model X.prog X.w) (X.A.mark (some (.ref a))) (eval (.Name x np) X.env) Q E { s' with heap := h3 } := by
      intro Q E q
      obtain ⟨g, db, hx | ⟨hx, hv, hnn⟩⟩ := hc
      · exact ld_glob (X := X.suite a ((a, oe3) :: (X.pn ++ pins))) S3 g hx q db
      · exact ld_blt (X := X.suite a ((a, oe3) :: (X.pn ++ pins))) S3 g hx hv q hnn db
    refine named (fits.here (codeAny_handlers_suite_as (HandSPX.lands_againZ fl3 fun h4 fl4 up4 => ?_)))
    obtain ⟨oe4, vs4, he4, hz4, hd4⟩ := fl4.there
    have J4 : Inv X pins σ' H' { s' with heap := h4 } := J.landed nb fl4.1 ((up.trans up3).trans up4) os ag
    have S4 := J4.suite he4 hd4 na nL nF
    refine store_ok (X := X.suite a ((a, oe4) :: (X.pn ++ pins))) (v := .ref a) S4 hN hi (.inl hln) rfl (fun s5 S5 => ?_) (.inr hln)
    refine wpAny_mono ((hsu a oe4 cls d (X.pn ++ pins) hz4 ⟨_, hd4⟩).run [] s5 _ H' _ S5 (go a na)) (fun f s6 q => ?_) fun _ _ z => z.elim
    cases f with
    | brk => exact (let ⟨_, _, _, q⟩ := q; q).elim
    | cont => exact (let ⟨_, _, _, q⟩ := q; q).elim
    | ret u => exact (let ⟨_, _, _, _, _, q⟩ := q; q).elim
    | next =>
      obtain ⟨σ6, H6, S6, q6⟩ := q
      refine gone_ok (X := X.suite a ((a, oe4) :: (X.pn ++ pins))) S6 hN hi hln fun s7 S7 => ?_
      obtain ⟨e7, n7, _⟩ := S7.pin (a, oe4) (List.mem_append_left _ List.mem_cons_self)
      exact ⟨_, _, track (S7.unsuite ok) n7 n0 nL nC nP (kept_ok e7 hz4 hd4), q6⟩
  refine wpAny_Try_except (wpAny_mono ((hb (wKeep X.K c i ts D) (X.pn ++ pins) _ caught PassesOwn.looking).run [] s σ H D (I.toTry _) h) (fun f s1 q => ?_) fun e s1 q => q)
  cases f with
  | next => exact (let ⟨σ', H', J, q⟩ := q; wpAny_execs_nil ⟨σ', H', J.ofTry ok, q⟩)
  | brk => exact (let ⟨σ', H', J, q⟩ := q; ⟨σ', H', J.ofTry ok, q⟩)
  | cont => exact (let ⟨σ', H', J, q⟩ := q; ⟨σ', H', J.ofTry ok, q⟩)
  | ret u => exact (let ⟨v, σ', H', J, r, q⟩ := q; ⟨v, σ', H', J.ofTry ok, r, q⟩)
end
end My
namespace My
open PySem PySem.Spec PyProof.Rows L2
section
variable {X : Cx} {pins : List (Addr × Obj)} {σ : L2.St} {H : Hp} {s : Shared} {a C : Addr} {d : Option Addr}
/-- the held exception as the library's rules for instances want it; its own dict, if it has one, is tracked -/
theorem held_inst (I : Inv X pins σ H s) (h : H a = some (KeptO (.ref C) d a)) (hd : ∀ dd, d = some dd → ∃ fs, H dd = some (.xd fs)) : ∃ oe od, PySem.W.InstAt s.heap a oe C od := by
  obtain ⟨⟨oe, vs, e, z, f⟩, _, _⟩ := I.hok a _ h
  have plain : PySem.W.notCls oe = true := by
    unfold PySem.W.notCls
    rw [f] <;> rfl
  cases d with
  | none => exact ⟨oe, none, e, z.1, plain, by rw [z.2]; trivial⟩
  | some dd =>
    obtain ⟨fs, hx⟩ := hd dd rfl
    obtain ⟨mA, ns, _⟩ := (show ObjOk X.prog X.w H s.heap dd (.xd fs) from I.hok dd _ hx)
    obtain ⟨od, ho, _⟩ := lookIn_ns ns
    exact ⟨oe, some od, e, z.1, plain, by rw [z.2]; exact ho⟩
/-- isinstance(e, c), e an exception that is held, c an own class or a built-in one -/
def rHeldIs (K : PySem.W.Frag) : List V → Hp → VK → Prop := fun xs H Q => ∃ (a D : Addr) (d : Option Addr) (c : V) (u : Value) (b : Bool), xs = [.ref a, c] ∧ ClsV c u ∧ H a = some (KeptO (.ref D) d a) ∧ (∀ dd, d = some dd → ∃ fs, H dd = some (.xd fs)) ∧
  ExcC K D ∧ PySem.W.kitOne K (.ref D) u = some b ∧ Q (.bl b) H
theorem call_heldIs : CallR X (.builtin "isinstance") (rHeldIs X.K) := by
  intro pins s σ H xs us Q I r h
  obtain ⟨a, D, d, c, u, b, rfl, k, ha, hd, T, e, q⟩ := h
  obtain ⟨u1, u2, rfl, r1, r2⟩ := vals2 r
  cases r1
  have e2 := k.eq r2
  subst e2
  obtain ⟨oe, od, J⟩ := held_inst I ha hd
  have cls : (PySem.W.clsIn X.K D).isSome = true := by
    obtain ⟨cd, hc, _⟩ := PySem.W.any_some T.hd
    rw [hc] <;> rfl
  exact PySem.W.kia_one (PySem.W.kitx_exc cls T.hg T.hk T.hs T.ha T.hn T.ht T.hm) I.kIn J e (fun z => nomatch z) fun tk => ⟨.bl b, H, I.tok tk, rfl, q⟩
/-- e.f of a held exception -/
def tHeldF (K : PySem.W.Frag) (f : Str) (te : TE) : TE := fun σ H Q => te σ H fun x H1 => ∃ (a C dd : Addr) (fs : List (Str × V)) (v : V), x = .ref a ∧ H1 a = some (KeptO (.ref C) (some dd) a) ∧ H1 dd = some (.xd fs) ∧ XfC K C ∧ PySem.W.findIn K (.ref C) f = some none ∧ fs.lookup f = some v ∧ Q v H1
theorem pe_heldF {te : TE} {n : Str} {e : Expr} {pos : Pos} (he : PE X e te) (hb : attributeBase e n X.env (eval e X.env) = eval e X.env := by rfl) : PE X (.Attribute e n pos) (tHeldF X.K n te) := by
  constructor
  intro pins s σ H Q I h
  refine attr_of hb (thn (he.run pins s σ H _ I h) ?_)
  intro u s1 hu
  obtain ⟨x, H1, I1, rx, a, C, dd, fs, v, ex, ea, ed, T, hno, l, q⟩ := hu
  subst ex
  obtain rfl : u = Value.ref a := rx
  obtain ⟨⟨oe, vs, e1, z, f1⟩, _, _⟩ := I1.hok a _ ea
  obtain ⟨mA, ns, rel⟩ := (show ObjOk X.prog X.w H1 s1.heap dd (.xd fs) from I1.hok dd _ ed)
  obtain ⟨od, ho, hl⟩ := lookIn_ns ns
  obtain ⟨w, hw, rw'⟩ := RelO.some_of (v := v) (o := mA n) (by rw [← l]; exact rel n)
  have plain : PySem.W.notCls oe = true := by
    unfold PySem.W.notCls
    rw [f1] <;> rfl
  have J : PySem.W.InstAt s1.heap a oe C (some od) := ⟨e1, z.1, plain, by rw [z.2]; exact ho⟩
  exact HandSPX.exc_get I1.kIn J T.ga T.gg T.exC (PySem.W.findObj_own T.hdC hno rfl (by rw [hl, hw])) (handed_of rw') ⟨v, H1, I1.tok _, rw', q⟩
end
end My
namespace My
open PySem PySem.Spec PyProof.Rows L2
/-- a def's promise where it is known that no repr is under way -/
structure FnG (P : Program) (w : World) (K : PySem.W.Frag) (mg : Str → Option Value) (base : Heap) (CX : CXT) (k : Nat) (f : Addr) (fd : FuncData) (ps : List Str) (sp : Sp) : Prop where
  len : ∀ vs H Q E, sp vs H Q E → vs.length = ps.length
  run : ∀ (A : Around) (outer : List Env) (s : Shared) (H : Hp) (args : Args) (us : List Value) (vs : List V) (Q : VK) (E : XK), Room k A → A.guards = some [] → Env0 P w K mg base A outer s H → BindsTo s fd args (ps.zip us) → Vals vs us → sp vs H Q E →
    codeAny (model P w) A (.call (.ref f) args) (CR CX outer P w H s Q E) s
theorem toG {P : Program} {w : World} {K : PySem.W.Frag} {mg : Str → Option Value} {base : Heap} {CX : CXT} {k : Nat} {f : Addr} {fd : FuncData} {ps : List Str} {sp : Sp} (F : FnOk P w K mg base CX k f fd ps sp) : FnG P w K mg base CX k f fd ps sp :=
  ⟨F.len, fun A outer s H args us vs Q E r _ => F.run A outer s H args us vs Q E r⟩
section
variable {P : Program} {w : World} {K : PySem.W.Frag} {mg : Str → Option Value} {base : Heap}
/-- a def by its body, the guards known -/
theorem okG {CX : CXT} {x qual : Str} {st : Stmt} {f : Addr} {fd : FuncData} {N ps : List Str} {k : Nat} {sp : Sp} (F : Fun K x qual st f fd) (S : FnScope N ps (defScope st)) (len : ∀ vs H Q E, sp vs H Q E → vs.length = ps.length)
    (body : ∀ (cdv : Value) (A : Around) (outer : List Env) (s : Shared) (H : Hp) (vs : List V) (Q : VK) (E : XK), Room k (A.deeper (envOfC qual (defScope st) s.heap.objs.size f cdv)) → (A.deeper (envOfC qual (defScope st) s.heap.objs.size f cdv)).guards = some [] → sp vs H Q E →
      ∃ t, PSs (cxOf CX P w K mg base N qual (defScope st) f cdv A outer s H E) (defBody st) t ∧ t { nx := fun _ H' => Q .non H', rt := Q } (start N vs) H) : FnG P w K mg base CX (k + 1) f fd ps sp := by
  obtain ⟨oc, od, kV, doc, pm, an, cdv, ct, osl, rfl, lk, hcd⟩ := F.ex
  refine ⟨len, ?_⟩
  intro A outer s H args us vs Q E room guard e0 bind rel prom
  have stays : ∀ b o, base.get? b = some o → s.heap.get? b = some o := fun b o z => (e0.bs b o z).1
  have KS : K.In s.heap := e0.mod.kin.keeps stays
  have many := len _ _ _ _ prom
  have kinds : ∀ y ∈ ps.zip us, (defScope st).names.lookup y.1 = some .local ∨ ((defScope st).names.lookup y.1 = some .cell ∧ ((cellsFrom (s.heap.objs.size + 1) (defScope st).names []).lookup y.1).isSome = true) := by
    intro y hy
    cases S.par y.1 (List.of_mem_zip hy).1 with
    | inl q => exact .inl q
    | inr q => exact .inr ⟨q, PySem.W.cellsFrom_some _ _ _ (.inl q)⟩
  refine codeAny_call_function room.depth (KS _ _ lk) rfl S.co S.gen rfl (PySem.W.codeRec_of KS hcd) (bind _ _ _ _ ?_)
  refine wpAny_newFunctionEnv_cells S.kind kinds fun env he s2 ic => ?_
  subst he
  refine ⟨(e0.mod.nolimit.keeps stays).keeps ic.toInCall.keep, codeAny_func ?_⟩
  have guard' : (A.deeper (envOfC qual (defScope st) s.heap.objs.size f cdv)).guards = some [] := by
    obtain ⟨a1, a2, a3, a4, a5⟩ := A
    first | exact guard | simpa [Around.deeper, Code.guards, Code.isGuard, pushGuards, guardIds] using guard
  obtain ⟨t, ht, hq⟩ := body cdv A outer s H vs Q E (room.deeper _) guard' prom
  refine wpAny_mono (ht.run [] s2 (start N vs) H _ (inv_start S room.hd e0 many rel ic) hq) (fun fl s' hs => ?_) fun e s' hs => hs
  cases fl with
  | ret u => exact (let ⟨v, _, H', J, rv, q⟩ := hs; ⟨v, H', J.os, J.bare, J.base, J.hok, rv, q⟩)
  | next => exact (let ⟨_, H', J, q⟩ := hs; ⟨.non, H', J.os, J.bare, J.base, J.hok, rfl, q⟩)
  | brk => exact (let ⟨_, _, _, q⟩ := hs; q).elim
  | cont => exact (let ⟨_, _, _, q⟩ := hs; q).elim
end
section
variable {X : Cx} {CX : CXT} {k : Nat} {f : Addr} {fd : FuncData} {ps : List Str} {ds : List Value} {dvs : List V} {sp : Sp} {E : XK} {x : Str} {p pos : Pos} {e : Expr} {es : List Expr} {t : TA}
theorem runG {pins : List (Addr × Obj)} {σ : L2.St} {H : Hp} {s : Shared} {Q : VK} {us : List Value} {vs : List V} (F : FnG X.prog X.w X.K X.mg X.base CX k f fd ps sp) (hr : Room k X.A) (hg : X.A.guards = some []) (hb : Binds X.K fd ps ds) (hd : Vals dvs ds) (hx : Passes CX X E)
    (I : Inv X pins σ H s) (r : Vals vs us) (h : sp (vs ++ dvs) H Q E) : wpAny (model X.prog X.w) X.A (call (.ref f) us) (EP X pins σ Q) X.xe s := by
  have rel : Vals (vs ++ dvs) (us ++ ds) := r.append hd
  have many : (us ++ ds).length = ps.length := rel.length ▸ F.len _ _ _ _ h
  refine wpAny_call (codeAny_mono (F.run X.A X.stack s H ⟨us, []⟩ (us ++ ds) (vs ++ dvs) Q E hr hg I.env0 (hb s us I.kIn many) rel h) ?_)
  intro r s' hq
  match r, hq with
  | .error e, hq => exact hx pins σ H s e s' I hq
  | .ok (.ret u), hq => exact I.after hq
/-- f(e, ..) where it is known that no repr is under way -/
theorem pe_callG (F : FnG X.prog X.w X.K X.mg X.base CX k f fd ps sp) (hr : Room k X.A) (hgu : X.A.guards = some []) (hg : Gl X x) (hm : X.mg x = some (.ref f)) (hk : PySem.W.keepIn X.K (.ref f) = true) (hb : Binds X.K fd ps ds) (hd : Vals dvs ds) (hx : Passes CX X E)
    (ha : PA X (e :: es) t) (hdb : (x == ("__debug__" : Str)) = false := by decide) (he : starEach (e :: es) X.env = (false, eval e X.env) :: starEach es X.env := by rfl) (hpl : (backTo pos (starEach es X.env)).any (·.1) = false := by rfl) :
    PE X (.Call (.Name x p) (e :: es) [] pos) (tCall sp dvs E t) := by
  constructor
  intro pins s σ H Q I h
  refine wpAny_Call_Name_kw (ld_glob I hg hm (PySem.W.callWith_K (h₀ := X.base) I.ok.mod.kin hk (thn (ha.run pos pins s σ H _ I h) ?_) he hpl) hdb)
  intro us s1 hu
  obtain ⟨vs, H1, I1, r, q⟩ := hu
  exact ⟨I1.kIn, runG F hr hgu hb hd hx I1 r q⟩
/-- x == y where x is of an own class with an own __eq__ that answers True or False, y anything that is not of a class below x's -/
def rEqOwn (K : PySem.W.Frag) (C : Addr) (sp : Sp) (E : XK) : R2 := fun x y H Q => ∃ (a dx : Addr) (fs : List (Str × V)) (t : Value), x = .ref a ∧ H a = some (.ins C dx fs) ∧ TyX K H y t ∧ PySem.W.notFirst K C t = true ∧ sp [x, y] H (fun v H' => ∃ b, v = .bl b ∧ Q (.bl b) H') E
theorem op_eqOwn {C : Addr} (F : FnG X.prog X.w X.K X.mg X.base CX k f fd ps sp) (hr : Room k X.A) (hgu : X.A.guards = some []) (hs : PySem.W.findIn X.K (.ref C) "__eq__" = some (some (.ref f))) (hf : PySem.W.isFn X.K (.ref f) = true) (hb : Binds X.K fd ps []) (hx : Passes CX X E) :
    OpR X (compareOp .Eq) (rEqOwn X.K C sp E) := by
  intro pins s σ H x y v u Q I rx ry h
  obtain ⟨a, dx, fs, t, rfl, ha, ty, nf, q⟩ := h
  cases rx
  obtain ⟨mA, J, _⟩ := ins_get I.hok ha
  obtain ⟨od, J, _⟩ := J.look
  obtain ⟨m, hF⟩ := I.fr
  obtain ⟨Pp, Z, pz, _⟩ := kit_of I ry ty
  show wpAny (model X.prog X.w) X.A (richCompare .Eq (.ref a) u) (EP X pins σ Q) X.xe s
  refine PySem.W.cmp_K (op := .Eq) (tb := t) hr.units0 hF I.ok.mod.kin J (Z.ty _ _ I.kIn pz) nf hs hf ?_
  refine wpAny_mono (runG (vs := [.ref a, y]) (us := [.ref a, u]) (dvs := []) (ds := []) F hr hgu hb .nil hx I (.cons rfl (.cons ry .nil)) q) (fun r s' z => ?_) fun _ _ z => z
  obtain ⟨w1, H1, I1, r1, b, rfl, q1⟩ := z
  cases r1
  exact ⟨.bl b, H1, I1, rfl, q1⟩
end
end My
namespace My
open PySem PySem.Spec PyProof.Rows L2
section
variable {X : Cx} {CX : CXT} {k : Nat} {f : Addr} {fd : FuncData} {ps : List Str} {sp : Sp} {E : XK}
/-- a def called from within a built-in -/
theorem runAt {A : Around} {pins : List (Addr × Obj)} {σ : L2.St} {H : Hp} {s : Shared} {Q : VK} {us : List Value} {vs : List V} (F : FnG X.prog X.w X.K X.mg X.base CX k f fd ps sp) (hr : Room k A) (hg : A.guards = some []) (fr : A.frames = X.A.frames) (hb : Binds X.K fd ps []) (hx : Passes CX X E)
    (I : Inv X pins σ H s) (r : Vals vs us) (h : sp vs H Q E) : wpAny (model X.prog X.w) A (call (.ref f) us) (EP X pins σ Q) X.xe s := by
  have many : us.length = ps.length := r.length ▸ F.len _ _ _ _ h
  have e0 : Env0 X.prog X.w X.K X.mg X.base A X.stack s H := by
    obtain ⟨h1, h2, h3, h4, h5, h6, h7, h8⟩ := I.env0
    exact ⟨fr.trans h1, h2, h3, h4, h5, h6, h7, h8⟩
  have bind := hb s us I.kIn (by simpa using many)
  rw [List.append_nil] at bind
  refine wpAny_call (codeAny_mono (F.run A X.stack s H ⟨us, []⟩ us vs Q E hr hg e0 bind r h) ?_)
  intro r s' hq
  match r, hq with
  | .error e, hq => exact hx pins σ H s e s' I hq
  | .ok (.ret u), hq => exact I.after hq
/-- x != y where x is of an own class with an own __eq__ that answers True or False and without an own __ne__ -/
theorem op_neOwn {C : Addr} (F : FnG X.prog X.w X.K X.mg X.base CX k f fd ps sp) (hr : Room (k + 1) X.A) (hgu : X.A.guards = some []) (hs : PySem.W.findIn X.K (.ref C) "__eq__" = some (some (.ref f))) (hf : PySem.W.isFn X.K (.ref f) = true)
    (hn : PySem.W.findIn X.K (.ref C) "__ne__" = some (some (.builtin "object.__ne__"))) (hm : PySem.W.mroIn X.K C (.type "object") = some true) (hb : Binds X.K fd ps []) (hx : Passes CX X E) :
    OpR X (compareOp .NotEq) (fun x y H Q => rEqOwn X.K C sp E x y H fun v H' => ∃ b, v = .bl b ∧ Q (.bl (!b)) H') := by
  intro pins s σ H x y v u Q I rx ry h
  obtain ⟨a, dx, fs, t, rfl, ha, ty, nf, q⟩ := h
  cases rx
  obtain ⟨mA, J, _⟩ := ins_get I.hok ha
  obtain ⟨od, J, _⟩ := J.look
  obtain ⟨Pp, Z, pz, _⟩ := kit_of I ry ty
  have KS := I.kIn
  have own : wpAny (model X.prog X.w) X.A.in1 (callSpecialIfBound? (.ref a) "__eq__" [u]) (fun r s' => ∃ b, r = some (.bool b) ∧ EP X pins σ Q (.bool (!b)) s') X.xe s := by
    refine PySem.W.ifBound_K KS J hs hf (wpAny_mono (runAt (vs := [.ref a, y]) (us := [.ref a, u]) F hr.in1 hgu rfl hb hx I (.cons rfl (.cons ry .nil)) q) (fun r s' z => ?_) fun _ _ z => z)
    obtain ⟨w1, H1, I1, r1, b, rfl, b', e, q1⟩ := z
    cases r1
    cases e
    exact ⟨b, rfl, .bl (!b), H1, I1, rfl, q1⟩
  have entry : wpAny (model X.prog X.w) X.A.in1 (Builtin.«object.__ne__» ⟨[.ref a, u], []⟩) (fun r s' => ∃ b, r = .done (.ret (.bool (!b))) ∧ EP X pins σ Q (.bool (!b)) s') X.xe s := by
    unfold Builtin.«object.__ne__»
    refine wpAny_bind (wpAny_of_eq (a := ((Value.ref a : Value), [u])) (by first | rfl | (simp only [slotArgs]; rfl)) ?_)
    refine wpAny_bind (wpAny_cRoomFor hr.in1.units0 (wpAny_bind (wpAny_mono own (fun r s' z => ?_) fun _ _ z => z)))
    obtain ⟨b, rfl, ep⟩ := z
    exact wpAny_bind (wpAny_truthy_bool (wpAny_pure ⟨b, rfl, ep⟩))
  have slot : wpAny (model X.prog X.w) X.A (call (.builtin "object.__ne__") [.ref a, u]) (fun v s' => ∃ b, v = .bool b ∧ EP X pins σ Q (.bool b) s') X.xe s := by
    refine wpAny_call (codeAny_call_builtin PySem.F.cmp_object.ne.plain PySem.F.cmpEntry_ne (PySem.W.check_slot PySem.F.cmpKind_ne PySem.F.cmpSplit_ne (J.type.andThen (PySem.W.looks_mroIn KS hm)) (PySem.F.cmpArgs_ne _ _) (wpAny_mono entry (fun r s' z => ?_) fun _ _ z => z)))
    obtain ⟨b, rfl, ep⟩ := z
    exact ⟨!b, rfl, ep⟩
  have one : wpAny (model X.prog X.w) X.A (tryCompare (.ref a) "__ne__" u) (fun r s' => ∃ b, r = some (.bool b) ∧ EP X pins σ Q (.bool b) s') X.xe s := by
    unfold tryCompare
    have asked : wpAny (model X.prog X.w) X.A (callSpecialIfBound? (.ref a) "__ne__" [u]) (fun r s' => ∃ b, r = some (.bool b) ∧ EP X pins σ Q (.bool b) s') X.xe s := by
      have last : wpAny (model X.prog X.w) X.A (call (.builtin "object.__ne__") ([.ref a] ++ [u]) >>= fun v => pure (some v)) (fun r s' => ∃ b, r = some (.bool b) ∧ EP X pins σ Q (.bool b) s') X.xe s :=
        wpAny_bind (wpAny_mono slot (fun v s' z => wpAny_pure (let ⟨b, e, ep⟩ := z; ⟨b, congrArg some e, ep⟩)) fun _ _ z => z)
      unfold callSpecialIfBound? bindSpecialIfBound?
      refine wpAny_holding (wpAny_bind (wpAny_bind (wpAny_bind (J.type.here ((PySem.W.looks_findIn KS hn).here (wpAny_bind (wpAny_askSetting (wpAny_ite ?_))))))))
      split
      · exact wpAny_bind (wpAny_of_eq (PySem.F.cmp_object.ne.bind _) (wpAny_pure last))
      · exact wpAny_tryCatch (wpAny_bind (wpAny_of_eq (PySem.F.cmp_object.ne.bind _) (wpAny_pure last)))
    refine wpAny_bind (wpAny_mono asked (fun r s' z => ?_) fun _ _ z => z)
    obtain ⟨b, rfl, ep⟩ := z
    exact wpAny_pure ⟨b, rfl, ep⟩
  show wpAny (model X.prog X.w) X.A (richCompare .NotEq (.ref a) u) (EP X pins σ Q) X.xe s
  unfold richCompare
  simp only [oneThing_ref]
  refine wpAny_holding (wpAny_bind (wpAny_cRoomFor hr.units0 (wpAny_bind (J.type.here (wpAny_bind ((Z.ty _ _ KS pz).here ?_))))))
  have fin : ∀ (rest : Option Value → Sem Value), (∀ b, rest (some (.bool b)) = pure (.bool b)) → wpAny (model X.prog X.w) X.A (tryCompare (.ref a) (cmpInfo CmpOp.NotEq).2.1 u >>= rest) (EP X pins σ Q) X.xe s := fun rest hrest => by
    refine wpAny_bind (wpAny_mono one (fun r s' z => ?_) fun _ _ z => z)
    obtain ⟨b, rfl, ep⟩ := z
    rw [hrest]
    exact wpAny_pure ep
  unfold PySem.W.notFirst at nf
  split
  · rename_i ne
    have sub : PySem.W.subIn X.K t (.ref C) = some false := by
      cases e : (t == Value.ref C) with
      | true =>
        rw [eq_of_beq e] at ne
        simp at ne
      | false =>
        rw [e, Bool.false_or] at nf
        exact eq_of_beq nf
    refine wpAny_bind ((PySem.W.looks_subIn KS sub).here ?_)
    simp only [Bool.false_eq_true, if_false]
    exact fin _ fun b => rfl
  · refine wpAny_bind (wpAny_pure ?_)
    simp only [Bool.false_eq_true, if_false]
    exact fin _ fun b => rfl
end
end My
namespace My
open PySem PySem.Spec PyProof.Rows L2
section
variable {X : Cx} {CX : CXT} {k : Nat} {f : Addr} {fd : FuncData} {ps : List Str} {sp : Sp} {E : XK}
/-- str(x), x of an own class with an own __str__ -/
theorem call_strOwn {C : Addr} (F : FnG X.prog X.w X.K X.mg X.base CX k f fd ps sp) (hr : Room (k + 2) X.A) (hgu : X.A.guards = some []) (hs : PySem.W.findIn X.K (.ref C) "__str__" = some (some (.ref f))) (hf : PySem.W.isFn X.K (.ref f) = true) (hb : Binds X.K fd ps []) (hx : Passes CX X E) :
    CallR X (.type "str") (fun xs H Q => ∃ (a dx : Addr) (fs : List (Str × V)), xs = [.ref a] ∧ H a = some (.ins C dx fs) ∧ sp [.ref a] H (fun v H' => ∃ z : Str, v = .str z ∧ Q (.str z) H') E) := by
  intro pins s σ H xs us Q I r h
  obtain ⟨a, dx, fs, rfl, ha, q⟩ := h
  obtain ⟨u, rfl, ru⟩ := vals1 r
  cases ru
  obtain ⟨mA, J, _⟩ := ins_get I.hok ha
  obtain ⟨od, J, _⟩ := J.look
  refine PySem.W.kso_call (Room.units0 (hr.in1.in1)) I.kIn J hs hf (wpAny_mono (runAt (vs := [.ref a]) (us := [.ref a]) F hr.in1.in1 hgu rfl hb hx I (.cons rfl .nil) q) (fun r s' z => ?_) fun _ _ z => z)
  obtain ⟨w1, H1, I1, r1, y, rfl, q1⟩ := z
  obtain ⟨t, rfl⟩ := r1
  exact ⟨.str y, H1, I1, ⟨t, rfl⟩, q1⟩
end
/-- a value without parts, and what it is -/
inductive Fl : V → PyData → Prop
  | non : Fl .non .none
  | bl (b : Bool) : Fl (.bl b) (.bool b)
  | int (i : Int) : Fl (.int i) (.int i)
  | str (x : Str) : Fl (.str x) (.str x)
/-- values without parts, and what they are -/
abbrev Fls : List V → List PyData → Prop := Paired Fl
/-- what a value is: without parts, a list or tuple of such, the dict without entries -/
inductive Th (H : Hp) : V → PyData → Prop
  | flat {x : V} {d : PyData} (h : Fl x d) : Th H x d
  | lst {a : Addr} {xs : List V} {ds : List PyData} (h : H a = some (.lst xs)) (k : Fls xs ds) (n : xs.length ≤ 1000) : Th H (.ref a) (.list ds)
  | tup {a : Addr} {xs : List V} {ds : List PyData} (h : H a = some (.tup xs)) (k : Fls xs ds) (n : xs.length ≤ 1000) : Th H (.ref a) (.tuple ds)
  | dct {a : Addr} (h : H a = some (.dK [])) : Th H (.ref a) (.dict [])
theorem Th.keep {H H' : Hp} {x : V} {d : PyData} (h : Th H x d) (k : ∀ b o, H b = some o → H' b = some o) : Th H' x d := by
  cases h with
  | flat h => exact .flat h
  | lst h r n => exact .lst (k _ _ h) r n
  | tup h r n => exact .tup (k _ _ h) r n
  | dct h => exact .dct (k _ _ h)
theorem fl_dp {K : PySem.W.Frag} {H : Hp} {x : V} {d : PyData} (h : Fl x d) : Dp K H x d := by
  cases h with
  | non => exact .non
  | bl b => exact .bl b
  | int i => exact .int i
  | str x => exact .str x
theorem fls_dp {K : PySem.W.Frag} {H : Hp} : ∀ {xs : List V} {ds : List PyData}, Fls xs ds → DpAll K H xs ds
  | _, _, .nil => .nil
  | _, _, .cons h r => .cons (fl_dp h) (fls_dp r)
theorem fls_noDict : ∀ {xs : List V} {ds : List PyData}, Fls xs ds → PyData.hasDictAll ds = false
  | _, _, .nil => rfl
  | _, _, .cons h r => by
    unfold PyData.hasDictAll
    rw [fls_noDict r]
    cases h <;> rfl
/-- what can be shown in bounds -/
structure Fine (d : PyData) : Prop where
  show_ : d.showable = true
  deep : d.depth ≤ 8
  size : d.shown.length ≤ sizeLine
section
variable {X : Cx}
theorem call_reprT (hg : X.A.guards = some []) (hu : X.A.units + 64 < cLine) : CallR X (.builtin "repr") (fun xs H Q => ∃ x d, xs = [x] ∧ Th H x d ∧ Fine d ∧ Q (.str d.shown) H) := by
  intro pins s σ H xs us Q I r h
  obtain ⟨x, d, rfl, th, fine, q⟩ := h
  obtain ⟨u, rfl, ru⟩ := vals1 r
  have fin : ∀ t tk, EP X pins σ Q (.str d.shown t) { s with toks := tk } := fun t tk => ⟨.str d.shown, H, I.tok tk, ⟨t, rfl⟩, q⟩
  have obj : ∀ a (as : List Addr), Reads s.heap (.ref a) d as → (d.hasDict = true → sysModules ∉ as) → wpAny (model X.prog X.w) X.A (call (.builtin "repr") [.ref a]) (EP X pins σ Q) X.xe s := fun a as rd nd =>
    repr_of_reads' rd fine.show_ nd hg (by have := fine.deep; omega) (fun _ _ e => e) (fun h' u tk hk => ⟨.str d.shown, H, I.kept hk, ⟨u, rfl⟩, q⟩) fine.size
  cases th with
  | flat h =>
    cases h with
    | non =>
      cases ru
      exact PySem.P.repr_of_none (fin _ _)
    | bl b =>
      cases ru
      exact PySem.P.repr_of_bool (by
        have e : (PyData.bool b).shown = if b then ("True" : Str) else "False" := by unfold PyData.shown; rfl
        rw [e] at fin
        cases b <;> exact fin _ _)
    | int i =>
      obtain ⟨t, rfl⟩ := ru
      have sm : i.natAbs.log2 < 1920 := by
        have z := fine.show_
        unfold PyData.showable at z
        exact of_decide_eq_true z
      exact PySem.P.repr_of_int sm (by
        have e : (PyData.int i).shown = (toString i : Str) := by unfold PyData.shown; rfl
        rw [e] at fin
        exact fin _ _)
    | str z =>
      obtain ⟨t, rfl⟩ := ru
      have e : (PyData.str z).shown = reprText z := by unfold PyData.shown; rfl
      have sz := fine.size
      rw [e] at fin sz
      exact PySem.P.repr_of_str (fin _ _) sz
  | @lst a xs ds h k n =>
    cases ru
    obtain ⟨as, rd⟩ := Dp.reads I _ _ _ (Dp.lst (K := X.K) (SqL.of h) (fls_dp k)) rfl
    refine obj a as rd (fun z => ?_)
    unfold PyData.hasDict at z
    rw [fls_noDict k] at z
    cases z
  | @tup a xs ds h k n =>
    cases ru
    obtain ⟨as, rd⟩ := Dp.reads I _ _ _ (Dp.tup (K := X.K) (SqT.of h) (fls_dp k)) rfl
    refine obj a as rd (fun z => ?_)
    unfold PyData.hasDict at z
    rw [fls_noDict k] at z
    cases z
  | @dct a h =>
    cases ru
    obtain ⟨_, nsys, vs, kv, o, es, ep, ho, ex, hd, _, pr, _⟩ := dk_of I.hok h
    cases kv
    have es0 : es.toList = [] := by
      obtain ⟨l⟩ := es
      have pr' : PySem.Pairs _ l [] := pr
      cases l with
      | nil => rfl
      | cons _ _ => cases pr'
    refine obj a _ (Reads.dict (kvs := []) (as := []) (bs := []) ho ex.1 hd (by rw [es0]; exact .nil) (by rw [es0]; exact .nil)) (fun _ => ?_)
    simp only [List.append_nil, List.mem_singleton]
    intro z
    rw [z] at nsys
    simp at nsys
end
end My
namespace My
open PySem PySem.Spec PyProof.Rows L2
def topS (i : Nat) : Stmt := PySem.Challenge.pw_layerseen_k04_simple_deeds_made.main.body.getD i (.Pass ⟨0, 0, 0, 0⟩)
abbrev sWhole : Stmt := topS 3
abbrev sIndex : Stmt := topS 4
abbrev sCopied : Stmt := topS 5
abbrev sAsc : Stmt := topS 6
abbrev sFieldsOf : Stmt := topS 21
abbrev sNamesIn : Stmt := topS 22
abbrev sValuesIn : Stmt := topS 23
abbrev sWord : Stmt := topS 29
abbrev sName : Stmt := topS 30
abbrev sCheck : Stmt := topS 31
abbrev sChkVal : Stmt := topS 59
abbrev sBlockOf : Stmt := topS 60
abbrev sOtherOf : Stmt := topS 61
abbrev sPen : Stmt := topS 68
abbrev sDraw : Stmt := topS 69
abbrev sPick : Stmt := topS 70
abbrev sPlain : Stmt := topS 71
abbrev sMade : Stmt := topS 72
abbrev sNamed : Stmt := topS 73
abbrev sParts : Stmt := topS 74
abbrev sText : Stmt := topS 75
abbrev sFace : Stmt := topS 76
abbrev sLaw : Stmt := topS 77
structure Txt (mg : Str → Option Value) : Prop where
  int : mg "int" = none
  bool : mg "bool" = none
  len : mg "len" = none
  abs : mg "abs" = none
  list : mg "list" = none
  tuple : mg "tuple" = none
  dict : mg "dict" = none
  range : mg "range" = none
  isi : mg "isinstance" = none
  str : mg "str" = none
  all : mg "all" = none
  repr : mg "repr" = none
  ve : mg "ValueError" = none
  enum : mg "enumerate" = none
  sum : mg "sum" = none
  max : mg "max" = none
  any : mg "any" = none
  zip : mg "zip" = none
  set : mg "set" = none
  sorted : mg "sorted" = none
theorem pe_never {X : Cx} {e : Expr} : PE X e (fun _ _ _ => False) := ⟨fun _ _ _ _ _ _ h => h.elim⟩
def Same' (H H' : Hp) : Prop := ∀ q o, H q = some o → H' q = some o
theorem Same'.trans {H1 H2 H3 : Hp} (h : Same' H1 H2) (k : Same' H2 H3) : Same' H1 H3 := fun b o e => k b o (h b o e)
theorem same_new {H : Hp} {p : Addr} {o : HO} (h : H p = none) : Same' H (upd H p o) := fun b x e => by
  rw [upd_ne (ne_of_none e h)]
  exact e
theorem same_over {H H1 : Hp} {p : Addr} {o : HO} (h : H p = none) (k : Same' H H1) : Same' H (upd H1 p o) := fun b x e => by
  rw [upd_ne (ne_of_none e h)]
  exact k _ _ e
end My
namespace My
open PySem PySem.Spec PyProof.Rows L2
/-! ### words and names, as they are said here -/
def low (c : Nat) : Bool := decide (97 ≤ c) && decide (c ≤ 122)
def wd (z : Str) : Bool := decide (1 ≤ z.length) && decide (z.length ≤ 8) && z.cps.toList.all low
def abc : Str := "abcdefghijklmnopqrstuvwxyz"
theorem low_abc (c : Nat) : decide (c ∈ abc.cps.toList) = low c := by
  have e : abc.cps.toList = [97, 98, 99, 100, 101, 102, 103, 104, 105, 106, 107, 108, 109, 110, 111, 112, 113, 114, 115, 116, 117, 118, 119, 120, 121, 122] := by decide +kernel
  rw [e]
  unfold low
  rw [← Bool.decide_and]
  apply decide_eq_decide.mpr
  simp only [List.mem_cons, List.not_mem_nil, or_false]
  omega
theorem sign_at {z : Str} {i : Nat} {c : Nat} (h : z.cps[i]? = some c) : z.cps.toList[i]? = some c := by simpa using h
/-- what is no text: None, a number, a truth, a tuple, a list, a dict -/
def NoText (K : PySem.W.Frag) (H : Hp) (x : V) : Prop := ∃ T : String, TyX K H x (.type T) ∧ kitB T "str" = some false
def spWord (K : PySem.W.Frag) (ans : Str → Bool) : Sp := fun vs H Q _ => ∃ x : V, vs = [x] ∧
  ((∃ z : Str, x = .str z ∧ z.length ≤ 1000 ∧ ∀ H', Same' H H' → Q (.bl (ans z)) H') ∨ (NoText K H x ∧ Q (.bl false) H))
def kept : List Str := ["put", "copy", "if", "else", "say", "fail", "catch", "choose", "or", "none", "stop", "skip", "cell", "log", "failure", "choice"]
def nm (z : Str) : Bool := wd z && !inV (.str z) (kept.map V.str)
section
variable {P : Program} {w : World} {K : PySem.W.Frag} {mg : Str → Option Value} {base : Heap}
abbrev nWord : List Str := ["value", "sign"]
theorem scWord : FnScope nWord ["value"] (defScope sWord) := ⟨rfl, rfl, rfl, by decide +kernel, rfl, by decide +kernel, by decide +kernel⟩
theorem ok_word {f : Addr} {fd : FuncData} {tl tn : Tok} (F : Fun K "is_word" "is_word" sWord f fd) (T : Txt mg) (mL : mg "LETTERS" = some (.str abc tl)) (mN : mg "LONGEST" = some (.int 8 tn)) : FnOk P w K mg base CX0 1 f fd ["value"] (spWord K wd) := by
  refine F.ok scWord (fun vs H Q E h => ?_) (fun cdv A outer s H vs Q E hr h => ?_)
  · obtain ⟨x, rfl, _⟩ := h
    rfl
  · obtain ⟨x, rfl, h⟩ := h
    refine ⟨_, pss_one (ps_ret (pe_and (pe_callB call_isi (by rfl) T.isi (by decide +kernel) (pa_cons (pv 0) (pa_cons (pe_bltn (by rfl) T.str (by decide +kernel) (show RelV (.ty "str") _ from rfl)) pa_nil)))
      (pe_and (pe_chain op_le op_le pe_int (pe_callB call_len_str (by rfl) T.len PySem.boot_len (pa_cons (pv 0) pa_nil)) (pe_glob (v := .int 8) rfl mN ⟨_, rfl⟩))
      (pe_one (pe_callB (cr_all rfl) (by rfl) T.all (by decide +kernel) (pa_cons
        (pe_lc (own := [("sign", 1)]) (g := gName 1) (tt := tYes) rfl scWord.nd (pi_str (pv 0)) (blkOk_by (N := nWord) (sc := defScope sWord) (by decide +kernel)) (fun _ _ _ _ _ => pg_name (i := 1) scWord.nd rfl (Or.inl rfl)) (fun _ _ _ _ _ => pts_nil)
          (fun _ _ _ _ _ => pe_cmpR op_in_sign (pv 1) (pe_glob (v := .str abc) rfl mL ⟨_, rfl⟩) rfl)) pa_nil)))))), ?_⟩
    refine ⟨x, rfl, ?_⟩
    rcases h with ⟨z, rfl, zl, q⟩ | ⟨⟨T, ty, kt⟩, q⟩
    · refine ⟨.str z, .ty "str", .type "str", .type "str", true, rfl, .ty "str", .base (.str z), kit_ty (by decide +kernel), true, rfl, iteT ?_⟩
      have zs : z.length < sizeLine := small1000 zl
      refine ⟨.str z, rfl, z, rfl, Nat.le_of_lt zs, 1, _, rfl, rfl, _, rfl, ite2 (fun e => ?_) (fun e => ?_)⟩
      · refine ⟨_, 8, rfl, rfl, _, rfl, ite2 (fun e2 => ?_) (fun e2 => ?_)⟩
        · have l1 := of_decide_eq_true e
          have l2 := of_decide_eq_true e2
          refine ⟨.str z, rfl, z, rfl, fun D hD => ?_⟩
          refine lc_it walk_str (fun i H' => Same' H H' ∧ H' D = some (.lst ((z.cps.toList.take i).map fun c => V.bl (low c)))) ⟨same_new hD, upd_same⟩ (fun _ _ _ _ => trivial) (fun i x H1 H2 hi hp hy => ?_) (fun H' hp => ?_)
          · obtain ⟨sm, ed⟩ := hp
            obtain ⟨rfl, c, hc, rfl⟩ := hy
            have hc' := sign_at hc
            refine ⟨rfl, ?_⟩
            refine ⟨_, rfl, c, abc, rfl, rfl, _, ed, ?_, same_over hD sm, ?_⟩
            · rw [List.length_map, List.length_take]
              exact Nat.lt_of_le_of_lt (Nat.min_le_right _ _) (by rw [Array.length_toList]; exact zs)
            · rw [upd_same, List.take_add_one, hc', low_abc, List.map_append]
              rfl
          · obtain ⟨sm, ed⟩ := hp
            refine ⟨D, z.cps.toList.map low, rfl, SqL.of ?_, ?_⟩
            · rw [ed, List.take_of_length_le (by rw [Array.length_toList]; exact Nat.le_refl _), List.map_map]
              rfl
            · have ez : (z.cps.toList.map low).all id = wd z := by
                unfold wd
                rw [decide_eq_true (show 1 ≤ z.length by omega), decide_eq_true (show z.length ≤ 8 by omega), List.all_map]
                rfl
              rw [ez]
              exact q _ sm
        · have ez : wd z = false := by
            have := of_decide_eq_false (Bool.eq_false_iff.mpr e2)
            unfold wd
            rw [decide_eq_false (show ¬ z.length ≤ 8 by omega), Bool.and_false, Bool.false_and]
          exact ez ▸ q H fun _ _ e => e
      · refine ⟨false, rfl, iteF ?_⟩
        have ez : wd z = false := by
          have := of_decide_eq_false (Bool.eq_false_iff.mpr e)
          unfold wd
          rw [decide_eq_false (show ¬ 1 ≤ z.length by omega), Bool.false_and, Bool.false_and]
        exact ez ▸ q H fun _ _ e => e
    · refine ⟨x, .ty "str", .type T, .type "str", false, rfl, .ty "str", ty, kit_ty kt, false, rfl, iteF q⟩
abbrev nName : List Str := ["value"]
theorem scName : FnScope nName ["value"] (defScope sName) := ⟨rfl, rfl, rfl, by decide +kernel, rfl, by decide +kernel, by decide +kernel⟩
theorem ok_name {f fW aK : Addr} {fd fdW : FuncData} (F : Fun K "is_name" "is_name" sName f fd) (FW : Fun K "is_word" "is_word" sWord fW fdW) (bW : Binds K fdW ["value"] []) (gW : mg "is_word" = some (.ref fW)) (G : FnOk P w K mg base CX0 1 fW fdW ["value"] (spWord K wd))
    (mK : mg "KEPT_WORDS" = some (.ref aK)) (hK : ∀ H, SqT K H aK (kept.map V.str)) : FnOk P w K mg base CX0 2 f fd ["value"] (spWord K nm) := by
  refine F.ok scName (fun vs H Q E h => ?_) (fun cdv A outer s H vs Q E hr h => ?_)
  · obtain ⟨x, rfl, _⟩ := h
    rfl
  · obtain ⟨x, rfl, h⟩ := h
    refine ⟨_, pss_one (ps_ret (pe_and (pe_call G hr (by rfl) gW FW.kp bW .nil pass0 (pa_cons (pv 0) pa_nil))
      (pe_one (pe_cmpR op_notIn_seq (pv 0) (pe_glob (v := .ref aK) rfl mK rfl) (by rfl))))), ?_⟩
    refine ⟨x, rfl, x, rfl, ?_⟩
    rcases h with ⟨z, rfl, zl, q⟩ | ⟨nt, q⟩
    · refine .inl ⟨z, rfl, zl, fun H' sm => ?_⟩
      cases hz : wd z with
      | true =>
        refine ⟨true, rfl, iteT ⟨.str z, rfl, aK, _, rfl, .inr (hK _), rfl, by decide +kernel, ?_⟩⟩
        have e : nm z = !inV (.str z) (kept.map V.str) := by
          unfold nm
          rw [hz, Bool.true_and]
        exact e ▸ q H' sm
      | false =>
        refine ⟨false, rfl, iteF ?_⟩
        have e : nm z = false := by
          unfold nm
          rw [hz, Bool.false_and]
        exact e ▸ q H' sm
    · exact .inr ⟨nt, false, rfl, iteF q⟩

end
end My
namespace My
open PySem PySem.Spec PyProof.Rows L2
/-! ### the pen: a list of a list of ints, of how many were taken, of what is left of a great one -/
structure PenAt (H : Hp) (p c : Addr) (ns : List Int) (B : Int) : Prop where
  pen : ∃ b g : Int, H p = some (.lst [.ref c, .int b, .int g]) ∧ 0 ≤ b ∧ b ≤ B ∧ 0 ≤ g
  cells : H c = some (.lst (ns.map V.int))
  few : ns.length ≤ 63
def Off (p : Addr) (H H' : Hp) : Prop := ∀ q o, q ≠ p → H q = some o → H' q = some o
theorem Off.trans {p : Addr} {H1 H2 H3 : Hp} (h : Off p H1 H2) (k : Off p H2 H3) : Off p H1 H3 := fun q o n e => k q o n (h q o n e)
theorem Off.rfl' {p : Addr} {H : Hp} : Off p H H := fun _ _ _ e => e
theorem Off.new {p a : Addr} {H : Hp} {o : HO} (h : H a = none) : Off p H (upd H a o) := fun q _ _ e => by
  rw [upd_ne (ne_of_none e h)]
  exact e
theorem PenAt.ne {H : Hp} {p c : Addr} {ns : List Int} {B : Int} (P : PenAt H p c ns B) : c ≠ p := by
  obtain ⟨b, g, e, _⟩ := P.pen
  intro z
  have y := P.cells
  rw [z, e] at y
  injection y with y
  injection y with y
  cases ns with
  | nil => cases y
  | cons x r => injection y with y1 y2; cases y1
theorem PenAt.more {H : Hp} {p c : Addr} {ns : List Int} {B C : Int} (P : PenAt H p c ns B) (h : B ≤ C) : PenAt H p c ns C := by
  obtain ⟨b, g, e, h1, h2, h3⟩ := P.pen
  exact ⟨⟨b, g, e, h1, by omega, h3⟩, P.cells, P.few⟩
theorem PenAt.keep {H H' : Hp} {p c : Addr} {ns : List Int} {B : Int} (P : PenAt H p c ns B) (h : ∀ q o, H q = some o → H' q = some o) : PenAt H' p c ns B := by
  obtain ⟨b, g, e, h1, h2, h3⟩ := P.pen
  exact ⟨⟨b, g, h _ _ e, h1, h2, h3⟩, h _ _ P.cells, P.few⟩

/-! ### numbers -/
theorem fm {x m : Int} (h : 0 < m) : 0 ≤ x.fmod m ∧ x.fmod m < m := by
  rw [Int.fmod_eq_emod_of_nonneg _ (by omega)]
  exact ⟨Int.emod_nonneg _ (by omega), Int.emod_lt_of_pos _ h⟩
theorem fd0 {x m : Int} (h : 0 < m) (hx : 0 ≤ x) : 0 ≤ x.fdiv m := by
  rw [Int.fdiv_eq_ediv_of_nonneg _ (by omega)]
  exact Int.ediv_nonneg hx (by omega)
theorem mulB {x y a b : Int} (h0 : 0 ≤ x) (h1 : x ≤ a) (k0 : 0 ≤ y) (k1 : y ≤ b) : 0 ≤ x * y ∧ x * y ≤ a * b :=
  ⟨Int.mul_nonneg h0 k0, Int.mul_le_mul h1 k1 k0 (by omega)⟩
theorem nz1 : (2147483549 : Int) ≠ 0 := by decide
theorem nz2 : (2147483629 : Int) ≠ 0 := by decide
theorem nz3 : (2147483587 : Int) ≠ 0 := by decide
theorem natAbs_lt {x : Int} (h0 : 0 ≤ x) (h1 : x < 18446744073709551616) : x.natAbs < 2 ^ 64 := by
  show x.natAbs < 18446744073709551616
  omega
theorem dpInts {K : PySem.W.Frag} {H : Hp} : ∀ ns : List Int, DpAll K H (ns.map V.int) (ns.map PyData.int)
  | [] => .nil
  | _ :: r => .cons (.int _) (dpInts r)
theorem shaped_ints : ∀ ns : List Int, SeqAt.shaped (.list (ns.map PyData.int)) = true
  | [] => rfl
  | _ :: r => shaped_ints r

theorem at_in {xs : List V} {j : Int} (h0 : 0 ≤ j) (h1 : j < (xs.length : Nat)) : ∃ v, v ∈ xs ∧ atI xs j = some v := by
  obtain ⟨k, rfl⟩ : ∃ k : Nat, j = (k : Int) := ⟨j.toNat, by omega⟩
  have hk : k < xs.length := by omega
  exact ⟨xs[k], List.getElem_mem hk, atI_nat (List.getElem?_eq_getElem hk)⟩
/-! ### the draw -/
def spDraw : Sp := fun vs H Q _ => ∃ (p c : Addr) (ns : List Int) (B m : Int), vs = [.ref p, .int m] ∧ PenAt H p c ns B ∧ B ≤ 1000 ∧ 1 ≤ m ∧ m ≤ 1000 ∧
  ∀ (d : Int) (H' : Hp), 0 ≤ d → d < m → PenAt H' p c ns (B + 1) → Off p H H' → Q (.int d) H'
section
variable {P : Program} {w : World} {K : PySem.W.Frag} {mg : Str → Option Value} {base : Heap}
abbrev nDraw : List Str := ["_law_pen_here", "_law_many", "_law_digit", "_law_begun", "_law_raw", "_law_great", "_law_stirred"]
theorem scDraw : FnScope nDraw ["_law_pen_here", "_law_many"] (defScope sDraw) := ⟨rfl, rfl, rfl, by decide +kernel, rfl, by decide +kernel, by decide +kernel⟩
theorem tail2 {f : Addr} {cdv : Value} {A : Around} {outer : List Env} {s : Shared} {H0 : Hp} {E : XK} (T : Txt mg) :
    ∃ t, PSs (cxOf CX0 P w K mg base nDraw "_law_draw" (defScope sDraw) f cdv A outer s H0 E).nox ((defBody sDraw).drop 6) t ∧
      ∀ (Q : VK) (nx : L2.St → Hp → Prop) (p : Addr) (m b raw : Int) (y2 y5 y6 : Option V) (H : Hp), 0 ≤ b → b ≤ 1000 → 1 ≤ m → (∀ d : Int, 0 ≤ d → d < m → Q (.int d) H) →
        t { nx := nx, rt := Q } [some (.ref p), some (.int m), y2, some (.int b), some (.int raw), y5, y6] H := by
  refine ⟨_, pss_cons (ps_set (i := 6) scDraw.nd rfl (.inl rfl) (pe_op op_modN (pe_callTy call_int1 (by rfl) T.int (by decide +kernel) (pa_cons (pe_op op_pow
          (pe_op op_add (pe_op op_add (pe_op op_modN (pe_callTy call_int1 (by rfl) T.int (by decide +kernel) (pa_cons (pv 4) pa_nil)) pe_int) (pe_op op_mul pe_int (pv 3))) pe_int) pe_int) pa_nil)) pe_int))
      (pss_cons (ps_set (i := 6) scDraw.nd rfl (.inl rfl) (pe_op op_modN (pe_callTy call_int1 (by rfl) T.int (by decide +kernel) (pa_cons (pe_op op_pow
          (pe_op op_add (pe_op op_add (pe_op op_mul (pv 6) (pe_op op_add (pe_op op_mul pe_int (pv 3)) pe_int)) (pe_op op_mul (pe_op op_mul pe_int (pv 3)) (pv 3))) pe_int) pe_int) pa_nil)) pe_int))
      (pss_one (ps_ret (pe_op op_modN (pe_callTy call_int1 (by rfl) T.int (by decide +kernel) (pa_cons (pe_op op_fdivN (pv 6) pe_int) pa_nil)) (pv 1))))), ?_⟩
  intro Q nx p m b raw y2 y5 y6 H b0 bB hm q
  have f1 := fm (x := raw) (m := 2147483549) (by decide)
  refine ⟨.int raw, rfl, .inl ⟨raw, rfl, raw, _, rfl, rfl, nz1, .int b, rfl, _, b, rfl, rfl, .inl ⟨by decide, by decide⟩, _, _, rfl, rfl, _, _, rfl, rfl, _, 5, rfl, rfl, ⟨by decide, by decide, natAbs_lt (by omega) (by omega)⟩, .inl ⟨_, rfl, _, _, rfl, rfl, nz2, ?_⟩⟩⟩
  obtain ⟨z, hz⟩ : ∃ z : Int, ((raw.fmod 2147483549 + 58013 * b + 4201) ^ (5 : Int).toNat).fmod 2147483629 = z := ⟨_, rfl⟩
  have f2 := fm (x := ((raw.fmod 2147483549 + 58013 * b + 4201) ^ (5 : Int).toNat)) (m := 2147483629) (by decide)
  rw [hz] at f2
  have f3 := mulB (x := z) (y := 2 * b + 613) (a := 2147483629) (b := 2000 + 613) f2.1 (by omega) (by omega) (by omega)
  have f4 := mulB (x := 80021 * b) (y := b) (a := 80021 * 1000) (b := 1000) (by omega) (by omega) b0 bB
  refine ⟨.int z, by rw [← hz]; rfl, .int b, rfl, 2, b, rfl, rfl, .inl ⟨by decide, by decide⟩, _, _, rfl, rfl, z, _, rfl, rfl, .inl ⟨by omega, by omega⟩, .int b, rfl, _, b, rfl, rfl, .inl ⟨by decide, by decide⟩, .int b, rfl, _, b, rfl, rfl, .inl ⟨by omega, by omega⟩, _, _, rfl, rfl, _, _, rfl, rfl, _, 3, rfl, rfl, ⟨by decide, by decide, natAbs_lt (by omega) (by omega)⟩, .inl ⟨_, rfl, _, _, rfl, rfl, nz3, ?_⟩⟩
  obtain ⟨v, hv⟩ : ∃ v : Int, ((z * (2 * b + 613) + 80021 * b * b + 91009) ^ (3 : Int).toNat).fmod 2147483587 = v := ⟨_, rfl⟩
  refine ⟨.int v, by rw [← hv]; rfl, v, 32, rfl, rfl, ⟨by decide, by decide⟩, .inl ⟨_, rfl, .int m, rfl, _, m, rfl, rfl, by omega, ?_⟩⟩
  exact q _ (fm (by omega)).1 (fm (by omega)).2
theorem tail1 {f : Addr} {cdv : Value} {A : Around} {outer : List Env} {s : Shared} {H0 : Hp} {E : XK} (T : Txt mg) :
    ∃ t, PSs (cxOf CX0 P w K mg base nDraw "_law_draw" (defScope sDraw) f cdv A outer s H0 E).nox ((defBody sDraw).drop 5) t ∧
      ∀ (Q : VK) (nx : L2.St → Hp → Prop) (p c : Addr) (ns : List Int) (m b b1 g raw : Int) (y2 y5 y6 : Option V) (H : Hp), H p = some (.lst [.ref c, .int b1, .int g]) → H c = some (.lst (ns.map V.int)) → 0 ≤ b → b ≤ 1000 → 0 ≤ g → 1 ≤ m → m ≤ 1000 →
        (∀ (d : Int) (H' : Hp), 0 ≤ d → d < m → (∃ g' : Int, 0 ≤ g' ∧ H' p = some (.lst [.ref c, .int b1, .int g'])) → Off p H H' → Q (.int d) H') →
        t { nx := nx, rt := Q } [some (.ref p), some (.int m), y2, some (.int b), some (.int raw), y5, y6] H := by
  obtain ⟨t2, h2, q2⟩ := tail2 (P := P) (w := w) (K := K) (base := base) (f := f) (cdv := cdv) (A := A) (outer := outer) (s := s) (H0 := H0) (E := E) T
  refine ⟨_, pss_cons (ps_if (PW.pt (pw_and (pt_cmpR op_lt (pv 3) (pe_callB call_len_seq (by rfl) T.len PySem.boot_len (pa_cons (pe_ix ix_list (pv 0) pe_int (fun _ _ => rfl)) pa_nil)) (nomark _))
            (pw_and1 (pt_cmpR op_ge (pe_callB call_abs (by rfl) T.abs (by decide +kernel) (pa_cons (pv 4) pa_nil)) (pe_op op_pow pe_int pe_int) (nomark _)))))
        (pss_cons (ps_set (i := 5) scDraw.nd rfl (.inl rfl) (pe_op op_add (pe_op op_mul pe_int (pe_op op_sub (pe_callB call_abs (by rfl) T.abs (by decide +kernel) (pa_cons (pv 4) pa_nil)) (pe_op op_pow pe_int pe_int)))
            (pe_callTy call_int1 (by rfl) T.int (by decide +kernel) (pa_cons (pe_cmpR op_lt (pv 4) pe_int (nomark _)) pa_nil))))
        (pss_cons (ps_asg (pe_op op_fdivN (pe_callTy call_int1 (by rfl) T.int (by decide +kernel) (pa_cons (pv 5) pa_nil)) (pv 1)) (pg_sub (pv 0) pe_int set_list))
        (pss_one (ps_ret (pe_op op_modN (pe_callTy call_int1 (by rfl) T.int (by decide +kernel) (pa_cons (pv 5) pa_nil)) (pv 1)))))) pss_nil) h2, ?_⟩
  intro Q nx p c ns m b b1 g raw y2 y5 y6 H hp hc b0 bB g0 hm hm2 q
  have last : t2 { nx := nx, rt := Q } [some (.ref p), some (.int m), y2, some (.int b), some (.int raw), y5, y6] H :=
    q2 Q nx p m b raw y2 y5 y6 H b0 bB hm fun d d0 d1 => q d H d0 d1 ⟨g, g0, hp⟩ Off.rfl'
  refine ⟨.int b, rfl, .ref p, rfl, p, _, 0, .ref c, rfl, rfl, SqL.of hp, rfl, c, _, rfl, .inl (SqL.of hc), _, _, rfl, rfl, _, rfl, ite2 (fun e => ?_) (fun e => iteF last)⟩
  refine ⟨.int raw, rfl, raw, rfl, 10, 18, rfl, rfl, ⟨by decide, by decide, by decide⟩, _, _, rfl, rfl, _, rfl, ite2 (fun e2 => ?_) (fun e2 => last)⟩
  have big := of_decide_eq_true e2
  obtain ⟨r, hr⟩ : ∃ r : Int, (if raw < 0 then -raw else raw) = r := ⟨_, rfl⟩
  obtain ⟨u, hu⟩ : ∃ u : Int, 2 * ((if raw < 0 then -raw else raw) - (10 : Int) ^ (18 : Int).toNat) + (if decide (raw < 0) = true then 1 else 0) = u := ⟨_, rfl⟩
  have u0 : 0 ≤ u := by
    rw [← hu]
    have k : (0 : Int) ≤ if decide (raw < 0) = true then 1 else 0 := by split <;> decide
    omega
  refine ⟨.int raw, rfl, raw, rfl, 10, 18, rfl, rfl, ⟨by decide, by decide, by decide⟩, _, _, rfl, rfl, 2, _, rfl, rfl, .inl ⟨by decide, by decide⟩, .int raw, rfl, raw, 0, rfl, rfl, .inr ⟨_, rfl, _, _, rfl, rfl, ?_⟩⟩
  refine ⟨.int u, by rw [← hu]; rfl, .inl ⟨u, rfl, .int m, rfl, u, m, rfl, rfl, ⟨by omega, by omega⟩, ?_⟩⟩
  refine ⟨.ref p, rfl, p, _, 2, 2, rfl, rfl, hp, rfl, ?_⟩
  refine ⟨.int u, by rw [← hu]; rfl, .inl ⟨u, rfl, .int m, rfl, u, m, rfl, rfl, by omega, ?_⟩⟩
  exact q _ _ (fm (by omega)).1 (fm (by omega)).2 ⟨u.fdiv m, fd0 (by omega) u0, upd_same⟩ fun a o n e => by rw [upd_ne n]; exact e
theorem ok_draw {f : Addr} {fd : FuncData} (F : Fun K "_law_draw" "_law_draw" sDraw f fd) (T : Txt mg) : FnOk P w K mg base CX0 1 f fd ["_law_pen_here", "_law_many"] spDraw := by
  refine F.ok scDraw (fun vs H Q E h => ?_) (fun cdv A outer s H vs Q E hr h => ?_)
  · obtain ⟨p, c, ns, B, m, rfl, _⟩ := h
    rfl
  · obtain ⟨p, c, ns, B, m, rfl, PA0, hB, hm, hm2, q⟩ := h
    obtain ⟨b, g, hp, b0, bB, g0⟩ := PA0.pen
    have hc := PA0.cells
    have few := PA0.few
    have ncp := PA0.ne
    obtain ⟨t1, h1, q1⟩ := tail1 (P := P) (w := w) (K := K) (base := base) (f := f) (cdv := cdv) (A := A) (outer := outer) (s := s) (H0 := H) (E := E) T
    refine ⟨_, pss_cons (ps_if (pt_cmpR op_gt (pe_ix ix_list (pv 0) pe_int (fun _ _ => rfl)) pe_int (nomark _))
        (pss_cons (ps_set (i := 2) scDraw.nd rfl (.inl rfl) (pe_op op_modN (pe_callTy call_int1 (by rfl) T.int (by decide +kernel) (pa_cons (pe_ix ix_list (pv 0) pe_int (fun _ _ => rfl)) pa_nil)) (pv 1)))
        (pss_cons (ps_asg (pe_op op_fdivN (pe_callTy call_int1 (by rfl) T.int (by decide +kernel) (pa_cons (pe_ix ix_list (pv 0) pe_int (fun _ _ => rfl)) pa_nil)) (pv 1)) (pg_sub (pv 0) pe_int set_list))
        (pss_one (ps_ret (pv 2))))) pss_nil)
      (pss_cons (ps_set (i := 3) scDraw.nd rfl (.inl rfl) (pe_ix ix_list (pv 0) pe_int (fun _ _ => rfl)))
      (pss_cons (ps_asg (pe_op op_add (pv 3) pe_int) (pg_sub (pv 0) pe_int set_list))
      (pss_cons (ps_set (i := 4) scDraw.nd rfl (.inl rfl) (pe_op op_add (pe_op op_mul pe_int (pv 3)) pe_int))
      (pss_cons (ps_if (pt_cmpR (op_neD hr.units) (pe_ix ix_list (pv 0) pe_int (fun _ _ => rfl)) (pe_lst pa_nil) (nomark _))
        (pss_one (ps_set (i := 4) scDraw.nd rfl (.inl rfl) (pe_ix ix_list (pe_ix ix_list (pv 0) pe_int (fun _ _ => rfl))
          (pe_op op_modN (pe_callTy call_int1 (by rfl) T.int (by decide +kernel) (pa_cons (pv 3) pa_nil)) (pe_callB call_len_seq (by rfl) T.len PySem.boot_len (pa_cons (pe_ix ix_list (pv 0) pe_int (fun _ _ => rfl)) pa_nil))) (fun _ _ => rfl)))) pss_nil) h1)))), ?_⟩
    -- if pen[2] > 0
    refine ⟨.ref p, rfl, p, _, 2, .int g, rfl, rfl, SqL.of hp, rfl, g, 0, rfl, rfl, _, rfl, ite2 (fun e => ?_) (fun e => ?_)⟩
    · refine ⟨.ref p, rfl, p, _, 2, .int g, rfl, rfl, SqL.of hp, rfl, .inl ⟨_, rfl, .int m, rfl, g, m, rfl, rfl, by omega, ?_⟩⟩
      refine ⟨.ref p, rfl, p, _, 2, .int g, rfl, rfl, SqL.of hp, rfl, .inl ⟨_, rfl, .int m, rfl, g, m, rfl, rfl, ⟨by omega, by omega⟩, ?_⟩⟩
      refine ⟨.ref p, rfl, p, _, 2, 2, rfl, rfl, hp, rfl, ?_⟩
      refine ⟨_, rfl, q (g.fmod m) _ (fm (by omega)).1 (fm (by omega)).2 ⟨⟨b, g.fdiv m, upd_same, b0, by omega, fd0 (by omega) g0⟩, by rw [upd_ne ncp]; exact hc, few⟩ fun a o n e => by rw [upd_ne n]; exact e⟩
    · -- begun = pen[1]; pen[1] = begun + 1; raw = ..
      refine ⟨.ref p, rfl, p, _, 1, .int b, rfl, rfl, SqL.of hp, rfl, ?_⟩
      refine ⟨_, rfl, b, 1, rfl, rfl, .ref p, rfl, p, _, 1, 1, rfl, rfl, hp, rfl, ?_⟩
      refine ⟨_, rfl, 91009, b, rfl, rfl, .inl ⟨by decide, by decide⟩, _, _, rfl, rfl, ?_⟩
      obtain ⟨H1, eH⟩ : ∃ H1 : Hp, upd H p (.lst [.ref c, .int (b + 1), .int g]) = H1 := ⟨_, rfl⟩
      have hp1 : H1 p = some (.lst [.ref c, .int (b + 1), .int g]) := by rw [← eH, upd_same]
      have hc1 : H1 c = some (.lst (ns.map V.int)) := by rw [← eH, upd_ne ncp]; exact hc
      have off1 : Off p H H1 := fun a o n e => by rw [← eH, upd_ne n]; exact e
      have eH' : upd H p (.lst (([.ref c, .int b, .int g] : List V).set 1 (.int (b + 1)))) = H1 := eH
      rw [eH']
      clear eH eH'
      -- if pen[0] != []
      refine ⟨.ref p, rfl, p, _, 0, .ref c, rfl, rfl, SqL.of hp1, rfl, Nat.zero_le _, fun l hl => ?_⟩
      have npl : p ≠ l := ne_of_none hp1 hl
      have ncl : c ≠ l := ne_of_none hc1 hl
      have hp2 : (upd H1 l (.lst [])) p = some (.lst [.ref c, .int (b + 1), .int g]) := by rw [upd_ne npl]; exact hp1
      have hc2 : (upd H1 l (.lst [])) c = some (.lst (ns.map V.int)) := by rw [upd_ne ncl]; exact hc1
      have off2 : Off p H (upd H1 l (.lst [])) := off1.trans (Off.new hl)
      refine ⟨.list (ns.map PyData.int), .list [], .lst (SqL.of hc2) (dpInts ns), .lst (SqL.of upd_same) .nil, shaped_ints ns, rfl, _, rfl, ?_⟩
      have last : ∀ (raw : Int) (y2 y5 y6 : Option V) (nx : L2.St → Hp → Prop), t1 { nx := nx, rt := Q } [some (.ref p), some (.int m), y2, some (.int b), some (.int raw), y5, y6] (upd H1 l (.lst [])) := by
        intro raw y2 y5 y6 nx
        refine q1 Q nx p c ns m b (b + 1) g raw y2 y5 y6 _ hp2 hc2 b0 (by omega) g0 hm hm2 fun d H' d0 d1 z off => ?_
        obtain ⟨g', z0, e1⟩ := z
        exact q d H' d0 d1 ⟨⟨b + 1, g', e1, by omega, by omega, z0⟩, off c _ ncp hc2, few⟩ (off2.trans off)
      cases ns with
      | nil => exact iteF (last _ _ _ _ _)
      | cons x r =>
        have lz : ((x :: r).map V.int).length = r.length + 1 := by rw [List.length_map]; rfl
        have lp : (0 : Int) < (((x :: r).map V.int).length : Nat) := by rw [lz]; omega
        obtain ⟨j, ej⟩ : ∃ j : Int, b.fmod (((x :: r).map V.int).length : Nat) = j := ⟨_, rfl⟩
        have j0 := (fm (x := b) lp).1
        have j1 := (fm (x := b) lp).2
        rw [ej] at j0 j1
        obtain ⟨v, hv, at1⟩ := at_in j0 j1
        obtain ⟨y, _, rfl⟩ := List.mem_map.mp hv
        refine iteT ⟨.ref p, rfl, p, _, 0, .ref c, rfl, rfl, SqL.of hp2, rfl, .int b, rfl, .inl ⟨b, rfl, .ref p, rfl, p, _, 0, .ref c, rfl, rfl, SqL.of hp2, rfl, c, _, rfl, .inl (SqL.of hc2), b, _, rfl, rfl, by omega, c, _, _, _, rfl, rfl, SqL.of hc2, (by rw [ej]; exact at1), ?_⟩⟩
        exact last _ _ _ _ _
end
/-! ### the pen is made -/
theorem cut63 {α : Type} (xs : List V) (h : xs.length ≤ 63) : cutV xs none (some 63) = xs := by
  unfold cutV
  rw [show HT.sIx xs.length 0 none = 0 from rfl, show HT.sIx xs.length xs.length (some 63) = min 63 xs.length from HT.sIx_nat xs.length xs.length 63, List.drop_zero, Nat.min_eq_right h, Nat.sub_zero]
  exact List.take_length
def spPen (K : PySem.W.Frag) : Sp := fun vs H Q _ => ∃ (a : Addr) (ns : List Int), vs = [.ref a] ∧ SqL K H a (ns.map V.int) ∧ ns.length ≤ 63 ∧ ∀ (p c : Addr) (H' : Hp), Same' H H' → PenAt H' p c ns 0 → Q (.ref p) H'
def Src (H : Hp) (p : Addr) (s : V) (src : List V) : Prop := (∃ l, s = .ref l ∧ l ≠ p ∧ H l = some (.lst src)) ∨ (∃ z : Str, s = .str z ∧ src = z.cps.toList.map (fun c => V.str ⟨#[c]⟩))
def spPick : Sp := fun vs H Q _ => ∃ (p c : Addr) (ns : List Int) (B : Int) (s : V) (src : List V), vs = [.ref p, s] ∧ PenAt H p c ns B ∧ B ≤ 1000 ∧ Src H p s src ∧ 1 ≤ src.length ∧ src.length ≤ 1000 ∧
  ∀ (v : V) (H' : Hp), v ∈ src → PenAt H' p c ns (B + 1) → Off p H H' → Q v H'
section
variable {P : Program} {w : World} {K : PySem.W.Frag} {mg : Str → Option Value} {base : Heap}
theorem scPen : FnScope ["_law_script"] ["_law_script"] (defScope sPen) := ⟨rfl, rfl, rfl, by decide +kernel, rfl, by decide +kernel, by decide +kernel⟩
theorem ok_pen {f : Addr} {fd : FuncData} (F : Fun K "_law_pen" "_law_pen" sPen f fd) (T : Txt mg) : FnOk P w K mg base CX0 1 f fd ["_law_script"] (spPen K) := by
  refine F.ok scPen (fun vs H Q E h => ?_) (fun cdv A outer s H vs Q E hr h => ?_)
  · obtain ⟨a, ns, rfl, _⟩ := h
    rfl
  · obtain ⟨a, ns, rfl, hS, few, q⟩ := h
    refine ⟨_, pss_one (ps_ret (pe_lst (pa_cons (pe_callTy call_list_of (by rfl) T.list (by decide +kernel) (pa_cons (pe_slice sl_list (pv 0) po_none (po_some pe_int)) pa_nil)) (pa_cons pe_int (pa_cons pe_int pa_nil))))), ?_⟩
    refine ⟨.ref a, rfl, 63, rfl, a, _, rfl, hS, fun u hu => ?_⟩
    rw [cut63 (α := Unit) _ (by rw [List.length_map]; exact few)]
    refine ⟨u, _, rfl, .inl (SqL.of upd_same), fun c hc => ⟨by show 3 ≤ sizeLine; decide, fun p hp => ?_⟩⟩
    have ncp : c ≠ p := fun z => by
      rw [← z, upd_same] at hp
      cases hp
    refine q p c _ (fun b o e => ?_) ⟨⟨0, 0, upd_same, Int.le_refl _, Int.le_refl _, Int.le_refl _⟩, by rw [upd_ne ncp, upd_same], few⟩
    have e1 : (upd H u (.lst (ns.map V.int))) b = some o := by
      rw [upd_ne (ne_of_none e hu)]
      exact e
    have e2 : (upd (upd H u (.lst (ns.map V.int))) c (.lst (ns.map V.int))) b = some o := by
      rw [upd_ne (ne_of_none e1 hc)]
      exact e1
    rw [upd_ne (ne_of_none e2 hp)]
    exact e2
theorem scPick : FnScope ["_law_pen_here", "_law_some"] ["_law_pen_here", "_law_some"] (defScope sPick) := ⟨rfl, rfl, rfl, by decide +kernel, rfl, by decide +kernel, by decide +kernel⟩
theorem ok_pick {f fD : Addr} {fd fdD : FuncData} (F : Fun K "_law_pick" "_law_pick" sPick f fd) (T : Txt mg) (FD : Fun K "_law_draw" "_law_draw" sDraw fD fdD) (bD : Binds K fdD ["_law_pen_here", "_law_many"] []) (gD : mg "_law_draw" = some (.ref fD))
    (G : FnOk P w K mg base CX0 1 fD fdD ["_law_pen_here", "_law_many"] spDraw) : FnOk P w K mg base CX0 2 f fd ["_law_pen_here", "_law_some"] spPick := by
  refine F.ok scPick (fun vs H Q E h => ?_) (fun cdv A outer s H vs Q E hr h => ?_)
  · obtain ⟨p, c, ns, B, s, src, rfl, _⟩ := h
    rfl
  · obtain ⟨p, c, ns, B, x, src, rfl, PA0, hB, hs, n1, n2, q⟩ := h
    refine ⟨_, pss_one (ps_ret (pe_ix ix_seq (pv 1) (pe_call G hr (by rfl) gD FD.kp bD .nil pass0 (pa_cons (pv 0) (pa_cons (pe_callB (CallR.or call_len_seq call_len_str) (by rfl) T.len PySem.boot_len (pa_cons (pv 1) pa_nil)) pa_nil))) (fun _ _ => rfl))), ?_⟩
    refine ⟨x, rfl, .ref p, rfl, x, rfl, ?_⟩
    have fin : ∀ (d : Int), 0 ≤ d → d < (src.length : Nat) → ∃ v, v ∈ src ∧ atI src d = some v := fun d h0 h1 => at_in h0 h1
    rcases hs with ⟨l, rfl, nlp, hl⟩ | ⟨z, rfl, rfl⟩
    · refine .inl ⟨l, src, rfl, .inl (SqL.of hl), ?_⟩
      refine ⟨p, c, ns, B, _, rfl, PA0, hB, by omega, by omega, fun d H' d0 d1 PA1 off => ?_⟩
      obtain ⟨v, hv, at1⟩ := fin d d0 d1
      exact .inl ⟨l, src, d, v, rfl, rfl, SqL.of (off l _ nlp hl), at1, q v H' hv PA1 off⟩
    · rw [List.length_map] at n1 n2
      have ez : z.cps.toList.length = z.length := Array.length_toList
      have zs : z.length < sizeLine := small1000 (by omega)
      refine .inr ⟨z, rfl, Nat.le_of_lt zs, ?_⟩
      refine ⟨p, c, ns, B, _, rfl, PA0, hB, by omega, by omega, fun d H' d0 d1 PA1 off => ?_⟩
      have d1' : d < (z.cps.toList.length : Nat) := by rw [ez]; exact d1
      obtain ⟨k, rfl⟩ : ∃ k : Nat, d = (k : Int) := ⟨d.toNat, by omega⟩
      have hk : k < z.cps.toList.length := by omega
      refine .inr (.inr ⟨z, _, z.cps.toList[k], rfl, rfl, Nat.le_of_lt zs, atI_nat (List.getElem?_eq_getElem hk), ?_⟩)
      exact q _ H' (List.mem_map.mpr ⟨_, List.getElem_mem hk, rfl⟩) PA1 off
end
end My
/-! sorted(set(l)) of a list of texts -/
namespace My
open PySem PySem.Spec PyProof.Rows L2
open PySem.Froz (SD sObj TxOk addTx tailTx add_x add_ok is_str)
/-- the set of the texts l, each once -/
structure TSet (P : Program) (w : World) (h : Heap) (a : Addr) (l : List Str) : Prop where
  ex : ∃ D : SD, h.get? a = some (sObj "set" D) ∧ TxOk P w D l ∧ Ris D.2.2.place.toList ∧ (w.params.followText "set-order" = true ∨ D.2.2.led = true)
  nd : l.Nodup
theorem TSet.at {P : Program} {w : World} {h h' : Heap} {a : Addr} {l : List Str} (T : TSet P w h a l) (k : ∀ o, h.get? a = some o → h'.get? a = some o) : TSet P w h' a l := by
  obtain ⟨D, e, r⟩ := T.ex
  exact ⟨⟨D, k _ e, r⟩, T.nd⟩
theorem tail_ris {w : World} {ep : Nat} {es : Array (Int × Value)} {t : SetTable} {b : Bool} (h : Ris t.place.toList) (hl : w.params.followText "set-order" = true ∨ t.led = true) :
    Ris (tailTx ep es t b).2.2.place.toList ∧ (w.params.followText "set-order" = true ∨ (tailTx ep es t b).2.2.led = true) := by
  unfold tailTx
  split
  · exact ⟨relayAll_ris t es _, hl.imp id fun z => (relayAll_led t es _).trans z⟩
  · exact ⟨h, hl⟩
theorem add_ris {w : World} {x : Int} {v : Value} {D : SD} (h : Ris D.2.2.place.toList) (hl : w.params.followText "set-order" = true ∨ D.2.2.led = true) :
    Ris (addTx x v D).2.2.place.toList ∧ (w.params.followText "set-order" = true ∨ (addTx x v D).2.2.led = true) := by
  unfold addTx
  have h1 := layNew_ris D.2.2 D.1 x v h
  have h2 := layNew_led D.2.2 D.1 x v
  refine tail_ris ?_ ?_
  · split
    · exact h1
    · exact h1
  · refine hl.imp id fun z => ?_
    split
    · exact h2.trans z
    · exact h2.trans z
section
variable {P : Program} {w : World} {A : Around} {E : Value → Shared → Prop} {s : Shared}
theorem add_old {a : Addr} {l : List Str} {k : Str} {u : Tok} {Q : Bool → Shared → Prop} (T : TSet P w s.heap a l) (hk : k ∈ l) (hb : l.length < scanBound) (h : Q false s) :
    wpAny (model P w) A (setAddHashed a (.str k u) (hashStr w k)) Q E s := by
  obtain ⟨⟨D, ho, F, _⟩, _⟩ := T
  obtain ⟨es, ep, t⟩ := D
  have hd : (sObj "set" (es, ep, t)).data = .set es ep t := rfl
  have hf : t.fits es.size = true := F.fit
  have hel : ElemsOf (PySem.strKind P w) es.toList := F.el
  have hsz : es.size = l.length := F.sz
  have hb0 : es.size < scanBound := by omega
  have hkey : (PySem.strKind P w).is k (.str k u) = true := is_str k u
  unfold setAddHashed setAddHashedIn
  refine wpAny_holding (wpAny_bind (wpAny_setState_of ho hd hf ?_))
  dsimp only
  rw [byScan_of rfl hb0 hel]
  simp only [↓reduceIte]
  unfold setAddByScan
  refine wpAny_bind ?_
  refine wpAny_bind (wpAny_rule ?_)
  refine wpAny_bind (wpAny_setScan_of (knd := PySem.strKind P w) (k := k) hkey ho hd hf hel ?_)
  cases hfi : List.findIdx? (fun e => (PySem.strKind P w).is k e.2) es.toList with
  | some j =>
    dsimp only
    exact wpAny_pure (wpAny_pure h)
  | none =>
    obtain ⟨e, he, q⟩ := (F.mem k).mp hk
    have c := List.findIdx?_eq_none_iff.mp hfi e he
    rw [q] at c
    cases c
theorem add_any {a : Addr} {l : List Str} {k : Str} {u : Tok} {Q : Bool → Shared → Prop} (T : TSet P w s.heap a l) (hb : l.length + 1 < scanBound)
    (h : ∀ b h' l', Heap.SameBut a s.heap h' → TSet P w h' a l' → (∀ z, z ∈ l' ↔ z = k ∨ z ∈ l) → l'.length ≤ l.length + 1 → Q b { s with heap := h' }) :
    wpAny (model P w) A (setAddHashed a (.str k u) (hashStr w k)) Q E s := by
  by_cases hk : k ∈ l
  · refine add_old T hk (by omega) ?_
    exact h false s.heap l (Heap.SameBut.refl a s.heap) T (fun z => ⟨.inr, fun q => q.elim (fun e => e ▸ hk) id⟩) (Nat.le_succ _)
  · obtain ⟨⟨D, ho, F, r, hl⟩, nd⟩ := T
    refine add_x ho F hk hb ?_
    have sb := Heap.SameBut.update s.heap a (fun _ => sObj "set" (addTx (hashStr w k) (.str k u) D))
    obtain ⟨r2, l2⟩ := add_ris (x := hashStr w k) (v := .str k u) r hl
    refine h true _ (k :: l) sb ⟨⟨_, PySem.Froz.get_upd _ ho rfl, add_ok u F, r2, l2⟩, List.nodup_cons.mpr ⟨hk, nd⟩⟩ (fun z => List.mem_cons) (Nat.le_refl _)
/-- set.update's loop -/
theorem upd_loop {I : Addr} {fp wr : List Addr} {G : Array GenState → Array GenState → Prop} {n : Nat} {Pv : Nat → Value → Prop} {St : Nat → Shared → Prop} {R : Result → Shared → Prop}
    (W : WalksS P w A.in1 I fp wr G n Pv St) (S : Addr) (hSf : S ∉ fp) (xs : List Str) (hn : xs.length = n) (hb : n + 1 < scanBound) (hval : ∀ i v, Pv i v → ∃ t, v = .str (xs.getD i Str.empty) t) :
    ∀ (k i : Nat) (s : Shared) (l : List Str), n - i = k → i ≤ n → St i s → TSet P w s.heap S l → (∀ z, z ∈ l ↔ z ∈ xs.take i) → l.length ≤ i →
      (∀ s' l', Moved (S :: wr) G s s' → TSet P w s'.heap S l' → (∀ z, z ∈ l' ↔ z ∈ xs) → R (.ok (.ret .none)) s') →
      codeAny (model P w) A (.builtin "set.update.loop" ⟨[.ref S, .ref I], []⟩) R s := by
  have hSw : S ∉ wr := fun h => hSf (W.sub _ h)
  have hsub : ∀ b ∈ wr, b ∈ S :: wr := fun b hb => List.mem_cons_of_mem _ hb
  intro k
  induction k with
  | zero =>
    intro i s l hk hi hst hS hm hlen hR
    have hin : i = n := by omega
    subst hin
    refine codeAny_builtin F.entry_set_update_loop ?_
    rw [Around.under_plainId F.plain_set_update_loop _]
    show wpAny _ A.in1 (pyNext (.ref I) >>= _) _ _ s
    refine wpAny_bind (W.done s _ _ hst fun s' hmv => ?_)
    show wpAny _ A.in1 (ret Value.none) _ _ s'
    refine wpAny_pure (hR s' l (hmv.mono hsub) (hS.at fun o e => hmv.heap S o hSw e) fun z => ?_)
    rw [hm z, ← hn, List.take_length]
  | succ k ih =>
    intro i s l hk hi hst hS hm hlen hR
    have hlt : i < n := by omega
    refine codeAny_builtin F.entry_set_update_loop ?_
    rw [Around.under_plainId F.plain_set_update_loop _]
    show wpAny _ A.in1 (pyNext (.ref I) >>= _) _ _ s
    refine wpAny_bind (W.item i s _ _ hlt hst fun v s' hP hst' hmv => ?_)
    obtain ⟨t, rfl⟩ := hval i v hP
    have hS' : TSet P w s'.heap S l := hS.at fun o e => hmv.heap S o hSw e
    show wpAny _ A.in1 (holding [Value.str (xs.getD i Str.empty) t] (setAdd S (.str (xs.getD i Str.empty) t)) >>= _) _ _ s'
    refine wpAny_bind (wpAny_holding ?_)
    unfold setAdd
    refine wpAny_holding ?_
    refine wpAny_bind ((PySem.strKind P w).pyHash (k := xs.getD i Str.empty) (is_str _ _) ?_)
    refine add_any (s := { s' with toks := s'.toks + 1 }) hS' (by omega) fun b h' l' hsb hS2 hm2 hl2 => ?_
    have hxi : i < xs.length := by omega
    have hm3 : ∀ z, z ∈ l' ↔ z ∈ xs.take (i + 1) := fun z => by
      rw [hm2 z, hm z, List.take_add_one, List.getElem?_eq_getElem hxi, List.mem_append, List.getD_eq_getElem?_getD, List.getElem?_eq_getElem hxi]
      simp [Or.comm]
    refine wpAny_pure ⟨plainId_quiet F.plain_set_update_loop _, ih (i + 1) _ l' (by omega) hlt (W.frame _ s' _ _ hst' (Nat.le_succ _) fun b hb o e => ?_) hS2 hm3 (by omega) fun s'' l2 hm'' hS'' hz => ?_⟩
    · rw [hsb.2 b (fun h : b = S => hSf (by rw [← h]; exact hb))]; exact e
    · refine hR s'' l2 (Moved.trans W.gtrans ((hmv.mono hsub).then_heap (Nat.le_succ _) fun b o hb e => ?_) hm'') hS'' hz
      rw [hsb.2 b (fun h : b = S => hb (by rw [h]; exact List.mem_cons_self))]; exact e
/-- set(l), l a list of texts -/
theorem call_set_texts {l : Addr} {items : Array Value} {xs : List Str} {Q : Value → Shared → Prop} (hh : A.handled = none) (hl : s.heap.IsList l items) (hi : StrsAre items.toList xs) (hb : xs.length + 1 < scanBound)
    (h : ∀ (h' : Heap) (tk : Nat) (ys : List Str), TSet P w h' s.heap.objs.size ys → (∀ z, z ∈ ys ↔ z ∈ xs) → (∀ b o, s.heap.get? b = some o → h'.get? b = some o) → Q (.ref s.heap.objs.size) { s with heap := h', toks := tk }) :
    wpAny (model P w) A (call (.type "set") [.ref l]) Q E s := by
  obtain ⟨c, tl, hmro⟩ := F.called_set.mro
  have hmade := F.called_set.made
  have hsub := F.called_set.sub
  refine wpAny_call (codeAny_of_tree ?_)
  show wpAny _ _ (callAny (.type "set") _) _ _ _
  refine wpAny_pure ⟨Code.quiet_builtin _ (by decide +kernel), codeAny_builtin F.entry_type_call ?_⟩
  rw [Around.under_plain (weight_type_call_type "set" [.ref l] []) rfl]
  have h1 := F.called_set.notType
  have h2 := F.called_set.canCreate
  have hct := F.typeCall_set_1 (.ref l)
  repeat (any_goals (first | assumption | wp_step))
  refine codeAny_mono (code_set_led1 (.ref l) (E := E) (Q₁ := fun obj s₁ => obj = .ref s.heap.objs.size ∧ s₁ = { s with heap := s.heap.push { cls := .type "set", dict := none, data := .set #[] 0 (.fresh 0 0 (!w.params.followText "set-order")) } }) ⟨rfl, rfl⟩) fun r s₁ hr => ?_
  cases r with
  | error e => exact hr
  | ok fl =>
    cases fl with
    | ret obj =>
      obtain ⟨rfl, rfl⟩ := hr
      have hS : (s.heap.push { cls := .type "set", dict := none, data := .set #[] 0 (.fresh 0 0 (!w.params.followText "set-order")) }).get? s.heap.objs.size = some { cls := .type "set", dict := none, data := .set #[] 0 (.fresh 0 0 (!w.params.followText "set-order")) } := Heap.get?_push_size _ rfl
      have hT : Shared.TypeIs { s with heap := s.heap.push { cls := .type "set", dict := none, data := .set #[] 0 (.fresh 0 0 (!w.params.followText "set-order")) } } (.ref s.heap.objs.size) "set" := ⟨_, hS, rfl⟩
      have hli := F.called_set.init.lookup
      have hbi := F.called_set.init.bind (.ref s.heap.objs.size)
      repeat (any_goals (first | assumption | wp_step))
      refine codeAny_mono (codeAny_call_builtin (R := wants (fun r s₂ => r = .none ∧ ∃ h' tk ys, s₂ = { s with heap := h', toks := tk } ∧ TSet P w h' s.heap.objs.size ys ∧ (∀ z, z ∈ ys ↔ z ∈ xs) ∧
          (∀ b o, s.heap.get? b = some o → h'.get? b = some o)) E) F.called_set.init.plain F.entry_set_init (check_set_init_1 hT ?_)) fun r₂ s₂ hr₂ => ?_
      · obtain ⟨ol, hol, hcl, nl, hdl⟩ := hl
        obtain ⟨ocls, odict, odata, oslots⟩ := ol
        simp only at hcl hdl
        subst hcl; subst hdl
        have hol' : (s.heap.push { cls := .type "set", dict := none, data := .set #[] 0 (.fresh 0 0 (!w.params.followText "set-order")) }).get? l = some { cls := .type "list", dict := odict, data := .seq items nl, slots := oslots } := Heap.get?_push_of_some _ hol
        have hsls := F.sub_list_set
        have hslf := F.sub_list_frozenset
        have hne : (Value.type "list" == Value.type "dict") = false := by decide
        have hl1 : (s.heap.push { cls := .type "set", dict := none, data := .set #[] 0 (.fresh 0 0 (!w.params.followText "set-order")) }).IsList l items := ⟨_, hol', rfl, nl, rfl⟩
        unfold Builtin.«set.__init__» noKeywords Builtin.Frozenset.updateFrom
        generalize hPI : pyIter = PI
        wp_walk
        subst hPI
        refine wpAny_pyIter_list hl1 ?_
        refine wpAny_bind (wpAny_runValue ?_)
        have hlS : l < s.heap.objs.size := Heap.lt_size hol
        have hh3 : A.in1.in1.in1.handled = none := by simp [hh]
        have hneI : l ≠ (s.heap.push { cls := .type "set", dict := none, data := .set #[] 0 (.fresh 0 0 (!w.params.followText "set-order")) }).objs.size := by
          rw [Heap.size_push]; exact Nat.ne_of_lt (Nat.lt_succ_of_lt hlS)
        have hSf : s.heap.objs.size ∉ [(s.heap.push { cls := .type "set", dict := none, data := .set #[] 0 (.fresh 0 0 (!w.params.followText "set-order")) }).objs.size, l] := by
          rw [Heap.size_push]; simp only [List.mem_cons, List.mem_singleton, List.not_mem_nil, or_false, not_or]
          exact ⟨Nat.ne_of_lt (Nat.lt_succ_self _), Nat.ne_of_gt hlS⟩
        have hsz : xs.length = items.size := by rw [← StrsAre.len_eq hi, Array.length_toList]
        have hval : ∀ (i : Nat) (v : Value), items[i]? = some v → ∃ t, v = .str (xs.getD i Str.empty) t := fun i v hv => SS.strs_at hi i v (by rw [Array.getElem?_toList]; exact hv)
        refine upd_loop ((Walks.list hh3 _ l hneI items).toS) s.heap.objs.size hSf xs hsz (by rw [← hsz]; exact hb) hval (items.size - 0) 0 _ [] (by omega) (Nat.zero_le _)
          ⟨⟨_, Heap.get?_push_size _ rfl, rfl, rfl⟩, (hl1.push _)⟩ ?hS0 (fun z => by simp) (Nat.le_refl _) ?hR
        case hS0 =>
          have hget : ((s.heap.push { cls := .type "set", dict := none, data := .set #[] 0 (.fresh 0 0 (!w.params.followText "set-order")) }).push { cls := .type "list_iterator", data := .fields #[.ref l, .int 0 0] }).get? s.heap.objs.size = some { cls := .type "set", dict := none, data := .set #[] 0 (.fresh 0 0 (!w.params.followText "set-order")) } := Heap.get?_push_of_some _ hS
          refine ⟨⟨(#[], 0, .fresh 0 0 (!w.params.followText "set-order")), ?_, PySem.Froz.TxOk.nil (by rfl), List.Pairwise.nil, ?_⟩, List.nodup_nil⟩
          · exact hget
          · show _ ∨ (!w.params.followText "set-order") = true
            cases w.params.followText "set-order"
            · exact .inr rfl
            · exact .inl rfl
        case hR =>
          intro s' ys hm hS' hz
          obtain ⟨h', g2, d', tk', os'⟩ := s'
          have eg : g2 = s.gens := hm.gens
          have ed : d' = s.drawn := hm.drawn
          have eo : os' = s.os := hm.os
          subst eg; subst ed; subst eo
          show wpAny _ _ _ _ _ _
          refine wpAny_pure ?_
          show wpAny _ _ (ret Value.none) _ _ _
          refine wpAny_pure ⟨rfl, h', tk', ys, rfl, hS', hz, fun b o e => ?_⟩
          have hlt := Heap.lt_size e
          have hb1 : b ≠ s.heap.objs.size := Nat.ne_of_lt hlt
          have hb2 : b ≠ (s.heap.push { cls := .type "set", dict := none, data := .set #[] 0 (.fresh 0 0 (!w.params.followText "set-order")) }).objs.size := by
            rw [Heap.size_push]; exact Nat.ne_of_lt (Nat.lt_succ_of_lt hlt)
          exact hm.heap b o (by simp only [List.mem_cons, List.mem_singleton, List.not_mem_nil, or_false, not_or]; exact ⟨hb1, hb2⟩) (Heap.get?_push_of_some _ (Heap.get?_push_of_some _ e))
      · cases r₂ with
        | error e => exact hr₂
        | ok fl₂ =>
          cases fl₂ with
          | ret r =>
            obtain ⟨rfl, h', tk, ys, rfl, hS', hz, hk'⟩ := hr₂
            repeat (any_goals (first | assumption | wp_step))
            exact h _ _ _ hS' hz hk'
          | _ => exact hr₂.elim
    | _ => exact hr.elim
theorem nodup_len : ∀ (l ys : List Str), l.Nodup → (∀ z ∈ l, z ∈ ys) → l.length ≤ ys.length
  | [], ys, _, _ => Nat.zero_le _
  | x :: l, ys, nd, sub => by
    obtain ⟨hx, nd2⟩ := List.nodup_cons.mp nd
    have p1 : ys.Perm (x :: ys.erase x) := List.perm_cons_erase (sub x List.mem_cons_self)
    have r := nodup_len l (ys.erase x) nd2 fun z hz => (List.mem_cons.mp (p1.mem_iff.mp (sub z (List.mem_cons_of_mem _ hz)))).elim (fun q => absurd q fun e => hx (e ▸ hz)) id
    have := p1.length_eq
    simp only [List.length_cons] at this ⊢
    omega
theorem perm_full : ∀ (l ys : List Str), l.Nodup → (∀ z ∈ l, z ∈ ys) → ys.length ≤ l.length → ys.Perm l
  | [], ys, _, _, h => by
    have : ys = [] := List.eq_nil_of_length_eq_zero (by simpa using h)
    rw [this]
  | x :: l, ys, nd, sub, h => by
    obtain ⟨hx, nd2⟩ := List.nodup_cons.mp nd
    have hm := sub x List.mem_cons_self
    have p1 : ys.Perm (x :: ys.erase x) := List.perm_cons_erase hm
    have hl : (ys.erase x).length ≤ l.length := by
      have := p1.length_eq
      simp only [List.length_cons] at this h
      omega
    refine p1.trans (.cons x (perm_full l (ys.erase x) nd2 (fun z hz => ?_) hl))
    have hzx : z ≠ x := fun e => hx (e ▸ hz)
    rcases List.mem_cons.mp (p1.mem_iff.mp (sub z (List.mem_cons_of_mem _ hz))) with q | q
    · exact absurd q hzx
    · exact q
theorem texts_of : ∀ vs : List Value, (∀ v ∈ vs, ∃ k t, v = Value.str k t) → ∃ ys, StrsAre vs ys ∧ ys.length = vs.length ∧ ∀ k t, Value.str k t ∈ vs → k ∈ ys
  | [], _ => ⟨[], .nil, rfl, fun k t h => by cases h⟩
  | v :: vs, h => by
    obtain ⟨k, t, rfl⟩ := h v List.mem_cons_self
    obtain ⟨ys, h1, h2, h3⟩ := texts_of vs fun u hu => h u (List.mem_cons_of_mem _ hu)
    refine ⟨k :: ys, .cons k t h1, by simp [h2], fun k2 t2 hm => ?_⟩
    rcases List.mem_cons.mp hm with q | q
    · injection q with q1 q2
      rw [q1]
      exact List.mem_cons_self
    · exact List.mem_cons_of_mem _ (h3 k2 t2 q)
/-- sorted(set) -/
theorem sorted_texts {a : Addr} {l : List Str} {Q : Value → Shared → Prop} (T : TSet P w s.heap a l) (hh : A.handled = none) (h64 : l.length < 64)
    (hQ : ∀ s' p (out : Array Value) (c : Nat) (ys : List Str), (∀ b o, s.heap.get? b = some o → s'.heap.get? b = some o) → s'.gens = s.gens → s'.os = s.os → s.heap.objs.size ≤ p →
      s'.heap.get? p = some (seqObj "list" out c) → StrsAre out.toList ys → ys.Perm l → sortedS ys = true → Q (.ref p) s') :
    wpAny (model P w) A (call (.builtin "sorted") [.ref a]) Q E s := by
  obtain ⟨⟨D, ho, F0, hr, hl⟩, nd⟩ := T
  obtain ⟨es, ep, t⟩ := D
  have hsz : es.size = l.length := F0.sz
  refine Calls.call_function_entry kind_sorted plain_sorted entry_sorted (args_sorted1 _) ?_
  unfold Builtin.«sorted»
  refine wpAny_bind (m := checkCount "sorted" 1 1 _) (wpAny_pure ?_)
  refine wpAny_bind (collect_set (A := A.in1) (es := es) (ep := ep) (t := t) hh ⟨_, ho, rfl, rfl⟩ F0.fit (by unfold scanBound; omega) hr hl fun s1 vs k1 hz g1 o1 pm => ?_)
  have hvl : vs.length = l.length := by rw [pm.length_eq, List.length_map, Array.length_toList]; exact hsz
  obtain ⟨ys, hS, hyl, hin⟩ := texts_of vs fun v hv => by
    obtain ⟨e, he, q⟩ := List.mem_map.mp (pm.mem_iff.mp hv)
    obtain ⟨⟨k, hk, _⟩, _⟩ := F0.el e he
    obtain ⟨t, ev⟩ := Value.isStrOf_shape (x := k) (v := e.2) hk
    exact ⟨k, t, by rw [← q]; exact ev⟩
  have pl : ys.Perm l := perm_full l ys nd (fun z hz => by
    obtain ⟨e, he, q⟩ := (F0.mem z).mp hz
    obtain ⟨t, ev⟩ := Value.isStrOf_shape (x := z) (v := e.2) q
    refine hin z t (pm.mem_iff.mpr (List.mem_map.mpr ⟨e, he, ev⟩))) (by omega)
  refine wpAny_bind (wpAny_newList ?_ (by rw [hvl, sizeLine_eq]; omega))
  have hoL : (s1.heap.push (seqObj "list" vs.toArray 0)).get? s1.heap.objs.size = some (seqObj "list" vs.toArray 0) := Heap.get?_push_size _ rfl
  refine wpAny_bind (wpAny_holding (wpAny_call_entry slot_list_sort ⟨_, hoL, rfl⟩ entry_list_sort (list_sort_treeK strKind_oneLt hoL hS.keysOf (fun v₁ v₂ rest e => keyKind_strs (by rw [← e]; exact hS)) (by rw [hvl]; exact h64) fun st' hp hs => ⟨_, rfl, ?_⟩) (args_list_sort _)))
  obtain ⟨ss', b1, b2, b3⟩ := sorted_out_str hS hp hs
  obtain ⟨c, hc⟩ := sortedHeap_at (vs := vs) (out := (arrOf st').map (·.2)) hoL
  refine wpAny_pure ⟨_, rfl, hQ _ s1.heap.objs.size ((arrOf st').map (·.2)) c ss' (fun b u e => ?_) g1 o1 hz hc b1 (b2.trans pl) b3⟩
  have q := k1 b u e
  have hlt := Heap.lt_size q
  show (sortedHeap (s1.heap.push (seqObj "list" vs.toArray 0)) s1.heap.objs.size vs ((arrOf st').map (·.2))).get? b = some u
  rw [sortedHeap_old (Nat.ne_of_lt hlt) (by rw [size_push']; exact Nat.lt_succ_of_lt hlt)]
  exact Heap.get?_push_of_some _ q
end
def TSetO (P : Program) (w : World) (a : Addr) (l : List Str) : HO := .ext fun h => TSet P w h a l
theorem tsetO_new {P : Program} {w : World} {H : Hp} {h : Heap} {a : Addr} {l : List Str} (T : TSet P w h a l) : ObjOk P w H h a (TSetO P w a l) := by
  obtain ⟨D, e, r⟩ := T.ex
  exact ⟨T, ⟨_, e⟩, fun h1 h2 p k => TSet.at p k⟩
section
variable {X : Cx}
theorem cr_setTexts (hc : X.calm = true) : CallR X (.type "set") (fun xs H Q => ∃ (l : Addr) (zs : List Str), xs = [V.ref l] ∧ SqL X.K H l (zs.map V.str) ∧ zs.length < 64 ∧
    ∀ a ys, H a = none → ys.Nodup → (∀ z, z ∈ ys ↔ z ∈ zs) → Q (.ref a) (upd H a (TSetO X.prog X.w a ys))) := by
  intro pins s σ H xs us Q I r h
  obtain ⟨l, zs, rfl, hl, hf, q⟩ := h
  rw [Vals.ref1 r]
  obtain ⟨its, rv, pl, hz⟩ := I.list hl
  refine call_set_texts (P := X.prog) (w := X.w) (xs := zs) (I.ok.hd hc) pl.isList (by simpa using rv.strs) (by unfold scanBound; omega) fun h' tk ys T hm k => ?_
  exact ⟨.ref s.heap.objs.size, upd H s.heap.objs.size (TSetO X.prog X.w s.heap.objs.size ys), I.laid (t' := tk) k (Nat.le_refl _) (tsetO_new T), rfl, q _ ys (I.hok.fresh (Nat.le_refl _)) T.nd hm⟩
theorem cr_sortedTexts (hc : X.calm = true) : CallR X (.builtin "sorted") (fun xs H Q => ∃ (a : Addr) (l : List Str), xs = [V.ref a] ∧ H a = some (TSetO X.prog X.w a l) ∧ l.length < 64 ∧
    ∀ (ys : List Str) (p : Addr), ys.Perm l → sortedS ys = true → H p = none → Q (.ref p) (upd H p (.lst (ys.map V.str)))) := by
  intro pins s σ H vs us Q I r h
  obtain ⟨a, l, rfl, ha, hf, q⟩ := h
  have T : TSet X.prog X.w s.heap a l := (I.hok a _ ha).1
  rw [Vals.ref1 r]
  refine sorted_texts T (I.ok.hd hc) hf fun s' p out c ys k g o hp hg hS pm so => ?_
  have hlen : (ys.map V.str).length ≤ sizeLine := by rw [List.length_map, pm.length_eq, sizeLine_eq]; omega
  have hn : H p = none := I.hok.fresh hp
  have J : Inv X pins σ (upd H p (.lst (ys.map V.str))) { s with heap := s'.heap, gens := s'.gens, drawn := s'.drawn, toks := s'.toks } :=
    I.call (ch := []) (Un.laid k hp hn) (I.hok.laid k hp ⟨hlen, out.toList, c, vals_of_strs hS, hg⟩) (by rw [g]; exact I.bare) (fun _ z => nomatch z)
  have e : s' = { s with heap := s'.heap, gens := s'.gens, drawn := s'.drawn, toks := s'.toks } := by
    cases s'
    cases s
    cases o
    rfl
  rw [e]
  exact ⟨.ref p, _, J, rfl, q ys p pm so hn⟩
end
end My
/-! enumerate of a tuple; for over a list or a tuple -/
namespace MyE
open PySem
open Sem (wp)
open AutoSeq1 (wpAny_loadPart')
theorem enum_new (l : Addr) (items : Array Value) (n : Nat) (dct : Option Addr) (sl : Array (Option Value)) :
    Meets (Builtin.«enumerate.__new__» ⟨[.type "enumerate", .ref l], []⟩) (fun _ R s => s.heap.get? l = some { cls := .type "tuple", dict := dct, data := .seq items n, slots := sl } ∧
      R (.ok (.ret (.ref (s.heap.push { cls := .type "tuple_iterator", data := .fields #[.ref l, .int 0 0] }).objs.size)))
        { s with heap := (s.heap.push { cls := .type "tuple_iterator", data := .fields #[.ref l, .int 0 0] }).push { cls := .type "enumerate", data := .fields #[.none, .bool false, .ref s.heap.objs.size, rawInt 0, .none, .none] } }) :=
  .of_wp fun prog w A R s h => by
    obtain ⟨hh, gg, dd, tt, oo⟩ := s
    obtain ⟨at_, out⟩ := h
    have below := sub_enumerate
    have tup : Heap.IsTuple (Shared.heap ⟨hh, gg, dd, tt, oo⟩) l items := ⟨_, at_, rfl, n, rfl⟩
    wp_walk using wpAny_loadPart' at_
    refine wpAny_stack_any fun st => wpAny_pure ?_
    split
    · rename_i c _ _ _ _ _
      cases (c == Value.type "enumerate") <;> (wp_walk using wpAny_loadPart' at_, wpAny_pyIter_tuple tup; exact ⟨_, rfl, out⟩)
    · wp_walk using wpAny_loadPart' at_, wpAny_pyIter_tuple tup
      exact ⟨_, rfl, out⟩
section
variable {prog : Program} {w : World} {A : Around} {E : Value → Shared → Prop} {s : Shared}
theorem call_enum {l : Addr} {items : Array Value} {Q : Value → Shared → Prop} (tup : s.heap.IsTuple l items)
    (out : ∀ h', IsEnum h' (s.heap.objs.size + 1) s.heap.objs.size 0 .none → h'.IsTupleIter s.heap.objs.size l 0 → (∀ b o, s.heap.get? b = some o → h'.get? b = some o) → Q (.ref (s.heap.objs.size + 1)) { s with heap := h' }) :
    wpAny (model prog w) A (call (.type "enumerate") [.ref l]) Q E s := by
  obtain ⟨⟨c, dct, dt, sl⟩, at_, hc, n, hd⟩ := tup
  simp only at hc hd
  subst hc
  subst hd
  refine callType_new F.called_enumerate (by decide) (F.typeCall_enumerate_1 _) (F.newCall_enumerate_1 _) (fun obj => F.args_object_init_2 obj _) F.entry_enumerate_new (enum_new l items n dct sl) ⟨at_, ?_⟩
  have one : (s.heap.push { cls := .type "tuple_iterator", data := .fields #[.ref l, .int 0 0] }).objs.size = s.heap.objs.size + 1 := Heap.size_push ..
  show _ ∧ _
  rw [one]
  have en : IsEnum ((s.heap.push { cls := .type "tuple_iterator", data := .fields #[.ref l, .int 0 0] }).push { cls := .type "enumerate", data := .fields #[.none, .bool false, .ref s.heap.objs.size, rawInt 0, .none, .none] }) (s.heap.objs.size + 1) s.heap.objs.size 0 .none := by
    have z := Heap.get?_push_size (s.heap.push { cls := .type "tuple_iterator", data := .fields #[.ref l, .int 0 0] }) (o := { cls := .type "enumerate", data := .fields #[.none, .bool false, .ref s.heap.objs.size, rawInt 0, .none, .none] }) rfl
    rw [one] at z
    exact z
  exact ⟨⟨_, en, rfl⟩, out _ en ⟨_, Heap.get?_push_of_some _ (Heap.get?_push_size _ rfl), rfl, rfl⟩ fun b o x => Heap.get?_push_of_some _ (Heap.get?_push_of_some _ x)⟩
end
end MyE
namespace My
open PySem PySem.Spec PyProof.Rows L2
def IteT (K : PySem.W.Frag) (a : Addr) : It :=
  ⟨fun i H => ∃ (xs : List V) (x : V), SqT K H a xs ∧ xs[i]? = some x, fun i H v H' => ∃ T x, v = .ref T ∧ H T = none ∧ H' = upd H T (.tup [.int (i : Nat), x]) ∧ ∀ xs, SqT K H a xs → xs[i]? = some x, fun i H => ∃ xs : List V, SqT K H a xs ∧ xs.length ≤ i⟩
theorem tup_ne {h : Heap} {it a : Addr} {i : Nat} {items : Array Value} (x : h.IsTupleIter it a i) (y : h.IsTuple a items) : a ≠ it := fun e => by
  obtain ⟨o, ho, hc, _⟩ := x
  obtain ⟨o2, ho2, hc2, _⟩ := y
  rw [e, ho] at ho2
  cases ho2
  rw [hc] at hc2
  revert hc2
  decide
theorem turn_enumT {P : Program} {w : World} {K : PySem.W.Frag} {elts : List Expr} {kk : Nat} {tpos : Pos} (a e it : Addr) :
    Turn P w K (.Tuple elts kk tpos) (IteT K a) [e, it] e (fun i h => (∃ old, IsEnum h e it ((i : Nat) : Int) old) ∧ h.IsTupleIter it a i ∧ e ≠ it) where
  mem := by simp
  obj := fun i h st b hb => by
    obtain ⟨⟨old, en⟩, ⟨o, ho, hc, hd⟩, _⟩ := st
    have which : b = e ∨ b = it := by simpa using hb
    rcases which with z | z <;> rw [z]
    · exact ⟨_, en, fun v q => nomatch q⟩
    · exact ⟨o, ho, fun v q => by rw [hd] at q; cases q⟩
  keep := fun i h h' st k => let ⟨⟨old, en⟩, ti, ne⟩ := st; ⟨⟨old, k e (by simp) _ en⟩, ti.at fun o q => k it (by simp) o q, ne⟩
  item := by
    intro X hP hw hK hc i pins s σ H E I hf st hg
    subst hP hw hK
    obtain ⟨⟨old, en⟩, ti, ne⟩ := st
    obtain ⟨xs, x, hq, hx⟩ := hg
    obtain ⟨its, rv, tp, _⟩ := I.tuple hq
    obtain ⟨u, hu, ru⟩ := rv.get hx
    have tp2 : s.heap.IsTuple a its.toArray := tp
    have le : e < s.heap.objs.size := Heap.lt_size en
    have li : it < s.heap.objs.size := let ⟨_, q, _⟩ := ti; Heap.lt_size q
    have ane := tup_ne ti tp2
    have ae : e ≠ a := fun z => by
      obtain ⟨o2, ho2, hc2, _⟩ := tp2
      have en2 : s.heap.get? e = some _ := en
      rw [z, ho2] at en2
      cases en2
      exact absurd (show Value.type "enumerate" = Value.type "tuple" from hc2) (by decide)
    have lu : i < its.toArray.size := by
      rw [List.size_toArray]
      exact (List.getElem?_eq_some_iff.mp hu).1
    refine wpAny_pyNext_enum_itemD (Draws.tuple (A := X.A.in1) (by exact I.ok.hd hc) it a ane its.toArray) en ⟨ti, tp2⟩ lu ne (by simp only [List.mem_cons, List.not_mem_nil, or_false, not_or]; exact ⟨ne, ae⟩) fun y h' tk hy ho st' hT hsz hk => ?_
    have ey : y = u := by
      have : its.toArray[i]? = some u := by simpa using hu
      rw [this] at hy
      cases hy
      rfl
    subst ey
    refine ⟨_, rfl, wpAny_letOwnedTupleGo_enum (s := { s with heap := h', toks := tk + 1 }) ho fun h'' he' sb => ?_⟩
    have hT2 : h''.get? s.heap.objs.size = some { cls := .type "tuple", data := .seq #[.int i tk, y] } := (sb.2 _ (Nat.ne_of_gt le)).trans hT
    have new : ObjOk X.prog X.w (upd H s.heap.objs.size (.tup [.int (i : Nat), x])) h'' s.heap.objs.size (.tup [.int (i : Nat), x]) :=
      ⟨by show 2 ≤ sizeLine; decide, [.int i tk, y], .cons ⟨_, rfl⟩ (.cons ru .nil), ⟨_, hT2, rfl, _, rfl⟩⟩
    have I1 : Inv X pins σ (upd H s.heap.objs.size (.tup [.int (i : Nat), x])) { s with heap := h'', toks := tk + 1 } :=
      I.turnedNew (ch := [e, it]) (fun b ob hb q => (sb.2 b (fun z => hb (by simp [z]))).trans (hk b ob (fun z => hb (by simp [z])) (fun z => hb (by simp [z])) q)) hf (Nat.le_refl _) new
    have up : ((i + 1 : Nat) : Int) = (i : Int) + 1 := by omega
    refine ⟨.ref s.heap.objs.size, _, I1, rfl, ⟨_, x, rfl, I.hok.fresh (Nat.le_refl _), rfl, fun ys hy => by rw [I.tuple_inj hy hq]; exact hx⟩, ⟨⟨y, by rw [up]; exact he'⟩, st'.1.at fun o q => (sb.2 it (Ne.symm ne)).trans q, ne⟩, fun b hb => ?_⟩
    have which : b = e ∨ b = it := by simpa using hb
    have lb : b < s.heap.objs.size := which.elim (fun z => z ▸ le) fun z => z ▸ li
    rw [upd_ne (Nat.ne_of_lt lb)]
    exact (hf b hb).1
  done := by
    intro X hP hw hK hc i pins s σ H E I hf st hg
    subst hP hw hK
    obtain ⟨⟨old, en⟩, ti, ne⟩ := st
    obtain ⟨xs, hq, hx⟩ := hg
    obtain ⟨its, rv, tp, _⟩ := I.tuple hq
    have tp2 : s.heap.IsTuple a its.toArray := tp
    obtain ⟨f0, f1, f2, f3, f4, f5⟩ := hf it (by simp)
    have hl := rv.length
    have none_ : its.toArray[i]? = none := by
      simp only [List.getElem?_toArray]
      exact List.getElem?_eq_none (by omega)
    have D : Draws X.prog X.w X.A.in1 it [it, a] i (fun _ _ => True) (fun j h => j = i ∧ h.IsTupleIter it a i ∧ h.IsTuple a its.toArray) :=
      { live := fun _ _ st => let ⟨o, ho, _⟩ := st.2.1; ⟨o, ho⟩
        frame := fun _ _ _ st k => ⟨st.1, st.2.1.at fun o q => k it (by simp) o q, st.2.2.at fun o q => k a (by simp) o q⟩
        item := fun j s Q E lt st _ => absurd lt (by rw [st.1]; exact Nat.lt_irrefl _)
        done := fun s Q E st out => wpAny_nextOf_tuple_end (by exact I.ok.hd hc) st.2.1 st.2.2 none_ out }
    exact wpAny_pyNext_enum_endD (i := ((i : Nat) : Int)) D en ⟨rfl, ti, tp2⟩ fun h' eb => ⟨rfl, I.turned (t' := s.toks) (fun b o hb q => eb b o hb q) f0 f1 f3 f4 f5⟩
  self := fun A i s Q E st h => let ⟨⟨_, en⟩, _⟩ := st; wpAny_pyIter_enum en h
def iEnumT (K : PySem.W.Frag) (ta : TA) : TI := fun σ H R => ta σ H fun vs H1 => ∃ a xs, vs = [.ref a] ∧ SqT K H1 a xs ∧ R (IteT K a) H1
theorem pi_enumT {X : Cx} {e : Expr} {ta : TA} {p pos tpos : Pos} {elts : List Expr} {kk : Nat} (hg : Gl X "enumerate") (hm : X.mg "enumerate" = none) (ha : PA X [e] ta) (hs : starEach [e] X.env = [(false, eval e X.env)] := by rfl) :
    PI X (.Tuple elts kk tpos) (.Call (.Name "enumerate" p) [e] [] pos) (iEnumT X.K ta) := by
  refine ⟨fun pins s σ H R I h => Call_ (ld_blt I hg hm boot_enumerate (PyProof.Rows.callWith_type1 (thn (ha.run pos pins s σ H _ I h) fun us s1 z => ?_) hs rfl))⟩
  obtain ⟨vs, H1, I1, r1, a, xs, rfl, hq, q⟩ := z
  obtain ⟨u, rfl, r⟩ := vals1 r1
  obtain rfl : u = Value.ref a := r
  obtain ⟨its, rv, tp, _⟩ := I1.tuple hq
  refine MyE.call_enum (show s1.heap.IsTuple a its.toArray from tp) fun h' en ti hk => wpAny_pyIter_enum en ?_
  have I2 : Inv X pins σ H1 { s1 with heap := h' } := I1.kept (t' := s1.toks) hk
  refine ⟨s1.heap.objs.size + 1, [s1.heap.objs.size + 1, s1.heap.objs.size], _, _, H1, rfl, I2, turn_enumT a (s1.heap.objs.size + 1) s1.heap.objs.size, ⟨⟨.none, en⟩, ti, Nat.succ_ne_self _⟩, fun b hb => ?_, q⟩
  have big : s1.heap.objs.size ≤ b := by
    have which : b = s1.heap.objs.size + 1 ∨ b = s1.heap.objs.size := by simpa using hb
    exact which.elim (fun z => z ▸ Nat.le_succ _) fun z => z ▸ Nat.le_refl _
  exact I1.fpOk big (I1.hok.fresh big)
/-- for over a list or a tuple -/
def iSeq (K : PySem.W.Frag) (tl : TE) : TI := fun σ H R => tl σ H fun x H1 => ∃ a, x = .ref a ∧ (((∃ xs, SqL K H1 a xs) ∧ R (Itl K a) H1) ∨ ((∃ xs, SqT K H1 a xs) ∧ R (Itt K a) H1))
theorem pi_seq {X : Cx} {tg l : Expr} {tl : TE} (hl : PE X l tl) : PI X tg l (iSeq X.K tl) := by
  refine ⟨fun pins s σ H R I h => thn (hl.run pins s σ H _ I h) fun v s1 z => ?_⟩
  obtain ⟨x, H1, I1, r1, a, rfl, q⟩ := z
  obtain rfl : v = Value.ref a := r1
  have mine : ∀ b ∈ [s1.heap.objs.size], FpOk X pins H1 b := fun b hb => by
    rw [List.mem_singleton.mp hb]
    exact I1.fpOk (Nat.le_refl _) (I1.hok.fresh (Nat.le_refl _))
  rcases q with ⟨⟨xs, hq⟩, q⟩ | ⟨⟨xs, hq⟩, q⟩
  · obtain ⟨its, rv, p, _⟩ := I1.list hq
    exact wpAny_pyIter_list p.isList ⟨s1.heap.objs.size, _, _, _, H1, rfl, I1.kept (t' := s1.toks) fun b o e => Heap.get?_push_of_some _ e, turn_list a _, ⟨_, Heap.get?_push_size _ rfl, rfl, rfl⟩, mine, q⟩
  · obtain ⟨its, rv, p, _⟩ := I1.tuple hq
    exact wpAny_pyIter_tuple (show s1.heap.IsTuple a its.toArray from p) ⟨s1.heap.objs.size, _, _, _, H1, rfl, I1.kept (t' := s1.toks) fun b o e => Heap.get?_push_of_some _ e, turn_tuple a _, ⟨_, Heap.get?_push_size _ rfl, rfl, rfl⟩, mine, q⟩
end My
namespace My
open PySem PySem.Spec PyProof.Rows L2
theorem walk_enumT {K : PySem.W.Frag} {a : Addr} {xs : List V} : Walk (IteT K a) xs.length (fun H => SqT K H a xs) (YPair (fun i => some (.int (i : Nat))) (fun i => xs[i]?)) := by
  refine ⟨fun i _ hi q => ⟨xs, xs[i], q, by simp [hi]⟩, fun _ q => ⟨xs, q, Nat.le_refl _⟩, fun i H v H' _ q y => ?_⟩
  obtain ⟨t, x, h1, h2, h3, h4⟩ := y
  exact ⟨t, .int (i : Nat), x, h1, h2, h3, rfl, h4 xs q⟩
end My
namespace My
open PySem PySem.Spec PyProof.Rows L2
/-! ### simple deeds as data -/
inductive DK where
  | put (n : Str) (i : Int)
  | copy (a b : Str)
  | say (l w : Str)
  | fail (n : Str)
  | lv
  | st
  deriving DecidableEq
def DK.ix : DK → Nat
  | .put _ _ => 0
  | .copy _ _ => 1
  | .say _ _ => 2
  | .fail _ => 3
  | .lv => 4
  | .st => 5
def DK.wd : DK → Str
  | .put _ _ => "put"
  | .copy _ _ => "copy"
  | .say _ _ => "say"
  | .fail _ => "fail"
  | .lv => "none"
  | .st => "stop"
def DK.args : DK → List V
  | .put n i => [.str n, .int i]
  | .copy a b => [.str a, .str b]
  | .say l w => [.str l, .str w]
  | .fail n => [.str n]
  | .lv => []
  | .st => []
def DK.argD : DK → List PyData
  | .put n i => [.str n, .int i]
  | .copy a b => [.str a, .str b]
  | .say l w => [.str l, .str w]
  | .fail n => [.str n]
  | .lv => []
  | .st => []
def DK.flds (t : Addr) : DK → List (Str × V)
  | .put n i => [("cell", .str n), ("value", .int i), ("fields", .ref t)]
  | .copy a b => [("cell", .str a), ("other", .str b), ("fields", .ref t)]
  | .say l w => [("log", .str l), ("word", .str w), ("fields", .ref t)]
  | .fail n => [("name", .str n), ("fields", .ref t)]
  | .lv => [("fields", .ref t)]
  | .st => [("fields", .ref t)]
def okT (z : Str) : Bool := nm z && decide (z.length ≤ 1000)
def DK.okB : DK → Bool
  | .put n i => okT n && (decide (0 ≤ i) && decide (i < 4))
  | .copy a b => okT a && okT b
  | .say l w => okT l && (My.wd w && decide (w.length ≤ 1000))
  | .fail n => okT n
  | .lv => true
  | .st => true
theorem DK.ix_lt (k : DK) : k.ix < 6 := by cases k <;> simp [DK.ix]
def IsD (A : Nat → Addr) (H : Hp) (a : Addr) (k : DK) : Prop := ∃ dx t, H a = some (.ins (A k.ix) dx (k.flds t)) ∧ H t = some (.tup k.args)
theorem IsD.keep {A : Nat → Addr} {H H' : Hp} {a : Addr} {k : DK} (h : IsD A H a k) (s : Same' H H') : IsD A H' a k := let ⟨dx, t, e1, e2⟩ := h; ⟨dx, t, s _ _ e1, s _ _ e2⟩
/-- all else is kept -/
def Keep1 (a : Addr) (H H' : Hp) : Prop := ∀ b o, b ≠ a → H b = some o → H' b = some o
abbrev fAll : List Str := ["cell", "value", "other", "log", "word", "name", "fields"]
def dName : Nat → Str
  | 0 => "Put"
  | 1 => "Copy"
  | 2 => "Say"
  | 3 => "Fail"
  | 4 => "Leave"
  | _ => "Stop"
structure Dd (K : PySem.W.Frag) (mg : Str → Option Value) (A : Nat → Addr) : Prop where
  g : ∀ i, i < 6 → mg (dName i) = some (.ref (A i))
  c : ∀ i, i < 6 → Cls K (A i)
  no : ∀ i, i < 6 → ∀ f ∈ fAll, NoAttr K (A i) f
  dc : ∀ i, i < 6 → PySem.W.findIn K (.ref (A i)) "__class__" = some (some (.builtin "object.__class__"))
  mo : ∀ i, i < 6 → PySem.W.mroIn K (A i) (.type "object") = some true
  hn : PySem.W.specialIn K (.builtin "object.__class__") "__get__" = some (some (.builtin "getset_descriptor.__get__"))
  tk : PySem.W.takesIn K (.builtin "object.__class__") = some true
  kit : ∀ i j, i < 6 → j < 6 → PySem.W.kitOne K (.ref (A i)) (.ref (A j)) = some (decide (i = j))
theorem Dd.ty {K : PySem.W.Frag} {mg : Str → Option Value} {A : Nat → Addr} {H : Hp} {a : Addr} {k : DK} (S : Dd K mg A) (h : IsD A H a k) : TyX K H (.ref a) (.ref (A k.ix)) := by
  obtain ⟨dx, t, e1, e2⟩ := h
  exact .base (.ins e1 (S.c _ k.ix_lt) (S.dc _ k.ix_lt) S.hn S.tk (S.mo _ k.ix_lt))
def spChk : Sp := fun vs H Q _ => ∃ z : Str, vs = [.str z] ∧ okT z = true ∧ ∀ H', Same' H H' → Q .non H'
def spWhole1 : Sp := fun vs H Q _ => ∃ i : Int, vs = [.int i] ∧ Q (.bl true) H
def spIdx1 : Sp := fun vs H Q _ => ∃ i : Int, vs = [.int i, .int 4] ∧ 0 ≤ i ∧ i < 4 ∧ Q (.bl true) H
def spCkV1 : Sp := fun vs H Q _ => ∃ i : Int, vs = [.int i] ∧ 0 ≤ i ∧ i < 4 ∧ Q .non H
section
variable {P : Program} {w : World} {K : PySem.W.Frag} {mg : Str → Option Value} {base : Heap}
theorem okT_of {z : Str} (h : okT z = true) : nm z = true ∧ z.length ≤ 1000 := by
  unfold okT at h
  simpa using h
theorem scCheck : FnScope ["value"] ["value"] (defScope sCheck) := ⟨rfl, rfl, rfl, by decide +kernel, rfl, by decide +kernel, by decide +kernel⟩
theorem ok_check {f fN : Addr} {fd fdN : FuncData} (F : Fun K "check_name" "check_name" sCheck f fd) (FN : Fun K "is_name" "is_name" sName fN fdN) (bN : Binds K fdN ["value"] []) (gN : mg "is_name" = some (.ref fN)) (GN : FnOk P w K mg base CX0 2 fN fdN ["value"] (spWord K nm)) :
    FnOk P w K mg base CX0 3 f fd ["value"] spChk := by
  refine F.ok scCheck (fun vs H Q E h => ?_) (fun cdv A outer s H vs Q E hr h => ?_)
  · obtain ⟨z, rfl, _⟩ := h
    rfl
  · obtain ⟨z, rfl, ok, q⟩ := h
    obtain ⟨hz, zl⟩ := okT_of ok
    refine ⟨_, pss_one (ps_if (pt_not (pt_val (pe_call GN hr (by rfl) gN FN.kp bN .nil pass0 (pa_cons (pv 0) pa_nil)))) (pss_one ps_never) pss_nil), ?_⟩
    refine ⟨.str z, rfl, .str z, rfl, .inl ⟨z, rfl, zl, fun H1 sm => ⟨nm z, rfl, ?_⟩⟩⟩
    rw [hz]
    exact iteF (q H1 sm)
theorem scWhole : FnScope ["value"] ["value"] (defScope sWhole) := ⟨rfl, rfl, rfl, by decide +kernel, rfl, by decide +kernel, by decide +kernel⟩
theorem ok_whole {f : Addr} {fd : FuncData} (F : Fun K "is_whole" "is_whole" sWhole f fd) (T : Txt mg) : FnOk P w K mg base CX0 1 f fd ["value"] spWhole1 := by
  refine F.ok scWhole (fun vs H Q E h => ?_) (fun cdv A outer s H vs Q E hr h => ?_)
  · obtain ⟨i, rfl, _⟩ := h
    rfl
  · obtain ⟨i, rfl, q⟩ := h
    refine ⟨_, pss_one (ps_ret (pe_and (pe_callB call_isi (by rfl) T.isi (by decide +kernel) (pa_cons (pv 0) (pa_cons (pe_bltn (by rfl) T.int (by decide +kernel) (show RelV (.ty "int") _ from rfl)) pa_nil)))
      (pe_one (pe_not (pe_callB call_isi (by rfl) T.isi (by decide +kernel) (pa_cons (pv 0) (pa_cons (pe_bltn (by rfl) T.bool (by decide +kernel) (show RelV (.ty "bool") _ from rfl)) pa_nil))))))), ?_⟩
    refine ⟨.int i, rfl, .int i, .ty "int", .type "int", .type "int", true, rfl, .ty "int", .base (.int i), kit_ty (by decide +kernel), true, rfl, iteT ?_⟩
    exact ⟨.int i, rfl, .int i, .ty "bool", .type "int", .type "bool", false, rfl, .ty "bool", .base (.int i), kit_ty (by decide +kernel), false, rfl, q⟩
theorem scIdx : FnScope ["value", "many"] ["value", "many"] (defScope sIndex) := ⟨rfl, rfl, rfl, by decide +kernel, rfl, by decide +kernel, by decide +kernel⟩
theorem ok_index {f fW : Addr} {fd dW : FuncData} (F : Fun K "is_index" "is_index" sIndex f fd) (FW : Fun K "is_whole" "is_whole" sWhole fW dW) (bW : Binds K dW ["value"] []) (gW : mg "is_whole" = some (.ref fW)) (GW : FnOk P w K mg base CX0 1 fW dW ["value"] spWhole1) :
    FnOk P w K mg base CX0 2 f fd ["value", "many"] spIdx1 := by
  refine F.ok scIdx (fun vs H Q E h => ?_) (fun cdv A outer s H vs Q E hr h => ?_)
  · obtain ⟨i, rfl, _⟩ := h
    rfl
  · obtain ⟨i, rfl, i0, i4, q⟩ := h
    refine ⟨_, pss_one (ps_ret (pe_and (pe_call GW hr (by rfl) gW FW.kp bW .nil pass0 (pa_cons (pv 0) pa_nil)) (pe_one (pe_chain op_le op_lt pe_int (pv 0) (pv 1))))), ?_⟩
    refine ⟨.int i, rfl, i, rfl, true, rfl, iteT ⟨.int i, rfl, 0, i, rfl, rfl, decide (0 ≤ i), rfl, ?_⟩⟩
    rw [decide_eq_true i0]
    refine iteT ⟨.int 4, rfl, i, 4, rfl, rfl, ?_⟩
    show Q (V.bl (decide (i < 4))) H
    rw [decide_eq_true i4]
    exact q
theorem scCkV : FnScope ["value"] ["value"] (defScope sChkVal) := ⟨rfl, rfl, rfl, by decide +kernel, rfl, by decide +kernel, by decide +kernel⟩
theorem ok_ckV {f fX : Addr} {fd dX : FuncData} {tm : Tok} (F : Fun K "_check_value" "_check_value" sChkVal f fd) (FX : Fun K "is_index" "is_index" sIndex fX dX) (bX : Binds K dX ["value", "many"] []) (gX : mg "is_index" = some (.ref fX)) (GX : FnOk P w K mg base CX0 2 fX dX ["value", "many"] spIdx1)
    (mM : mg "MOST_VALUE" = some (.int 3 tm)) : FnOk P w K mg base CX0 3 f fd ["value"] spCkV1 := by
  refine F.ok scCkV (fun vs H Q E h => ?_) (fun cdv A outer s H vs Q E hr h => ?_)
  · obtain ⟨i, rfl, _⟩ := h
    rfl
  · obtain ⟨i, rfl, i0, i4, q⟩ := h
    refine ⟨_, pss_one (ps_if (pt_not (pt_val (pe_call GX hr (by rfl) gX FX.kp bX .nil pass0 (pa_cons (pv 0) (pa_cons (pe_op op_add (pe_glob (v := .int 3) rfl mM ⟨_, rfl⟩) pe_int) pa_nil))))) (pss_one ps_never) pss_nil), ?_⟩
    exact ⟨.int i, rfl, 3, 1, rfl, rfl, i, rfl, i0, i4, true, rfl, iteF q⟩
end
end My
namespace My
open PySem PySem.Spec PyProof.Rows L2
abbrev sPutI : Stmt := inClass (topS 49) 1
abbrev sPutE : Stmt := inClass (topS 49) 2
abbrev sPutT : Stmt := inClass (topS 49) 3
abbrev sCopyI : Stmt := inClass (topS 50) 1
abbrev sCopyE : Stmt := inClass (topS 50) 2
abbrev sCopyT : Stmt := inClass (topS 50) 3
abbrev sSayI : Stmt := inClass (topS 51) 1
abbrev sSayE : Stmt := inClass (topS 51) 2
abbrev sSayT : Stmt := inClass (topS 51) 3
abbrev sFailI : Stmt := inClass (topS 52) 1
abbrev sFailE : Stmt := inClass (topS 52) 2
abbrev sFailT : Stmt := inClass (topS 52) 3
abbrev sLeaveI : Stmt := inClass (topS 53) 1
abbrev sLeaveE : Stmt := inClass (topS 53) 2
abbrev sLeaveT : Stmt := inClass (topS 53) 3
abbrev sStopI : Stmt := inClass (topS 54) 1
abbrev sStopE : Stmt := inClass (topS 54) 2
abbrev sStopT : Stmt := inClass (topS 54) 3
def spI (A : Nat → Addr) (j : Nat) : Sp := fun vs H Q _ => ∃ (a dx : Addr) (k : DK), k.ix = j ∧ vs = .ref a :: k.args ∧ H a = some (.ins (A j) dx []) ∧ k.okB = true ∧ ∀ H', Keep1 a H H' → IsD A H' a k → Q .non H'
theorem fin_keep {a t : Addr} {H H2 : Hp} {xs : List V} {o o2 : HO} (k : Keep1 a H H2) (ha : H2 a = some o2) (ht : H2 t = none) : Keep1 a H (upd (upd H2 t (.tup xs)) a o) ∧ (upd (upd H2 t (.tup xs)) a o) t = some (.tup xs) := by
  have nt : t ≠ a := fun z => by rw [z, ha] at ht; cases ht
  refine ⟨fun b u n e => ?_, by rw [upd_ne nt]; exact upd_same⟩
  have e2 := k b u n e
  rw [upd_ne n, upd_ne (ne_of_none e2 ht)]
  exact e2
theorem keep_upd {a : Addr} {H H1 : Hp} {o : HO} (k : Keep1 a H H1) : Keep1 a H (upd H1 a o) := fun b u n e => by
  rw [upd_ne n]
  exact k b u n e
theorem Keep1.of {a : Addr} {H H' : Hp} (s : Same' H H') : Keep1 a H H' := fun b o _ e => s b o e
theorem Keep1.trans {a : Addr} {H H1 H2 : Hp} (h : Keep1 a H H1) (k : Keep1 a H1 H2) : Keep1 a H H2 := fun b o n e => k b o n (h b o n e)
theorem andB {a b : Bool} (h : (a && b) = true) : a = true ∧ b = true := by
  rw [Bool.and_eq_true] at h
  exact h
section
variable {P : Program} {w : World} {K : PySem.W.Frag} {mg : Str → Option Value} {base : Heap} {A : Nat → Addr}
theorem scPutI : FnScope ["self", "cell", "value"] ["self", "cell", "value"] (defScope sPutI) := ⟨rfl, rfl, rfl, by decide +kernel, rfl, by decide +kernel, by decide +kernel⟩
theorem ok_putI {f : Addr} {fd : FuncData} {fC fV : Addr} {dC dV : FuncData} (F : Fun K "__init__" "Put.__init__" sPutI f fd) (S : Dd K mg A) (FC : Fun K "check_name" "check_name" sCheck fC dC) (bC : Binds K dC ["value"] []) (gC : mg "check_name" = some (.ref fC)) (GC : FnOk P w K mg base CX0 3 fC dC ["value"] spChk) (FV : Fun K "_check_value" "_check_value" sChkVal fV dV) (bV : Binds K dV ["value"] []) (gV : mg "_check_value" = some (.ref fV)) (GV : FnOk P w K mg base CX0 3 fV dV ["value"] spCkV1) : FnOk P w K mg base CX0 4 f fd ["self", "cell", "value"] (spI A 0) := by
  refine F.ok scPutI (fun vs H Q E h => ?_) (fun cdv A0 outer s H vs Q E hr h => ?_)
  · obtain ⟨a, dx, k, hk, rfl, _⟩ := h
    cases k <;> first | rfl | cases hk
  · obtain ⟨a, dx, k, hk, rfl, ha, ok, q⟩ := h
    refine ⟨_, (pss_cons (ps_expr (pe_call GC hr (by rfl) gC FC.kp bC .nil pass0 (pa_cons (pv 1) pa_nil))) (pss_cons (ps_expr (pe_call GV hr (by rfl) gV FV.kp bV .nil pass0 (pa_cons (pv 2) pa_nil))) (pss_cons (ps_fld (pv 0) (pv 1) (by rfl)) (pss_cons (ps_fld (pv 0) (pv 2) (by rfl)) (pss_one (ps_fld (pv 0) (pe_tup (pa_cons (pv 1) (pa_cons (pv 2) pa_nil))) (by rfl))))))), ?_⟩
    cases k with
    | put n i =>
      obtain ⟨o1, o2⟩ := andB ok
      obtain ⟨o3, o4⟩ := andB o2
      refine ⟨.str n, rfl, n, rfl, o1, fun H1 sm => ⟨.int i, rfl, i, rfl, of_decide_eq_true o3, of_decide_eq_true o4, ?_⟩⟩
      refine ⟨.str n, rfl, .ref a, rfl, a, A 0, dx, [], rfl, sm _ _ ha, S.c 0 (by decide), S.no 0 (by decide) _ (by simp), by show 0 < 1000; decide, ?_⟩
      refine ⟨.int i, rfl, .ref a, rfl, a, A 0, dx, [("cell", .str n)], rfl, upd_same, S.c 0 (by decide), S.no 0 (by decide) _ (by simp), by show 1 < 1000; decide, ?_⟩
      refine ⟨.str n, rfl, .int i, rfl, by show 2 ≤ sizeLine; decide, fun t ht => ?_⟩
      have na : a ≠ t := ne_of_none upd_same ht
      refine ⟨.ref a, rfl, a, A 0, dx, [("cell", .str n), ("value", .int i)], rfl, by rw [upd_ne na]; exact upd_same, S.c 0 (by decide), S.no 0 (by decide) _ (by simp), by show 2 < 1000; decide, ?_⟩
      obtain ⟨k1, k2⟩ := fin_keep (o := .ins (A 0) dx ((.put n i : DK).flds t)) (xs := (.put n i : DK).args) (keep_upd (keep_upd (.of sm))) upd_same ht
      exact q _ k1 ⟨dx, t, upd_same, k2⟩
    | _ => cases hk
theorem scCopyI : FnScope ["self", "cell", "other"] ["self", "cell", "other"] (defScope sCopyI) := ⟨rfl, rfl, rfl, by decide +kernel, rfl, by decide +kernel, by decide +kernel⟩
theorem ok_copyI {f : Addr} {fd : FuncData} {fC : Addr} {dC : FuncData} (F : Fun K "__init__" "Copy.__init__" sCopyI f fd) (S : Dd K mg A) (FC : Fun K "check_name" "check_name" sCheck fC dC) (bC : Binds K dC ["value"] []) (gC : mg "check_name" = some (.ref fC)) (GC : FnOk P w K mg base CX0 3 fC dC ["value"] spChk) : FnOk P w K mg base CX0 4 f fd ["self", "cell", "other"] (spI A 1) := by
  refine F.ok scCopyI (fun vs H Q E h => ?_) (fun cdv A0 outer s H vs Q E hr h => ?_)
  · obtain ⟨a, dx, k, hk, rfl, _⟩ := h
    cases k <;> first | rfl | cases hk
  · obtain ⟨a, dx, k, hk, rfl, ha, ok, q⟩ := h
    refine ⟨_, (pss_cons (ps_expr (pe_call GC hr (by rfl) gC FC.kp bC .nil pass0 (pa_cons (pv 1) pa_nil))) (pss_cons (ps_expr (pe_call GC hr (by rfl) gC FC.kp bC .nil pass0 (pa_cons (pv 2) pa_nil))) (pss_cons (ps_fld (pv 0) (pv 1) (by rfl)) (pss_cons (ps_fld (pv 0) (pv 2) (by rfl)) (pss_one (ps_fld (pv 0) (pe_tup (pa_cons (pv 1) (pa_cons (pv 2) pa_nil))) (by rfl))))))), ?_⟩
    cases k with
    | copy n m =>
      obtain ⟨o1, o2⟩ := andB ok
      refine ⟨.str n, rfl, n, rfl, o1, fun H0 sm0 => ⟨.str m, rfl, m, rfl, o2, fun H1 sm1 => ?_⟩⟩
      have sm := sm0.trans sm1
      refine ⟨.str n, rfl, .ref a, rfl, a, A 1, dx, [], rfl, sm _ _ ha, S.c 1 (by decide), S.no 1 (by decide) _ (by simp), by show 0 < 1000; decide, ?_⟩
      refine ⟨.str m, rfl, .ref a, rfl, a, A 1, dx, [("cell", .str n)], rfl, upd_same, S.c 1 (by decide), S.no 1 (by decide) _ (by simp), by show 1 < 1000; decide, ?_⟩
      refine ⟨.str n, rfl, .str m, rfl, by show 2 ≤ sizeLine; decide, fun t ht => ?_⟩
      have na : a ≠ t := ne_of_none upd_same ht
      refine ⟨.ref a, rfl, a, A 1, dx, [("cell", .str n), ("other", .str m)], rfl, by rw [upd_ne na]; exact upd_same, S.c 1 (by decide), S.no 1 (by decide) _ (by simp), by show 2 < 1000; decide, ?_⟩
      obtain ⟨k1, k2⟩ := fin_keep (o := .ins (A 1) dx ((.copy n m : DK).flds t)) (xs := (.copy n m : DK).args) (keep_upd (keep_upd (.of sm))) upd_same ht
      exact q _ k1 ⟨dx, t, upd_same, k2⟩
    | _ => cases hk
theorem scSayI : FnScope ["self", "log", "word"] ["self", "log", "word"] (defScope sSayI) := ⟨rfl, rfl, rfl, by decide +kernel, rfl, by decide +kernel, by decide +kernel⟩
theorem ok_sayI {f : Addr} {fd : FuncData} {fC fW : Addr} {dC dW : FuncData} (F : Fun K "__init__" "Say.__init__" sSayI f fd) (S : Dd K mg A) (FC : Fun K "check_name" "check_name" sCheck fC dC) (bC : Binds K dC ["value"] []) (gC : mg "check_name" = some (.ref fC)) (GC : FnOk P w K mg base CX0 3 fC dC ["value"] spChk) (FW : Fun K "is_word" "is_word" sWord fW dW) (bW : Binds K dW ["value"] []) (gW : mg "is_word" = some (.ref fW)) (GW : FnOk P w K mg base CX0 1 fW dW ["value"] (spWord K wd)) : FnOk P w K mg base CX0 4 f fd ["self", "log", "word"] (spI A 2) := by
  refine F.ok scSayI (fun vs H Q E h => ?_) (fun cdv A0 outer s H vs Q E hr h => ?_)
  · obtain ⟨a, dx, k, hk, rfl, _⟩ := h
    cases k <;> first | rfl | cases hk
  · obtain ⟨a, dx, k, hk, rfl, ha, ok, q⟩ := h
    refine ⟨_, (pss_cons (ps_expr (pe_call GC hr (by rfl) gC FC.kp bC .nil pass0 (pa_cons (pv 1) pa_nil))) (pss_cons (ps_if (pt_not (pt_val (pe_call GW (hr.mono (by decide)) (by rfl) gW FW.kp bW .nil pass0 (pa_cons (pv 2) pa_nil)))) (pss_one ps_never) pss_nil) (pss_cons (ps_fld (pv 0) (pv 1) (by rfl)) (pss_cons (ps_fld (pv 0) (pv 2) (by rfl)) (pss_one (ps_fld (pv 0) (pe_tup (pa_cons (pv 1) (pa_cons (pv 2) pa_nil))) (by rfl))))))), ?_⟩
    cases k with
    | say n m =>
      obtain ⟨o1, o2⟩ := andB ok
      obtain ⟨o3, o4⟩ := andB o2
      refine ⟨.str n, rfl, n, rfl, o1, fun H0 sm0 => ⟨.str m, rfl, .str m, rfl, .inl ⟨m, rfl, of_decide_eq_true o4, fun H1 sm1 => ⟨_, rfl, ?_⟩⟩⟩⟩
      rw [o3]
      refine iteF ?_
      have sm := sm0.trans sm1
      refine ⟨.str n, rfl, .ref a, rfl, a, A 2, dx, [], rfl, sm _ _ ha, S.c 2 (by decide), S.no 2 (by decide) _ (by simp), by show 0 < 1000; decide, ?_⟩
      refine ⟨.str m, rfl, .ref a, rfl, a, A 2, dx, [("log", .str n)], rfl, upd_same, S.c 2 (by decide), S.no 2 (by decide) _ (by simp), by show 1 < 1000; decide, ?_⟩
      refine ⟨.str n, rfl, .str m, rfl, by show 2 ≤ sizeLine; decide, fun t ht => ?_⟩
      have na : a ≠ t := ne_of_none upd_same ht
      refine ⟨.ref a, rfl, a, A 2, dx, [("log", .str n), ("word", .str m)], rfl, by rw [upd_ne na]; exact upd_same, S.c 2 (by decide), S.no 2 (by decide) _ (by simp), by show 2 < 1000; decide, ?_⟩
      obtain ⟨k1, k2⟩ := fin_keep (o := .ins (A 2) dx ((.say n m : DK).flds t)) (xs := (.say n m : DK).args) (keep_upd (keep_upd (.of sm))) upd_same ht
      exact q _ k1 ⟨dx, t, upd_same, k2⟩
    | _ => cases hk
theorem scFailI : FnScope ["self", "name"] ["self", "name"] (defScope sFailI) := ⟨rfl, rfl, rfl, by decide +kernel, rfl, by decide +kernel, by decide +kernel⟩
theorem ok_failI {f : Addr} {fd : FuncData} {fC : Addr} {dC : FuncData} (F : Fun K "__init__" "Fail.__init__" sFailI f fd) (S : Dd K mg A) (FC : Fun K "check_name" "check_name" sCheck fC dC) (bC : Binds K dC ["value"] []) (gC : mg "check_name" = some (.ref fC)) (GC : FnOk P w K mg base CX0 3 fC dC ["value"] spChk) : FnOk P w K mg base CX0 4 f fd ["self", "name"] (spI A 3) := by
  refine F.ok scFailI (fun vs H Q E h => ?_) (fun cdv A0 outer s H vs Q E hr h => ?_)
  · obtain ⟨a, dx, k, hk, rfl, _⟩ := h
    cases k <;> first | rfl | cases hk
  · obtain ⟨a, dx, k, hk, rfl, ha, ok, q⟩ := h
    refine ⟨_, (pss_cons (ps_expr (pe_call GC hr (by rfl) gC FC.kp bC .nil pass0 (pa_cons (pv 1) pa_nil))) (pss_cons (ps_fld (pv 0) (pv 1) (by rfl)) (pss_one (ps_fld (pv 0) (pe_tup (pa_cons (pv 1) pa_nil)) (by rfl))))), ?_⟩
    cases k with
    | fail n =>
      refine ⟨.str n, rfl, n, rfl, ok, fun H1 sm => ?_⟩
      refine ⟨.str n, rfl, .ref a, rfl, a, A 3, dx, [], rfl, sm _ _ ha, S.c 3 (by decide), S.no 3 (by decide) _ (by simp), by show 0 < 1000; decide, ?_⟩
      refine ⟨.str n, rfl, by show 1 ≤ sizeLine; decide, fun t ht => ?_⟩
      have na : a ≠ t := ne_of_none upd_same ht
      refine ⟨.ref a, rfl, a, A 3, dx, [("name", .str n)], rfl, by rw [upd_ne na]; exact upd_same, S.c 3 (by decide), S.no 3 (by decide) _ (by simp), by show 1 < 1000; decide, ?_⟩
      obtain ⟨k1, k2⟩ := fin_keep (o := .ins (A 3) dx ((.fail n : DK).flds t)) (xs := (.fail n : DK).args) (keep_upd (.of sm)) upd_same ht
      exact q _ k1 ⟨dx, t, upd_same, k2⟩
    | _ => cases hk
theorem scLeaveI : FnScope ["self"] ["self"] (defScope sLeaveI) := ⟨rfl, rfl, rfl, by decide +kernel, rfl, by decide +kernel, by decide +kernel⟩
theorem ok_lvI {f : Addr} {fd : FuncData}  (F : Fun K "__init__" "Leave.__init__" sLeaveI f fd) (S : Dd K mg A)  : FnOk P w K mg base CX0 1 f fd ["self"] (spI A 4) := by
  refine F.ok scLeaveI (fun vs H Q E h => ?_) (fun cdv A0 outer s H vs Q E hr h => ?_)
  · obtain ⟨a, dx, k, hk, rfl, _⟩ := h
    cases k <;> first | rfl | cases hk
  · obtain ⟨a, dx, k, hk, rfl, ha, ok, q⟩ := h
    refine ⟨_, (pss_one (ps_fld (pv 0) (pe_tup pa_nil) (by rfl))), ?_⟩
    cases k with
    | lv =>
      have sm : Same' H H := fun _ _ e => e
      refine ⟨ by show 0 ≤ sizeLine; decide, fun t ht => ?_⟩
      have na : a ≠ t := ne_of_none (sm _ _ ha) ht
      refine ⟨.ref a, rfl, a, A 4, dx, [], rfl, by rw [upd_ne na]; exact sm _ _ ha, S.c 4 (by decide), S.no 4 (by decide) _ (by simp), by show 0 < 1000; decide, ?_⟩
      obtain ⟨k1, k2⟩ := fin_keep (o := .ins (A 4) dx ((.lv : DK).flds t)) (xs := (.lv : DK).args) (.of sm) (sm _ _ ha) ht
      exact q _ k1 ⟨dx, t, upd_same, k2⟩
    | _ => cases hk
theorem scStopI : FnScope ["self"] ["self"] (defScope sStopI) := ⟨rfl, rfl, rfl, by decide +kernel, rfl, by decide +kernel, by decide +kernel⟩
theorem ok_stI {f : Addr} {fd : FuncData}  (F : Fun K "__init__" "Stop.__init__" sStopI f fd) (S : Dd K mg A)  : FnOk P w K mg base CX0 1 f fd ["self"] (spI A 5) := by
  refine F.ok scStopI (fun vs H Q E h => ?_) (fun cdv A0 outer s H vs Q E hr h => ?_)
  · obtain ⟨a, dx, k, hk, rfl, _⟩ := h
    cases k <;> first | rfl | cases hk
  · obtain ⟨a, dx, k, hk, rfl, ha, ok, q⟩ := h
    refine ⟨_, (pss_one (ps_fld (pv 0) (pe_tup pa_nil) (by rfl))), ?_⟩
    cases k with
    | st =>
      have sm : Same' H H := fun _ _ e => e
      refine ⟨ by show 0 ≤ sizeLine; decide, fun t ht => ?_⟩
      have na : a ≠ t := ne_of_none (sm _ _ ha) ht
      refine ⟨.ref a, rfl, a, A 5, dx, [], rfl, by rw [upd_ne na]; exact sm _ _ ha, S.c 5 (by decide), S.no 5 (by decide) _ (by simp), by show 0 < 1000; decide, ?_⟩
      obtain ⟨k1, k2⟩ := fin_keep (o := .ins (A 5) dx ((.st : DK).flds t)) (xs := (.st : DK).args) (.of sm) (sm _ _ ha) ht
      exact q _ k1 ⟨dx, t, upd_same, k2⟩
    | _ => cases hk
end
end My
namespace My
open PySem PySem.Spec PyProof.Rows L2
def names4 : List Str := ["x", "y", "f", "abcdefgh"]
def far3 : List Str := ["x", "y", "z"]
def words5 : List Str := ["a", "x", "none", "abcdefgh", "log"]
def vals4 : List Int := [0, 1, 2, 3]
/-- all deeds that the law makes -/
def rows : List DK := (names4.flatMap fun n => vals4.map (DK.put n)) ++ (names4.flatMap fun n => far3.map (DK.copy n)) ++ (names4.flatMap fun n => words5.map (DK.say n)) ++ names4.map DK.fail ++ [.lv, .st, .say "l" "a", .say "a" "l"]
def shB (k : DK) : Bool := SeqAt.shaped (.tuple k.argD)
theorem rows_ok : ∀ k ∈ rows, k.okB = true ∧ shB k = true := by decide +kernel
theorem args_dp {K : PySem.W.Frag} {H : Hp} (k : DK) : DpAll K H k.args k.argD := by
  cases k with
  | put n i => exact .cons (.str _) (.cons (.int _) .nil)
  | copy a b => exact .cons (.str _) (.cons (.str _) .nil)
  | say a b => exact .cons (.str _) (.cons (.str _) .nil)
  | fail n => exact .cons (.str _) .nil
  | lv => exact .nil
  | st => exact .nil
theorem eqv_args (k k2 : DK) (h : k.ix = k2.ix) : PyData.eqv (.tuple k.argD) (.tuple k2.argD) = decide (k = k2) := by
  have bd : ∀ a b : Str, (a == b) = decide (a = b) := fun a b => by
    rw [Bool.eq_iff_iff]
    simp
  have bi : ∀ a b : Int, (a == b) = decide (a = b) := fun a b => by
    rw [Bool.eq_iff_iff]
    simp
  cases k <;> cases k2 <;> first | (cases h; done) | (simp [DK.argD, PyData.eqv, PyData.eqvAll, bd, bi])
/-- what stands beside a deed in == -/
def Other (K : PySem.W.Frag) (A : Nat → Addr) (H : Hp) (y : V) (k : DK) (r : Bool) : Prop := (∃ b k2, y = .ref b ∧ IsD A H b k2 ∧ k2 ∈ rows ∧ r = decide (k = k2)) ∨ ((∃ t, TyX K H y t ∧ PySem.W.kitOne K t (.ref (A k.ix)) = some false) ∧ r = false)
def spEq (K : PySem.W.Frag) (A : Nat → Addr) (j : Nat) : Sp := fun vs H Q _ => ∃ (a : Addr) (k : DK) (y : V) (r : Bool), vs = [.ref a, y] ∧ k.ix = j ∧ k ∈ rows ∧ IsD A H a k ∧ Other K A H y k r ∧ Q (.bl r) H
theorem other_kit {K : PySem.W.Frag} {mg : Str → Option Value} {A : Nat → Addr} {H : Hp} {y : V} {k : DK} {r : Bool} (S : Dd K mg A) (o : Other K A H y k r) : ∃ t b, TyX K H y t ∧ PySem.W.kitOne K t (.ref (A k.ix)) = some b ∧ (b = true → ∃ c k2, y = .ref c ∧ IsD A H c k2 ∧ k2 ∈ rows ∧ k2.ix = k.ix ∧ r = decide (k = k2)) ∧ (b = false → r = false) := by
  rcases o with ⟨b, k2, rfl, h2, m2, er⟩ | ⟨⟨t, ty, kt⟩, er⟩
  · refine ⟨_, decide (k2.ix = k.ix), S.ty h2, S.kit _ _ k2.ix_lt k.ix_lt, fun e => ⟨b, k2, rfl, h2, m2, of_decide_eq_true e, er⟩, fun e => ?_⟩
    rw [er]
    refine decide_eq_false fun z => ?_
    rw [z] at e
    simp at e
  · exact ⟨t, false, ty, kt, fun z => (nomatch z), fun _ => er⟩
theorem at_fields {k : DK} (t : Addr) : (k.flds t).lookup (Str.ofString "fields") = some (V.ref t) := by
  cases k <;> rfl
section
variable {P : Program} {w : World} {K : PySem.W.Frag} {mg : Str → Option Value} {base : Heap} {A : Nat → Addr}
theorem scPutE : FnScope ["self", "other"] ["self", "other"] (defScope sPutE) := ⟨rfl, rfl, rfl, by decide +kernel, rfl, by decide +kernel, by decide +kernel⟩
theorem ok_putE {f : Addr} {fd : FuncData} (F : Fun K "__eq__" "Put.__eq__" sPutE f fd) (S : Dd K mg A) (T : Txt mg) : FnOk P w K mg base CX0 1 f fd ["self", "other"] (spEq K A 0) := by
  refine F.ok scPutE (fun vs H Q E h => ?_) (fun cdv A0 outer s H vs Q E hr h => ?_)
  · obtain ⟨a, k, y, r, rfl, _⟩ := h
    rfl
  · obtain ⟨a, k, y, r, rfl, hk, mk, ha, o, q⟩ := h
    have hu : (A0.deeper (envOfC "Put.__eq__" (defScope sPutE) s.heap.objs.size f cdv)).units + 64 < cLine := hr.units
    refine ⟨_, pss_one (ps_ret (pe_and (pe_callB call_isi (by rfl) T.isi (by decide +kernel) (pa_cons (pv 1) (pa_cons (pe_glob (v := .ref (A 0)) rfl (S.g 0 (by decide)) rfl) pa_nil))) (pe_one (pe_cmpR (op_eqD hu) (pe_fld (pv 0) (by rfl)) (pe_fld (pv 1) (by rfl)) (nomark _))))), ?_⟩
    obtain ⟨t, b, ty, kt, h1, h2⟩ := other_kit S o
    rw [hk] at kt
    refine ⟨y, rfl, y, .ref (A 0), t, .ref (A 0), b, rfl, .own _, ty, kt, b, rfl, ?_⟩
    cases b with
    | false => exact iteF (h2 rfl ▸ q)
    | true =>
      obtain ⟨c, k2, rfl, hc, m2, e2, er⟩ := h1 rfl
      obtain ⟨dx, t1, ea, et⟩ := ha
      obtain ⟨dx2, t2, ec, et2⟩ := hc
      refine iteT ⟨.ref a, rfl, a, _, dx, _, .ref t1, rfl, ea, S.c _ k.ix_lt, S.no _ k.ix_lt _ (by simp), at_fields t1, .ref c, rfl, c, _, dx2, _, .ref t2, rfl, ec, S.c _ k2.ix_lt, S.no _ k2.ix_lt _ (by simp), at_fields t2, ?_⟩
      refine ⟨.tuple k.argD, .tuple k2.argD, .tup (SqT.of et) (args_dp k), .tup (SqT.of et2) (args_dp k2), (rows_ok k mk).2, (rows_ok k2 m2).2, ?_⟩
      rw [eqv_args k k2 e2.symm, ← er]
      exact q
theorem scCopyE : FnScope ["self", "other"] ["self", "other"] (defScope sCopyE) := ⟨rfl, rfl, rfl, by decide +kernel, rfl, by decide +kernel, by decide +kernel⟩
theorem ok_copyE {f : Addr} {fd : FuncData} (F : Fun K "__eq__" "Copy.__eq__" sCopyE f fd) (S : Dd K mg A) (T : Txt mg) : FnOk P w K mg base CX0 1 f fd ["self", "other"] (spEq K A 1) := by
  refine F.ok scCopyE (fun vs H Q E h => ?_) (fun cdv A0 outer s H vs Q E hr h => ?_)
  · obtain ⟨a, k, y, r, rfl, _⟩ := h
    rfl
  · obtain ⟨a, k, y, r, rfl, hk, mk, ha, o, q⟩ := h
    have hu : (A0.deeper (envOfC "Copy.__eq__" (defScope sCopyE) s.heap.objs.size f cdv)).units + 64 < cLine := hr.units
    refine ⟨_, pss_one (ps_ret (pe_and (pe_callB call_isi (by rfl) T.isi (by decide +kernel) (pa_cons (pv 1) (pa_cons (pe_glob (v := .ref (A 1)) rfl (S.g 1 (by decide)) rfl) pa_nil))) (pe_one (pe_cmpR (op_eqD hu) (pe_fld (pv 0) (by rfl)) (pe_fld (pv 1) (by rfl)) (nomark _))))), ?_⟩
    obtain ⟨t, b, ty, kt, h1, h2⟩ := other_kit S o
    rw [hk] at kt
    refine ⟨y, rfl, y, .ref (A 1), t, .ref (A 1), b, rfl, .own _, ty, kt, b, rfl, ?_⟩
    cases b with
    | false => exact iteF (h2 rfl ▸ q)
    | true =>
      obtain ⟨c, k2, rfl, hc, m2, e2, er⟩ := h1 rfl
      obtain ⟨dx, t1, ea, et⟩ := ha
      obtain ⟨dx2, t2, ec, et2⟩ := hc
      refine iteT ⟨.ref a, rfl, a, _, dx, _, .ref t1, rfl, ea, S.c _ k.ix_lt, S.no _ k.ix_lt _ (by simp), at_fields t1, .ref c, rfl, c, _, dx2, _, .ref t2, rfl, ec, S.c _ k2.ix_lt, S.no _ k2.ix_lt _ (by simp), at_fields t2, ?_⟩
      refine ⟨.tuple k.argD, .tuple k2.argD, .tup (SqT.of et) (args_dp k), .tup (SqT.of et2) (args_dp k2), (rows_ok k mk).2, (rows_ok k2 m2).2, ?_⟩
      rw [eqv_args k k2 e2.symm, ← er]
      exact q
theorem scSayE : FnScope ["self", "other"] ["self", "other"] (defScope sSayE) := ⟨rfl, rfl, rfl, by decide +kernel, rfl, by decide +kernel, by decide +kernel⟩
theorem ok_sayE {f : Addr} {fd : FuncData} (F : Fun K "__eq__" "Say.__eq__" sSayE f fd) (S : Dd K mg A) (T : Txt mg) : FnOk P w K mg base CX0 1 f fd ["self", "other"] (spEq K A 2) := by
  refine F.ok scSayE (fun vs H Q E h => ?_) (fun cdv A0 outer s H vs Q E hr h => ?_)
  · obtain ⟨a, k, y, r, rfl, _⟩ := h
    rfl
  · obtain ⟨a, k, y, r, rfl, hk, mk, ha, o, q⟩ := h
    have hu : (A0.deeper (envOfC "Say.__eq__" (defScope sSayE) s.heap.objs.size f cdv)).units + 64 < cLine := hr.units
    refine ⟨_, pss_one (ps_ret (pe_and (pe_callB call_isi (by rfl) T.isi (by decide +kernel) (pa_cons (pv 1) (pa_cons (pe_glob (v := .ref (A 2)) rfl (S.g 2 (by decide)) rfl) pa_nil))) (pe_one (pe_cmpR (op_eqD hu) (pe_fld (pv 0) (by rfl)) (pe_fld (pv 1) (by rfl)) (nomark _))))), ?_⟩
    obtain ⟨t, b, ty, kt, h1, h2⟩ := other_kit S o
    rw [hk] at kt
    refine ⟨y, rfl, y, .ref (A 2), t, .ref (A 2), b, rfl, .own _, ty, kt, b, rfl, ?_⟩
    cases b with
    | false => exact iteF (h2 rfl ▸ q)
    | true =>
      obtain ⟨c, k2, rfl, hc, m2, e2, er⟩ := h1 rfl
      obtain ⟨dx, t1, ea, et⟩ := ha
      obtain ⟨dx2, t2, ec, et2⟩ := hc
      refine iteT ⟨.ref a, rfl, a, _, dx, _, .ref t1, rfl, ea, S.c _ k.ix_lt, S.no _ k.ix_lt _ (by simp), at_fields t1, .ref c, rfl, c, _, dx2, _, .ref t2, rfl, ec, S.c _ k2.ix_lt, S.no _ k2.ix_lt _ (by simp), at_fields t2, ?_⟩
      refine ⟨.tuple k.argD, .tuple k2.argD, .tup (SqT.of et) (args_dp k), .tup (SqT.of et2) (args_dp k2), (rows_ok k mk).2, (rows_ok k2 m2).2, ?_⟩
      rw [eqv_args k k2 e2.symm, ← er]
      exact q
theorem scFailE : FnScope ["self", "other"] ["self", "other"] (defScope sFailE) := ⟨rfl, rfl, rfl, by decide +kernel, rfl, by decide +kernel, by decide +kernel⟩
theorem ok_failE {f : Addr} {fd : FuncData} (F : Fun K "__eq__" "Fail.__eq__" sFailE f fd) (S : Dd K mg A) (T : Txt mg) : FnOk P w K mg base CX0 1 f fd ["self", "other"] (spEq K A 3) := by
  refine F.ok scFailE (fun vs H Q E h => ?_) (fun cdv A0 outer s H vs Q E hr h => ?_)
  · obtain ⟨a, k, y, r, rfl, _⟩ := h
    rfl
  · obtain ⟨a, k, y, r, rfl, hk, mk, ha, o, q⟩ := h
    have hu : (A0.deeper (envOfC "Fail.__eq__" (defScope sFailE) s.heap.objs.size f cdv)).units + 64 < cLine := hr.units
    refine ⟨_, pss_one (ps_ret (pe_and (pe_callB call_isi (by rfl) T.isi (by decide +kernel) (pa_cons (pv 1) (pa_cons (pe_glob (v := .ref (A 3)) rfl (S.g 3 (by decide)) rfl) pa_nil))) (pe_one (pe_cmpR (op_eqD hu) (pe_fld (pv 0) (by rfl)) (pe_fld (pv 1) (by rfl)) (nomark _))))), ?_⟩
    obtain ⟨t, b, ty, kt, h1, h2⟩ := other_kit S o
    rw [hk] at kt
    refine ⟨y, rfl, y, .ref (A 3), t, .ref (A 3), b, rfl, .own _, ty, kt, b, rfl, ?_⟩
    cases b with
    | false => exact iteF (h2 rfl ▸ q)
    | true =>
      obtain ⟨c, k2, rfl, hc, m2, e2, er⟩ := h1 rfl
      obtain ⟨dx, t1, ea, et⟩ := ha
      obtain ⟨dx2, t2, ec, et2⟩ := hc
      refine iteT ⟨.ref a, rfl, a, _, dx, _, .ref t1, rfl, ea, S.c _ k.ix_lt, S.no _ k.ix_lt _ (by simp), at_fields t1, .ref c, rfl, c, _, dx2, _, .ref t2, rfl, ec, S.c _ k2.ix_lt, S.no _ k2.ix_lt _ (by simp), at_fields t2, ?_⟩
      refine ⟨.tuple k.argD, .tuple k2.argD, .tup (SqT.of et) (args_dp k), .tup (SqT.of et2) (args_dp k2), (rows_ok k mk).2, (rows_ok k2 m2).2, ?_⟩
      rw [eqv_args k k2 e2.symm, ← er]
      exact q
theorem scLeaveE : FnScope ["self", "other"] ["self", "other"] (defScope sLeaveE) := ⟨rfl, rfl, rfl, by decide +kernel, rfl, by decide +kernel, by decide +kernel⟩
theorem ok_lvE {f : Addr} {fd : FuncData} (F : Fun K "__eq__" "Leave.__eq__" sLeaveE f fd) (S : Dd K mg A) (T : Txt mg) : FnOk P w K mg base CX0 1 f fd ["self", "other"] (spEq K A 4) := by
  refine F.ok scLeaveE (fun vs H Q E h => ?_) (fun cdv A0 outer s H vs Q E hr h => ?_)
  · obtain ⟨a, k, y, r, rfl, _⟩ := h
    rfl
  · obtain ⟨a, k, y, r, rfl, hk, mk, ha, o, q⟩ := h
    refine ⟨_, pss_one (ps_ret (pe_callB call_isi (by rfl) T.isi (by decide +kernel) (pa_cons (pv 1) (pa_cons (pe_glob (v := .ref (A 4)) rfl (S.g 4 (by decide)) rfl) pa_nil)))), ?_⟩
    obtain ⟨t, b, ty, kt, h1, h2⟩ := other_kit S o
    rw [hk] at kt
    refine ⟨y, rfl, y, .ref (A 4), t, .ref (A 4), b, rfl, .own _, ty, kt, ?_⟩
    cases b with
    | false => exact h2 rfl ▸ q
    | true =>
      obtain ⟨c, k2, rfl, hc, m2, e2, er⟩ := h1 rfl
      have e : k = k2 := by
        rw [hk] at e2
        cases k <;> cases k2 <;> first | rfl | (cases hk; done) | (cases e2; done)
      rw [er, decide_eq_true e] at q
      exact q
theorem scStopE : FnScope ["self", "other"] ["self", "other"] (defScope sStopE) := ⟨rfl, rfl, rfl, by decide +kernel, rfl, by decide +kernel, by decide +kernel⟩
theorem ok_stE {f : Addr} {fd : FuncData} (F : Fun K "__eq__" "Stop.__eq__" sStopE f fd) (S : Dd K mg A) (T : Txt mg) : FnOk P w K mg base CX0 1 f fd ["self", "other"] (spEq K A 5) := by
  refine F.ok scStopE (fun vs H Q E h => ?_) (fun cdv A0 outer s H vs Q E hr h => ?_)
  · obtain ⟨a, k, y, r, rfl, _⟩ := h
    rfl
  · obtain ⟨a, k, y, r, rfl, hk, mk, ha, o, q⟩ := h
    refine ⟨_, pss_one (ps_ret (pe_callB call_isi (by rfl) T.isi (by decide +kernel) (pa_cons (pv 1) (pa_cons (pe_glob (v := .ref (A 5)) rfl (S.g 5 (by decide)) rfl) pa_nil)))), ?_⟩
    obtain ⟨t, b, ty, kt, h1, h2⟩ := other_kit S o
    rw [hk] at kt
    refine ⟨y, rfl, y, .ref (A 5), t, .ref (A 5), b, rfl, .own _, ty, kt, ?_⟩
    cases b with
    | false => exact h2 rfl ▸ q
    | true =>
      obtain ⟨c, k2, rfl, hc, m2, e2, er⟩ := h1 rfl
      have e : k = k2 := by
        rw [hk] at e2
        cases k <;> cases k2 <;> first | rfl | (cases hk; done) | (cases e2; done)
      rw [er, decide_eq_true e] at q
      exact q
end
end My
namespace My
open PySem PySem.Spec PyProof.Rows L2
theorem len_app (x y : Str) : (x ++ y).length = x.length + y.length := by
  show (x.cps ++ y.cps).size = x.cps.size + y.cps.size
  simp
def DK.text : DK → Str
  | .put n i => (((Str.empty ++ "put ") ++ n) ++ " ") ++ (toString i : Str)
  | .copy a b => (((Str.empty ++ "copy ") ++ a) ++ " ") ++ b
  | .say a b => (((Str.empty ++ "say ") ++ a) ++ " ") ++ b
  | .fail n => (Str.empty ++ "fail ") ++ n
  | .lv => "none"
  | .st => "stop"
def intB : DK → Bool
  | .put _ i => decide (i.natAbs.log2 < 1920)
  | _ => true
theorem rows_text : ∀ k ∈ rows, k.text.length ≤ 2000 ∧ intB k = true := by decide +kernel
def spStr (A : Nat → Addr) (j : Nat) : Sp := fun vs H Q _ => ∃ (a : Addr) (k : DK), vs = [.ref a] ∧ k.ix = j ∧ k ∈ rows ∧ IsD A H a k ∧ Q (.str k.text) H
theorem fmt_fld {X : Cx} {C : Addr} {i : Nat} {σ : L2.St} {H : Hp} {f : Str} {Q : VK} {a dx : Addr} {fs : List (Str × V)} {v : V} (h0 : σ[i]? = some (some (.ref a))) (e : H a = some (.ins C dx fs)) (c : Cls X.K C) (n : NoAttr X.K C f) (l : fs.lookup f = some v)
    (q : (∃ y : Str, v = .str y ∧ y.length ≤ sizeLine ∧ Q (.str y) H) ∨ ∃ j : Int, v = .int j ∧ j.natAbs.log2 < 1920 ∧ Q (.str (toString j)) H) : tFmt (tFld X.K (tVar i) f) σ H Q := ⟨.ref a, h0, a, C, dx, fs, v, rfl, e, c, n, l, q⟩
section
variable {P : Program} {w : World} {K : PySem.W.Frag} {mg : Str → Option Value} {base : Heap} {A : Nat → Addr}
theorem scPutT : FnScope ["self"] ["self"] (defScope sPutT) := ⟨rfl, rfl, rfl, by decide +kernel, rfl, by decide +kernel, by decide +kernel⟩
theorem ok_putT {f : Addr} {fd : FuncData} (F : Fun K "__str__" "Put.__str__" sPutT f fd) (S : Dd K mg A) : FnOk P w K mg base CX0 1 f fd ["self"] (spStr A 0) := by
  refine F.ok scPutT (fun vs H Q E h => ?_) (fun cdv A0 outer s H vs Q E hr h => ?_)
  · obtain ⟨a, k, rfl, _⟩ := h
    rfl
  · obtain ⟨a, k, rfl, hk, mk, ⟨dx, t, ea, et⟩, q⟩ := h
    obtain ⟨tl, ti⟩ := rows_text k mk
    refine ⟨_, pss_one (ps_ret (pe_joined (.cons pe_str (.cons (pe_fmt (pe_fld (pv 0) (by rfl))) (.cons pe_str (.cons (pe_fmt (pe_fld (pv 0) (by rfl))) .nil)))))), ?_⟩
    have big : (2000 : Nat) ≤ sizeLine := by decide
    cases k with
    | put n i =>
      have t2 : ((((Str.empty ++ "put ") ++ n) ++ " ") ++ (toString i : Str)).length ≤ 2000 := tl
      simp only [len_app] at t2
      refine ⟨_, rfl, by simp only [len_app]; omega, ?_⟩
      refine fmt_fld (σ := L2.start ["self"] [V.ref a]) rfl ea (S.c 0 (by decide)) (S.no 0 (by decide) _ (by simp)) rfl (.inl ⟨n, rfl, by omega, ?_⟩)
      refine ⟨_, rfl, by simp only [len_app]; omega, ?_⟩
      refine ⟨_, rfl, by simp only [len_app]; omega, ?_⟩
      refine fmt_fld (σ := L2.start ["self"] [V.ref a]) rfl ea (S.c 0 (by decide)) (S.no 0 (by decide) _ (by simp)) rfl (.inr ⟨i, rfl, of_decide_eq_true ti, ?_⟩)
      refine ⟨_, rfl, by simp only [len_app]; omega, ?_⟩
      exact q
    | _ => cases hk
theorem scCopyT : FnScope ["self"] ["self"] (defScope sCopyT) := ⟨rfl, rfl, rfl, by decide +kernel, rfl, by decide +kernel, by decide +kernel⟩
theorem ok_copyT {f : Addr} {fd : FuncData} (F : Fun K "__str__" "Copy.__str__" sCopyT f fd) (S : Dd K mg A) : FnOk P w K mg base CX0 1 f fd ["self"] (spStr A 1) := by
  refine F.ok scCopyT (fun vs H Q E h => ?_) (fun cdv A0 outer s H vs Q E hr h => ?_)
  · obtain ⟨a, k, rfl, _⟩ := h
    rfl
  · obtain ⟨a, k, rfl, hk, mk, ⟨dx, t, ea, et⟩, q⟩ := h
    obtain ⟨tl, ti⟩ := rows_text k mk
    refine ⟨_, pss_one (ps_ret (pe_joined (.cons pe_str (.cons (pe_fmt (pe_fld (pv 0) (by rfl))) (.cons pe_str (.cons (pe_fmt (pe_fld (pv 0) (by rfl))) .nil)))))), ?_⟩
    have big : (2000 : Nat) ≤ sizeLine := by decide
    cases k with
    | copy n m =>
      have t2 : ((((Str.empty ++ "copy ") ++ n) ++ " ") ++ m).length ≤ 2000 := tl
      simp only [len_app] at t2
      refine ⟨_, rfl, by simp only [len_app]; omega, ?_⟩
      refine fmt_fld (σ := L2.start ["self"] [V.ref a]) rfl ea (S.c 1 (by decide)) (S.no 1 (by decide) _ (by simp)) rfl (.inl ⟨n, rfl, by omega, ?_⟩)
      refine ⟨_, rfl, by simp only [len_app]; omega, ?_⟩
      refine ⟨_, rfl, by simp only [len_app]; omega, ?_⟩
      refine fmt_fld (σ := L2.start ["self"] [V.ref a]) rfl ea (S.c 1 (by decide)) (S.no 1 (by decide) _ (by simp)) rfl (.inl ⟨m, rfl, by omega, ?_⟩)
      refine ⟨_, rfl, by simp only [len_app]; omega, ?_⟩
      exact q
    | _ => cases hk
theorem scSayT : FnScope ["self"] ["self"] (defScope sSayT) := ⟨rfl, rfl, rfl, by decide +kernel, rfl, by decide +kernel, by decide +kernel⟩
theorem ok_sayT {f : Addr} {fd : FuncData} (F : Fun K "__str__" "Say.__str__" sSayT f fd) (S : Dd K mg A) : FnOk P w K mg base CX0 1 f fd ["self"] (spStr A 2) := by
  refine F.ok scSayT (fun vs H Q E h => ?_) (fun cdv A0 outer s H vs Q E hr h => ?_)
  · obtain ⟨a, k, rfl, _⟩ := h
    rfl
  · obtain ⟨a, k, rfl, hk, mk, ⟨dx, t, ea, et⟩, q⟩ := h
    obtain ⟨tl, ti⟩ := rows_text k mk
    refine ⟨_, pss_one (ps_ret (pe_joined (.cons pe_str (.cons (pe_fmt (pe_fld (pv 0) (by rfl))) (.cons pe_str (.cons (pe_fmt (pe_fld (pv 0) (by rfl))) .nil)))))), ?_⟩
    have big : (2000 : Nat) ≤ sizeLine := by decide
    cases k with
    | say n m =>
      have t2 : ((((Str.empty ++ "say ") ++ n) ++ " ") ++ m).length ≤ 2000 := tl
      simp only [len_app] at t2
      refine ⟨_, rfl, by simp only [len_app]; omega, ?_⟩
      refine fmt_fld (σ := L2.start ["self"] [V.ref a]) rfl ea (S.c 2 (by decide)) (S.no 2 (by decide) _ (by simp)) rfl (.inl ⟨n, rfl, by omega, ?_⟩)
      refine ⟨_, rfl, by simp only [len_app]; omega, ?_⟩
      refine ⟨_, rfl, by simp only [len_app]; omega, ?_⟩
      refine fmt_fld (σ := L2.start ["self"] [V.ref a]) rfl ea (S.c 2 (by decide)) (S.no 2 (by decide) _ (by simp)) rfl (.inl ⟨m, rfl, by omega, ?_⟩)
      refine ⟨_, rfl, by simp only [len_app]; omega, ?_⟩
      exact q
    | _ => cases hk
theorem scFailT : FnScope ["self"] ["self"] (defScope sFailT) := ⟨rfl, rfl, rfl, by decide +kernel, rfl, by decide +kernel, by decide +kernel⟩
theorem ok_failT {f : Addr} {fd : FuncData} (F : Fun K "__str__" "Fail.__str__" sFailT f fd) (S : Dd K mg A) : FnOk P w K mg base CX0 1 f fd ["self"] (spStr A 3) := by
  refine F.ok scFailT (fun vs H Q E h => ?_) (fun cdv A0 outer s H vs Q E hr h => ?_)
  · obtain ⟨a, k, rfl, _⟩ := h
    rfl
  · obtain ⟨a, k, rfl, hk, mk, ⟨dx, t, ea, et⟩, q⟩ := h
    obtain ⟨tl, ti⟩ := rows_text k mk
    refine ⟨_, pss_one (ps_ret (pe_joined (.cons pe_str (.cons (pe_fmt (pe_fld (pv 0) (by rfl))) .nil)))), ?_⟩
    have big : (2000 : Nat) ≤ sizeLine := by decide
    cases k with
    | fail n =>
      have t2 : ((Str.empty ++ "fail ") ++ n).length ≤ 2000 := tl
      simp only [len_app] at t2
      refine ⟨_, rfl, by simp only [len_app]; omega, ?_⟩
      refine fmt_fld (σ := L2.start ["self"] [V.ref a]) rfl ea (S.c 3 (by decide)) (S.no 3 (by decide) _ (by simp)) rfl (.inl ⟨n, rfl, by omega, ?_⟩)
      refine ⟨_, rfl, by simp only [len_app]; omega, ?_⟩
      exact q
    | _ => cases hk
theorem scLeaveT : FnScope ["self"] ["self"] (defScope sLeaveT) := ⟨rfl, rfl, rfl, by decide +kernel, rfl, by decide +kernel, by decide +kernel⟩
theorem ok_lvT {f : Addr} {fd : FuncData} (F : Fun K "__str__" "Leave.__str__" sLeaveT f fd) (S : Dd K mg A) : FnOk P w K mg base CX0 1 f fd ["self"] (spStr A 4) := by
  refine F.ok scLeaveT (fun vs H Q E h => ?_) (fun cdv A0 outer s H vs Q E hr h => ?_)
  · obtain ⟨a, k, rfl, _⟩ := h
    rfl
  · obtain ⟨a, k, rfl, hk, mk, ⟨dx, t, ea, et⟩, q⟩ := h
    obtain ⟨tl, ti⟩ := rows_text k mk
    refine ⟨_, pss_one (ps_ret pe_str), ?_⟩
    cases k with
    | lv => exact q
    | _ => cases hk
theorem scStopT : FnScope ["self"] ["self"] (defScope sStopT) := ⟨rfl, rfl, rfl, by decide +kernel, rfl, by decide +kernel, by decide +kernel⟩
theorem ok_stT {f : Addr} {fd : FuncData} (F : Fun K "__str__" "Stop.__str__" sStopT f fd) (S : Dd K mg A) : FnOk P w K mg base CX0 1 f fd ["self"] (spStr A 5) := by
  refine F.ok scStopT (fun vs H Q E h => ?_) (fun cdv A0 outer s H vs Q E hr h => ?_)
  · obtain ⟨a, k, rfl, _⟩ := h
    rfl
  · obtain ⟨a, k, rfl, hk, mk, ⟨dx, t, ea, et⟩, q⟩ := h
    obtain ⟨tl, ti⟩ := rows_text k mk
    refine ⟨_, pss_one (ps_ret pe_str), ?_⟩
    cases k with
    | st => exact q
    | _ => cases hk
end
end My
/-! max([], default = i); list(zip([], t)) -/
namespace MyZ
open PySem RZ
open Sem (wp)
theorem zip_no_len : typeLookup (.type "zip") "__len__" = pure none := by rw [typeLookup_type, builtinLookup_eq_fast]; kernel_rfl
theorem zip_no_hint : typeLookup (.type "zip") "__length_hint__" = pure none := by rw [typeLookup_type, builtinLookup_eq_fast]; kernel_rfl
abbrev zH1 (h : Heap) (l1 : Addr) : Heap := h.push { cls := .type "list_iterator", data := .fields #[.ref l1, .int 0 0] }
abbrev zH2 (h : Heap) (l1 l2 : Addr) : Heap := (zH1 h l1).push { cls := .type "tuple_iterator", data := .fields #[.ref l2, .int 0 0] }
abbrev zH3 (h : Heap) (l1 l2 : Addr) : Heap := (zH2 h l1 l2).push { cls := .type "tuple", data := .seq #[.ref h.objs.size, .ref (zH1 h l1).objs.size] }
abbrev zH4 (h : Heap) (l1 l2 : Addr) : Heap := (zH3 h l1 l2).push { cls := .type "tuple", data := .seq #[.none, .none] }
abbrev zH5 (h : Heap) (l1 l2 : Addr) : Heap := (zH4 h l1 l2).push { cls := .type "zip", data := .fields #[.none, .bool false, .bool false, .ref (zH2 h l1 l2).objs.size, .ref (zH3 h l1 l2).objs.size] }
theorem meets_zipL_new (l1 l2 : Addr) (xs ys : Array Value) :
    Meets (Builtin.«zip.__new__» ⟨[.type "zip", .ref l1, .ref l2], []⟩) (fun _ R s => s.heap.IsList l1 xs ∧ s.heap.IsTuple l2 ys ∧
      R (.ok (.ret (.ref (zH4 s.heap l1 l2).objs.size))) { s with heap := zH5 s.heap l1 l2 }) :=
  .of_wp fun prog w A R s h => by
    obtain ⟨hp, g, d, tk, os⟩ := s; obtain ⟨hl1, hl2, h⟩ := h
    have hsub := sub_zip
    have hL1 : Heap.IsList (Shared.heap ⟨hp, g, d, tk, os⟩) l1 xs := hl1
    have hL2 : Heap.IsTuple (Shared.heap ⟨hp.push { cls := .type "list_iterator", data := .fields #[.ref l1, .int 0 0] }, g, d, tk, os⟩) l2 ys := Heap.IsTuple.push hl2 _
    wp_walk using wpAny_pyIter_list hL1, wpAny_pyIter_tuple hL2
    exact ⟨_, rfl, h⟩
section
variable {prog : Program} {w : World} {A : Around} {E : Value → Shared → Prop} {s : Shared}
theorem call_zipL {l1 l2 : Addr} {xs ys : Array Value} {Q : Value → Shared → Prop} (hl1 : s.heap.IsList l1 xs) (hl2 : s.heap.IsTuple l2 ys)
    (h : ∀ h', IsZip h' (s.heap.objs.size + 4) (s.heap.objs.size + 2) (s.heap.objs.size + 3) .none → IsPair h' (s.heap.objs.size + 2) (.ref s.heap.objs.size) (.ref (s.heap.objs.size + 1)) →
      IsPair h' (s.heap.objs.size + 3) .none .none → h'.IsListIter s.heap.objs.size l1 0 → h'.IsTupleIter (s.heap.objs.size + 1) l2 0 → h'.objs.size = s.heap.objs.size + 5 →
      (∀ c o, s.heap.get? c = some o → h'.get? c = some o) → Q (.ref (s.heap.objs.size + 4)) { s with heap := h' }) :
    wpAny (model prog w) A (call (.type "zip") [.ref l1, .ref l2]) Q E s := by
  refine callType_new F.called_zip (by decide) (F.typeCall_zip_2 _ _) (F.newCall_zip_2 _ _) (fun obj => F.args_object_init_3 obj _ _) F.entry_zip_new
    (meets_zipL_new l1 l2 xs ys) ⟨hl1, hl2, ?_⟩
  have z1 : (zH1 s.heap l1).objs.size = s.heap.objs.size + 1 := Heap.size_push ..
  have z2 : (zH2 s.heap l1 l2).objs.size = s.heap.objs.size + 2 := by rw [Heap.size_push, z1]
  have z3 : (zH3 s.heap l1 l2).objs.size = s.heap.objs.size + 3 := by rw [Heap.size_push, z2]
  have z4 : (zH4 s.heap l1 l2).objs.size = s.heap.objs.size + 4 := by rw [Heap.size_push, z3]
  have z5 : (zH5 s.heap l1 l2).objs.size = s.heap.objs.size + 5 := by rw [Heap.size_push, z4]
  have g5 : (zH5 s.heap l1 l2).get? (zH4 s.heap l1 l2).objs.size = some _ := Heap.get?_push_size _ rfl
  have g4 : (zH5 s.heap l1 l2).get? (zH3 s.heap l1 l2).objs.size = some _ := Heap.get?_push_of_some _ (Heap.get?_push_size _ rfl)
  have g3 : (zH5 s.heap l1 l2).get? (zH2 s.heap l1 l2).objs.size = some _ := Heap.get?_push_of_some _ (Heap.get?_push_of_some _ (Heap.get?_push_size _ rfl))
  have g2 : (zH5 s.heap l1 l2).get? (zH1 s.heap l1).objs.size = some _ := Heap.get?_push_of_some _ (Heap.get?_push_of_some _ (Heap.get?_push_of_some _ (Heap.get?_push_size _ rfl)))
  have g1 : (zH5 s.heap l1 l2).get? s.heap.objs.size = some _ := Heap.get?_push_of_some _ (Heap.get?_push_of_some _ (Heap.get?_push_of_some _ (Heap.get?_push_of_some _ (Heap.get?_push_size _ rfl))))
  show _ ∧ _
  rw [z2, z3, z4] at g5
  rw [z1, z2] at g3
  rw [z3] at g4
  rw [z1] at g2
  rw [z4]
  exact ⟨⟨_, g5, rfl⟩, h _ g5 g3 g4 ⟨_, g1, rfl, rfl⟩ ⟨_, g2, rfl, rfl⟩ z5 fun c o x =>
    Heap.get?_push_of_some _ (Heap.get?_push_of_some _ (Heap.get?_push_of_some _ (Heap.get?_push_of_some _ (Heap.get?_push_of_some _ x))))⟩
theorem sep_of {n a b : Nat} (la : a < n) (lb : b < n) : ZipSep2 (n + 4) (n + 2) (n + 3) n (n + 1) [n, a] [n + 1, b] where
  TIz := fun e => absurd (show (n + 2 : Nat) = n + 4 from e) (by omega)
  TOz := fun e => absurd (show (n + 3 : Nat) = n + 4 from e) (by omega)
  TITO := fun e => absurd (show (n + 2 : Nat) = n + 3 from e) (by omega)
  TIi1 := fun e => absurd (show (n + 2 : Nat) = n from e) (by omega)
  mem1 := List.mem_cons_self
  zf1 := fun m => absurd (show (n + 4 : Nat) = n ∨ (n + 4 : Nat) = a from by simpa only [List.mem_cons, List.not_mem_nil, or_false] using m) (by omega)
  Tf1 := fun m => absurd (show (n + 3 : Nat) = n ∨ (n + 3 : Nat) = a from by simpa only [List.mem_cons, List.not_mem_nil, or_false] using m) (by omega)
  TIi2 := fun e => absurd (show (n + 2 : Nat) = n + 1 from e) (by omega)
  mem2 := List.mem_cons_self
  zf2 := fun m => absurd (show (n + 4 : Nat) = n + 1 ∨ (n + 4 : Nat) = b from by simpa only [List.mem_cons, List.not_mem_nil, or_false] using m) (by omega)
  Tf2 := fun m => absurd (show (n + 3 : Nat) = n + 1 ∨ (n + 3 : Nat) = b from by simpa only [List.mem_cons, List.not_mem_nil, or_false] using m) (by omega)
  sep1_2 := fun m => absurd (show (n : Nat) = n + 1 ∨ (n : Nat) = b from by simpa only [List.mem_cons, List.not_mem_nil, or_false] using m) (by omega)
  sep2_1 := fun m => absurd (show (n + 1 : Nat) = n ∨ (n + 1 : Nat) = a from by simpa only [List.mem_cons, List.not_mem_nil, or_false] using m) (by omega)
theorem out5 {n c k : Nat} (lt : c < n) (sz : k = n + 5) : ¬ (c = k ∨ c = n + 4 ∨ c = n + 3 ∨ c = n ∨ c = n + 1) := by omega
theorem in5 {n c a b k : Nat} (la : a < n) (lb : b < n) (sz : k = n + 5) (h : c = n + 4 ∨ c = n + 2 ∨ c = n + 3 ∨ c = n ∨ c = a ∨ c = n + 1 ∨ c = b) : c < k := by omega
/-- a zip whose first list is empty, walked: no turn -/
theorem walk_zip0 {z TI TO i1 i2 a b : Addr} {ys : Array Value} (hd : A.handled = none) (S : ZipSep2 z TI TO i1 i2 [i1, a] [i2, b]) (n1 : a ≠ i1) (n2 : b ≠ i2) :
    Walks prog w A z (z :: TI :: TO :: ([i1, a] ++ [i2, b])) [z, TO, i1, i2] 0 (fun _ _ => True) (fun _ h => IsZip h z TI TO .none ∧ IsPair h TI (.ref i1) (.ref i2) ∧ IsPair h TO .none .none ∧ (h.IsListIter i1 a 0 ∧ h.IsList a #[]) ∧ (h.IsTupleIter i2 b 0 ∧ h.IsTuple b ys)) where
  sub := fun c hc => by
    simp only [List.mem_cons, List.not_mem_nil, or_false, List.cons_append, List.nil_append] at hc ⊢
    rcases hc with h | h | h | h <;> simp [h]
  frame := fun _ h h' st hk => by
    obtain ⟨q1, q2, q3, ⟨q4, q5⟩, q6, q7⟩ := st
    exact ⟨hk z (by simp) _ q1, hk TI (by simp) _ q2, hk TO (by simp) _ q3, ⟨q4.at fun o e => hk i1 (by simp) o e, q5.at fun o e => hk a (by simp) o e⟩, q6.at fun o e => hk i2 (by simp) o e, q7.at fun o e => hk b (by simp) o e⟩
  item := fun i _ _ _ hi => absurd hi (Nat.not_lt_zero i)
  done := fun s Q E st q => by
    obtain ⟨q1, q2, q3, q45, q67⟩ := st
    refine wpAny_pyNext_zipD2_end (i := 0) S (Draws.list (prog := prog) (w := w) (A := A.in1) hd i1 a n1 #[]) (Draws.tuple (prog := prog) (w := w) (A := A.in1) hd i2 b n2 ys) q1 q2 q3 q45 q67 (Nat.zero_le _) (Nat.zero_le _) (.inl rfl) fun h' tk keep => q h' tk fun c o m e => ?_
    simp only [List.mem_cons, List.not_mem_nil, or_false, not_or] at m
    exact keep c o m.1 m.2.1 m.2.2.1 m.2.2.2 e
  self := fun _ s Q E st q => wpAny_pyIter_zip st.1 q
/-- list(z) of such a zip: a new list without items -/
theorem list_zip0 {z : Addr} {fp wr : List Addr} {St : Nat → Heap → Prop} {Q : Value → Shared → Prop} (V : Walks prog w A.in1.in1 z fp wr 0 (fun _ _ => True) St) (tz : ∀ h : Heap, St 0 h → ∃ o, h.get? z = some o ∧ o.cls = .type "zip") (st : St 0 s.heap) (below : ∀ b ∈ fp, b < s.heap.objs.size) (zin : z ∈ fp)
    (q : ∀ (h' : Heap) (tk : Nat) (c : Nat), (∀ b o, b ∉ s.heap.objs.size :: wr → b ≠ s.heap.objs.size → s.heap.get? b = some o → h'.get? b = some o) → h'.get? s.heap.objs.size = some { cls := .type "list", dict := none, data := .seq #[] c, slots := #[] } → Q (.ref s.heap.objs.size) { s with heap := h', toks := tk }) :
    wpAny (model prog w) A (call (.type "list") [.ref z]) Q E s := by
  have out : s.heap.objs.size ∉ fp := fun m => Nat.lt_irrefl _ (below _ m)
  have nz : s.heap.objs.size ≠ z := fun e => out (e ▸ zin)
  refine callType_codes (Q₁ := fun v s1 => v = .ref s.heap.objs.size ∧ s1 = { s with heap := s.heap.push { cls := .type "list", data := .seq #[] } }) F.called_list (F.typeCall_list_1 _) F.entry_list_init (code_list_new _ ⟨rfl, rfl⟩) fun v s1 e1 => ?_
  obtain ⟨rfl, rfl⟩ := e1
  have atL : (s.heap.push { cls := .type "list", data := .seq #[] }).get? s.heap.objs.size = some { cls := .type "list", data := .seq #[] } := Heap.get?_push_size _ rfl
  have st1 := V.frame 0 s.heap (s.heap.push { cls := .type "list", data := .seq #[] }) st fun b _ o e => Heap.get?_push_of_some _ e
  refine ⟨⟨_, atL, rfl⟩, F.args_list_init_2 _ _, ?_⟩
  have kind : ∀ {h : Heap} {g : Array GenState} {d : _} {tk : Nat} {os : _}, St 0 h → (⟨h, g, d, tk, os⟩ : Shared).TypeIs (.ref z) "zip" := fun {h g d tk os} x => let ⟨o, e1, e2⟩ := tz h x; ⟨o, e1, e2⟩
  show wpAny _ _ (Builtin.List.listItems (.ref s.heap.objs.size) >>= fun old => Builtin.List.listUpdate (.ref s.heap.objs.size) (fun _ => #[]) >>= fun _ => letGo old.toList.reverse >>= fun _ => Builtin.List.listExtendWith (.ref s.heap.objs.size) (.ref z) .none) _ _ _
  unfold Builtin.List.listItems
  refine wpAny_bind (wpAny_bind (wpAny_seqItems atL rfl (wpAny_pure ?_)))
  refine wpAny_bind (wpAny_updateSeq atL rfl ?_)
  have atL2 := Heap.get?_update_self (Obj.mapSeq fun _ => (#[] : Array Value)) atL rfl
  have ap2 : ∀ c o, c ≠ s.heap.objs.size → (s.heap.push { cls := .type "list", data := .seq #[] }).get? c = some o → ((s.heap.push { cls := .type "list", data := .seq #[] }).update s.heap.objs.size (Obj.mapSeq fun _ => (#[] : Array Value))).get? c = some o := fun c o n e => (Heap.get?_update_other _ _ n.symm).trans e
  have st2 := V.frame 0 _ _ st1 fun c m o e => ap2 c o (fun x => out (x ▸ m)) e
  have old2 : ∀ c o, c ≠ s.heap.objs.size → s.heap.get? c = some o → ((s.heap.push { cls := .type "list", data := .seq #[] }).update s.heap.objs.size (Obj.mapSeq fun _ => (#[] : Array Value))).get? c = some o := fun c o n e => ap2 c o n (Heap.get?_push_of_some _ e)
  generalize (s.heap.push { cls := .type "list", data := .seq #[] }).update s.heap.objs.size (Obj.mapSeq fun _ => (#[] : Array Value)) = h2 at atL2 st2 old2 ⊢
  refine wpAny_bind (wpAny_letGo ?_)
  unfold Builtin.List.listExtendWith
  refine wpAny_bind (wpAny_typeOf (kind st2) ?_)
  have a1 : Builtin.List.listSameRef (.ref s.heap.objs.size) (.ref z) = false := by simp [Builtin.List.listSameRef, nz]
  have a2 : (Value.type "zip" == Value.type "list") = false := by decide
  have a3 : (Value.type "zip" == Value.type "tuple") = false := by decide
  simp only [a1, a2, a3, Bool.or_false, Bool.false_eq_true, if_false]
  refine wpAny_bind (V.self 0 _ _ _ st2 (wpAny_bind (wpAny_holding ?_)))
  unfold Builtin.List.listLengthHint
  refine wpAny_bind (wpAny_specialOf (kind st2) zip_no_len ?_)
  show wpAny _ _ (specialOf (Value.ref z) (Str.ofString "__length_hint__") >>= _) _ _ _
  refine wpAny_bind (wpAny_specialOf (kind st2) zip_no_hint (wpAny_pure ?_))
  show wpAny _ _ (rule "list.extend.makes-room" >>= fun _ => Builtin.List.listTouch (.ref s.heap.objs.size) >>= fun _ => again (.builtin "list.extend.loop" ⟨[.ref s.heap.objs.size, .ref z, .none], []⟩)) _ _ _
  refine wpAny_bind (wpAny_rule (wpAny_bind ?_))
  show wpAny _ _ (updateSeq s.heap.objs.size (·.push .none) >>= fun _ => updateSeq s.heap.objs.size (·.pop)) _ _ _
  refine wpAny_bind (wpAny_updateSeq atL2 rfl ?_)
  have atL3 := Heap.get?_update_self (Obj.mapSeq (·.push Value.none)) atL2 rfl
  refine wpAny_updateSeq (hz := by seq_fits) atL3 rfl ?_
  have atL4 := Heap.get?_update_self (Obj.mapSeq (·.pop)) atL3 rfl
  have ap4 : ∀ c o, c ≠ s.heap.objs.size → h2.get? c = some o → ((h2.update s.heap.objs.size (Obj.mapSeq (·.push Value.none))).update s.heap.objs.size (Obj.mapSeq (·.pop))).get? c = some o := fun c o n e => (Heap.get?_update_other _ _ n.symm).trans ((Heap.get?_update_other _ _ n.symm).trans e)
  have st4 := V.frame 0 _ _ st2 fun c m o e => ap4 c o (fun x => out (x ▸ m)) e
  have old4 : ∀ c o, c ≠ s.heap.objs.size → s.heap.get? c = some o → _ := fun c o n e => ap4 c o n (old2 c o n e)
  generalize (h2.update s.heap.objs.size (Obj.mapSeq (·.push Value.none))).update s.heap.objs.size (Obj.mapSeq (·.pop)) = h4 at atL4 st4 old4 ⊢
  refine wpAny_pure ⟨plainId_quiet F.plain_extend_loop _, codeAny_extend_loopS V.toS (Nat.zero_le _) _ out _ 0 0 _ _ _ rfl (Nat.zero_le _) st4 atL4 (ItemsOf.nil _) fun s5 acc c m at5 it5 => ?_⟩
  obtain ⟨h5, g5, d5, tk5, os5⟩ := s5
  have eg : g5 = s.gens := m.gens
  have ed : d5 = s.drawn := m.drawn
  have eo : os5 = s.os := m.os
  subst eg ed eo
  have ea : acc = #[] := Array.eq_empty_of_size_eq_zero it5.1
  subst ea
  exact ⟨rfl, q h5 tk5 c (fun b o m1 n e => m.heap b o m1 (old4 b o n e)) at5⟩
end
end MyZ
namespace My
open PySem PySem.Spec PyProof.Rows L2
section
variable {X : Cx}
theorem cr_maxD0 (hc : X.calm = true) (hu : X.A.units + 1 < cLine) : CallRK X (.builtin "max") [Str.ofString "default"] (fun xs zs H Q => ∃ (a : Addr) (i : Int), xs = [.ref a] ∧ zs = [.int i] ∧ SqL X.K H a [] ∧ Q (.int i) H) := by
  intro pins s σ H xs zs us ws Q I r rz q
  obtain ⟨a, i, rfl, rfl, hs, q⟩ := q
  obtain ⟨its, rv, hl, _⟩ := I.list hs
  obtain ⟨u, rfl, rx⟩ := vals1 r
  cases rx
  obtain ⟨w1, rfl, t, rfl⟩ := vals1 rz
  cases rv
  refine PySem.W.max_list_default (xs := []) (as := []) (I.ok.hd hc) hl.isList ReadsAll.nil ⟨(fun _ h => nomatch h), (fun _ h => nomatch h)⟩ (by simpa [PyData.depthAll] using hu) (fun _ h' tk hk => ⟨.int i, H, I.kept hk, ⟨_, rfl⟩, q⟩) (fun y ys _ _ _ _ _ e => nomatch e)
/-- list(zip(e, e2)), e without items -/
def tLZ (K : PySem.W.Frag) (ta : TA) : TE := fun σ H Q => ta σ H fun vs H1 => ∃ a b ys, vs = [.ref a, .ref b] ∧ SqL K H1 a [] ∧ SqT K H1 b ys ∧ ∀ p, H1 p = none → Q (.ref p) (upd H1 p (.lst []))
theorem pe_listZip0 {e e2 : Expr} {ta : TA} {p0 p pos pos2 : Pos} (hc : X.calm = true) (hgl : Gl X "list") (hml : X.mg "list" = none) (hgz : Gl X "zip") (hmz : X.mg "zip" = none) (ha : PA X [e, e2] ta)
    (s1 : starEach [.Call (.Name "zip" p) [e, e2] [] pos2] X.env = (false, eval (.Call (.Name "zip" p) [e, e2] [] pos2) X.env) :: starEach [] X.env := by rfl) (b1 : (backTo pos (starEach [] X.env)).any (·.1) = false := by rfl)
    (s2 : starEach [e, e2] X.env = (false, eval e X.env) :: starEach [e2] X.env := by rfl) (b2 : (backTo pos2 (starEach [e2] X.env)).any (·.1) = false := by rfl) :
    PE X (.Call (.Name "list" p0) [.Call (.Name "zip" p) [e, e2] [] pos2] [] pos) (tLZ X.K ta) := by
  refine ⟨fun pins s σ H Q I h => ?_⟩
  refine wpAny_Call_Name_kw (ld_blt I hgl hml boot_list ?_)
  refine PyProof.Rows.callWith_type1 ?_ s1 b1
  rw [s1]
  show wpAny _ _ (spliced ((false, eval (.Call (.Name "zip" p) [e, e2] [] pos2) X.env) :: backTo pos (starEach [] X.env))) _ _ s
  refine Calls.spliced_cons ?_
  refine wpAny_Call_Name_kw (ld_blt I hgz hmz PyProof.Rows.boot_zip (PyProof.Rows.callWith_type1 (thn (ha.run pos2 pins s σ H _ I h) fun us s3 ⟨vs, H1, I1, r1, q1⟩ => ?_) s2 b2))
  obtain ⟨a, b, ys, rfl, qa, qb, q⟩ := q1
  obtain ⟨u1, u2, rfl, r1, r2⟩ : ∃ u1 u2, us = [u1, u2] ∧ RelV (.ref a) u1 ∧ RelV (.ref b) u2 := by
    cases r1 with
    | cons x y =>
      cases y with
      | cons x2 y2 =>
        cases y2
        exact ⟨_, _, rfl, x, x2⟩
  cases r1
  cases r2
  obtain ⟨ia, ra, pa, _⟩ := I1.list qa
  obtain ⟨ib, rb, pb, _⟩ := I1.tuple qb
  cases ra
  obtain ⟨ob, hob, _⟩ := id pb
  have la := pa.lt
  have lb := Heap.lt_size hob
  refine MyZ.call_zipL pa.isList (show s3.heap.IsTuple b ib.toArray from pb) fun h' g1 g2 g3 g4 g5 sz keep => ?_
  refine Calls.spliced_nil ?_
  have sep : PySem.ZipSep2 (s3.heap.objs.size + 4) (s3.heap.objs.size + 2) (s3.heap.objs.size + 3) s3.heap.objs.size (s3.heap.objs.size + 1) [s3.heap.objs.size, a] [s3.heap.objs.size + 1, b] := by
    exact MyZ.sep_of la lb
  refine MyZ.list_zip0 (s := { s3 with heap := h' }) (MyZ.walk_zip0 (prog := X.prog) (w := X.w) (A := X.A.in1.in1) (ys := ib.toArray) (I1.ok.hd hc) sep (Nat.ne_of_lt la) (Nat.ne_of_lt (Nat.lt_succ_of_lt lb))) (fun h st => ⟨_, st.1, rfl⟩) ⟨g1, g2, g3, ⟨g4, ?_⟩, g5, ?_⟩ (fun c hm => ?_) (by simp) fun h6 tk c k6 at6 => ?_
  · exact pa.isList.at fun o e => keep _ o e
  · exact Heap.IsTuple.at (show s3.heap.IsTuple b ib.toArray from pb) fun o e => keep _ o e
  · exact MyZ.in5 la lb sz (by simpa only [List.mem_cons, List.not_mem_nil, or_false, List.cons_append, List.nil_append] using hm)
  · have le : s3.heap.objs.size ≤ h'.objs.size := by rw [sz]; exact Nat.le_add_right _ _
    have bel : ∀ c o, s3.heap.get? c = some o → h6.get? c = some o := fun c o e => by
      have no := MyZ.out5 (Heap.lt_size e) sz
      refine k6 c o (fun m => no ?_) (fun m => no (.inl m)) (keep c o e)
      simpa only [List.mem_cons, List.not_mem_nil, or_false] using m
    exact ⟨.ref h'.objs.size, upd H1 h'.objs.size (.lst []), I1.laid (t' := tk) bel le (show ObjOk X.prog X.w _ _ _ (.lst []) from ⟨Nat.zero_le _, [], c, .nil, at6⟩), rfl, q _ (I1.hok.fresh le)⟩
end
end My
/-! list(zip(l, t)): the pairs are new tuples, all of them kept -/
namespace MyZ
open PySem RZ
open Sem (wp)
/-- a zip that has given out the tuple T, which is still held -/
abbrev ZipG (h : Heap) (z TI TO T : Addr) (b : Bool) : Prop := h.get? z = some { cls := .type "zip", data := .fields #[rawInt T, .bool b, .bool false, .ref TI, .ref TO] }
section
variable {prog : Program} {w : World} {A : Around} {E : Value → Shared → Prop} {s : Shared}
theorem zipG_item {z TI TO T i1 i2 : Addr} {fp1 fp2 : List Addr} {n1 n2 i : Nat} {P1 P2 : Nat → Value → Prop} {St1 St2 : Nat → Heap → Prop} {b : Bool} {oT : Obj} {Q : Value → Shared → Prop} (S : ZipSep2 z TI TO i1 i2 fp1 fp2) (D1 : Draws prog w A i1 fp1 n1 P1 St1) (D2 : Draws prog w A i2 fp2 n2 P2 St2)
    (hz : ZipG s.heap z TI TO T b) (hT : s.heap.get? T = some oT) (hTI : IsTupOf2 s.heap TI (.ref i1) (.ref i2)) (st1 : St1 i s.heap) (st2 : St2 i s.heap) (hlt1 : i < n1) (hlt2 : i < n2)
    (hQ : ∀ x1 x2 h' tk, P1 i x1 → P2 i x2 → ZipG h' z TI TO T true → St1 (i + 1) h' → St2 (i + 1) h' → IsTupOf2 h' s.heap.objs.size x1 x2 → h'.objs.size = s.heap.objs.size + 1 →
      (∀ c o, c ≠ z → c ≠ i1 → c ≠ i2 → s.heap.get? c = some o → h'.get? c = some o) → Q (.ref s.heap.objs.size) { s with heap := h', toks := tk }) :
    wpAny (model prog w) A (Builtin.«zip.__next__» ⟨[.ref z], []⟩) (fun fin s' => ∃ v, fin = .done (.ret v) ∧ Q v s') E s := by
  obtain ⟨hp, g, d, tk0, os⟩ := s
  show wpAny _ _ (field (.ref z) 2 >>= _) _ _ _
  refine wpAny_bind (wpAny_field hz rfl (x := .bool false) rfl ?_)
  show wpAny _ _ (field (.ref z) 3 >>= _) _ _ _
  refine wpAny_bind (wpAny_field hz rfl (x := .ref TI) rfl ?_)
  refine wpAny_bind (wpAny_seqItems hTI rfl ?_)
  show wpAny _ _ (Builtin.SmallTypes.ownedTupleIsFree (.ref z) >>= _) _ _ _
  have free : ∀ (Q1 : Bool → Shared → Prop), (∀ h', ZipG h' z TI TO T true → Heap.SameBut z hp h' → Q1 false ⟨h', g, d, tk0, os⟩) → wpAny (model prog w) A (Builtin.SmallTypes.ownedTupleIsFree (.ref z)) Q1 E ⟨hp, g, d, tk0, os⟩ := by
    intro Q1 q1
    unfold Builtin.SmallTypes.ownedTupleIsFree
    refine wpAny_bind (wpAny_field hz rfl (x := rawInt T) rfl ?_)
    show wpAny _ _ (loadIfAlive (T : Int).toNat >>= _) _ _ _
    refine wpAny_bind (PySem.W.kdx_alive (show hp.get? (T : Int).toNat = some oT from hT) ?_)
    simp only [Option.isNone_some, Bool.false_eq_true, if_false]
    refine wpAny_bind (wpAny_field hz rfl (x := .bool b) rfl ?_)
    cases b with
    | true =>
      have e : ((Value.bool true != Value.bool true) = true) = False := by simp
      simp only [bne_self_eq_false, Bool.false_eq_true, if_false]
      exact wpAny_pure (q1 hp hz ⟨rfl, fun _ _ => rfl⟩)
    | false =>
      have e : (Value.bool false != Value.bool true) = true := rfl
      simp only [e, if_true]
      refine wpAny_bind (wpAny_setField_rec hz (by simp) fun g0 hz0 hs0 => wpAny_pure (q1 g0 hz0 hs0))
  refine wpAny_bind (free _ fun h0 hz0 hs0 => ?_)
  simp only [Bool.false_eq_true, if_false]
  show wpAny _ _ (forIn (#[Value.ref i1, Value.ref i2] : Array Value) ((none : Option Fin), (#[] : Array Value)) _ >>= _) _ _ _
  refine wpAny_bind ?_
  simp only [List.forIn_toArray, List.forIn_cons, List.forIn_nil]
  refine wpAny_bind (wpAny_bind (wpAny_holding ?_))
  show wpAny _ _ (Builtin.SmallTypes.nextOf (.ref i1) >>= _) _ _ ⟨h0, g, d, tk0, os⟩
  refine wpAny_bind (D1.item i _ _ _ hlt1 (D1.over st1 hs0 S.zf1) fun x1 p1 tk1 hx1 sn1 hp1 => wpAny_pure (wpAny_pure ?_))
  replace hp1 : Heap.SameBut i1 h0 p1 := hp1
  refine wpAny_bind (wpAny_bind (wpAny_holding ?_))
  show wpAny _ _ (Builtin.SmallTypes.nextOf (.ref i2) >>= _) _ _ ⟨p1, g, d, tk1, os⟩
  refine wpAny_bind (D2.item i _ _ _ hlt2 (D2.over (D2.over st2 hs0 S.zf2) hp1 S.sep1_2) fun x2 p2 tk2 hx2 sn2 hp2 => wpAny_pure (wpAny_pure ?_))
  replace hp2 : Heap.SameBut i2 p1 p2 := hp2
  refine wpAny_pure ?_
  show wpAny _ _ (newTuple [x1, x2] >>= _) _ _ ⟨p2, g, d, tk2, os⟩
  refine wpAny_bind (wpAny_newTuple ?_)
  have hsz : p2.objs.size = hp.objs.size := by rw [hp2.1, hp1.1, hs0.1]
  have keep : ∀ c o, c ≠ z → c ≠ i1 → c ≠ i2 → hp.get? c = some o → p2.get? c = some o := fun c o cz c1 c2 e => hp2.extBut _ _ c2 (hp1.extBut _ _ c1 (hs0.extBut _ _ cz e))
  have up : ∀ c o, p2.get? c = some o → (p2.push { cls := .type "tuple", data := .seq #[x1, x2] }).get? c = some o := fun c o e => Heap.get?_push_of_some _ e
  have zz : ZipG p2 z TI TO T true := hp2.extBut _ _ S.zi2 (hp1.extBut _ _ S.zi1 hz0)
  have nw : IsTupOf2 (p2.push { cls := .type "tuple", data := .seq #[x1, x2] }) p2.objs.size x1 x2 := Heap.get?_push_size _ rfl
  refine wpAny_pure ⟨_, rfl, ?_⟩
  show Q (.ref p2.objs.size) ⟨p2.push { cls := .type "tuple", data := .seq #[x1, x2] }, g, d, tk2, os⟩
  rw [hsz] at nw ⊢
  exact hQ x1 x2 _ tk2 hx1 hx2 (up _ _ zz) (D1.frame _ _ _ (D1.over sn1 hp2 S.sep2_1) fun b hb o e => up b o e) (D2.frame _ _ _ sn2 fun b hb o e => up b o e) nw (by rw [Heap.size_push, hsz]) fun c o cz c1 c2 e => up c o (keep c o cz c1 c2 e)
theorem zipG_end {z TI TO T i1 i2 : Addr} {fp1 : List Addr} {n1 : Nat} {P1 : Nat → Value → Prop} {St1 : Nat → Heap → Prop} {b : Bool} {oT : Obj} {Q : Fin → Shared → Prop} (zi1 : z ≠ i1) (zf1 : z ∉ fp1) (D1 : Draws prog w A i1 fp1 n1 P1 St1)
    (hz : ZipG s.heap z TI TO T b) (hT : s.heap.get? T = some oT) (hTI : IsTupOf2 s.heap TI (.ref i1) (.ref i2)) (st1 : St1 n1 s.heap)
    (hE : ∀ h' tk e, (∀ c o, c ≠ z → c ≠ i1 → s.heap.get? c = some o → h'.get? c = some o) → (∃ o, h'.get? e = some o ∧ o.cls = .type "StopIteration") → E (.ref e) { s with heap := h', toks := tk }) :
    wpAny (model prog w) A (Builtin.«zip.__next__» ⟨[.ref z], []⟩) Q E s := by
  obtain ⟨hp, g, d, tk0, os⟩ := s
  show wpAny _ _ (field (.ref z) 2 >>= _) _ _ _
  refine wpAny_bind (wpAny_field hz rfl (x := .bool false) rfl ?_)
  show wpAny _ _ (field (.ref z) 3 >>= _) _ _ _
  refine wpAny_bind (wpAny_field hz rfl (x := .ref TI) rfl ?_)
  refine wpAny_bind (wpAny_seqItems hTI rfl ?_)
  show wpAny _ _ (Builtin.SmallTypes.ownedTupleIsFree (.ref z) >>= _) _ _ _
  have free : ∀ (Q1 : Bool → Shared → Prop), (∀ h', ZipG h' z TI TO T true → Heap.SameBut z hp h' → Q1 false ⟨h', g, d, tk0, os⟩) → wpAny (model prog w) A (Builtin.SmallTypes.ownedTupleIsFree (.ref z)) Q1 E ⟨hp, g, d, tk0, os⟩ := by
    intro Q1 q1
    unfold Builtin.SmallTypes.ownedTupleIsFree
    refine wpAny_bind (wpAny_field hz rfl (x := rawInt T) rfl ?_)
    show wpAny _ _ (loadIfAlive (T : Int).toNat >>= _) _ _ _
    refine wpAny_bind (PySem.W.kdx_alive (show hp.get? (T : Int).toNat = some oT from hT) ?_)
    simp only [Option.isNone_some, Bool.false_eq_true, if_false]
    refine wpAny_bind (wpAny_field hz rfl (x := .bool b) rfl ?_)
    cases b with
    | true =>
      simp only [bne_self_eq_false, Bool.false_eq_true, if_false]
      exact wpAny_pure (q1 hp hz ⟨rfl, fun _ _ => rfl⟩)
    | false =>
      have e : (Value.bool false != Value.bool true) = true := rfl
      simp only [e, if_true]
      refine wpAny_bind (wpAny_setField_rec hz (by simp) fun g0 hz0 hs0 => wpAny_pure (q1 g0 hz0 hs0))
  refine wpAny_bind (free _ fun h0 hz0 hs0 => ?_)
  simp only [Bool.false_eq_true, if_false]
  show wpAny _ _ (forIn (#[Value.ref i1, Value.ref i2] : Array Value) ((none : Option Fin), (#[] : Array Value)) _ >>= _) _ _ _
  refine wpAny_bind ?_
  simp only [List.forIn_toArray, List.forIn_cons, List.forIn_nil]
  refine wpAny_bind (wpAny_bind (wpAny_holding ?_))
  show wpAny _ _ (Builtin.SmallTypes.nextOf (.ref i1) >>= _) _ _ ⟨h0, g, d, tk0, os⟩
  refine wpAny_bind (D1.done ⟨h0, g, d, tk0, os⟩ _ _ (D1.over st1 hs0 zf1) fun q e hq he => ?_)
  replace hq : Heap.ExtBut i1 h0 q := hq
  exact hE q tk0 e (fun c o cz c1 x => hq _ _ c1 (hs0.extBut _ _ cz x)) he
theorem pyNext_zipG_item {z TI TO T i1 i2 : Addr} {fp1 fp2 : List Addr} {n1 n2 i : Nat} {P1 P2 : Nat → Value → Prop} {St1 St2 : Nat → Heap → Prop} {b : Bool} {oT : Obj} {Q : Option Value → Shared → Prop} (S : ZipSep2 z TI TO i1 i2 fp1 fp2) (D1 : Draws prog w A.in1 i1 fp1 n1 P1 St1) (D2 : Draws prog w A.in1 i2 fp2 n2 P2 St2)
    (hz : ZipG s.heap z TI TO T b) (hT : s.heap.get? T = some oT) (hTI : IsTupOf2 s.heap TI (.ref i1) (.ref i2)) (st1 : St1 i s.heap) (st2 : St2 i s.heap) (hlt1 : i < n1) (hlt2 : i < n2)
    (hQ : ∀ x1 x2 h' tk, P1 i x1 → P2 i x2 → ZipG h' z TI TO T true → St1 (i + 1) h' → St2 (i + 1) h' → IsTupOf2 h' s.heap.objs.size x1 x2 → h'.objs.size = s.heap.objs.size + 1 →
      (∀ c o, c ≠ z → c ≠ i1 → c ≠ i2 → s.heap.get? c = some o → h'.get? c = some o) → Q (some (.ref s.heap.objs.size)) { s with heap := h', toks := tk }) : wpAny (model prog w) A (pyNext (.ref z)) Q E s := by
  have hT' : s.TypeIs (.ref z) "zip" := ⟨_, hz, rfl⟩
  unfold pyNext
  exact wpAny_bind (wpAny_attempt (wpAny_callSpecial?_slot (name := Str.ofString "__next__") hT' F.slot_zip_next
    (wpAny_call_entry F.slot_zip_next hT' F.entry_zip_next
      (zipG_item S D1 D2 hz hT hTI st1 st2 hlt1 hlt2 fun x1 x2 h' tk y1 y2 b1 d1 d2 b5 b6 b7 => wpAny_pure (hQ x1 x2 h' tk y1 y2 b1 d1 d2 b5 b6 b7)) (F.args_zip_next_1 _))))
theorem pyNext_zipG_end {z TI TO T i1 i2 : Addr} {fp1 : List Addr} {n1 : Nat} {P1 : Nat → Value → Prop} {St1 : Nat → Heap → Prop} {b : Bool} {oT : Obj} {Q : Option Value → Shared → Prop} (zi1 : z ≠ i1) (zf1 : z ∉ fp1) (D1 : Draws prog w A.in1 i1 fp1 n1 P1 St1)
    (hz : ZipG s.heap z TI TO T b) (hT : s.heap.get? T = some oT) (hTI : IsTupOf2 s.heap TI (.ref i1) (.ref i2)) (st1 : St1 n1 s.heap)
    (hQ : ∀ h' tk, (∀ c o, c ≠ z → c ≠ i1 → s.heap.get? c = some o → h'.get? c = some o) → Q none { s with heap := h', toks := tk }) : wpAny (model prog w) A (pyNext (.ref z)) Q E s := by
  have hT' : s.TypeIs (.ref z) "zip" := ⟨_, hz, rfl⟩
  unfold pyNext
  refine wpAny_bind (wpAny_attempt (wpAny_callSpecial?_slot (name := Str.ofString "__next__") hT' F.slot_zip_next
    (wpAny_call_entry F.slot_zip_next hT' F.entry_zip_next (zipG_end zi1 zf1 D1 hz hT hTI st1 fun h' tk e hk he => ?_) (F.args_zip_next_1 _))))
  obtain ⟨o, ho, hc⟩ := he
  refine wpAny_bind (wpAny_isInstance (T := "StopIteration") (b := true) ⟨o, ho, hc⟩ isSubtype_stop ?_)
  exact wpAny_pure (hQ _ _ hk)
/-- the pairs laid so far: acc holds their tuples -/
structure Prs (h : Heap) (xs ys acc : Array Value) (i lo : Nat) : Prop where
  size : acc.size = i
  at_ : ∀ (j : Nat) (v : Value), acc[j]? = some v → ∃ (t : Addr) (x y : Value), v = .ref t ∧ xs[j]? = some x ∧ ys[j]? = some y ∧ IsTupOf2 h t x y ∧ lo ≤ t
  nd : ∀ (j k : Nat) (t : Addr), acc[j]? = some (Value.ref t) → acc[k]? = some (Value.ref t) → j = k
/-- the zip at its i-th turn -/
structure ZipI (h : Heap) (z TI TO i1 i2 a b : Addr) (xs ys : Array Value) (i lo : Nat) : Prop where
  z : (i = 0 ∧ IsZip h z TI TO .none ∧ IsTupOf2 h TO .none .none) ∨ (0 < i ∧ ∃ (T : Addr) (f : Bool) (oT : Obj), ZipG h z TI TO T f ∧ h.get? T = some oT ∧ lo ≤ T)
  TI : IsTupOf2 h TI (.ref i1) (.ref i2)
  l1 : h.IsListIter i1 a i ∧ h.IsList a xs
  l2 : h.IsTupleIter i2 b i ∧ h.IsTuple b ys
theorem ZipI.ext {h h' : Heap} {z TI TO i1 i2 a b S : Addr} {xs ys : Array Value} {i lo : Nat} (Z : ZipI h z TI TO i1 i2 a b xs ys i lo) (k : ∀ c o, c ≠ S → h.get? c = some o → h'.get? c = some o) (n1 : z ≠ S) (n2 : TI ≠ S) (n3 : TO ≠ S) (n4 : i1 ≠ S) (n5 : i2 ≠ S) (n6 : a ≠ S) (n7 : b ≠ S) (n8 : S < lo) : ZipI h' z TI TO i1 i2 a b xs ys i lo := by
  refine ⟨?_, k _ _ n2 Z.TI, ⟨Z.l1.1.at fun o e => k _ _ n4 e, Z.l1.2.at fun o e => k _ _ n6 e⟩, ⟨Z.l2.1.at fun o e => k _ _ n5 e, Z.l2.2.at fun o e => k _ _ n7 e⟩⟩
  rcases Z.z with ⟨e, h1, h2⟩ | ⟨e, T, f, oT, h1, h2, h3⟩
  · exact .inl ⟨e, k _ _ n1 h1, k _ _ n3 h2⟩
  · exact .inr ⟨e, T, f, oT, k _ _ n1 h1, k _ _ (fun z => by rw [z] at h3; exact absurd n8 (Nat.not_lt.mpr h3)) h2, h3⟩
theorem Prs.ext {h h' : Heap} {S : Addr} {xs ys acc : Array Value} {i lo : Nat} (M : Prs h xs ys acc i lo) (k : ∀ c o, c ≠ S → h.get? c = some o → h'.get? c = some o) (n8 : S < lo) : Prs h' xs ys acc i lo := by
  refine ⟨M.size, fun j v e => ?_, M.nd⟩
  obtain ⟨t, x, y, e1, e2, e3, e4, e5⟩ := M.at_ j v e
  exact ⟨t, x, y, e1, e2, e3, k _ _ (fun z => by rw [z] at e5; exact absurd n8 (Nat.not_lt.mpr e5)) e4, e5⟩
theorem Prs.push {h h' : Heap} {xs ys acc : Array Value} {i lo : Nat} {t : Addr} {x y : Value} (M : Prs h xs ys acc i lo) (k : ∀ c o, lo ≤ c → h.get? c = some o → h'.get? c = some o) (ex : xs[i]? = some x) (ey : ys[i]? = some y) (et : IsTupOf2 h' t x y) (lt : lo ≤ t) (fresh : h.get? t = none) : Prs h' xs ys (acc.push (Value.ref t)) (i + 1) lo := by
  have old : ∀ j : Nat, acc[j]? = some (Value.ref t) → False := fun j e => by
    obtain ⟨t', x', y', e1, _, _, e4, _⟩ := M.at_ j _ e
    cases e1
    have z := fresh.symm.trans (show h.get? t = some _ from e4)
    cases z
  refine ⟨by rw [Array.size_push, M.size], fun j v e => ?_, fun j k t' e1 e2 => ?_⟩
  · rw [Array.getElem?_push] at e
    split at e
    · rename_i hj
      cases e
      rw [hj, M.size]
      exact ⟨t, x, y, rfl, ex, ey, et, lt⟩
    · obtain ⟨t', x', y', e1, e2, e3, e4, e5⟩ := M.at_ j v e
      exact ⟨t', x', y', e1, e2, e3, k _ _ e5 e4, e5⟩
  · rw [Array.getElem?_push] at e1 e2
    split at e1
    · rename_i hj
      split at e2
      · rename_i hk
        rw [hj, hk]
      · cases e1
        exact (old _ e2).elim
    · split at e2
      · cases e2
        exact (old _ e1).elim
      · exact M.nd j k t' e1 e2
end
end MyZ
namespace MyZ
open PySem RZ
open Sem (wp)
section
variable {prog : Program} {w : World} {A : Around} {R : Result → Shared → Prop} {s : Shared}
/-- the addresses in question lie below lo, apart from one another -/
structure ZipAt (z TI TO i1 i2 a b S lo : Nat) : Prop where
  sep : ZipSep2 z TI TO i1 i2 [i1, a] [i2, b]
  n1 : a ≠ i1
  n2 : b ≠ i2
  zS : z ≠ S
  TIS : TI ≠ S
  TOS : TO ≠ S
  i1S : i1 ≠ S
  i2S : i2 ≠ S
  aS : a ≠ S
  bS : b ≠ S
  zl : z < lo
  TOl : TO < lo
  i1l : i1 < lo
  i2l : i2 < lo
  Sl : S < lo
theorem zip_loop {z TI TO i1 i2 a b S : Addr} {lo : Nat} {xs ys : Array Value} {res : Value} (hh : A.handled = none) (Z : ZipAt z TI TO i1 i2 a b S lo) (hn : xs.size = ys.size) (few : xs.size ≤ 1000) : ∀ (k i : Nat) (s : Shared) (acc : Array Value) (c : Nat), xs.size - i = k → i ≤ xs.size → lo ≤ s.heap.objs.size → ZipI s.heap z TI TO i1 i2 a b xs ys i lo → Prs s.heap xs ys acc i lo →
      s.heap.get? S = some { cls := .type "list", dict := none, data := .seq acc c, slots := #[] } →
      (∀ (h' : Heap) (tk : Nat) (acc' : Array Value) (c' : Nat), (∀ b o, b ≠ S → b ≠ z → b ≠ TO → b ≠ i1 → b ≠ i2 → s.heap.get? b = some o → h'.get? b = some o) → h'.get? S = some { cls := .type "list", dict := none, data := .seq acc' c', slots := #[] } → Prs h' xs ys acc' xs.size lo → R (.ok (.ret res)) { s with heap := h', toks := tk }) →
      codeAny (model prog w) A (.builtin "list.extend.loop" ⟨[.ref S, .ref z, res], []⟩) R s := by
  have D1 := Draws.list (prog := prog) (w := w) (A := A.in1.in1) hh i1 a Z.n1 xs
  have D2 := Draws.tuple (prog := prog) (w := w) (A := A.in1.in1) hh i2 b Z.n2 ys
  intro k
  induction k with
  | zero =>
    intro i s acc c hk hi hlo Zi Pr hS hR
    obtain rfl : i = xs.size := by omega
    refine codeAny_builtin F.entry_extend_loop ?_
    rw [Around.under_plainId F.plain_extend_loop _]
    show wpAny _ A.in1 (pyNext (.ref z) >>= _) _ _ s
    refine wpAny_bind ?_
    rcases Zi.z with ⟨e0, z1, z2⟩ | ⟨_, T, f, oT, z1, z2, _⟩
    · refine wpAny_pyNext_zipD2_end (i := xs.size) Z.sep D1 D2 z1 Zi.TI z2 Zi.l1 Zi.l2 (Nat.le_refl _) (by rw [hn]; exact Nat.le_refl _) (.inl rfl) fun h' tk keep => wpAny_pure (hR h' tk acc c (fun b o nS nz nT n1 n2 e => keep b o nz nT n1 n2 e) (keep _ _ Z.zS.symm Z.TOS.symm Z.i1S.symm Z.i2S.symm hS) ?_)
      refine ⟨Pr.size, fun j v e => ?_, Pr.nd⟩
      have := Pr.size
      rw [e0] at this
      rw [Array.eq_empty_of_size_eq_zero this] at e
      simp at e
    · refine pyNext_zipG_end Z.sep.zi1 Z.sep.zf1 D1 z1 z2 Zi.TI Zi.l1 fun h' tk keep => wpAny_pure (hR h' tk acc c (fun b o nS nz nT n1 n2 e => keep b o nz n1 e) (keep _ _ Z.zS.symm Z.i1S.symm hS) ?_)
      refine ⟨Pr.size, fun j v e => ?_, Pr.nd⟩
      obtain ⟨t, x, y, e1, e2, e3, e4, e5⟩ := Pr.at_ j v e
      exact ⟨t, x, y, e1, e2, e3, keep _ _ (Nat.ne_of_gt (Nat.lt_of_lt_of_le Z.zl e5)) (Nat.ne_of_gt (Nat.lt_of_lt_of_le Z.i1l e5)) e4, e5⟩
  | succ k ih =>
    intro i s acc c hk hi hlo Zi Pr hS hR
    have hlt : i < xs.size := by omega
    have hlt2 : i < ys.size := by rw [← hn]; exact hlt
    refine codeAny_builtin F.entry_extend_loop ?_
    rw [Around.under_plainId F.plain_extend_loop _]
    show wpAny _ A.in1 (pyNext (.ref z) >>= _) _ _ s
    refine wpAny_bind ?_
    -- what is done with the new pair
    have next : ∀ (x1 x2 : Value) (h' : Heap) (tk : Nat), xs[i]? = some x1 → ys[i]? = some x2 → ZipI h' z TI TO i1 i2 a b xs ys (i + 1) lo → IsTupOf2 h' s.heap.objs.size x1 x2 → h'.objs.size = s.heap.objs.size + 1 → (∀ c o, c ≠ z → c ≠ TO → c ≠ i1 → c ≠ i2 → s.heap.get? c = some o → h'.get? c = some o) →
        wpAny (model prog w) A.in1 (updateSeq S (·.push (.ref s.heap.objs.size)) >>= fun _ => again (.builtin "list.extend.loop" ⟨[.ref S, .ref z, res], []⟩)) (fun fin s' => match fin with | .done f => R (.ok f) s' | .again c' => c'.quiet = true ∧ codeAny (model prog w) A c' R s') (fun e s' => R (.error e) s') { s with heap := h', toks := tk } := by
      intro x1 x2 h' tk hx1 hx2 Zi' tup sz keep
      have hS' := keep _ _ Z.zS.symm Z.TOS.symm Z.i1S.symm Z.i2S.symm hS
      refine wpAny_bind (wpAny_updateSeq hS' rfl ?_ (by rw [Pr.size, sizeLine_eq]; omega) (by show (acc.push _).size ≤ sizeLine + 1; rw [Array.size_push, Pr.size, sizeLine_eq]; omega))
      have atS := Heap.get?_update_self (Obj.mapSeq (·.push (Value.ref s.heap.objs.size))) hS' rfl
      have oth : ∀ c o, c ≠ S → h'.get? c = some o → (h'.update S (Obj.mapSeq (·.push (Value.ref s.heap.objs.size)))).get? c = some o := fun c o n e => (Heap.get?_update_other _ _ n.symm).trans e
      have szU : (h'.update S (Obj.mapSeq (·.push (Value.ref s.heap.objs.size)))).objs.size = s.heap.objs.size + 1 := by rw [Heap.size_update, sz]
      have nS : s.heap.objs.size ≠ S := fun e => by
        have := Heap.lt_size hS
        rw [← e] at this
        exact Nat.lt_irrefl _ this
      have P2 := (Pr.push (h' := h') (fun c o lc e => keep c o (Nat.ne_of_gt (Nat.lt_of_lt_of_le Z.zl lc)) (Nat.ne_of_gt (Nat.lt_of_lt_of_le Z.TOl lc)) (Nat.ne_of_gt (Nat.lt_of_lt_of_le Z.i1l lc)) (Nat.ne_of_gt (Nat.lt_of_lt_of_le Z.i2l lc)) e) hx1 hx2 tup hlo (by
        cases q : s.heap.get? s.heap.objs.size with
        | none => rfl
        | some o => exact absurd (Heap.lt_size q) (Nat.lt_irrefl _))).ext oth Z.Sl
      have Z2 := Zi'.ext oth Z.zS Z.TIS Z.TOS Z.i1S Z.i2S Z.aS Z.bS Z.Sl
      refine wpAny_pure ⟨plainId_quiet F.plain_extend_loop _, ih (i + 1) _ (acc.push (Value.ref s.heap.objs.size)) _ (by omega) hlt (by show lo ≤ _; rw [szU]; omega) Z2 P2 atS fun h6 tk6 acc' c' keep6 hS6 P6 => ?_⟩
      exact hR h6 tk6 acc' c' (fun b o nS nz nT n1 n2 e => keep6 b o nS nz nT n1 n2 (oth b o nS (keep b o nz nT n1 n2 e))) hS6 P6
    rcases Zi.z with ⟨e0, z1, z2⟩ | ⟨_, T, f, oT, z1, z2, lT⟩
    · subst e0
      refine wpAny_pyNext_zipD2_item (i := 0) Z.sep D1 D2 z1 Zi.TI z2 Zi.l1 Zi.l2 hlt hlt2 fun x1 x2 h' tk hx1 hx2 y1 y2 y3 y4 y5 y6 keep => ?_
      have TIn1 : TI ≠ i1 := Z.sep.TIi1
      refine next x1 x2 h' tk hx1 hx2 ⟨.inr ⟨Nat.one_pos, s.heap.objs.size, false, _, y1, y5, hlo⟩, keep _ _ Z.sep.TIz Z.sep.TITO Z.sep.TIi1 Z.sep.TIi2 Zi.TI, y3, y4⟩ y5 y6 keep
    · refine pyNext_zipG_item Z.sep D1 D2 z1 z2 Zi.TI Zi.l1 Zi.l2 hlt hlt2 fun x1 x2 h' tk hx1 hx2 y1 y3 y4 y5 y6 keep => ?_
      refine next x1 x2 h' tk hx1 hx2 ⟨.inr ⟨Nat.succ_pos _, T, true, oT, y1, keep _ _ (Nat.ne_of_gt (Nat.lt_of_lt_of_le Z.zl lT)) (Nat.ne_of_gt (Nat.lt_of_lt_of_le Z.i1l lT)) (Nat.ne_of_gt (Nat.lt_of_lt_of_le Z.i2l lT)) z2, lT⟩, keep _ _ Z.sep.TIz Z.sep.TIi1 Z.sep.TIi2 Zi.TI, y3, y4⟩ y5 y6 fun c o nz nT n1 n2 e => keep c o nz n1 n2 e
end
end MyZ
namespace MyZ
open PySem RZ
open Sem (wp)
section
variable {prog : Program} {w : World} {A : Around} {E : Value → Shared → Prop} {s : Shared}
/-- list(z), z a fresh zip of a list and a tuple of as many items -/
theorem list_zip {z TI TO i1 i2 a b : Addr} {xs ys : Array Value} {Q : Value → Shared → Prop} (hh : A.in1.handled = none) (Zi : ZipI s.heap z TI TO i1 i2 a b xs ys 0 (s.heap.objs.size + 1)) (sep : ZipSep2 z TI TO i1 i2 [i1, a] [i2, b]) (n1 : a ≠ i1) (n2 : b ≠ i2) (hn : xs.size = ys.size) (few : xs.size ≤ 1000)
    (bel : ∀ c, c = z ∨ c = TI ∨ c = TO ∨ c = i1 ∨ c = i2 ∨ c = a ∨ c = b → c < s.heap.objs.size)
    (q : ∀ (h' : Heap) (tk : Nat) (acc : Array Value) (c : Nat), (∀ b o, b ≠ z → b ≠ TO → b ≠ i1 → b ≠ i2 → s.heap.get? b = some o → h'.get? b = some o) → h'.get? s.heap.objs.size = some { cls := .type "list", dict := none, data := .seq acc c, slots := #[] } → Prs h' xs ys acc xs.size (s.heap.objs.size + 1) → Q (.ref s.heap.objs.size) { s with heap := h', toks := tk }) :
    wpAny (model prog w) A (call (.type "list") [.ref z]) Q E s := by
  have ne : ∀ c, c = z ∨ c = TI ∨ c = TO ∨ c = i1 ∨ c = i2 ∨ c = a ∨ c = b → c ≠ s.heap.objs.size := fun c h => Nat.ne_of_lt (bel c h)
  have nz : s.heap.objs.size ≠ z := (ne z (by simp)).symm
  have izip : ∀ {h : Heap}, ZipI h z TI TO i1 i2 a b xs ys 0 (s.heap.objs.size + 1) → IsZip h z TI TO .none := fun Z => by
    rcases Z.z with ⟨_, e, _⟩ | ⟨e, _⟩
    · exact e
    · exact absurd e (Nat.lt_irrefl _)
  have ext : ∀ {h h' : Heap}, ZipI h z TI TO i1 i2 a b xs ys 0 (s.heap.objs.size + 1) → (∀ c o, c ≠ s.heap.objs.size → h.get? c = some o → h'.get? c = some o) → ZipI h' z TI TO i1 i2 a b xs ys 0 (s.heap.objs.size + 1) := fun Z k => Z.ext k (ne z (by simp)) (ne TI (by simp)) (ne TO (by simp)) (ne i1 (by simp)) (ne i2 (by simp)) (ne a (by simp)) (ne b (by simp)) (Nat.lt_succ_self _)
  refine callType_codes (Q₁ := fun v s1 => v = .ref s.heap.objs.size ∧ s1 = { s with heap := s.heap.push { cls := .type "list", data := .seq #[] } }) F.called_list (F.typeCall_list_1 _) F.entry_list_init (code_list_new _ ⟨rfl, rfl⟩) fun v s1 e1 => ?_
  obtain ⟨rfl, rfl⟩ := e1
  have atL : (s.heap.push { cls := .type "list", data := .seq #[] }).get? s.heap.objs.size = some { cls := .type "list", data := .seq #[] } := Heap.get?_push_size _ rfl
  have st1 := ext Zi (h' := s.heap.push { cls := .type "list", data := .seq #[] }) fun c o _ e => Heap.get?_push_of_some _ e
  refine ⟨⟨_, atL, rfl⟩, F.args_list_init_2 _ _, ?_⟩
  have kind : ∀ {h : Heap} {g : Array GenState} {d : _} {tk : Nat} {os : _}, IsZip h z TI TO .none → (⟨h, g, d, tk, os⟩ : Shared).TypeIs (.ref z) "zip" := fun {h g d tk os} x => ⟨_, x, rfl⟩
  show wpAny _ _ (Builtin.List.listItems (.ref s.heap.objs.size) >>= fun old => Builtin.List.listUpdate (.ref s.heap.objs.size) (fun _ => #[]) >>= fun _ => letGo old.toList.reverse >>= fun _ => Builtin.List.listExtendWith (.ref s.heap.objs.size) (.ref z) .none) _ _ _
  unfold Builtin.List.listItems
  refine wpAny_bind (wpAny_bind (wpAny_seqItems atL rfl (wpAny_pure ?_)))
  refine wpAny_bind (wpAny_updateSeq atL rfl ?_)
  have atL2 := Heap.get?_update_self (Obj.mapSeq fun _ => (#[] : Array Value)) atL rfl
  have sz2 : ((s.heap.push { cls := .type "list", data := .seq #[] }).update s.heap.objs.size (Obj.mapSeq fun _ => (#[] : Array Value))).objs.size = s.heap.objs.size + 1 := by rw [Heap.size_update, Heap.size_push]
  have ap2 : ∀ c o, c ≠ s.heap.objs.size → (s.heap.push { cls := .type "list", data := .seq #[] }).get? c = some o → ((s.heap.push { cls := .type "list", data := .seq #[] }).update s.heap.objs.size (Obj.mapSeq fun _ => (#[] : Array Value))).get? c = some o := fun c o n e => (Heap.get?_update_other _ _ n.symm).trans e
  have st2 := ext st1 ap2
  have old2 : ∀ c o, c ≠ s.heap.objs.size → s.heap.get? c = some o → ((s.heap.push { cls := .type "list", data := .seq #[] }).update s.heap.objs.size (Obj.mapSeq fun _ => (#[] : Array Value))).get? c = some o := fun c o n e => ap2 c o n (Heap.get?_push_of_some _ e)
  generalize (s.heap.push { cls := .type "list", data := .seq #[] }).update s.heap.objs.size (Obj.mapSeq fun _ => (#[] : Array Value)) = h2 at atL2 st2 old2 sz2 ⊢
  refine wpAny_bind (wpAny_letGo ?_)
  unfold Builtin.List.listExtendWith
  refine wpAny_bind (wpAny_typeOf (kind (izip st2)) ?_)
  have a1 : Builtin.List.listSameRef (.ref s.heap.objs.size) (.ref z) = false := by simp [Builtin.List.listSameRef, nz]
  have a2 : (Value.type "zip" == Value.type "list") = false := by decide
  have a3 : (Value.type "zip" == Value.type "tuple") = false := by decide
  simp only [a1, a2, a3, Bool.or_false, Bool.false_eq_true, if_false]
  refine wpAny_bind (wpAny_pyIter_zip (izip st2) (wpAny_bind (wpAny_holding ?_)))
  unfold Builtin.List.listLengthHint
  refine wpAny_bind (wpAny_specialOf (kind (izip st2)) zip_no_len ?_)
  show wpAny _ _ (specialOf (Value.ref z) (Str.ofString "__length_hint__") >>= _) _ _ _
  refine wpAny_bind (wpAny_specialOf (kind (izip st2)) zip_no_hint (wpAny_pure ?_))
  show wpAny _ _ (rule "list.extend.makes-room" >>= fun _ => Builtin.List.listTouch (.ref s.heap.objs.size) >>= fun _ => again (.builtin "list.extend.loop" ⟨[.ref s.heap.objs.size, .ref z, .none], []⟩)) _ _ _
  refine wpAny_bind (wpAny_rule (wpAny_bind ?_))
  show wpAny _ _ (updateSeq s.heap.objs.size (·.push .none) >>= fun _ => updateSeq s.heap.objs.size (·.pop)) _ _ _
  refine wpAny_bind (wpAny_updateSeq atL2 rfl ?_)
  have atL3 := Heap.get?_update_self (Obj.mapSeq (·.push Value.none)) atL2 rfl
  refine wpAny_updateSeq (hz := by seq_fits) atL3 rfl ?_
  have atL4 := Heap.get?_update_self (Obj.mapSeq (·.pop)) atL3 rfl
  have sz4 : ((h2.update s.heap.objs.size (Obj.mapSeq (·.push Value.none))).update s.heap.objs.size (Obj.mapSeq (·.pop))).objs.size = s.heap.objs.size + 1 := by rw [Heap.size_update, Heap.size_update, sz2]
  have ap4 : ∀ c o, c ≠ s.heap.objs.size → h2.get? c = some o → ((h2.update s.heap.objs.size (Obj.mapSeq (·.push Value.none))).update s.heap.objs.size (Obj.mapSeq (·.pop))).get? c = some o := fun c o n e => (Heap.get?_update_other _ _ n.symm).trans ((Heap.get?_update_other _ _ n.symm).trans e)
  have st4 := ext st2 ap4
  have old4 : ∀ c o, c ≠ s.heap.objs.size → s.heap.get? c = some o → _ := fun c o n e => ap4 c o n (old2 c o n e)
  generalize (h2.update s.heap.objs.size (Obj.mapSeq (·.push Value.none))).update s.heap.objs.size (Obj.mapSeq (·.pop)) = h4 at atL4 st4 old4 sz4 ⊢
  have ZA : ZipAt z TI TO i1 i2 a b s.heap.objs.size (s.heap.objs.size + 1) := ⟨sep, n1, n2, ne z (by simp), ne TI (by simp), ne TO (by simp), ne i1 (by simp), ne i2 (by simp), ne a (by simp), ne b (by simp), Nat.lt_succ_of_lt (bel z (by simp)), Nat.lt_succ_of_lt (bel TO (by simp)), Nat.lt_succ_of_lt (bel i1 (by simp)), Nat.lt_succ_of_lt (bel i2 (by simp)), Nat.lt_succ_self _⟩
  refine wpAny_pure ⟨plainId_quiet F.plain_extend_loop _, zip_loop hh ZA hn few _ 0 _ #[] _ rfl (Nat.zero_le _) (by show _ ≤ h4.objs.size; rw [sz4]; exact Nat.le_refl _) st4 ⟨rfl, fun j v e => by simp at e, fun j k t e => by simp at e⟩ atL4 fun h5 tk5 acc c keep at5 P5 => ?_⟩
  exact ⟨rfl, q h5 tk5 acc c (fun b o nz nT n1 n2 e => keep b o (fun z => absurd (Heap.lt_size e) (by rw [z]; exact Nat.lt_irrefl _)) nz nT n1 n2 (old4 b o (fun z => absurd (Heap.lt_size e) (by rw [z]; exact Nat.lt_irrefl _)) e)) at5 P5⟩
end
end MyZ
theorem in7z {n c a b k : Nat} (la : a < n) (lb : b < n) (sz : k = n + 5) (h : c = n + 4 ∨ c = n + 2 ∨ c = n + 3 ∨ c = n ∨ c = n + 1 ∨ c = a ∨ c = b) : c < k := by omega
theorem ne_plus {c n : Nat} (h : c < n) (k : Nat) : c ≠ n + k := by omega
theorem no_old {t n m : Nat} (g : m + 1 ≤ t) (sz : m = n + 5) (lt : t < n) : False := by omega
theorem no_self {m n : Nat} (sz : m = n + 5) (lt : m < n) : False := by omega
theorem no_new {t m : Nat} (g : m + 1 ≤ t) (e : m = t) : False := by omega
namespace My
open PySem PySem.Spec PyProof.Rows L2
section
variable {X : Cx}
/-- new pairs, tracked one after another -/
theorem laid_upto {pins : List (Addr × Obj)} {σ : L2.St} {H : Hp} {s : Shared} {G h6 : Heap} {f : Nat → Addr} {x y : Nat → V} {u v : Nat → Value} {n : Nat} (I : Inv X pins σ H { s with heap := G }) (sub : ∀ c o, G.get? c = some o → h6.get? c = some o)
    (good : ∀ j, j < n → RelV (x j) (u j) ∧ RelV (y j) (v j) ∧ h6.get? (f j) = some { cls := .type "tuple", data := .seq #[u j, v j] } ∧ G.get? (f j) = none) (inj : ∀ j k, j < n → k < n → f j = f k → j = k) :
    ∀ m, m ≤ n → ∃ (H2 : Hp) (G2 : Heap), Inv X pins σ H2 { s with heap := G2 } ∧ (∀ c o, G2.get? c = some o → h6.get? c = some o) ∧ (∀ b o, H b = some o → H2 b = some o) ∧ (∀ j, j < m → H2 (f j) = some (.tup [x j, y j])) ∧ (∀ c, (∀ j, j < m → c ≠ f j) → G2.get? c = G.get? c) := by
  intro m
  induction m with
  | zero => exact fun _ => ⟨H, G, I, sub, fun _ _ e => e, fun j h => absurd h (Nat.not_lt_zero _), fun _ _ => rfl⟩
  | succ m ih =>
    intro hm
    obtain ⟨H2, G2, I2, s2, k2, at2, o2⟩ := ih (Nat.le_of_succ_le hm)
    obtain ⟨ru, rv, e6, e0⟩ := good m hm
    obtain ⟨G3, g1, g2⟩ := restrict h6 fun c => (G2.get? c).isSome || decide (c = f m)
    have new : G2.get? (f m) = none := by
      rw [o2 (f m) fun j hj e => absurd (inj m j hm (Nat.lt_trans hj hm) e) (Nat.ne_of_gt hj)]
      exact e0
    have hn : H2 (f m) = none := I2.hok.gone new
    have k3 : ∀ c o, G2.get? c = some o → G3.get? c = some o := fun c o e => by
      rw [g1 c (by simp [e])]
      exact s2 c o e
    have at3 : G3.get? (f m) = some { cls := .type "tuple", data := .seq #[u m, v m] } := by
      rw [g1 (f m) (by simp)]
      exact e6
    have I3 := I2.laidN (t' := s.toks) (o := .tup [x m, y m]) k3 new hn ⟨by show 2 ≤ sizeLine; decide, [u m, v m], .cons ru (.cons rv .nil), _, at3, rfl, _, rfl⟩
    refine ⟨upd H2 (f m) (.tup [x m, y m]), G3, I3, fun c o e => ?_, fun b o e => ?_, fun j hj => ?_, fun c hc => ?_⟩
    · cases hp : ((G2.get? c).isSome || decide (c = f m)) with
      | true =>
        rw [g1 c hp] at e
        exact e
      | false =>
        rw [g2 c hp] at e
        cases e
    · rw [upd_ne (ne_of_none (k2 _ _ e) hn)]
      exact k2 _ _ e
    · by_cases hj2 : j = m
      · rw [hj2]
        exact upd_same
      · have lt : j < m := by omega
        rw [upd_ne fun e => hj2 (inj j m (Nat.lt_of_lt_of_le lt (Nat.le_of_succ_le hm)) hm e)]
        exact at2 j lt
    · have nm : c ≠ f m := hc m (Nat.lt_succ_self _)
      rw [← o2 c fun j hj => hc j (Nat.lt_succ_of_lt hj)]
      cases hp : G2.get? c with
      | none => exact g2 c (by simp [hp, nm])
      | some o => exact k3 _ _ hp
theorem vals_refs (f : Nat → Addr) : ∀ l : List Nat, Vals (l.map fun j => V.ref (f j)) (l.map fun j => Value.ref (f j))
  | [] => .nil
  | _ :: r => .cons rfl (vals_refs f r)
theorem vals_at : ∀ {xs : List V} {us : List Value}, Vals xs us → ∀ j, j < xs.length → ∃ x u, xs[j]? = some x ∧ us[j]? = some u ∧ RelV x u
  | _, _, .nil, j, h => absurd h (Nat.not_lt_zero _)
  | _, _, .cons r _, 0, _ => ⟨_, _, rfl, rfl, r⟩
  | _, _, .cons _ rs, j + 1, h => by
    obtain ⟨x, u, e1, e2, r⟩ := vals_at rs j (Nat.lt_of_succ_lt_succ h)
    exact ⟨x, u, e1, e2, r⟩
def refOf : Value → Addr
  | .ref t => t
  | _ => 0
/-- list(zip(e, e2)): e a list, e2 a tuple of as many items -/
def tLZip (K : PySem.W.Frag) (ta : TA) : TE := fun σ H Q => ta σ H fun vs H1 => ∃ (a b : Addr) (xs ys : List V), vs = [.ref a, .ref b] ∧ SqL K H1 a xs ∧ SqT K H1 b ys ∧ xs.length = ys.length ∧ xs.length ≤ 1000 ∧
  ∀ (l : Addr) (ts : List Addr) (H2 : Hp), H1 l = none → (∀ b o, H1 b = some o → H2 b = some o) → ts.length = xs.length → H2 l = some (.lst (ts.map V.ref)) → (∀ (j : Nat) (t : Addr) (x y : V), ts[j]? = some t → xs[j]? = some x → ys[j]? = some y → H2 t = some (.tup [x, y])) → Q (.ref l) H2
theorem pe_listZip {e e2 : Expr} {ta : TA} {p0 p pos pos2 : Pos} (hc : X.calm = true) (hgl : Gl X "list") (hml : X.mg "list" = none) (hgz : Gl X "zip") (hmz : X.mg "zip" = none) (ha : PA X [e, e2] ta)
    (s1 : starEach [.Call (.Name "zip" p) [e, e2] [] pos2] X.env = (false, eval (.Call (.Name "zip" p) [e, e2] [] pos2) X.env) :: starEach [] X.env := by rfl) (b1 : (backTo pos (starEach [] X.env)).any (·.1) = false := by rfl)
    (s2 : starEach [e, e2] X.env = (false, eval e X.env) :: starEach [e2] X.env := by rfl) (b2 : (backTo pos2 (starEach [e2] X.env)).any (·.1) = false := by rfl) :
    PE X (.Call (.Name "list" p0) [.Call (.Name "zip" p) [e, e2] [] pos2] [] pos) (tLZip X.K ta) := by
  refine ⟨fun pins s σ H Q I h => ?_⟩
  refine wpAny_Call_Name_kw (ld_blt I hgl hml boot_list ?_)
  refine PyProof.Rows.callWith_type1 ?_ s1 b1
  rw [s1]
  show wpAny _ _ (spliced ((false, eval (.Call (.Name "zip" p) [e, e2] [] pos2) X.env) :: backTo pos (starEach [] X.env))) _ _ s
  refine Calls.spliced_cons ?_
  refine wpAny_Call_Name_kw (ld_blt I hgz hmz PyProof.Rows.boot_zip (PyProof.Rows.callWith_type1 (thn (ha.run pos2 pins s σ H _ I h) fun us s3 ⟨vs, H1, I1, r1, q1⟩ => ?_) s2 b2))
  obtain ⟨a, b, xs, ys, rfl, qa, qb, hn, few, q⟩ := q1
  obtain ⟨u1, u2, rfl, r1, r2⟩ : ∃ u1 u2, us = [u1, u2] ∧ RelV (.ref a) u1 ∧ RelV (.ref b) u2 := by
    cases r1 with
    | cons x y =>
      cases y with
      | cons x2 y2 =>
        cases y2
        exact ⟨_, _, rfl, x, x2⟩
  cases r1
  cases r2
  obtain ⟨ia, ra, pa, _⟩ := I1.list qa
  obtain ⟨ib, rb, pb, _⟩ := I1.tuple qb
  have lena := ra.length
  have lenb := rb.length
  obtain ⟨ob, hob, _⟩ := id pb
  have la := pa.lt
  have lb := Heap.lt_size hob
  refine MyZ.call_zipL pa.isList (show s3.heap.IsTuple b ib.toArray from pb) fun h' g1 g2 g3 g4 g5 sz keep => ?_
  refine Calls.spliced_nil ?_
  have sep := MyZ.sep_of la lb
  have Zi : MyZ.ZipI h' (s3.heap.objs.size + 4) (s3.heap.objs.size + 2) (s3.heap.objs.size + 3) s3.heap.objs.size (s3.heap.objs.size + 1) a b ia.toArray ib.toArray 0 (h'.objs.size + 1) :=
    ⟨.inl ⟨rfl, g1, g3⟩, g2, ⟨g4, pa.isList.at fun o e => keep _ o e⟩, ⟨g5, Heap.IsTuple.at (show s3.heap.IsTuple b ib.toArray from pb) fun o e => keep _ o e⟩⟩
  refine MyZ.list_zip (s := { s3 with heap := h' }) (A := X.A) (I1.ok.hd hc) Zi sep (Nat.ne_of_lt la) (Nat.ne_of_lt (Nat.lt_succ_of_lt lb)) (by simp only [List.size_toArray]; omega) (by simp only [List.size_toArray]; omega) (fun c hm => ?_) fun h6 tk acc c k6 at6 P6 => ?_
  · exact in7z la lb sz hm
  · have P6' : MyZ.Prs h6 ia.toArray ib.toArray acc ia.length (h'.objs.size + 1) := by
      have e : ia.toArray.size = ia.length := List.size_toArray
      exact e ▸ P6
    have bel : ∀ c o, s3.heap.get? c = some o → h6.get? c = some o := fun c o e => by
      have lc : c < s3.heap.objs.size := Heap.lt_size e
      have n1 : ∀ k : Nat, c ≠ s3.heap.objs.size + k := fun k => ne_plus lc k
      exact k6 c o (n1 4) (n1 3) (n1 0) (n1 1) (keep c o e)
    have n0 : ia.length = xs.length := lena.symm
    -- the items
    have itm : ∀ j, j < xs.length → ∃ x y u v, xs[j]? = some x ∧ ys[j]? = some y ∧ ia[j]? = some u ∧ ib[j]? = some v ∧ RelV x u ∧ RelV y v := fun j hj => by
      obtain ⟨x, u, e1, e2, r⟩ := vals_at ra j hj
      obtain ⟨y, v, e3, e4, r'⟩ := vals_at rb j (by rw [← hn]; exact hj)
      exact ⟨x, y, u, v, e1, e3, e2, e4, r, r'⟩
    have tup : ∀ j, j < xs.length → ∃ t u v, acc[j]? = some (Value.ref t) ∧ ia[j]? = some u ∧ ib[j]? = some v ∧ h6.get? t = some { cls := .type "tuple", data := .seq #[u, v] } ∧ h'.objs.size + 1 ≤ t := fun j hj => by
      have lt : j < acc.size := by
        rw [P6'.size, n0]
        exact hj
      obtain ⟨t, u, v, e1, e2, e3, e4, e5⟩ := P6'.at_ j acc[j] (by simp [lt])
      exact ⟨t, u, v, by rw [← e1]; simp [lt], by simpa using e2, by simpa using e3, e4, e5⟩
    let f : Nat → Addr := fun j => refOf (acc.getD j .none)
    have fx : ∀ j t, acc[j]? = some (Value.ref t) → f j = t := fun j t e => by
      show refOf (acc.getD j .none) = t
      rw [Array.getD_eq_getD_getElem?, e]
      rfl
    obtain ⟨H2, G2, I2, s2', k2, at2, o2⟩ := laid_upto (s := s3) (G := s3.heap) (h6 := h6) (f := f) (x := fun j => xs.getD j .non) (y := fun j => ys.getD j .non) (u := fun j => ia.getD j .none) (v := fun j => ib.getD j .none) (n := xs.length) I1 bel (fun j hj => by
      obtain ⟨x, y, u, v, e1, e2, e3, e4, r, r'⟩ := itm j hj
      obtain ⟨t, u', v', g1, g2, g3, g4, g5⟩ := tup j hj
      rw [e3] at g2
      rw [e4] at g3
      cases g2
      cases g3
      refine ⟨by simp only [List.getD_eq_getElem?_getD, e1, e3]; exact r, by simp only [List.getD_eq_getElem?_getD, e2, e4]; exact r', ?_, ?_⟩
      · rw [fx j t g1]
        simp only [List.getD_eq_getElem?_getD, e3, e4]
        exact g4
      · rw [fx j t g1]
        cases q0 : s3.heap.get? t with
        | none => rfl
        | some o =>
          exact (no_old g5 sz (Heap.lt_size q0)).elim) (fun j k hj hk e => by
      obtain ⟨t, _, _, g1, _⟩ := tup j hj
      obtain ⟨t', _, _, g1', _⟩ := tup k hk
      rw [fx j t g1, fx k t' g1'] at e
      subst e
      exact P6'.nd j k t g1 g1') xs.length (Nat.le_refl _)
    have eacc : acc = ((List.range xs.length).map fun j => Value.ref (f j)).toArray := by
      refine Array.ext (by rw [P6'.size, n0]; simp) fun j h1 h2 => ?_
      have hj : j < xs.length := by rw [← n0, ← P6'.size]; exact h1
      obtain ⟨t, _, _, g1, _⟩ := tup j hj
      have g1' : acc[j] = Value.ref t := by simpa [h1] using g1
      rw [g1']
      simp [fx j t g1]
    have l3 : s3.heap.get? h'.objs.size = none := by
      cases q0 : s3.heap.get? h'.objs.size with
      | none => rfl
      | some o => exact (no_self sz (Heap.lt_size q0)).elim
    have lnew : G2.get? h'.objs.size = none := by
      rw [o2 h'.objs.size fun j hj e => by
        obtain ⟨t, _, _, g1, _, _, _, g5⟩ := tup j hj
        rw [fx j t g1] at e
        exact no_new g5 e]
      exact l3
    have hl : H2 h'.objs.size = none := I2.hok.gone lnew
    have I3 := I2.laidN (t' := tk) (h' := h6) (a := h'.objs.size) (o := .lst ((List.range xs.length).map fun j => V.ref (f j))) s2' lnew hl ⟨by rw [List.length_map, List.length_range, sizeLine_eq]; omega, _, c, vals_refs f (List.range xs.length), by rw [← eacc]; exact at6⟩
    refine ⟨.ref h'.objs.size, _, I3, rfl, ?_⟩
    have up : ∀ b o, H2 b = some o → (upd H2 h'.objs.size (.lst ((List.range xs.length).map fun j => V.ref (f j)))) b = some o := fun b o e => by
      rw [upd_ne (ne_of_none e hl)]
      exact e
    refine q h'.objs.size ((List.range xs.length).map f) _ (I1.hok.gone l3) (fun b o e => up b o (k2 b o e)) (by simp) (by rw [List.map_map]; exact upd_same) fun j t x y e1 e2 e3 => ?_
    have hj : j < xs.length := (List.getElem?_eq_some_iff.mp e2).1
    have et : f j = t := by simpa [hj] using e1
    have z := up _ _ (at2 j hj)
    rw [et] at z
    simpa [List.getD_eq_getElem?_getD, e2, e3] using z
end
end My
namespace My
open PySem PySem.Spec PyProof.Rows L2
/-! ### the parts of a simple deed -/
def DK.kinds : DK → List Str
  | .put _ _ => ["cell", "value"]
  | .copy _ _ => ["cell", "cell"]
  | .say _ _ => ["log", "word"]
  | .fail _ => ["failure"]
  | .lv => []
  | .st => []
def fieldsK : List Str := ["cell", "log", "failure", "value", "word", "block"]
theorem kinds_in (k : DK) : ∀ z ∈ k.kinds, inV (.str z) (fieldsK.map V.str) = true := by
  cases k <;> (simp only [DK.kinds]; decide +kernel)
theorem kinds_len (k : DK) : k.kinds.length = k.args.length ∧ k.kinds.length ≤ 2 := by
  cases k <;> simp [DK.kinds, DK.args]
def DK.prs (k : DK) : List (Str × V) := k.kinds.zip k.args
/-- the pairs lie at ts -/
abbrev Prl (H : Hp) : List Addr → List (Str × V) → Prop := Paired fun t p => H t = some (.tup [.str p.1, p.2])
theorem prl_keep {H H' : Hp} (s : Same' H H') : ∀ {ts : List Addr} {ps : List (Str × V)}, Prl H ts ps → Prl H' ts ps
  | _, _, .nil => .nil
  | _, _, .cons e r => .cons (s _ _ e) (prl_keep s r)
theorem prl_of {H : Hp} : ∀ {ts : List Addr} {zs : List Str} {vs : List V}, ts.length = zs.length → zs.length = vs.length → (∀ (j : Nat) (t : Addr) (x y : V), ts[j]? = some t → (zs.map V.str)[j]? = some x → vs[j]? = some y → H t = some (.tup [x, y])) → Prl H ts (zs.zip vs)
  | [], [], [], _, _, _ => .nil
  | t :: ts, z :: zs, v :: vs, h1, h2, h => .cons (h 0 t (.str z) v rfl rfl rfl) (prl_of (Nat.succ.inj h1) (Nat.succ.inj h2) fun j t' x y e1 e2 e3 => h (j + 1) t' x y e1 e2 e3)
  | [], _ :: _, _, h1, _, _ => by cases h1
  | _ :: _, [], _, h1, _, _ => by cases h1
  | [], [], _ :: _, _, h2, _ => by cases h2
  | _ :: _, _ :: _, [], _, h2, _ => by cases h2
theorem no_word {k : DK} (t : Addr) : (k.flds t).lookup (Str.ofString "WORD") = none := by cases k <;> rfl
theorem none_old {H H' : Hp} {l : Addr} (s : Same' H H') (h : H' l = none) : H l = none := by
  cases e : H l with
  | none => rfl
  | some o =>
    rw [s _ _ e] at h
    cases h
/-- SHAPES and FIELDS, and the classes' words -/
structure ShK (K : PySem.W.Frag) (w : World) (mg : Str → Option Value) (A : Nat → Addr) (aS aF : Addr) (aT : Nat → Addr) : Prop where
  gS : mg "SHAPES" = some (.ref aS)
  gF : mg "FIELDS" = some (.ref aF)
  sF : ∀ H, SqT K H aF (fieldsK.map V.str)
  sh : ∀ k : DK, KDct K w aS k.wd (.ref (aT k.ix))
  sT : ∀ (k : DK) (H : Hp), SqT K H (aT k.ix) (k.kinds.map V.str)
  wd : ∀ k : DK, ∃ u, Con K (A k.ix) "WORD" (.str k.wd) u
def spFo (A : Nat → Addr) : Sp := fun vs H Q _ => ∃ (a : Addr) (k : DK), vs = [.ref a] ∧ IsD A H a k ∧ ∀ (l : Addr) (ts : List Addr) (H' : Hp), H l = none → Same' H H' → H' l = some (.lst (ts.map V.ref)) → Prl H' ts k.prs → Q (.ref l) H'
section
variable {P : Program} {w : World} {K : PySem.W.Frag} {mg : Str → Option Value} {base : Heap} {A : Nat → Addr} {aS aF : Addr} {aT : Nat → Addr}
abbrev nFo : List Str := ["deed", "kinds", "shape"]
theorem scFo : FnScope nFo ["deed"] (defScope sFieldsOf) := ⟨rfl, rfl, rfl, by decide +kernel, rfl, by decide +kernel, by decide +kernel⟩
abbrev XFo (P : Program) (w : World) (K : PySem.W.Frag) (mg : Str → Option Value) (base : Heap) (f : Addr) (cdv : Value) (A0 : Around) (outer : List Env) (s : Shared) (H : Hp) (E : XK) : Cx := (cxOf CX0 P w K mg base nFo "fields_of" (defScope sFieldsOf) f cdv A0 outer s H E).nox
theorem ok_fieldsOf {f : Addr} {fd : FuncData} (F : Fun K "fields_of" "fields_of" sFieldsOf f fd) (T : Txt mg) (S : Dd K mg A) (Z : ShK K w mg A aS aF aT) : FnOk P w K mg base CX0 1 f fd ["deed"] (spFo A) := by
  refine F.ok scFo (fun vs H Q E h => ?_) (fun cdv A0 outer s H vs Q E hr h => ?_)
  · obtain ⟨a, k, rfl, _⟩ := h
    rfl
  · obtain ⟨a, k, rfl, ha, q⟩ := h
    refine ⟨_, pss_cons (ps_setLc (i := 1) (own := [("shape", 2)]) (g := gName 2) rfl scFo.nd rfl rfl (sw_true rfl rfl rfl (by decide +kernel)) (pi_tup (pe_ix ix_kdict (pe_glob (v := .ref aS) rfl Z.gS rfl) (pe_con (pv 0) (by rfl)) (fun _ _ => rfl))) (blkOk_by (N := nFo) (sc := defScope sFieldsOf) (by decide +kernel))
        (fun _ _ _ _ _ => pg_name (i := 2) scFo.nd rfl (Or.inl rfl)) (fun s1 H1 C1 cl1 fp1 => pts_one (pt_cmpR (show OpR _ (compareOp .In) (rIn K false) from op_in_seq (X := (XFo P w K mg base f cdv A0 outer s H E).blk s1 H1 _ (compEnvC _ cl1 C1 (XFo P w K mg base f cdv A0 outer s H E).env) fp1)) (pv 2) (pe_glob (v := .ref aF) rfl Z.gF rfl) (by rfl))) (fun _ _ _ _ _ => pv 2))
      (pss_one (ps_ret (pe_listZip rfl (by rfl) T.list (by rfl) T.zip (pa_cons (pv 1) (pa_cons (pe_fld (pv 0) (by rfl)) pa_nil))))), ?_⟩
    obtain ⟨dx, t, ea, et⟩ := id ha
    obtain ⟨u, cw⟩ := Z.wd k
    obtain ⟨kl, k2⟩ := kinds_len k
    refine ⟨.ref a, rfl, a, A k.ix, dx, _, .str k.wd, u, rfl, ea, S.c _ k.ix_lt, cw, no_word t, aS, k.wd, .ref (aT k.ix), rfl, rfl, Z.sh k, aT k.ix, rfl, ⟨_, Z.sT k _⟩, fun D hD => ?_⟩
    refine lc_it (walk_tup (K := K) (a := aT k.ix) (xs := k.kinds.map V.str)) (fun i H' => Same' H H' ∧ H' D = some (.lst ((k.kinds.take i).map V.str))) ⟨same_new hD, upd_same⟩ (fun i H' _ hp => Z.sT k _) (fun i x H' H2 hi hp hy => ?_) (fun H' hp => ?_)
    · obtain ⟨sm, ed⟩ := hp
      obtain ⟨rfl, hx⟩ := hy
      rw [List.getElem?_map] at hx
      cases ez : k.kinds[i]? with
      | none =>
        rw [ez] at hx
        cases hx
      | some z =>
        rw [ez] at hx
        cases hx
        refine ⟨rfl, .str z, rfl, aF, fieldsK.map V.str, rfl, .inr (Z.sF _), rfl, by decide +kernel, _, rfl, ?_⟩
        rw [kinds_in k z (List.mem_of_getElem? ez)]
        refine iteT ⟨.str z, rfl, _, ed, ?_, same_over hD sm, ?_⟩
        · rw [List.length_map, List.length_take, sizeLine_eq]
          omega
        · rw [upd_same, List.take_add_one, ez, List.map_append]
          rfl
    · obtain ⟨sm, ed⟩ := hp
      rw [List.length_map, List.take_of_length_le (Nat.le_refl _)] at ed
      refine ⟨.ref D, rfl, .ref a, rfl, a, A k.ix, dx, _, .ref t, rfl, sm _ _ ea, S.c _ k.ix_lt, S.no _ k.ix_lt _ (by simp), at_fields t, D, t, k.kinds.map V.str, k.args, rfl, SqL.of ed, SqT.of (sm _ _ et), by rw [List.length_map]; exact kl, by rw [List.length_map]; omega, fun l ts H2 nl s2 ln el pr => ?_⟩
      exact q l ts H2 (none_old sm nl) (sm.trans s2) el (prl_of (by rw [ln, List.length_map]) kl pr)
end
end My
/-! [e for x in .. for y in .. for z in ..] where the second source has nothing each time it is asked -/
namespace MyC
open PySem PySem.Spec PyProof.Rows L2
theorem turn3_out (cz : Comprehension) (elt t0 i0 t1 i1 : Expr) (ifs0 ifs1 : List Expr) (scope : Scope) (pos : Pos) (it acc : Value) (env : Env) :
    compTurn (.ListComp elt [⟨t0, i0, ifs0, 0⟩, ⟨t1, i1, ifs1, 0⟩, cz] scope pos) 0 it acc env = (do
      standAt i0.pos
      match ← pyNext it with
      | none => pure (.done .next)
      | some v =>
        letOwnedTupleGo t0 it v
        assign t0 env v
        let mut ok := true
        for c in ifs0 do
          if ok then ok ← isTrue c env (eval c env)
        if ok then
          let x ← eval i1 env
          standAt i1.pos
          let x ← foldedSetIterable i1 env x
          let _ ← runOwn (.compStart (.ListComp elt [⟨t0, i0, ifs0, 0⟩, ⟨t1, i1, ifs1, 0⟩, cz] scope pos) 1 (← holding [x] (pyIter x)) acc env) env
        again (.compLoop (.ListComp elt [⟨t0, i0, ifs0, 0⟩, ⟨t1, i1, ifs1, 0⟩, cz] scope pos) 0 it acc env)) := by rfl
theorem turn3_in (cz : Comprehension) (elt t0 i0 t1 i1 : Expr) (ifs0 ifs1 : List Expr) (scope : Scope) (pos : Pos) (it acc : Value) (env : Env) :
    ∃ rest : Value → Sem Fin, compTurn (.ListComp elt [⟨t0, i0, ifs0, 0⟩, ⟨t1, i1, ifs1, 0⟩, cz] scope pos) 1 it acc env = (do
      standAt i1.pos
      match ← pyNext it with
      | none => pure (.done .next)
      | some v => rest v) := ⟨_, rfl⟩
section
variable {cz : Comprehension} {prog : Program} {w : World} {A : Around} {R : Result → Shared → Prop} {s : Shared} {elt t0 i0 t1 i1 : Expr} {ifs0 ifs1 : List Expr} {scope : Scope} {pos : Pos} {it acc : Value} {env : Env}
theorem loop3_out (hs : ∀ x, foldedSetIterable i1 env x = pure x) (I : Nat → Shared → Prop)
    (turn : ∀ n s, I n s → wpAny (model prog w) A (pyNext it) (fun r sa1 => match r with
      | none => R (.ok .next) sa1
      | some v => wpAny (model prog w) A (letOwnedTupleGo t0 it v) (fun _ sb1 => wpAny (model prog w) A (assign t0 env v) (fun _ sa2 =>
          wpAny (model prog w) A (forIn ifs0 true fun c r => if r = true then do let ok ← isTrue c env (eval c env); pure (ForInStep.yield ok) else pure (ForInStep.yield r)) (fun ok sa3 =>
            if ok = true then wpAny (model prog w) A (eval i1 env) (fun x sa4 => wpAny (model prog w) A (pyIter x) (fun it1 sa5 =>
              codeAny (model prog w) A (.compStart (.ListComp elt [⟨t0, i0, ifs0, 0⟩, ⟨t1, i1, ifs1, 0⟩, cz] scope pos) 1 it1 acc env) (fun r s' => match r with
                | .ok _ => ∃ m, m < n ∧ I m s'
                | .error _ => False) sa5) (notedBy (model prog w) A env fun e s' => R (.error e) s') sa4) (notedBy (model prog w) A env fun e s' => R (.error e) s') sa3
            else ∃ m, m < n ∧ I m sa3) (notedBy (model prog w) A env fun e s' => R (.error e) s') sa2) (notedBy (model prog w) A env fun e s' => R (.error e) s') sb1) (notedBy (model prog w) A env fun e s' => R (.error e) s') sa1) (notedBy (model prog w) A env fun e s' => R (.error e) s') s)
    (n : Nat) (h : I n s) :
    codeAny (model prog w) A (.compLoop (.ListComp elt [⟨t0, i0, ifs0, 0⟩, ⟨t1, i1, ifs1, 0⟩, cz] scope pos) 0 it acc env) R s := by
  refine codeAny_loop rfl I (fun n s hI => ?_) n h
  show wpAny _ A ((compTurn (.ListComp elt [⟨t0, i0, ifs0, 0⟩, ⟨t1, i1, ifs1, 0⟩, cz] scope pos) 0 it acc env).onRaise (fun x => do noteFrame x env; theTreesLotGoes x)) _ _ s
  refine wpAny_noted ?_
  rw [turn3_out]
  refine wpAny_bind (wpAny_standAt (wpAny_bind (wpAny_mono (turn n s hI) (fun r sa1 ha1 => ?_) fun _ _ h' => h')))
  cases r with
  | none => exact wpAny_pure ha1
  | some v =>
    refine wpAny_bind (wpAny_mono ha1 (fun _ sb1 hb1 => ?_) fun _ _ h' => h')
    refine wpAny_bind (wpAny_mono hb1 (fun _ sa2 ha2 => wpAny_bind (wpAny_mono ha2 (fun ok sa3 ha3 => ?_) fun _ _ h' => h')) fun _ _ h' => h')
    cases ok with
    | false => exact wpAny_pure ⟨rfl, ha3⟩
    | true =>
      refine wpAny_bind (wpAny_mono ha3 (fun x sa4 ha4 => ?_) fun _ _ h' => h')
      refine wpAny_bind (wpAny_standAt (wpAny_bind (wpAny_of_eq (hs x) (wpAny_bind (wpAny_holding (wpAny_mono ha4 (fun it1 sa5 ha5 => ?_) fun _ _ h' => h'))))))
      refine wpAny_bind (wpAny_runOwn ?_)
      rw [Around.mark_none]
      refine codeAny_mono ha5 fun r s' hr => ?_
      cases r with
      | ok f =>
        first
          | exact wpAny_pure ⟨rfl, hr⟩
          | exact wpAny_bind (wpAny_pure (wpAny_pure ⟨rfl, hr⟩))
      | error e => exact hr.elim
/-- the loop of the second, at its end at once -/
theorem loop3_in (h : wpAny (model prog w) A (pyNext it) (fun r sa1 => r = none ∧ R (.ok .next) sa1) (notedBy (model prog w) A env fun e s' => R (.error e) s') s) :
    codeAny (model prog w) A (.compLoop (.ListComp elt [⟨t0, i0, ifs0, 0⟩, ⟨t1, i1, ifs1, 0⟩, cz] scope pos) 1 it acc env) R s := by
  refine codeAny_loop rfl (fun _ s' => s' = s) (fun n s' hs => ?_) 0 rfl
  subst hs
  show wpAny _ A ((compTurn (.ListComp elt [⟨t0, i0, ifs0, 0⟩, ⟨t1, i1, ifs1, 0⟩, cz] scope pos) 1 it acc env).onRaise (fun x => do noteFrame x env; theTreesLotGoes x)) _ _ s'
  refine wpAny_noted ?_
  obtain ⟨rest, e⟩ := turn3_in cz elt t0 i0 t1 i1 ifs0 ifs1 scope pos it acc env
  rw [e]
  refine wpAny_bind (wpAny_standAt (wpAny_bind (wpAny_mono h (fun r sa1 hr => ?_) fun _ _ z => z)))
  obtain ⟨rfl, hr⟩ := hr
  exact wpAny_pure hr
theorem start3_1 (h0 : codeAny (model prog w) A (.compLoop (.ListComp elt [⟨t0, i0, ifs0, 0⟩, ⟨t1, i1, ifs1, 0⟩, cz] scope pos) 1 it acc env) R s)
    (h : wpAny (model prog w) A (pyIter it) (fun it' s' => codeAny (model prog w) A (.compLoop (.ListComp elt [⟨t0, i0, ifs0, 0⟩, ⟨t1, i1, ifs1, 0⟩, cz] scope pos) 1 it' acc env) R s')
      (notedBy (model prog w) A env fun x s' => R (.error x) s') s) :
    codeAny (model prog w) A (.compStart (.ListComp elt [⟨t0, i0, ifs0, 0⟩, ⟨t1, i1, ifs1, 0⟩, cz] scope pos) 1 it acc env) R s := by
  refine codeAny_of_tree ?_
  show wpAny _ _ ((compStart (.ListComp elt [⟨t0, i0, ifs0, 0⟩, ⟨t1, i1, ifs1, 0⟩, cz] scope pos) 1 it acc env).onRaise (fun x => do noteFrame x env; standAt theWindowsPlace)) _ _ s
  refine wpAny_notedAt ?_
  unfold compStart
  show wpAny _ _ (ask >>= _) _ _ s
  refine wpAny_bind (wpAny_askSetting (wpAny_ite ?_))
  split
  · first
      | exact wpAny_bind (wpAny_pure (wpAny_pure (And.intro rfl h0)))
      | exact wpAny_pure (And.intro rfl h0)
  · first
      | exact wpAny_bind (wpAny_rule (wpAny_bind (wpAny_standAt (wpAny_bind (wpAny_mono h (fun it' s' h' => wpAny_pure (And.intro rfl h')) fun _ _ x => x)))))
      | (refine wpAny_bind (wpAny_rule ?_); show wpAny _ _ (standAt i1.pos >>= _) _ _ s; exact wpAny_bind (wpAny_standAt (wpAny_bind (wpAny_mono h (fun it' s' h' => wpAny_pure (And.intro rfl h')) fun _ _ x => x))))
end
section
variable {X : Cx} {cz : Comprehension}
def tLc3 (wi : TI) (g : TG) (tt : TT) (wi1 : TI) (vs : List Nat) : TE := fun σ H Q => wi σ H fun J H1 => ∀ D, H1 D = none → ∃ W : Nat → Nat → Hp → Prop, (∃ m, W 0 m (upd H1 D (.lst []))) ∧ ∀ i m H, W i m H →
  (J.stop i H ∧ Q (.ref D) H) ∨ (J.go i H ∧ ∃ Nx : Hp → Prop, (∀ H', Nx H' → ∃ m', m' < m ∧ W (i + 1) m' H') ∧ ∀ x H', J.yld i H x H' → g x (wipe σ vs) H' fun σ2 H2 => wipe σ2 vs = wipe σ vs ∧ tt σ2 H2 fun b H3 =>
    if b = true then wi1 σ2 H3 fun J1 H4 => J1.stop 0 H4 ∧ Nx H4 else Nx H3)
theorem lc3_core {pins : List (Addr × Obj)} {s : Shared} {σ : L2.St} {H : Hp} {Q : VK} {elt tg iter tg1 iter1 : Expr} {ifs ifs1 : List Expr} {scope : Scope} {own : List (Str × Nat)} {pos pos' : Pos} {wi wi1 : TI} {g : TG} {tt : TT} {use : Option (Value → Sem Unit)} {Qf : Value → Shared → Prop}
    (hc : X.calm = true) (hN : X.N.Nodup) (I : Inv X pins σ H s) (hi : PI X tg iter wi) (ok : BlkOk X.N X.env.scope scope own)
    (hg : ∀ (s : Shared) (H : Hp) (C : Addr) (cl : List (Str × Addr)) (fp : List Addr), PG (X.blk s H scope (compEnvC scope cl C X.env) fp) tg g) (ht : ∀ (s : Shared) (H : Hp) (C : Addr) (cl : List (Str × Addr)) (fp : List Addr), PTs (X.blk s H scope (compEnvC scope cl C X.env) fp) ifs tt)
    (hs : ∀ x, foldedSetIterable iter X.env x = pure x)
    (hi1 : ∀ (s : Shared) (H : Hp) (C : Addr) (cl : List (Str × Addr)) (fp : List Addr), PI (X.blk s H scope (compEnvC scope cl C X.env) fp) tg1 iter1 wi1)
    (hs1 : ∀ env x, foldedSetIterable iter1 env x = pure x)
    (h : tLc3 wi g tt wi1 (own.map (·.2)) σ H Q)
    (hRR : ∀ D C s' m H', Inv X pins σ H' s' → Q (.ref D) H' → s'.heap.Ns C m → FpOk X pins H' C → compPost (model X.prog X.w) X.A X.xe use Qf (.ref D) C (.ok .next) s') :
    wpAny (model X.prog X.w) X.A (comprehension (.ListComp elt [⟨tg, iter, ifs, 0⟩, ⟨tg1, iter1, ifs1, 0⟩, cz] scope pos) scope X.env pos' (newList []) false (eval iter X.env) use) Qf X.xe s := by
  have hfree : ∀ y ∈ scope.names, y.2 = .free → ∃ c, X.env.cells.lookup y.1 = some c := fun y hy e => by
    rcases ok.free y hy e with k | k
    · exact I.ok.has _ (.inl k)
    · exact I.ok.has _ (.inr k)
  refine wpAny_comprehension_free (use := use) rfl hs (closure_ok hfree) ok.kind (fun y hy e => by rw [ok.uniq y hy, e])
    (thn (hi.run pins s σ H _ I h) fun xv s1 hx => thn hx fun itv s2 h2 => ?_)
  obtain ⟨it, fp, tn, J, H2, e, I2, T, st2, f2, q⟩ := h2
  subst e
  refine wpAny_newObj_type (newEnv_comp ?_) (by show 0 ≤ sizeLine; decide)
  generalize hD : s2.heap.objs.size = D
  have hDn : H2 D = none := I2.hok.fresh (Nat.le_of_eq hD)
  obtain ⟨W, ⟨m0, w0⟩, turn⟩ := q D hDn
  -- the new list
  generalize hs3 : ({ s2 with heap := s2.heap.push { cls := .type "list", data := .seq ([] : List Value).toArray } } : Shared) = s3
  have I3 : Inv X pins σ (upd H2 D (.lst [])) s3 := by
    rw [← hs3]
    refine I2.laid (t' := s2.toks) (fun b o e => Heap.get?_push_of_some _ e) (Nat.le_of_eq hD) ⟨Nat.zero_le _, [], 0, .nil, ?_⟩
    rw [← hD]
    exact Heap.get?_push_size _ rfl
  have h3 : s3.heap = s2.heap.push { cls := .type "list", data := .seq ([] : List Value).toArray } := by rw [← hs3]
  have sz : ∀ b ∈ fp, b < s2.heap.objs.size := fun b hb => by
    obtain ⟨o, e, _⟩ := T.obj _ _ st2 b hb
    exact Heap.lt_size e
  have f3 : ∀ b ∈ fp, FpOk X pins (upd H2 D (.lst [])) b ∧ b < s3.heap.objs.size := fun b hb => by
    have hlt := sz b hb
    refine ⟨⟨?_, (f2 b hb).2⟩, by rw [h3, Heap.size_push]; exact Nat.lt_succ_of_lt hlt⟩
    rw [upd_ne (by rw [← hD]; exact Nat.ne_of_lt hlt)]
    exact (f2 b hb).1
  have st3 : tn 0 s3.heap := T.keep _ _ _ st2 fun b _ o e => by rw [h3]; exact Heap.get?_push_of_some _ e
  have I4 := block_start I3 ok hN f3
  have pg := hg s3 (upd H2 D (.lst [])) s3.heap.objs.size (cellsFrom (s3.heap.objs.size + 1) scope.names (cloFrom X.env.cells scope.names [])) fp
  have pt := ht s3 (upd H2 D (.lst [])) s3.heap.objs.size (cellsFrom (s3.heap.objs.size + 1) scope.names (cloFrom X.env.cells scope.names [])) fp
  have pi1 := hi1 s3 (upd H2 D (.lst [])) s3.heap.objs.size (cellsFrom (s3.heap.objs.size + 1) scope.names (cloFrom X.env.cells scope.names [])) fp
  show codeAny _ _ (.compStart (.ListComp elt [⟨tg, iter, ifs, 0⟩, ⟨tg1, iter1, ifs1, 0⟩, cz] scope pos) 0 (.ref it) (.ref D) (compEnvC scope (cellsFrom (s3.heap.objs.size + 1) scope.names (cloFrom X.env.cells scope.names [])) s3.heap.objs.size X.env)) (compPost (model X.prog X.w) X.A X.xe use Qf (.ref D) s3.heap.objs.size) { s3 with heap := pushCells (s3.heap.push { cls := .type "dict", data := .dict #[] }) scope.names }
  have nfp : ∀ b ∈ fp, (upd H2 D (.lst [])) b = none := fun b hb => (f3 b hb).1.1
  generalize hce : compEnvC scope (cellsFrom (s3.heap.objs.size + 1) scope.names (cloFrom X.env.cells scope.names [])) s3.heap.objs.size X.env = ce at I4 pg pt pi1 ⊢
  have cL : ce.locals = s3.heap.objs.size := by subst hce; rfl
  generalize hH3 : upd H2 D (.lst []) = H3 at I3 I4 pg pt pi1 w0 nfp f3
  generalize hs4 : ({ s3 with heap := pushCells (s3.heap.push { cls := .type "dict", data := .dict #[] }) scope.names } : Shared) = s4 at I4 ⊢
  have st4 : tn 0 s4.heap := T.keep _ _ _ st3 fun b _ o e => by rw [← hs4]; exact pushCells_keeps _ _ _ _ (Heap.get?_push_of_some _ e)
  have stat : ∀ {σ' : L2.St} {H' : Hp} {s' : Shared}, Inv (X.blk s3 H3 scope ce fp) [] σ' H' s' → (∀ b ∈ fp, H' b = none) → ∀ b ∈ fp, FpOk (X.blk s3 H3 scope ce fp) [] H' b := fun {σ' H' s'} I' hn b hb =>
    ⟨hn b hb, (I'.ok.exf b hb).1, I'.ok.exfs b hb, .inl hb, fun x c e => (I'.ok.exf b hb).2 x c e, fun p hp => absurd (show p ∈ ([] : List (Addr × Obj)) ++ [] from hp) (by simp)⟩
  have loop : codeAny (model X.prog X.w) X.A (.compLoop (.ListComp elt [⟨tg, iter, ifs, 0⟩, ⟨tg1, iter1, ifs1, 0⟩, cz] scope pos) 0 (.ref it) (.ref D) ce) (compPost (model X.prog X.w) X.A X.xe use Qf (.ref D) s3.heap.objs.size) s4 := by
    refine loop3_out (hs1 ce) (fun n s' => ∃ i H', Inv (X.blk s3 H3 scope ce fp) [] (wipe σ (own.map (·.2))) H' s' ∧ tn i s'.heap ∧ (∀ b ∈ fp, H' b = none) ∧ W i n H') ?_ m0 ⟨0, H3, I4, st4, nfp, w0⟩
    rintro n s5 ⟨i, H5, I5, st5, n5, w5⟩
    rcases turn i n H5 w5 with ⟨stop, qq⟩ | ⟨go, Nx, hNx, step⟩
    · have td := T.done (X.blk s3 H3 scope ce fp) rfl rfl rfl hc i [] s5 _ H5 (fun _ _ => False) I5 (stat I5 n5) st5 stop
      refine thnF td fun r s6 ⟨hr, I6⟩ => ?_
      subst hr
      -- back in the def's context
      have I7 : Inv X pins σ H5 s6 := I3.call' (ch := fp) I6.os I6.base I6.hok I6.bare fun b hb => ⟨(f3 b hb).1.2.2.2.1, (f3 b hb).1.2.1, (f3 b hb).1.2.2.2.2.1, (f3 b hb).1.2.2.2.2.2⟩
      have nC : H5 s3.heap.objs.size = none := by
        have z : H5 ce.locals = none := I6.free
        rw [cL] at z
        exact z
      obtain ⟨m, hn, _⟩ := I6.loc
      have hn : s6.heap.Ns ce.locals m := hn
      rw [cL] at hn
      exact hRR D s3.heap.objs.size s6 m H5 I7 qq hn (I3.fpOk (Nat.le_refl _) nC)
    · have ti := T.item (X.blk s3 H3 scope ce fp) rfl rfl rfl hc i [] s5 _ H5 (fun _ _ => False) I5 (stat I5 n5) st5 go
      refine thnF ti fun r s6 ⟨u, hr, h6⟩ => ?_
      subst hr
      refine thnF h6 fun _ s7 ⟨x, H7, I7, r7, y7, st7, n7⟩ => ?_
      have I7' := I7.pinned (stat I7 n7) (T.obj _ _ st7)
      refine thnF (pg.run _ s7 _ H7 x u _ I7' r7 (step x H7 y7)) fun _ s8 ⟨σ8, H8, I8, hw8, q8⟩ => ?_
      refine thnF (pt.run _ s8 σ8 H8 _ I8 q8) fun b s9 ⟨H9, I9, q9⟩ => ?_
      -- the turn's end, from any slots that know what the block knew at its start
      have fin : ∀ {σ9 : L2.St} {s' : Shared} {H' : Hp}, Inv (X.blk s3 H3 scope ce fp) ([] ++ pinsAt fp s7.heap) σ9 H' s' → (wipe σ (own.map (·.2))).length = σ9.length → (∀ (j : Nat) v, (wipe σ (own.map (·.2)))[j]? = some (some v) → σ9[j]? = some (some v)) → Nx H' →
          ∃ m, m < n ∧ ∃ i H', Inv (X.blk s3 H3 scope ce fp) [] (wipe σ (own.map (·.2))) H' s' ∧ tn i s'.heap ∧ (∀ b ∈ fp, H' b = none) ∧ W i m H' := fun {σ9 s' H'} I' hl hk nx => by
        obtain ⟨m', hm, w'⟩ := hNx H' nx
        have pin' : ∀ b ∈ fp, ∀ o, s7.heap.get? b = some o → s'.heap.get? b = some o ∧ H' b = none := fun b hb o e =>
          let z := I'.pin (b, o) (List.mem_append_right _ (List.mem_append_right _ (mem_pinsAt hb e)))
          ⟨z.1, z.2.1⟩
        refine ⟨m', hm, i + 1, H', (I'.unpinned (pins := [])).weak hl hk, T.keep _ _ _ st7 fun b hb o e => (pin' b hb o e).1, fun b hb => ?_, w'⟩
        obtain ⟨o, e, _⟩ := T.obj _ _ st7 b hb
        exact (pin' b hb o e).2
      have hl8 : (wipe σ (own.map (·.2))).length = σ8.length := by rw [← hw8, wipe_length]
      have hk8 : ∀ (j : Nat) v, (wipe σ (own.map (·.2)))[j]? = some (some v) → σ8[j]? = some (some v) := fun j v e => by
        rw [← hw8] at e
        exact (wipe_some e).1
      cases b with
      | false =>
        simp only [Bool.false_eq_true, if_false] at q9 ⊢
        exact fin I9 hl8 hk8 q9
      | true =>
        simp only [if_true] at q9 ⊢
        refine thnF (pi1.run _ s9 σ8 H9 _ I9 q9) fun xv s10 hx => thnF hx fun itv s11 h11 => ?_
        obtain ⟨it1, fp1, tn1, J1, H11, e1, I11, T1, st11, f11, turn1⟩ := h11
        subst e1
        obtain ⟨end1, nx1⟩ := turn1
        have stat1 : ∀ b ∈ fp1, FpOk (X.blk s3 H3 scope ce fp) ([] ++ pinsAt fp s7.heap) H11 b := fun b hb => ⟨(f11 b hb).1, (f11 b hb).2⟩
        have loop1 : codeAny (model X.prog X.w) X.A (.compLoop (.ListComp elt [⟨tg, iter, ifs, 0⟩, ⟨tg1, iter1, ifs1, 0⟩, cz] scope pos) 1 (.ref it1) (.ref D) ce)
            (fun r s' => match r with
              | .ok _ => ∃ m, m < n ∧ ∃ i H', Inv (X.blk s3 H3 scope ce fp) [] (wipe σ (own.map (·.2))) H' s' ∧ tn i s'.heap ∧ (∀ b ∈ fp, H' b = none) ∧ W i m H'
              | .error _ => False) s11 := by
          refine loop3_in ?_
          refine thnF (T1.done (X.blk s3 H3 scope ce fp) rfl rfl rfl hc 0 _ s11 σ8 H11 (fun _ _ => False) I11 stat1 st11 end1) fun r s13 ⟨hr, I13⟩ => ?_
          exact ⟨hr, fin I13 hl8 hk8 nx1⟩
        exact start3_1 loop1 (T1.self X.A 0 _ _ _ st11 loop1)
  exact codeAny_compStart_list loop (T.self X.A 0 _ _ _ st4 loop)
theorem ps_setLc3 {i : Nat} {y : Str} {py : Pos} {elt tg iter tg1 iter1 : Expr} {ifs ifs1 : List Expr} {scope : Scope} {own : List (Str × Nat)} {pos spos : Pos} {wi wi1 : TI} {g : TG} {tt : TT} (hc : X.calm = true) (hN : X.N.Nodup) (hy : X.N[i]? = some y) (hyl : X.env.scope.names.lookup y = some .local)
    (hsw : swapsWith (.ListComp elt [⟨tg, iter, ifs, 0⟩, ⟨tg1, iter1, ifs1, 0⟩, cz] scope pos) (some (.Name y py)) spos.line X.env = pure true) (hi : PI X tg iter wi) (ok : BlkOk X.N X.env.scope scope own)
    (hg : ∀ (s : Shared) (H : Hp) (C : Addr) (cl : List (Str × Addr)) (fp : List Addr), PG (X.blk s H scope (compEnvC scope cl C X.env) fp) tg g) (ht : ∀ (s : Shared) (H : Hp) (C : Addr) (cl : List (Str × Addr)) (fp : List Addr), PTs (X.blk s H scope (compEnvC scope cl C X.env) fp) ifs tt)
    (hi1 : ∀ (s : Shared) (H : Hp) (C : Addr) (cl : List (Str × Addr)) (fp : List Addr), PI (X.blk s H scope (compEnvC scope cl C X.env) fp) tg1 iter1 wi1)
    (hs : ∀ x, foldedSetIterable iter X.env x = pure x := by intro _; rfl) (hs1 : ∀ env x, foldedSetIterable iter1 env x = pure x := by intro _ _; rfl) :
    PS X (.Assign [.Name y py] (.ListComp elt [⟨tg, iter, ifs, 0⟩, ⟨tg1, iter1, ifs1, 0⟩, cz] scope pos) spos) (tAsg (tLc3 wi g tt wi1 (own.map (·.2))) (gName i)) := by
  refine ⟨fun pins s σ H D I h => ?_⟩
  rw [exec_Assign_Name_used _ _ _ _ hsw]
  refine wpAny_bind (wpAny_standAt (wpAny_bind ?_))
  show wpAny _ X.A (do let _ ← comprehension (.ListComp elt [⟨tg, iter, ifs, 0⟩, ⟨tg1, iter1, ifs1, 0⟩, cz] scope pos) scope X.env (firstIterPos [⟨tg, iter, ifs, 0⟩, ⟨tg1, iter1, ifs1, 0⟩, cz] pos) (newList []) false (eval iter X.env) (some (assign (.Name y py) X.env))) _ _ s
  have h : tLc3 wi g tt wi1 (own.map (·.2)) σ H (fun x H1 => gName i x σ H1 D.nx) := h
  refine wpAny_bind (thn (lc3_core (Qf := fun _ s' => SP X pins D .next s') hc hN I hi ok hg ht hs hi1 hs1 h fun L C s' m H' I' q hn f => ?_) fun _ s' hq => wpAny_pure (wpAny_pure hq))
  show wpAny _ _ (assign (.Name y py) X.env (.ref L)) _ _ _
  refine wpAny_assign_Name (store_ok2 (v := V.ref L) I' hN hy (.inl hyl) rfl (fun s2 I2 ⟨a, sb, ha⟩ => ?_) (.inr hyl))
  obtain ⟨f0, f1, f2, f3, f4, f5⟩ := f
  have haC : C ≠ a := by
    rcases ha with z | z
    · rw [z]; exact f1
    · exact fun e => f4 y a z e.symm
  refine ⟨m, hn.sameBut sb haC, fun h3 sb3 => ?_⟩
  exact ⟨_, H', I2.turned (t' := s2.toks) (fun b o hb e => (sb3.2 b hb).trans e) f0 f1 f3 f4 f5, q⟩
end
end MyC
namespace My
open PySem PySem.Spec PyProof.Rows L2
structure FnB (P : Program) (w : World) (K : PySem.W.Frag) (mg : Str → Option Value) (base : Heap) (k : Nat) (x : Str) (st : Stmt) (f : Addr) (fd : FuncData) (ps : List Str) (sp : Sp) : Prop where
  F : Fun K x x st f fd
  b : Binds K fd ps []
  g : mg x = some (.ref f)
  G : FnOk P w K mg base CX0 k f fd ps sp
structure MethB (P : Program) (w : World) (K : PySem.W.Frag) (mg : Str → Option Value) (base : Heap) (k : Nat) (C : Addr) (m : Str) (f : Addr) (fd : FuncData) (ps : List Str) (sp : Sp) : Prop where
  m : Meth K C m f
  b : Binds K fd ps []
  G : FnOk P w K mg base CX0 k f fd ps sp
/-! ### two walks in one comprehension -/
section
variable {J : It} {n : Nat} {G : Hp → Prop} {Y : Nat → Hp → V → Hp → Prop} {wi1 : TI} {g g1 : TG} {tt tt1 : TT} {te : TE} {vs vs1 : List Nat} {σ : L2.St} {H1 : Hp} {D : Addr} {Qd : Hp → Prop}
def InW (J1 : It) (g1 : TG) (tt1 : TT) (te : TE) (vs1 : List Nat) (D : Addr) (Nx : Hp → Prop) (σ2 : L2.St) (H4 : Hp) : Prop := ∃ W1 : Nat → Nat → Hp → Prop, (∃ m, W1 0 m H4) ∧ ∀ j k H, W1 j k H →
  (J1.stop j H ∧ Nx H) ∨ (J1.go j H ∧ ∃ Nx1 : Hp → Prop, (∀ H', Nx1 H' → ∃ k', k' < k ∧ W1 (j + 1) k' H') ∧ ∀ x H', J1.yld j H x H' → g1 x (wipe σ2 vs1) H' fun σ3 H5 => wipe σ3 vs1 = wipe σ2 vs1 ∧ tt1 σ3 H5 fun b H6 =>
    if b = true then te σ3 H6 fun y H7 => ∃ acc, H7 D = some (.lst acc) ∧ acc.length < sizeLine ∧ Nx1 (upd H7 D (.lst (acc ++ [y]))) else Nx1 H6)
theorem lc2_in {J1 : It} {n1 : Nat} {G1 : Hp → Prop} {Y1 : Nat → Hp → V → Hp → Prop} {Nx : Hp → Prop} {σ2 : L2.St} {H4 : Hp} (w : Walk J1 n1 G1 Y1) (Pw : Nat → Hp → Prop) (h0 : Pw 0 H4) (hG : ∀ j H, j ≤ n1 → Pw j H → G1 H)
    (hs : ∀ j x H H', j < n1 → Pw j H → Y1 j H x H' → g1 x (wipe σ2 vs1) H' fun σ3 H5 => wipe σ3 vs1 = wipe σ2 vs1 ∧ tt1 σ3 H5 fun b H6 =>
      if b = true then te σ3 H6 fun y H7 => ∃ acc, H7 D = some (.lst acc) ∧ acc.length < sizeLine ∧ Pw (j + 1) (upd H7 D (.lst (acc ++ [y]))) else Pw (j + 1) H6) (hd : ∀ H, Pw n1 H → Nx H) : InW J1 g1 tt1 te vs1 D Nx σ2 H4 := by
  refine ⟨fun j k H => k = n1 - j ∧ j ≤ n1 ∧ Pw j H, ⟨n1, by simp, Nat.zero_le _, h0⟩, ?_⟩
  rintro j k H ⟨rfl, hj, p⟩
  have q := hG j H hj p
  rcases Nat.lt_or_ge j n1 with lt | ge
  · exact .inr ⟨w.goes j H lt q, Pw (j + 1), fun H' p' => ⟨n1 - (j + 1), by omega, rfl, lt, p'⟩, fun x H' y => hs j x H H' lt p (w.yields j H x H' lt q y)⟩
  · obtain rfl : j = n1 := by omega
    exact .inl ⟨w.stops H q, hd H p⟩
theorem lc2_out (w : Walk J n G Y) (Pv : Nat → Hp → Prop) (h0 : Pv 0 (upd H1 D (.lst []))) (hG : ∀ i H, i ≤ n → Pv i H → G H)
    (hs : ∀ i x H H', i < n → Pv i H → Y i H x H' → g x (wipe σ vs) H' fun σ2 H2 => wipe σ2 vs = wipe σ vs ∧ tt σ2 H2 fun b H3 => if b = true then wi1 σ2 H3 fun J1 H4 => InW J1 g1 tt1 te vs1 D (Pv (i + 1)) σ2 H4 else Pv (i + 1) H3) (hd : ∀ H, Pv n H → Qd H) :
    ∃ W : Nat → Nat → Hp → Prop, (∃ m, W 0 m (upd H1 D (.lst []))) ∧ ∀ i m H, W i m H → (J.stop i H ∧ Qd H) ∨ (J.go i H ∧ ∃ Nx : Hp → Prop, (∀ H', Nx H' → ∃ m', m' < m ∧ W (i + 1) m' H') ∧ ∀ x H', J.yld i H x H' → g x (wipe σ vs) H' fun σ2 H2 => wipe σ2 vs = wipe σ vs ∧ tt σ2 H2 fun b H3 =>
      if b = true then wi1 σ2 H3 fun J1 H4 => InW J1 g1 tt1 te vs1 D Nx σ2 H4 else Nx H3) := by
  refine ⟨fun i m H => m = n - i ∧ i ≤ n ∧ Pv i H, ⟨n, by simp, Nat.zero_le _, h0⟩, ?_⟩
  rintro i m H ⟨rfl, hi, p⟩
  have q := hG i H hi p
  rcases Nat.lt_or_ge i n with lt | ge
  · exact .inr ⟨w.goes i H lt q, Pv (i + 1), fun H' p' => ⟨n - (i + 1), by omega, rfl, lt, p'⟩, fun x H' y => hs i x H H' lt p (w.yields i H x H' lt q y)⟩
  · obtain rfl : i = n := by omega
    exact .inl ⟨w.stops H q, hd H p⟩
end
def tNoT : TT := fun _ _ _ => False
def tNoE : TE := fun _ _ _ => False
def gNo : TG := fun _ _ _ _ => False
section
theorem pts_never {X : Cx} {es : List Expr} : PTs X es tNoT := ⟨fun _ _ _ _ _ _ h => h.elim⟩
theorem pe_nev {X : Cx} {e : Expr} : PE X e tNoE := ⟨fun _ _ _ _ _ _ h => h.elim⟩
theorem pg_nev {X : Cx} {e : Expr} : PG X e gNo := ⟨fun _ _ _ _ _ _ _ _ _ h => h.elim⟩
end
section
variable {P : Program} {w : World} {K : PySem.W.Frag} {mg : Str → Option Value} {base : Heap}
/-- what a walk of three clauses over one thing comes to, the second source without anything -/
theorem lc3_one {T a D : Addr} {g : TG} {wi1 : TI} {vs : List Nat} {σ : L2.St} {H : Hp} {Q : Hp → Prop} (eT : H T = some (.tup [.ref a])) (hD : H D = none)
    (turn : ∀ H1, Same' H H1 → H1 D = some (.lst []) → g (.ref a) (wipe σ vs) H1 fun σ2 H2 => wipe σ2 vs = wipe σ vs ∧ wi1 σ2 H2 fun J1 H4 => J1.stop 0 H4 ∧ Same' H H4 ∧ H4 D = some (.lst []))
    (q : ∀ H1, Same' H H1 → H1 D = some (.lst []) → Q H1) :
    ∃ W : Nat → Nat → Hp → Prop, (∃ m, W 0 m (upd H D (.lst []))) ∧ ∀ i m H', W i m H' →
      ((Itt K T).stop i H' ∧ Q H') ∨ ((Itt K T).go i H' ∧ ∃ Nx : Hp → Prop, (∀ H'', Nx H'' → ∃ m', m' < m ∧ W (i + 1) m' H'') ∧ ∀ x H'', (Itt K T).yld i H' x H'' → g x (wipe σ vs) H'' fun σ2 H2 => wipe σ2 vs = wipe σ vs ∧ tYes σ2 H2 fun b H3 =>
        if b = true then wi1 σ2 H3 fun J1 H4 => J1.stop 0 H4 ∧ Nx H4 else Nx H3) := by
  refine ⟨fun i m H' => m = 1 - i ∧ i ≤ 1 ∧ Same' H H' ∧ H' D = some (.lst []), ⟨1, rfl, Nat.zero_le _, same_new hD, upd_same⟩, ?_⟩
  rintro i m H' ⟨rfl, hi, sm, ed⟩
  match i, hi with
  | 0, _ =>
    refine .inr ⟨⟨_, _, SqT.of (sm _ _ eT), rfl⟩, fun H'' => Same' H H'' ∧ H'' D = some (.lst []), fun H'' nx => ⟨0, Nat.one_pos, rfl, Nat.le_refl _, nx⟩, fun x H'' hx => ?_⟩
    obtain ⟨rfl, hx⟩ := hx
    have e := hx _ (SqT.of (sm _ _ eT))
    cases e
    exact turn _ sm ed
  | 1, _ => exact .inl ⟨⟨_, SqT.of (sm _ _ eT), Nat.le_refl _⟩, q H' sm ed⟩
end
/-! ### the names of a program of one simple deed -/
abbrev sBlocks : Stmt := inClass (topS 46) 1
def spBlocks : Sp := fun vs H Q _ => ∃ x : V, vs = [x] ∧ ∀ t, H t = none → Q (.ref t) (upd H t (.tup []))
def namedK : List Str := ["cell", "log", "failure"]
/-- a list of pairs of texts -/
def PL (H : Hp) (D : Addr) (n : Nat) : Prop := ∃ ys : List (Addr × Str × Str), H D = some (.lst (ys.map fun y => V.ref y.1)) ∧ (∀ y ∈ ys, H y.1 = some (.tup [.str y.2.1, .str y.2.2])) ∧ ys.length ≤ n
theorem PL.keep {H H' : Hp} {D : Addr} {n : Nat} (h : PL H D n) (s : Same' H H') : PL H' D n := let ⟨ys, e, t, l⟩ := h; ⟨ys, s _ _ e, fun y hy => s _ _ (t y hy), l⟩
theorem named_text (k : DK) : ∀ p ∈ k.prs, inV (.str p.1) (namedK.map V.str) = true → ∃ z, p.2 = V.str z := by
  have hv : inV (.str "value") (namedK.map V.str) = false := by decide +kernel
  cases k with
  | put n i =>
    intro p hp h
    rcases List.mem_cons.mp hp with rfl | hp
    · exact ⟨n, rfl⟩
    · obtain rfl := List.mem_singleton.mp hp
      rw [hv] at h
      cases h
  | copy a b =>
    intro p hp h
    rcases List.mem_cons.mp hp with rfl | hp
    · exact ⟨a, rfl⟩
    · obtain rfl := List.mem_singleton.mp hp
      exact ⟨b, rfl⟩
  | say a b =>
    intro p hp h
    rcases List.mem_cons.mp hp with rfl | hp
    · exact ⟨a, rfl⟩
    · obtain rfl := List.mem_singleton.mp hp
      exact ⟨b, rfl⟩
  | fail n =>
    intro p hp h
    obtain rfl := List.mem_singleton.mp hp
    exact ⟨n, rfl⟩
  | lv => exact fun p hp => (nomatch hp)
  | st => exact fun p hp => (nomatch hp)
theorem prs_len (k : DK) : k.prs.length ≤ 2 := by cases k <;> simp [DK.prs, DK.kinds, DK.args]
def spNi (A : Nat → Addr) : Sp := fun vs H Q _ => ∃ (T a : Addr) (k : DK), vs = [.ref T] ∧ H T = some (.tup [.ref a]) ∧ IsD A H a k ∧ ∀ (l : Addr) (H' : Hp), Same' H H' → PL H' l 2 → Q (.ref l) H'
theorem prl_at {H : Hp} : ∀ {ts : List Addr} {ps : List (Str × V)}, Prl H ts ps → ∀ (j : Nat) (t : Addr), ts[j]? = some t → ∃ p, ps[j]? = some p ∧ H t = some (.tup [.str p.1, p.2])
  | _, _, .nil, j, t, h => by simp at h
  | _, _, .cons e _, 0, t, h => by
    cases h
    exact ⟨_, rfl, e⟩
  | _, _, .cons _ r, j + 1, t, h => prl_at r j t h
theorem prl_off {H H' : Hp} (s : ∀ b xs, H b = some (.tup xs) → H' b = some (.tup xs)) : ∀ {ts : List Addr} {ps : List (Str × V)}, Prl H ts ps → Prl H' ts ps
  | _, _, .nil => .nil
  | _, _, .cons e r => .cons (s _ _ e) (prl_off s r)
theorem no_blocks {k : DK} (t : Addr) : (k.flds t).lookup (Str.ofString "blocks") = none := by cases k <;> rfl
theorem prl_len {H : Hp} : ∀ {ts : List Addr} {ps : List (Str × V)}, Prl H ts ps → ts.length = ps.length
  | _, _, .nil => rfl
  | _, _, .cons _ r => congrArg Nat.succ (prl_len r)
section
variable {P : Program} {w : World} {K : PySem.W.Frag} {mg : Str → Option Value} {base : Heap} {A : Nat → Addr} {aN : Addr}
theorem scBl : FnScope ["self"] ["self"] (defScope sBlocks) := ⟨rfl, rfl, rfl, by decide +kernel, rfl, by decide +kernel, by decide +kernel⟩
theorem ok_blocks {f : Addr} {fd : FuncData} (F : Fun K "blocks" "Deed.blocks" sBlocks f fd) : FnOk P w K mg base CX0 1 f fd ["self"] spBlocks := by
  refine F.ok scBl (fun vs H Q E h => ?_) (fun cdv A outer s H vs Q E hr h => ?_)
  · obtain ⟨x, rfl, _⟩ := h
    rfl
  · obtain ⟨x, rfl, q⟩ := h
    exact ⟨_, pss_one (ps_ret (pe_tup pa_nil)), by show 0 ≤ sizeLine; decide, fun t ht => q t ht⟩
abbrev nNi : List Str := ["deeds", "own", "inner", "deed", "field", "block", "pair"]
theorem scNi : FnScope nNi ["deeds"] (defScope sNamesIn) := ⟨rfl, rfl, rfl, by decide +kernel, rfl, by decide +kernel, by decide +kernel⟩
abbrev XNi (P : Program) (w : World) (K : PySem.W.Frag) (mg : Str → Option Value) (base : Heap) (f : Addr) (cdv : Value) (A : Around) (outer : List Env) (s : Shared) (H : Hp) (E : XK) : Cx := (cxOf CX0 P w K mg base nNi "names_in" (defScope sNamesIn) f cdv A outer s H E).nox
theorem PL.nil {H : Hp} {D : Addr} (h : H D = some (.lst [])) (n : Nat) : PL H D n := ⟨[], h, fun y hy => (nomatch hy), Nat.zero_le _⟩
theorem ok_namesIn {f fF fB : Addr} {fd dF dB : FuncData} (F : Fun K "names_in" "names_in" sNamesIn f fd) (S : Dd K mg A) (gN : mg "NAMED" = some (.ref aN)) (sN : ∀ H, SqT K H aN (namedK.map V.str)) (Fo : FnB P w K mg base 1 "fields_of" sFieldsOf fF dF ["deed"] (spFo A)) (Bl : ∀ j, j < 6 → MethB P w K mg base 1 (A j) "blocks" fB dB ["self"] spBlocks) :
    FnOk P w K mg base CX0 2 f fd ["deeds"] (spNi A) := by
  refine F.ok scNi (fun vs H Q E h => ?_) (fun cdv A0 outer s H vs Q E hr h => ?_)
  · obtain ⟨T, a, k, rfl, _⟩ := h
    rfl
  · obtain ⟨T, a, k, rfl, eT, ha, q⟩ := h
    have B := Bl k.ix k.ix_lt
    refine ⟨_, pss_cons (ps_setLc2 (i := 1) (own := [("deed", 3), ("field", 4)]) (vs1 := [4]) (g := gName 3) (tt := tYes) (g1 := gName 4) rfl scNi.nd rfl rfl (sw_true rfl rfl rfl (by decide +kernel)) (pi_tup (pv 0)) (blkOk_by (N := nNi) (sc := defScope sNamesIn) (by decide +kernel)) (by decide)
        (fun _ _ _ _ _ => pg_name (i := 3) scNi.nd rfl (Or.inl rfl)) (fun _ _ _ _ _ => pts_nil)
        (fun s1 H1 C1 cl1 fp1 => show PI ((XNi P w K mg base f cdv A0 outer s H E).blk s1 H1 _ (compEnvC _ cl1 C1 (XNi P w K mg base f cdv A0 outer s H E).env) fp1) _ _ (iList K (tCall (spFo A) [] E0 (tCons (tVar 3) tNil))) from
          pi_list (pe_call (X := (XNi P w K mg base f cdv A0 outer s H E).blk s1 H1 _ (compEnvC _ cl1 C1 (XNi P w K mg base f cdv A0 outer s H E).env) fp1) Fo.G hr (by rfl) Fo.g Fo.F.kp Fo.b .nil pass0 (pa_cons (pv 3) pa_nil)))
        (fun _ _ _ _ _ => pg_name (i := 4) scNi.nd rfl (Or.inl rfl))
        (fun s1 H1 C1 cl1 fp1 => pts_one (pt_cmpR (show OpR _ (compareOp .In) (rIn K false) from op_in_seq (X := (XNi P w K mg base f cdv A0 outer s H E).blk s1 H1 _ (compEnvC _ cl1 C1 (XNi P w K mg base f cdv A0 outer s H E).env) fp1)) (pe_ix (show IxR _ (rIxT K) from ix_tup (X := ((XNi P w K mg base f cdv A0 outer s H E).blk s1 H1 _ (compEnvC _ cl1 C1 (XNi P w K mg base f cdv A0 outer s H E).env) fp1))) (pv 4) pe_int (fun _ _ => rfl)) (pe_glob (v := .ref aN) rfl gN rfl) (by rfl)))
        (fun _ _ _ _ _ => pv 4))
      (pss_cons (MyC.ps_setLc3 (i := 2) (own := [("deed", 3), ("block", 5), ("pair", 6)]) (g := gName 3) (tt := tYes) rfl scNi.nd rfl rfl (sw_true rfl rfl rfl (by decide +kernel)) (pi_tup (pv 0)) (blkOk_by (N := nNi) (sc := defScope sNamesIn) (by decide +kernel))
        (fun _ _ _ _ _ => pg_name (i := 3) scNi.nd rfl (Or.inl rfl)) (fun _ _ _ _ _ => pts_nil)
        (fun s1 H1 C1 cl1 fp1 => show PI ((XNi P w K mg base f cdv A0 outer s H E).blk s1 H1 _ (compEnvC _ cl1 C1 (XNi P w K mg base f cdv A0 outer s H E).env) fp1) _ _ (iTup K (tMeth (A k.ix) "blocks" spBlocks [] E0 (tVar 3) tNil)) from
          pi_tup (pe_meth0 (X := (XNi P w K mg base f cdv A0 outer s H E).blk s1 H1 _ (compEnvC _ cl1 C1 (XNi P w K mg base f cdv A0 outer s H E).env) fp1) (pv 3) (S.c _ k.ix_lt) B.m B.G hr B.b .nil pass0)))
      (pss_one (ps_ret (pe_op op_cat (pv 1) (pv 2))))), ?_⟩
    refine ⟨.ref T, rfl, T, rfl, ⟨_, SqT.of eT⟩, fun D hD => ?_⟩
    refine lc2_out (walk_tup (K := K) (a := T) (xs := [.ref a])) (fun i H' => Same' H H' ∧ PL H' D (2 * i)) ⟨same_new hD, PL.nil upd_same _⟩ (fun i H' _ hp => SqT.of (hp.1 _ _ eT)) (fun i x H2 H3 hi hp hx => ?_) (fun H2 hp => ?_)
    · obtain ⟨sm, ed⟩ := hp
      obtain ⟨rfl, e2⟩ := hx
      obtain rfl : i = 0 := Nat.lt_one_iff.mp hi
      cases e2
      refine ⟨rfl, ⟨.ref a, rfl, a, k, rfl, ha.keep sm, fun l ts H4 nl s4 el pr => ?_⟩⟩
      have lts := prl_len pr
      have l2 : ts.length ≤ 2 := by rw [lts]; exact prs_len k
      refine ⟨l, rfl, ⟨_, SqL.of el⟩, ?_⟩
      have nlD : l ≠ D := by
        obtain ⟨ys, e, _⟩ := ed
        exact fun z => by rw [z, e] at nl; cases nl
      refine lc2_in (walk_list (K := K) (a := l) (xs := ts.map V.ref)) (fun j H' => Same' H H' ∧ PL H' D j ∧ H' l = some (.lst (ts.map V.ref)) ∧ Prl H' ts k.prs) ⟨sm.trans s4, (ed.keep s4), el, pr⟩ (fun j H' _ hp => SqL.of hp.2.2.1) (fun j x H5 H6 hj hp hx => ?_) (fun H5 hp => ⟨hp.1, ?_⟩)
      · obtain ⟨sm5, ⟨ys, ey, ty, ly⟩, el5, pr5⟩ := hp
        obtain ⟨rfl, hx⟩ := hx
        rw [List.getElem?_map] at hx
        cases et : ts[j]? with
        | none =>
          rw [et] at hx
          cases hx
        | some t =>
          rw [et] at hx
          cases hx
          obtain ⟨p, ep, etp⟩ := prl_at pr5 j t et
          refine ⟨rfl, .ref t, rfl, t, _, 0, .str p.1, rfl, rfl, SqT.of etp, rfl, aN, namedK.map V.str, rfl, .inr (sN _), rfl, by decide +kernel, _, rfl, ite2 (fun hb => ?_) (fun hb => ?_)⟩
          · obtain ⟨z, ez⟩ := named_text k p (List.mem_of_getElem? ep) hb
            refine ⟨.ref t, rfl, _, ey, by rw [List.length_map, sizeLine_eq]; simp only [List.length_map] at hj; omega, ?_⟩
            have up : ∀ b o, b ≠ D → H6 b = some o → (upd H6 D (.lst (ys.map (fun y => V.ref y.1) ++ [.ref t]))) b = some o := fun b o n e => by
              rw [upd_ne n]
              exact e
            have tD : ∀ {b : Addr} {xs : List V}, H6 b = some (.tup xs) → b ≠ D := fun {b xs} e z => by
              rw [z, ey] at e
              cases e
            have hD5 : ∀ b o, H b = some o → b ≠ D := fun b o e z => by
              rw [z, hD] at e
              cases e
            refine ⟨fun b o e => up b o (hD5 b o e) (sm5 b o e), ⟨ys ++ [(t, p.1, z)], ?_, fun y hy => ?_, ?_⟩, up _ _ nlD el5, ?_⟩
            · rw [upd_same, List.map_append]
              rfl
            · rcases List.mem_append.mp hy with hy | hy
              · exact up _ _ (tD (ty y hy)) (ty y hy)
              · obtain rfl := List.mem_singleton.mp hy
                have e := up _ _ (tD etp) etp
                rw [ez] at e
                exact e
            · rw [List.length_append, List.length_singleton]
              omega
            · exact prl_off (fun b xs e => up b _ (tD e) e) pr5
          · exact ⟨sm5, ⟨ys, ey, ty, Nat.le_succ_of_le ly⟩, el5, pr5⟩
      · obtain ⟨ys, ey, ty, ly⟩ := hp.2.1
        exact ⟨ys, ey, ty, by rw [List.length_map] at ly; omega⟩
    · obtain ⟨sm, ed⟩ := hp
      have eT2 := sm _ _ eT
      refine ⟨.ref T, rfl, T, rfl, ⟨_, SqT.of eT2⟩, fun D2 hD2 => ?_⟩
      refine lc3_one eT2 hD2 (fun H3 s3 ed3 => ⟨rfl, ?_⟩) (fun H3 s3 ed3 => ?_)
      · obtain ⟨dx, t, ea, et⟩ := (ha.keep sm).keep s3
        refine ⟨.ref a, rfl, a, dx, _, rfl, ea, no_blocks t, .ref a, rfl, fun t2 ht2 => ?_⟩
        have s4 := same_new (o := .tup []) ht2
        exact ⟨t2, rfl, ⟨_, SqT.of upd_same⟩, ⟨_, SqT.of upd_same, Nat.le_refl _⟩, s3.trans s4, s4 _ _ ed3⟩
      · obtain ⟨ys, ey, ty, ly'⟩ := ed.keep s3
        have ly : ys.length ≤ 2 := ly'
        refine ⟨.ref D, rfl, .ref D2, rfl, D, D2, _, [], rfl, rfl, ey, ed3, by rw [List.length_map, sizeLine_eq]; simp only [List.length_nil]; omega, fun l hl => ?_⟩
        have s4 := same_new (o := .lst (ys.map (fun y => V.ref y.1) ++ [])) hl
        refine q l _ (sm.trans (s3.trans s4)) ⟨ys, by rw [upd_same, List.append_nil], fun y hy => s4 _ _ (ty y hy), by simpa using ly⟩
end
end My
namespace My
open PySem PySem.Spec PyProof.Rows L2
def spVi (A : Nat → Addr) : Sp := fun vs H Q _ => ∃ (T a : Addr) (k : DK), vs = [.ref T] ∧ H T = some (.tup [.ref a]) ∧ IsD A H a k ∧ ∀ (l : Addr) (H' : Hp), Same' H H' → Q (.ref l) H'
theorem val_put (k : DK) : ∀ p ∈ k.prs, V.str p.1 = V.str "value" → ∃ n i, k = .put n i := by
  have n1 : Str.ofString "cell" ≠ Str.ofString "value" := by decide +kernel
  have n2 : Str.ofString "log" ≠ Str.ofString "value" := by decide +kernel
  have n3 : Str.ofString "word" ≠ Str.ofString "value" := by decide +kernel
  have n4 : Str.ofString "failure" ≠ Str.ofString "value" := by decide +kernel
  cases k with
  | put n i => exact fun _ _ _ => ⟨n, i, rfl⟩
  | copy a b =>
    intro p hp h
    injection h with h
    rcases List.mem_cons.mp hp with rfl | hp
    · exact absurd h n1
    · obtain rfl := List.mem_singleton.mp hp
      exact absurd h n1
  | say a b =>
    intro p hp h
    injection h with h
    rcases List.mem_cons.mp hp with rfl | hp
    · exact absurd h n2
    · obtain rfl := List.mem_singleton.mp hp
      exact absurd h n3
  | fail n =>
    intro p hp h
    injection h with h
    obtain rfl := List.mem_singleton.mp hp
    exact absurd h n4
  | lv => exact fun p hp => (nomatch hp)
  | st => exact fun p hp => (nomatch hp)
section
variable {P : Program} {w : World} {K : PySem.W.Frag} {mg : Str → Option Value} {base : Heap} {A : Nat → Addr}
abbrev nVi : List Str := ["deeds", "own", "inner", "deed", "kind", "block", "pair", "part"]
theorem scVi : FnScope nVi ["deeds"] (defScope sValuesIn) := ⟨rfl, rfl, rfl, by decide +kernel, rfl, by decide +kernel, by decide +kernel⟩
abbrev XVi (P : Program) (w : World) (K : PySem.W.Frag) (mg : Str → Option Value) (base : Heap) (f : Addr) (cdv : Value) (A : Around) (outer : List Env) (s : Shared) (H : Hp) (E : XK) : Cx := (cxOf CX0 P w K mg base nVi "values_in" (defScope sValuesIn) f cdv A outer s H E).nox
theorem ok_valuesIn {f fF fB : Addr} {fd dF dB : FuncData} (F : Fun K "values_in" "values_in" sValuesIn f fd) (S : Dd K mg A) (Fo : FnB P w K mg base 1 "fields_of" sFieldsOf fF dF ["deed"] (spFo A)) (Bl : ∀ j, j < 6 → MethB P w K mg base 1 (A j) "blocks" fB dB ["self"] spBlocks) :
    FnOk P w K mg base CX0 2 f fd ["deeds"] (spVi A) := by
  refine F.ok scVi (fun vs H Q E h => ?_) (fun cdv A0 outer s H vs Q E hr h => ?_)
  · obtain ⟨T, a, k, rfl, _⟩ := h
    rfl
  · obtain ⟨T, a, k, rfl, eT, ha, q⟩ := h
    have B := Bl k.ix k.ix_lt
    refine ⟨_, pss_cons (ps_setLc2 (i := 1) (own := [("deed", 3), ("kind", 4), ("part", 7)]) (vs1 := [4, 7]) (g := gName 3) (tt := tYes) rfl scVi.nd rfl rfl (sw_true rfl rfl rfl (by decide +kernel)) (pi_tup (pv 0)) (blkOk_by (N := nVi) (sc := defScope sValuesIn) (by decide +kernel)) (by decide)
        (fun _ _ _ _ _ => pg_name (i := 3) scVi.nd rfl (Or.inl rfl)) (fun _ _ _ _ _ => pts_nil)
        (fun s1 H1 C1 cl1 fp1 => show PI ((XVi P w K mg base f cdv A0 outer s H E).blk s1 H1 _ (compEnvC _ cl1 C1 (XVi P w K mg base f cdv A0 outer s H E).env) fp1) _ _ (iList K (tCall (spFo A) [] E0 (tCons (tVar 3) tNil))) from
          pi_list (pe_call (X := (XVi P w K mg base f cdv A0 outer s H E).blk s1 H1 _ (compEnvC _ cl1 C1 (XVi P w K mg base f cdv A0 outer s H E).env) fp1) Fo.G hr (by rfl) Fo.g Fo.F.kp Fo.b .nil pass0 (pa_cons (pv 3) pa_nil)))
        (fun _ _ _ _ _ => show PG _ _ (gTup K 2 _) from pg_tup (n := 2) rfl (pgs_cons (pg_name (i := 4) scVi.nd rfl (.inl rfl)) (pgs_cons (pg_name (i := 7) scVi.nd rfl (.inl rfl)) pgs_nil)))
        (fun _ _ _ _ _ => pts_one (pt_cmpR op_eq (pv 4) pe_str (nomark _)))
        (fun _ _ _ _ _ => show PE _ _ (tTup (tCons (tFld K (tVar 3) (Str.ofString "cell")) (tCons (tVar 7) tNil))) from pe_tup (pa_cons (pe_fld (pv 3) (by rfl)) (pa_cons (pv 7) pa_nil))))
      (pss_cons (MyC.ps_setLc3 (i := 2) (own := [("deed", 3), ("block", 5), ("pair", 6)]) (g := gName 3) (tt := tYes) rfl scVi.nd rfl rfl (sw_true rfl rfl rfl (by decide +kernel)) (pi_tup (pv 0)) (blkOk_by (N := nVi) (sc := defScope sValuesIn) (by decide +kernel))
        (fun _ _ _ _ _ => pg_name (i := 3) scVi.nd rfl (Or.inl rfl)) (fun _ _ _ _ _ => pts_nil)
        (fun s1 H1 C1 cl1 fp1 => show PI ((XVi P w K mg base f cdv A0 outer s H E).blk s1 H1 _ (compEnvC _ cl1 C1 (XVi P w K mg base f cdv A0 outer s H E).env) fp1) _ _ (iTup K (tMeth (A k.ix) "blocks" spBlocks [] E0 (tVar 3) tNil)) from
          pi_tup (pe_meth0 (X := (XVi P w K mg base f cdv A0 outer s H E).blk s1 H1 _ (compEnvC _ cl1 C1 (XVi P w K mg base f cdv A0 outer s H E).env) fp1) (pv 3) (S.c _ k.ix_lt) B.m B.G hr B.b .nil pass0)))
      (pss_one (ps_ret (pe_op op_cat (pv 1) (pv 2))))), ?_⟩
    refine ⟨.ref T, rfl, T, rfl, ⟨_, SqT.of eT⟩, fun D hD => ?_⟩
    refine lc2_out (walk_tup (K := K) (a := T) (xs := [.ref a])) (fun i H' => Same' H H' ∧ ∃ ys : List V, H' D = some (.lst ys) ∧ ys.length ≤ 2 * i) ⟨same_new hD, [], upd_same, Nat.zero_le _⟩ (fun i H' _ hp => SqT.of (hp.1 _ _ eT)) (fun i x H2 H3 hi hp hx => ?_) (fun H2 hp => ?_)
    · obtain ⟨sm, ys0, ed, ly0⟩ := hp
      obtain ⟨rfl, e2⟩ := hx
      obtain rfl : i = 0 := Nat.lt_one_iff.mp hi
      cases e2
      refine ⟨rfl, ⟨.ref a, rfl, a, k, rfl, ha.keep sm, fun l ts H4 nl s4 el pr => ?_⟩⟩
      have lts := prl_len pr
      have l2 : ts.length ≤ 2 := by rw [lts]; exact prs_len k
      refine ⟨l, rfl, ⟨_, SqL.of el⟩, ?_⟩
      have nlD : l ≠ D := fun z => by rw [z, ed] at nl; cases nl
      have y0 : ys0 = [] := List.eq_nil_of_length_eq_zero (Nat.le_zero.mp ly0)
      subst y0
      refine lc2_in (walk_list (K := K) (a := l) (xs := ts.map V.ref)) (fun j H' => Same' H H' ∧ (∃ ys : List V, H' D = some (.lst ys) ∧ ys.length ≤ j) ∧ H' l = some (.lst (ts.map V.ref)) ∧ Prl H' ts k.prs) ⟨sm.trans s4, ⟨[], s4 _ _ ed, Nat.zero_le _⟩, el, pr⟩ (fun j H' _ hp => SqL.of hp.2.2.1) (fun j x H5 H6 hj hp hx => ?_) (fun H5 hp => ⟨hp.1, ?_⟩)
      · obtain ⟨sm5, ⟨ys, ey, ly⟩, el5, pr5⟩ := hp
        obtain ⟨rfl, hx⟩ := hx
        rw [List.getElem?_map] at hx
        cases et : ts[j]? with
        | none =>
          rw [et] at hx
          cases hx
        | some t =>
          rw [et] at hx
          cases hx
          obtain ⟨p, ep, etp⟩ := prl_at pr5 j t et
          refine ⟨t, _, rfl, SqT.of etp, rfl, _, _, rfl, _, _, rfl, rfl, ?_⟩
          refine ⟨rfl, .str p.1, rfl, rfl, _, rfl, ite2 (fun hb => ?_) (fun hb => ?_)⟩
          · obtain ⟨n, i, ek⟩ := val_put k p (List.mem_of_getElem? ep) (of_decide_eq_true hb)
            subst ek
            obtain ⟨dx, t1, ea, et1⟩ := ha.keep sm5
            refine ⟨.ref a, rfl, a, A 0, dx, _, .str n, rfl, ea, S.c 0 (by decide), S.no 0 (by decide) _ (by simp), rfl, p.2, rfl, by show 2 ≤ sizeLine; decide, fun t2 ht2 => ?_⟩
            have s6 := same_new (o := .tup [.str n, p.2]) ht2
            refine ⟨ys, s6 _ _ ey, by rw [sizeLine_eq]; simp only [List.length_map] at hj; omega, ?_⟩
            have up : ∀ b o, b ≠ D → H6 b = some o → (upd (upd H6 t2 (.tup [.str n, p.2])) D (.lst (ys ++ [.ref t2]))) b = some o := fun b o n e => by
              rw [upd_ne n]
              exact s6 _ _ e
            have tD : ∀ {b : Addr} {xs : List V}, H6 b = some (.tup xs) → b ≠ D := fun {b xs} e z => by
              rw [z, ey] at e
              cases e
            have hD5 : ∀ b o, H b = some o → b ≠ D := fun b o e z => by
              rw [z, hD] at e
              cases e
            exact ⟨fun b o e => up b o (hD5 b o e) (sm5 b o e), ⟨_, upd_same, by rw [List.length_append, List.length_singleton]; omega⟩, up _ _ nlD el5, prl_off (fun b xs e => up b _ (tD e) e) pr5⟩
          · exact ⟨sm5, ⟨ys, ey, Nat.le_succ_of_le ly⟩, el5, pr5⟩
      · obtain ⟨ys, ey, ly⟩ := hp.2.1
        exact ⟨ys, ey, by rw [List.length_map] at ly; omega⟩
    · obtain ⟨sm, ys, ed, ly'⟩ := hp
      have ly : ys.length ≤ 2 := ly'
      have eT2 := sm _ _ eT
      refine ⟨.ref T, rfl, T, rfl, ⟨_, SqT.of eT2⟩, fun D2 hD2 => ?_⟩
      refine lc3_one eT2 hD2 (fun H3 s3 ed3 => ⟨rfl, ?_⟩) (fun H3 s3 ed3 => ?_)
      · obtain ⟨dx, t, ea, et⟩ := (ha.keep sm).keep s3
        refine ⟨.ref a, rfl, a, dx, _, rfl, ea, no_blocks t, .ref a, rfl, fun t2 ht2 => ?_⟩
        have s4 := same_new (o := .tup []) ht2
        exact ⟨t2, rfl, ⟨_, SqT.of upd_same⟩, ⟨_, SqT.of upd_same, Nat.le_refl _⟩, s3.trans s4, s4 _ _ ed3⟩
      · refine ⟨.ref D, rfl, .ref D2, rfl, D, D2, ys, [], rfl, rfl, s3 _ _ ed, ed3, by rw [sizeLine_eq]; simp only [List.length_nil]; omega, fun l hl => ?_⟩
        exact q l _ (sm.trans (s3.trans (same_new hl)))
end
end My
namespace My
open PySem PySem.Spec PyProof.Rows L2
/-- ys: the texts of xs, ascending, each once -/
structure Asc (xs ys : List Str) : Prop where
  nd : ys.Nodup
  so : sortedS ys = true
  mem : ∀ z, z ∈ ys ↔ z ∈ xs
def Sq (K : PySem.W.Frag) (H : Hp) (l : Addr) (xs : List V) : Prop := SqL K H l xs ∨ SqT K H l xs
theorem Sq.keep {K : PySem.W.Frag} {H H' : Hp} {l : Addr} {xs : List V} (h : Sq K H l xs) (s : Same' H H') : Sq K H' l xs := h.imp (fun q => q.ext s) fun q => q.ext s
def spAsc (K : PySem.W.Frag) : Sp := fun vs H Q _ => ∃ (l : Addr) (xs : List Str), vs = [.ref l] ∧ Sq K H l (xs.map V.str) ∧ xs.length < 64 ∧ ∀ (p : Addr) (ys : List Str) (H' : Hp), Asc xs ys → Same' H H' → H' p = some (.tup (ys.map V.str)) → Q (.ref p) H'
section
variable {P : Program} {w : World} {K : PySem.W.Frag} {mg : Str → Option Value} {base : Heap}
abbrev nAsc : List Str := ["names", "name"]
theorem scAsc : FnScope nAsc ["names"] (defScope sAsc) := ⟨rfl, rfl, rfl, by decide +kernel, rfl, by decide +kernel, by decide +kernel⟩
theorem ok_asc {f : Addr} {fd : FuncData} (F : Fun K "ascending" "ascending" sAsc f fd) (T : Txt mg) : FnOk P w K mg base CX0 1 f fd ["names"] (spAsc K) := by
  refine F.ok scAsc (fun vs H Q E h => ?_) (fun cdv A outer s H vs Q E hr h => ?_)
  · obtain ⟨l, xs, rfl, _⟩ := h
    rfl
  · obtain ⟨l, xs, rfl, hl, few, q⟩ := h
    refine ⟨_, pss_one (ps_ret (pe_callTy call_tuple_of (by rfl) T.tuple (by decide +kernel) (pa_cons (pe_callB (cr_sortedTexts rfl) (by rfl) T.sorted (by decide +kernel) (pa_cons (pe_callTy (cr_setTexts rfl) (by rfl) T.set (by decide +kernel) (pa_cons
      (pe_lc (own := [("name", 1)]) (g := gName 1) (tt := tYes) rfl scAsc.nd (pi_seq (pv 0)) (blkOk_by (N := nAsc) (sc := defScope sAsc) (by decide +kernel)) (fun _ _ _ _ _ => pg_name (i := 1) scAsc.nd rfl (Or.inl rfl)) (fun _ _ _ _ _ => pts_nil)
        (fun _ _ _ _ _ => pe_callTy SkE.call_str_str (by rfl) T.str (by decide +kernel) (pa_cons (pv 1) pa_nil))) pa_nil)) pa_nil)) pa_nil))), ?_⟩
    have lz : (xs.map V.str).length = xs.length := List.length_map ..
    have fin : ∀ (H1 : Hp) (D : Addr), Same' H H1 → H1 D = some (.lst (xs.map V.str)) → ∃ (l : Addr) (zs : List Str), [V.ref D] = [V.ref l] ∧ SqL K H1 l (zs.map V.str) ∧ zs.length < 64 ∧
        ∀ a ys, H1 a = none → ys.Nodup → (∀ z, z ∈ ys ↔ z ∈ zs) → ∃ (a2 : Addr) (l2 : List Str), [V.ref a] = [V.ref a2] ∧ (upd H1 a (TSetO P w a ys)) a2 = some (TSetO P w a2 l2) ∧ l2.length < 64 ∧
          ∀ (ys2 : List Str) (p : Addr), ys2.Perm l2 → sortedS ys2 = true → (upd H1 a (TSetO P w a ys)) p = none → ∃ p2 zs2, [V.ref p] = [V.ref p2] ∧
            ((SqL K (upd (upd H1 a (TSetO P w a ys)) p (.lst (ys2.map V.str))) p2 zs2 ∧ ∀ l, (upd (upd H1 a (TSetO P w a ys)) p (.lst (ys2.map V.str))) l = none → Q (.ref l) (upd (upd (upd H1 a (TSetO P w a ys)) p (.lst (ys2.map V.str))) l (.tup zs2))) ∨
              (SqT K (upd (upd H1 a (TSetO P w a ys)) p (.lst (ys2.map V.str))) p2 zs2 ∧ Q (.ref p2) (upd (upd H1 a (TSetO P w a ys)) p (.lst (ys2.map V.str))))) := by
      intro H1 D sm eD
      refine ⟨D, xs, rfl, SqL.of eD, few, fun a ys ha nd mem => ⟨a, ys, rfl, upd_same, ?_, fun ys2 p pm so hp => ⟨p, _, rfl, .inl ⟨SqL.of upd_same, fun l hl => ?_⟩⟩⟩⟩
      · exact Nat.lt_of_le_of_lt (nodup_len ys xs nd fun z hz => (mem z).mp hz) few
      · refine q l ys2 _ ⟨pm.nodup_iff.mpr nd, so, fun z => pm.mem_iff.trans (mem z)⟩ ?_ upd_same
        exact sm.trans ((same_new ha).trans ((same_new hp).trans (same_new hl)))
    refine ⟨.ref l, rfl, l, rfl, ?_⟩
    have lap : ∀ (D : Addr), H D = none → ∀ (i : Nat) (x : V) (H' H2 : Hp), (Same' H H' ∧ H' D = some (.lst ((xs.take i).map V.str))) → YAt (xs.map V.str) i H' x H2 → i < (xs.map V.str).length →
        ∃ z, x = .str z ∧ H2 = H' ∧ (xs.take (i + 1)).map V.str = (xs.take i).map V.str ++ [.str z] ∧ ((xs.take i).map V.str).length < sizeLine := by
      rintro D hD i x H' H2 ⟨sm, ed⟩ ⟨rfl, hx⟩ hi
      rw [List.getElem?_map] at hx
      cases ez : xs[i]? with
      | none => rw [ez] at hx; cases hx
      | some z =>
        rw [ez] at hx
        refine ⟨z, (Option.some.inj hx).symm, rfl, ?_, ?_⟩
        · rw [List.take_add_one, ez, List.map_append]
          rfl
        · rw [List.length_map, List.length_take, sizeLine_eq]
          omega
    rcases hl with hl | hl
    · refine .inl ⟨⟨_, hl⟩, fun D hD => ?_⟩
      refine lc_it walk_list (fun i H' => Same' H H' ∧ H' D = some (.lst ((xs.take i).map V.str))) ⟨same_new hD, upd_same⟩ (fun i H' _ p => hl.ext p.1) (fun i x H' H2 hi hp hy => ?_) (fun H' hp => ?_)
      · obtain ⟨z, rfl, rfl, e1, e2⟩ := lap D hD i x H' H2 hp hy hi
        refine ⟨rfl, ⟨.str z, rfl, z, rfl, _, hp.2, e2, same_over hD hp.1, ?_⟩⟩
        rw [upd_same, e1]
      · refine fin H' D hp.1 ?_
        rw [hp.2, List.take_of_length_le (by rw [lz]; exact Nat.le_refl _)]
    · refine .inr ⟨⟨_, hl⟩, fun D hD => ?_⟩
      refine lc_it walk_tup (fun i H' => Same' H H' ∧ H' D = some (.lst ((xs.take i).map V.str))) ⟨same_new hD, upd_same⟩ (fun i H' _ p => hl.ext p.1) (fun i x H' H2 hi hp hy => ?_) (fun H' hp => ?_)
      · obtain ⟨z, rfl, rfl, e1, e2⟩ := lap D hD i x H' H2 hp hy hi
        refine ⟨rfl, ⟨.str z, rfl, z, rfl, _, hp.2, e2, same_over hD hp.1, ?_⟩⟩
        rw [upd_same, e1]
      · refine fin H' D hp.1 ?_
        rw [hp.2, List.take_of_length_le (by rw [lz]; exact Nat.le_refl _)]
end
/-! ### Program(deed), the deed a simple one -/
abbrev sProgI : Stmt := inClass (topS 58) 0
def ProgAt (CP : Addr) (H : Hp) (a : Addr) : Prop := ∃ dx fs, H a = some (.ins CP dx fs)
def spProgT (A : Nat → Addr) (CP : Addr) : Sp := fun vs H Q _ => ∃ (a dx T d : Addr) (k : DK), vs = [.ref a, .ref T] ∧ H a = some (.ins CP dx []) ∧ H T = some (.tup [.ref d]) ∧ IsD A H d k ∧ d ≠ a ∧ ∀ H', Keep1 a H H' → ProgAt CP H' a → Q .non H'
def spProg (A : Nat → Addr) (CP : Addr) : Sp := fun vs H Q _ => ∃ (a dx d : Addr) (k : DK), vs = [.ref a, .ref d] ∧ H a = some (.ins CP dx []) ∧ IsD A H d k ∧ d ≠ a ∧ ∀ H', Keep1 a H H' → ProgAt CP H' a → Q .non H'
structure PgK (P : Program) (w : World) (K : PySem.W.Frag) (mg : Str → Option Value) (base : Heap) (A : Nat → Addr) (CP CD CC : Addr) (fB fN fV fA : Addr) (dB dN dV dA : FuncData) : Prop where
  T : Txt mg
  S : Dd K mg A
  c : Cls K CP
  no : ∀ f ∈ (["deeds", "size", "depth", "used_names", "used_values", "cells", "logs", "failures", "chooses"] : List Str), NoAttr K CP f
  gD : mg "Deed" = some (.ref CD)
  kD : ∀ i, i < 6 → PySem.W.kitOne K (.ref (A i)) (.ref CD) = some true
  gC : mg "Choose" = some (.ref CC)
  kC : ∀ i, i < 6 → PySem.W.kitOne K (.ref (A i)) (.ref CC) = some false
  mD : ∃ u, mg "MOST_DEEDS" = some (.int 60 u)
  mN : ∃ u, mg "MOST_NESTED" = some (.int 6 u)
  Bl : ∀ j, j < 6 → MethB P w K mg base 1 (A j) "blocks" fB dB ["self"] spBlocks
  Ni : FnB P w K mg base 2 "names_in" sNamesIn fN dN ["deeds"] (spNi A)
  Vi : FnB P w K mg base 2 "values_in" sValuesIn fV dV ["deeds"] (spVi A)
  As : FnB P w K mg base 1 "ascending" sAsc fA dA ["names"] (spAsc K)
section
variable {P : Program} {w : World} {K : PySem.W.Frag} {mg : Str → Option Value} {base : Heap} {A : Nat → Addr}
/-- a walk over an empty list -/
theorem lc_nil {b D : Addr} {g : TG} {tt : TT} {te : TE} {vs : List Nat} {σ : L2.St} {H : Hp} {Qd : Hp → Prop} (eb : H b = some (.lst [])) (hD : H D = none) (q : Qd (upd H D (.lst []))) :
    ∃ W : Nat → Nat → Hp → Prop, (∃ m, W 0 m (upd H D (.lst []))) ∧ ∀ i m H', W i m H' →
      ((Itl K b).stop i H' ∧ Qd H') ∨ ((Itl K b).go i H' ∧ ∃ Nx : Hp → Prop, (∀ H'', Nx H'' → ∃ m', m' < m ∧ W (i + 1) m' H'') ∧ ∀ x H'', (Itl K b).yld i H' x H'' → g x (wipe σ vs) H'' fun σ2 H2 => wipe σ2 vs = wipe σ vs ∧ tt σ2 H2 fun b' H3 =>
        if b' = true then te σ2 H3 fun y H4 => ∃ acc, H4 D = some (.lst acc) ∧ acc.length < sizeLine ∧ Nx (upd H4 D (.lst (acc ++ [y]))) else Nx H3) := by
  refine ⟨fun i m H' => i = 0 ∧ H' = upd H D (.lst []), ⟨0, rfl, rfl⟩, ?_⟩
  rintro i m H' ⟨rfl, rfl⟩
  exact .inl ⟨⟨_, SqL.of (same_new hD _ _ eb), Nat.le_refl _⟩, q⟩
theorem IsD.ne {d a dx CP : Addr} {H : Hp} {k : DK} {fs : List (Str × V)} (h : IsD A H d k) (ha : H a = some (.ins CP dx fs)) (n : d ≠ a) : ∀ H', Keep1 a H H' → IsD A H' d k := by
  obtain ⟨dy, t, e1, e2⟩ := h
  intro H' kp
  refine ⟨dy, t, kp _ _ n e1, kp _ _ (fun z => ?_) e2⟩
  rw [z, ha] at e2
  cases e2
structure PSt (CP dx a : Addr) (H H' : Hp) (fs : List (Str × V)) (Ls Us : List Addr) : Prop where
  i : H' a = some (.ins CP dx fs)
  k : Keep1 a H H'
  ls : ∀ b, b ∈ Ls → H' b = some (.lst []) ∧ b ≠ a
  us : ∀ b, b ∈ Us → PL H' b 2
theorem PL.off {H : Hp} {a b CP dx : Addr} {fs : List (Str × V)} {o : HO} {n : Nat} (h : PL H b n) (ha : H a = some (.ins CP dx fs)) : PL (upd H a o) b n := by
  obtain ⟨ys, e, t, l⟩ := h
  refine ⟨ys, ?_, fun y hy => ?_, l⟩
  · rw [upd_ne fun z => by rw [z, ha] at e; cases e]
    exact e
  · have q := t y hy
    rw [upd_ne fun z => by rw [z, ha] at q; cases q]
    exact q
theorem PSt.same {CP dx a : Addr} {H H' H2 : Hp} {fs : List (Str × V)} {Ls Us : List Addr} (p : PSt CP dx a H H' fs Ls Us) (s : Same' H' H2) : PSt CP dx a H H2 fs Ls Us := ⟨s _ _ p.i, p.k.trans (.of s), fun b hb => ⟨s _ _ (p.ls b hb).1, (p.ls b hb).2⟩, fun b hb => (p.us b hb).keep s⟩
theorem PSt.set {CP dx a : Addr} {H H' : Hp} {fs : List (Str × V)} {Ls Us : List Addr} (p : PSt CP dx a H H' fs Ls Us) (fs2 : List (Str × V)) : PSt CP dx a H (upd H' a (.ins CP dx fs2)) fs2 Ls Us :=
  ⟨upd_same, fun b o n e => by rw [upd_ne n]; exact p.k b o n e, fun b hb => ⟨by rw [upd_ne (p.ls b hb).2]; exact (p.ls b hb).1, (p.ls b hb).2⟩, fun b hb => (p.us b hb).off p.i⟩
theorem PSt.addU {CP dx a U : Addr} {H H' : Hp} {fs : List (Str × V)} {Ls Us : List Addr} (p : PSt CP dx a H H' fs Ls Us) (e : PL H' U 2) : PSt CP dx a H H' fs Ls (U :: Us) :=
  ⟨p.i, p.k, p.ls, fun b hb => by
    rcases List.mem_cons.mp hb with rfl | hb
    · exact e
    · exact p.us b hb⟩
theorem PSt.go {CP dx a : Addr} {H H' : Hp} {f : Str} {v : V} {fs : List (Str × V)} {Ls Us : List Addr} {Gl : L2.St → Hp → Prop} {σ : L2.St} (fs2 : List (Str × V)) (p : PSt CP dx a H H' fs Ls Us) (e : putF f v fs = fs2) (q : ∀ H2, PSt CP dx a H H2 fs2 Ls Us → Gl σ H2) : Gl σ (upd H' a (.ins CP dx (putF f v fs))) := by
  rw [e]
  exact q _ (p.set _)
abbrev nPi : List Str := ["self", "deeds", "at", "deed", "blocks", "block", "kind", "name"]
theorem scPi : FnScope nPi ["self", "deeds"] (defScope sProgI) := ⟨rfl, rfl, rfl, by decide +kernel, rfl, by decide +kernel, by decide +kernel⟩
abbrev XPi (P : Program) (w : World) (K : PySem.W.Frag) (mg : Str → Option Value) (base : Heap) (f : Addr) (cdv : Value) (A : Around) (outer : List Env) (s : Shared) (H : Hp) (E : XK) : Cx := (cxOf (L2.CX P w) P w K mg base nPi "Program.__init__" (defScope sProgI) f cdv A outer s H E).nox
theorem prog_body {CP CD CC fB fN fV fA f : Addr} {dB dN dV dA : FuncData} {cdv : Value} {A0 : Around} {outer : List Env} {s : Shared} {H : Hp} {vs : List V} {Q : VK} {E : XK} (Z : PgK P w K mg base A CP CD CC fB fN fV fA dB dN dV dA)
    (hr : Room 4 (XPi P w K mg base f cdv A0 outer s H E).A) (h : spProgT A CP vs H Q E) : ∃ t, PSs (XPi P w K mg base f cdv A0 outer s H E) (defBody sProgI) t ∧ t { nx := fun _ H' => Q .non H', rt := Q } (L2.start nPi vs) H := by
  obtain ⟨a, dx, T, st, k, rfl, ha, eT, sa, nd, q⟩ := h
  have B := Z.Bl k.ix k.ix_lt
  have hu : (XPi P w K mg base f cdv A0 outer s H E).A.units + 1 < cLine := by
    have h := hr.un
    omega
  obtain ⟨uD, mD⟩ := Z.mD
  obtain ⟨uN, mN⟩ := Z.mN
  refine ⟨_, pss_cons (ps_for PassesOwn.never rfl (pi_enumT (by rfl) Z.T.enum (pa_cons (pv 1) pa_nil)) (pg_tup (n := 2) rfl (pgs_cons (pg_name (i := 2) scPi.nd rfl (.inl rfl)) (pgs_cons (pg_name (i := 3) scPi.nd rfl (.inl rfl)) pgs_nil)))
      (pss_one (ps_if (pt_not (pt_val (pe_callB call_isi (by rfl) Z.T.isi (by decide +kernel) (pa_cons (pv 3) (pa_cons (pe_glob (v := .ref CD) rfl Z.gD rfl) pa_nil))))) (pss_one ps_never) pss_nil)))
    (pss_cons (ps_setLc2 (i := 4) (own := [("deed", 3), ("block", 5)]) (vs1 := [5]) (g := gName 3) (tt := tYes) (g1 := gName 5) rfl scPi.nd rfl rfl (sw_true rfl rfl rfl (by decide +kernel)) (pi_tup (pv 1)) (blkOk_by (N := nPi) (sc := defScope sProgI) (by decide +kernel)) (by decide)
        (fun _ _ _ _ _ => pg_name (i := 3) scPi.nd rfl (Or.inl rfl)) (fun _ _ _ _ _ => pts_nil)
        (fun s1 H1 C1 cl1 fp1 => show PI ((XPi P w K mg base f cdv A0 outer s H E).blk s1 H1 _ (compEnvC _ cl1 C1 (XPi P w K mg base f cdv A0 outer s H E).env) fp1) _ _ (iTup K (tMeth (A k.ix) "blocks" spBlocks [] E0 (tVar 3) tNil)) from
          pi_tup (pe_meth0 (X := (XPi P w K mg base f cdv A0 outer s H E).blk s1 H1 _ (compEnvC _ cl1 C1 (XPi P w K mg base f cdv A0 outer s H E).env) fp1) (pv 3) (Z.S.c _ k.ix_lt) B.m B.G (hr.mono (by decide)) B.b .nil pass0))
        (fun _ _ _ _ _ => pg_name (i := 5) scPi.nd rfl (Or.inl rfl)) (fun _ _ _ _ _ => pts_nil) (fun _ _ _ _ _ => pe_nev))
    (pss_cons (ps_fld (pv 0) (pv 1) (by rfl))
    (pss_cons (ps_fld (pv 0) (pe_op op_add (pe_callB call_len_seq (by rfl) Z.T.len PySem.boot_len (pa_cons (pv 1) pa_nil)) (pe_callB (cr_sum rfl) (by rfl) Z.T.sum (by decide +kernel) (pa_cons
        (pe_lc (own := [("block", 5)]) (g := gName 5) (tt := tYes) rfl scPi.nd (pi_list (pv 4)) (blkOk_by (N := nPi) (sc := defScope sProgI) (by decide +kernel)) (fun _ _ _ _ _ => pg_name (i := 5) scPi.nd rfl (Or.inl rfl)) (fun _ _ _ _ _ => pts_nil) (fun _ _ _ _ _ => pe_nev)) pa_nil))) (by rfl))
    (pss_cons (ps_fld (pv 0) (pe_callBK (cr_maxD0 rfl hu) (by rfl) Z.T.max (by decide +kernel) (pa_cons
        (pe_lc (own := [("block", 5)]) (g := gName 5) (tt := tYes) rfl scPi.nd (pi_list (pv 4)) (blkOk_by (N := nPi) (sc := defScope sProgI) (by decide +kernel)) (fun _ _ _ _ _ => pg_name (i := 5) scPi.nd rfl (Or.inl rfl)) (fun _ _ _ _ _ => pts_nil) (fun _ _ _ _ _ => pe_nev)) pa_nil) (pk_cons pe_int pk_nil)) (by rfl))
    (pss_cons (ps_if (pt_cmpR op_gt (pe_fld (pv 0) (by rfl)) (pe_glob (v := .int 60) rfl mD ⟨_, rfl⟩) (nomark _)) (pss_one ps_never) pss_nil)
    (pss_cons (ps_if (pt_cmpR op_gt (pe_fld (pv 0) (by rfl)) (pe_glob (v := .int 6) rfl mN ⟨_, rfl⟩) (nomark _)) (pss_one ps_never) pss_nil)
    (pss_cons (ps_fld (pv 0) (pe_call Z.Ni.G (hr.mono (by decide)) (by rfl) Z.Ni.g Z.Ni.F.kp Z.Ni.b .nil pass0 (pa_cons (pv 1) pa_nil)) (by rfl))
    (pss_cons (ps_fld (pv 0) (pe_call Z.Vi.G (hr.mono (by decide)) (by rfl) Z.Vi.g Z.Vi.F.kp Z.Vi.b .nil pass0 (pa_cons (pv 1) pa_nil)) (by rfl))
    (pss_cons (ps_fld (pv 0) (pe_call Z.As.G (hr.mono (by decide)) (by rfl) Z.As.g Z.As.F.kp Z.As.b .nil pass0 (pa_cons
        (pe_lc (own := [("kind", 6), ("name", 7)]) rfl scPi.nd (pi_list (pe_fld (pv 0) (by rfl))) (blkOk_by (N := nPi) (sc := defScope sProgI) (by decide +kernel)) (fun _ _ _ _ _ => show PG _ _ (gTup K 2 _) from pg_tup (n := 2) rfl (pgs_cons (pg_name (i := 6) scPi.nd rfl (.inl rfl)) (pgs_cons (pg_name (i := 7) scPi.nd rfl (.inl rfl)) pgs_nil))) (fun _ _ _ _ _ => pts_one (pt_cmpR op_eq (pv 6) pe_str (nomark _))) (fun _ _ _ _ _ => pv 7)) pa_nil)) (by rfl))
    (pss_cons (ps_fld (pv 0) (pe_call Z.As.G (hr.mono (by decide)) (by rfl) Z.As.g Z.As.F.kp Z.As.b .nil pass0 (pa_cons
        (pe_lc (own := [("kind", 6), ("name", 7)]) rfl scPi.nd (pi_list (pe_fld (pv 0) (by rfl))) (blkOk_by (N := nPi) (sc := defScope sProgI) (by decide +kernel)) (fun _ _ _ _ _ => show PG _ _ (gTup K 2 _) from pg_tup (n := 2) rfl (pgs_cons (pg_name (i := 6) scPi.nd rfl (.inl rfl)) (pgs_cons (pg_name (i := 7) scPi.nd rfl (.inl rfl)) pgs_nil))) (fun _ _ _ _ _ => pts_one (pt_cmpR op_eq (pv 6) pe_str (nomark _))) (fun _ _ _ _ _ => pv 7)) pa_nil)) (by rfl))
    (pss_cons (ps_fld (pv 0) (pe_call Z.As.G (hr.mono (by decide)) (by rfl) Z.As.g Z.As.F.kp Z.As.b .nil pass0 (pa_cons
        (pe_lc (own := [("kind", 6), ("name", 7)]) rfl scPi.nd (pi_list (pe_fld (pv 0) (by rfl))) (blkOk_by (N := nPi) (sc := defScope sProgI) (by decide +kernel)) (fun _ _ _ _ _ => show PG _ _ (gTup K 2 _) from pg_tup (n := 2) rfl (pgs_cons (pg_name (i := 6) scPi.nd rfl (.inl rfl)) (pgs_cons (pg_name (i := 7) scPi.nd rfl (.inl rfl)) pgs_nil))) (fun _ _ _ _ _ => pts_one (pt_cmpR op_eq (pv 6) pe_str (nomark _))) (fun _ _ _ _ _ => pv 7)) pa_nil)) (by rfl))
    (pss_one (ps_fld (pv 0) (pe_callB (cr_any rfl) (by rfl) Z.T.any (by decide +kernel) (pa_cons (pe_op op_cat
        (pe_lc (own := [("deed", 3)]) (g := gName 3) (tt := tYes) rfl scPi.nd (pi_tup (pv 1)) (blkOk_by (N := nPi) (sc := defScope sProgI) (by decide +kernel)) (fun _ _ _ _ _ => pg_name (i := 3) scPi.nd rfl (Or.inl rfl)) (fun _ _ _ _ _ => pts_nil)
          (fun _ _ _ _ _ => show PE _ _ (tCB (rIsi K) (tCons (tVar 3) (tCons (tC (.ref CC)) tNil))) from pe_callB call_isi (by rfl) Z.T.isi (by decide +kernel) (pa_cons (pv 3) (pa_cons (pe_glob (v := .ref CC) rfl Z.gC rfl) pa_nil))))
        (pe_lc (own := [("block", 5)]) (g := gName 5) (tt := tYes) rfl scPi.nd (pi_list (pv 4)) (blkOk_by (N := nPi) (sc := defScope sProgI) (by decide +kernel)) (fun _ _ _ _ _ => pg_name (i := 5) scPi.nd rfl (Or.inl rfl)) (fun _ _ _ _ _ => pts_nil) (fun _ _ _ _ _ => pe_nev))) pa_nil)) (by rfl)))))))))))))), ?_⟩
  have nT : T ≠ a := fun z => by rw [z, ha] at eT; cases eT
  have tk : ∀ H', Keep1 a H H' → H' T = some (.tup [.ref st]) := fun H' k => k _ _ nT eT
  have sk := sa.ne ha nd
  -- the check
  refine ⟨.ref T, rfl, T, [.ref st], rfl, SqT.of eT, ?_⟩
  refine for_it (walk_enumT (K := K) (a := T) (xs := [.ref st])) (fun i σ H' => Same' H H' ∧ ∃ z2 z3 : Option V, σ = [some (.ref a), some (.ref T), z2, z3, none, none, none, none]) ⟨fun _ _ e => e, none, none, rfl⟩ (fun i σ H' _ hp => SqT.of (hp.1 _ _ eT)) (fun i x σ H1 H2 hi hp hy => ?_) (fun σ H1 hp => ?_)
  · obtain ⟨sm, z2, z3, rfl⟩ := hp
    obtain ⟨tt, v1, v2, rfl, htt, rfl, e1, e2⟩ := hy
    obtain rfl : i = 0 := Nat.lt_one_iff.mp hi
    cases e2
    have s2 := same_new (o := .tup [v1, V.ref st]) htt
    refine ⟨tt, _, rfl, SqT.of upd_same, rfl, _, _, rfl, _, _, rfl, rfl, ?_⟩
    refine ⟨.ref st, rfl, .ref st, .ref CD, _, .ref CD, true, rfl, .own _, Z.S.ty ((sa.keep sm).keep s2), Z.kD _ k.ix_lt, true, rfl, iteF ?_⟩
    exact ⟨sm.trans s2, _, _, rfl⟩
  obtain ⟨s1, z2, z3, rfl⟩ := hp
  -- blocks
  refine ⟨.ref T, rfl, T, rfl, ⟨_, SqT.of (s1 _ _ eT)⟩, fun Bk hB => ?_⟩
  refine lc2_out (walk_tup (K := K) (a := T) (xs := [.ref st])) (fun i H' => Same' H1 H' ∧ H' Bk = some (.lst [])) ⟨same_new hB, upd_same⟩ (fun i H' _ hp => SqT.of (hp.1 _ _ (s1 _ _ eT))) (fun i x H2 H3 hi hp hx => ?_) (fun H2 hp => ?_)
  · obtain ⟨sm, ed⟩ := hp
    obtain ⟨rfl, e2⟩ := hx
    obtain rfl : i = 0 := Nat.lt_one_iff.mp hi
    cases e2
    obtain ⟨dy, t0, ea, et⟩ := (sa.keep s1).keep sm
    refine ⟨rfl, ⟨.ref st, rfl, st, dy, _, rfl, ea, no_blocks t0, .ref st, rfl, fun t2 ht2 => ?_⟩⟩
    have s4 := same_new (o := .tup []) ht2
    refine ⟨t2, rfl, ⟨_, SqT.of upd_same⟩, ?_⟩
    exact lc2_in (walk_tup (K := K) (a := t2) (xs := [])) (fun j H' => Same' H1 H' ∧ H' Bk = some (.lst []) ∧ H' t2 = some (.tup [])) ⟨sm.trans s4, s4 _ _ ed, upd_same⟩ (fun j H' _ hp => SqT.of hp.2.2) (fun j x H5 H6 hj hp hx => absurd hj (Nat.not_lt_zero _)) (fun H5 hp => ⟨hp.1, hp.2.1⟩)
  obtain ⟨s2, eB⟩ := hp
  have s12 := s1.trans s2
  have nB : Bk ≠ a := (ne_of_none (s1 _ _ ha) hB).symm
  -- deeds
  refine ⟨.ref T, rfl, .ref a, rfl, a, CP, dx, [], rfl, s12 _ _ ha, Z.c, Z.no _ (by simp), by decide, ?_⟩
  have P3 : PSt CP dx a H H2 [] [Bk] [] := ⟨s12 _ _ ha, .of s12, fun b hb => by obtain rfl := List.mem_singleton.mp hb; exact ⟨eB, nB⟩, fun b hb => (nomatch hb)⟩
  refine PSt.go [("deeds", .ref T)] P3 rfl fun H3 P3 => ?_
  -- size
  refine ⟨.ref T, rfl, T, [.ref st], rfl, .inr (SqT.of (tk _ P3.k)), ?_⟩
  refine ⟨.ref Bk, rfl, Bk, rfl, ⟨_, SqL.of (P3.ls Bk (by simp)).1⟩, fun D hD => lc_nil (P3.ls Bk (by simp)).1 hD ?_⟩
  have P4 := P3.same (same_new (o := .lst []) hD)
  refine ⟨D, [], rfl, SqL.of upd_same, ⟨1, 0, rfl, rfl, ?_⟩⟩
  refine ⟨.ref a, rfl, a, CP, dx, _, rfl, P4.i, Z.c, Z.no _ (by simp), by simp, ?_⟩
  refine PSt.go [("deeds", .ref T), ("size", .int 1)] P4 rfl fun H5 P5 => ?_
  -- depth
  refine ⟨.ref Bk, rfl, Bk, rfl, ⟨_, SqL.of (P5.ls Bk (by simp)).1⟩, fun D hD => lc_nil (P5.ls Bk (by simp)).1 hD ?_⟩
  have P6 := P5.same (same_new (o := .lst []) hD)
  refine ⟨D, 0, rfl, rfl, SqL.of upd_same, ?_⟩
  refine ⟨.ref a, rfl, a, CP, dx, _, rfl, P6.i, Z.c, Z.no _ (by simp), by simp, ?_⟩
  refine PSt.go [("deeds", .ref T), ("size", .int 1), ("depth", .int 0)] P6 rfl fun H7 P7 => ?_
  -- the two bounds
  refine ⟨.ref a, rfl, a, CP, dx, _, .int 1, rfl, P7.i, Z.c, Z.no _ (by simp), rfl, 1, 60, rfl, rfl, false, rfl, iteF ?_⟩
  refine ⟨.ref a, rfl, a, CP, dx, _, .int 0, rfl, P7.i, Z.c, Z.no _ (by simp), rfl, 0, 6, rfl, rfl, false, rfl, iteF ?_⟩
  -- used_names
  refine ⟨.ref T, rfl, T, st, k, rfl, tk _ P7.k, sk _ P7.k, fun U H8 s8 eU => ?_⟩
  have P8 := (P7.same s8).addU eU
  refine ⟨.ref a, rfl, a, CP, dx, _, rfl, P8.i, Z.c, Z.no _ (by simp), by simp, ?_⟩
  refine PSt.go [("deeds", .ref T), ("size", .int 1), ("depth", .int 0), ("used_names", .ref U)] P8 rfl fun H9 P9 => ?_
  -- used_values
  refine ⟨.ref T, rfl, T, st, k, rfl, tk _ P9.k, sk _ P9.k, fun U2 H8 s8 => ?_⟩
  have P10 := P9.same s8
  refine ⟨.ref a, rfl, a, CP, dx, _, rfl, P10.i, Z.c, Z.no _ (by simp), by simp, ?_⟩
  refine PSt.go [("deeds", .ref T), ("size", .int 1), ("depth", .int 0), ("used_names", .ref U), ("used_values", .ref U2)] P10 rfl fun Ha Pa => ?_
  -- cells
  obtain ⟨ys0, ey, ty, ly⟩ := Pa.us U (by simp)
  refine ⟨.ref a, rfl, a, CP, dx, _, .ref U, rfl, Pa.i, Z.c, Z.no _ (by simp), rfl, U, rfl, ⟨_, SqL.of ey⟩, fun D hD => ?_⟩
  refine lc_it (walk_list (K := K) (a := U) (xs := ys0.map fun y => V.ref y.1)) (fun i H' => Same' Ha H' ∧ ∃ zs : List Str, H' D = some (.lst (zs.map V.str)) ∧ zs.length ≤ i) ⟨same_new hD, [], upd_same, Nat.zero_le _⟩ (fun i H' _ hp => SqL.of (hp.1 _ _ ey)) (fun i x H5 H6 hi hp hx => ?_) (fun H5 hp => ?_)
  · obtain ⟨sm, zs, ez, lz⟩ := hp
    obtain ⟨rfl, hx⟩ := hx
    rw [List.getElem?_map] at hx
    cases et : ys0[i]? with
    | none =>
      rw [et] at hx
      cases hx
    | some y =>
      rw [et] at hx
      cases hx
      have etp := sm _ _ (ty y (List.mem_of_getElem? et))
      refine ⟨y.1, _, rfl, SqT.of etp, rfl, _, _, rfl, _, _, rfl, rfl, ?_⟩
      refine ⟨rfl, .str y.2.1, rfl, rfl, _, rfl, ite2 (fun hb => ?_) (fun hb => ⟨sm, zs, ez, Nat.le_succ_of_le lz⟩)⟩
      refine ⟨.str y.2.2, rfl, _, ez, by rw [List.length_map, sizeLine_eq]; simp only [List.length_map] at hi; omega, same_over hD sm, zs ++ [y.2.2], by rw [upd_same, List.map_append]; rfl, by rw [List.length_append, List.length_singleton]; omega⟩
  obtain ⟨sm, zs, ez, lz⟩ := hp
  refine ⟨D, zs, rfl, .inl (SqL.of ez), by rw [List.length_map] at lz; omega, fun p ys Hb _ sb _ => ?_⟩
  have Pb := (Pa.same sm).same sb
  refine ⟨.ref a, rfl, a, CP, dx, _, rfl, Pb.i, Z.c, Z.no _ (by simp), by simp, ?_⟩
  refine PSt.go [("deeds", .ref T), ("size", .int 1), ("depth", .int 0), ("used_names", .ref U), ("used_values", .ref U2), ("cells", .ref p)] Pb rfl fun Ha Pa => ?_
  -- logs
  obtain ⟨ys0, ey, ty, ly⟩ := Pa.us U (by simp)
  refine ⟨.ref a, rfl, a, CP, dx, _, .ref U, rfl, Pa.i, Z.c, Z.no _ (by simp), rfl, U, rfl, ⟨_, SqL.of ey⟩, fun D hD => ?_⟩
  refine lc_it (walk_list (K := K) (a := U) (xs := ys0.map fun y => V.ref y.1)) (fun i H' => Same' Ha H' ∧ ∃ zs : List Str, H' D = some (.lst (zs.map V.str)) ∧ zs.length ≤ i) ⟨same_new hD, [], upd_same, Nat.zero_le _⟩ (fun i H' _ hp => SqL.of (hp.1 _ _ ey)) (fun i x H5 H6 hi hp hx => ?_) (fun H5 hp => ?_)
  · obtain ⟨sm, zs, ez, lz⟩ := hp
    obtain ⟨rfl, hx⟩ := hx
    rw [List.getElem?_map] at hx
    cases et : ys0[i]? with
    | none =>
      rw [et] at hx
      cases hx
    | some y =>
      rw [et] at hx
      cases hx
      have etp := sm _ _ (ty y (List.mem_of_getElem? et))
      refine ⟨y.1, _, rfl, SqT.of etp, rfl, _, _, rfl, _, _, rfl, rfl, ?_⟩
      refine ⟨rfl, .str y.2.1, rfl, rfl, _, rfl, ite2 (fun hb => ?_) (fun hb => ⟨sm, zs, ez, Nat.le_succ_of_le lz⟩)⟩
      refine ⟨.str y.2.2, rfl, _, ez, by rw [List.length_map, sizeLine_eq]; simp only [List.length_map] at hi; omega, same_over hD sm, zs ++ [y.2.2], by rw [upd_same, List.map_append]; rfl, by rw [List.length_append, List.length_singleton]; omega⟩
  obtain ⟨sm, zs, ez, lz⟩ := hp
  refine ⟨D, zs, rfl, .inl (SqL.of ez), by rw [List.length_map] at lz; omega, fun p2 ys Hb _ sb _ => ?_⟩
  have Pb := (Pa.same sm).same sb
  refine ⟨.ref a, rfl, a, CP, dx, _, rfl, Pb.i, Z.c, Z.no _ (by simp), by simp, ?_⟩
  refine PSt.go [("deeds", .ref T), ("size", .int 1), ("depth", .int 0), ("used_names", .ref U), ("used_values", .ref U2), ("cells", .ref p), ("logs", .ref p2)] Pb rfl fun Ha Pa => ?_
  -- failures
  obtain ⟨ys0, ey, ty, ly⟩ := Pa.us U (by simp)
  refine ⟨.ref a, rfl, a, CP, dx, _, .ref U, rfl, Pa.i, Z.c, Z.no _ (by simp), rfl, U, rfl, ⟨_, SqL.of ey⟩, fun D hD => ?_⟩
  refine lc_it (walk_list (K := K) (a := U) (xs := ys0.map fun y => V.ref y.1)) (fun i H' => Same' Ha H' ∧ ∃ zs : List Str, H' D = some (.lst (zs.map V.str)) ∧ zs.length ≤ i) ⟨same_new hD, [], upd_same, Nat.zero_le _⟩ (fun i H' _ hp => SqL.of (hp.1 _ _ ey)) (fun i x H5 H6 hi hp hx => ?_) (fun H5 hp => ?_)
  · obtain ⟨sm, zs, ez, lz⟩ := hp
    obtain ⟨rfl, hx⟩ := hx
    rw [List.getElem?_map] at hx
    cases et : ys0[i]? with
    | none =>
      rw [et] at hx
      cases hx
    | some y =>
      rw [et] at hx
      cases hx
      have etp := sm _ _ (ty y (List.mem_of_getElem? et))
      refine ⟨y.1, _, rfl, SqT.of etp, rfl, _, _, rfl, _, _, rfl, rfl, ?_⟩
      refine ⟨rfl, .str y.2.1, rfl, rfl, _, rfl, ite2 (fun hb => ?_) (fun hb => ⟨sm, zs, ez, Nat.le_succ_of_le lz⟩)⟩
      refine ⟨.str y.2.2, rfl, _, ez, by rw [List.length_map, sizeLine_eq]; simp only [List.length_map] at hi; omega, same_over hD sm, zs ++ [y.2.2], by rw [upd_same, List.map_append]; rfl, by rw [List.length_append, List.length_singleton]; omega⟩
  obtain ⟨sm, zs, ez, lz⟩ := hp
  refine ⟨D, zs, rfl, .inl (SqL.of ez), by rw [List.length_map] at lz; omega, fun p3 ys Hb _ sb _ => ?_⟩
  have Pb := (Pa.same sm).same sb
  refine ⟨.ref a, rfl, a, CP, dx, _, rfl, Pb.i, Z.c, Z.no _ (by simp), by simp, ?_⟩
  refine PSt.go [("deeds", .ref T), ("size", .int 1), ("depth", .int 0), ("used_names", .ref U), ("used_values", .ref U2), ("cells", .ref p), ("logs", .ref p2), ("failures", .ref p3)] Pb rfl fun Ha Pa => ?_
  -- chooses
  refine ⟨.ref T, rfl, T, rfl, ⟨_, SqT.of (tk _ Pa.k)⟩, fun D hD => ?_⟩
  refine lc_it (walk_tup (K := K) (a := T) (xs := [.ref st])) (fun i H' => Same' Ha H' ∧ H' D = some (.lst (List.replicate i (.bl false)))) ⟨same_new hD, upd_same⟩ (fun i H' _ hp => SqT.of (hp.1 _ _ (tk _ Pa.k))) (fun i x H' Hb hi hp hy => ?_) (fun H' hp => ?_)
  · obtain ⟨rfl, e2⟩ := hy
    obtain rfl : i = 0 := Nat.lt_one_iff.mp hi
    cases e2
    refine ⟨rfl, ⟨.ref st, rfl, .ref st, .ref CC, _, .ref CC, false, rfl, .own _, Z.S.ty ((sk _ Pa.k).keep hp.1), Z.kC _ k.ix_lt, _, hp.2, by decide, same_over hD hp.1, upd_same⟩⟩
  obtain ⟨sc, ec⟩ := hp
  have Pc := Pa.same sc
  refine ⟨.ref Bk, rfl, Bk, rfl, ⟨_, SqL.of (Pc.ls Bk (by simp)).1⟩, fun D2 hD2 => lc_nil (Pc.ls Bk (by simp)).1 hD2 ?_⟩
  have s2 := same_new (o := .lst []) hD2
  refine ⟨D, D2, _, [], rfl, rfl, s2 _ _ ec, upd_same, by simp [sizeLine_eq], fun l hl => ?_⟩
  have Pd := (Pc.same s2).same (same_new (o := .lst (List.replicate 1 (.bl false) ++ [])) hl)
  refine ⟨l, [false], rfl, SqL.of upd_same, ?_⟩
  refine ⟨.ref a, rfl, a, CP, dx, _, rfl, Pd.i, Z.c, Z.no _ (by simp), by simp, ?_⟩
  exact q _ (Pd.set _).k ⟨dx, _, (Pd.set _).i⟩
theorem ok_progI {CP CD CC fB fN fV fA f : Addr} {dB dN dV dA fd : FuncData} (F : Fun K "__init__" "Program.__init__" sProgI f fd) (Z : PgK P w K mg base A CP CD CC fB fN fV fA dB dN dV dA) : FnR P w K mg base (L2.CX P w) 5 f (spProg A CP) := by
  obtain ⟨oc, od, kV, doc, pm, an, cdv, ct, osl, rfl, lk, hcd⟩ := F.ex
  refine FnR.imp (StX.fn_star (ps := ["self"]) (pv := "deeds") (sp := spProgT A CP) lk hcd scPi StX.cxUp (StX.bind_star1 (B := fun us => bindArgs (PySem.W.fnOf "__init__" "Program.__init__" (defArgs sProgI) (defBody sProgI) (defScope sProgI) .none kV doc pm an cdv ct) ⟨us, []⟩) (fun _ => rfl) (fun _ _ _ => rfl)) fun A0 outer s H vs Q E hr h => ?_) fun vs H Q E h => ?_
  · obtain ⟨t, ht, hq⟩ := prog_body (f := f) (cdv := cdv) (A0 := A0) (outer := outer) (s := s) Z hr h
    exact ⟨t, ht.nox, hq⟩
  · obtain ⟨a, dx, d, k, rfl, ha, sa, nd, q⟩ := h
    refine ⟨[.ref a], [.ref d], rfl, rfl, by show 1 ≤ sizeLine; decide, fun p hp => ?_⟩
    have s := same_new (o := .tup [.ref d]) hp
    exact ⟨a, dx, p, d, k, rfl, s _ _ ha, upd_same, sa.keep s, nd, fun H' k e => q H' ((Keep1.of s).trans k) e⟩
end
end My
/-! a built-in value == an object of an own class: the object's own __eq__ is asked -/
namespace MyR
open PySem PySem.Spec PyProof.Rows L2
open PySem.AutoSeq1 (wpAny_loadPart')
open PySem.MeetsSeq
open My
section
variable {w : World} {P : Program} {A : Around} {E : Value → Shared → Prop} {s : Shared}
/-- what is plain: an object of an own class without a built-in part -/
theorem int_declines (b : Int) (u : Tok) (l : Addr) (c : Value) (dd : Option Addr) (sl : Array (Option Value)) :
    Meets (Builtin.«int.__eq__» ⟨[.int b u, .ref l], []⟩) (fun _ R s => s.heap.get? l = some { cls := c, dict := dd, data := .plain, slots := sl } ∧ R (.ok (.ret .notImplemented)) s) :=
  .of_wp fun prog w A R s h => by obtain ⟨hp, g, d, tk, os⟩ := s; obtain ⟨hl, h⟩ := h; wp_walk using wpAny_loadPart' hl, wpAny_load hl; exact ⟨_, rfl, h⟩
theorem str_declines (b : Str) (u : Tok) (l : Addr) (c : Value) (dd : Option Addr) (sl : Array (Option Value)) :
    Meets (Builtin.«str.__eq__» ⟨[.str b u, .ref l], []⟩) (fun _ R s => s.heap.get? l = some { cls := c, dict := dd, data := .plain, slots := sl } ∧ R (.ok (.ret .notImplemented)) s) :=
  .of_wp fun prog w A R s h => by obtain ⟨hp, g, d, tk, os⟩ := s; obtain ⟨hl, h⟩ := h; wp_walk using wpAny_loadPart' hl, wpAny_load hl; exact ⟨_, rfl, h⟩
theorem tuple_declines {prog : Program} {w : World} (l a : Addr) :
    MeetsIn prog w (Builtin.«tuple.__eq__» ⟨[.ref l, .ref a], []⟩) (fun _ R s => PySem.W.Looks (model prog w) s.heap (isInstance (.ref a) (.type "tuple")) false ∧ R (.ok (.ret .notImplemented)) s) :=
  .of_wp fun A R s h => by
    obtain ⟨hI, h⟩ := h
    refine wpAny_bind (wpAny_of_eq (a := ((Value.ref l : Value), [Value.ref a])) (by first | rfl | (simp only [slotArgs]; rfl)) ?_)
    refine wpAny_bind (hI.here ?_)
    simp only [Bool.not_false, if_true]
    exact wpAny_pure ⟨_, rfl, h⟩
end
section
variable {X : Cx} {CX : CXT} {k : Nat} {f : Addr} {fd : FuncData} {ps : List Str} {sp : Sp} {E : XK}
/-- the reading: the object answers True or False -/
def rEqRefl (K : PySem.W.Frag) (C : Addr) (T : String) (sp : Sp) (E : XK) : R2 := fun x y H Q => ∃ (a dx : Addr) (fs : List (Str × V)), y = .ref a ∧ H a = some (.ins C dx fs) ∧ sp [y, x] H (fun v H' => ∃ b, v = .bl b ∧ Q (.bl b) H') E
theorem eq_refl {C : Addr} {T id : String} {pins : List (Addr × Obj)} {σ : L2.St} {H : Hp} {s : Shared} {x : V} {v : Value} {a dx : Addr} {fs : List (Str × V)} {Q : VK} (F : FnG X.prog X.w X.K X.mg X.base CX k f fd ps sp) (hr : Room k X.A) (hgu : X.A.guards = some []) (hs : PySem.W.findIn X.K (.ref C) "__eq__" = some (some (.ref f))) (hf : PySem.W.isFn X.K (.ref f) = true)
    (hb : Binds X.K fd ps []) (hx : Passes CX X E) (hm : PySem.W.mroIn X.K C (.type T) = some false) (sl : Slot T "__eq__" id) (I : Inv X pins σ H s) (rx : RelV x v) (ty : s.TypeIs v T) (ha : H a = some (.ins C dx fs))
    (dec : ∀ (dd : Option Addr) (sl : Array (Option Value)) (Q' : Value → Shared → Prop), s.heap.get? a = some { cls := .ref C, dict := dd, data := .plain, slots := sl } → Q' .notImplemented s → wpAny (model X.prog X.w) X.A (call (.builtin id) [v, .ref a]) Q' X.xe s)
    (q : sp [.ref a, x] H (fun v H' => ∃ b, v = .bl b ∧ Q (.bl b) H') E) : wpAny (model X.prog X.w) X.A (compareOp .Eq v (.ref a)) (EP X pins σ Q) X.xe s := by
  obtain ⟨mA, J, _⟩ := ins_get I.hok ha
  obtain ⟨od, J, _⟩ := J.look
  have KS := I.kIn
  show wpAny (model X.prog X.w) X.A (richCompare .Eq v (.ref a)) (EP X pins σ Q) X.xe s
  have own : wpAny (model X.prog X.w) X.A (callSpecialIfBound? (.ref a) "__eq__" [v]) (fun r s' => ∃ b, r = some (.bool b) ∧ EP X pins σ Q (.bool b) s') X.xe s := by
    refine PySem.W.ifBound_K KS J hs hf (wpAny_mono (runG (vs := [.ref a, x]) (us := [.ref a, v]) (dvs := []) (ds := []) F hr hgu hb .nil hx I (.cons rfl (.cons rx .nil)) q) (fun r s' z => ?_) fun _ _ z => z)
    obtain ⟨w1, H1, I1, r1, b, rfl, q1⟩ := z
    cases r1
    exact ⟨b, rfl, .bl b, H1, I1, rfl, q1⟩
  simp only [richCompare, cmpInfo, ty.oneThing_none]
  refine wpAny_holding (wpAny_bind (wpAny_cRoomFor hr.units0 ?_))
  refine wpAny_bind (wpAny_typeOf ty (wpAny_bind (J.type.here ?_)))
  have ne : (Value.type T != Value.ref C) = true := rfl
  simp only [ne, if_true]
  refine wpAny_bind ((PySem.W.looks_mroIn KS hm).here ?_)
  simp only [Bool.false_eq_true, if_false, Bool.not_false, if_true]
  have fin : wpAny (model X.prog X.w) X.A (tryCompare (.ref a) "__eq__" v) (fun r s' => ∃ b, r = some (.bool b) ∧ EP X pins σ Q (.bool b) s') X.xe s := by
    unfold tryCompare
    refine wpAny_bind (wpAny_mono own (fun r s' z => ?_) fun _ _ z => z)
    obtain ⟨b, rfl, ep⟩ := z
    exact wpAny_pure ⟨b, rfl, ep⟩
  refine wpAny_bind (m := tryCompare v _ (.ref a)) (wpAny_tryCompare_declines ty sl ?_)
  refine dec (some dx) _ _ J.at_ ⟨rfl, ?_⟩
  refine wpAny_bind (wpAny_mono fin (fun r s' z => ?_) fun _ _ z => z)
  obtain ⟨b, rfl, ep⟩ := z
  exact wpAny_pure ep
/-- None == x, 0 == x, 't' == x, (..) == x where x is of an own class with an own __eq__ -/
theorem op_eqReflFlat {C : Addr} (F' : FnG X.prog X.w X.K X.mg X.base CX k f fd ps sp) (hr : Room k X.A) (hgu : X.A.guards = some []) (hs : PySem.W.findIn X.K (.ref C) "__eq__" = some (some (.ref f))) (hf : PySem.W.isFn X.K (.ref f) = true) (hb : Binds X.K fd ps []) (hx : Passes CX X E)
    (m1 : PySem.W.mroIn X.K C (.type "NoneType") = some false) (m2 : PySem.W.mroIn X.K C (.type "int") = some false) (m3 : PySem.W.mroIn X.K C (.type "str") = some false) :
    OpR X (compareOp .Eq) (fun x y H Q => (x = .non ∨ (∃ i, x = .int i) ∨ ∃ z, x = .str z) ∧ ∃ (a dx : Addr) (fs : List (Str × V)), y = .ref a ∧ H a = some (.ins C dx fs) ∧ sp [y, x] H (fun v H' => ∃ b, v = .bl b ∧ Q (.bl b) H') E) := by
  intro pins s σ H x y v u Q I rx ry h
  obtain ⟨hx', a, dx, fs, rfl, ha, q⟩ := h
  cases ry
  rcases hx' with rfl | ⟨i, rfl⟩ | ⟨z, rfl⟩
  · cases (show v = Value.none from rx)
    exact eq_refl F' hr hgu hs hf hb hx m1 F.slot_NoneType_eq I (show RelV .non Value.none from rfl) rfl ha (fun _ _ _ _ hq => call_gives F.slot_NoneType_eq rfl F.entry_NoneType_eq (F.args_NoneType_eq_2 _ _) (SeqAt.NoneType___eq___none_ref_0 a) hq) q
  · obtain ⟨t, rfl⟩ := (show ∃ t, v = Value.int i t from rx)
    exact eq_refl F' hr hgu hs hf hb hx m2 F.slot_int_eq I (show RelV (.int i) (Value.int i t) from ⟨t, rfl⟩) (typeIs_int s i t) ha (fun dd sl _ e hq => call_meets F.slot_int_eq (typeIs_int s i t) F.entry_int_eq (F.args_int_eq_2 _ _) (int_declines i t a (.ref C) dd sl) ⟨e, hq⟩) q
  · obtain ⟨t, rfl⟩ := (show ∃ t, v = Value.str z t from rx)
    exact eq_refl F' hr hgu hs hf hb hx m3 F.slot_str_eq I (show RelV (.str z) (Value.str z t) from ⟨t, rfl⟩) (typeIs_str s z t) ha (fun dd sl _ e hq => call_meets F.slot_str_eq (typeIs_str s z t) F.entry_str_eq (F.args_str_eq_2 _ _) (str_declines z t a (.ref C) dd sl) ⟨e, hq⟩) q
theorem op_eqReflTup {C : Addr} (F' : FnG X.prog X.w X.K X.mg X.base CX k f fd ps sp) (hr : Room k X.A) (hgu : X.A.guards = some []) (hs : PySem.W.findIn X.K (.ref C) "__eq__" = some (some (.ref f))) (hf : PySem.W.isFn X.K (.ref f) = true) (hb : Binds X.K fd ps []) (hx : Passes CX X E) (m1 : PySem.W.mroIn X.K C (.type "tuple") = some false) :
    OpR X (compareOp .Eq) (fun x y H Q => ∃ (p : Addr) (xs : List V) (a dx : Addr) (fs : List (Str × V)), x = .ref p ∧ SqT X.K H p xs ∧ y = .ref a ∧ H a = some (.ins C dx fs) ∧ sp [y, x] H (fun v H' => ∃ b, v = .bl b ∧ Q (.bl b) H') E) := by
  intro pins s σ H x y v u Q I rx ry h
  obtain ⟨p, xs, a, dx, fs, rfl, ht, rfl, ha, q⟩ := h
  cases ry
  cases rx
  obtain ⟨its, rv, pl, hz⟩ := I.tuple ht
  obtain ⟨o, h1, h2, _⟩ := pl
  have ty : s.TypeIs (.ref p) "tuple" := ⟨o, h1, h2⟩
  obtain ⟨mA, J, _⟩ := ins_get I.hok ha
  obtain ⟨od, J, _⟩ := J.look
  have hI : PySem.W.Looks (model X.prog X.w) s.heap (isInstance (.ref a) (.type "tuple")) false := J.type.andThen (PySem.W.looks_mroIn I.kIn m1)
  exact eq_refl F' hr hgu hs hf hb hx m1 F.slot_tuple_eq I (show RelV (.ref p) (Value.ref p) from rfl) ty ha (fun dd sl _ e hq => call_meetsIn F.slot_tuple_eq ty F.entry_tuple_eq (F.args_tuple_eq_2 _ _) (tuple_declines p a) ⟨hI, hq⟩) q
end
end MyR
namespace My
open PySem PySem.Spec PyProof.Rows L2
/-! ### ==, != and str of deeds -/
abbrev sProgE : Stmt := inClass (topS 58) 7
/-- a deed class's own methods -/
structure Own (P : Program) (w : World) (K : PySem.W.Frag) (mg : Str → Option Value) (base : Heap) (A : Nat → Addr) (i : Nat) (fE fT : Addr) (dE dT : FuncData) : Prop where
  eq : PySem.W.findIn K (.ref (A i)) "__eq__" = some (some (.ref fE))
  ef : PySem.W.isFn K (.ref fE) = true
  ne : PySem.W.findIn K (.ref (A i)) "__ne__" = some (some (.builtin "object.__ne__"))
  bE : Binds K dE ["self", "other"] []
  gE : FnOk P w K mg base CX0 1 fE dE ["self", "other"] (spEq K A i)
  st : PySem.W.findIn K (.ref (A i)) "__str__" = some (some (.ref fT))
  tf : PySem.W.isFn K (.ref fT) = true
  bT : Binds K dT ["self"] []
  gT : FnOk P w K mg base CX0 1 fT dT ["self"] (spStr A i)
  nf : ∀ j, j < 6 → PySem.W.notFirst K (A i) (.ref (A j)) = true
  mr : ∀ T ∈ (["NoneType", "int", "str", "tuple"] : List String), PySem.W.mroIn K (A i) (.type T) = some false
  kt : ∀ T ∈ (["NoneType", "int", "str", "tuple"] : List String), PySem.W.kitOne K (.type T) (.ref (A i)) = some false
def Owns (P : Program) (w : World) (K : PySem.W.Frag) (mg : Str → Option Value) (base : Heap) (A : Nat → Addr) : Prop := ∀ i, i < 6 → ∃ fE fT dE dT, Own P w K mg base A i fE fT dE dT
def rEqH (A : Nat → Addr) (neg : Bool) : R2 := fun x y H Q => ∃ (a b : Addr) (k k2 : DK), x = .ref a ∧ y = .ref b ∧ IsD A H a k ∧ IsD A H b k2 ∧ k ∈ rows ∧ k2 ∈ rows ∧ Q (.bl (if neg then !decide (k = k2) else decide (k = k2))) H
section
variable {X : Cx} {A : Nat → Addr}
theorem op_eqH (S : Dd X.K X.mg A) (O : Owns X.prog X.w X.K X.mg X.base A) (hr : Room 1 X.A) (hgu : X.A.guards = some []) : OpR X (compareOp .Eq) (rEqH A false) := by
  intro pins s σ H x y v u Q I rx ry h
  obtain ⟨a, b, k, k2, rfl, rfl, ha, hb, mk, mk2, q⟩ := h
  obtain ⟨fE, fT, dE, dT, o⟩ := O k.ix k.ix_lt
  obtain ⟨dx, t, ea, _⟩ := id ha
  exact op_eqOwn (C := A k.ix) (E := fun _ _ _ => False) (toG o.gE) hr hgu o.eq o.ef o.bE pass0 pins s σ H _ _ v u Q I rx ry ⟨a, dx, _, _, rfl, ea, S.ty hb, o.nf _ k2.ix_lt, a, k, .ref b, decide (k = k2), rfl, rfl, mk, ha, .inl ⟨b, k2, rfl, hb, mk2, rfl⟩, _, rfl, q⟩
theorem op_neH (S : Dd X.K X.mg A) (O : Owns X.prog X.w X.K X.mg X.base A) (hr : Room 2 X.A) (hgu : X.A.guards = some []) : OpR X (compareOp .NotEq) (rEqH A true) := by
  intro pins s σ H x y v u Q I rx ry h
  obtain ⟨a, b, k, k2, rfl, rfl, ha, hb, mk, mk2, q⟩ := h
  obtain ⟨fE, fT, dE, dT, o⟩ := O k.ix k.ix_lt
  obtain ⟨dx, t, ea, _⟩ := id ha
  exact op_neOwn (C := A k.ix) (E := fun _ _ _ => False) (toG o.gE) hr hgu o.eq o.ef o.ne (S.mo _ k.ix_lt) o.bE pass0 pins s σ H _ _ v u Q I rx ry ⟨a, dx, _, _, rfl, ea, S.ty hb, o.nf _ k2.ix_lt, a, k, .ref b, decide (k = k2), rfl, rfl, mk, ha, .inl ⟨b, k2, rfl, hb, mk2, rfl⟩, _, rfl, _, rfl, q⟩
/-- what is no deed == a deed -/
def Odd (A : Nat → Addr) (CP : Addr) (H : Hp) (x : V) : Prop := x = .non ∨ (∃ i, x = .int i) ∨ (∃ z, x = .str z) ∨ (∃ p xs, x = .ref p ∧ H p = some (.tup xs)) ∨ ∃ p, x = .ref p ∧ ProgAt CP H p
def spEqP (A : Nat → Addr) (CP : Addr) : Sp := fun vs H Q _ => ∃ (p a : Addr) (k : DK), vs = [.ref p, .ref a] ∧ IsD A H a k ∧ Q (.bl false) H
structure PgE (P : Program) (w : World) (K : PySem.W.Frag) (mg : Str → Option Value) (base : Heap) (A : Nat → Addr) (CP fQ : Addr) (dQ : FuncData) : Prop where
  eq : PySem.W.findIn K (.ref CP) "__eq__" = some (some (.ref fQ))
  ef : PySem.W.isFn K (.ref fQ) = true
  b : Binds K dQ ["self", "other"] []
  g : FnOk P w K mg base CX0 1 fQ dQ ["self", "other"] (spEqP A CP)
  nf : ∀ j, j < 6 → PySem.W.notFirst K CP (.ref (A j)) = true
theorem ok_eqP {P : Program} {w : World} {K : PySem.W.Frag} {mg : Str → Option Value} {base : Heap} {CP f : Addr} {fd : FuncData} (F : Fun K "__eq__" "Program.__eq__" sProgE f fd) (S : Dd K mg A) (T : Txt mg) (gP : mg "Program" = some (.ref CP)) (kP : ∀ j, j < 6 → PySem.W.kitOne K (.ref (A j)) (.ref CP) = some false) :
    FnOk P w K mg base CX0 1 f fd ["self", "other"] (spEqP A CP) := by
  refine F.ok (⟨rfl, rfl, rfl, by decide +kernel, rfl, by decide +kernel, by decide +kernel⟩ : FnScope ["self", "other"] ["self", "other"] (defScope sProgE)) (fun vs H Q E h => ?_) (fun cdv A0 outer s H vs Q E hr h => ?_)
  · obtain ⟨p, a, k, rfl, _⟩ := h
    rfl
  · obtain ⟨p, a, k, rfl, ha, q⟩ := h
    refine ⟨_, pss_one (ps_ret (pe_and (pe_callB call_isi (by rfl) T.isi (by decide +kernel) (pa_cons (pv 1) (pa_cons (pe_glob (v := .ref CP) rfl gP rfl) pa_nil))) (pe_one pe_never))), ?_⟩
    exact ⟨.ref a, rfl, .ref a, .ref CP, _, .ref CP, false, rfl, .own _, S.ty ha, kP _ k.ix_lt, false, rfl, iteF q⟩
theorem op_eqOdd {CP fQ : Addr} {dQ : FuncData} (S : Dd X.K X.mg A) (O : Owns X.prog X.w X.K X.mg X.base A) (G : PgE X.prog X.w X.K X.mg X.base A CP fQ dQ) (hr : Room 1 X.A) (hgu : X.A.guards = some []) :
    OpR X (compareOp .Eq) (fun x y H Q => Odd A CP H x ∧ ∃ (a : Addr) (k : DK), y = .ref a ∧ IsD A H a k ∧ k ∈ rows ∧ Q (.bl false) H) := by
  intro pins s σ H x y v u Q I rx ry h
  obtain ⟨od, a, k, rfl, ha, mk, q⟩ := h
  obtain ⟨fE, fT, dE, dT, o⟩ := O k.ix k.ix_lt
  obtain ⟨dx, t, ea, _⟩ := id ha
  have flat : (x = .non ∨ (∃ i, x = .int i) ∨ ∃ z, x = .str z) → (∃ t, TyX X.K H x t ∧ PySem.W.kitOne X.K t (.ref (A k.ix)) = some false) → wpAny (model X.prog X.w) X.A (compareOp .Eq v u) (EP X pins σ Q) X.xe s := fun hf ht =>
    MyR.op_eqReflFlat (C := A k.ix) (E := fun _ _ _ => False) (toG o.gE) hr hgu o.eq o.ef o.bE pass0 (o.mr "NoneType" (by simp)) (o.mr "int" (by simp)) (o.mr "str" (by simp)) pins s σ H x _ v u Q I rx ry ⟨hf, a, dx, _, rfl, ea, a, k, x, false, rfl, rfl, mk, ha, .inr ⟨ht, rfl⟩, false, rfl, q⟩
  rcases od with rfl | ⟨i, rfl⟩ | ⟨z, rfl⟩ | ⟨p, xs, rfl, ep⟩ | ⟨p, rfl, dp, fs, ep⟩
  · exact flat (.inl rfl) ⟨_, .base .non, o.kt _ (by simp)⟩
  · exact flat (.inr (.inl ⟨i, rfl⟩)) ⟨_, .base (.int i), o.kt _ (by simp)⟩
  · exact flat (.inr (.inr ⟨z, rfl⟩)) ⟨_, .base (.str z), o.kt _ (by simp)⟩
  · exact MyR.op_eqReflTup (C := A k.ix) (E := fun _ _ _ => False) (toG o.gE) hr hgu o.eq o.ef o.bE pass0 (o.mr "tuple" (by simp)) pins s σ H _ _ v u Q I rx ry ⟨p, xs, a, dx, _, rfl, SqT.of ep, rfl, ea, a, k, .ref p, false, rfl, rfl, mk, ha, .inr ⟨⟨_, .base (.tup ep), o.kt _ (by simp)⟩, rfl⟩, false, rfl, q⟩
  · exact op_eqOwn (C := CP) (E := fun _ _ _ => False) (toG G.g) hr hgu G.eq G.ef G.b pass0 pins s σ H _ _ v u Q I rx ry ⟨p, dp, fs, _, rfl, ep, S.ty ha, G.nf _ k.ix_lt, p, a, k, rfl, ha, false, rfl, q⟩
def rStrH (A : Nat → Addr) : List V → Hp → VK → Prop := fun xs H Q => ∃ (a : Addr) (k : DK), xs = [.ref a] ∧ IsD A H a k ∧ k ∈ rows ∧ Q (.str k.text) H
theorem call_strH (O : Owns X.prog X.w X.K X.mg X.base A) (hr : Room 3 X.A) (hgu : X.A.guards = some []) : CallR X (.type "str") (rStrH A) := by
  intro pins s σ H xs us Q I r h
  obtain ⟨a, k, rfl, ha, mk, q⟩ := h
  obtain ⟨fE, fT, dE, dT, o⟩ := O k.ix k.ix_lt
  obtain ⟨dx, t, ea, _⟩ := id ha
  exact call_strOwn (C := A k.ix) (E := fun _ _ _ => False) (toG o.gT) hr hgu o.st o.tf o.bT pass0 pins s σ H _ us Q I r ⟨a, dx, _, rfl, ea, a, k, rfl, rfl, mk, ha, _, rfl, q⟩
end
end My
namespace My
open PySem PySem.Spec PyProof.Rows L2
/-! ### what the law makes and tells -/
def DK.row (k : DK) : List V := .str k.wd :: k.args
def shv : V → Str
  | .str z => z
  | .int i => (toString i : Str)
  | _ => Str.empty
def DK.texts (k : DK) : List Str := k.row.map shv
theorem rows_join : ∀ k ∈ rows, Txt.join " " k.texts = k.text ∧ (k.texts.map (·.length)).sum + k.texts.length * (" " : Str).length ≤ 16777216 := by decide +kernel
theorem row_kinds {k : DK} (hk : k ∈ rows) : ∀ x ∈ k.row, (∃ z, x = .str z) ∨ ∃ i : Int, x = .int i ∧ i.natAbs.log2 < 1920 := by
  have hi := (rows_text k hk).2
  cases k with
  | put n i =>
    intro x hx
    simp only [DK.row, DK.args, List.mem_cons, List.not_mem_nil, or_false] at hx
    rcases hx with rfl | rfl | rfl
    · exact .inl ⟨_, rfl⟩
    · exact .inl ⟨_, rfl⟩
    · exact .inr ⟨i, rfl, of_decide_eq_true hi⟩
  | copy a b =>
    intro x hx
    simp only [DK.row, DK.args, List.mem_cons, List.not_mem_nil, or_false] at hx
    rcases hx with rfl | rfl | rfl <;> exact .inl ⟨_, rfl⟩
  | say a b =>
    intro x hx
    simp only [DK.row, DK.args, List.mem_cons, List.not_mem_nil, or_false] at hx
    rcases hx with rfl | rfl | rfl <;> exact .inl ⟨_, rfl⟩
  | fail n =>
    intro x hx
    simp only [DK.row, DK.args, List.mem_cons, List.not_mem_nil, or_false] at hx
    rcases hx with rfl | rfl <;> exact .inl ⟨_, rfl⟩
  | lv =>
    intro x hx
    simp only [DK.row, DK.args, List.mem_cons, List.not_mem_nil, or_false] at hx
    exact .inl ⟨_, hx⟩
  | st =>
    intro x hx
    simp only [DK.row, DK.args, List.mem_cons, List.not_mem_nil, or_false] at hx
    exact .inl ⟨_, hx⟩
theorem in_put {n : Str} {i : Int} (h : n ∈ names4) (h0 : 0 ≤ i) (h4 : i < 4) : DK.put n i ∈ rows := by
  have hi : i ∈ vals4 := by
    rcases (by omega : i = 0 ∨ i = 1 ∨ i = 2 ∨ i = 3) with rfl | rfl | rfl | rfl <;> decide
  unfold rows
  simp only [List.mem_append, List.mem_flatMap, List.mem_map]
  exact .inl (.inl (.inl (.inl ⟨n, h, i, hi, rfl⟩)))
theorem in_copy {n m : Str} (h : n ∈ names4) (h2 : m ∈ far3) : DK.copy n m ∈ rows := by
  unfold rows
  simp only [List.mem_append, List.mem_flatMap, List.mem_map]
  exact .inl (.inl (.inl (.inr ⟨n, h, m, h2, rfl⟩)))
theorem in_say {n m : Str} (h : n ∈ names4) (h2 : m ∈ words5) : DK.say n m ∈ rows := by
  unfold rows
  simp only [List.mem_append, List.mem_flatMap, List.mem_map]
  exact .inl (.inl (.inr ⟨n, h, m, h2, rfl⟩))
theorem in_fail {n : Str} (h : n ∈ names4) : DK.fail n ∈ rows := by
  unfold rows
  simp only [List.mem_append, List.mem_flatMap, List.mem_map]
  exact .inl (.inr ⟨n, h, rfl⟩)
def sorts6 : List Str := ["put", "copy", "say", "fail", "none", "stop"]
def spPlain : Sp := fun vs H Q _ => ∃ (p c : Addr) (ns : List Int) (B : Int), vs = [.ref p] ∧ PenAt H p c ns B ∧ B + 10 ≤ 1000 ∧ ∀ (t : Addr) (k : DK) (H' : Hp), k ∈ rows → H' t = some (.tup k.row) → PenAt H' p c ns (B + 4) → Off p H H' → Q (.ref t) H'
def spMade (A : Nat → Addr) : Sp := fun vs H Q _ => ∃ (t : Addr) (k : DK), vs = [.ref t] ∧ k ∈ rows ∧ H t = some (.tup k.row) ∧ ∀ (a : Addr) (H' : Hp), H a = none → Same' H H' → IsD A H' a k → Q (.ref a) H'
def spParts (A : Nat → Addr) : Sp := fun vs H Q _ => ∃ (a : Addr) (k : DK), vs = [.ref a, .str k.wd] ∧ IsD A H a k ∧ ∀ (t : Addr) (H' : Hp), Same' H H' → H' t = some (.tup k.args) → Q (.ref t) H'
def spText : Sp := fun vs H Q _ => ∃ (t : Addr) (k : DK), vs = [.ref t] ∧ k ∈ rows ∧ H t = some (.tup k.row) ∧ ∀ H', Same' H H' → Q (.str k.text) H'
structure MkD (P : Program) (w : World) (K : PySem.W.Frag) (mg : Str → Option Value) (base : Heap) (A : Nat → Addr) (j : Nat) (ps : List Str) (f : Addr) (d : FuncData) : Prop where
  M : Mk K (A j) f
  b : Binds K d ps []
  G : FnOk P w K mg base CX0 4 f d ps (spI A j)
section
variable {P : Program} {w : World} {K : PySem.W.Frag} {mg : Str → Option Value} {base : Heap} {A : Nat → Addr}
theorem PenAt.new {H : Hp} {p c a : Addr} {ns : List Int} {B : Int} {o : HO} (P : PenAt H p c ns B) (h : H a = none) : PenAt (upd H a o) p c ns B := P.keep fun q x e => by
  rw [upd_ne (ne_of_none e h)]
  exact e
theorem made_same {H H' : Hp} {x dx : Addr} {o : HO} (hx : H x = none) (hdx : H dx = none) (k : Keep1 x (upd (upd H dx (.own x)) x o) H') : Same' H H' := fun b u e => k b u (ne_of_none e hx) (by rw [upd_ne (ne_of_none e hx), upd_ne (ne_of_none e hdx)]; exact e)
theorem call_strSI {X : Cx} : CallR X (.type "str") (fun xs H Q => (∃ i : Int, xs = [.int i] ∧ i.natAbs.log2 < 1920 ∧ Q (.str (toString i)) H) ∨ ∃ z, xs = [.str z] ∧ Q (.str z) H) := by
  intro pins s σ H xs us Q I r h
  rcases h with h | h
  · exact call_str_int pins s σ H xs us Q I r h
  · exact SkE.call_str_str pins s σ H xs us Q I r h
abbrev nPlain : List Str := ["_law_pen_here", "_law_title", "_law_far", "_law_sort"]
theorem scPlain : FnScope nPlain ["_law_pen_here"] (defScope sPlain) := ⟨rfl, rfl, rfl, by decide +kernel, rfl, by decide +kernel, by decide +kernel⟩
theorem ok_plain {f fD fP : Addr} {fd fdD fdP : FuncData} (F : Fun K "_law_plain" "_law_plain" sPlain f fd)
    (FD : Fun K "_law_draw" "_law_draw" sDraw fD fdD) (bD : Binds K fdD ["_law_pen_here", "_law_many"] []) (gD : mg "_law_draw" = some (.ref fD)) (GD : FnOk P w K mg base CX0 1 fD fdD ["_law_pen_here", "_law_many"] spDraw)
    (FP : Fun K "_law_pick" "_law_pick" sPick fP fdP) (bP : Binds K fdP ["_law_pen_here", "_law_some"] []) (gP : mg "_law_pick" = some (.ref fP)) (GP : FnOk P w K mg base CX0 2 fP fdP ["_law_pen_here", "_law_some"] spPick) : FnOk P w K mg base CX0 3 f fd ["_law_pen_here"] spPlain := by
  refine F.ok scPlain (fun vs H Q E h => ?_) (fun cdv A0 outer s H vs Q E hr h => ?_)
  · obtain ⟨p, c, ns, B, rfl, _⟩ := h
    rfl
  · obtain ⟨p, c, ns, B, rfl, PA0, hB, q⟩ := h
    refine ⟨_, pss_cons (ps_par (i := 1) (j := 2) rfl scPlain.nd rfl rfl (by decide) rfl rfl
        (pa_cons (pe_call GP hr (by rfl) gP FP.kp bP .nil pass0 (pa_cons (pv 0) (pa_cons (pe_lst (pa_cons pe_str (pa_cons pe_str (pa_cons pe_str (pa_cons pe_str pa_nil))))) pa_nil)))
          (pa_cons (pe_call GP hr (by rfl) gP FP.kp bP .nil pass0 (pa_cons (pv 0) (pa_cons (pe_lst (pa_cons pe_str (pa_cons pe_str (pa_cons pe_str pa_nil)))) pa_nil))) pa_nil)) (by rfl))
      (pss_cons (ps_set (i := 3) scPlain.nd rfl (.inl rfl) (pe_call GP hr (by rfl) gP FP.kp bP .nil pass0 (pa_cons (pv 0) (pa_cons (pe_lst (pa_cons pe_str (pa_cons pe_str (pa_cons pe_str (pa_cons pe_str (pa_cons pe_str (pa_cons pe_str pa_nil))))))) pa_nil))))
      (pss_cons (ps_if (pt_cmpR op_eq (pv 3) pe_str (nomark _)) (pss_one (ps_ret (pe_tup (pa_cons (pv 3) (pa_cons (pv 1) (pa_cons (pe_call GD (hr.mono (by decide)) (by rfl) gD FD.kp bD .nil pass0 (pa_cons (pv 0) (pa_cons pe_int pa_nil))) pa_nil)))))) pss_nil)
      (pss_cons (ps_if (pt_cmpR op_in_seq (pv 3) (pe_tup (pa_cons pe_str (pa_cons pe_str pa_nil))) (by rfl)) (pss_one (ps_ret (pe_tup (pa_cons (pv 3) (pa_cons (pv 1) (pa_cons (pe_ifExp (pt_cmpR op_eq (pv 3) pe_str (nomark _)) (pv 2) (pe_call GP hr (by rfl) gP FP.kp bP .nil pass0 (pa_cons (pv 0) (pa_cons (pe_lst (pa_cons pe_str (pa_cons pe_str (pa_cons pe_str (pa_cons pe_str (pa_cons pe_str pa_nil)))))) pa_nil)))) pa_nil)))))) pss_nil)
      (pss_one (ps_ret (pe_ifExp (pt_cmpR op_eq (pv 3) pe_str (nomark _)) (pe_tup (pa_cons (pv 3) (pa_cons (pv 1) pa_nil))) (pe_tup (pa_cons (pv 3) pa_nil)))))))), ?_⟩
    -- a pick from a new list
    have pick : ∀ {Hx : Hp} {Bx : Int} {zs : List Str} {Q1 : VK}, PenAt Hx p c ns Bx → Bx + 6 ≤ 1000 → 1 ≤ zs.length → zs.length ≤ 10 → (∀ z H', z ∈ zs → PenAt H' p c ns (Bx + 1) → Off p Hx H' → Q1 (.str z) H') → ∀ l, Hx l = none → spPick [.ref p, .ref l] (upd Hx l (.lst (zs.map V.str))) Q1 E0 := by
      intro Hx Bx zs Q1 PA hb h1 h10 q1 l hl
      obtain ⟨b, g, hp, _⟩ := PA.pen
      refine ⟨p, c, ns, Bx, .ref l, zs.map V.str, rfl, PA.new hl, by omega, .inl ⟨l, rfl, (ne_of_none hp hl).symm, upd_same⟩, by rw [List.length_map]; exact h1, by rw [List.length_map]; omega, fun v H1 hv PA1 off1 => ?_⟩
      obtain ⟨z, hz, rfl⟩ := List.mem_map.mp hv
      exact q1 z H1 hz PA1 ((Off.new hl).trans off1)
    refine ⟨.ref p, rfl, by show 4 ≤ sizeLine; decide, fun l hl => pick (zs := names4) PA0 (by omega) (by decide) (by decide) (fun n H1 hn PA1 o1 => ?_) l hl⟩
    refine ⟨.ref p, rfl, by show 3 ≤ sizeLine; decide, fun l2 hl2 => pick (zs := far3) PA1 (by omega) (by decide) (by decide) (fun m H2 hm PA2 o2 => ⟨_, _, rfl, ?_⟩) l2 hl2⟩
    refine ⟨.ref p, rfl, by show 6 ≤ sizeLine; decide, fun l3 hl3 => pick (zs := sorts6) PA2 (by omega) (by decide) (by decide) (fun z H3 hz PA3 o3 => ?_) l3 hl3⟩
    have off := (o1.trans o2).trans o3
    have fin : ∀ (k : DK) (B3 : Int) (H4 : Hp), k ∈ rows → PenAt H4 p c ns B3 → B3 ≤ B + 4 → Off p H3 H4 → ∀ t, H4 t = none → Q (.ref t) (upd H4 t (.tup k.row)) := fun k B3 H4 hk PA4 hb o4 t ht => q t k _ hk upd_same ((PA4.new ht).more hb) ((off.trans o4).trans (Off.new ht))
    simp only [sorts6, List.mem_cons, List.not_mem_nil, or_false] at hz
    rcases hz with rfl | rfl | rfl | rfl | rfl | rfl
    · refine ⟨.str "put", rfl, rfl, true, rfl, iteT ⟨.str "put", rfl, .str n, rfl, .ref p, rfl, p, c, ns, B + 1 + 1 + 1, 4, rfl, PA3, by omega, by decide, by decide, fun d H4 d0 d1 PA4 o4 => ⟨by show 3 ≤ sizeLine; decide, fun t ht => ?_⟩⟩⟩
      exact fin (.put n d) _ H4 (in_put hn d0 d1) PA4 (by omega) o4 t ht
    · refine ⟨.str "copy", rfl, rfl, false, rfl, iteF ⟨.str "copy", rfl, by show 2 ≤ sizeLine; decide, fun t1 ht1 => ⟨t1, [.str "copy", .str "say"], rfl, .inr (SqT.of upd_same), rfl, rfl, true, rfl, iteT ?_⟩⟩⟩
      refine ⟨.str "copy", rfl, .str n, rfl, .str "copy", rfl, rfl, true, rfl, iteT ⟨.str m, rfl, by show 3 ≤ sizeLine; decide, fun t ht => ?_⟩⟩
      exact fin (.copy n m) _ _ (in_copy hn hm) (PA3.new ht1) (by omega) (Off.new ht1) t ht
    · refine ⟨.str "say", rfl, rfl, false, rfl, iteF ⟨.str "say", rfl, by show 2 ≤ sizeLine; decide, fun t1 ht1 => ⟨t1, [.str "copy", .str "say"], rfl, .inr (SqT.of upd_same), rfl, rfl, true, rfl, iteT ?_⟩⟩⟩
      refine ⟨.str "say", rfl, .str n, rfl, .str "say", rfl, rfl, false, rfl, iteF ⟨.ref p, rfl, by show 5 ≤ sizeLine; decide, fun l4 hl4 => pick (zs := words5) (PA3.new ht1) (by omega) (by decide) (by decide) (fun z4 H4 hz4 PA4 o4 => ⟨by show 3 ≤ sizeLine; decide, fun t ht => ?_⟩) l4 hl4⟩⟩
      exact fin (.say n z4) _ _ (in_say hn hz4) PA4 (by omega) ((Off.new ht1).trans o4) t ht
    · refine ⟨.str "fail", rfl, rfl, false, rfl, iteF ⟨.str "fail", rfl, by show 2 ≤ sizeLine; decide, fun t1 ht1 => ⟨t1, [.str "copy", .str "say"], rfl, .inr (SqT.of upd_same), rfl, rfl, false, rfl, iteF ?_⟩⟩⟩
      refine ⟨.str "fail", rfl, rfl, true, rfl, iteT ⟨.str "fail", rfl, .str n, rfl, by show 2 ≤ sizeLine; decide, fun t ht => ?_⟩⟩
      exact fin (.fail n) _ _ (in_fail hn) (PA3.new ht1) (by omega) (Off.new ht1) t ht
    · refine ⟨.str "none", rfl, rfl, false, rfl, iteF ⟨.str "none", rfl, by show 2 ≤ sizeLine; decide, fun t1 ht1 => ⟨t1, [.str "copy", .str "say"], rfl, .inr (SqT.of upd_same), rfl, rfl, false, rfl, iteF ?_⟩⟩⟩
      refine ⟨.str "none", rfl, rfl, false, rfl, iteF ⟨.str "none", rfl, by show 1 ≤ sizeLine; decide, fun t ht => ?_⟩⟩
      exact fin .lv _ _ (by decide +kernel) (PA3.new ht1) (by omega) (Off.new ht1) t ht
    · refine ⟨.str "stop", rfl, rfl, false, rfl, iteF ⟨.str "stop", rfl, by show 2 ≤ sizeLine; decide, fun t1 ht1 => ⟨t1, [.str "copy", .str "say"], rfl, .inr (SqT.of upd_same), rfl, rfl, false, rfl, iteF ?_⟩⟩⟩
      refine ⟨.str "stop", rfl, rfl, false, rfl, iteF ⟨.str "stop", rfl, by show 1 ≤ sizeLine; decide, fun t ht => ?_⟩⟩
      exact fin .st _ _ (by decide +kernel) (PA3.new ht1) (by omega) (Off.new ht1) t ht
theorem scText : FnScope ["_law_plain_here", "_law_part"] ["_law_plain_here"] (defScope sText) := ⟨rfl, rfl, rfl, by decide +kernel, rfl, by decide +kernel, by decide +kernel⟩
theorem ok_text {f : Addr} {fd : FuncData} (F : Fun K "_law_text" "_law_text" sText f fd) (T : Txt mg) : FnOk P w K mg base CX0 1 f fd ["_law_plain_here"] spText := by
  refine F.ok scText (fun vs H Q E h => ?_) (fun cdv A0 outer s H vs Q E hr h => ?_)
  · obtain ⟨t, k, rfl, _⟩ := h
    rfl
  · obtain ⟨t, k, rfl, mk, et, q⟩ := h
    refine ⟨_, pss_one (ps_ret (pe_join pe_str (pe_lc (own := [("_law_part", 1)]) (g := gName 1) (tt := tYes) rfl scText.nd (pi_tup (pv 0)) (blkOk_by (N := ["_law_plain_here", "_law_part"]) (sc := defScope sText) (by decide +kernel)) (fun _ _ _ _ _ => pg_name (i := 1) scText.nd rfl (Or.inl rfl)) (fun _ _ _ _ _ => pts_nil)
        (fun _ _ _ _ _ => pe_callTy call_strSI (by rfl) T.str (by decide +kernel) (pa_cons (pv 1) pa_nil))))), ?_⟩
    refine ⟨⟨_, rfl⟩, .ref t, rfl, t, rfl, ⟨_, SqT.of et⟩, fun D hD => ?_⟩
    refine lc_it (walk_tup (K := K) (a := t) (xs := k.row)) (fun i H' => Same' H H' ∧ H' D = some (.lst ((k.texts.take i).map V.str))) ⟨same_new hD, upd_same⟩ (fun i H' _ hp => SqT.of (hp.1 _ _ et)) (fun i x H5 H6 hi hp hx => ?_) (fun H5 hp => ?_)
    · obtain ⟨sm, ed⟩ := hp
      obtain ⟨rfl, hx⟩ := hx
      have tx : k.texts[i]? = some (shv x) := by
        unfold DK.texts
        rw [List.getElem?_map, hx]
        rfl
      have stp : ∀ {o}, o = HO.lst ((k.texts.take i).map V.str ++ [.str (shv x)]) → o = .lst ((k.texts.take (i + 1)).map V.str) := fun {o} e => by
        rw [e, List.take_add_one, tx, List.map_append]
        rfl
      have few : ((k.texts.take i).map V.str).length < sizeLine := by
        have l3 : k.row.length ≤ 3 := by cases k <;> simp [DK.row, DK.args]
        rw [List.length_map, List.length_take, sizeLine_eq]
        omega
      refine ⟨rfl, x, rfl, ?_⟩
      rcases row_kinds mk x (List.mem_of_getElem? hx) with ⟨z, rfl⟩ | ⟨j, rfl, lj⟩
      · exact .inr ⟨z, rfl, _, ed, few, same_over hD sm, by rw [upd_same]; exact congrArg some (stp rfl)⟩
      · exact .inl ⟨j, rfl, lj, _, ed, few, same_over hD sm, by rw [upd_same]; exact congrArg some (stp rfl)⟩
    · obtain ⟨sm, ed⟩ := hp
      have el : k.texts.length = k.row.length := List.length_map ..
      rw [List.take_of_length_le (by rw [el]; exact Nat.le_refl _)] at ed
      obtain ⟨ej, fj⟩ := rows_join k mk
      refine ⟨_, D, k.texts, rfl, rfl, .inl (SqL.of ed), fj, ?_⟩
      rw [ej]
      exact q _ sm
theorem scParts : FnScope ["_law_made_here", "_law_sort"] ["_law_made_here", "_law_sort"] (defScope sParts) := ⟨rfl, rfl, rfl, by decide +kernel, rfl, by decide +kernel, by decide +kernel⟩
theorem ok_parts {f : Addr} {fd : FuncData} (F : Fun K "_law_parts" "_law_parts" sParts f fd) (S : Dd K mg A) : FnOk P w K mg base CX0 1 f fd ["_law_made_here", "_law_sort"] (spParts A) := by
  refine F.ok scParts (fun vs H Q E h => ?_) (fun cdv A0 outer s H vs Q E hr h => ?_)
  · obtain ⟨a, k, rfl, _⟩ := h
    rfl
  · obtain ⟨a, k, rfl, ⟨dx, t0, ea, et⟩, q⟩ := h
    refine ⟨_, pss_cons (ps_if (pt_cmpR op_eq (pv 1) pe_str (nomark _)) (pss_one (ps_ret (pe_tup (pa_cons (pe_fld (pv 0) (by rfl)) (pa_cons (pe_fld (pv 0) (by rfl)) pa_nil))))) pss_nil)
      (pss_cons (ps_if (pt_cmpR op_eq (pv 1) pe_str (nomark _)) (pss_one (ps_ret (pe_tup (pa_cons (pe_fld (pv 0) (by rfl)) (pa_cons (pe_fld (pv 0) (by rfl)) pa_nil))))) pss_nil)
      (pss_cons (ps_if (pt_cmpR op_eq (pv 1) pe_str (nomark _)) (pss_one (ps_ret (pe_tup (pa_cons (pe_fld (pv 0) (by rfl)) (pa_cons (pe_fld (pv 0) (by rfl)) pa_nil))))) pss_nil)
      (pss_one (ps_ret (pe_ifExp (pt_cmpR op_eq (pv 1) pe_str (nomark _)) (pe_tup (pa_cons (pe_fld (pv 0) (by rfl)) pa_nil)) (pe_tup pa_nil)))))), ?_⟩
    have fld : ∀ (g : Str) (v : V), g ∈ fAll → (k.flds t0).lookup g = some v → (tFld K (tVar 0) g) (L2.start ["_law_made_here", "_law_sort"] [.ref a, .str k.wd]) H (fun x H' => x = v ∧ H' = H) := fun g v hg hl => ⟨.ref a, rfl, a, A k.ix, dx, _, v, rfl, ea, S.c _ k.ix_lt, S.no _ k.ix_lt _ hg, hl, rfl, rfl⟩
    cases k with
    | put n i =>
      refine ⟨.str "put", rfl, rfl, true, rfl, iteT ⟨.ref a, rfl, a, A 0, dx, _, .str n, rfl, ea, S.c 0 (by decide), S.no 0 (by decide) _ (by simp), rfl, .ref a, rfl, a, A 0, dx, _, .int i, rfl, ea, S.c 0 (by decide), S.no 0 (by decide) _ (by simp), rfl, by show 2 ≤ sizeLine; decide, fun t ht => q t _ (same_new ht) upd_same⟩⟩
    | copy n m =>
      refine ⟨.str "copy", rfl, rfl, false, rfl, iteF ⟨.str "copy", rfl, rfl, true, rfl, iteT ⟨.ref a, rfl, a, A 1, dx, _, .str n, rfl, ea, S.c 1 (by decide), S.no 1 (by decide) _ (by simp), rfl, .ref a, rfl, a, A 1, dx, _, .str m, rfl, ea, S.c 1 (by decide), S.no 1 (by decide) _ (by simp), rfl, by show 2 ≤ sizeLine; decide, fun t ht => q t _ (same_new ht) upd_same⟩⟩⟩
    | say n m =>
      refine ⟨.str "say", rfl, rfl, false, rfl, iteF ⟨.str "say", rfl, rfl, false, rfl, iteF ⟨.str "say", rfl, rfl, true, rfl, iteT ⟨.ref a, rfl, a, A 2, dx, _, .str n, rfl, ea, S.c 2 (by decide), S.no 2 (by decide) _ (by simp), rfl, .ref a, rfl, a, A 2, dx, _, .str m, rfl, ea, S.c 2 (by decide), S.no 2 (by decide) _ (by simp), rfl, by show 2 ≤ sizeLine; decide, fun t ht => q t _ (same_new ht) upd_same⟩⟩⟩⟩
    | fail n =>
      refine ⟨.str "fail", rfl, rfl, false, rfl, iteF ⟨.str "fail", rfl, rfl, false, rfl, iteF ⟨.str "fail", rfl, rfl, false, rfl, iteF ⟨.str "fail", rfl, rfl, true, rfl, iteT ⟨.ref a, rfl, a, A 3, dx, _, .str n, rfl, ea, S.c 3 (by decide), S.no 3 (by decide) _ (by simp), rfl, by show 1 ≤ sizeLine; decide, fun t ht => q t _ (same_new ht) upd_same⟩⟩⟩⟩⟩
    | lv =>
      refine ⟨.str "none", rfl, rfl, false, rfl, iteF ⟨.str "none", rfl, rfl, false, rfl, iteF ⟨.str "none", rfl, rfl, false, rfl, iteF ⟨.str "none", rfl, rfl, false, rfl, iteF ⟨by show 0 ≤ sizeLine; decide, fun t ht => q t _ (same_new ht) upd_same⟩⟩⟩⟩⟩
    | st =>
      refine ⟨.str "stop", rfl, rfl, false, rfl, iteF ⟨.str "stop", rfl, rfl, false, rfl, iteF ⟨.str "stop", rfl, rfl, false, rfl, iteF ⟨.str "stop", rfl, rfl, false, rfl, iteF ⟨by show 0 ≤ sizeLine; decide, fun t ht => q t _ (same_new ht) upd_same⟩⟩⟩⟩⟩
end
end My
namespace My
open PySem PySem.Spec PyProof.Rows L2
/-- (b=.., a=..) in the parameters' order -/
abbrev gBA {α : Type} (us ws : List α) : List α := us ++ (ws.drop 1 ++ ws.take 1)
structure MkD0 (P : Program) (w : World) (K : PySem.W.Frag) (mg : Str → Option Value) (base : Heap) (A : Nat → Addr) (j : Nat) (f : Addr) (d : FuncData) : Prop where
  M : Mk K (A j) f
  b : Binds K d ["self"] []
  G : FnOk P w K mg base CX0 1 f d ["self"] (spI A j)
structure MkA (P : Program) (w : World) (K : PySem.W.Frag) (mg : Str → Option Value) (base : Heap) (A : Nat → Addr) (fi : Nat → Addr) (di : Nat → FuncData) : Prop where
  p : MkD P w K mg base A 0 ["self", "cell", "value"] (fi 0) (di 0)
  c : MkD P w K mg base A 1 ["self", "cell", "other"] (fi 1) (di 1)
  y : MkD P w K mg base A 2 ["self", "log", "word"] (fi 2) (di 2)
  f : MkD P w K mg base A 3 ["self", "name"] (fi 3) (di 3)
  l : MkD0 P w K mg base A 4 (fi 4) (di 4)
  s : MkD0 P w K mg base A 5 (fi 5) (di 5)
  kp : ∃ gk, KBn K (di 0) ["self", "cell", "value"] 1 ["value", "cell"] gk gBA
  kc : ∃ gk, KBn K (di 1) ["self", "cell", "other"] 1 ["other", "cell"] gk gBA
  ky : ∃ gk, KBn K (di 2) ["self", "log", "word"] 1 ["word", "log"] gk gBA
  kf : ∃ gk, KBn K (di 3) ["self", "name"] 1 ["name"] gk (· ++ ·)
section
variable {P : Program} {w : World} {K : PySem.W.Frag} {mg : Str → Option Value} {base : Heap} {A : Nat → Addr} {fI : Nat → Addr} {dI : Nat → FuncData}
theorem done_at {H : Hp} {x dx : Addr} {k : DK} {j : Nat} {Q : Addr → Hp → Prop} (hk : k.ix = j) (mk : k ∈ rows) (q : ∀ a H', H a = none → Same' H H' → IsD A H' a k → Q a H') (hx : H x = none) (hdx : H dx = none) :
    spI A j (.ref x :: k.args) (upd (upd H dx (.own x)) x (.ins (A j) dx [])) (fun v H2 => v = .non ∧ Q x H2) E0 :=
  ⟨x, dx, k, hk, rfl, upd_same, (rows_ok k mk).1, fun H' k1 e1 => ⟨rfl, q x H' hx (made_same hx hdx k1) e1⟩⟩
theorem scMade : FnScope ["_law_plain_here"] ["_law_plain_here"] (defScope sMade) := ⟨rfl, rfl, rfl, by decide +kernel, rfl, by decide +kernel, by decide +kernel⟩
theorem ok_made {f : Addr} {fd : FuncData} (F : Fun K "_law_made" "_law_made" sMade f fd) (S : Dd K mg A) (M : MkA P w K mg base A fI dI) : FnOk P w K mg base CX0 6 f fd ["_law_plain_here"] (spMade A) := by
  refine F.ok scMade (fun vs H Q E h => ?_) (fun cdv A0 outer s H vs Q E hr h => ?_)
  · obtain ⟨t, k, rfl, _⟩ := h
    rfl
  · obtain ⟨t, k, rfl, mk, et, q⟩ := h
    refine ⟨_, pss_cons (ps_if (pt_cmpR op_eq (pe_ix ix_tup (pv 0) pe_int (fun _ _ => rfl)) pe_str (nomark _)) (pss_one (ps_ret (pe_make (E := E0) M.p.M M.p.G hr (by rfl) (S.g 0 (by decide)) M.p.b .nil pass0 (pa_cons (pe_ix ix_tup (pv 0) pe_int (fun _ _ => rfl)) (pa_cons (pe_ix ix_tup (pv 0) pe_int (fun _ _ => rfl)) pa_nil))))) pss_nil)
      (pss_cons (ps_if (pt_cmpR op_eq (pe_ix ix_tup (pv 0) pe_int (fun _ _ => rfl)) pe_str (nomark _)) (pss_one (ps_ret (pe_make (E := E0) M.c.M M.c.G hr (by rfl) (S.g 1 (by decide)) M.c.b .nil pass0 (pa_cons (pe_ix ix_tup (pv 0) pe_int (fun _ _ => rfl)) (pa_cons (pe_ix ix_tup (pv 0) pe_int (fun _ _ => rfl)) pa_nil))))) pss_nil)
      (pss_cons (ps_if (pt_cmpR op_eq (pe_ix ix_tup (pv 0) pe_int (fun _ _ => rfl)) pe_str (nomark _)) (pss_one (ps_ret (pe_make (E := E0) M.y.M M.y.G hr (by rfl) (S.g 2 (by decide)) M.y.b .nil pass0 (pa_cons (pe_ix ix_tup (pv 0) pe_int (fun _ _ => rfl)) (pa_cons (pe_ix ix_tup (pv 0) pe_int (fun _ _ => rfl)) pa_nil))))) pss_nil)
      (pss_cons (ps_if (pt_cmpR op_eq (pe_ix ix_tup (pv 0) pe_int (fun _ _ => rfl)) pe_str (nomark _)) (pss_one (ps_ret (pe_make (E := E0) M.f.M M.f.G hr (by rfl) (S.g 3 (by decide)) M.f.b .nil pass0 (pa_cons (pe_ix ix_tup (pv 0) pe_int (fun _ _ => rfl)) pa_nil)))) pss_nil)
      (pss_one (ps_ret (pe_ifExp (pt_cmpR op_eq (pe_ix ix_tup (pv 0) pe_int (fun _ _ => rfl)) pe_str (nomark _)) (pe_make0 (E := E0) M.l.M M.l.G (hr.mono (by decide)) (by rfl) (S.g 4 (by decide)) M.l.b .nil pass0) (pe_make0 (E := E0) M.s.M M.s.G (hr.mono (by decide)) (by rfl) (S.g 5 (by decide)) M.s.b .nil pass0))))))), ?_⟩
    have tS := SqT.of (K := K) et
    cases k with
    | put n i =>
      refine ⟨.ref t, rfl, t, _, 0, .str "put", rfl, rfl, tS, rfl, rfl, true, rfl, iteT ?_⟩
      refine ⟨.ref t, rfl, t, _, 1, .str n, rfl, rfl, tS, rfl, .ref t, rfl, t, _, 2, .int i, rfl, rfl, tS, rfl, fun x dx hx hdx _ => done_at (k := .put n i) rfl mk q hx hdx⟩
    | copy n m =>
      refine ⟨.ref t, rfl, t, _, 0, .str "copy", rfl, rfl, tS, rfl, rfl, false, rfl, iteF ?_⟩
      refine ⟨.ref t, rfl, t, _, 0, .str "copy", rfl, rfl, tS, rfl, rfl, true, rfl, iteT ?_⟩
      refine ⟨.ref t, rfl, t, _, 1, .str n, rfl, rfl, tS, rfl, .ref t, rfl, t, _, 2, .str m, rfl, rfl, tS, rfl, fun x dx hx hdx _ => done_at (k := .copy n m) rfl mk q hx hdx⟩
    | say n m =>
      refine ⟨.ref t, rfl, t, _, 0, .str "say", rfl, rfl, tS, rfl, rfl, false, rfl, iteF ?_⟩
      refine ⟨.ref t, rfl, t, _, 0, .str "say", rfl, rfl, tS, rfl, rfl, false, rfl, iteF ?_⟩
      refine ⟨.ref t, rfl, t, _, 0, .str "say", rfl, rfl, tS, rfl, rfl, true, rfl, iteT ?_⟩
      refine ⟨.ref t, rfl, t, _, 1, .str n, rfl, rfl, tS, rfl, .ref t, rfl, t, _, 2, .str m, rfl, rfl, tS, rfl, fun x dx hx hdx _ => done_at (k := .say n m) rfl mk q hx hdx⟩
    | fail n =>
      refine ⟨.ref t, rfl, t, _, 0, .str "fail", rfl, rfl, tS, rfl, rfl, false, rfl, iteF ?_⟩
      refine ⟨.ref t, rfl, t, _, 0, .str "fail", rfl, rfl, tS, rfl, rfl, false, rfl, iteF ?_⟩
      refine ⟨.ref t, rfl, t, _, 0, .str "fail", rfl, rfl, tS, rfl, rfl, false, rfl, iteF ?_⟩
      refine ⟨.ref t, rfl, t, _, 0, .str "fail", rfl, rfl, tS, rfl, rfl, true, rfl, iteT ?_⟩
      refine ⟨.ref t, rfl, t, _, 1, .str n, rfl, rfl, tS, rfl, fun x dx hx hdx _ => done_at (k := .fail n) rfl mk q hx hdx⟩
    | lv =>
      refine ⟨.ref t, rfl, t, _, 0, .str "none", rfl, rfl, tS, rfl, rfl, false, rfl, iteF ?_⟩
      refine ⟨.ref t, rfl, t, _, 0, .str "none", rfl, rfl, tS, rfl, rfl, false, rfl, iteF ?_⟩
      refine ⟨.ref t, rfl, t, _, 0, .str "none", rfl, rfl, tS, rfl, rfl, false, rfl, iteF ?_⟩
      refine ⟨.ref t, rfl, t, _, 0, .str "none", rfl, rfl, tS, rfl, rfl, false, rfl, iteF ?_⟩
      refine ⟨.ref t, rfl, t, _, 0, .str "none", rfl, rfl, tS, rfl, rfl, true, rfl, iteT fun x dx hx hdx _ => done_at (k := .lv) rfl mk q hx hdx⟩
    | st =>
      refine ⟨.ref t, rfl, t, _, 0, .str "stop", rfl, rfl, tS, rfl, rfl, false, rfl, iteF ?_⟩
      refine ⟨.ref t, rfl, t, _, 0, .str "stop", rfl, rfl, tS, rfl, rfl, false, rfl, iteF ?_⟩
      refine ⟨.ref t, rfl, t, _, 0, .str "stop", rfl, rfl, tS, rfl, rfl, false, rfl, iteF ?_⟩
      refine ⟨.ref t, rfl, t, _, 0, .str "stop", rfl, rfl, tS, rfl, rfl, false, rfl, iteF ?_⟩
      refine ⟨.ref t, rfl, t, _, 0, .str "stop", rfl, rfl, tS, rfl, rfl, false, rfl, iteF fun x dx hx hdx _ => done_at (k := .st) rfl mk q hx hdx⟩
theorem scNamed : FnScope ["_law_plain_here"] ["_law_plain_here"] (defScope sNamed) := ⟨rfl, rfl, rfl, by decide +kernel, rfl, by decide +kernel, by decide +kernel⟩
theorem ok_named {f fM : Addr} {fd dM : FuncData} (F : Fun K "_law_named" "_law_named" sNamed f fd) (S : Dd K mg A) (M : MkA P w K mg base A fI dI) (FM : Fun K "_law_made" "_law_made" sMade fM dM) (bM : Binds K dM ["_law_plain_here"] []) (gM : mg "_law_made" = some (.ref fM)) (GM : FnOk P w K mg base CX0 6 fM dM ["_law_plain_here"] (spMade A)) :
    FnOk P w K mg base CX0 7 f fd ["_law_plain_here"] (spMade A) := by
  refine F.ok scNamed (fun vs H Q E h => ?_) (fun cdv A0 outer s H vs Q E hr h => ?_)
  · obtain ⟨t, k, rfl, _⟩ := h
    rfl
  · obtain ⟨t, k, rfl, mk, et, q⟩ := h
    obtain ⟨g0, kp⟩ := M.kp
    obtain ⟨g1, kc⟩ := M.kc
    obtain ⟨g2, ky⟩ := M.ky
    obtain ⟨g3, kf⟩ := M.kf
    refine ⟨_, pss_cons (ps_if (pt_cmpR op_eq (pe_ix ix_tup (pv 0) pe_int (fun _ _ => rfl)) pe_str (nomark _)) (pss_one (ps_ret (pe_makeK0 (ks := ["value", "cell"]) (E := E0) M.p.M M.p.G (hr.mono (by decide)) (by rfl) (S.g 0 (by decide)) kp pass0 (pk_cons (pe_ix ix_tup (pv 0) pe_int (fun _ _ => rfl)) (pk_cons (pe_ix ix_tup (pv 0) pe_int (fun _ _ => rfl)) pk_nil))))) pss_nil)
      (pss_cons (ps_if (pt_cmpR op_eq (pe_ix ix_tup (pv 0) pe_int (fun _ _ => rfl)) pe_str (nomark _)) (pss_one (ps_ret (pe_makeK0 (ks := ["other", "cell"]) (E := E0) M.c.M M.c.G (hr.mono (by decide)) (by rfl) (S.g 1 (by decide)) kc pass0 (pk_cons (pe_ix ix_tup (pv 0) pe_int (fun _ _ => rfl)) (pk_cons (pe_ix ix_tup (pv 0) pe_int (fun _ _ => rfl)) pk_nil))))) pss_nil)
      (pss_cons (ps_if (pt_cmpR op_eq (pe_ix ix_tup (pv 0) pe_int (fun _ _ => rfl)) pe_str (nomark _)) (pss_one (ps_ret (pe_makeK0 (ks := ["word", "log"]) (E := E0) M.y.M M.y.G (hr.mono (by decide)) (by rfl) (S.g 2 (by decide)) ky pass0 (pk_cons (pe_ix ix_tup (pv 0) pe_int (fun _ _ => rfl)) (pk_cons (pe_ix ix_tup (pv 0) pe_int (fun _ _ => rfl)) pk_nil))))) pss_nil)
      (pss_one (ps_ret (pe_ifExp (pt_cmpR op_eq (pe_ix ix_tup (pv 0) pe_int (fun _ _ => rfl)) pe_str (nomark _)) (pe_makeK0 (ks := ["name"]) (E := E0) M.f.M M.f.G (hr.mono (by decide)) (by rfl) (S.g 3 (by decide)) kf pass0 (pk_cons (pe_ix ix_tup (pv 0) pe_int (fun _ _ => rfl)) pk_nil))
        (pe_call GM hr (by rfl) gM FM.kp bM .nil pass0 (pa_cons (pv 0) pa_nil))))))), ?_⟩
    have tS := SqT.of (K := K) et
    cases k with
    | put n i =>
      refine ⟨.ref t, rfl, t, _, 0, .str "put", rfl, rfl, tS, rfl, rfl, true, rfl, iteT ?_⟩
      refine ⟨.ref t, rfl, t, _, 2, .int i, rfl, rfl, tS, rfl, .ref t, rfl, t, _, 1, .str n, rfl, rfl, tS, rfl, rfl, rfl, fun x dx hx hdx _ => done_at (k := .put n i) rfl mk q hx hdx⟩
    | copy n m =>
      refine ⟨.ref t, rfl, t, _, 0, .str "copy", rfl, rfl, tS, rfl, rfl, false, rfl, iteF ?_⟩
      refine ⟨.ref t, rfl, t, _, 0, .str "copy", rfl, rfl, tS, rfl, rfl, true, rfl, iteT ?_⟩
      refine ⟨.ref t, rfl, t, _, 2, .str m, rfl, rfl, tS, rfl, .ref t, rfl, t, _, 1, .str n, rfl, rfl, tS, rfl, rfl, rfl, fun x dx hx hdx _ => done_at (k := .copy n m) rfl mk q hx hdx⟩
    | say n m =>
      refine ⟨.ref t, rfl, t, _, 0, .str "say", rfl, rfl, tS, rfl, rfl, false, rfl, iteF ?_⟩
      refine ⟨.ref t, rfl, t, _, 0, .str "say", rfl, rfl, tS, rfl, rfl, false, rfl, iteF ?_⟩
      refine ⟨.ref t, rfl, t, _, 0, .str "say", rfl, rfl, tS, rfl, rfl, true, rfl, iteT ?_⟩
      refine ⟨.ref t, rfl, t, _, 2, .str m, rfl, rfl, tS, rfl, .ref t, rfl, t, _, 1, .str n, rfl, rfl, tS, rfl, rfl, rfl, fun x dx hx hdx _ => done_at (k := .say n m) rfl mk q hx hdx⟩
    | fail n =>
      refine ⟨.ref t, rfl, t, _, 0, .str "fail", rfl, rfl, tS, rfl, rfl, false, rfl, iteF ?_⟩
      refine ⟨.ref t, rfl, t, _, 0, .str "fail", rfl, rfl, tS, rfl, rfl, false, rfl, iteF ?_⟩
      refine ⟨.ref t, rfl, t, _, 0, .str "fail", rfl, rfl, tS, rfl, rfl, false, rfl, iteF ?_⟩
      refine ⟨.ref t, rfl, t, _, 0, .str "fail", rfl, rfl, tS, rfl, rfl, true, rfl, iteT ?_⟩
      refine ⟨.ref t, rfl, t, _, 1, .str n, rfl, rfl, tS, rfl, rfl, rfl, fun x dx hx hdx _ => done_at (k := .fail n) rfl mk q hx hdx⟩
    | lv =>
      refine ⟨.ref t, rfl, t, _, 0, .str "none", rfl, rfl, tS, rfl, rfl, false, rfl, iteF ?_⟩
      refine ⟨.ref t, rfl, t, _, 0, .str "none", rfl, rfl, tS, rfl, rfl, false, rfl, iteF ?_⟩
      refine ⟨.ref t, rfl, t, _, 0, .str "none", rfl, rfl, tS, rfl, rfl, false, rfl, iteF ?_⟩
      refine ⟨.ref t, rfl, t, _, 0, .str "none", rfl, rfl, tS, rfl, rfl, false, rfl, iteF ⟨.ref t, rfl, t, .lv, rfl, mk, et, q⟩⟩
    | st =>
      refine ⟨.ref t, rfl, t, _, 0, .str "stop", rfl, rfl, tS, rfl, rfl, false, rfl, iteF ?_⟩
      refine ⟨.ref t, rfl, t, _, 0, .str "stop", rfl, rfl, tS, rfl, rfl, false, rfl, iteF ?_⟩
      refine ⟨.ref t, rfl, t, _, 0, .str "stop", rfl, rfl, tS, rfl, rfl, false, rfl, iteF ?_⟩
      refine ⟨.ref t, rfl, t, _, 0, .str "stop", rfl, rfl, tS, rfl, rfl, false, rfl, iteF ⟨.ref t, rfl, t, .st, rfl, mk, et, q⟩⟩
end
end My
/-! x != y, two lists whose items are equal (own == included): False -/
namespace MyL
open PySem PySem.SeqAt
open AutoSeq1 (wpAny_loadPart')
open MeetsSeq MeetsSeq2 MeetsSeq3 SeqRoads2
section
variable {prog : Program} {w : World} {A : Around} {R : Result → Shared → Prop}
theorem ne_turns (p q : Addr) (m : Nat) (I : Nat → Shared → Prop) (laid : GQ.ListI prog w A (fun e s' => R (.error e) s') p q m I) (stop : ∀ s, I m s → R (.ok (.ret (.bool false))) s) (left : Nat) :
    ∀ j : Nat, m - j = left → j ≤ m → ∀ s, I j s → wpAny (model prog w) A.in1 (Builtin.«list.__eq__.loop» ⟨[.ref p, .ref q, rawInt j, rawInt 3], []⟩) (GQ.FinOf prog w A R) (fun e s' => R (.error e) s') s := by
  induction left with
  | zero =>
    intro j hj le s h
    obtain ⟨us, vs, c, c2, pl, ql, zu, zv, _⟩ := laid _ _ h
    obtain rfl : j = m := by omega
    have out : R (.ok (.ret (.bool false))) s := stop s h
    obtain ⟨hh, gg, dd, tt, oo⟩ := s
    wp_walk using wpAny_loadPart' pl, wpAny_loadPart' ql
    have n1 : us[((j : Nat) : Int).toNat]? = none := by simp; omega
    have n2 : vs[((j : Nat) : Int).toNat]? = none := by simp; omega
    rw [n1, n2]
    wp_walk using wpAny_loadPart' pl, wpAny_loadPart' ql
    show R (.ok (.ret (.bool (us.size != vs.size)))) _
    rw [zu, zv]
    simpa using out
  | succ left ih =>
    intro j hj le s h
    obtain ⟨us, vs, c, c2, pl, ql, zu, zv, one⟩ := laid _ _ h
    have lu : j < us.size := by omega
    have lv : j < vs.size := by omega
    have step := one lu lv
    obtain ⟨hh, gg, dd, tt, oo⟩ := s
    wp_walk using wpAny_loadPart' pl, wpAny_loadPart' ql
    have n1 : us[((j : Nat) : Int).toNat]? = some us[j] := by simp [lu]
    have n2 : vs[((j : Nat) : Int).toNat]? = some vs[j] := by simp [lv]
    have up : ((j : Int) + 1) = ((j + 1 : Nat) : Int) := by omega
    rw [n1, n2]
    refine wpAny_bind (wpAny_mono step (fun r s2 z => ?_) fun _ _ x => x)
    obtain ⟨rfl, z⟩ := z
    have next := ih (j + 1) (by omega) (by omega) s2 z
    obtain ⟨hh2, gg2, dd2, tt2, oo2⟩ := s2
    wp_walk
    rw [up]
    refine ⟨plainId_quiet plain_eq_loop _, codeAny_builtin entry_eq_loop ?_⟩
    rw [Around.under_plainId plain_eq_loop _]
    exact next
theorem ne_all (p q : Addr) (m : Nat) (I : Nat → Shared → Prop) (laid : GQ.ListI prog w A (fun e s' => R (.error e) s') p q m I) (stop : ∀ s, I m s → R (.ok (.ret (.bool false))) s) {s : Shared} (h : I 0 s) :
    wpAny (model prog w) A.in1 (Builtin.«list.__ne__» ⟨[.ref p, .ref q], []⟩) (GQ.FinOf prog w A R) (fun e s' => R (.error e) s') s := by
  obtain ⟨us, vs, c, c2, pl, ql, zu, zv, _⟩ := laid _ _ h
  have run := ne_turns (A := A) (R := R) p q m I laid stop _ 0 rfl (Nat.zero_le _) s h
  obtain ⟨hh, gg, dd, tt, oo⟩ := s
  have below := AutoSeq1.sub_list_list
  have alike : ¬ (us.size != vs.size) = true := by simp [zu, zv]
  wp_walk using wpAny_loadPart' pl, wpAny_loadPart' ql
  refine ⟨plainId_quiet plain_eq_loop _, codeAny_builtin entry_eq_loop ?_⟩
  rw [Around.under_plainId plain_eq_loop _]
  exact run
end
section
variable {prog : Program} {w : World} {A : Around} {E : Value → Shared → Prop} {s : Shared}
theorem rc_ne {p q : Addr} {m : Nat} {Q : Value → Shared → Prop} (hu : A.units < cLine) (I : Nat → Shared → Prop) (laid : GQ.ListI prog w A E p q m I) (stop : ∀ s, I m s → Q (.bool false) s) (h : I 0 s) :
    wpAny (model prog w) A (richCompare .NotEq (.ref p) (.ref q)) Q E s := by
  obtain ⟨us, vs, c, c2, pl, ql, _, _, _⟩ := laid _ _ h
  refine wpAny_richCompare_same_room (op := .NotEq) ⟨_, pl, rfl⟩ ⟨_, ql, rfl⟩ F.slot_list_ne (GQ.call_here F.slot_list_ne ⟨_, pl, rfl⟩ F.entry_list_ne (F.args_list_ne_2 _ _) ?_) hu
  exact ne_all (R := wants (fun v s' => v ≠ .notImplemented ∧ Q v s') E) p q m I laid (fun s' z => ⟨(fun x => nomatch x), stop s' z⟩) h
end
end MyL
namespace My
open PySem PySem.Spec PyProof.Rows L2
def rNeGL (D : Eqv) : R2 := fun x y H Q => D x y H ∧ ∀ H', Ext H H' → Q (.bl false) H'
theorem op_neLst {X : Cx} {n : Nat} {D : Eqv} (hD : Mon D) (h : EqG X n D) (hr : Room (n + 1) X.A) : OpR X (compareOp .NotEq) (rNeGL (DList D)) := by
  intro pins s σ H x y u v Q I rx ry hq
  obtain ⟨d, q⟩ := hq
  have sb : Sub X (n + 1) X.A := ⟨hr, rfl⟩
  obtain ⟨a, b, xs, ys, rfl, rfl, ha, hb, pr⟩ := d
  cases rx
  cases ry
  show wpAny (model X.prog X.w) X.A (richCompare .NotEq (.ref a) (.ref b)) (EP X pins σ Q) X.xe s
  refine MyL.rc_ne (m := xs.length) sb.room.units0 (fun _ s' => LoopI X pins σ H s') (fun i s' l => ?_) (fun s' l => ?_) ⟨H, I, Ext.rfl'⟩
  · obtain ⟨H1, I1, ex⟩ := id l
    obtain ⟨z, its, k, r, e⟩ := I1.hok a _ (ex _ _ ha)
    obtain ⟨z2, its2, k2, r2, e2⟩ := I1.hok b _ (ex _ _ hb)
    refine ⟨its.toArray, its2.toArray, k, k2, e, e2, by rw [List.size_toArray, ← r.length], by rw [List.size_toArray, ← r2.length, ← pr.1], fun h1 h2 => ?_⟩
    exact turnG hD h sb pr r r2 i h1 h2 s' l
  · obtain ⟨H', I', ex⟩ := l
    exact ⟨.bl false, H', I', rfl, q H' ex⟩
end My
/-! a list beside the empty one: != and == -/
namespace MyN
open PySem PySem.SeqAt
open AutoSeq1 (wpAny_loadPart')
open MeetsSeq MeetsSeq2 MeetsSeq3 SeqRoads2
section
variable {prog : Program} {w : World} {A : Around} {R : Result → Shared → Prop} {s : Shared}
theorem ne_nil {p q : Addr} {us : Array Value} {n m : Nat} (hp : s.heap.get? p = some { cls := .type "list", dict := none, data := .seq us n, slots := #[] }) (hq : s.heap.get? q = some { cls := .type "list", dict := none, data := .seq #[] m, slots := #[] })
    (h : R (.ok (.ret (.bool (!us.isEmpty)))) s) : wpAny (model prog w) A.in1 (Builtin.«list.__ne__» ⟨[.ref p, .ref q], []⟩) (GQ.FinOf prog w A R) (fun e s' => R (.error e) s') s := by
  obtain ⟨hh, gg, dd, tt, oo⟩ := s
  have below := AutoSeq1.sub_list_list
  by_cases hz : us.size = 0
  · have alike : ¬ (us.size != (#[] : Array Value).size) = true := by simp [hz]
    wp_walk using wpAny_loadPart' hp, wpAny_loadPart' hq
    refine ⟨plainId_quiet plain_eq_loop _, codeAny_builtin entry_eq_loop ?_⟩
    rw [Around.under_plainId plain_eq_loop _]
    wp_walk using wpAny_loadPart' hp, wpAny_loadPart' hq
    have e : us = #[] := Array.eq_empty_of_size_eq_zero hz
    subst e
    wp_walk using wpAny_loadPart' hp, wpAny_loadPart' hq
    have h2 := h
    simp only [Array.isEmpty_empty, Bool.not_true] at h2
    exact h2
  · have alike : (us.size != (#[] : Array Value).size) = true := by simp [hz]
    wp_walk using wpAny_loadPart' hp, wpAny_loadPart' hq
    have e : (!us.isEmpty) = true := by simp [Array.isEmpty, hz]
    rw [e] at h
    exact h
theorem eq_nil {p q : Addr} {us : Array Value} {n m : Nat} (hp : s.heap.get? p = some { cls := .type "list", dict := none, data := .seq us n, slots := #[] }) (hq : s.heap.get? q = some { cls := .type "list", dict := none, data := .seq #[] m, slots := #[] })
    (h : R (.ok (.ret (.bool us.isEmpty))) s) : wpAny (model prog w) A.in1 (Builtin.«list.__eq__» ⟨[.ref p, .ref q], []⟩) (GQ.FinOf prog w A R) (fun e s' => R (.error e) s') s := by
  obtain ⟨hh, gg, dd, tt, oo⟩ := s
  have below := AutoSeq1.sub_list_list
  by_cases hz : us.size = 0
  · have alike : ¬ (us.size != (#[] : Array Value).size) = true := by simp [hz]
    wp_walk using wpAny_loadPart' hp, wpAny_loadPart' hq
    refine ⟨plainId_quiet plain_eq_loop _, codeAny_builtin entry_eq_loop ?_⟩
    rw [Around.under_plainId plain_eq_loop _]
    wp_walk using wpAny_loadPart' hp, wpAny_loadPart' hq
    have e : us = #[] := Array.eq_empty_of_size_eq_zero hz
    subst e
    wp_walk using wpAny_loadPart' hp, wpAny_loadPart' hq
    have h2 := h
    simp only [Array.isEmpty_empty, Bool.not_true] at h2
    exact h2
  · have alike : (us.size != (#[] : Array Value).size) = true := by simp [hz]
    wp_walk using wpAny_loadPart' hp, wpAny_loadPart' hq
    have e : us.isEmpty = false := by simp [Array.isEmpty, hz]
    rw [e] at h
    exact h
end
end MyN
namespace My
open PySem PySem.Spec PyProof.Rows L2
section
variable {X : Cx}
def rNil (f : Bool → Bool) : R2 := fun x y H Q => ∃ (a b : Addr) (xs : List V), x = .ref a ∧ y = .ref b ∧ H a = some (.lst xs) ∧ H b = some (.lst []) ∧ Q (.bl (f xs.isEmpty)) H
theorem vals_empty {xs : List V} {its : List Value} (r : Vals xs its) : its.toArray.isEmpty = xs.isEmpty := by
  cases r <;> rfl
theorem op_neNil (hu : X.A.units < cLine) : OpR X (compareOp .NotEq) (rNil not) := by
  intro pins s σ H x y v u Q I rx ry h
  obtain ⟨a, b, xs, rfl, rfl, ha, hb, q⟩ := h
  obtain rfl : v = Value.ref a := rx
  obtain rfl : u = Value.ref b := ry
  obtain ⟨_, its, n, r, e⟩ := I.hok a _ ha
  obtain ⟨_, its2, n2, r2, e2⟩ := I.hok b _ hb
  cases r2
  show wpAny (model X.prog X.w) X.A (richCompare .NotEq (.ref a) (.ref b)) (EP X pins σ Q) X.xe s
  refine wpAny_richCompare_same_room (op := .NotEq) ⟨_, e, rfl⟩ ⟨_, e2, rfl⟩ F.slot_list_ne (GQ.call_here F.slot_list_ne ⟨_, e, rfl⟩ F.entry_list_ne (F.args_list_ne_2 _ _) ?_) hu
  refine MyN.ne_nil (R := wants (fun v s' => v ≠ .notImplemented ∧ EP X pins σ Q v s') X.xe) e e2 ⟨(fun x => nomatch x), .bl (!xs.isEmpty), H, I, ?_, q⟩
  rw [vals_empty r]
  rfl
theorem op_eqNil (hu : X.A.units < cLine) : OpR X (compareOp .Eq) (rNil id) := by
  intro pins s σ H x y v u Q I rx ry h
  obtain ⟨a, b, xs, rfl, rfl, ha, hb, q⟩ := h
  obtain rfl : v = Value.ref a := rx
  obtain rfl : u = Value.ref b := ry
  obtain ⟨_, its, n, r, e⟩ := I.hok a _ ha
  obtain ⟨_, its2, n2, r2, e2⟩ := I.hok b _ hb
  cases r2
  show wpAny (model X.prog X.w) X.A (richCompare .Eq (.ref a) (.ref b)) (EP X pins σ Q) X.xe s
  refine wpAny_richCompare_same_room (op := .Eq) ⟨_, e, rfl⟩ ⟨_, e2, rfl⟩ F.slot_list_eq (GQ.call_here F.slot_list_eq ⟨_, e, rfl⟩ F.entry_list_eq (F.args_list_eq_2 _ _) ?_) hu
  refine MyN.eq_nil (R := wants (fun v s' => v ≠ .notImplemented ∧ EP X pins σ Q v s') X.xe) e e2 ⟨(fun x => nomatch x), .bl xs.isEmpty, H, I, ?_, q⟩
  rw [vals_empty r]
  rfl
end
end My
namespace My
open PySem PySem.Spec PyProof.Rows L2
def facesI (i : Nat) : List Bool := [true, true, false, decide (i = 0), decide (i = 1), decide (i = 2), decide (i = 3), decide (i = 4)]
def wdI : Nat → Str
  | 0 => "put"
  | 1 => "copy"
  | 2 => "say"
  | 3 => "fail"
  | 4 => "none"
  | _ => "stop"
theorem wd_ix (k : DK) : k.wd = wdI k.ix := by cases k <;> rfl
def wds5 : List Str := ["put", "copy", "say", "fail", "none"]
def DK.faces (k : DK) : List Bool := facesI k.ix
def wordsOf (z : Str) : List V := ([V.bl true, V.bl true, V.bl false] : List V) ++ [V.bl (decide (V.str z = V.str "put")), V.bl (decide (V.str z = V.str "copy")), V.bl (decide (V.str z = V.str "say")), V.bl (decide (V.str z = V.str "fail")), V.bl (decide (V.str z = V.str "none"))]
theorem facts6 : ∀ i, i < 6 → wordsOf (wdI i) = (facesI i).map V.bl ∧ SeqAt.shaped (.list ((facesI i).map PyData.bool)) = true ∧ PyData.eqv (.list ((facesI i).map PyData.bool)) (.list ((facesI i).map PyData.bool)) = true ∧ decide (i = 5) = decide (V.str (wdI i) = V.str "stop") := by decide +kernel
theorem face_words (k : DK) : wordsOf k.wd = k.faces.map V.bl := wd_ix k ▸ (facts6 k.ix k.ix_lt).1
theorem face_sh (k : DK) : SeqAt.shaped (.list (k.faces.map PyData.bool)) = true ∧ PyData.eqv (.list (k.faces.map PyData.bool)) (.list (k.faces.map PyData.bool)) = true := ⟨(facts6 k.ix k.ix_lt).2.1, (facts6 k.ix k.ix_lt).2.2.1⟩
theorem dp_bools {K : PySem.W.Frag} {H : Hp} : ∀ bs : List Bool, DpAll K H (bs.map V.bl) (bs.map PyData.bool)
  | [] => .nil
  | b :: r => .cons (.bl b) (dp_bools r)
theorem stop_word (k : DK) : decide (k.ix = 5) = decide (V.str k.wd = V.str "stop") := wd_ix k ▸ (facts6 k.ix k.ix_lt).2.2.2
def fnB (k : DK) : Bool := (PyData.tuple k.argD).showable && decide ((PyData.tuple k.argD).depth ≤ 8) && decide ((PyData.tuple k.argD).shown.length ≤ 1000)
theorem rows_fine : ∀ k ∈ rows, fnB k = true := by decide +kernel
theorem fine_args {k : DK} (h : k ∈ rows) : Fine (.tuple k.argD) := by
  have q := rows_fine k h
  unfold fnB at q
  simp only [Bool.and_eq_true, decide_eq_true_eq] at q
  exact ⟨q.1.1, q.1.2, Nat.le_trans q.2 (by decide)⟩
theorem fls_args (k : DK) : Fls k.args k.argD := by
  cases k with
  | put n i => exact .cons (.str _) (.cons (.int _) .nil)
  | copy a b => exact .cons (.str _) (.cons (.str _) .nil)
  | say a b => exact .cons (.str _) (.cons (.str _) .nil)
  | fail n => exact .cons (.str _) .nil
  | lv => exact .nil
  | st => exact .nil
theorem cut_len : ∀ n : Nat, n < 4 → 1 ≤ n → ¬ (HT.sIx n 0 (some 1) = 0 ∧ HT.sIx n n none = n) := by decide
theorem cut_row (k : DK) : cutV k.row (some 1) none = k.args ∧ ¬ (HT.sIx k.row.length 0 (some 1) = 0 ∧ HT.sIx k.row.length k.row.length none = k.row.length) :=
  ⟨by cases k <;> rfl, cut_len _ (by cases k <;> simp [DK.row, DK.args]) (by cases k <;> simp [DK.row, DK.args])⟩
def spFace : Sp := fun vs H Q _ => ∃ (t : Addr) (k : DK), vs = [.ref t] ∧ k ∈ rows ∧ H t = some (.tup k.row) ∧ ∀ H', Same' H H' → Q (.bl true) H'
abbrev nFace : List Str := ["_law_plain_here", "_law_made_here", "_law_twin", "_law_sort", "_law_found", "_law_title", "_law_odd"]
theorem scFace : FnScope nFace ["_law_plain_here"] (defScope sFace) := ⟨rfl, rfl, rfl, by decide +kernel, rfl, by decide +kernel, by decide +kernel⟩
abbrev XF (P : Program) (w : World) (K : PySem.W.Frag) (mg : Str → Option Value) (base : Heap) (f : Addr) (cdv : Value) (A : Around) (outer : List Env) (s : Shared) (H : Hp) (E : XK) : Cx := cxOf CX0 P w K mg base nFace "_law_face_right" (defScope sFace) f cdv A outer s H E
structure FaceK (P : Program) (w : World) (K : PySem.W.Frag) (mg : Str → Option Value) (base : Heap) (A : Nat → Addr) (CP CD CSi CBl fM fN fPa fTx fP fQ : Addr) (dM dN dPa dTx dQ : FuncData) : Prop where
  T : Txt mg
  S : Dd K mg A
  O : Owns P w K mg base A
  G : PgE P w K mg base A CP fQ dQ
  wd : ∀ k : DK, ∃ u, Con K (A k.ix) "WORD" (.str k.wd) u
  gD : mg "Deed" = some (.ref CD)
  kD : ∀ i, i < 6 → PySem.W.kitOne K (.ref (A i)) (.ref CD) = some true
  gSi : mg "Simple" = some (.ref CSi)
  kSi : ∀ i, i < 6 → PySem.W.kitOne K (.ref (A i)) (.ref CSi) = some true
  gBl : mg "Blocked" = some (.ref CBl)
  kBl : ∀ i, i < 6 → PySem.W.kitOne K (.ref (A i)) (.ref CBl) = some false
  made : FnB P w K mg base 6 "_law_made" sMade fM dM ["_law_plain_here"] (spMade A)
  named : FnB P w K mg base 7 "_law_named" sNamed fN dN ["_law_plain_here"] (spMade A)
  parts : FnB P w K mg base 1 "_law_parts" sParts fPa dPa ["_law_made_here", "_law_sort"] (spParts A)
  text : FnB P w K mg base 1 "_law_text" sText fTx dTx ["_law_plain_here"] spText
  MP : Mk K CP fP
  gP : mg "Program" = some (.ref CP)
  GP : FnR P w K mg base (L2.CX P w) 5 fP (spProg A CP)
/-- a call that might raise, but doesn't -/
theorem passF {X : Cx} : Passes (L2.CX X.prog X.w) X (fun _ _ _ => False) := fun _ _ _ _ _ _ _ h => by
  obtain ⟨_, _, _, _, _, _, _, _, _, _, _, _, z⟩ := h
  exact z.elim
section
variable {P : Program} {w : World} {K : PySem.W.Frag} {mg : Str → Option Value} {base : Heap} {A : Nat → Addr} {CP CD CSi CBl fM fN fPa fTx fP fQ : Addr} {dM dN dPa dTx dQ : FuncData}
theorem ok_face {f : Addr} {fd : FuncData} (F : Fun K "_law_face_right" "_law_face_right" sFace f fd) (Z : FaceK P w K mg base A CP CD CSi CBl fM fN fPa fTx fP fQ dM dN dPa dTx dQ) : FnG P w K mg base CX0 8 f fd ["_law_plain_here"] spFace := by
  refine okG F scFace (fun vs H Q E h => ?_) (fun cdv A0 outer s H vs Q E hr hg h => ?_)
  · obtain ⟨t, k, rfl, _⟩ := h
    rfl
  · obtain ⟨t, k, rfl, mk, et, q⟩ := h
    have hu : (XF P w K mg base f cdv A0 outer s H E).A.units + 64 < cLine := hr.units
    refine ⟨_, pss_cons (ps_asg (pe_tup (pa_cons (pe_call Z.made.G (hr.mono (by decide)) (by rfl) Z.made.g Z.made.F.kp Z.made.b .nil pass0 (pa_cons (pv 0) pa_nil)) (pa_cons (pe_call Z.named.G hr (by rfl) Z.named.g Z.named.F.kp Z.named.b .nil pass0 (pa_cons (pv 0) pa_nil)) (pa_cons (pe_ix ix_tup (pv 0) pe_int (fun _ _ => rfl)) pa_nil)))) (pg_tup (n := 3) rfl (pgs_cons (pg_name (i := 1) scFace.nd rfl (by first | exact .inl rfl | exact .inr rfl)) (pgs_cons (pg_name (i := 2) scFace.nd rfl (by first | exact .inl rfl | exact .inr rfl)) (pgs_cons (pg_name (i := 3) scFace.nd rfl (by first | exact .inl rfl | exact .inr rfl)) pgs_nil)))))
      (pss_cons (ps_if (PW.pt (pw_or (pt_cmpR op_ne (pe_callB (call_reprT hg hu) (by rfl) Z.T.repr (by decide +kernel) (pa_cons (pe_call Z.parts.G (hr.mono (by decide)) (by rfl) Z.parts.g Z.parts.F.kp Z.parts.b .nil pass0 (pa_cons (pv 1) (pa_cons (pv 3) pa_nil))) pa_nil)) (pe_callB (call_reprT hg hu) (by rfl) Z.T.repr (by decide +kernel) (pa_cons (pe_slice sl_tupA (pv 0) (po_some pe_int) po_none) pa_nil)) (nomark _))
          (pw_or (pt_cmpR op_ne (pe_con (pv 1) (by rfl)) (pv 3) (nomark _)) (pw_or1 (pt_cmpR op_ne (pe_callTy (call_strH Z.O (hr.mono (by decide)) hg) (by rfl) Z.T.str (by decide +kernel) (pa_cons (pv 1) pa_nil)) (pe_call Z.text.G (hr.mono (by decide)) (by rfl) Z.text.g Z.text.F.kp Z.text.b .nil pass0 (pa_cons (pv 0) pa_nil)) (nomark _)))))) (pss_one (ps_ret pe_bl)) pss_nil)
      (pss_cons (ps_set (i := 4) scFace.nd rfl (.inl rfl) (pe_lst
        (pa_cons (pe_callB call_isi (by rfl) Z.T.isi (by decide +kernel) (pa_cons (pv 1) (pa_cons (pe_glob (v := .ref CD) rfl Z.gD rfl) pa_nil)))
        (pa_cons (pe_callB call_isi (by rfl) Z.T.isi (by decide +kernel) (pa_cons (pv 1) (pa_cons (pe_glob (v := .ref CSi) rfl Z.gSi rfl) pa_nil)))
        (pa_cons (pe_callB call_isi (by rfl) Z.T.isi (by decide +kernel) (pa_cons (pv 1) (pa_cons (pe_glob (v := .ref CBl) rfl Z.gBl rfl) pa_nil)))
        (pa_cons (pe_callB call_isi (by rfl) Z.T.isi (by decide +kernel) (pa_cons (pv 1) (pa_cons (pe_glob (v := .ref (A 0)) rfl (Z.S.g 0 (by decide)) rfl) pa_nil))) pa_nil))))))
      (pss_cons (ps_set (i := 4) scFace.nd rfl (.inl rfl) (pe_op op_cat (pv 4) (pe_lst
        (pa_cons (pe_callB call_isi (by rfl) Z.T.isi (by decide +kernel) (pa_cons (pv 1) (pa_cons (pe_glob (v := .ref (A 1)) rfl (Z.S.g 1 (by decide)) rfl) pa_nil)))
        (pa_cons (pe_callB call_isi (by rfl) Z.T.isi (by decide +kernel) (pa_cons (pv 1) (pa_cons (pe_glob (v := .ref (A 2)) rfl (Z.S.g 2 (by decide)) rfl) pa_nil)))
        (pa_cons (pe_callB call_isi (by rfl) Z.T.isi (by decide +kernel) (pa_cons (pv 1) (pa_cons (pe_glob (v := .ref (A 3)) rfl (Z.S.g 3 (by decide)) rfl) pa_nil)))
        (pa_cons (pe_callB call_isi (by rfl) Z.T.isi (by decide +kernel) (pa_cons (pv 1) (pa_cons (pe_glob (v := .ref (A 4)) rfl (Z.S.g 4 (by decide)) rfl) pa_nil))) pa_nil)))))))
      (pss_cons (ps_if (pt_cmpR (op_neD hu) (pv 4) (pe_op op_cat (pe_lst (pa_cons pe_bl (pa_cons pe_bl (pa_cons pe_bl pa_nil)))) (pe_lc (own := [("_law_title", 5)]) (g := gName 5) (tt := tYes) rfl scFace.nd (pi_list (pe_lst (pa_cons pe_str (pa_cons pe_str (pa_cons pe_str (pa_cons pe_str (pa_cons pe_str pa_nil))))))) (blkOk_by (N := nFace) (sc := defScope sFace) (by decide +kernel)) (fun _ _ _ _ _ => pg_name (i := 5) scFace.nd rfl (Or.inl rfl)) (fun _ _ _ _ _ => pts_nil) (fun _ _ _ _ _ => pe_cmpR op_eq (pv 3) (pv 5) (nomark _)))) (nomark _)) (pss_one (ps_ret pe_bl)) pss_nil)
      (pss_cons (ps_if (PW.pt (pw_or (pt_cmpR op_ne (pe_callB call_isi (by rfl) Z.T.isi (by decide +kernel) (pa_cons (pv 1) (pa_cons (pe_glob (v := .ref (A 5)) rfl (Z.S.g 5 (by decide)) rfl) pa_nil))) (pe_cmpR op_eq (pv 3) pe_str (nomark _)) (nomark _))
          (pw_or (pt_cmpR (op_neH Z.S Z.O (hr.mono (by decide)) hg) (pv 1) (pv 2) (nomark _)) (pw_or1 (pt_not (pt_cmpR (op_eqH Z.S Z.O (hr.mono (by decide)) hg) (pv 1) (pv 2) (nomark _))))))) (pss_one (ps_ret pe_bl)) pss_nil)
      (pss_one (ps_ret (pe_cmpR (op_eqNil (Nat.lt_of_le_of_lt (Nat.le_add_right _ 64) hu)) (pe_lc (own := [("_law_odd", 6)]) (g := gName 6) rfl scFace.nd (pi_list (pe_lst (pa_cons pe_non (pa_cons pe_int (pa_cons (pv 0) (pa_cons (pe_callTy (call_strH Z.O (hr.mono (by decide)) hg) (by rfl) Z.T.str (by decide +kernel) (pa_cons (pv 1) pa_nil)) (pa_cons (pv 3) (pa_cons (pe_tup (pa_cons (pv 1) pa_nil)) (pa_cons (StX.pe_makeR (E := fun _ _ _ => False) Z.MP Z.GP (hr.mono (by decide)) (by rfl) Z.gP passF (pa_cons (pv 1) pa_nil)) pa_nil))))))))) (blkOk_by (N := nFace) (sc := defScope sFace) (by decide +kernel)) (fun _ _ _ _ _ => pg_name (i := 6) scFace.nd rfl (Or.inl rfl))
        (fun s1 H1 C1 cl1 fp1 => pts_one (pt_cmpR (show OpR _ (compareOp .Eq) (fun x y H Q => Odd A CP H x ∧ ∃ (a : Addr) (k : DK), y = .ref a ∧ IsD A H a k ∧ k ∈ rows ∧ Q (.bl false) H) from op_eqOdd (X := (XF P w K mg base f cdv A0 outer s H E).blk s1 H1 _ (compEnvC _ cl1 C1 (XF P w K mg base f cdv A0 outer s H E).env) fp1) (A := A) Z.S Z.O Z.G (hr.mono (by decide)) hg) (pv 6) (pv 1) (nomark _))) (fun _ _ _ _ _ => pv 6)) (pe_lst pa_nil) (nomark _))))))))), ?_⟩
    have c0 : atI k.row 0 = some (.str k.wd) := by cases k <;> rfl
    refine ⟨.ref t, rfl, t, k, rfl, mk, et, fun a H1 ha s1 d1 => ?_⟩
    refine ⟨.ref t, rfl, t, k, rfl, mk, s1 _ _ et, fun b H2 hb s2 d2 => ?_⟩
    refine ⟨.ref t, rfl, t, _, 0, .str k.wd, rfl, rfl, SqT.of (s2 _ _ (s1 _ _ et)), c0, by simp [sizeLine_eq], fun p hp => ?_⟩
    refine ⟨p, _, rfl, SqT.of upd_same, rfl, ?_⟩
    refine ⟨.ref a, _, rfl, .ref b, _, rfl, .str k.wd, _, rfl, rfl, ?_⟩
    have s3 := s2.trans (same_new (o := .tup [.ref a, .ref b, .str k.wd]) hp)
    have d1 := d1.keep s3
    have d2 := d2.keep (same_new (o := .tup [.ref a, .ref b, .str k.wd]) hp)
    have s3 := s1.trans s3
    generalize upd H2 p (.tup [.ref a, .ref b, .str k.wd]) = H3 at *
    have neS : ∀ x : V, V.bl (!decide (x = x)) = V.bl false := fun x => by simp
    have l3 : k.args.length ≤ 1000 := by cases k <;> simp [DK.args]
    -- what its attributes tell
    refine ⟨.ref a, rfl, .str k.wd, rfl, a, k, rfl, d1, fun u H4 s4 eu => ?_⟩
    refine ⟨.ref u, .tuple k.argD, rfl, .tup eu (fls_args k) l3, fine_args mk, ?_⟩
    refine ⟨.ref t, rfl, 1, rfl, t, k.row, rfl, SqT.of (s4 _ _ (s3 _ _ et)), fun e => absurd e (cut_row k).2, fun _ r hr4 => ?_⟩
    refine ⟨.ref r, .tuple k.argD, rfl, .tup (by rw [upd_same]; exact congrArg some (congrArg HO.tup (cut_row k).1)) (fls_args k) l3, fine_args mk, ?_⟩
    refine ⟨rfl, false, neS _, iteF ?_⟩
    have s5 := s4.trans (same_new (o := .tup (cutV k.row (some 1) none)) hr4)
    generalize upd H4 r (.tup (cutV k.row (some 1) none)) = H5 at *
    have d1 := d1.keep s5
    have d2 := d2.keep s5
    have s5 := s3.trans s5
    -- WORD, str
    obtain ⟨dx, tf, ea, _⟩ := id d1
    obtain ⟨uw, cw⟩ := Z.wd k
    refine ⟨.ref a, rfl, a, A k.ix, dx, _, .str k.wd, uw, rfl, ea, Z.S.c _ k.ix_lt, cw, no_word (k := k) tf, ?_⟩
    refine ⟨.str k.wd, rfl, rfl, false, neS _, iteF ?_⟩
    refine ⟨.ref a, rfl, a, k, rfl, d1, mk, ?_⟩
    refine ⟨.ref t, rfl, t, k, rfl, mk, s5 _ _ et, fun H6 s6 => ?_⟩
    refine ⟨rfl, false, neS _, iteF ?_⟩
    have d1 := d1.keep s6
    have d2 := d2.keep s6
    have s6 := s5.trans s6
    -- of which classes it is
    have ty := Z.S.ty d1
    have kd := fun j (hj : j < 6) => Z.S.kit k.ix j k.ix_lt hj
    refine ⟨.ref a, rfl, .ref a, .ref CD, .ref (A k.ix), .ref CD, true, rfl, .own _, ty, Z.kD _ k.ix_lt, ?_⟩
    refine ⟨.ref a, rfl, .ref a, .ref CSi, .ref (A k.ix), .ref CSi, true, rfl, .own _, ty, Z.kSi _ k.ix_lt, ?_⟩
    refine ⟨.ref a, rfl, .ref a, .ref CBl, .ref (A k.ix), .ref CBl, false, rfl, .own _, ty, Z.kBl _ k.ix_lt, ?_⟩
    refine ⟨.ref a, rfl, .ref a, .ref (A 0), .ref (A k.ix), .ref (A 0), decide (k.ix = 0), rfl, .own _, ty, kd 0 (by decide), ?_⟩
    refine ⟨by simp [sizeLine_eq], fun l hl => ?_⟩
    have s7 := s6.trans (same_new (o := .lst [.bl true, .bl true, .bl false, .bl (decide (k.ix = 0))]) hl)
    have d1 := d1.keep (same_new (o := .lst [.bl true, .bl true, .bl false, .bl (decide (k.ix = 0))]) hl)
    have d2 := d2.keep (same_new (o := .lst [.bl true, .bl true, .bl false, .bl (decide (k.ix = 0))]) hl)
    have el : (upd H6 l (.lst [.bl true, .bl true, .bl false, .bl (decide (k.ix = 0))])) l = some (.lst [.bl true, .bl true, .bl false, .bl (decide (k.ix = 0))]) := upd_same
    generalize upd H6 l (.lst [.bl true, .bl true, .bl false, .bl (decide (k.ix = 0))]) = H7 at *
    have ty := Z.S.ty d1
    refine ⟨.ref l, rfl, ?_⟩
    refine ⟨.ref a, rfl, .ref a, .ref (A 1), .ref (A k.ix), .ref (A 1), decide (k.ix = 1), rfl, .own _, ty, kd 1 (by decide), ?_⟩
    refine ⟨.ref a, rfl, .ref a, .ref (A 2), .ref (A k.ix), .ref (A 2), decide (k.ix = 2), rfl, .own _, ty, kd 2 (by decide), ?_⟩
    refine ⟨.ref a, rfl, .ref a, .ref (A 3), .ref (A k.ix), .ref (A 3), decide (k.ix = 3), rfl, .own _, ty, kd 3 (by decide), ?_⟩
    refine ⟨.ref a, rfl, .ref a, .ref (A 4), .ref (A k.ix), .ref (A 4), decide (k.ix = 4), rfl, .own _, ty, kd 4 (by decide), ?_⟩
    refine ⟨by simp [sizeLine_eq], fun m hm => ?_⟩
    refine ⟨l, m, _, _, rfl, rfl, same_new hm _ _ el, upd_same, by simp [sizeLine_eq], fun l hl => ?_⟩
    have s8 := (same_new (o := .lst [.bl (decide (k.ix = 1)), .bl (decide (k.ix = 2)), .bl (decide (k.ix = 3)), .bl (decide (k.ix = 4))]) hm).trans (same_new (o := .lst ([.bl true, .bl true, .bl false, .bl (decide (k.ix = 0))] ++ [.bl (decide (k.ix = 1)), .bl (decide (k.ix = 2)), .bl (decide (k.ix = 3)), .bl (decide (k.ix = 4))])) hl)
    have d1 := d1.keep s8
    have d2 := d2.keep s8
    have s8 := s7.trans s8
    have el : (upd (upd H7 m (.lst [.bl (decide (k.ix = 1)), .bl (decide (k.ix = 2)), .bl (decide (k.ix = 3)), .bl (decide (k.ix = 4))])) l (.lst ([.bl true, .bl true, .bl false, .bl (decide (k.ix = 0))] ++ [.bl (decide (k.ix = 1)), .bl (decide (k.ix = 2)), .bl (decide (k.ix = 3)), .bl (decide (k.ix = 4))]))) l = some (.lst ([.bl true, .bl true, .bl false, .bl (decide (k.ix = 0))] ++ [.bl (decide (k.ix = 1)), .bl (decide (k.ix = 2)), .bl (decide (k.ix = 3)), .bl (decide (k.ix = 4))])) := upd_same
    generalize upd (upd H7 m (.lst [.bl (decide (k.ix = 1)), .bl (decide (k.ix = 2)), .bl (decide (k.ix = 3)), .bl (decide (k.ix = 4))])) l (.lst ([.bl true, .bl true, .bl false, .bl (decide (k.ix = 0))] ++ [.bl (decide (k.ix = 1)), .bl (decide (k.ix = 2)), .bl (decide (k.ix = 3)), .bl (decide (k.ix = 4))])) = H8 at *
    have el : H8 l = some (.lst (k.faces.map V.bl)) := el
    refine ⟨.ref l, rfl, ?_⟩
    refine ⟨by simp [sizeLine_eq], fun n hn => ?_⟩
    refine ⟨by simp [sizeLine_eq], fun o ho => ?_⟩
    refine ⟨o, rfl, ⟨_, SqL.of upd_same⟩, fun D hD => ?_⟩
    have s9 := (same_new (o := .lst [.bl true, .bl true, .bl false]) hn).trans (same_new (o := .lst (wds5.map V.str)) ho)
    have en : (upd (upd H8 n (.lst [.bl true, .bl true, .bl false])) o (.lst (wds5.map V.str))) n = some (.lst [.bl true, .bl true, .bl false]) := same_new ho _ _ upd_same
    have eo : (upd (upd H8 n (.lst [.bl true, .bl true, .bl false])) o (.lst (wds5.map V.str))) o = some (.lst (wds5.map V.str)) := upd_same
    have d1 := d1.keep s9
    have d2 := d2.keep s9
    have el := s9 _ _ el
    have s9 := s8.trans s9
    replace hD : (upd (upd H8 n (.lst [.bl true, .bl true, .bl false])) o (.lst (wds5.map V.str))) D = none := hD
    have go : ∀ H9 : Hp, H9 = upd (upd H8 n (.lst [.bl true, .bl true, .bl false])) o (.lst (wds5.map V.str)) → H9 = H9 := fun _ _ => rfl
    refine lc_it (walk_list (K := K) (a := o) (xs := wds5.map V.str)) (fun i H' => Same' (upd (upd H8 n (.lst [.bl true, .bl true, .bl false])) o (.lst (wds5.map V.str))) H' ∧ H' D = some (.lst ((wds5.take i).map fun z => V.bl (decide (V.str k.wd = V.str z))))) ⟨same_new hD, upd_same⟩ (fun i H' _ hp => SqL.of (hp.1 _ _ eo)) (fun i x H5 H6 hi hp hx => ?_) (fun H10 hp => ?_)
    · obtain ⟨sm, ed⟩ := hp
      obtain ⟨rfl, hx⟩ := hx
      obtain ⟨z, hz, rfl⟩ : ∃ z, wds5[i]? = some z ∧ V.str z = x := by
        rw [List.getElem?_map] at hx
        cases ez : wds5[i]? with
        | none => rw [ez] at hx; cases hx
        | some z => rw [ez] at hx; exact ⟨z, rfl, Option.some.inj hx⟩
      refine ⟨rfl, .str k.wd, rfl, .str z, rfl, rfl, _, ed, ?_, same_over hD sm, ?_⟩
      · rw [List.length_map, List.length_take, sizeLine_eq]
        have : wds5.length = 5 := rfl
        omega
      · rw [upd_same, List.take_add_one, hz, List.map_append]
        rfl
    obtain ⟨s10, e10⟩ := hp
    have d1 := d1.keep s10
    have d2 := d2.keep s10
    have el := s10 _ _ el
    have s10' := s9.trans s10
    refine ⟨n, D, _, _, rfl, rfl, s10 _ _ en, e10, by simp [sizeLine_eq, wds5], fun r hr10 => ?_⟩
    have s11 := same_new (o := .lst ([V.bl true, V.bl true, V.bl false] ++ List.map (fun z => V.bl (decide (V.str k.wd = V.str z))) (List.take (List.map V.str wds5).length wds5))) hr10
    have d1 := d1.keep s11
    have d2 := d2.keep s11
    have el := s11 _ _ el
    have s11 := s10'.trans s11
    have er : (upd H10 r (.lst ([V.bl true, V.bl true, V.bl false] ++ List.map (fun z => V.bl (decide (V.str k.wd = V.str z))) (List.take (List.map V.str wds5).length wds5)))) r = some (.lst (k.faces.map V.bl)) := by
      rw [upd_same]
      exact congrArg some (congrArg HO.lst (face_words k))
    refine ⟨.list (k.faces.map PyData.bool), .list (k.faces.map PyData.bool), .lst (SqL.of el) (dp_bools _), .lst (SqL.of er) (dp_bools _), (face_sh k).1, (face_sh k).1, false, by rw [(face_sh k).2]; rfl, iteF ?_⟩
    generalize upd H10 r (.lst ([V.bl true, V.bl true, V.bl false] ++ List.map (fun z => V.bl (decide (V.str k.wd = V.str z))) (List.take (List.map V.str wds5).length wds5))) = H11 at *
    have ty := Z.S.ty d1
    refine ⟨.ref a, rfl, .ref a, .ref (A 5), .ref (A k.ix), .ref (A 5), decide (k.ix = 5), rfl, .own _, ty, kd 5 (by decide), ?_⟩
    refine ⟨.str k.wd, rfl, rfl, rfl, false, by rw [stop_word]; exact neS _, iteF ?_⟩
    refine ⟨.ref a, rfl, .ref b, rfl, a, b, k, k, rfl, rfl, d1, d2, mk, mk, false, by simp, iteF ?_⟩
    refine ⟨.ref a, rfl, .ref b, rfl, a, b, k, k, rfl, rfl, d1, d2, mk, mk, true, by simp, iteF ?_⟩
    -- nothing else is equal
    refine ⟨.ref t, rfl, .ref a, rfl, a, k, rfl, d1, mk, .str k.wd, rfl, .ref a, rfl, by simp [sizeLine_eq], fun c hc => ?_⟩
    have s12 := same_new (o := .tup [.ref a]) hc
    have ec : (upd H11 c (.tup [.ref a])) c = some (.tup [.ref a]) := upd_same
    have d1 := d1.keep s12
    have s12 := s11.trans s12
    generalize upd H11 c (.tup [.ref a]) = H12 at *
    refine ⟨.ref a, rfl, fun x dx hx hdx hne => ?_⟩
    have s13 : Same' H12 (upd (upd H12 dx (.own x)) x (.ins CP dx [])) := fun c' o e => by rw [upd_ne (ne_of_none e hx), upd_ne (ne_of_none e hdx)]; exact e
    obtain ⟨dx1, tf1, ea1, ea2⟩ := id d1
    refine ⟨x, dx, a, k, rfl, upd_same, d1.keep s13, ne_of_none ea1 hx, fun H14 kp pg => ⟨rfl, ?_⟩⟩
    have s14 : Same' H12 H14 := fun c' o e => kp c' o (ne_of_none e hx) (s13 _ _ e)
    have ec := s14 _ _ ec
    have d1 := d1.keep s14
    have s14 := s12.trans s14
    refine ⟨by simp [sizeLine_eq], fun ls hls => ?_⟩
    have s15 := same_new (o := .lst [.non, .int 0, .ref t, .str k.text, .str k.wd, .ref c, .ref x]) hls
    have els : (upd H14 ls (.lst [.non, .int 0, .ref t, .str k.text, .str k.wd, .ref c, .ref x])) ls = some (.lst [.non, .int 0, .ref t, .str k.text, .str k.wd, .ref c, .ref x]) := upd_same
    have ec := s15 _ _ ec
    have d1 := d1.keep s15
    have pg : ProgAt CP (upd H14 ls (.lst [.non, .int 0, .ref t, .str k.text, .str k.wd, .ref c, .ref x])) x := let ⟨e1, e2, e3⟩ := pg; ⟨e1, e2, s15 _ _ e3⟩
    have s15 := s14.trans s15
    have odd : ∀ H', Same' (upd H14 ls (.lst [.non, .int 0, .ref t, .str k.text, .str k.wd, .ref c, .ref x])) H' → ∀ y ∈ ([.non, .int 0, .ref t, .str k.text, .str k.wd, .ref c, .ref x] : List V), Odd A CP H' y := fun H' sm y hy => by
      simp only [List.mem_cons, List.not_mem_nil, or_false] at hy
      rcases hy with rfl | rfl | rfl | rfl | rfl | rfl | rfl
      · exact .inl rfl
      · exact .inr (.inl ⟨_, rfl⟩)
      · exact .inr (.inr (.inr (.inl ⟨_, _, rfl, sm _ _ (s15 _ _ et)⟩)))
      · exact .inr (.inr (.inl ⟨_, rfl⟩))
      · exact .inr (.inr (.inl ⟨_, rfl⟩))
      · exact .inr (.inr (.inr (.inl ⟨_, _, rfl, sm _ _ ec⟩)))
      · exact .inr (.inr (.inr (.inr ⟨_, rfl, let ⟨e1, e2, e3⟩ := pg; ⟨e1, e2, sm _ _ e3⟩⟩)))
    generalize upd H14 ls (.lst [.non, .int 0, .ref t, .str k.text, .str k.wd, .ref c, .ref x]) = H15 at *
    refine ⟨ls, rfl, ⟨_, SqL.of els⟩, fun D2 hD2 => ?_⟩
    refine lc_it (walk_list (K := K) (a := ls) (xs := [.non, .int 0, .ref t, .str k.text, .str k.wd, .ref c, .ref x])) (fun i H' => Same' H15 H' ∧ H' D2 = some (.lst [])) ⟨same_new hD2, upd_same⟩ (fun i H' _ hp => SqL.of (hp.1 _ _ els)) (fun i y H5 H6 hi hp hy => ?_) (fun H16 hp => ?_)
    · obtain ⟨sm, ed⟩ := hp
      obtain ⟨rfl, hy⟩ := hy
      exact ⟨rfl, y, rfl, .ref a, rfl, odd _ sm y (List.mem_of_getElem? hy), a, k, rfl, d1.keep sm, mk, false, rfl, iteF ⟨sm, ed⟩⟩
    obtain ⟨s16, e16⟩ := hp
    refine ⟨by simp [sizeLine_eq], fun z hz => ⟨D2, z, [], rfl, rfl, same_new hz _ _ e16, upd_same, ?_⟩⟩
    exact q _ ((s15.trans s16).trans (same_new hz))
end
end My
namespace My
open PySem PySem.Spec PyProof.Rows L2
/-! ### the law -/
abbrev PR : Program := PySem.Challenge.rw_layerseen_k04_simple_deeds_made.prog
abbrev nLaw : List Str := ["_law_script", "_law_pen_here", "_law_turn", "_law_some", "_law_plain_here", "_law_far", "_law_pairs", "_law_again"]
theorem scLaw : FnScope nLaw ["_law_script"] (defScope sLaw) := ⟨rfl, rfl, rfl, by decide +kernel, rfl, by decide +kernel, by decide +kernel⟩
abbrev XL (w : World) (K : PySem.W.Frag) (mg : Str → Option Value) (base : Heap) (fa : Addr) (cdv : Value) (s : Shared) (H0 : Hp) : Cx := (cxOf CX0 PR w K mg base nLaw "law" (defScope sLaw) fa cdv callerA [] s H0 E0).nox
def DK.rowD (k : DK) : List PyData := .str k.wd :: k.argD
theorem row_dp {K : PySem.W.Frag} {H : Hp} (k : DK) : DpAll K H k.row k.rowD := .cons (.str _) (args_dp k)
theorem row_sh : ∀ k ∈ rows, SeqAt.shaped (.tuple k.rowD) = true := by decide +kernel
theorem eqv_rows : ∀ k ∈ rows, ∀ k2 ∈ rows, PyData.eqv (.tuple k.rowD) (.tuple k2.rowD) = decide (k = k2) := by decide +kernel
structure Parts (w : World) (K : PySem.W.Frag) (mg : Str → Option Value) (base : Heap) (A : Nat → Addr) (fI fL : Nat → Addr) (dI dL : Nat → FuncData) : Prop where
  T : Txt mg
  S : Dd K mg A
  O : Owns PR w K mg base A
  M : MkA PR w K mg base A fI dI
  cv : ∀ i, i < 6 → ∃ mc u, ClX.CRead K (A i) mc ∧ ClX.CVal K (A i) mc "WORD" (.str (wdI i)) u
  pen : FnB PR w K mg base 1 "_law_pen" sPen (fL 0) (dL 0) ["_law_script"] (spPen K)
  plain : FnB PR w K mg base 3 "_law_plain" sPlain (fL 1) (dL 1) ["_law_pen_here"] spPlain
  made : FnB PR w K mg base 6 "_law_made" sMade (fL 2) (dL 2) ["_law_plain_here"] (spMade A)
  face : FnG PR w K mg base CX0 8 (fL 3) (dL 3) ["_law_plain_here"] spFace
  faceF : Fun K "_law_face_right" "_law_face_right" sFace (fL 3) (dL 3)
  faceB : Binds K (dL 3) ["_law_plain_here"] []
  faceG : mg "_law_face_right" = some (.ref (fL 3))
theorem PenAt.put {H : Hp} {p c D : Addr} {ns : List Int} {B : Int} {o : HO} (P : PenAt H p c ns B) (hp : p ≠ D) (hc : c ≠ D) : PenAt (upd H D o) p c ns B := by
  obtain ⟨⟨b, g, e, r⟩, e2, f⟩ := P
  exact ⟨⟨b, g, by rw [upd_ne hp]; exact e, r⟩, by rw [upd_ne hc]; exact e2, f⟩
theorem PenAt.old {H : Hp} {p c D : Addr} {ns : List Int} {B : Int} (P : PenAt H p c ns B) (h : H D = none) : p ≠ D ∧ c ≠ D := by
  obtain ⟨⟨b, g, e, r⟩, e2, f⟩ := P
  exact ⟨ne_of_none e h, ne_of_none e2 h⟩
/-- the tuples that were drawn -/
def Drawn (H : Hp) (ts : List Addr) : Prop := ∀ t ∈ ts, ∃ k, k ∈ rows ∧ H t = some (.tup k.row)
section
variable {w : World} {K : PySem.W.Frag} {mg : Str → Option Value} {base : Heap} {A : Nat → Addr} {fI fL : Nat → Addr} {dI dL : Nat → FuncData} {fa : Addr}
theorem hrX {cdv : Value} {s : Shared} {H0 : Hp} : Room 9 (XL w K mg base fa cdv s H0).A := ⟨rfl, by show 1 + claimMargin + 1 + 3 * 9 + 5 < recursionLimit; decide +kernel, by show 4 + 3 + 16 * 9 + 200 < cLine; decide +kernel⟩
theorem hgX {cdv : Value} {s : Shared} {H0 : Hp} : (XL w K mg base fa cdv s H0).A.guards = some [] := rfl
theorem law_body (Z : ∀ base : Heap, K.In base → base.Ns mainGlobals mg → Parts w K mg base A fI fL dI dL) : LawBody PySem.Challenge.rw_layerseen_k04_simple_deeds_made w K mg 63 nLaw "law" sLaw fa := by
  intro base hKb hNb cdv s H a ns hn hO hS
  have Z := Z base hKb hNb
  have S := Z.S
  have hr : Room 9 (XL w K mg base fa cdv s H).A := hrX
  have hg : (XL w K mg base fa cdv s H).A.guards = some [] := hgX
  have hu : (XL w K mg base fa cdv s H).A.units + 64 < cLine := hr.units
  refine ⟨_, pss_cons (ps_set (i := 1) scLaw.nd rfl (by first | exact .inl rfl | exact .inr rfl) (pe_call Z.pen.G (hr.mono (by decide)) (by rfl) Z.pen.g Z.pen.F.kp Z.pen.b .nil pass0 (pa_cons (pv 0) pa_nil)))
    (pss_cons (ps_for PassesOwn.never rfl (pi_range1 (by rfl) Z.T.range (pa_cons pe_int pa_nil)) (pg_name (i := 2) scLaw.nd rfl (.inl rfl))
      (pss_cons (ps_setLc (i := 3) (own := [("_law_again", 7)]) (g := gName 7) (tt := tYes) rfl scLaw.nd rfl rfl (sw_true rfl rfl rfl (by decide +kernel)) (pi_range1 (by rfl) Z.T.range (pa_cons pe_int pa_nil)) (blkOk_by (N := nLaw) (sc := defScope sLaw) (by decide +kernel)) (fun _ _ _ _ _ => pg_name (i := 7) scLaw.nd rfl (Or.inl rfl)) (fun _ _ _ _ _ => pts_nil)
        (fun s1 H1 C1 cl1 fp1 => show PE ((XL w K mg base fa cdv s H).blk s1 H1 _ (compEnvC _ cl1 C1 (XL w K mg base fa cdv s H).env) fp1) _ (tCall spPlain [] E0 (tCons (tVar 1) tNil)) from
          pe_call Z.plain.G (hr.mono (by decide)) (by rfl) Z.plain.g Z.plain.F.kp Z.plain.b .nil pass0 (pa_cons (pv 1) pa_nil)))
      (pss_one (ps_for PassesOwn.never rfl (pi_list (pv 3)) (pg_name (i := 4) scLaw.nd rfl (.inl rfl))
        (pss_cons (ps_if (pt_not (pt_val (pe_callG Z.face (hr.mono (by decide)) hg (by rfl) Z.faceG Z.faceF.kp Z.faceB .nil pass0 (pa_cons (pv 4) pa_nil)))) (pss_one (ps_ret pe_bl)) pss_nil)
        (pss_one (ps_for PassesOwn.never rfl (pi_list (pv 3)) (pg_name (i := 5) scLaw.nd rfl (.inl rfl))
          (pss_one (ps_if (pt_cmpR op_ne (pe_cmpR (op_eqH Z.S Z.O (hr.mono (by decide)) hg) (pe_call Z.made.G (hr.mono (by decide)) (by rfl) Z.made.g Z.made.F.kp Z.made.b .nil pass0 (pa_cons (pv 4) pa_nil)) (pe_call Z.made.G (hr.mono (by decide)) (by rfl) Z.made.g Z.made.F.kp Z.made.b .nil pass0 (pa_cons (pv 5) pa_nil)) (nomark _))
            (pe_cmpR (op_eqD hu) (pv 4) (pv 5) (nomark _)) (nomark _)) (pss_one (ps_ret pe_bl)) pss_nil)))))))))
    (pss_cons (ps_set (i := 6) scLaw.nd rfl (.inl rfl) (pe_lst
      (pa_cons (pe_cmpR (op_eqH Z.S Z.O (hr.mono (by decide)) hg) (pe_make (E := E0) Z.M.p.M Z.M.p.G (hr.mono (by decide)) (by rfl) (S.g 0 (by decide)) Z.M.p.b .nil pass0 (pa_cons pe_str (pa_cons pe_int pa_nil))) (pe_make (E := E0) Z.M.p.M Z.M.p.G (hr.mono (by decide)) (by rfl) (S.g 0 (by decide)) Z.M.p.b .nil pass0 (pa_cons pe_str (pa_cons pe_int pa_nil))) (nomark _))
      (pa_cons (pe_cmpR (op_eqH Z.S Z.O (hr.mono (by decide)) hg) (pe_make (E := E0) Z.M.c.M Z.M.c.G (hr.mono (by decide)) (by rfl) (S.g 1 (by decide)) Z.M.c.b .nil pass0 (pa_cons pe_str (pa_cons pe_str pa_nil))) (pe_make (E := E0) Z.M.c.M Z.M.c.G (hr.mono (by decide)) (by rfl) (S.g 1 (by decide)) Z.M.c.b .nil pass0 (pa_cons pe_str (pa_cons pe_str pa_nil))) (nomark _))
      (pa_cons (pe_cmpR (op_eqH Z.S Z.O (hr.mono (by decide)) hg) (pe_make0 (E := E0) Z.M.l.M Z.M.l.G (hr.mono (by decide)) (by rfl) (S.g 4 (by decide)) Z.M.l.b .nil pass0) (pe_make0 (E := E0) Z.M.s.M Z.M.s.G (hr.mono (by decide)) (by rfl) (S.g 5 (by decide)) Z.M.s.b .nil pass0) (nomark _))
      (pa_cons (pe_cmpR (op_eqH Z.S Z.O (hr.mono (by decide)) hg) (pe_make (E := E0) Z.M.y.M Z.M.y.G (hr.mono (by decide)) (by rfl) (S.g 2 (by decide)) Z.M.y.b .nil pass0 (pa_cons pe_str (pa_cons pe_str pa_nil))) (pe_make (E := E0) Z.M.y.M Z.M.y.G (hr.mono (by decide)) (by rfl) (S.g 2 (by decide)) Z.M.y.b .nil pass0 (pa_cons pe_str (pa_cons pe_str pa_nil))) (nomark _)) pa_nil))))))
    (pss_one (ps_ret (pe_and (pe_cmpR (op_eqD hu) (pv 6) (pe_op op_rep (pe_lst (pa_cons pe_bl pa_nil)) pe_int) (nomark _))
      (pe_one (pe_cmpR (op_eqD hu) (pe_lst (pa_cons (ClX.pe_cval (pe_glob (v := .ref (A 0)) rfl (S.g 0 (by decide)) rfl)) (pa_cons (ClX.pe_cval (pe_glob (v := .ref (A 4)) rfl (S.g 4 (by decide)) rfl)) (pa_cons (ClX.pe_cval (pe_glob (v := .ref (A 5)) rfl (S.g 5 (by decide)) rfl)) (pa_cons (ClX.pe_cval (pe_glob (v := .ref (A 3)) rfl (S.g 3 (by decide)) rfl)) pa_nil)))))
        (pe_lst (pa_cons pe_str (pa_cons pe_str (pa_cons pe_str (pa_cons pe_str pa_nil))))) (nomark _)))))))), ?_⟩
  have neS : ∀ x : V, V.bl (!decide (x = x)) = V.bl false := fun x => by simp
  refine ⟨.ref a, rfl, a, ns, rfl, hS, hn, fun p cc H1 sm1 PA1 => ?_⟩
  refine ⟨5, rfl, by decide, by decide, for_range (lo := 0) (n := 5) (fun i σ H' => ∃ y2 y3 y4 y5 : Option V, σ = [some (.ref a), some (.ref p), y2, y3, y4, y5, none, none] ∧ PenAt H' p cc ns (20 * (i : Int))) ⟨none, none, none, none, rfl, PA1.more (by decide)⟩ (fun i σ H2 hi hp => ?_) (fun σ H2 hp => ?_)⟩
  · obtain ⟨y2, y3, y4, y5, rfl, PA2⟩ := hp
    refine ⟨5, rfl, by decide, by decide, fun D hD => ?_⟩
    obtain ⟨pD, cD⟩ := PA2.old hD
    refine lc_it (walk_range (lo := 0) (n := 5)) (fun j H' => ∃ ts : List Addr, H' D = some (.lst (ts.map V.ref)) ∧ Drawn H' ts ∧ ts.length = j ∧ PenAt H' p cc ns (20 * (i : Int) + 4 * (j : Int))) ⟨[], upd_same, (fun _ h => nomatch h), rfl, (PA2.new hD).more (by omega)⟩ (fun _ _ _ _ => trivial) (fun j x H3 H4 hj hp hx => ?_) (fun H3 hp => ?_)
    · obtain ⟨ts, eD, dr, lt, PA3⟩ := hp
      obtain ⟨rfl, rfl⟩ := hx
      refine ⟨rfl, .ref p, rfl, p, cc, ns, _, rfl, PA3, by omega, fun t k H5 hk et PA5 off => ?_⟩
      have eD5 := off D _ pD.symm eD
      have tD : t ≠ D := fun e => by
        subst e
        rw [et] at eD5
        cases eD5
      refine ⟨_, eD5, by rw [List.length_map, lt, sizeLine_eq]; omega, ts ++ [t], by rw [upd_same, List.map_append]; rfl, fun u hu => ?_, by rw [List.length_append, lt]; rfl, (PA5.put pD cD).more (by omega)⟩
      rcases List.mem_append.mp hu with hu | hu
      · obtain ⟨k2, hk2, e2⟩ := dr u hu
        have up : u ≠ p := fun e => by
          subst e
          obtain ⟨_, _, e3, _⟩ := PA3.pen
          rw [e2] at e3
          cases e3
        have e5 := off u _ up e2
        have uD : u ≠ D := fun e => by
          subst e
          rw [e5] at eD5
          cases eD5
        exact ⟨k2, hk2, by rw [upd_ne uD]; exact e5⟩
      · obtain rfl := List.mem_singleton.mp hu
        exact ⟨k, hk, by rw [upd_ne tD]; exact et⟩
    obtain ⟨ts, eD, dr, lt, PA3⟩ := hp
    have at_ : ∀ (j : Nat) (x : V), (ts.map V.ref)[j]? = some x → ∃ t k, x = .ref t ∧ k ∈ rows ∧ H3 t = some (.tup k.row) := fun j x e => by
      obtain ⟨t, ht, rfl⟩ := List.mem_map.mp (List.mem_of_getElem? e)
      obtain ⟨k, hk, et⟩ := dr t ht
      exact ⟨t, k, rfl, hk, et⟩
    refine ⟨.ref D, rfl, D, rfl, ⟨_, SqL.of eD⟩, ?_⟩
    refine for_it (walk_list (K := K) (a := D) (xs := ts.map V.ref)) (fun j σ H' => Same' H3 H' ∧ ∃ y4 y5 : Option V, σ = [some (.ref a), some (.ref p), some (.int (0 + (i : Int))), some (.ref D), y4, y5, none, none]) ⟨fun _ _ e => e, _, _, rfl⟩ (fun j σ H' _ hp => SqL.of (hp.1 _ _ eD)) (fun j x σ H4 H5 hj hp hx => ?_) (fun σ H4 hp => ?_)
    · obtain ⟨s4, y4, y5, rfl⟩ := hp
      obtain ⟨rfl, hx⟩ := hx
      obtain ⟨t, k, rfl, hk, et⟩ := at_ j x hx
      refine ⟨.ref t, rfl, t, k, rfl, hk, s4 _ _ et, fun H6 s6 => ⟨true, rfl, iteF ?_⟩⟩
      have s6 := s4.trans s6
      refine ⟨.ref D, rfl, D, rfl, ⟨_, SqL.of (s6 _ _ eD)⟩, ?_⟩
      refine for_it (walk_list (K := K) (a := D) (xs := ts.map V.ref)) (fun j σ H' => Same' H3 H' ∧ ∃ y5 : Option V, σ = [some (.ref a), some (.ref p), some (.int (0 + (i : Int))), some (.ref D), some (.ref t), y5, none, none]) ⟨s6, _, rfl⟩ (fun j σ H' _ hp => SqL.of (hp.1 _ _ eD)) (fun j x σ H7 H8 hj hp hx => ?_) (fun σ H7 hp => ?_)
      · obtain ⟨s7, y5, rfl⟩ := hp
        obtain ⟨rfl, hx⟩ := hx
        obtain ⟨t2, k2, rfl, hk2, et2⟩ := at_ j x hx
        refine ⟨.ref t, rfl, t, k, rfl, hk, s7 _ _ et, fun b H9 hb s9 d1 => ?_⟩
        have s9 := s7.trans s9
        refine ⟨.ref t2, rfl, t2, k2, rfl, hk2, s9 _ _ et2, fun b2 H10 hb2 s10 d2 => ?_⟩
        have d1 := d1.keep s10
        have s10 := s9.trans s10
        refine ⟨b, b2, k, k2, rfl, rfl, d1, d2, hk, hk2, ?_⟩
        refine ⟨.ref t, rfl, .ref t2, rfl, .tuple k.rowD, .tuple k2.rowD, .tup (SqT.of (s10 _ _ et)) (row_dp k), .tup (SqT.of (s10 _ _ et2)) (row_dp k2), row_sh k hk, row_sh k2 hk2, ?_⟩
        rw [eqv_rows k hk k2 hk2]
        refine ⟨rfl, false, neS _, iteF ⟨s10, _, rfl⟩⟩
      obtain ⟨s7, y5, rfl⟩ := hp
      exact ⟨s7, _, _, rfl⟩
    obtain ⟨s4, y4, y5, rfl⟩ := hp
    exact ⟨_, _, _, _, rfl, (PA3.keep s4).more (by omega)⟩
  obtain ⟨y2, y3, y4, y5, rfl, PA2⟩ := hp
  obtain ⟨m1, m2, m3, m4, m5, m6, m7, m8⟩ : (DK.put "x" 1 ∈ rows) ∧ (DK.put "x" 0 ∈ rows) ∧ (DK.copy "x" "y" ∈ rows) ∧ (DK.copy "y" "x" ∈ rows) ∧ (DK.lv ∈ rows) ∧ (DK.st ∈ rows) ∧ (DK.say "l" "a" ∈ rows) ∧ DK.say "a" "l" ∈ rows := by decide +kernel
  refine fun x1 dx1 hx1 hd1 _ => ⟨x1, dx1, (.put "x" 1), rfl, rfl, upd_same, (rows_ok _ m1).1, fun G1 k1 i1 => ⟨rfl, ?_⟩⟩
  have g1 := made_same hx1 hd1 k1
  refine fun x2 dx2 hx2 hd2 _ => ⟨x2, dx2, (.put "x" 0), rfl, rfl, upd_same, (rows_ok _ m2).1, fun G2 k2 i2 => ⟨rfl, ?_⟩⟩
  have g2 := made_same hx2 hd2 k2
  refine ⟨x1, x2, _, _, rfl, rfl, i1.keep g2, i2, m1, m2, ?_⟩
  refine fun x3 dx3 hx3 hd3 _ => ⟨x3, dx3, (.copy "x" "y"), rfl, rfl, upd_same, (rows_ok _ m3).1, fun G3 k3 i3 => ⟨rfl, ?_⟩⟩
  have g3 := made_same hx3 hd3 k3
  refine fun x4 dx4 hx4 hd4 _ => ⟨x4, dx4, (.copy "y" "x"), rfl, rfl, upd_same, (rows_ok _ m4).1, fun G4 k4 i4 => ⟨rfl, ?_⟩⟩
  have g4 := made_same hx4 hd4 k4
  refine ⟨x3, x4, _, _, rfl, rfl, i3.keep g4, i4, m3, m4, ?_⟩
  refine fun x5 dx5 hx5 hd5 _ => ⟨x5, dx5, (.lv), rfl, rfl, upd_same, (rows_ok _ m5).1, fun G5 k5 i5 => ⟨rfl, ?_⟩⟩
  have g5 := made_same hx5 hd5 k5
  refine fun x6 dx6 hx6 hd6 _ => ⟨x6, dx6, (.st), rfl, rfl, upd_same, (rows_ok _ m6).1, fun G6 k6 i6 => ⟨rfl, ?_⟩⟩
  have g6 := made_same hx6 hd6 k6
  refine ⟨x5, x6, _, _, rfl, rfl, i5.keep g6, i6, m5, m6, ?_⟩
  refine fun x7 dx7 hx7 hd7 _ => ⟨x7, dx7, (.say "l" "a"), rfl, rfl, upd_same, (rows_ok _ m7).1, fun G7 k7 i7 => ⟨rfl, ?_⟩⟩
  have g7 := made_same hx7 hd7 k7
  refine fun x8 dx8 hx8 hd8 _ => ⟨x8, dx8, (.say "a" "l"), rfl, rfl, upd_same, (rows_ok _ m8).1, fun G8 k8 i8 => ⟨rfl, ?_⟩⟩
  have g8 := made_same hx8 hd8 k8
  refine ⟨x7, x8, _, _, rfl, rfl, i7.keep g8, i8, m7, m8, ?_⟩
  refine ⟨by show 4 ≤ sizeLine; decide, fun l hl => ?_⟩
  refine ⟨.ref l, rfl, by show 1 ≤ sizeLine; decide, fun l1 hl1 => ?_⟩
  refine ⟨l1, 4, [.bl false], rfl, rfl, upd_same, by decide, by decide, by show 4 ≤ sizeLine; decide, fun l2 hl2 => ?_⟩
  have e4 : [V.bl (decide (DK.put "x" 1 = DK.put "x" 0)), V.bl (decide (DK.copy "x" "y" = DK.copy "y" "x")), V.bl (decide (DK.lv = DK.st)), V.bl (decide (DK.say "l" "a" = DK.say "a" "l"))] = [false, false, false, false].map V.bl := by
    rw [show decide (DK.put "x" 1 = DK.put "x" 0) = false by decide +kernel, show decide (DK.copy "x" "y" = DK.copy "y" "x") = false by decide +kernel, show decide (DK.lv = DK.st) = false by decide +kernel, show decide (DK.say "l" "a" = DK.say "a" "l") = false by decide +kernel]
    rfl
  have b4 : SeqAt.shaped (.list ([false, false, false, false].map PyData.bool)) = true ∧ PyData.eqv (.list ([false, false, false, false].map PyData.bool)) (.list ([false, false, false, false].map PyData.bool)) = true := by decide +kernel
  refine ⟨.list ([false, false, false, false].map PyData.bool), .list ([false, false, false, false].map PyData.bool), .lst (SqL.of ((same_new hl2 _ _ (same_new hl1 _ _ upd_same)).trans (congrArg some (congrArg HO.lst e4)))) (dp_bools [false, false, false, false]), .lst (SqL.of upd_same) (dp_bools [false, false, false, false]), b4.1, b4.1, true, by rw [b4.2], iteT ?_⟩
  obtain ⟨c0, u0, r0, v0⟩ := Z.cv 0 (by decide)
  obtain ⟨c1, u1, r1, v1⟩ := Z.cv 4 (by decide)
  obtain ⟨c2, u2, r2, v2⟩ := Z.cv 5 (by decide)
  obtain ⟨c3, u3, r3, v3⟩ := Z.cv 3 (by decide)
  refine ⟨A 0, c0, _, u0, rfl, r0, v0, A 4, c1, _, u1, rfl, r1, v1, A 5, c2, _, u2, rfl, r2, v2, A 3, c3, _, u3, rfl, r3, v3, by show 4 ≤ sizeLine; decide, fun q1 hq1 => ?_⟩
  refine ⟨by show 4 ≤ sizeLine; decide, fun q2 hq2 => ?_⟩
  have w4 : SeqAt.shaped (.list ([wdI 0, wdI 4, wdI 5, wdI 3].map PyData.str)) = true ∧ PyData.eqv (.list ([wdI 0, wdI 4, wdI 5, wdI 3].map PyData.str)) (.list ([wdI 0, wdI 4, wdI 5, wdI 3].map PyData.str)) = true := by decide +kernel
  refine ⟨.list ([wdI 0, wdI 4, wdI 5, wdI 3].map PyData.str), .list ([wdI 0, wdI 4, wdI 5, wdI 3].map PyData.str), .lst (SqL.of (same_new hq2 _ _ upd_same)) (.cons (.str _) (.cons (.str _) (.cons (.str _) (.cons (.str _) .nil)))), .lst (SqL.of upd_same) (.cons (.str _) (.cons (.str _) (.cons (.str _) (.cons (.str _) .nil)))), w4.1, w4.1, ?_⟩
  rw [w4.2]
end
end My
namespace My
open PySem PySem.Spec PyProof.Rows L2
def sayB : List Str → List Value → Bool
  | [], [] => true
  | k :: ks, .str x _ :: vs => decide (x = k) && sayB ks vs
  | _, _ => false
theorem say_of : ∀ (ks : List Str) (vs : List Value), sayB ks vs = true → Vals (ks.map V.str) vs
  | [], [], _ => .nil
  | k :: ks, .str x t :: vs, h => by
    unfold sayB at h
    rw [Bool.and_eq_true] at h
    have e : x = k := of_decide_eq_true h.1
    subst e
    exact .cons ⟨t, rfl⟩ (say_of ks vs h.2)
abbrev t6 {α : Type} (a0 a1 a2 a3 a4 a5 : α) : Nat → α
  | 0 => a0 | 1 => a1 | 2 => a2 | 3 => a3 | 4 => a4 | _ => a5
abbrev t4 {α : Type} (a0 a1 a2 a3 : α) : Nat → α
  | 0 => a0 | 1 => a1 | 2 => a2 | _ => a3
/-! ### what is asked of the written part, decided at once -/
def objB (K : PySem.W.Frag) : Bool := decide (PySem.W.specialIn K (.builtin "object.__class__") "__get__" = some (some (.builtin "getset_descriptor.__get__"))) && decide (PySem.W.takesIn K (.builtin "object.__class__") = some true)
def rdB (K : PySem.W.Frag) (C : Addr) : Bool := PySem.W.readsIn K C (.type "type") && decide (PySem.W.specialIn K (.ref C) "__getattribute__" = some (some (.builtin "type.__getattribute__")))
theorem rd_mk {K : PySem.W.Frag} {C : Addr} (h : rdB K C = true) : ClX.CRead K C (.type "type") := by
  unfold rdB at h
  simp only [Bool.and_eq_true, decide_eq_true_eq] at h
  exact ⟨h.1, h.2⟩
def clsB (K : PySem.W.Frag) (C : Addr) (fs : List Str) : Bool := PySem.W.plainGet K C Str.empty && (PySem.W.hasDictIn K C && (PySem.W.plainOver K C && (decide (PySem.W.findIn K (.ref C) "__setattr__" = some (some (.builtin "object.__setattr__"))) && ((fs.all fun f => decide (PySem.W.findIn K (.ref C) f = some none))
  && (decide (PySem.W.findIn K (.ref C) "__class__" = some (some (.builtin "object.__class__"))) && (decide (PySem.W.mroIn K C (.type "object") = some true) && (PySem.W.makesIn K C && PySem.W.keepIn K (.ref C))))))))
structure ClsF (K : PySem.W.Frag) (C : Addr) (fs : List Str) : Prop where
  c : Cls K C
  no : ∀ f ∈ fs, NoAttr K C f
  dc : PySem.W.findIn K (.ref C) "__class__" = some (some (.builtin "object.__class__"))
  mo : PySem.W.mroIn K C (.type "object") = some true
  ms : PySem.W.makesIn K C = true
  kp : PySem.W.keepIn K (.ref C) = true
theorem cls_mk {K : PySem.W.Frag} {C : Addr} {fs : List Str} (h : clsB K C fs = true) : ClsF K C fs := by
  unfold clsB at h
  simp only [Bool.and_eq_true, decide_eq_true_eq, List.all_eq_true] at h
  obtain ⟨h1, h2, h3, h4, h5, h6, h7, h8, h9⟩ := h
  exact ⟨⟨h1, h2, h3, h4⟩, h5, h6, h7, h8, h9⟩
abbrev four : List String := ["NoneType", "int", "str", "tuple"]
def ownB (K : PySem.W.Frag) (A : Nat → Addr) : Bool := (List.range 6).all fun i => decide (PySem.W.findIn K (.ref (A i)) "__ne__" = some (some (.builtin "object.__ne__"))) && (((List.range 6).all fun j => PySem.W.notFirst K (A i) (.ref (A j)) && decide (PySem.W.kitOne K (.ref (A i)) (.ref (A j)) = some (decide (i = j))))
  && (four.all fun T => decide (PySem.W.mroIn K (A i) (.type T) = some false) && decide (PySem.W.kitOne K (.type T) (.ref (A i)) = some false)))
theorem own_mk {K : PySem.W.Frag} {A : Nat → Addr} (h : ownB K A = true) (i : Nat) (hi : i < 6) : PySem.W.findIn K (.ref (A i)) "__ne__" = some (some (.builtin "object.__ne__")) ∧ (∀ j, j < 6 → PySem.W.notFirst K (A i) (.ref (A j)) = true ∧ PySem.W.kitOne K (.ref (A i)) (.ref (A j)) = some (decide (i = j)))
    ∧ ∀ T ∈ four, PySem.W.mroIn K (A i) (.type T) = some false ∧ PySem.W.kitOne K (.type T) (.ref (A i)) = some false := by
  unfold ownB at h
  have h := List.all_eq_true.mp h i (List.mem_range.mpr hi)
  simp only [Bool.and_eq_true, decide_eq_true_eq] at h
  obtain ⟨h1, h2, h3⟩ := h
  refine ⟨h1, fun j hj => ?_, fun T hT => ?_⟩
  · have q := List.all_eq_true.mp h2 j (List.mem_range.mpr hj)
    simp only [Bool.and_eq_true, decide_eq_true_eq] at q
    exact q
  · have q := List.all_eq_true.mp h3 T hT
    simp only [Bool.and_eq_true, decide_eq_true_eq] at q
    exact q
def relB (K : PySem.W.Frag) (A : Nat → Addr) (cD cSi cBl cH cG : Addr) : Bool := (List.range 6).all fun i => decide (PySem.W.kitOne K (.ref (A i)) (.ref cD) = some true) && (decide (PySem.W.kitOne K (.ref (A i)) (.ref cSi) = some true) && (decide (PySem.W.kitOne K (.ref (A i)) (.ref cBl) = some false)
  && (decide (PySem.W.kitOne K (.ref (A i)) (.ref cH) = some false) && (decide (PySem.W.kitOne K (.ref (A i)) (.ref cG) = some false) && PySem.W.notFirst K cG (.ref (A i))))))
theorem rel_mk {K : PySem.W.Frag} {A : Nat → Addr} {cD cSi cBl cH cG : Addr} (h : relB K A cD cSi cBl cH cG = true) (i : Nat) (hi : i < 6) : PySem.W.kitOne K (.ref (A i)) (.ref cD) = some true ∧ PySem.W.kitOne K (.ref (A i)) (.ref cSi) = some true ∧ PySem.W.kitOne K (.ref (A i)) (.ref cBl) = some false
    ∧ PySem.W.kitOne K (.ref (A i)) (.ref cH) = some false ∧ PySem.W.kitOne K (.ref (A i)) (.ref cG) = some false ∧ PySem.W.notFirst K cG (.ref (A i)) = true := by
  unfold relB at h
  have h := List.all_eq_true.mp h i (List.mem_range.mpr hi)
  simp only [Bool.and_eq_true, decide_eq_true_eq] at h
  exact h
abbrev fdOf {K : PySem.W.Frag} {x q : Str} {st : Stmt} {f : Addr} {fd : FuncData} (_ : Fun K x q st f fd) : FuncData := fd
theorem kb_p {K : PySem.W.Frag} {f : Addr} {fd : FuncData} (F : Fun K "__init__" "Put.__init__" sPutI f fd) : KBn K fd ["self", "cell", "value"] 1 ["value", "cell"] gBA gBA := by
  obtain ⟨oc, od, kV, doc, pm, an, cdv, ct, osl, rfl, lk, hcd⟩ := F.ex
  refine ⟨fun s us ws _ l1 l2 => ?_, fun a b => a.append ((b.drop 1).append (b.take 1))⟩
  match us, ws, l1, l2 with
  | [u], [v1, v2], _, _ => exact .of_eq rfl
theorem kb_c {K : PySem.W.Frag} {f : Addr} {fd : FuncData} (F : Fun K "__init__" "Copy.__init__" sCopyI f fd) : KBn K fd ["self", "cell", "other"] 1 ["other", "cell"] gBA gBA := by
  obtain ⟨oc, od, kV, doc, pm, an, cdv, ct, osl, rfl, lk, hcd⟩ := F.ex
  refine ⟨fun s us ws _ l1 l2 => ?_, fun a b => a.append ((b.drop 1).append (b.take 1))⟩
  match us, ws, l1, l2 with
  | [u], [v1, v2], _, _ => exact .of_eq rfl
theorem kb_y {K : PySem.W.Frag} {f : Addr} {fd : FuncData} (F : Fun K "__init__" "Say.__init__" sSayI f fd) : KBn K fd ["self", "log", "word"] 1 ["word", "log"] gBA gBA := by
  obtain ⟨oc, od, kV, doc, pm, an, cdv, ct, osl, rfl, lk, hcd⟩ := F.ex
  refine ⟨fun s us ws _ l1 l2 => ?_, fun a b => a.append ((b.drop 1).append (b.take 1))⟩
  match us, ws, l1, l2 with
  | [u], [v1, v2], _, _ => exact .of_eq rfl
theorem kb_f {K : PySem.W.Frag} {f : Addr} {fd : FuncData} (F : Fun K "__init__" "Fail.__init__" sFailI f fd) : KBn K fd ["self", "name"] 1 ["name"] (· ++ ·) (· ++ ·) := by
  obtain ⟨oc, od, kV, doc, pm, an, cdv, ct, osl, rfl, lk, hcd⟩ := F.ex
  refine ⟨fun s us ws _ l1 l2 => ?_, fun a b => a.append b⟩
  match us, ws, l1, l2 with
  | [u], [v1], _, _ => exact .of_eq rfl
theorem all_mk {w : World} {K : PySem.W.Frag} {h : Heap} {mg : Str → Option Value} {fa : Addr} (X : K.In h) (G : h.Ns mainGlobals mg) (hfa : mg "law" = some (.ref fa))
    {f_W : Addr} {od_W an_W : Option Addr} {sl_W : Array (Option Value)} {oc_W kV_W dc_W pm_W cd_W ct_W : Value}
    {f_X : Addr} {od_X an_X : Option Addr} {sl_X : Array (Option Value)} {oc_X kV_X dc_X pm_X cd_X ct_X : Value}
    {f_as : Addr} {od_as an_as : Option Addr} {sl_as : Array (Option Value)} {oc_as kV_as dc_as pm_as cd_as ct_as : Value}
    {f_fo : Addr} {od_fo an_fo : Option Addr} {sl_fo : Array (Option Value)} {oc_fo kV_fo dc_fo pm_fo cd_fo ct_fo : Value}
    {f_ni : Addr} {od_ni an_ni : Option Addr} {sl_ni : Array (Option Value)} {oc_ni kV_ni dc_ni pm_ni cd_ni ct_ni : Value}
    {f_vi : Addr} {od_vi an_vi : Option Addr} {sl_vi : Array (Option Value)} {oc_vi kV_vi dc_vi pm_vi cd_vi ct_vi : Value}
    {f_D : Addr} {od_D an_D : Option Addr} {sl_D : Array (Option Value)} {oc_D kV_D dc_D pm_D cd_D ct_D : Value}
    {f_N : Addr} {od_N an_N : Option Addr} {sl_N : Array (Option Value)} {oc_N kV_N dc_N pm_N cd_N ct_N : Value}
    {f_C : Addr} {od_C an_C : Option Addr} {sl_C : Array (Option Value)} {oc_C kV_C dc_C pm_C cd_C ct_C : Value}
    {f_cv : Addr} {od_cv an_cv : Option Addr} {sl_cv : Array (Option Value)} {oc_cv kV_cv dc_cv pm_cv cd_cv ct_cv : Value}
    {f_pe : Addr} {od_pe an_pe : Option Addr} {sl_pe : Array (Option Value)} {oc_pe kV_pe dc_pe pm_pe cd_pe ct_pe : Value}
    {f_dr : Addr} {od_dr an_dr : Option Addr} {sl_dr : Array (Option Value)} {oc_dr kV_dr dc_dr pm_dr cd_dr ct_dr : Value}
    {f_pi : Addr} {od_pi an_pi : Option Addr} {sl_pi : Array (Option Value)} {oc_pi kV_pi dc_pi pm_pi cd_pi ct_pi : Value}
    {f_pl : Addr} {od_pl an_pl : Option Addr} {sl_pl : Array (Option Value)} {oc_pl kV_pl dc_pl pm_pl cd_pl ct_pl : Value}
    {f_ma : Addr} {od_ma an_ma : Option Addr} {sl_ma : Array (Option Value)} {oc_ma kV_ma dc_ma pm_ma cd_ma ct_ma : Value}
    {f_na : Addr} {od_na an_na : Option Addr} {sl_na : Array (Option Value)} {oc_na kV_na dc_na pm_na cd_na ct_na : Value}
    {f_pa : Addr} {od_pa an_pa : Option Addr} {sl_pa : Array (Option Value)} {oc_pa kV_pa dc_pa pm_pa cd_pa ct_pa : Value}
    {f_tx : Addr} {od_tx an_tx : Option Addr} {sl_tx : Array (Option Value)} {oc_tx kV_tx dc_tx pm_tx cd_tx ct_tx : Value}
    {f_fc : Addr} {od_fc an_fc : Option Addr} {sl_fc : Array (Option Value)} {oc_fc kV_fc dc_fc pm_fc cd_fc ct_fc : Value}
    {f_la : Addr} {od_la an_la : Option Addr} {sl_la : Array (Option Value)} {oc_la kV_la dc_la pm_la cd_la ct_la : Value}
    {cD : Addr}
    {cSi : Addr}
    {cBl : Addr}
    {cP : Addr}
    {cC : Addr}
    {cY : Addr}
    {cF : Addr}
    {cL : Addr}
    {cS : Addr}
    {cH : Addr}
    {cG : Addr}
    {f_ip : Addr} {od_ip an_ip : Option Addr} {sl_ip : Array (Option Value)} {oc_ip kV_ip dc_ip pm_ip cd_ip ct_ip : Value}
    {f_ep : Addr} {od_ep an_ep : Option Addr} {sl_ep : Array (Option Value)} {oc_ep kV_ep dc_ep pm_ep cd_ep ct_ep : Value}
    {f_tp : Addr} {od_tp an_tp : Option Addr} {sl_tp : Array (Option Value)} {oc_tp kV_tp dc_tp pm_tp cd_tp ct_tp : Value}
    {f_ic : Addr} {od_ic an_ic : Option Addr} {sl_ic : Array (Option Value)} {oc_ic kV_ic dc_ic pm_ic cd_ic ct_ic : Value}
    {f_ec : Addr} {od_ec an_ec : Option Addr} {sl_ec : Array (Option Value)} {oc_ec kV_ec dc_ec pm_ec cd_ec ct_ec : Value}
    {f_tc : Addr} {od_tc an_tc : Option Addr} {sl_tc : Array (Option Value)} {oc_tc kV_tc dc_tc pm_tc cd_tc ct_tc : Value}
    {f_iy : Addr} {od_iy an_iy : Option Addr} {sl_iy : Array (Option Value)} {oc_iy kV_iy dc_iy pm_iy cd_iy ct_iy : Value}
    {f_ey : Addr} {od_ey an_ey : Option Addr} {sl_ey : Array (Option Value)} {oc_ey kV_ey dc_ey pm_ey cd_ey ct_ey : Value}
    {f_ty : Addr} {od_ty an_ty : Option Addr} {sl_ty : Array (Option Value)} {oc_ty kV_ty dc_ty pm_ty cd_ty ct_ty : Value}
    {f_ig : Addr} {od_ig an_ig : Option Addr} {sl_ig : Array (Option Value)} {oc_ig kV_ig dc_ig pm_ig cd_ig ct_ig : Value}
    {f_eg : Addr} {od_eg an_eg : Option Addr} {sl_eg : Array (Option Value)} {oc_eg kV_eg dc_eg pm_eg cd_eg ct_eg : Value}
    {f_tg : Addr} {od_tg an_tg : Option Addr} {sl_tg : Array (Option Value)} {oc_tg kV_tg dc_tg pm_tg cd_tg ct_tg : Value}
    {f_il : Addr} {od_il an_il : Option Addr} {sl_il : Array (Option Value)} {oc_il kV_il dc_il pm_il cd_il ct_il : Value}
    {f_el : Addr} {od_el an_el : Option Addr} {sl_el : Array (Option Value)} {oc_el kV_el dc_el pm_el cd_el ct_el : Value}
    {f_tl : Addr} {od_tl an_tl : Option Addr} {sl_tl : Array (Option Value)} {oc_tl kV_tl dc_tl pm_tl cd_tl ct_tl : Value}
    {f_is : Addr} {od_is an_is : Option Addr} {sl_is : Array (Option Value)} {oc_is kV_is dc_is pm_is cd_is ct_is : Value}
    {f_es : Addr} {od_es an_es : Option Addr} {sl_es : Array (Option Value)} {oc_es kV_es dc_es pm_es cd_es ct_es : Value}
    {f_ts : Addr} {od_ts an_ts : Option Addr} {sl_ts : Array (Option Value)} {oc_ts kV_ts dc_ts pm_ts cd_ts ct_ts : Value}
    {f_ir : Addr} {od_ir an_ir : Option Addr} {sl_ir : Array (Option Value)} {oc_ir kV_ir dc_ir pm_ir cd_ir ct_ir : Value}
    {f_qe : Addr} {od_qe an_qe : Option Addr} {sl_qe : Array (Option Value)} {oc_qe kV_qe dc_qe pm_qe cd_qe ct_qe : Value}
    {f_bl : Addr} {od_bl an_bl : Option Addr} {sl_bl : Array (Option Value)} {oc_bl kV_bl dc_bl pm_bl cd_bl ct_bl : Value}
    {aK aS aF aN : Addr} {LT : Str} {tkl tkn tk3 tk60 tk6 : Tok} {dK0 dF0 dN0 : Option Addr} {itsK itsF itsN : Array Value} {nTu nTF nTN : Nat} {slTu slTF slTN : Array (Option Value)}
    {aT0 : Addr} {dT0 : Option Addr} {itsT0 : Array Value} {nT0 : Nat} {slT0 : Array (Option Value)} {tw0 : Tok}
    {aT1 : Addr} {dT1 : Option Addr} {itsT1 : Array Value} {nT1 : Nat} {slT1 : Array (Option Value)} {tw1 : Tok}
    {aT2 : Addr} {dT2 : Option Addr} {itsT2 : Array Value} {nT2 : Nat} {slT2 : Array (Option Value)} {tw2 : Tok}
    {aT3 : Addr} {dT3 : Option Addr} {itsT3 : Array Value} {nT3 : Nat} {slT3 : Array (Option Value)} {tw3 : Tok}
    {aT4 : Addr} {dT4 : Option Addr} {itsT4 : Array Value} {nT4 : Nat} {slT4 : Array (Option Value)} {tw4 : Tok}
    {aT5 : Addr} {dT5 : Option Addr} {itsT5 : Array Value} {nT5 : Nat} {slT5 : Array (Option Value)} {tw5 : Tok}
    (a_W : PySem.W.nsIn K mainGlobals "is_whole" = some (some (.ref f_W)))
    (l_W : K.lookup f_W = some ⟨oc_W, od_W, .func (PySem.W.fnOf "is_whole" "is_whole" (defArgs sWhole) (defBody sWhole) (defScope sWhole) .none kV_W dc_W pm_W an_W cd_W ct_W), sl_W⟩)
    (c_W : PySem.W.codeIn K cd_W "is_whole" = true)
    (k_W : PySem.W.keepIn K (.ref f_W) = true)
    (a_X : PySem.W.nsIn K mainGlobals "is_index" = some (some (.ref f_X)))
    (l_X : K.lookup f_X = some ⟨oc_X, od_X, .func (PySem.W.fnOf "is_index" "is_index" (defArgs sIndex) (defBody sIndex) (defScope sIndex) .none kV_X dc_X pm_X an_X cd_X ct_X), sl_X⟩)
    (c_X : PySem.W.codeIn K cd_X "is_index" = true)
    (k_X : PySem.W.keepIn K (.ref f_X) = true)
    (a_as : PySem.W.nsIn K mainGlobals "ascending" = some (some (.ref f_as)))
    (l_as : K.lookup f_as = some ⟨oc_as, od_as, .func (PySem.W.fnOf "ascending" "ascending" (defArgs sAsc) (defBody sAsc) (defScope sAsc) .none kV_as dc_as pm_as an_as cd_as ct_as), sl_as⟩)
    (c_as : PySem.W.codeIn K cd_as "ascending" = true)
    (k_as : PySem.W.keepIn K (.ref f_as) = true)
    (a_fo : PySem.W.nsIn K mainGlobals "fields_of" = some (some (.ref f_fo)))
    (l_fo : K.lookup f_fo = some ⟨oc_fo, od_fo, .func (PySem.W.fnOf "fields_of" "fields_of" (defArgs sFieldsOf) (defBody sFieldsOf) (defScope sFieldsOf) .none kV_fo dc_fo pm_fo an_fo cd_fo ct_fo), sl_fo⟩)
    (c_fo : PySem.W.codeIn K cd_fo "fields_of" = true)
    (k_fo : PySem.W.keepIn K (.ref f_fo) = true)
    (a_ni : PySem.W.nsIn K mainGlobals "names_in" = some (some (.ref f_ni)))
    (l_ni : K.lookup f_ni = some ⟨oc_ni, od_ni, .func (PySem.W.fnOf "names_in" "names_in" (defArgs sNamesIn) (defBody sNamesIn) (defScope sNamesIn) .none kV_ni dc_ni pm_ni an_ni cd_ni ct_ni), sl_ni⟩)
    (c_ni : PySem.W.codeIn K cd_ni "names_in" = true)
    (k_ni : PySem.W.keepIn K (.ref f_ni) = true)
    (a_vi : PySem.W.nsIn K mainGlobals "values_in" = some (some (.ref f_vi)))
    (l_vi : K.lookup f_vi = some ⟨oc_vi, od_vi, .func (PySem.W.fnOf "values_in" "values_in" (defArgs sValuesIn) (defBody sValuesIn) (defScope sValuesIn) .none kV_vi dc_vi pm_vi an_vi cd_vi ct_vi), sl_vi⟩)
    (c_vi : PySem.W.codeIn K cd_vi "values_in" = true)
    (k_vi : PySem.W.keepIn K (.ref f_vi) = true)
    (a_D : PySem.W.nsIn K mainGlobals "is_word" = some (some (.ref f_D)))
    (l_D : K.lookup f_D = some ⟨oc_D, od_D, .func (PySem.W.fnOf "is_word" "is_word" (defArgs sWord) (defBody sWord) (defScope sWord) .none kV_D dc_D pm_D an_D cd_D ct_D), sl_D⟩)
    (c_D : PySem.W.codeIn K cd_D "is_word" = true)
    (k_D : PySem.W.keepIn K (.ref f_D) = true)
    (a_N : PySem.W.nsIn K mainGlobals "is_name" = some (some (.ref f_N)))
    (l_N : K.lookup f_N = some ⟨oc_N, od_N, .func (PySem.W.fnOf "is_name" "is_name" (defArgs sName) (defBody sName) (defScope sName) .none kV_N dc_N pm_N an_N cd_N ct_N), sl_N⟩)
    (c_N : PySem.W.codeIn K cd_N "is_name" = true)
    (k_N : PySem.W.keepIn K (.ref f_N) = true)
    (a_C : PySem.W.nsIn K mainGlobals "check_name" = some (some (.ref f_C)))
    (l_C : K.lookup f_C = some ⟨oc_C, od_C, .func (PySem.W.fnOf "check_name" "check_name" (defArgs sCheck) (defBody sCheck) (defScope sCheck) .none kV_C dc_C pm_C an_C cd_C ct_C), sl_C⟩)
    (c_C : PySem.W.codeIn K cd_C "check_name" = true)
    (k_C : PySem.W.keepIn K (.ref f_C) = true)
    (a_cv : PySem.W.nsIn K mainGlobals "_check_value" = some (some (.ref f_cv)))
    (l_cv : K.lookup f_cv = some ⟨oc_cv, od_cv, .func (PySem.W.fnOf "_check_value" "_check_value" (defArgs sChkVal) (defBody sChkVal) (defScope sChkVal) .none kV_cv dc_cv pm_cv an_cv cd_cv ct_cv), sl_cv⟩)
    (c_cv : PySem.W.codeIn K cd_cv "_check_value" = true)
    (k_cv : PySem.W.keepIn K (.ref f_cv) = true)
    (a_pe : PySem.W.nsIn K mainGlobals "_law_pen" = some (some (.ref f_pe)))
    (l_pe : K.lookup f_pe = some ⟨oc_pe, od_pe, .func (PySem.W.fnOf "_law_pen" "_law_pen" (defArgs sPen) (defBody sPen) (defScope sPen) .none kV_pe dc_pe pm_pe an_pe cd_pe ct_pe), sl_pe⟩)
    (c_pe : PySem.W.codeIn K cd_pe "_law_pen" = true)
    (k_pe : PySem.W.keepIn K (.ref f_pe) = true)
    (a_dr : PySem.W.nsIn K mainGlobals "_law_draw" = some (some (.ref f_dr)))
    (l_dr : K.lookup f_dr = some ⟨oc_dr, od_dr, .func (PySem.W.fnOf "_law_draw" "_law_draw" (defArgs sDraw) (defBody sDraw) (defScope sDraw) .none kV_dr dc_dr pm_dr an_dr cd_dr ct_dr), sl_dr⟩)
    (c_dr : PySem.W.codeIn K cd_dr "_law_draw" = true)
    (k_dr : PySem.W.keepIn K (.ref f_dr) = true)
    (a_pi : PySem.W.nsIn K mainGlobals "_law_pick" = some (some (.ref f_pi)))
    (l_pi : K.lookup f_pi = some ⟨oc_pi, od_pi, .func (PySem.W.fnOf "_law_pick" "_law_pick" (defArgs sPick) (defBody sPick) (defScope sPick) .none kV_pi dc_pi pm_pi an_pi cd_pi ct_pi), sl_pi⟩)
    (c_pi : PySem.W.codeIn K cd_pi "_law_pick" = true)
    (k_pi : PySem.W.keepIn K (.ref f_pi) = true)
    (a_pl : PySem.W.nsIn K mainGlobals "_law_plain" = some (some (.ref f_pl)))
    (l_pl : K.lookup f_pl = some ⟨oc_pl, od_pl, .func (PySem.W.fnOf "_law_plain" "_law_plain" (defArgs sPlain) (defBody sPlain) (defScope sPlain) .none kV_pl dc_pl pm_pl an_pl cd_pl ct_pl), sl_pl⟩)
    (c_pl : PySem.W.codeIn K cd_pl "_law_plain" = true)
    (k_pl : PySem.W.keepIn K (.ref f_pl) = true)
    (a_ma : PySem.W.nsIn K mainGlobals "_law_made" = some (some (.ref f_ma)))
    (l_ma : K.lookup f_ma = some ⟨oc_ma, od_ma, .func (PySem.W.fnOf "_law_made" "_law_made" (defArgs sMade) (defBody sMade) (defScope sMade) .none kV_ma dc_ma pm_ma an_ma cd_ma ct_ma), sl_ma⟩)
    (c_ma : PySem.W.codeIn K cd_ma "_law_made" = true)
    (k_ma : PySem.W.keepIn K (.ref f_ma) = true)
    (a_na : PySem.W.nsIn K mainGlobals "_law_named" = some (some (.ref f_na)))
    (l_na : K.lookup f_na = some ⟨oc_na, od_na, .func (PySem.W.fnOf "_law_named" "_law_named" (defArgs sNamed) (defBody sNamed) (defScope sNamed) .none kV_na dc_na pm_na an_na cd_na ct_na), sl_na⟩)
    (c_na : PySem.W.codeIn K cd_na "_law_named" = true)
    (k_na : PySem.W.keepIn K (.ref f_na) = true)
    (a_pa : PySem.W.nsIn K mainGlobals "_law_parts" = some (some (.ref f_pa)))
    (l_pa : K.lookup f_pa = some ⟨oc_pa, od_pa, .func (PySem.W.fnOf "_law_parts" "_law_parts" (defArgs sParts) (defBody sParts) (defScope sParts) .none kV_pa dc_pa pm_pa an_pa cd_pa ct_pa), sl_pa⟩)
    (c_pa : PySem.W.codeIn K cd_pa "_law_parts" = true)
    (k_pa : PySem.W.keepIn K (.ref f_pa) = true)
    (a_tx : PySem.W.nsIn K mainGlobals "_law_text" = some (some (.ref f_tx)))
    (l_tx : K.lookup f_tx = some ⟨oc_tx, od_tx, .func (PySem.W.fnOf "_law_text" "_law_text" (defArgs sText) (defBody sText) (defScope sText) .none kV_tx dc_tx pm_tx an_tx cd_tx ct_tx), sl_tx⟩)
    (c_tx : PySem.W.codeIn K cd_tx "_law_text" = true)
    (k_tx : PySem.W.keepIn K (.ref f_tx) = true)
    (a_fc : PySem.W.nsIn K mainGlobals "_law_face_right" = some (some (.ref f_fc)))
    (l_fc : K.lookup f_fc = some ⟨oc_fc, od_fc, .func (PySem.W.fnOf "_law_face_right" "_law_face_right" (defArgs sFace) (defBody sFace) (defScope sFace) .none kV_fc dc_fc pm_fc an_fc cd_fc ct_fc), sl_fc⟩)
    (c_fc : PySem.W.codeIn K cd_fc "_law_face_right" = true)
    (k_fc : PySem.W.keepIn K (.ref f_fc) = true)
    (a_la : PySem.W.nsIn K mainGlobals "law" = some (some (.ref f_la)))
    (l_la : K.lookup f_la = some ⟨oc_la, od_la, .func (PySem.W.fnOf "law" "law" (defArgs sLaw) (defBody sLaw) (defScope sLaw) .none kV_la dc_la pm_la an_la cd_la ct_la), sl_la⟩)
    (c_la : PySem.W.codeIn K cd_la "law" = true)
    (k_la : PySem.W.keepIn K (.ref f_la) = true)
    (g_cD : PySem.W.nsIn K mainGlobals "Deed" = some (some (.ref cD)))
    (g_cSi : PySem.W.nsIn K mainGlobals "Simple" = some (some (.ref cSi)))
    (g_cBl : PySem.W.nsIn K mainGlobals "Blocked" = some (some (.ref cBl)))
    (g_cP : PySem.W.nsIn K mainGlobals "Put" = some (some (.ref cP)))
    (g_cC : PySem.W.nsIn K mainGlobals "Copy" = some (some (.ref cC)))
    (g_cY : PySem.W.nsIn K mainGlobals "Say" = some (some (.ref cY)))
    (g_cF : PySem.W.nsIn K mainGlobals "Fail" = some (some (.ref cF)))
    (g_cL : PySem.W.nsIn K mainGlobals "Leave" = some (some (.ref cL)))
    (g_cS : PySem.W.nsIn K mainGlobals "Stop" = some (some (.ref cS)))
    (g_cH : PySem.W.nsIn K mainGlobals "Choose" = some (some (.ref cH)))
    (g_cG : PySem.W.nsIn K mainGlobals "Program" = some (some (.ref cG)))
    (m_ip : PySem.W.findIn K (.ref cP) "__init__" = some (some (.ref f_ip)))
    (l_ip : K.lookup f_ip = some ⟨oc_ip, od_ip, .func (PySem.W.fnOf "__init__" "Put.__init__" (defArgs sPutI) (defBody sPutI) (defScope sPutI) .none kV_ip dc_ip pm_ip an_ip cd_ip ct_ip), sl_ip⟩)
    (c_ip : PySem.W.codeIn K cd_ip "Put.__init__" = true)
    (k_ip : PySem.W.keepIn K (.ref f_ip) = true)
    (n_ip : PySem.W.isFn K (.ref f_ip) = true)
    (m_ep : PySem.W.findIn K (.ref cP) "__eq__" = some (some (.ref f_ep)))
    (l_ep : K.lookup f_ep = some ⟨oc_ep, od_ep, .func (PySem.W.fnOf "__eq__" "Put.__eq__" (defArgs sPutE) (defBody sPutE) (defScope sPutE) .none kV_ep dc_ep pm_ep an_ep cd_ep ct_ep), sl_ep⟩)
    (c_ep : PySem.W.codeIn K cd_ep "Put.__eq__" = true)
    (k_ep : PySem.W.keepIn K (.ref f_ep) = true)
    (n_ep : PySem.W.isFn K (.ref f_ep) = true)
    (m_tp : PySem.W.findIn K (.ref cP) "__str__" = some (some (.ref f_tp)))
    (l_tp : K.lookup f_tp = some ⟨oc_tp, od_tp, .func (PySem.W.fnOf "__str__" "Put.__str__" (defArgs sPutT) (defBody sPutT) (defScope sPutT) .none kV_tp dc_tp pm_tp an_tp cd_tp ct_tp), sl_tp⟩)
    (c_tp : PySem.W.codeIn K cd_tp "Put.__str__" = true)
    (k_tp : PySem.W.keepIn K (.ref f_tp) = true)
    (n_tp : PySem.W.isFn K (.ref f_tp) = true)
    (m_ic : PySem.W.findIn K (.ref cC) "__init__" = some (some (.ref f_ic)))
    (l_ic : K.lookup f_ic = some ⟨oc_ic, od_ic, .func (PySem.W.fnOf "__init__" "Copy.__init__" (defArgs sCopyI) (defBody sCopyI) (defScope sCopyI) .none kV_ic dc_ic pm_ic an_ic cd_ic ct_ic), sl_ic⟩)
    (c_ic : PySem.W.codeIn K cd_ic "Copy.__init__" = true)
    (k_ic : PySem.W.keepIn K (.ref f_ic) = true)
    (n_ic : PySem.W.isFn K (.ref f_ic) = true)
    (m_ec : PySem.W.findIn K (.ref cC) "__eq__" = some (some (.ref f_ec)))
    (l_ec : K.lookup f_ec = some ⟨oc_ec, od_ec, .func (PySem.W.fnOf "__eq__" "Copy.__eq__" (defArgs sCopyE) (defBody sCopyE) (defScope sCopyE) .none kV_ec dc_ec pm_ec an_ec cd_ec ct_ec), sl_ec⟩)
    (c_ec : PySem.W.codeIn K cd_ec "Copy.__eq__" = true)
    (k_ec : PySem.W.keepIn K (.ref f_ec) = true)
    (n_ec : PySem.W.isFn K (.ref f_ec) = true)
    (m_tc : PySem.W.findIn K (.ref cC) "__str__" = some (some (.ref f_tc)))
    (l_tc : K.lookup f_tc = some ⟨oc_tc, od_tc, .func (PySem.W.fnOf "__str__" "Copy.__str__" (defArgs sCopyT) (defBody sCopyT) (defScope sCopyT) .none kV_tc dc_tc pm_tc an_tc cd_tc ct_tc), sl_tc⟩)
    (c_tc : PySem.W.codeIn K cd_tc "Copy.__str__" = true)
    (k_tc : PySem.W.keepIn K (.ref f_tc) = true)
    (n_tc : PySem.W.isFn K (.ref f_tc) = true)
    (m_iy : PySem.W.findIn K (.ref cY) "__init__" = some (some (.ref f_iy)))
    (l_iy : K.lookup f_iy = some ⟨oc_iy, od_iy, .func (PySem.W.fnOf "__init__" "Say.__init__" (defArgs sSayI) (defBody sSayI) (defScope sSayI) .none kV_iy dc_iy pm_iy an_iy cd_iy ct_iy), sl_iy⟩)
    (c_iy : PySem.W.codeIn K cd_iy "Say.__init__" = true)
    (k_iy : PySem.W.keepIn K (.ref f_iy) = true)
    (n_iy : PySem.W.isFn K (.ref f_iy) = true)
    (m_ey : PySem.W.findIn K (.ref cY) "__eq__" = some (some (.ref f_ey)))
    (l_ey : K.lookup f_ey = some ⟨oc_ey, od_ey, .func (PySem.W.fnOf "__eq__" "Say.__eq__" (defArgs sSayE) (defBody sSayE) (defScope sSayE) .none kV_ey dc_ey pm_ey an_ey cd_ey ct_ey), sl_ey⟩)
    (c_ey : PySem.W.codeIn K cd_ey "Say.__eq__" = true)
    (k_ey : PySem.W.keepIn K (.ref f_ey) = true)
    (n_ey : PySem.W.isFn K (.ref f_ey) = true)
    (m_ty : PySem.W.findIn K (.ref cY) "__str__" = some (some (.ref f_ty)))
    (l_ty : K.lookup f_ty = some ⟨oc_ty, od_ty, .func (PySem.W.fnOf "__str__" "Say.__str__" (defArgs sSayT) (defBody sSayT) (defScope sSayT) .none kV_ty dc_ty pm_ty an_ty cd_ty ct_ty), sl_ty⟩)
    (c_ty : PySem.W.codeIn K cd_ty "Say.__str__" = true)
    (k_ty : PySem.W.keepIn K (.ref f_ty) = true)
    (n_ty : PySem.W.isFn K (.ref f_ty) = true)
    (m_ig : PySem.W.findIn K (.ref cF) "__init__" = some (some (.ref f_ig)))
    (l_ig : K.lookup f_ig = some ⟨oc_ig, od_ig, .func (PySem.W.fnOf "__init__" "Fail.__init__" (defArgs sFailI) (defBody sFailI) (defScope sFailI) .none kV_ig dc_ig pm_ig an_ig cd_ig ct_ig), sl_ig⟩)
    (c_ig : PySem.W.codeIn K cd_ig "Fail.__init__" = true)
    (k_ig : PySem.W.keepIn K (.ref f_ig) = true)
    (n_ig : PySem.W.isFn K (.ref f_ig) = true)
    (m_eg : PySem.W.findIn K (.ref cF) "__eq__" = some (some (.ref f_eg)))
    (l_eg : K.lookup f_eg = some ⟨oc_eg, od_eg, .func (PySem.W.fnOf "__eq__" "Fail.__eq__" (defArgs sFailE) (defBody sFailE) (defScope sFailE) .none kV_eg dc_eg pm_eg an_eg cd_eg ct_eg), sl_eg⟩)
    (c_eg : PySem.W.codeIn K cd_eg "Fail.__eq__" = true)
    (k_eg : PySem.W.keepIn K (.ref f_eg) = true)
    (n_eg : PySem.W.isFn K (.ref f_eg) = true)
    (m_tg : PySem.W.findIn K (.ref cF) "__str__" = some (some (.ref f_tg)))
    (l_tg : K.lookup f_tg = some ⟨oc_tg, od_tg, .func (PySem.W.fnOf "__str__" "Fail.__str__" (defArgs sFailT) (defBody sFailT) (defScope sFailT) .none kV_tg dc_tg pm_tg an_tg cd_tg ct_tg), sl_tg⟩)
    (c_tg : PySem.W.codeIn K cd_tg "Fail.__str__" = true)
    (k_tg : PySem.W.keepIn K (.ref f_tg) = true)
    (n_tg : PySem.W.isFn K (.ref f_tg) = true)
    (m_il : PySem.W.findIn K (.ref cL) "__init__" = some (some (.ref f_il)))
    (l_il : K.lookup f_il = some ⟨oc_il, od_il, .func (PySem.W.fnOf "__init__" "Leave.__init__" (defArgs sLeaveI) (defBody sLeaveI) (defScope sLeaveI) .none kV_il dc_il pm_il an_il cd_il ct_il), sl_il⟩)
    (c_il : PySem.W.codeIn K cd_il "Leave.__init__" = true)
    (k_il : PySem.W.keepIn K (.ref f_il) = true)
    (n_il : PySem.W.isFn K (.ref f_il) = true)
    (m_el : PySem.W.findIn K (.ref cL) "__eq__" = some (some (.ref f_el)))
    (l_el : K.lookup f_el = some ⟨oc_el, od_el, .func (PySem.W.fnOf "__eq__" "Leave.__eq__" (defArgs sLeaveE) (defBody sLeaveE) (defScope sLeaveE) .none kV_el dc_el pm_el an_el cd_el ct_el), sl_el⟩)
    (c_el : PySem.W.codeIn K cd_el "Leave.__eq__" = true)
    (k_el : PySem.W.keepIn K (.ref f_el) = true)
    (n_el : PySem.W.isFn K (.ref f_el) = true)
    (m_tl : PySem.W.findIn K (.ref cL) "__str__" = some (some (.ref f_tl)))
    (l_tl : K.lookup f_tl = some ⟨oc_tl, od_tl, .func (PySem.W.fnOf "__str__" "Leave.__str__" (defArgs sLeaveT) (defBody sLeaveT) (defScope sLeaveT) .none kV_tl dc_tl pm_tl an_tl cd_tl ct_tl), sl_tl⟩)
    (c_tl : PySem.W.codeIn K cd_tl "Leave.__str__" = true)
    (k_tl : PySem.W.keepIn K (.ref f_tl) = true)
    (n_tl : PySem.W.isFn K (.ref f_tl) = true)
    (m_is : PySem.W.findIn K (.ref cS) "__init__" = some (some (.ref f_is)))
    (l_is : K.lookup f_is = some ⟨oc_is, od_is, .func (PySem.W.fnOf "__init__" "Stop.__init__" (defArgs sStopI) (defBody sStopI) (defScope sStopI) .none kV_is dc_is pm_is an_is cd_is ct_is), sl_is⟩)
    (c_is : PySem.W.codeIn K cd_is "Stop.__init__" = true)
    (k_is : PySem.W.keepIn K (.ref f_is) = true)
    (n_is : PySem.W.isFn K (.ref f_is) = true)
    (m_es : PySem.W.findIn K (.ref cS) "__eq__" = some (some (.ref f_es)))
    (l_es : K.lookup f_es = some ⟨oc_es, od_es, .func (PySem.W.fnOf "__eq__" "Stop.__eq__" (defArgs sStopE) (defBody sStopE) (defScope sStopE) .none kV_es dc_es pm_es an_es cd_es ct_es), sl_es⟩)
    (c_es : PySem.W.codeIn K cd_es "Stop.__eq__" = true)
    (k_es : PySem.W.keepIn K (.ref f_es) = true)
    (n_es : PySem.W.isFn K (.ref f_es) = true)
    (m_ts : PySem.W.findIn K (.ref cS) "__str__" = some (some (.ref f_ts)))
    (l_ts : K.lookup f_ts = some ⟨oc_ts, od_ts, .func (PySem.W.fnOf "__str__" "Stop.__str__" (defArgs sStopT) (defBody sStopT) (defScope sStopT) .none kV_ts dc_ts pm_ts an_ts cd_ts ct_ts), sl_ts⟩)
    (c_ts : PySem.W.codeIn K cd_ts "Stop.__str__" = true)
    (k_ts : PySem.W.keepIn K (.ref f_ts) = true)
    (n_ts : PySem.W.isFn K (.ref f_ts) = true)
    (m_ir : PySem.W.findIn K (.ref cG) "__init__" = some (some (.ref f_ir)))
    (l_ir : K.lookup f_ir = some ⟨oc_ir, od_ir, .func (PySem.W.fnOf "__init__" "Program.__init__" (defArgs sProgI) (defBody sProgI) (defScope sProgI) .none kV_ir dc_ir pm_ir an_ir cd_ir ct_ir), sl_ir⟩)
    (c_ir : PySem.W.codeIn K cd_ir "Program.__init__" = true)
    (k_ir : PySem.W.keepIn K (.ref f_ir) = true)
    (n_ir : PySem.W.isFn K (.ref f_ir) = true)
    (m_qe : PySem.W.findIn K (.ref cG) "__eq__" = some (some (.ref f_qe)))
    (l_qe : K.lookup f_qe = some ⟨oc_qe, od_qe, .func (PySem.W.fnOf "__eq__" "Program.__eq__" (defArgs sProgE) (defBody sProgE) (defScope sProgE) .none kV_qe dc_qe pm_qe an_qe cd_qe ct_qe), sl_qe⟩)
    (c_qe : PySem.W.codeIn K cd_qe "Program.__eq__" = true)
    (k_qe : PySem.W.keepIn K (.ref f_qe) = true)
    (n_qe : PySem.W.isFn K (.ref f_qe) = true)
    (m_bl : PySem.W.findIn K (.ref cP) "blocks" = some (some (.ref f_bl)))
    (l_bl : K.lookup f_bl = some ⟨oc_bl, od_bl, .func (PySem.W.fnOf "blocks" "Deed.blocks" (defArgs sBlocks) (defBody sBlocks) (defScope sBlocks) .none kV_bl dc_bl pm_bl an_bl cd_bl ct_bl), sl_bl⟩)
    (c_bl : PySem.W.codeIn K cd_bl "Deed.blocks" = true)
    (k_bl : PySem.W.keepIn K (.ref f_bl) = true)
    (n_bl : PySem.W.isFn K (.ref f_bl) = true)
    (b_cC : PySem.W.findIn K (.ref cC) "blocks" = some (some (.ref f_bl)))
    (b_cY : PySem.W.findIn K (.ref cY) "blocks" = some (some (.ref f_bl)))
    (b_cF : PySem.W.findIn K (.ref cF) "blocks" = some (some (.ref f_bl)))
    (b_cL : PySem.W.findIn K (.ref cL) "blocks" = some (some (.ref f_bl)))
    (b_cS : PySem.W.findIn K (.ref cS) "blocks" = some (some (.ref f_bl)))
    (gL : PySem.W.nsIn K mainGlobals "LETTERS" = some (some (.str LT tkl)))
    (eL : decide (LT = abc) = true)
    (gLo : PySem.W.nsIn K mainGlobals "LONGEST" = some (some (.int 8 tkn)))
    (gMV : PySem.W.nsIn K mainGlobals "MOST_VALUE" = some (some (.int 3 tk3)))
    (gMD : PySem.W.nsIn K mainGlobals "MOST_DEEDS" = some (some (.int 60 tk60)))
    (gMN : PySem.W.nsIn K mainGlobals "MOST_NESTED" = some (some (.int 6 tk6)))
    (gK : PySem.W.nsIn K mainGlobals "KEPT_WORDS" = some (some (.ref aK)))
    (lgK : K.lookup aK = some ⟨.type "tuple", dK0, .seq itsK nTu, slTu⟩)
    (vgK : sayB kept itsK.toList = true)
    (zgK : decide (itsK.size ≤ sizeLine) = true)
    (gF : PySem.W.nsIn K mainGlobals "FIELDS" = some (some (.ref aF)))
    (lgF : K.lookup aF = some ⟨.type "tuple", dF0, .seq itsF nTF, slTF⟩)
    (vgF : sayB fieldsK itsF.toList = true)
    (zgF : decide (itsF.size ≤ sizeLine) = true)
    (gN : PySem.W.nsIn K mainGlobals "NAMED" = some (some (.ref aN)))
    (lgN : K.lookup aN = some ⟨.type "tuple", dN0, .seq itsN nTN, slTN⟩)
    (vgN : sayB namedK itsN.toList = true)
    (zgN : decide (itsN.size ≤ sizeLine) = true)
    (gS : PySem.W.nsIn K mainGlobals "SHAPES" = some (some (.ref aS)))
    (hD : He.dicW K aS = some (He.keysIn w.params ["put", "copy", "say", "fail", "none", "stop", "if", "catch", "choose"]))
    (sS0 : PySem.W.nsIn K aS "put" = some (some (.ref aT0)))
    (lT0 : K.lookup aT0 = some ⟨.type "tuple", dT0, .seq itsT0 nT0, slT0⟩)
    (vT0 : sayB ["cell", "value"] itsT0.toList = true)
    (zT0 : decide (itsT0.size ≤ sizeLine) = true)
    (vw0 : PySem.W.findIn K (.ref cP) "WORD" = some (some (.str "put" tw0)))
    (vg0 : PySem.W.specialIn K (.str "put" tw0) "__get__" = some none)
    (vc0 : PySem.W.findCls K (.ref cP) (.type "type") "WORD" = some (.val (.str "put" tw0)))
    (rd0 : rdB K cP = true)
    (hB_cP : clsB K cP fAll = true)
    (sS1 : PySem.W.nsIn K aS "copy" = some (some (.ref aT1)))
    (lT1 : K.lookup aT1 = some ⟨.type "tuple", dT1, .seq itsT1 nT1, slT1⟩)
    (vT1 : sayB ["cell", "cell"] itsT1.toList = true)
    (zT1 : decide (itsT1.size ≤ sizeLine) = true)
    (vw1 : PySem.W.findIn K (.ref cC) "WORD" = some (some (.str "copy" tw1)))
    (vg1 : PySem.W.specialIn K (.str "copy" tw1) "__get__" = some none)
    (vc1 : PySem.W.findCls K (.ref cC) (.type "type") "WORD" = some (.val (.str "copy" tw1)))
    (rd1 : rdB K cC = true)
    (hB_cC : clsB K cC fAll = true)
    (sS2 : PySem.W.nsIn K aS "say" = some (some (.ref aT2)))
    (lT2 : K.lookup aT2 = some ⟨.type "tuple", dT2, .seq itsT2 nT2, slT2⟩)
    (vT2 : sayB ["log", "word"] itsT2.toList = true)
    (zT2 : decide (itsT2.size ≤ sizeLine) = true)
    (vw2 : PySem.W.findIn K (.ref cY) "WORD" = some (some (.str "say" tw2)))
    (vg2 : PySem.W.specialIn K (.str "say" tw2) "__get__" = some none)
    (vc2 : PySem.W.findCls K (.ref cY) (.type "type") "WORD" = some (.val (.str "say" tw2)))
    (rd2 : rdB K cY = true)
    (hB_cY : clsB K cY fAll = true)
    (sS3 : PySem.W.nsIn K aS "fail" = some (some (.ref aT3)))
    (lT3 : K.lookup aT3 = some ⟨.type "tuple", dT3, .seq itsT3 nT3, slT3⟩)
    (vT3 : sayB ["failure"] itsT3.toList = true)
    (zT3 : decide (itsT3.size ≤ sizeLine) = true)
    (vw3 : PySem.W.findIn K (.ref cF) "WORD" = some (some (.str "fail" tw3)))
    (vg3 : PySem.W.specialIn K (.str "fail" tw3) "__get__" = some none)
    (vc3 : PySem.W.findCls K (.ref cF) (.type "type") "WORD" = some (.val (.str "fail" tw3)))
    (rd3 : rdB K cF = true)
    (hB_cF : clsB K cF fAll = true)
    (sS4 : PySem.W.nsIn K aS "none" = some (some (.ref aT4)))
    (lT4 : K.lookup aT4 = some ⟨.type "tuple", dT4, .seq itsT4 nT4, slT4⟩)
    (vT4 : sayB [] itsT4.toList = true)
    (zT4 : decide (itsT4.size ≤ sizeLine) = true)
    (vw4 : PySem.W.findIn K (.ref cL) "WORD" = some (some (.str "none" tw4)))
    (vg4 : PySem.W.specialIn K (.str "none" tw4) "__get__" = some none)
    (vc4 : PySem.W.findCls K (.ref cL) (.type "type") "WORD" = some (.val (.str "none" tw4)))
    (rd4 : rdB K cL = true)
    (hB_cL : clsB K cL fAll = true)
    (sS5 : PySem.W.nsIn K aS "stop" = some (some (.ref aT5)))
    (lT5 : K.lookup aT5 = some ⟨.type "tuple", dT5, .seq itsT5 nT5, slT5⟩)
    (vT5 : sayB [] itsT5.toList = true)
    (zT5 : decide (itsT5.size ≤ sizeLine) = true)
    (vw5 : PySem.W.findIn K (.ref cS) "WORD" = some (some (.str "stop" tw5)))
    (vg5 : PySem.W.specialIn K (.str "stop" tw5) "__get__" = some none)
    (vc5 : PySem.W.findCls K (.ref cS) (.type "type") "WORD" = some (.val (.str "stop" tw5)))
    (rd5 : rdB K cS = true)
    (hB_cS : clsB K cS fAll = true)
    (z_int : PySem.W.nsIn K mainGlobals "int" = some none)
    (z_bool : PySem.W.nsIn K mainGlobals "bool" = some none)
    (z_len : PySem.W.nsIn K mainGlobals "len" = some none)
    (z_abs : PySem.W.nsIn K mainGlobals "abs" = some none)
    (z_list : PySem.W.nsIn K mainGlobals "list" = some none)
    (z_tuple : PySem.W.nsIn K mainGlobals "tuple" = some none)
    (z_dict : PySem.W.nsIn K mainGlobals "dict" = some none)
    (z_range : PySem.W.nsIn K mainGlobals "range" = some none)
    (z_isinstance : PySem.W.nsIn K mainGlobals "isinstance" = some none)
    (z_str : PySem.W.nsIn K mainGlobals "str" = some none)
    (z_all : PySem.W.nsIn K mainGlobals "all" = some none)
    (z_repr : PySem.W.nsIn K mainGlobals "repr" = some none)
    (z_ValueError : PySem.W.nsIn K mainGlobals "ValueError" = some none)
    (z_enumerate : PySem.W.nsIn K mainGlobals "enumerate" = some none)
    (z_sum : PySem.W.nsIn K mainGlobals "sum" = some none)
    (z_max : PySem.W.nsIn K mainGlobals "max" = some none)
    (z_any : PySem.W.nsIn K mainGlobals "any" = some none)
    (z_zip : PySem.W.nsIn K mainGlobals "zip" = some none)
    (z_set : PySem.W.nsIn K mainGlobals "set" = some none)
    (z_sorted : PySem.W.nsIn K mainGlobals "sorted" = some none)
    (hB_cG : clsB K cG ["deeds", "size", "depth", "used_names", "used_values", "cells", "logs", "failures", "chooses"] = true)
    (hOw : ownB K (t6 cP cC cY cF cL cS) = true)
    (hRe : relB K (t6 cP cC cY cF cL cS) cD cSi cBl cH cG = true)
    (hO : objB K = true) :
    ∃ fd : FuncData, Fun K "law" "law" sLaw fa fd ∧ FnScope nLaw ["_law_script"] (defScope sLaw) ∧ (∀ (s : Shared) (u : Value), BindsTo s fd ⟨[u], []⟩ [("_law_script", u)]) ∧ LawBody PySem.Challenge.rw_layerseen_k04_simple_deeds_made w K mg 63 nLaw "law" sLaw fa := by
  have e := hfa.symm.trans (PySem.W.mg_of X G a_la)
  cases e
  have eL' : LT = abc := of_decide_eq_true eL
  subst eL'
  have F_W := fun_mk (st := sWhole) l_W c_W k_W
  have F_X := fun_mk (st := sIndex) l_X c_X k_X
  have F_as := fun_mk (st := sAsc) l_as c_as k_as
  have F_fo := fun_mk (st := sFieldsOf) l_fo c_fo k_fo
  have F_ni := fun_mk (st := sNamesIn) l_ni c_ni k_ni
  have F_vi := fun_mk (st := sValuesIn) l_vi c_vi k_vi
  have F_D := fun_mk (st := sWord) l_D c_D k_D
  have F_N := fun_mk (st := sName) l_N c_N k_N
  have F_C := fun_mk (st := sCheck) l_C c_C k_C
  have F_cv := fun_mk (st := sChkVal) l_cv c_cv k_cv
  have F_pe := fun_mk (st := sPen) l_pe c_pe k_pe
  have F_dr := fun_mk (st := sDraw) l_dr c_dr k_dr
  have F_pi := fun_mk (st := sPick) l_pi c_pi k_pi
  have F_pl := fun_mk (st := sPlain) l_pl c_pl k_pl
  have F_ma := fun_mk (st := sMade) l_ma c_ma k_ma
  have F_na := fun_mk (st := sNamed) l_na c_na k_na
  have F_pa := fun_mk (st := sParts) l_pa c_pa k_pa
  have F_tx := fun_mk (st := sText) l_tx c_tx k_tx
  have F_fc := fun_mk (st := sFace) l_fc c_fc k_fc
  have F_la := fun_mk (st := sLaw) l_la c_la k_la
  have F_ip := fun_mk (st := sPutI) l_ip c_ip k_ip
  have F_ep := fun_mk (st := sPutE) l_ep c_ep k_ep
  have F_tp := fun_mk (st := sPutT) l_tp c_tp k_tp
  have F_ic := fun_mk (st := sCopyI) l_ic c_ic k_ic
  have F_ec := fun_mk (st := sCopyE) l_ec c_ec k_ec
  have F_tc := fun_mk (st := sCopyT) l_tc c_tc k_tc
  have F_iy := fun_mk (st := sSayI) l_iy c_iy k_iy
  have F_ey := fun_mk (st := sSayE) l_ey c_ey k_ey
  have F_ty := fun_mk (st := sSayT) l_ty c_ty k_ty
  have F_ig := fun_mk (st := sFailI) l_ig c_ig k_ig
  have F_eg := fun_mk (st := sFailE) l_eg c_eg k_eg
  have F_tg := fun_mk (st := sFailT) l_tg c_tg k_tg
  have F_il := fun_mk (st := sLeaveI) l_il c_il k_il
  have F_el := fun_mk (st := sLeaveE) l_el c_el k_el
  have F_tl := fun_mk (st := sLeaveT) l_tl c_tl k_tl
  have F_is := fun_mk (st := sStopI) l_is c_is k_is
  have F_es := fun_mk (st := sStopE) l_es c_es k_es
  have F_ts := fun_mk (st := sStopT) l_ts c_ts k_ts
  have F_ir := fun_mk (st := sProgI) l_ir c_ir k_ir
  have F_qe := fun_mk (st := sProgE) l_qe c_qe k_qe
  have F_bl := fun_mk (st := sBlocks) l_bl c_bl k_bl
  have B_W := F_W.binds (ps := ["value"]) fun _ _ _ _ _ _ us hl => match us, hl with | [_], _ => rfl
  have B_X := F_X.binds (ps := ["value", "many"]) fun _ _ _ _ _ _ us hl => match us, hl with | [_, _], _ => rfl
  have B_as := F_as.binds (ps := ["names"]) fun _ _ _ _ _ _ us hl => match us, hl with | [_], _ => rfl
  have B_fo := F_fo.binds (ps := ["deed"]) fun _ _ _ _ _ _ us hl => match us, hl with | [_], _ => rfl
  have B_ni := F_ni.binds (ps := ["deeds"]) fun _ _ _ _ _ _ us hl => match us, hl with | [_], _ => rfl
  have B_vi := F_vi.binds (ps := ["deeds"]) fun _ _ _ _ _ _ us hl => match us, hl with | [_], _ => rfl
  have B_D := F_D.binds (ps := ["value"]) fun _ _ _ _ _ _ us hl => match us, hl with | [_], _ => rfl
  have B_N := F_N.binds (ps := ["value"]) fun _ _ _ _ _ _ us hl => match us, hl with | [_], _ => rfl
  have B_C := F_C.binds (ps := ["value"]) fun _ _ _ _ _ _ us hl => match us, hl with | [_], _ => rfl
  have B_cv := F_cv.binds (ps := ["value"]) fun _ _ _ _ _ _ us hl => match us, hl with | [_], _ => rfl
  have B_pe := F_pe.binds (ps := ["_law_script"]) fun _ _ _ _ _ _ us hl => match us, hl with | [_], _ => rfl
  have B_dr := F_dr.binds (ps := ["_law_pen_here", "_law_many"]) fun _ _ _ _ _ _ us hl => match us, hl with | [_, _], _ => rfl
  have B_pi := F_pi.binds (ps := ["_law_pen_here", "_law_some"]) fun _ _ _ _ _ _ us hl => match us, hl with | [_, _], _ => rfl
  have B_pl := F_pl.binds (ps := ["_law_pen_here"]) fun _ _ _ _ _ _ us hl => match us, hl with | [_], _ => rfl
  have B_ma := F_ma.binds (ps := ["_law_plain_here"]) fun _ _ _ _ _ _ us hl => match us, hl with | [_], _ => rfl
  have B_na := F_na.binds (ps := ["_law_plain_here"]) fun _ _ _ _ _ _ us hl => match us, hl with | [_], _ => rfl
  have B_pa := F_pa.binds (ps := ["_law_made_here", "_law_sort"]) fun _ _ _ _ _ _ us hl => match us, hl with | [_, _], _ => rfl
  have B_tx := F_tx.binds (ps := ["_law_plain_here"]) fun _ _ _ _ _ _ us hl => match us, hl with | [_], _ => rfl
  have B_fc := F_fc.binds (ps := ["_law_plain_here"]) fun _ _ _ _ _ _ us hl => match us, hl with | [_], _ => rfl
  have B_ip := F_ip.binds (ps := ["self", "cell", "value"]) fun _ _ _ _ _ _ us hl => match us, hl with | [_, _, _], _ => rfl
  have B_ep := F_ep.binds (ps := ["self", "other"]) fun _ _ _ _ _ _ us hl => match us, hl with | [_, _], _ => rfl
  have B_tp := F_tp.binds (ps := ["self"]) fun _ _ _ _ _ _ us hl => match us, hl with | [_], _ => rfl
  have B_ic := F_ic.binds (ps := ["self", "cell", "other"]) fun _ _ _ _ _ _ us hl => match us, hl with | [_, _, _], _ => rfl
  have B_ec := F_ec.binds (ps := ["self", "other"]) fun _ _ _ _ _ _ us hl => match us, hl with | [_, _], _ => rfl
  have B_tc := F_tc.binds (ps := ["self"]) fun _ _ _ _ _ _ us hl => match us, hl with | [_], _ => rfl
  have B_iy := F_iy.binds (ps := ["self", "log", "word"]) fun _ _ _ _ _ _ us hl => match us, hl with | [_, _, _], _ => rfl
  have B_ey := F_ey.binds (ps := ["self", "other"]) fun _ _ _ _ _ _ us hl => match us, hl with | [_, _], _ => rfl
  have B_ty := F_ty.binds (ps := ["self"]) fun _ _ _ _ _ _ us hl => match us, hl with | [_], _ => rfl
  have B_ig := F_ig.binds (ps := ["self", "name"]) fun _ _ _ _ _ _ us hl => match us, hl with | [_, _], _ => rfl
  have B_eg := F_eg.binds (ps := ["self", "other"]) fun _ _ _ _ _ _ us hl => match us, hl with | [_, _], _ => rfl
  have B_tg := F_tg.binds (ps := ["self"]) fun _ _ _ _ _ _ us hl => match us, hl with | [_], _ => rfl
  have B_il := F_il.binds (ps := ["self"]) fun _ _ _ _ _ _ us hl => match us, hl with | [_], _ => rfl
  have B_el := F_el.binds (ps := ["self", "other"]) fun _ _ _ _ _ _ us hl => match us, hl with | [_, _], _ => rfl
  have B_tl := F_tl.binds (ps := ["self"]) fun _ _ _ _ _ _ us hl => match us, hl with | [_], _ => rfl
  have B_is := F_is.binds (ps := ["self"]) fun _ _ _ _ _ _ us hl => match us, hl with | [_], _ => rfl
  have B_es := F_es.binds (ps := ["self", "other"]) fun _ _ _ _ _ _ us hl => match us, hl with | [_, _], _ => rfl
  have B_ts := F_ts.binds (ps := ["self"]) fun _ _ _ _ _ _ us hl => match us, hl with | [_], _ => rfl
  have B_qe := F_qe.binds (ps := ["self", "other"]) fun _ _ _ _ _ _ us hl => match us, hl with | [_, _], _ => rfl
  have B_bl := F_bl.binds (ps := ["self"]) fun _ _ _ _ _ _ us hl => match us, hl with | [_], _ => rfl
  have T : Txt mg := ⟨PySem.W.mg_none_of X G z_int, PySem.W.mg_none_of X G z_bool, PySem.W.mg_none_of X G z_len, PySem.W.mg_none_of X G z_abs, PySem.W.mg_none_of X G z_list, PySem.W.mg_none_of X G z_tuple, PySem.W.mg_none_of X G z_dict, PySem.W.mg_none_of X G z_range, PySem.W.mg_none_of X G z_isinstance, PySem.W.mg_none_of X G z_str, PySem.W.mg_none_of X G z_all, PySem.W.mg_none_of X G z_repr, PySem.W.mg_none_of X G z_ValueError, PySem.W.mg_none_of X G z_enumerate, PySem.W.mg_none_of X G z_sum, PySem.W.mg_none_of X G z_max, PySem.W.mg_none_of X G z_any, PySem.W.mg_none_of X G z_zip, PySem.W.mg_none_of X G z_set, PySem.W.mg_none_of X G z_sorted⟩
  have tK : ∀ H, SqT K H aK (kept.map V.str) := fun H => .inr ⟨_, itsK, nTu, lgK, rfl, rfl, of_decide_eq_true zgK, say_of _ _ vgK⟩
  have tF : ∀ H, SqT K H aF (fieldsK.map V.str) := fun H => .inr ⟨_, itsF, nTF, lgF, rfl, rfl, of_decide_eq_true zgF, say_of _ _ vgF⟩
  have tN : ∀ H, SqT K H aN (namedK.map V.str) := fun H => .inr ⟨_, itsN, nTN, lgN, rfl, rfl, of_decide_eq_true zgN, say_of _ _ vgN⟩
  obtain ⟨esD, nD, kd⟩ := He.dicW_ok hD
  have kt0 : KDct K w aS "put" (.ref aT0) := ⟨esD, nD, _, kd.at_, kd.lit, sS0, rfl⟩
  have st0 : ∀ H, SqT K H aT0 ((["cell", "value"] : List Str).map V.str) := fun H => .inr ⟨_, itsT0, nT0, lT0, rfl, rfl, of_decide_eq_true zT0, say_of _ _ vT0⟩
  have w0 : ∃ u, Con K cP "WORD" (.str "put") u := ⟨_, vw0, ⟨_, rfl⟩, vg0, by decide +kernel⟩
  have kt1 : KDct K w aS "copy" (.ref aT1) := ⟨esD, nD, _, kd.at_, kd.lit, sS1, rfl⟩
  have st1 : ∀ H, SqT K H aT1 ((["cell", "cell"] : List Str).map V.str) := fun H => .inr ⟨_, itsT1, nT1, lT1, rfl, rfl, of_decide_eq_true zT1, say_of _ _ vT1⟩
  have w1 : ∃ u, Con K cC "WORD" (.str "copy") u := ⟨_, vw1, ⟨_, rfl⟩, vg1, by decide +kernel⟩
  have kt2 : KDct K w aS "say" (.ref aT2) := ⟨esD, nD, _, kd.at_, kd.lit, sS2, rfl⟩
  have st2 : ∀ H, SqT K H aT2 ((["log", "word"] : List Str).map V.str) := fun H => .inr ⟨_, itsT2, nT2, lT2, rfl, rfl, of_decide_eq_true zT2, say_of _ _ vT2⟩
  have w2 : ∃ u, Con K cY "WORD" (.str "say") u := ⟨_, vw2, ⟨_, rfl⟩, vg2, by decide +kernel⟩
  have kt3 : KDct K w aS "fail" (.ref aT3) := ⟨esD, nD, _, kd.at_, kd.lit, sS3, rfl⟩
  have st3 : ∀ H, SqT K H aT3 ((["failure"] : List Str).map V.str) := fun H => .inr ⟨_, itsT3, nT3, lT3, rfl, rfl, of_decide_eq_true zT3, say_of _ _ vT3⟩
  have w3 : ∃ u, Con K cF "WORD" (.str "fail") u := ⟨_, vw3, ⟨_, rfl⟩, vg3, by decide +kernel⟩
  have kt4 : KDct K w aS "none" (.ref aT4) := ⟨esD, nD, _, kd.at_, kd.lit, sS4, rfl⟩
  have st4 : ∀ H, SqT K H aT4 (([] : List Str).map V.str) := fun H => .inr ⟨_, itsT4, nT4, lT4, rfl, rfl, of_decide_eq_true zT4, say_of _ _ vT4⟩
  have w4 : ∃ u, Con K cL "WORD" (.str "none") u := ⟨_, vw4, ⟨_, rfl⟩, vg4, by decide +kernel⟩
  have kt5 : KDct K w aS "stop" (.ref aT5) := ⟨esD, nD, _, kd.at_, kd.lit, sS5, rfl⟩
  have st5 : ∀ H, SqT K H aT5 (([] : List Str).map V.str) := fun H => .inr ⟨_, itsT5, nT5, lT5, rfl, rfl, of_decide_eq_true zT5, say_of _ _ vT5⟩
  have w5 : ∃ u, Con K cS "WORD" (.str "stop") u := ⟨_, vw5, ⟨_, rfl⟩, vg5, by decide +kernel⟩
  have C_cP := cls_mk hB_cP
  have C_cC := cls_mk hB_cC
  have C_cY := cls_mk hB_cY
  have C_cF := cls_mk hB_cF
  have C_cL := cls_mk hB_cL
  have C_cS := cls_mk hB_cS
  have C_cG := cls_mk hB_cG
  have hO' := hO
  unfold objB at hO'
  simp only [Bool.and_eq_true, decide_eq_true_eq] at hO'
  have ow := own_mk hOw
  have re := rel_mk hRe
  have S : Dd K mg (t6 cP cC cY cF cL cS) := ⟨fun i hi => match i, hi with | 0, _ => PySem.W.mg_of X G g_cP | 1, _ => PySem.W.mg_of X G g_cC | 2, _ => PySem.W.mg_of X G g_cY | 3, _ => PySem.W.mg_of X G g_cF | 4, _ => PySem.W.mg_of X G g_cL | 5, _ => PySem.W.mg_of X G g_cS, fun i hi => match i, hi with | 0, _ => C_cP.c | 1, _ => C_cC.c | 2, _ => C_cY.c | 3, _ => C_cF.c | 4, _ => C_cL.c | 5, _ => C_cS.c, fun i hi => match i, hi with | 0, _ => C_cP.no | 1, _ => C_cC.no | 2, _ => C_cY.no | 3, _ => C_cF.no | 4, _ => C_cL.no | 5, _ => C_cS.no, fun i hi => match i, hi with | 0, _ => C_cP.dc | 1, _ => C_cC.dc | 2, _ => C_cY.dc | 3, _ => C_cF.dc | 4, _ => C_cL.dc | 5, _ => C_cS.dc, fun i hi => match i, hi with | 0, _ => C_cP.mo | 1, _ => C_cC.mo | 2, _ => C_cY.mo | 3, _ => C_cF.mo | 4, _ => C_cL.mo | 5, _ => C_cS.mo, hO'.1, hO'.2, fun i j hi hj => ((ow i hi).2.1 j hj).2⟩
  have wd : ∀ k : DK, ∃ u, Con K ((t6 cP cC cY cF cL cS) k.ix) "WORD" (.str k.wd) u := fun k => match k with | .put _ _ => w0 | .copy _ _ => w1 | .say _ _ => w2 | .fail _ => w3 | .lv => w4 | .st => w5
  have Sh : ShK K w mg (t6 cP cC cY cF cL cS) aS aF (t6 aT0 aT1 aT2 aT3 aT4 aT5) := ⟨(PySem.W.mg_of X G gS), (PySem.W.mg_of X G gF), tF, fun k => match k with | .put _ _ => kt0 | .copy _ _ => kt1 | .say _ _ => kt2 | .fail _ => kt3 | .lv => kt4 | .st => kt5, fun k => match k with | .put _ _ => st0 | .copy _ _ => st1 | .say _ _ => st2 | .fail _ => st3 | .lv => st4 | .st => st5, wd⟩
  refine ⟨_, F_la, scLaw, fun s v => .of_eq rfl, ?_⟩
  refine law_body (A := (t6 cP cC cY cF cL cS)) (fI := (t6 f_ip f_ic f_iy f_ig f_il f_is)) (fL := (t4 f_pe f_pl f_ma f_fc)) (dI := (t6 (fdOf F_ip) (fdOf F_ic) (fdOf F_iy) (fdOf F_ig) (fdOf F_il) (fdOf F_is))) (dL := (t4 (fdOf F_pe) (fdOf F_pl) (fdOf F_ma) (fdOf F_fc))) fun base hKb hNb => ?_
  have G_D : FnOk PR w K mg base CX0 1 f_D (fdOf F_D) ["value"] (spWord K My.wd) := ok_word F_D T (PySem.W.mg_of X G gL) (PySem.W.mg_of X G gLo)
  have G_N : FnOk PR w K mg base CX0 2 f_N (fdOf F_N) ["value"] (spWord K nm) := ok_name F_N F_D B_D (PySem.W.mg_of X G a_D) G_D (PySem.W.mg_of X G gK) tK
  have G_C : FnOk PR w K mg base CX0 3 f_C (fdOf F_C) ["value"] spChk := ok_check F_C F_N B_N (PySem.W.mg_of X G a_N) G_N
  have G_W : FnOk PR w K mg base CX0 1 f_W (fdOf F_W) ["value"] spWhole1 := ok_whole F_W T
  have G_X : FnOk PR w K mg base CX0 2 f_X (fdOf F_X) ["value", "many"] spIdx1 := ok_index F_X F_W B_W (PySem.W.mg_of X G a_W) G_W
  have G_cv : FnOk PR w K mg base CX0 3 f_cv (fdOf F_cv) ["value"] spCkV1 := ok_ckV F_cv F_X B_X (PySem.W.mg_of X G a_X) G_X (PySem.W.mg_of X G gMV)
  have G_as : FnOk PR w K mg base CX0 1 f_as (fdOf F_as) ["names"] (spAsc K) := ok_asc F_as T
  have G_bl : FnOk PR w K mg base CX0 1 f_bl (fdOf F_bl) ["self"] spBlocks := ok_blocks F_bl
  have G_fo : FnOk PR w K mg base CX0 1 f_fo (fdOf F_fo) ["deed"] (spFo (t6 cP cC cY cF cL cS)) := ok_fieldsOf F_fo T S Sh
  have Fo : FnB PR w K mg base 1 "fields_of" sFieldsOf f_fo (fdOf F_fo) ["deed"] (spFo (t6 cP cC cY cF cL cS)) := ⟨F_fo, B_fo, (PySem.W.mg_of X G a_fo), G_fo⟩
  have Bl : ∀ j, j < 6 → MethB PR w K mg base 1 ((t6 cP cC cY cF cL cS) j) "blocks" f_bl (fdOf F_bl) ["self"] spBlocks := fun i hi => match i, hi with | 0, _ => ⟨⟨m_bl, n_bl, k_bl⟩, B_bl, G_bl⟩ | 1, _ => ⟨⟨b_cC, n_bl, k_bl⟩, B_bl, G_bl⟩ | 2, _ => ⟨⟨b_cY, n_bl, k_bl⟩, B_bl, G_bl⟩ | 3, _ => ⟨⟨b_cF, n_bl, k_bl⟩, B_bl, G_bl⟩ | 4, _ => ⟨⟨b_cL, n_bl, k_bl⟩, B_bl, G_bl⟩ | 5, _ => ⟨⟨b_cS, n_bl, k_bl⟩, B_bl, G_bl⟩
  have G_ni : FnOk PR w K mg base CX0 2 f_ni (fdOf F_ni) ["deeds"] (spNi (t6 cP cC cY cF cL cS)) := ok_namesIn F_ni S (PySem.W.mg_of X G gN) tN Fo Bl
  have G_vi : FnOk PR w K mg base CX0 2 f_vi (fdOf F_vi) ["deeds"] (spVi (t6 cP cC cY cF cL cS)) := ok_valuesIn F_vi S Fo Bl
  have Zp : PgK PR w K mg base (t6 cP cC cY cF cL cS) cG cD cH f_bl f_ni f_vi f_as (fdOf F_bl) (fdOf F_ni) (fdOf F_vi) (fdOf F_as) := ⟨T, S, C_cG.c, C_cG.no, (PySem.W.mg_of X G g_cD), fun i hi => (re i hi).1, (PySem.W.mg_of X G g_cH), fun i hi => (re i hi).2.2.2.1, ⟨_, (PySem.W.mg_of X G gMD)⟩, ⟨_, (PySem.W.mg_of X G gMN)⟩, Bl, ⟨F_ni, B_ni, (PySem.W.mg_of X G a_ni), G_ni⟩, ⟨F_vi, B_vi, (PySem.W.mg_of X G a_vi), G_vi⟩, ⟨F_as, B_as, (PySem.W.mg_of X G a_as), G_as⟩⟩
  have G_ir : FnR PR w K mg base (L2.CX PR w) 5 f_ir (spProg (t6 cP cC cY cF cL cS) cG) := ok_progI F_ir Zp
  have G_ip : FnOk PR w K mg base CX0 4 f_ip (fdOf F_ip) ["self", "cell", "value"] (spI (t6 cP cC cY cF cL cS) 0) := ok_putI F_ip S F_C B_C (PySem.W.mg_of X G a_C) G_C F_cv B_cv (PySem.W.mg_of X G a_cv) G_cv
  have G_ic : FnOk PR w K mg base CX0 4 f_ic (fdOf F_ic) ["self", "cell", "other"] (spI (t6 cP cC cY cF cL cS) 1) := ok_copyI F_ic S F_C B_C (PySem.W.mg_of X G a_C) G_C
  have G_iy : FnOk PR w K mg base CX0 4 f_iy (fdOf F_iy) ["self", "log", "word"] (spI (t6 cP cC cY cF cL cS) 2) := ok_sayI F_iy S F_C B_C (PySem.W.mg_of X G a_C) G_C F_D B_D (PySem.W.mg_of X G a_D) G_D
  have G_ig : FnOk PR w K mg base CX0 4 f_ig (fdOf F_ig) ["self", "name"] (spI (t6 cP cC cY cF cL cS) 3) := ok_failI F_ig S F_C B_C (PySem.W.mg_of X G a_C) G_C
  have G_il : FnOk PR w K mg base CX0 1 f_il (fdOf F_il) ["self"] (spI (t6 cP cC cY cF cL cS) 4) := ok_lvI F_il S
  have G_is : FnOk PR w K mg base CX0 1 f_is (fdOf F_is) ["self"] (spI (t6 cP cC cY cF cL cS) 5) := ok_stI F_is S
  have G_ep : FnOk PR w K mg base CX0 1 f_ep (fdOf F_ep) ["self", "other"] (spEq K (t6 cP cC cY cF cL cS) 0) := ok_putE F_ep S T
  have G_tp : FnOk PR w K mg base CX0 1 f_tp (fdOf F_tp) ["self"] (spStr (t6 cP cC cY cF cL cS) 0) := ok_putT F_tp S
  have G_ec : FnOk PR w K mg base CX0 1 f_ec (fdOf F_ec) ["self", "other"] (spEq K (t6 cP cC cY cF cL cS) 1) := ok_copyE F_ec S T
  have G_tc : FnOk PR w K mg base CX0 1 f_tc (fdOf F_tc) ["self"] (spStr (t6 cP cC cY cF cL cS) 1) := ok_copyT F_tc S
  have G_ey : FnOk PR w K mg base CX0 1 f_ey (fdOf F_ey) ["self", "other"] (spEq K (t6 cP cC cY cF cL cS) 2) := ok_sayE F_ey S T
  have G_ty : FnOk PR w K mg base CX0 1 f_ty (fdOf F_ty) ["self"] (spStr (t6 cP cC cY cF cL cS) 2) := ok_sayT F_ty S
  have G_eg : FnOk PR w K mg base CX0 1 f_eg (fdOf F_eg) ["self", "other"] (spEq K (t6 cP cC cY cF cL cS) 3) := ok_failE F_eg S T
  have G_tg : FnOk PR w K mg base CX0 1 f_tg (fdOf F_tg) ["self"] (spStr (t6 cP cC cY cF cL cS) 3) := ok_failT F_tg S
  have G_el : FnOk PR w K mg base CX0 1 f_el (fdOf F_el) ["self", "other"] (spEq K (t6 cP cC cY cF cL cS) 4) := ok_lvE F_el S T
  have G_tl : FnOk PR w K mg base CX0 1 f_tl (fdOf F_tl) ["self"] (spStr (t6 cP cC cY cF cL cS) 4) := ok_lvT F_tl S
  have G_es : FnOk PR w K mg base CX0 1 f_es (fdOf F_es) ["self", "other"] (spEq K (t6 cP cC cY cF cL cS) 5) := ok_stE F_es S T
  have G_ts : FnOk PR w K mg base CX0 1 f_ts (fdOf F_ts) ["self"] (spStr (t6 cP cC cY cF cL cS) 5) := ok_stT F_ts S
  have O : Owns PR w K mg base (t6 cP cC cY cF cL cS) := fun i hi => match i, hi with | 0, _ => ⟨f_ep, f_tp, _, _, ⟨m_ep, n_ep, (ow 0 (by decide)).1, B_ep, G_ep, m_tp, n_tp, B_tp, G_tp, fun i hi => ((ow 0 (by decide)).2.1 i hi).1, fun T hT => ((ow 0 (by decide)).2.2 T hT).1, fun T hT => ((ow 0 (by decide)).2.2 T hT).2⟩⟩ | 1, _ => ⟨f_ec, f_tc, _, _, ⟨m_ec, n_ec, (ow 1 (by decide)).1, B_ec, G_ec, m_tc, n_tc, B_tc, G_tc, fun i hi => ((ow 1 (by decide)).2.1 i hi).1, fun T hT => ((ow 1 (by decide)).2.2 T hT).1, fun T hT => ((ow 1 (by decide)).2.2 T hT).2⟩⟩ | 2, _ => ⟨f_ey, f_ty, _, _, ⟨m_ey, n_ey, (ow 2 (by decide)).1, B_ey, G_ey, m_ty, n_ty, B_ty, G_ty, fun i hi => ((ow 2 (by decide)).2.1 i hi).1, fun T hT => ((ow 2 (by decide)).2.2 T hT).1, fun T hT => ((ow 2 (by decide)).2.2 T hT).2⟩⟩ | 3, _ => ⟨f_eg, f_tg, _, _, ⟨m_eg, n_eg, (ow 3 (by decide)).1, B_eg, G_eg, m_tg, n_tg, B_tg, G_tg, fun i hi => ((ow 3 (by decide)).2.1 i hi).1, fun T hT => ((ow 3 (by decide)).2.2 T hT).1, fun T hT => ((ow 3 (by decide)).2.2 T hT).2⟩⟩ | 4, _ => ⟨f_el, f_tl, _, _, ⟨m_el, n_el, (ow 4 (by decide)).1, B_el, G_el, m_tl, n_tl, B_tl, G_tl, fun i hi => ((ow 4 (by decide)).2.1 i hi).1, fun T hT => ((ow 4 (by decide)).2.2 T hT).1, fun T hT => ((ow 4 (by decide)).2.2 T hT).2⟩⟩ | 5, _ => ⟨f_es, f_ts, _, _, ⟨m_es, n_es, (ow 5 (by decide)).1, B_es, G_es, m_ts, n_ts, B_ts, G_ts, fun i hi => ((ow 5 (by decide)).2.1 i hi).1, fun T hT => ((ow 5 (by decide)).2.2 T hT).1, fun T hT => ((ow 5 (by decide)).2.2 T hT).2⟩⟩
  have G_qe : FnOk PR w K mg base CX0 1 f_qe (fdOf F_qe) ["self", "other"] (spEqP (t6 cP cC cY cF cL cS) cG) := ok_eqP F_qe S T (PySem.W.mg_of X G g_cG) (fun i hi => (re i hi).2.2.2.2.1)
  have Ge : PgE PR w K mg base (t6 cP cC cY cF cL cS) cG f_qe (fdOf F_qe) := ⟨m_qe, n_qe, B_qe, G_qe, fun i hi => (re i hi).2.2.2.2.2⟩
  have M : MkA PR w K mg base (t6 cP cC cY cF cL cS) (t6 f_ip f_ic f_iy f_ig f_il f_is) (t6 (fdOf F_ip) (fdOf F_ic) (fdOf F_iy) (fdOf F_ig) (fdOf F_il) (fdOf F_is)) := ⟨⟨⟨C_cP.ms, m_ip, n_ip, C_cP.kp⟩, B_ip, G_ip⟩, ⟨⟨C_cC.ms, m_ic, n_ic, C_cC.kp⟩, B_ic, G_ic⟩, ⟨⟨C_cY.ms, m_iy, n_iy, C_cY.kp⟩, B_iy, G_iy⟩, ⟨⟨C_cF.ms, m_ig, n_ig, C_cF.kp⟩, B_ig, G_ig⟩, ⟨⟨C_cL.ms, m_il, n_il, C_cL.kp⟩, B_il, G_il⟩, ⟨⟨C_cS.ms, m_is, n_is, C_cS.kp⟩, B_is, G_is⟩, ⟨_, kb_p F_ip⟩, ⟨_, kb_c F_ic⟩, ⟨_, kb_y F_iy⟩, ⟨_, kb_f F_ig⟩⟩
  have G_pe : FnOk PR w K mg base CX0 1 f_pe (fdOf F_pe) ["_law_script"] (spPen K) := ok_pen F_pe T
  have G_dr : FnOk PR w K mg base CX0 1 f_dr (fdOf F_dr) ["_law_pen_here", "_law_many"] spDraw := ok_draw F_dr T
  have G_pi : FnOk PR w K mg base CX0 2 f_pi (fdOf F_pi) ["_law_pen_here", "_law_some"] spPick := ok_pick F_pi T F_dr B_dr (PySem.W.mg_of X G a_dr) G_dr
  have G_pl : FnOk PR w K mg base CX0 3 f_pl (fdOf F_pl) ["_law_pen_here"] spPlain := ok_plain F_pl F_dr B_dr (PySem.W.mg_of X G a_dr) G_dr F_pi B_pi (PySem.W.mg_of X G a_pi) G_pi
  have G_ma : FnOk PR w K mg base CX0 6 f_ma (fdOf F_ma) ["_law_plain_here"] (spMade (t6 cP cC cY cF cL cS)) := ok_made F_ma S M
  have G_na : FnOk PR w K mg base CX0 7 f_na (fdOf F_na) ["_law_plain_here"] (spMade (t6 cP cC cY cF cL cS)) := ok_named F_na S M F_ma B_ma (PySem.W.mg_of X G a_ma) G_ma
  have G_pa : FnOk PR w K mg base CX0 1 f_pa (fdOf F_pa) ["_law_made_here", "_law_sort"] (spParts (t6 cP cC cY cF cL cS)) := ok_parts F_pa S
  have G_tx : FnOk PR w K mg base CX0 1 f_tx (fdOf F_tx) ["_law_plain_here"] spText := ok_text F_tx T
  have Zf : FaceK PR w K mg base (t6 cP cC cY cF cL cS) cG cD cSi cBl f_ma f_na f_pa f_tx f_ir f_qe (fdOf F_ma) (fdOf F_na) (fdOf F_pa) (fdOf F_tx) (fdOf F_qe) := ⟨T, S, O, Ge, wd, (PySem.W.mg_of X G g_cD), fun i hi => (re i hi).1, (PySem.W.mg_of X G g_cSi), fun i hi => (re i hi).2.1, (PySem.W.mg_of X G g_cBl), fun i hi => (re i hi).2.2.1, ⟨F_ma, B_ma, (PySem.W.mg_of X G a_ma), G_ma⟩, ⟨F_na, B_na, (PySem.W.mg_of X G a_na), G_na⟩, ⟨F_pa, B_pa, (PySem.W.mg_of X G a_pa), G_pa⟩, ⟨F_tx, B_tx, (PySem.W.mg_of X G a_tx), G_tx⟩, ⟨C_cG.ms, m_ir, n_ir, C_cG.kp⟩, (PySem.W.mg_of X G g_cG), G_ir⟩
  have G_fc : FnG PR w K mg base CX0 8 f_fc (fdOf F_fc) ["_law_plain_here"] spFace := ok_face F_fc Zf
  exact { T := T, S := S, O := O, M := M, cv := fun i hi => match i, hi with | 0, _ => ⟨_, _, rd_mk rd0, ⟨vc0, ⟨_, rfl⟩⟩⟩ | 1, _ => ⟨_, _, rd_mk rd1, ⟨vc1, ⟨_, rfl⟩⟩⟩ | 2, _ => ⟨_, _, rd_mk rd2, ⟨vc2, ⟨_, rfl⟩⟩⟩ | 3, _ => ⟨_, _, rd_mk rd3, ⟨vc3, ⟨_, rfl⟩⟩⟩ | 4, _ => ⟨_, _, rd_mk rd4, ⟨vc4, ⟨_, rfl⟩⟩⟩ | 5, _ => ⟨_, _, rd_mk rd5, ⟨vc5, ⟨_, rfl⟩⟩⟩, pen := ⟨F_pe, B_pe, (PySem.W.mg_of X G a_pe), G_pe⟩, plain := ⟨F_pl, B_pl, (PySem.W.mg_of X G a_pl), G_pl⟩, made := ⟨F_ma, B_ma, (PySem.W.mg_of X G a_ma), G_ma⟩, face := G_fc, faceF := F_fc, faceB := B_fc, faceG := (PySem.W.mg_of X G a_fc) }
end My
/-! The head writes an equation for each tree of objects on the way of the top and for each heap, some n * n nodes each, and the compiled file would be over the 256 MiB that are kept. These names stand where it would write them: it goes on without them, and nothing leans on them. They are the hashes of all the names that it might give, for N up to 1800. -/
def PySem.W.Fast.tw11205693228760443833 : Unit := ()
def PySem.W.Fast.tw7637958688825746645 : Unit := ()
def PySem.W.Fast.tw7410136051226201501 : Unit := ()
def PySem.W.Fast.tw1802334878830624233 : Unit := ()
def PySem.W.Fast.tw4890672370568869833 : Unit := ()
def PySem.W.Fast.tw11294370083236988060 : Unit := ()
def PySem.W.Fast.tw7895755218151992035 : Unit := ()
def PySem.W.Fast.tw3451652656664361072 : Unit := ()
def PySem.W.Fast.tw8926480894737059818 : Unit := ()
def PySem.W.Fast.tw13949011879360034268 : Unit := ()
def PySem.W.Fast.tw12510672556689397073 : Unit := ()
def PySem.W.Fast.tw14234214503952265137 : Unit := ()
def PySem.W.Fast.tw10931869453668360111 : Unit := ()
def PySem.W.Fast.tw7249095682160793406 : Unit := ()
def PySem.W.Fast.tw2033534193072013018 : Unit := ()
def PySem.W.Fast.tw5759647406778951922 : Unit := ()
def PySem.W.Fast.tw18088099816340712434 : Unit := ()
def PySem.W.Fast.tw17043526163498680488 : Unit := ()
def PySem.W.Fast.tw9901084196998259565 : Unit := ()
def PySem.W.Fast.tw1908113021987570981 : Unit := ()
def PySem.W.Fast.tw16539527340128126163 : Unit := ()
def PySem.W.Fast.tw407797087434128346 : Unit := ()
def PySem.W.Fast.tw5345842749908411268 : Unit := ()
def PySem.W.Fast.tw1954078680212221427 : Unit := ()
def PySem.W.Fast.tw11084199494688681646 : Unit := ()
def PySem.W.Fast.tw11209567530816606961 : Unit := ()
def PySem.W.Fast.tw5148425823758019356 : Unit := ()
def PySem.W.Fast.tw924570169648154362 : Unit := ()
def PySem.W.Fast.tw2475974221636283533 : Unit := ()
def PySem.W.Fast.tw4431804495576311176 : Unit := ()
def PySem.W.Fast.tw326819530344344807 : Unit := ()
def PySem.W.Fast.tw14142789596403992873 : Unit := ()
def PySem.W.Fast.tw11395033957016000848 : Unit := ()
def PySem.W.Fast.tw12596405389041240669 : Unit := ()
def PySem.W.Fast.tw1933641085041061868 : Unit := ()
def PySem.W.Fast.tw15402404242596740975 : Unit := ()
def PySem.W.Fast.tw7317198599721529522 : Unit := ()
def PySem.W.Fast.tw11556536575694943283 : Unit := ()
def PySem.W.Fast.tw6046459407646366894 : Unit := ()
def PySem.W.Fast.tw16285360856766042192 : Unit := ()
def PySem.W.Fast.tw7102982851352971907 : Unit := ()
def PySem.W.Fast.tw8752485529052157314 : Unit := ()
def PySem.W.Fast.tw1514061176658737673 : Unit := ()
def PySem.W.Fast.tw16665238497650540385 : Unit := ()
def PySem.W.Fast.tw12741189037577854410 : Unit := ()
def PySem.W.Fast.tw17234799643595724716 : Unit := ()
def PySem.W.Fast.tw1795352259062975877 : Unit := ()
def PySem.W.Fast.tw8318846697637748900 : Unit := ()
def PySem.W.Fast.tw16328757257502178932 : Unit := ()
def PySem.W.Fast.tw4393273916676150239 : Unit := ()
def PySem.W.Fast.tw10408579874804494443 : Unit := ()
def PySem.W.Fast.tw17814579679607926496 : Unit := ()
def PySem.W.Fast.tw6213679113523895776 : Unit := ()
def PySem.W.Fast.tw6398774988136652419 : Unit := ()
def PySem.W.Fast.tw818559490465606042 : Unit := ()
def PySem.W.Fast.tw11864649952250835846 : Unit := ()
def PySem.W.Fast.tw13597951258868892926 : Unit := ()
def PySem.W.Fast.tw16258347571920992333 : Unit := ()
def PySem.W.Fast.tw12037873527045891683 : Unit := ()
def PySem.W.Fast.tw11781948506419905109 : Unit := ()
def PySem.W.Fast.tw2831919291802230521 : Unit := ()
def PySem.W.Fast.tw6259887762392491997 : Unit := ()
def PySem.W.Fast.tw4361825162111271104 : Unit := ()
def PySem.W.Fast.tw7981651170735108412 : Unit := ()
def PySem.W.Fast.tw3461270037876233689 : Unit := ()
def PySem.W.Fast.tw2127830235778062985 : Unit := ()
def PySem.W.Fast.tw2087394211374799528 : Unit := ()
def PySem.W.Fast.tw3638617051096289620 : Unit := ()
def PySem.W.Fast.tw2146396512056263936 : Unit := ()
def PySem.W.Fast.tw3263903887689778682 : Unit := ()
def PySem.W.Fast.tw3981422963617562194 : Unit := ()
def PySem.W.Fast.tw3157458870156619077 : Unit := ()
def PySem.W.Fast.tw15773193323851977392 : Unit := ()
def PySem.W.Fast.tw14920299407881963344 : Unit := ()
def PySem.W.Fast.tw14452046055435423283 : Unit := ()
def PySem.W.Fast.tw15569216771683231804 : Unit := ()
def PySem.W.Fast.tw3846197861618276648 : Unit := ()
def PySem.W.Fast.tw14003490629985025541 : Unit := ()
def PySem.W.Fast.tw12475188719322683570 : Unit := ()
def PySem.W.Fast.tw9028243937935786920 : Unit := ()
def PySem.W.Fast.tw7842365380583407193 : Unit := ()
def PySem.W.Fast.tw16459390832033724169 : Unit := ()
def PySem.W.Fast.tw1344816886815510019 : Unit := ()
def PySem.W.Fast.tw2900178395136724716 : Unit := ()
def PySem.W.Fast.tw7624881026254224693 : Unit := ()
def PySem.W.Fast.tw16591184851506633486 : Unit := ()
def PySem.W.Fast.tw5530444872282068327 : Unit := ()
def PySem.W.Fast.tw10927112776974654179 : Unit := ()
def PySem.W.Fast.tw17376535596008286064 : Unit := ()
def PySem.W.Fast.tw152237697767549146 : Unit := ()
def PySem.W.Fast.tw9708987672601840912 : Unit := ()
def PySem.W.Fast.tw2728627748070183746 : Unit := ()
def PySem.W.Fast.tw15080156575367901379 : Unit := ()
def PySem.W.Fast.tw11652315836187155890 : Unit := ()
def PySem.W.Fast.tw14210972257304675472 : Unit := ()
def PySem.W.Fast.tw7207330555559944824 : Unit := ()
def PySem.W.Fast.tw4096142881771275094 : Unit := ()
def PySem.W.Fast.tw14164873407887850948 : Unit := ()
def PySem.W.Fast.tw7932943336580295965 : Unit := ()
def PySem.W.Fast.tw14411314631959320953 : Unit := ()
def PySem.W.Fast.tw9559564313709173351 : Unit := ()
def PySem.W.Fast.tw17064131077582163732 : Unit := ()
def PySem.W.Fast.tw191076957556888805 : Unit := ()
def PySem.W.Fast.tw10596704260056232930 : Unit := ()
def PySem.W.Fast.tw948124394027977243 : Unit := ()
def PySem.W.Fast.tw14611321382512322707 : Unit := ()
def PySem.W.Fast.tw10278806268409402823 : Unit := ()
def PySem.W.Fast.tw9787998579968341189 : Unit := ()
def PySem.W.Fast.tw692778984469473463 : Unit := ()
def PySem.W.Fast.tw9968767026126655371 : Unit := ()
def PySem.W.Fast.tw7709803121309257018 : Unit := ()
def PySem.W.Fast.tw16659870594628437013 : Unit := ()
def PySem.W.Fast.tw6209372735383335390 : Unit := ()
def PySem.W.Fast.tw18265685677061329274 : Unit := ()
def PySem.W.Fast.tw11857462550166460305 : Unit := ()
def PySem.W.Fast.tw12696125577793645338 : Unit := ()
def PySem.W.Fast.tw128078293533424475 : Unit := ()
def PySem.W.Fast.tw11143770652622049489 : Unit := ()
def PySem.W.Fast.tw7335954796994578599 : Unit := ()
def PySem.W.Fast.tw15696264722230397484 : Unit := ()
def PySem.W.Fast.tw17409825927019100359 : Unit := ()
def PySem.W.Fast.tw5154258349571537106 : Unit := ()
def PySem.W.Fast.tw13755148956858355880 : Unit := ()
def PySem.W.Fast.tw6544618721166395316 : Unit := ()
def PySem.W.Fast.tw8545896466986638315 : Unit := ()
def PySem.W.Fast.tw9488195402813501607 : Unit := ()
def PySem.W.Fast.tw5411830211761923013 : Unit := ()
def PySem.W.Fast.tw8086013670861488722 : Unit := ()
def PySem.W.Fast.tw13739368342539870507 : Unit := ()
def PySem.W.Fast.tw17011407116796471931 : Unit := ()
def PySem.W.Fast.tw2360558760942416505 : Unit := ()
def PySem.W.Fast.tw14878832433584343927 : Unit := ()
def PySem.W.Fast.tw4523668459856847362 : Unit := ()
def PySem.W.Fast.tw16273176437915892432 : Unit := ()
def PySem.W.Fast.tw11244627112039783976 : Unit := ()
def PySem.W.Fast.tw17937509945158829878 : Unit := ()
def PySem.W.Fast.tw12184852984773784321 : Unit := ()
def PySem.W.Fast.tw17219915199277864728 : Unit := ()
def PySem.W.Fast.tw8396559870363980729 : Unit := ()
def PySem.W.Fast.tw4820969492543513372 : Unit := ()
def PySem.W.Fast.tw17618211000831504571 : Unit := ()
def PySem.W.Fast.tw16384675738683736834 : Unit := ()
def PySem.W.Fast.tw8556781262840134907 : Unit := ()
def PySem.W.Fast.tw6998723465435544679 : Unit := ()
def PySem.W.Fast.tw9334002849240302753 : Unit := ()
def PySem.W.Fast.tw17987429983474882727 : Unit := ()
def PySem.W.Fast.tw6819256300225460716 : Unit := ()
def PySem.W.Fast.tw18404927422601612662 : Unit := ()
def PySem.W.Fast.tw6334528132204947328 : Unit := ()
def PySem.W.Fast.tw13778412548709508959 : Unit := ()
def PySem.W.Fast.tw17311314414344666188 : Unit := ()
def PySem.W.Fast.tw14571944348694259582 : Unit := ()
def PySem.W.Fast.tw16273706983138894969 : Unit := ()
def PySem.W.Fast.tw6285840683035842454 : Unit := ()
def PySem.W.Fast.tw10782865181714453811 : Unit := ()
def PySem.W.Fast.tw5651494704976445521 : Unit := ()
def PySem.W.Fast.tw3870173886754869543 : Unit := ()
def PySem.W.Fast.tw7053249805940793628 : Unit := ()
def PySem.W.Fast.tw3918840834728064849 : Unit := ()
def PySem.W.Fast.tw13374839798125311937 : Unit := ()
def PySem.W.Fast.tw8257297625365944143 : Unit := ()
def PySem.W.Fast.tw7374085267861992333 : Unit := ()
def PySem.W.Fast.tw1347558143398817224 : Unit := ()
def PySem.W.Fast.tw5668390897693696247 : Unit := ()
def PySem.W.Fast.tw12416676138212956262 : Unit := ()
def PySem.W.Fast.tw2392060287478761488 : Unit := ()
def PySem.W.Fast.tw125778660764721725 : Unit := ()
def PySem.W.Fast.tw1352310708721922938 : Unit := ()
def PySem.W.Fast.tw7431225859483662718 : Unit := ()
def PySem.W.Fast.tw860408147499603281 : Unit := ()
def PySem.W.Fast.tw7193868563736363424 : Unit := ()
def PySem.W.Fast.tw141772571288767888 : Unit := ()
def PySem.W.Fast.tw3037383450002839259 : Unit := ()
def PySem.W.Fast.tw12927021101310502841 : Unit := ()
def PySem.W.Fast.tw7877265132090315889 : Unit := ()
def PySem.W.Fast.tw12425087967312732708 : Unit := ()
def PySem.W.Fast.tw4030336847966503057 : Unit := ()
def PySem.W.Fast.tw12183979962333784587 : Unit := ()
def PySem.W.Fast.tw14439430426421147372 : Unit := ()
def PySem.W.Fast.tw13155912987082668660 : Unit := ()
def PySem.W.Fast.tw17982095561329998697 : Unit := ()
def PySem.W.Fast.tw4790957219929071808 : Unit := ()
def PySem.W.Fast.tw3173311334871437686 : Unit := ()
def PySem.W.Fast.tw2007599465901283978 : Unit := ()
def PySem.W.Fast.tw1479628267947381301 : Unit := ()
def PySem.W.Fast.tw6529812919974873515 : Unit := ()
def PySem.W.Fast.tw16292020682092078824 : Unit := ()
def PySem.W.Fast.tw7616225070745461529 : Unit := ()
def PySem.W.Fast.tw790926446334425722 : Unit := ()
def PySem.W.Fast.tw11961743977786882856 : Unit := ()
def PySem.W.Fast.tw503609637510648906 : Unit := ()
def PySem.W.Fast.tw7823769995421163156 : Unit := ()
def PySem.W.Fast.tw14894250954043051265 : Unit := ()
def PySem.W.Fast.tw10340429712210171767 : Unit := ()
def PySem.W.Fast.tw15756836036457053195 : Unit := ()
def PySem.W.Fast.tw6120266172877481898 : Unit := ()
def PySem.W.Fast.tw14171510458203819981 : Unit := ()
def PySem.W.Fast.tw8645797280043139556 : Unit := ()
def PySem.W.Fast.tw15039133340176354347 : Unit := ()
def PySem.W.Fast.tw16149369206647223522 : Unit := ()
def PySem.W.Fast.tw5872003430232061119 : Unit := ()
def PySem.W.Fast.tw18272825007584213149 : Unit := ()
def PySem.W.Fast.tw12485538249256016873 : Unit := ()
def PySem.W.Fast.tw6872487261888904815 : Unit := ()
def PySem.W.Fast.tw14556049547459953779 : Unit := ()
def PySem.W.Fast.tw1109484303542511964 : Unit := ()
def PySem.W.Fast.tw14688390682260307703 : Unit := ()
def PySem.W.Fast.tw15209729078570002170 : Unit := ()
def PySem.W.Fast.tw294123774648576299 : Unit := ()
def PySem.W.Fast.tw8982430779280135820 : Unit := ()
def PySem.W.Fast.tw15922011150221934058 : Unit := ()
def PySem.W.Fast.tw5335406808777553434 : Unit := ()
def PySem.W.Fast.tw3261157726808952958 : Unit := ()
def PySem.W.Fast.tw9036615581252739503 : Unit := ()
def PySem.W.Fast.tw15078343521107078290 : Unit := ()
def PySem.W.Fast.tw14862878935650148688 : Unit := ()
def PySem.W.Fast.tw532332510608667714 : Unit := ()
def PySem.W.Fast.tw1114998684659391425 : Unit := ()
def PySem.W.Fast.tw13562974713006770459 : Unit := ()
def PySem.W.Fast.tw2547914738110630398 : Unit := ()
def PySem.W.Fast.tw1462922322580347270 : Unit := ()
def PySem.W.Fast.tw1049158533724028974 : Unit := ()
def PySem.W.Fast.tw4134828018203675698 : Unit := ()
def PySem.W.Fast.tw6893968945069080662 : Unit := ()
def PySem.W.Fast.tw18009160328862974514 : Unit := ()
def PySem.W.Fast.tw1877573575963092263 : Unit := ()
def PySem.W.Fast.tw10751703851336420933 : Unit := ()
def PySem.W.Fast.tw11416984849870855633 : Unit := ()
def PySem.W.Fast.tw15716752049531826339 : Unit := ()
def PySem.W.Fast.tw7697237053652244089 : Unit := ()
def PySem.W.Fast.tw17497976953321502586 : Unit := ()
def PySem.W.Fast.tw14197515382721889442 : Unit := ()
def PySem.W.Fast.tw3149863860308013258 : Unit := ()
def PySem.W.Fast.tw15092108167526229918 : Unit := ()
def PySem.W.Fast.tw1816028968929199096 : Unit := ()
def PySem.W.Fast.tw10750453767507857172 : Unit := ()
def PySem.W.Fast.tw7743933774936027774 : Unit := ()
def PySem.W.Fast.tw17697733828136391622 : Unit := ()
def PySem.W.Fast.tw7443831430902334937 : Unit := ()
def PySem.W.Fast.tw11951373135767552504 : Unit := ()
def PySem.W.Fast.tw9456591587218544097 : Unit := ()
def PySem.W.Fast.tw1504158198634552697 : Unit := ()
def PySem.W.Fast.tw8853069450751168226 : Unit := ()
def PySem.W.Fast.tw517644995721119349 : Unit := ()
def PySem.W.Fast.tw13277904016835748253 : Unit := ()
def PySem.W.Fast.tw12932912751431272260 : Unit := ()
def PySem.W.Fast.tw8092831017314217979 : Unit := ()
def PySem.W.Fast.tw1222892244929088871 : Unit := ()
def PySem.W.Fast.tw14353896996300591111 : Unit := ()
def PySem.W.Fast.tw10497101910411482734 : Unit := ()
def PySem.W.Fast.tw13238368621692243823 : Unit := ()
def PySem.W.Fast.tw4057524524991984106 : Unit := ()
def PySem.W.Fast.tw5586536060453405033 : Unit := ()
def PySem.W.Fast.tw9550817834275852775 : Unit := ()
def PySem.W.Fast.tw14856013940316635497 : Unit := ()
def PySem.W.Fast.tw12586261020802250690 : Unit := ()
def PySem.W.Fast.tw365505942127335198 : Unit := ()
def PySem.W.Fast.tw14747086293411205403 : Unit := ()
def PySem.W.Fast.tw11498723066434877236 : Unit := ()
def PySem.W.Fast.tw4883489735559684792 : Unit := ()
def PySem.W.Fast.tw433465227597923792 : Unit := ()
def PySem.W.Fast.tw6374312320101801937 : Unit := ()
def PySem.W.Fast.tw13373639734746307213 : Unit := ()
def PySem.W.Fast.tw1816978304518474416 : Unit := ()
def PySem.W.Fast.tw12202300881854349380 : Unit := ()
def PySem.W.Fast.tw6607211561374210345 : Unit := ()
def PySem.W.Fast.tw10476848743906318401 : Unit := ()
def PySem.W.Fast.tw12502153613628038605 : Unit := ()
def PySem.W.Fast.tw4260134528543807358 : Unit := ()
def PySem.W.Fast.tw6823769245417340953 : Unit := ()
def PySem.W.Fast.tw11205027782508871473 : Unit := ()
def PySem.W.Fast.tw3665018519499669321 : Unit := ()
def PySem.W.Fast.tw5494062710074071173 : Unit := ()
def PySem.W.Fast.tw13240294012618136648 : Unit := ()
def PySem.W.Fast.tw12300280937251103746 : Unit := ()
def PySem.W.Fast.tw15199212667355448022 : Unit := ()
def PySem.W.Fast.tw15020564548494686452 : Unit := ()
def PySem.W.Fast.tw4173830511825238731 : Unit := ()
def PySem.W.Fast.tw14610395344245740851 : Unit := ()
def PySem.W.Fast.tw13608134149414196980 : Unit := ()
def PySem.W.Fast.tw12917820133130523791 : Unit := ()
def PySem.W.Fast.tw4442697773361306580 : Unit := ()
def PySem.W.Fast.tw5228354792944861507 : Unit := ()
def PySem.W.Fast.tw8931233220186741386 : Unit := ()
def PySem.W.Fast.tw17160471605747623985 : Unit := ()
def PySem.W.Fast.tw2348369890867198594 : Unit := ()
def PySem.W.Fast.tw1931515959033114881 : Unit := ()
def PySem.W.Fast.tw9726629358069835459 : Unit := ()
def PySem.W.Fast.tw3582115046993729001 : Unit := ()
def PySem.W.Fast.tw3256920262837085693 : Unit := ()
def PySem.W.Fast.tw1674785993223846137 : Unit := ()
def PySem.W.Fast.tw6797090034603403836 : Unit := ()
def PySem.W.Fast.tw4706606256784007268 : Unit := ()
def PySem.W.Fast.tw4740449122561610411 : Unit := ()
def PySem.W.Fast.tw8035143107938847857 : Unit := ()
def PySem.W.Fast.tw12283551425364823015 : Unit := ()
def PySem.W.Fast.tw11550565180992824750 : Unit := ()
def PySem.W.Fast.tw12124170456040275494 : Unit := ()
def PySem.W.Fast.tw5465976301869439011 : Unit := ()
def PySem.W.Fast.tw338689673440212264 : Unit := ()
def PySem.W.Fast.tw5733821989510474522 : Unit := ()
def PySem.W.Fast.tw6255663751604355375 : Unit := ()
def PySem.W.Fast.tw4608023174572080100 : Unit := ()
def PySem.W.Fast.tw568676614527673909 : Unit := ()
def PySem.W.Fast.tw17099309853023634623 : Unit := ()
def PySem.W.Fast.tw4161883355001965702 : Unit := ()
def PySem.W.Fast.tw12494466134155203692 : Unit := ()
def PySem.W.Fast.tw591133508213533747 : Unit := ()
def PySem.W.Fast.tw15170001446845200293 : Unit := ()
def PySem.W.Fast.tw7441606017103077016 : Unit := ()
def PySem.W.Fast.tw9183463804698014835 : Unit := ()
def PySem.W.Fast.tw5876153743864690469 : Unit := ()
def PySem.W.Fast.tw15458241086046079904 : Unit := ()
def PySem.W.Fast.tw12760919217788841374 : Unit := ()
def PySem.W.Fast.tw5266359205100963202 : Unit := ()
def PySem.W.Fast.tw1152610286373409972 : Unit := ()
def PySem.W.Fast.tw8786159820866065886 : Unit := ()
def PySem.W.Fast.tw12487388323888540544 : Unit := ()
def PySem.W.Fast.tw12247361703849305917 : Unit := ()
def PySem.W.Fast.tw17636256826059012705 : Unit := ()
def PySem.W.Fast.tw3815575613604779010 : Unit := ()
def PySem.W.Fast.tw4973973048788644601 : Unit := ()
def PySem.W.Fast.tw1919414041688625231 : Unit := ()
def PySem.W.Fast.tw3597786054912240529 : Unit := ()
def PySem.W.Fast.tw2752809865774312698 : Unit := ()
def PySem.W.Fast.tw15761596993883077503 : Unit := ()
def PySem.W.Fast.tw7374912438107095245 : Unit := ()
def PySem.W.Fast.tw16447065013870662979 : Unit := ()
def PySem.W.Fast.tw1466474197459368372 : Unit := ()
def PySem.W.Fast.tw1911968720351860046 : Unit := ()
def PySem.W.Fast.tw16475304174273644608 : Unit := ()
def PySem.W.Fast.tw4484401663089220512 : Unit := ()
def PySem.W.Fast.tw9630904484424873352 : Unit := ()
def PySem.W.Fast.tw15137896554930238794 : Unit := ()
def PySem.W.Fast.tw10126475075936730007 : Unit := ()
def PySem.W.Fast.tw9038293702073390290 : Unit := ()
def PySem.W.Fast.tw3188732207858603598 : Unit := ()
def PySem.W.Fast.tw14112943182163752159 : Unit := ()
def PySem.W.Fast.tw18271425153682136260 : Unit := ()
def PySem.W.Fast.tw18080624528586446400 : Unit := ()
def PySem.W.Fast.tw12177386723210394071 : Unit := ()
def PySem.W.Fast.tw4608019015833880055 : Unit := ()
def PySem.W.Fast.tw15892718741160869063 : Unit := ()
def PySem.W.Fast.tw15390117498114613191 : Unit := ()
def PySem.W.Fast.tw10857805564014950411 : Unit := ()
def PySem.W.Fast.tw16175103652939760721 : Unit := ()
def PySem.W.Fast.tw100753105686670575 : Unit := ()
def PySem.W.Fast.tw11598504018896996726 : Unit := ()
def PySem.W.Fast.tw11903245635646911957 : Unit := ()
def PySem.W.Fast.tw16045223065912857950 : Unit := ()
def PySem.W.Fast.tw4971892913607558634 : Unit := ()
def PySem.W.Fast.tw714721765639475119 : Unit := ()
def PySem.W.Fast.tw6981857981207437334 : Unit := ()
def PySem.W.Fast.tw13423681766664085348 : Unit := ()
def PySem.W.Fast.tw15406266765632896791 : Unit := ()
def PySem.W.Fast.tw7144278485012873355 : Unit := ()
def PySem.W.Fast.tw5052185889149941594 : Unit := ()
def PySem.W.Fast.tw18162442614934270133 : Unit := ()
def PySem.W.Fast.tw172672363786783355 : Unit := ()
def PySem.W.Fast.tw14314589443472698942 : Unit := ()
def PySem.W.Fast.tw1245366992290307700 : Unit := ()
def PySem.W.Fast.tw11407167103041056658 : Unit := ()
def PySem.W.Fast.tw2845583872435505691 : Unit := ()
def PySem.W.Fast.tw8807326438596860093 : Unit := ()
def PySem.W.Fast.tw5578977833376674299 : Unit := ()
def PySem.W.Fast.tw2881435055261744307 : Unit := ()
def PySem.W.Fast.tw17907903107852829877 : Unit := ()
def PySem.W.Fast.tw9616707508989888663 : Unit := ()
def PySem.W.Fast.tw17295993528138720038 : Unit := ()
def PySem.W.Fast.tw17917175360731623844 : Unit := ()
def PySem.W.Fast.tw15984630329738181294 : Unit := ()
def PySem.W.Fast.tw10948498209312615279 : Unit := ()
def PySem.W.Fast.tw13119778758555195563 : Unit := ()
def PySem.W.Fast.tw4922999615552168084 : Unit := ()
def PySem.W.Fast.tw3182376616882007741 : Unit := ()
def PySem.W.Fast.tw5659677395624421026 : Unit := ()
def PySem.W.Fast.tw10680684996516642008 : Unit := ()
def PySem.W.Fast.tw14297877424887232659 : Unit := ()
def PySem.W.Fast.tw94577756720714374 : Unit := ()
def PySem.W.Fast.tw16064960214774115108 : Unit := ()
def PySem.W.Fast.tw11853890678277174180 : Unit := ()
def PySem.W.Fast.tw16004366299511120749 : Unit := ()
def PySem.W.Fast.tw6295861923530632995 : Unit := ()
def PySem.W.Fast.tw6560198719139609374 : Unit := ()
def PySem.W.Fast.tw17635715969553773930 : Unit := ()
def PySem.W.Fast.tw8150678063729235798 : Unit := ()
def PySem.W.Fast.tw549288856554735102 : Unit := ()
def PySem.W.Fast.tw16831789678892530346 : Unit := ()
def PySem.W.Fast.tw4743246892532170157 : Unit := ()
def PySem.W.Fast.tw45722131776004463 : Unit := ()
def PySem.W.Fast.tw3365989358649605812 : Unit := ()
def PySem.W.Fast.tw1343451106085563384 : Unit := ()
def PySem.W.Fast.tw13524952802089160085 : Unit := ()
def PySem.W.Fast.tw14622112895358299388 : Unit := ()
def PySem.W.Fast.tw10955480361461556157 : Unit := ()
def PySem.W.Fast.tw2378229770143253666 : Unit := ()
def PySem.W.Fast.tw15479257361394616253 : Unit := ()
def PySem.W.Fast.tw6098371314399078278 : Unit := ()
def PySem.W.Fast.tw12248263780171354456 : Unit := ()
def PySem.W.Fast.tw7192237840803859002 : Unit := ()
def PySem.W.Fast.tw9433779926330633168 : Unit := ()
def PySem.W.Fast.tw15256616752598457258 : Unit := ()
def PySem.W.Fast.tw15929066270246748700 : Unit := ()
def PySem.W.Fast.tw1472144773003010542 : Unit := ()
def PySem.W.Fast.tw13971219872633713243 : Unit := ()
def PySem.W.Fast.tw3344015157738719617 : Unit := ()
def PySem.W.Fast.tw1893341350162649516 : Unit := ()
def PySem.W.Fast.tw12820058427066562181 : Unit := ()
def PySem.W.Fast.tw15219207856093045128 : Unit := ()
def PySem.W.Fast.tw15776060940153697292 : Unit := ()
def PySem.W.Fast.tw4544861579269649798 : Unit := ()
def PySem.W.Fast.tw7392691659183871223 : Unit := ()
def PySem.W.Fast.tw5272951728256722759 : Unit := ()
def PySem.W.Fast.tw8459539621633680974 : Unit := ()
def PySem.W.Fast.tw15708802127084454089 : Unit := ()
def PySem.W.Fast.tw13914531983418500370 : Unit := ()
def PySem.W.Fast.tw10502951124690020368 : Unit := ()
def PySem.W.Fast.tw980681995507342547 : Unit := ()
def PySem.W.Fast.tw446015871914651231 : Unit := ()
def PySem.W.Fast.tw4499507358772126732 : Unit := ()
def PySem.W.Fast.tw9627247248327110013 : Unit := ()
def PySem.W.Fast.tw9572997368728702863 : Unit := ()
def PySem.W.Fast.tw7173011456219087665 : Unit := ()
def PySem.W.Fast.tw9019318990258786950 : Unit := ()
def PySem.W.Fast.tw3706381249291816987 : Unit := ()
def PySem.W.Fast.tw13806676199761995832 : Unit := ()
def PySem.W.Fast.tw7686186962806843498 : Unit := ()
def PySem.W.Fast.tw11841194983663307147 : Unit := ()
def PySem.W.Fast.tw11109815627491268338 : Unit := ()
def PySem.W.Fast.tw3165047766859912674 : Unit := ()
def PySem.W.Fast.tw4513301649835502970 : Unit := ()
def PySem.W.Fast.tw18039640863532139790 : Unit := ()
def PySem.W.Fast.tw3344294782022329908 : Unit := ()
def PySem.W.Fast.tw848612390345429591 : Unit := ()
def PySem.W.Fast.tw16943498078688157280 : Unit := ()
def PySem.W.Fast.tw2285366479688671229 : Unit := ()
def PySem.W.Fast.tw6239641830445416336 : Unit := ()
def PySem.W.Fast.tw9232399240610385546 : Unit := ()
def PySem.W.Fast.tw16477701103225840241 : Unit := ()
def PySem.W.Fast.tw15843124444314780136 : Unit := ()
def PySem.W.Fast.tw5071309989952926229 : Unit := ()
def PySem.W.Fast.tw339801257268239216 : Unit := ()
def PySem.W.Fast.tw1624513477591411907 : Unit := ()
def PySem.W.Fast.tw5654072090356011656 : Unit := ()
def PySem.W.Fast.tw296939073298869711 : Unit := ()
def PySem.W.Fast.tw5857418522715749864 : Unit := ()
def PySem.W.Fast.tw13141286229886015582 : Unit := ()
def PySem.W.Fast.tw14790235686141635491 : Unit := ()
def PySem.W.Fast.tw17134094714288345851 : Unit := ()
def PySem.W.Fast.tw16370544857160379217 : Unit := ()
def PySem.W.Fast.tw8066477516713457877 : Unit := ()
def PySem.W.Fast.tw9160980189053150079 : Unit := ()
def PySem.W.Fast.tw25659790495413261 : Unit := ()
def PySem.W.Fast.tw14629561935172918912 : Unit := ()
def PySem.W.Fast.tw18293140865054672095 : Unit := ()
def PySem.W.Fast.tw8711854234970508138 : Unit := ()
def PySem.W.Fast.tw14575833874330135747 : Unit := ()
def PySem.W.Fast.tw9258876052925588761 : Unit := ()
def PySem.W.Fast.tw18263295077160398931 : Unit := ()
def PySem.W.Fast.tw9484605658801837131 : Unit := ()
def PySem.W.Fast.tw12044019100966672758 : Unit := ()
def PySem.W.Fast.tw16771105443684918387 : Unit := ()
def PySem.W.Fast.tw7697161974846020303 : Unit := ()
def PySem.W.Fast.tw1963183663458757546 : Unit := ()
def PySem.W.Fast.tw1843940309307905032 : Unit := ()
def PySem.W.Fast.tw10380457010969011369 : Unit := ()
def PySem.W.Fast.tw16065063979691926666 : Unit := ()
def PySem.W.Fast.tw11320056165738193777 : Unit := ()
def PySem.W.Fast.tw4518095440320999375 : Unit := ()
def PySem.W.Fast.tw6610720385407725761 : Unit := ()
def PySem.W.Fast.tw12870327812264264685 : Unit := ()
def PySem.W.Fast.tw12257348158554587166 : Unit := ()
def PySem.W.Fast.tw8794455068862965908 : Unit := ()
def PySem.W.Fast.tw7850251652313608523 : Unit := ()
def PySem.W.Fast.tw3114689336254895110 : Unit := ()
def PySem.W.Fast.tw6262865600915470451 : Unit := ()
def PySem.W.Fast.tw14627510907662267917 : Unit := ()
def PySem.W.Fast.tw12851151628343042769 : Unit := ()
def PySem.W.Fast.tw11423957001996568247 : Unit := ()
def PySem.W.Fast.tw11411166195009720637 : Unit := ()
def PySem.W.Fast.tw11539845694495668884 : Unit := ()
def PySem.W.Fast.tw6884907917607407287 : Unit := ()
def PySem.W.Fast.tw13136505470994284004 : Unit := ()
def PySem.W.Fast.tw9061235465274912936 : Unit := ()
def PySem.W.Fast.tw5811856634890689386 : Unit := ()
def PySem.W.Fast.tw3950411288422931271 : Unit := ()
def PySem.W.Fast.tw13538941048692833294 : Unit := ()
def PySem.W.Fast.tw17034099314718223156 : Unit := ()
def PySem.W.Fast.tw7894738956386794040 : Unit := ()
def PySem.W.Fast.tw16399168421769204916 : Unit := ()
def PySem.W.Fast.tw3209082956743078934 : Unit := ()
def PySem.W.Fast.tw15447889802812973832 : Unit := ()
def PySem.W.Fast.tw16053811182122912550 : Unit := ()
def PySem.W.Fast.tw11949088511286677575 : Unit := ()
def PySem.W.Fast.tw10188386178225131062 : Unit := ()
def PySem.W.Fast.tw1090309157835177097 : Unit := ()
def PySem.W.Fast.tw6180774299824188866 : Unit := ()
def PySem.W.Fast.tw5025256690788357613 : Unit := ()
def PySem.W.Fast.tw7447985394575358990 : Unit := ()
def PySem.W.Fast.tw15813046844474668675 : Unit := ()
def PySem.W.Fast.tw7253966614616218512 : Unit := ()
def PySem.W.Fast.tw7185051227055372975 : Unit := ()
def PySem.W.Fast.tw4267350541638464881 : Unit := ()
def PySem.W.Fast.tw7071156699991361520 : Unit := ()
def PySem.W.Fast.tw3258900165224625358 : Unit := ()
def PySem.W.Fast.tw6213000847231316090 : Unit := ()
def PySem.W.Fast.tw6574204061649991552 : Unit := ()
def PySem.W.Fast.tw5635730752567695258 : Unit := ()
def PySem.W.Fast.tw12128736956676559263 : Unit := ()
def PySem.W.Fast.tw16306267686788344860 : Unit := ()
def PySem.W.Fast.tw10508539311612965652 : Unit := ()
def PySem.W.Fast.tw2217538290504916178 : Unit := ()
def PySem.W.Fast.tw9195849772810630012 : Unit := ()
def PySem.W.Fast.tw7617823158652510038 : Unit := ()
def PySem.W.Fast.tw4909545481543119404 : Unit := ()
def PySem.W.Fast.tw8885902383883514613 : Unit := ()
def PySem.W.Fast.tw2626020301322951856 : Unit := ()
def PySem.W.Fast.tw9048532540450368178 : Unit := ()
def PySem.W.Fast.tw15384846649110224207 : Unit := ()
def PySem.W.Fast.tw7749903792160256675 : Unit := ()
def PySem.W.Fast.tw5307920198007361965 : Unit := ()
def PySem.W.Fast.tw12996829458553932459 : Unit := ()
def PySem.W.Fast.tw6097105827081524047 : Unit := ()
def PySem.W.Fast.tw5224784815829449455 : Unit := ()
def PySem.W.Fast.tw306737930899055747 : Unit := ()
def PySem.W.Fast.tw6897157251940179506 : Unit := ()
def PySem.W.Fast.tw8967544110783065157 : Unit := ()
def PySem.W.Fast.tw4995584012395705795 : Unit := ()
def PySem.W.Fast.tw13384478738251754844 : Unit := ()
def PySem.W.Fast.tw2542166160979300739 : Unit := ()
def PySem.W.Fast.tw15079785844161512106 : Unit := ()
def PySem.W.Fast.tw9652095663281416447 : Unit := ()
def PySem.W.Fast.tw17956722690468289062 : Unit := ()
def PySem.W.Fast.tw12466393997711046779 : Unit := ()
def PySem.W.Fast.tw17820579823171570229 : Unit := ()
def PySem.W.Fast.tw14048568707252597661 : Unit := ()
def PySem.W.Fast.tw8575519279875082706 : Unit := ()
def PySem.W.Fast.tw9979844955306208275 : Unit := ()
def PySem.W.Fast.tw5805388066309565332 : Unit := ()
def PySem.W.Fast.tw10999811996880440001 : Unit := ()
def PySem.W.Fast.tw16990667412760970291 : Unit := ()
def PySem.W.Fast.tw16380052008927128262 : Unit := ()
def PySem.W.Fast.tw16743656960533032683 : Unit := ()
def PySem.W.Fast.tw15569052266719197140 : Unit := ()
def PySem.W.Fast.tw4440799763315588595 : Unit := ()
def PySem.W.Fast.tw13864487056489830848 : Unit := ()
def PySem.W.Fast.tw14847921690979708516 : Unit := ()
def PySem.W.Fast.tw13659786204662224611 : Unit := ()
def PySem.W.Fast.tw686848790539778058 : Unit := ()
def PySem.W.Fast.tw11703296563679358535 : Unit := ()
def PySem.W.Fast.tw13808655158432606637 : Unit := ()
def PySem.W.Fast.tw8655671472938407695 : Unit := ()
def PySem.W.Fast.tw12160240524666020802 : Unit := ()
def PySem.W.Fast.tw5633978170855436342 : Unit := ()
def PySem.W.Fast.tw10631908407384606764 : Unit := ()
def PySem.W.Fast.tw14710424200122745245 : Unit := ()
def PySem.W.Fast.tw1436821044466496061 : Unit := ()
def PySem.W.Fast.tw14296964077488351779 : Unit := ()
def PySem.W.Fast.tw7770351748879554362 : Unit := ()
def PySem.W.Fast.tw2476099620085644811 : Unit := ()
def PySem.W.Fast.tw5420880057098598020 : Unit := ()
def PySem.W.Fast.tw9542851752643791834 : Unit := ()
def PySem.W.Fast.tw17225710743689278823 : Unit := ()
def PySem.W.Fast.tw9584011250991015673 : Unit := ()
def PySem.W.Fast.tw11576280741707448983 : Unit := ()
def PySem.W.Fast.tw6827465981165303689 : Unit := ()
def PySem.W.Fast.tw6517964988965533505 : Unit := ()
def PySem.W.Fast.tw1169026854479928266 : Unit := ()
def PySem.W.Fast.tw4706838076251507678 : Unit := ()
def PySem.W.Fast.tw15660660108923685339 : Unit := ()
def PySem.W.Fast.tw17718832937990778988 : Unit := ()
def PySem.W.Fast.tw9937088159748836041 : Unit := ()
def PySem.W.Fast.tw3361045351726456679 : Unit := ()
def PySem.W.Fast.tw3421707537246667914 : Unit := ()
def PySem.W.Fast.tw9092875106821896492 : Unit := ()
def PySem.W.Fast.tw8738667274611030613 : Unit := ()
def PySem.W.Fast.tw6211690007941851689 : Unit := ()
def PySem.W.Fast.tw9940228335487979713 : Unit := ()
def PySem.W.Fast.tw14821049094277925867 : Unit := ()
def PySem.W.Fast.tw7815769098181987310 : Unit := ()
def PySem.W.Fast.tw16529688028875807935 : Unit := ()
def PySem.W.Fast.tw12688206558403586848 : Unit := ()
def PySem.W.Fast.tw2717779427664643767 : Unit := ()
def PySem.W.Fast.tw5525085908537548738 : Unit := ()
def PySem.W.Fast.tw14486450475059080909 : Unit := ()
def PySem.W.Fast.tw16286949219842594330 : Unit := ()
def PySem.W.Fast.tw9749736949936296344 : Unit := ()
def PySem.W.Fast.tw11708928019526895959 : Unit := ()
def PySem.W.Fast.tw17642695209545547302 : Unit := ()
def PySem.W.Fast.tw5372453092952455237 : Unit := ()
def PySem.W.Fast.tw9871239338419321950 : Unit := ()
def PySem.W.Fast.tw15611988899179590087 : Unit := ()
def PySem.W.Fast.tw14221819726745017462 : Unit := ()
def PySem.W.Fast.tw11796661683170487892 : Unit := ()
def PySem.W.Fast.tw9815555723776654377 : Unit := ()
def PySem.W.Fast.tw857963034357419428 : Unit := ()
def PySem.W.Fast.tw3429245662865177956 : Unit := ()
def PySem.W.Fast.tw17616603439309615650 : Unit := ()
def PySem.W.Fast.tw10454674246428320829 : Unit := ()
def PySem.W.Fast.tw17669052375502176356 : Unit := ()
def PySem.W.Fast.tw11434872888446509844 : Unit := ()
def PySem.W.Fast.tw12275498159706181669 : Unit := ()
def PySem.W.Fast.tw15629115977731645447 : Unit := ()
def PySem.W.Fast.tw6822681934782796649 : Unit := ()
def PySem.W.Fast.tw11433801932956715694 : Unit := ()
def PySem.W.Fast.tw6481786062743296079 : Unit := ()
def PySem.W.Fast.tw5282568082803315623 : Unit := ()
def PySem.W.Fast.tw10729745446247051164 : Unit := ()
def PySem.W.Fast.tw10244034272726752605 : Unit := ()
def PySem.W.Fast.tw10175833803456615172 : Unit := ()
def PySem.W.Fast.tw4278501270526650941 : Unit := ()
def PySem.W.Fast.tw5879425170000912365 : Unit := ()
def PySem.W.Fast.tw9488621321980089416 : Unit := ()
def PySem.W.Fast.tw10979385133674696458 : Unit := ()
def PySem.W.Fast.tw8622872404534279830 : Unit := ()
def PySem.W.Fast.tw12555586334208938118 : Unit := ()
def PySem.W.Fast.tw17328930246615367626 : Unit := ()
def PySem.W.Fast.tw1096643762603507712 : Unit := ()
def PySem.W.Fast.tw15272131385504499524 : Unit := ()
def PySem.W.Fast.tw12976857037783094548 : Unit := ()
def PySem.W.Fast.tw14729288771670344745 : Unit := ()
def PySem.W.Fast.tw8643215104445694771 : Unit := ()
def PySem.W.Fast.tw3490736688864119196 : Unit := ()
def PySem.W.Fast.tw6087402182358693563 : Unit := ()
def PySem.W.Fast.tw10868926078656631742 : Unit := ()
def PySem.W.Fast.tw3435278020660861926 : Unit := ()
def PySem.W.Fast.tw4713137394337664581 : Unit := ()
def PySem.W.Fast.tw1279776944180475307 : Unit := ()
def PySem.W.Fast.tw10735362584678704875 : Unit := ()
def PySem.W.Fast.tw7214588249121173529 : Unit := ()
def PySem.W.Fast.tw3081962916397600730 : Unit := ()
def PySem.W.Fast.tw16762641340182604484 : Unit := ()
def PySem.W.Fast.tw13107388037875028888 : Unit := ()
def PySem.W.Fast.tw12497090167845547304 : Unit := ()
def PySem.W.Fast.tw9993183402698577688 : Unit := ()
def PySem.W.Fast.tw15770995604881324721 : Unit := ()
def PySem.W.Fast.tw254824071374248357 : Unit := ()
def PySem.W.Fast.tw10577948444767198745 : Unit := ()
def PySem.W.Fast.tw755765487189114958 : Unit := ()
def PySem.W.Fast.tw12399262554095836444 : Unit := ()
def PySem.W.Fast.tw16802305919294042480 : Unit := ()
def PySem.W.Fast.tw5380261456914550389 : Unit := ()
def PySem.W.Fast.tw16734618885061433896 : Unit := ()
def PySem.W.Fast.tw11635856520974794074 : Unit := ()
def PySem.W.Fast.tw6275846782227074654 : Unit := ()
def PySem.W.Fast.tw10401484633300633296 : Unit := ()
def PySem.W.Fast.tw11851519511315891333 : Unit := ()
def PySem.W.Fast.tw8567919572882043825 : Unit := ()
def PySem.W.Fast.tw2068010362883087590 : Unit := ()
def PySem.W.Fast.tw5414328504597914455 : Unit := ()
def PySem.W.Fast.tw11315837982574188628 : Unit := ()
def PySem.W.Fast.tw10362154792030317812 : Unit := ()
def PySem.W.Fast.tw3105271912761306550 : Unit := ()
def PySem.W.Fast.tw8231982711694675392 : Unit := ()
def PySem.W.Fast.tw15093639915832927251 : Unit := ()
def PySem.W.Fast.tw17948472043321282463 : Unit := ()
def PySem.W.Fast.tw29432103967933004 : Unit := ()
def PySem.W.Fast.tw4105901539197834233 : Unit := ()
def PySem.W.Fast.tw12333989287016293394 : Unit := ()
def PySem.W.Fast.tw4556384575769283330 : Unit := ()
def PySem.W.Fast.tw12592178062218963134 : Unit := ()
def PySem.W.Fast.tw5123251963110468066 : Unit := ()
def PySem.W.Fast.tw17160643641819336598 : Unit := ()
def PySem.W.Fast.tw7157546302952569860 : Unit := ()
def PySem.W.Fast.tw482404922043222450 : Unit := ()
def PySem.W.Fast.tw13928249714257304647 : Unit := ()
def PySem.W.Fast.tw2391099456191967191 : Unit := ()
def PySem.W.Fast.tw12215848429066510986 : Unit := ()
def PySem.W.Fast.tw10315255166111774883 : Unit := ()
def PySem.W.Fast.tw4544531871925766318 : Unit := ()
def PySem.W.Fast.tw7353665046639097793 : Unit := ()
def PySem.W.Fast.tw16541225121049932180 : Unit := ()
def PySem.W.Fast.tw6050028459973882295 : Unit := ()
def PySem.W.Fast.tw4051936501426023114 : Unit := ()
def PySem.W.Fast.tw17691306011491071649 : Unit := ()
def PySem.W.Fast.tw17666221026961733065 : Unit := ()
def PySem.W.Fast.tw17913934415609838249 : Unit := ()
def PySem.W.Fast.tw13335657770143228443 : Unit := ()
def PySem.W.Fast.tw50324486914333363 : Unit := ()
def PySem.W.Fast.tw11695257266584170235 : Unit := ()
def PySem.W.Fast.tw17942614963533777007 : Unit := ()
def PySem.W.Fast.tw8436542523156197260 : Unit := ()
def PySem.W.Fast.tw13025606424408562784 : Unit := ()
def PySem.W.Fast.tw373019871860879657 : Unit := ()
def PySem.W.Fast.tw364073222253310121 : Unit := ()
def PySem.W.Fast.tw11665101450668905149 : Unit := ()
def PySem.W.Fast.tw17989083340708844371 : Unit := ()
def PySem.W.Fast.tw713217430076280660 : Unit := ()
def PySem.W.Fast.tw1528110678437509262 : Unit := ()
def PySem.W.Fast.tw18095848722660872978 : Unit := ()
def PySem.W.Fast.tw15235948601134125074 : Unit := ()
def PySem.W.Fast.tw11261048935462552370 : Unit := ()
def PySem.W.Fast.tw16789989439704047076 : Unit := ()
def PySem.W.Fast.tw548966985194825712 : Unit := ()
def PySem.W.Fast.tw1058045273711766166 : Unit := ()
def PySem.W.Fast.tw6106437515044796354 : Unit := ()
def PySem.W.Fast.tw17909847370011953471 : Unit := ()
def PySem.W.Fast.tw6921008782107379791 : Unit := ()
def PySem.W.Fast.tw8098014268342136426 : Unit := ()
def PySem.W.Fast.tw9033331793022230464 : Unit := ()
def PySem.W.Fast.tw4613477800503112855 : Unit := ()
def PySem.W.Fast.tw16748615017233924789 : Unit := ()
def PySem.W.Fast.tw1137030596727127071 : Unit := ()
def PySem.W.Fast.tw4151507829106104137 : Unit := ()
def PySem.W.Fast.tw13613159118481184890 : Unit := ()
def PySem.W.Fast.tw1897222042213347693 : Unit := ()
def PySem.W.Fast.tw14952145920941392480 : Unit := ()
def PySem.W.Fast.tw1608958713754639239 : Unit := ()
def PySem.W.Fast.tw11020246742952433473 : Unit := ()
def PySem.W.Fast.tw3974208680143839604 : Unit := ()
def PySem.W.Fast.tw16657191881175547102 : Unit := ()
def PySem.W.Fast.tw7623984754959615139 : Unit := ()
def PySem.W.Fast.tw14303824520090737899 : Unit := ()
def PySem.W.Fast.tw7838324461215608667 : Unit := ()
def PySem.W.Fast.tw2970012155136150567 : Unit := ()
def PySem.W.Fast.tw950988010690765390 : Unit := ()
def PySem.W.Fast.tw6369070370112416369 : Unit := ()
def PySem.W.Fast.tw16400632772814910752 : Unit := ()
def PySem.W.Fast.tw11365667725063885288 : Unit := ()
def PySem.W.Fast.tw6063792383528249336 : Unit := ()
def PySem.W.Fast.tw9505382376920172057 : Unit := ()
def PySem.W.Fast.tw12669499863813759031 : Unit := ()
def PySem.W.Fast.tw5635011383505286483 : Unit := ()
def PySem.W.Fast.tw10070665749843310373 : Unit := ()
def PySem.W.Fast.tw7011468700207851057 : Unit := ()
def PySem.W.Fast.tw18188293363410838508 : Unit := ()
def PySem.W.Fast.tw1083339701083242956 : Unit := ()
def PySem.W.Fast.tw16656448576349384127 : Unit := ()
def PySem.W.Fast.tw15183516017563838845 : Unit := ()
def PySem.W.Fast.tw10918066193945497151 : Unit := ()
def PySem.W.Fast.tw8873384080816454778 : Unit := ()
def PySem.W.Fast.tw2655822300706799376 : Unit := ()
def PySem.W.Fast.tw14008396634655277278 : Unit := ()
def PySem.W.Fast.tw12481638713471277167 : Unit := ()
def PySem.W.Fast.tw1686930855614488418 : Unit := ()
def PySem.W.Fast.tw5144342855425915989 : Unit := ()
def PySem.W.Fast.tw11384542496227807206 : Unit := ()
def PySem.W.Fast.tw1552387757208699492 : Unit := ()
def PySem.W.Fast.tw719756875851464641 : Unit := ()
def PySem.W.Fast.tw10599749288035734931 : Unit := ()
def PySem.W.Fast.tw11752223508561233736 : Unit := ()
def PySem.W.Fast.tw11722812011447572480 : Unit := ()
def PySem.W.Fast.tw15697856511127457004 : Unit := ()
def PySem.W.Fast.tw8716162984014231000 : Unit := ()
def PySem.W.Fast.tw12112636328577486398 : Unit := ()
def PySem.W.Fast.tw14908272105472847608 : Unit := ()
def PySem.W.Fast.tw16232576598123371268 : Unit := ()
def PySem.W.Fast.tw16579084036341929580 : Unit := ()
def PySem.W.Fast.tw3069699785091440055 : Unit := ()
def PySem.W.Fast.tw9072765219785703611 : Unit := ()
def PySem.W.Fast.tw13754999583771172132 : Unit := ()
def PySem.W.Fast.tw13682823907940059485 : Unit := ()
def PySem.W.Fast.tw15546818167059900858 : Unit := ()
def PySem.W.Fast.tw10087670073884653713 : Unit := ()
def PySem.W.Fast.tw9652917462817263427 : Unit := ()
def PySem.W.Fast.tw7136008542104184932 : Unit := ()
def PySem.W.Fast.tw4794139160589734089 : Unit := ()
def PySem.W.Fast.tw13186197967820697176 : Unit := ()
def PySem.W.Fast.tw11253316562611601881 : Unit := ()
def PySem.W.Fast.tw2672911745819630284 : Unit := ()
def PySem.W.Fast.tw17057229999425028705 : Unit := ()
def PySem.W.Fast.tw13173383176982502316 : Unit := ()
def PySem.W.Fast.tw4910746113310987694 : Unit := ()
def PySem.W.Fast.tw13685413846859924621 : Unit := ()
def PySem.W.Fast.tw1142158504529110649 : Unit := ()
def PySem.W.Fast.tw4142629133238215601 : Unit := ()
def PySem.W.Fast.tw3044263000656915328 : Unit := ()
def PySem.W.Fast.tw16266065876539974013 : Unit := ()
def PySem.W.Fast.tw12584620348691774166 : Unit := ()
def PySem.W.Fast.tw2561602218243170943 : Unit := ()
def PySem.W.Fast.tw8246994146126507132 : Unit := ()
def PySem.W.Fast.tw401424726592533769 : Unit := ()
def PySem.W.Fast.tw11604280172026460640 : Unit := ()
def PySem.W.Fast.tw16865067989639594076 : Unit := ()
def PySem.W.Fast.tw9256116942796923896 : Unit := ()
def PySem.W.Fast.tw15323620182158149939 : Unit := ()
def PySem.W.Fast.tw1092768120080189712 : Unit := ()
def PySem.W.Fast.tw7473998198903063998 : Unit := ()
def PySem.W.Fast.tw8536616896277239161 : Unit := ()
def PySem.W.Fast.tw9916251165126670259 : Unit := ()
def PySem.W.Fast.tw12188885408386017294 : Unit := ()
def PySem.W.Fast.tw4502074178600316226 : Unit := ()
def PySem.W.Fast.tw14656178010486364479 : Unit := ()
def PySem.W.Fast.tw13516180736308770973 : Unit := ()
def PySem.W.Fast.tw3271262452959540772 : Unit := ()
def PySem.W.Fast.tw15639798180762920889 : Unit := ()
def PySem.W.Fast.tw5746992898389202695 : Unit := ()
def PySem.W.Fast.tw16918990748554632823 : Unit := ()
def PySem.W.Fast.tw17473946488538276272 : Unit := ()
def PySem.W.Fast.tw17651655461856782580 : Unit := ()
def PySem.W.Fast.tw3471311054662979411 : Unit := ()
def PySem.W.Fast.tw5784082146088124009 : Unit := ()
def PySem.W.Fast.tw3822824359004732883 : Unit := ()
def PySem.W.Fast.tw3877761799202065852 : Unit := ()
def PySem.W.Fast.tw16184019741756495565 : Unit := ()
def PySem.W.Fast.tw8115005062167699007 : Unit := ()
def PySem.W.Fast.tw11736956020456561975 : Unit := ()
def PySem.W.Fast.tw5263483817701668556 : Unit := ()
def PySem.W.Fast.tw207710994038334518 : Unit := ()
def PySem.W.Fast.tw14682217816586142293 : Unit := ()
def PySem.W.Fast.tw1110351482572727830 : Unit := ()
def PySem.W.Fast.tw6948258084543632172 : Unit := ()
def PySem.W.Fast.tw2305354574158247404 : Unit := ()
def PySem.W.Fast.tw14707892834284273743 : Unit := ()
def PySem.W.Fast.tw3954482086620109854 : Unit := ()
def PySem.W.Fast.tw18436386839694629430 : Unit := ()
def PySem.W.Fast.tw3866757323556891632 : Unit := ()
def PySem.W.Fast.tw10705655477578977009 : Unit := ()
def PySem.W.Fast.tw13023553087634734940 : Unit := ()
def PySem.W.Fast.tw6527680240469322116 : Unit := ()
def PySem.W.Fast.tw861339094790864124 : Unit := ()
def PySem.W.Fast.tw11135978721656168971 : Unit := ()
def PySem.W.Fast.tw3730829436561944716 : Unit := ()
def PySem.W.Fast.tw13942709737948268813 : Unit := ()
def PySem.W.Fast.tw15008030017109213774 : Unit := ()
def PySem.W.Fast.tw1401135750918953329 : Unit := ()
def PySem.W.Fast.tw8462506457405279831 : Unit := ()
def PySem.W.Fast.tw12705238979247460861 : Unit := ()
def PySem.W.Fast.tw842806319513859838 : Unit := ()
def PySem.W.Fast.tw16379734867409078301 : Unit := ()
def PySem.W.Fast.tw17834568318940297504 : Unit := ()
def PySem.W.Fast.tw2228732739827462588 : Unit := ()
def PySem.W.Fast.tw13610840929780319185 : Unit := ()
def PySem.W.Fast.tw12936703530347586222 : Unit := ()
def PySem.W.Fast.tw14894325603574134361 : Unit := ()
def PySem.W.Fast.tw16892789967418396555 : Unit := ()
def PySem.W.Fast.tw12482076645908276880 : Unit := ()
def PySem.W.Fast.tw13731642148013362012 : Unit := ()
def PySem.W.Fast.tw11449565827883581320 : Unit := ()
def PySem.W.Fast.tw1933717160362413775 : Unit := ()
def PySem.W.Fast.tw8441138578193397907 : Unit := ()
def PySem.W.Fast.tw15485583859279174150 : Unit := ()
def PySem.W.Fast.tw1908519981291929068 : Unit := ()
def PySem.W.Fast.tw7322998533489569875 : Unit := ()
def PySem.W.Fast.tw17182848567159116339 : Unit := ()
def PySem.W.Fast.tw7347245480806785485 : Unit := ()
def PySem.W.Fast.tw660215534307138558 : Unit := ()
def PySem.W.Fast.tw2287952442326372085 : Unit := ()
def PySem.W.Fast.tw4423916286359955300 : Unit := ()
def PySem.W.Fast.tw1385360673132691155 : Unit := ()
def PySem.W.Fast.tw10713038432159005264 : Unit := ()
def PySem.W.Fast.tw2296802664870490781 : Unit := ()
def PySem.W.Fast.tw16473562307161740304 : Unit := ()
def PySem.W.Fast.tw6574134558165213556 : Unit := ()
def PySem.W.Fast.tw7615698702983117399 : Unit := ()
def PySem.W.Fast.tw14183108697737647492 : Unit := ()
def PySem.W.Fast.tw7144413592955880006 : Unit := ()
def PySem.W.Fast.tw6266753625616862561 : Unit := ()
def PySem.W.Fast.tw14719032052826501491 : Unit := ()
def PySem.W.Fast.tw8626112605562262662 : Unit := ()
def PySem.W.Fast.tw11282336617021336168 : Unit := ()
def PySem.W.Fast.tw2045479450877430311 : Unit := ()
def PySem.W.Fast.tw10771834258003116257 : Unit := ()
def PySem.W.Fast.tw4524836643094379948 : Unit := ()
def PySem.W.Fast.tw5493819409018597046 : Unit := ()
def PySem.W.Fast.tw5052391354388506601 : Unit := ()
def PySem.W.Fast.tw15712986296225228291 : Unit := ()
def PySem.W.Fast.tw7032459236395450091 : Unit := ()
def PySem.W.Fast.tw11672362015978404671 : Unit := ()
def PySem.W.Fast.tw4851574953976916628 : Unit := ()
def PySem.W.Fast.tw1255126114657770470 : Unit := ()
def PySem.W.Fast.tw18443640181070637446 : Unit := ()
def PySem.W.Fast.tw1230207621065190011 : Unit := ()
def PySem.W.Fast.tw4828891987156363234 : Unit := ()
def PySem.W.Fast.tw1584496384358571066 : Unit := ()
def PySem.W.Fast.tw3289644305812416378 : Unit := ()
def PySem.W.Fast.tw1923606362490145479 : Unit := ()
def PySem.W.Fast.tw17305757056952368327 : Unit := ()
def PySem.W.Fast.tw14953931798864502328 : Unit := ()
def PySem.W.Fast.tw10222871130026731895 : Unit := ()
def PySem.W.Fast.tw11786508890365263611 : Unit := ()
def PySem.W.Fast.tw11400668737396572208 : Unit := ()
def PySem.W.Fast.tw7533325934898179452 : Unit := ()
def PySem.W.Fast.tw15766147305610093542 : Unit := ()
def PySem.W.Fast.tw2289300248909946777 : Unit := ()
def PySem.W.Fast.tw3218839885203631268 : Unit := ()
def PySem.W.Fast.tw14451311484992932567 : Unit := ()
def PySem.W.Fast.tw2143924136396983358 : Unit := ()
def PySem.W.Fast.tw3714938064994031526 : Unit := ()
def PySem.W.Fast.tw12732119736969863918 : Unit := ()
def PySem.W.Fast.tw6017516834844364190 : Unit := ()
def PySem.W.Fast.tw8615182503106496351 : Unit := ()
def PySem.W.Fast.tw34830052988047872 : Unit := ()
def PySem.W.Fast.tw756562765218518258 : Unit := ()
def PySem.W.Fast.tw4571594117838816893 : Unit := ()
def PySem.W.Fast.tw10531510953869215541 : Unit := ()
def PySem.W.Fast.tw9789908134434787260 : Unit := ()
def PySem.W.Fast.tw4982628634432391275 : Unit := ()
def PySem.W.Fast.tw5850868042468721458 : Unit := ()
def PySem.W.Fast.tw17062555270397315450 : Unit := ()
def PySem.W.Fast.tw1370362069305550667 : Unit := ()
def PySem.W.Fast.tw789492602786843112 : Unit := ()
def PySem.W.Fast.tw2331912807167682231 : Unit := ()
def PySem.W.Fast.tw838815880968768017 : Unit := ()
def PySem.W.Fast.tw3280864032493040829 : Unit := ()
def PySem.W.Fast.tw7084776767283117243 : Unit := ()
def PySem.W.Fast.tw4293483724979372272 : Unit := ()
def PySem.W.Fast.tw7163583524949732356 : Unit := ()
def PySem.W.Fast.tw1246553413061916904 : Unit := ()
def PySem.W.Fast.tw15234411670078038338 : Unit := ()
def PySem.W.Fast.tw12079629298713932523 : Unit := ()
def PySem.W.Fast.tw5897802028571687441 : Unit := ()
def PySem.W.Fast.tw10632243705642403268 : Unit := ()
def PySem.W.Fast.tw349424251173280110 : Unit := ()
def PySem.W.Fast.tw12211224598564380847 : Unit := ()
def PySem.W.Fast.tw4567681398408948925 : Unit := ()
def PySem.W.Fast.tw12829140697264203688 : Unit := ()
def PySem.W.Fast.tw277613750035975545 : Unit := ()
def PySem.W.Fast.tw3596414101687123327 : Unit := ()
def PySem.W.Fast.tw404400718694510247 : Unit := ()
def PySem.W.Fast.tw14441182549974703817 : Unit := ()
def PySem.W.Fast.tw3901904614996358850 : Unit := ()
def PySem.W.Fast.tw15069255514412322862 : Unit := ()
def PySem.W.Fast.tw2762013275237741645 : Unit := ()
def PySem.W.Fast.tw2838517048427861626 : Unit := ()
def PySem.W.Fast.tw1083136231552823260 : Unit := ()
def PySem.W.Fast.tw17548203281789757735 : Unit := ()
def PySem.W.Fast.tw5745889662349480972 : Unit := ()
def PySem.W.Fast.tw17840974058655855822 : Unit := ()
def PySem.W.Fast.tw16185299530700839910 : Unit := ()
def PySem.W.Fast.tw841756710492163261 : Unit := ()
def PySem.W.Fast.tw16530615804171869116 : Unit := ()
def PySem.W.Fast.tw4900649914533224367 : Unit := ()
def PySem.W.Fast.tw1163231400187003222 : Unit := ()
def PySem.W.Fast.tw149828752053142749 : Unit := ()
def PySem.W.Fast.tw2979348300034893286 : Unit := ()
def PySem.W.Fast.tw8283739729706760161 : Unit := ()
def PySem.W.Fast.tw12376947678681448017 : Unit := ()
def PySem.W.Fast.tw14079260705510135303 : Unit := ()
def PySem.W.Fast.tw10791243304836701860 : Unit := ()
def PySem.W.Fast.tw2723236100353347293 : Unit := ()
def PySem.W.Fast.tw10583151507644308716 : Unit := ()
def PySem.W.Fast.tw10005713242502722407 : Unit := ()
def PySem.W.Fast.tw710037025881438154 : Unit := ()
def PySem.W.Fast.tw782460304119033381 : Unit := ()
def PySem.W.Fast.tw4496588117242951179 : Unit := ()
def PySem.W.Fast.tw14388006048023622828 : Unit := ()
def PySem.W.Fast.tw15130281496335346871 : Unit := ()
def PySem.W.Fast.tw5786488276009805239 : Unit := ()
def PySem.W.Fast.tw1862410247861592222 : Unit := ()
def PySem.W.Fast.tw7336633039629621068 : Unit := ()
def PySem.W.Fast.tw10680969380440527255 : Unit := ()
def PySem.W.Fast.tw2151930901090194000 : Unit := ()
def PySem.W.Fast.tw16621168658182848567 : Unit := ()
def PySem.W.Fast.tw15063727707941174369 : Unit := ()
def PySem.W.Fast.tw8625182112135724861 : Unit := ()
def PySem.W.Fast.tw15903228700530253567 : Unit := ()
def PySem.W.Fast.tw14674097081059957367 : Unit := ()
def PySem.W.Fast.tw13981683928053060281 : Unit := ()
def PySem.W.Fast.tw11804959749086469337 : Unit := ()
def PySem.W.Fast.tw7794244562441862218 : Unit := ()
def PySem.W.Fast.tw4033809257374154473 : Unit := ()
def PySem.W.Fast.tw3009211527234222130 : Unit := ()
def PySem.W.Fast.tw4397001972281415824 : Unit := ()
def PySem.W.Fast.tw10401397256123220468 : Unit := ()
def PySem.W.Fast.tw15218921472806752354 : Unit := ()
def PySem.W.Fast.tw16550640466359024467 : Unit := ()
def PySem.W.Fast.tw2862643353736698773 : Unit := ()
def PySem.W.Fast.tw14828106791123187237 : Unit := ()
def PySem.W.Fast.tw18103537936396759803 : Unit := ()
def PySem.W.Fast.tw10886338975823276292 : Unit := ()
def PySem.W.Fast.tw8612379613741065654 : Unit := ()
def PySem.W.Fast.tw17798533702206071685 : Unit := ()
def PySem.W.Fast.tw6911297783646255612 : Unit := ()
def PySem.W.Fast.tw1722932488308914571 : Unit := ()
def PySem.W.Fast.tw11749945569888439690 : Unit := ()
def PySem.W.Fast.tw14399756232216637873 : Unit := ()
def PySem.W.Fast.tw10411122916184850885 : Unit := ()
def PySem.W.Fast.tw4704159252076199599 : Unit := ()
def PySem.W.Fast.tw571649101013335774 : Unit := ()
def PySem.W.Fast.tw16044147629505443607 : Unit := ()
def PySem.W.Fast.tw7718512951846062344 : Unit := ()
def PySem.W.Fast.tw2999667602523562714 : Unit := ()
def PySem.W.Fast.tw15813386224065264209 : Unit := ()
def PySem.W.Fast.tw1298417644374884966 : Unit := ()
def PySem.W.Fast.tw14227037066342781665 : Unit := ()
def PySem.W.Fast.tw16298515898829655409 : Unit := ()
def PySem.W.Fast.tw11138711221758257117 : Unit := ()
def PySem.W.Fast.tw8511806945660725166 : Unit := ()
def PySem.W.Fast.tw6687155907588516356 : Unit := ()
def PySem.W.Fast.tw11109960567829067216 : Unit := ()
def PySem.W.Fast.tw11620060460973632709 : Unit := ()
def PySem.W.Fast.tw11270377687912558282 : Unit := ()
def PySem.W.Fast.tw13607067474484891664 : Unit := ()
def PySem.W.Fast.tw950654248410103380 : Unit := ()
def PySem.W.Fast.tw1478896640955561296 : Unit := ()
def PySem.W.Fast.tw18401885591338402318 : Unit := ()
def PySem.W.Fast.tw15346860326162898642 : Unit := ()
def PySem.W.Fast.tw11872873163689548628 : Unit := ()
def PySem.W.Fast.tw5535559926382109753 : Unit := ()
def PySem.W.Fast.tw8320166364178995955 : Unit := ()
def PySem.W.Fast.tw5121678254295777607 : Unit := ()
def PySem.W.Fast.tw5312129591901086191 : Unit := ()
def PySem.W.Fast.tw9039956567677326423 : Unit := ()
def PySem.W.Fast.tw15873477565243731641 : Unit := ()
def PySem.W.Fast.tw10664886748044816488 : Unit := ()
def PySem.W.Fast.tw5307637075070087860 : Unit := ()
def PySem.W.Fast.tw15615345707520219126 : Unit := ()
def PySem.W.Fast.tw778544344110035539 : Unit := ()
def PySem.W.Fast.tw17030680347228147456 : Unit := ()
def PySem.W.Fast.tw11156358192589906225 : Unit := ()
def PySem.W.Fast.tw191065971441949095 : Unit := ()
def PySem.W.Fast.tw7655450403354659911 : Unit := ()
def PySem.W.Fast.tw5815392850407048818 : Unit := ()
def PySem.W.Fast.tw4640312498413410091 : Unit := ()
def PySem.W.Fast.tw16611892627028413147 : Unit := ()
def PySem.W.Fast.tw9233920035172321384 : Unit := ()
def PySem.W.Fast.tw1870060396751207328 : Unit := ()
def PySem.W.Fast.tw6641565601825276470 : Unit := ()
def PySem.W.Fast.tw9028825545365096084 : Unit := ()
def PySem.W.Fast.tw7640435125989017270 : Unit := ()
def PySem.W.Fast.tw8279580118882607958 : Unit := ()
def PySem.W.Fast.tw3868333718495906490 : Unit := ()
def PySem.W.Fast.tw1103369742923777889 : Unit := ()
def PySem.W.Fast.tw11470670428765966200 : Unit := ()
def PySem.W.Fast.tw13097534225816200152 : Unit := ()
def PySem.W.Fast.tw13420147683025328822 : Unit := ()
def PySem.W.Fast.tw16974487487829602502 : Unit := ()
def PySem.W.Fast.tw17054968044600247353 : Unit := ()
def PySem.W.Fast.tw9657720779609531101 : Unit := ()
def PySem.W.Fast.tw14123313532562121335 : Unit := ()
def PySem.W.Fast.tw4004398200944505292 : Unit := ()
def PySem.W.Fast.tw11273191218211729180 : Unit := ()
def PySem.W.Fast.tw14202597017971220672 : Unit := ()
def PySem.W.Fast.tw15555577868583558839 : Unit := ()
def PySem.W.Fast.tw8852228902302277940 : Unit := ()
def PySem.W.Fast.tw5930100455179558169 : Unit := ()
def PySem.W.Fast.tw9060694690835421861 : Unit := ()
def PySem.W.Fast.tw6711171024220900304 : Unit := ()
def PySem.W.Fast.tw14586058861067590429 : Unit := ()
def PySem.W.Fast.tw2401312400132294732 : Unit := ()
def PySem.W.Fast.tw7875373060857040182 : Unit := ()
def PySem.W.Fast.tw10518015640390754882 : Unit := ()
def PySem.W.Fast.tw4491475250422864763 : Unit := ()
def PySem.W.Fast.tw11474753404120231995 : Unit := ()
def PySem.W.Fast.tw9252263895449903637 : Unit := ()
def PySem.W.Fast.tw17052347341635142810 : Unit := ()
def PySem.W.Fast.tw12969409916737384652 : Unit := ()
def PySem.W.Fast.tw17622809856379551363 : Unit := ()
def PySem.W.Fast.tw10673814566740995602 : Unit := ()
def PySem.W.Fast.tw5663397454609946660 : Unit := ()
def PySem.W.Fast.tw577957330715534244 : Unit := ()
def PySem.W.Fast.tw557821047130290944 : Unit := ()
def PySem.W.Fast.tw12949277561125111080 : Unit := ()
def PySem.W.Fast.tw6274377135433017354 : Unit := ()
def PySem.W.Fast.tw4970251440546007377 : Unit := ()
def PySem.W.Fast.tw9655496515124338071 : Unit := ()
def PySem.W.Fast.tw13370267780828840528 : Unit := ()
def PySem.W.Fast.tw18437202717413219661 : Unit := ()
def PySem.W.Fast.tw15980227375702571961 : Unit := ()
def PySem.W.Fast.tw6553209413676264984 : Unit := ()
def PySem.W.Fast.tw5879864464455621639 : Unit := ()
def PySem.W.Fast.tw12765970252902980362 : Unit := ()
def PySem.W.Fast.tw4242335454801692942 : Unit := ()
def PySem.W.Fast.tw17379482782439624425 : Unit := ()
def PySem.W.Fast.tw1521001864672169325 : Unit := ()
def PySem.W.Fast.tw17294214134750527761 : Unit := ()
def PySem.W.Fast.tw1129061883418204700 : Unit := ()
def PySem.W.Fast.tw14267059452436347881 : Unit := ()
def PySem.W.Fast.tw16552288381307237495 : Unit := ()
def PySem.W.Fast.tw14885677353435834748 : Unit := ()
def PySem.W.Fast.tw7771703844636984886 : Unit := ()
def PySem.W.Fast.tw7605738868148383333 : Unit := ()
def PySem.W.Fast.tw7887372078998048649 : Unit := ()
def PySem.W.Fast.tw1399507074703850421 : Unit := ()
def PySem.W.Fast.tw8028752797559177702 : Unit := ()
def PySem.W.Fast.tw421323387412310445 : Unit := ()
def PySem.W.Fast.tw10335870405330870577 : Unit := ()
def PySem.W.Fast.tw68096501441866667 : Unit := ()
def PySem.W.Fast.tw889461092498097433 : Unit := ()
def PySem.W.Fast.tw878903676553937203 : Unit := ()
def PySem.W.Fast.tw10775080483391939673 : Unit := ()
def PySem.W.Fast.tw6021597184170989882 : Unit := ()
def PySem.W.Fast.tw1594353566316399003 : Unit := ()
def PySem.W.Fast.tw11016783620940876335 : Unit := ()
def PySem.W.Fast.tw5813341493073939669 : Unit := ()
def PySem.W.Fast.tw8205972735343179306 : Unit := ()
def PySem.W.Fast.tw12368222586268075206 : Unit := ()
def PySem.W.Fast.tw11315779315647422509 : Unit := ()
def PySem.W.Fast.tw96211371488261597 : Unit := ()
def PySem.W.Fast.tw246781291399224572 : Unit := ()
def PySem.W.Fast.tw5535648162356958854 : Unit := ()
def PySem.W.Fast.tw12905864191556736978 : Unit := ()
def PySem.W.Fast.tw14511410020295676677 : Unit := ()
def PySem.W.Fast.tw16450753630819159036 : Unit := ()
def PySem.W.Fast.tw17581543062245813987 : Unit := ()
def PySem.W.Fast.tw30786221097504043 : Unit := ()
def PySem.W.Fast.tw4339458999989604406 : Unit := ()
def PySem.W.Fast.tw3642373553809531003 : Unit := ()
def PySem.W.Fast.tw10932524412263065924 : Unit := ()
def PySem.W.Fast.tw2360454646282187112 : Unit := ()
def PySem.W.Fast.tw16738914694907046574 : Unit := ()
def PySem.W.Fast.tw7051598711557540501 : Unit := ()
def PySem.W.Fast.tw13892790523665567964 : Unit := ()
def PySem.W.Fast.tw16333241053091489680 : Unit := ()
def PySem.W.Fast.tw11665652767491440535 : Unit := ()
def PySem.W.Fast.tw13722998290526081394 : Unit := ()
def PySem.W.Fast.tw15849825445876992980 : Unit := ()
def PySem.W.Fast.tw6813959314788458215 : Unit := ()
def PySem.W.Fast.tw3949590011121104738 : Unit := ()
def PySem.W.Fast.tw8333443980590671639 : Unit := ()
def PySem.W.Fast.tw3262849023481665549 : Unit := ()
def PySem.W.Fast.tw14103244775015507287 : Unit := ()
def PySem.W.Fast.tw12366813712849037667 : Unit := ()
def PySem.W.Fast.tw15417710146711678107 : Unit := ()
def PySem.W.Fast.tw9004838139746193988 : Unit := ()
def PySem.W.Fast.tw10143854639040397209 : Unit := ()
def PySem.W.Fast.tw10692779401834991267 : Unit := ()
def PySem.W.Fast.tw11219519903989311243 : Unit := ()
def PySem.W.Fast.tw2718386065662888142 : Unit := ()
def PySem.W.Fast.tw1448951700851408300 : Unit := ()
def PySem.W.Fast.tw14859989444016766709 : Unit := ()
def PySem.W.Fast.tw15657649065746763866 : Unit := ()
def PySem.W.Fast.tw7190337561493739423 : Unit := ()
def PySem.W.Fast.tw17320196897588552802 : Unit := ()
def PySem.W.Fast.tw3958271846640187942 : Unit := ()
def PySem.W.Fast.tw9007145888996284666 : Unit := ()
def PySem.W.Fast.tw18321396037340385897 : Unit := ()
def PySem.W.Fast.tw14376201880547991819 : Unit := ()
def PySem.W.Fast.tw6722484836531981087 : Unit := ()
def PySem.W.Fast.tw16453927312425000120 : Unit := ()
def PySem.W.Fast.tw2717665825855056644 : Unit := ()
def PySem.W.Fast.tw8325041173667497729 : Unit := ()
def PySem.W.Fast.tw12953797974727738244 : Unit := ()
def PySem.W.Fast.tw16920639456991658063 : Unit := ()
def PySem.W.Fast.tw16543279553795506938 : Unit := ()
def PySem.W.Fast.tw13560283928566933236 : Unit := ()
def PySem.W.Fast.tw11150504872363680329 : Unit := ()
def PySem.W.Fast.tw13356440221352468165 : Unit := ()
def PySem.W.Fast.tw5916170158066734213 : Unit := ()
def PySem.W.Fast.tw16910437878439999527 : Unit := ()
def PySem.W.Fast.tw624733207430920421 : Unit := ()
def PySem.W.Fast.tw9827942129095841274 : Unit := ()
def PySem.W.Fast.tw16217318173379102012 : Unit := ()
def PySem.W.Fast.tw2076767558356318173 : Unit := ()
def PySem.W.Fast.tw11770824161277466493 : Unit := ()
def PySem.W.Fast.tw7100710095097830898 : Unit := ()
def PySem.W.Fast.tw13186796433051961077 : Unit := ()
def PySem.W.Fast.tw17042224419034041137 : Unit := ()
def PySem.W.Fast.tw1265015279811055148 : Unit := ()
def PySem.W.Fast.tw9401981219713910179 : Unit := ()
def PySem.W.Fast.tw16932294939982874648 : Unit := ()
def PySem.W.Fast.tw15888913602518573268 : Unit := ()
def PySem.W.Fast.tw17933542084000113683 : Unit := ()
def PySem.W.Fast.tw11899209921081223318 : Unit := ()
def PySem.W.Fast.tw3402587158964922759 : Unit := ()
def PySem.W.Fast.tw5650103711409610810 : Unit := ()
def PySem.W.Fast.tw12002215694349829566 : Unit := ()
def PySem.W.Fast.tw17754711739639870163 : Unit := ()
def PySem.W.Fast.tw10537075550770372020 : Unit := ()
def PySem.W.Fast.tw7305478949798002573 : Unit := ()
def PySem.W.Fast.tw10023114026702248071 : Unit := ()
def PySem.W.Fast.tw6996619410984277404 : Unit := ()
def PySem.W.Fast.tw13579821218366927752 : Unit := ()
def PySem.W.Fast.tw17208474433899468584 : Unit := ()
def PySem.W.Fast.tw12359806725994500851 : Unit := ()
def PySem.W.Fast.tw9353764565275940636 : Unit := ()
def PySem.W.Fast.tw6446052027838995803 : Unit := ()
def PySem.W.Fast.tw5855180120296063175 : Unit := ()
def PySem.W.Fast.tw4354437951086718509 : Unit := ()
def PySem.W.Fast.tw7874585991204715269 : Unit := ()
def PySem.W.Fast.tw16613391031651854538 : Unit := ()
def PySem.W.Fast.tw12472942918573997274 : Unit := ()
def PySem.W.Fast.tw14345972519848336156 : Unit := ()
def PySem.W.Fast.tw5976591494895771836 : Unit := ()
def PySem.W.Fast.tw4240806073897088267 : Unit := ()
def PySem.W.Fast.tw2002099619143058044 : Unit := ()
def PySem.W.Fast.tw6659411341543902375 : Unit := ()
def PySem.W.Fast.tw10887913722796210690 : Unit := ()
def PySem.W.Fast.tw5714696070511102294 : Unit := ()
def PySem.W.Fast.tw5545020482451607943 : Unit := ()
def PySem.W.Fast.tw1382255900591829312 : Unit := ()
def PySem.W.Fast.tw16661884779976130070 : Unit := ()
def PySem.W.Fast.tw9116008139997605965 : Unit := ()
def PySem.W.Fast.tw7286706413503529977 : Unit := ()
def PySem.W.Fast.tw1179122624253445867 : Unit := ()
def PySem.W.Fast.tw4707217317758606136 : Unit := ()
def PySem.W.Fast.tw944556462053315791 : Unit := ()
def PySem.W.Fast.tw13889635483010030057 : Unit := ()
def PySem.W.Fast.tw15471600580698136006 : Unit := ()
def PySem.W.Fast.tw5545140280660155989 : Unit := ()
def PySem.W.Fast.tw4233740791957189550 : Unit := ()
def PySem.W.Fast.tw9107811955851260982 : Unit := ()
def PySem.W.Fast.tw1407728281886672255 : Unit := ()
def PySem.W.Fast.tw17142821889175142311 : Unit := ()
def PySem.W.Fast.tw14371898795743825089 : Unit := ()
def PySem.W.Fast.tw15741825249143010631 : Unit := ()
def PySem.W.Fast.tw8635793208387716814 : Unit := ()
def PySem.W.Fast.tw11942277761425155386 : Unit := ()
def PySem.W.Fast.tw4374373784098406352 : Unit := ()
def PySem.W.Fast.tw3759706295590608123 : Unit := ()
def PySem.W.Fast.tw17233035201738465491 : Unit := ()
def PySem.W.Fast.tw7478719759357127583 : Unit := ()
def PySem.W.Fast.tw14387150914433880314 : Unit := ()
def PySem.W.Fast.tw4258314543250242779 : Unit := ()
def PySem.W.Fast.tw17119405244980757235 : Unit := ()
def PySem.W.Fast.tw14282796153810311699 : Unit := ()
def PySem.W.Fast.tw6839029226284915542 : Unit := ()
def PySem.W.Fast.tw5030694714185607222 : Unit := ()
def PySem.W.Fast.tw18220934564240903327 : Unit := ()
def PySem.W.Fast.tw13058354449250291715 : Unit := ()
def PySem.W.Fast.tw2304469693354362631 : Unit := ()
def PySem.W.Fast.tw1881011477740967403 : Unit := ()
def PySem.W.Fast.tw12678536920697924682 : Unit := ()
def PySem.W.Fast.tw571622408208960749 : Unit := ()
def PySem.W.Fast.tw13519859481625620507 : Unit := ()
def PySem.W.Fast.tw15976689539617548033 : Unit := ()
def PySem.W.Fast.tw16947567280561301108 : Unit := ()
def PySem.W.Fast.tw13413073725935994477 : Unit := ()
def PySem.W.Fast.tw17710130663263350831 : Unit := ()
def PySem.W.Fast.tw6258919153866131956 : Unit := ()
def PySem.W.Fast.tw17170064296985286251 : Unit := ()
def PySem.W.Fast.tw12171764867537165288 : Unit := ()
def PySem.W.Fast.tw11139516190331138794 : Unit := ()
def PySem.W.Fast.tw5895638702757566665 : Unit := ()
def PySem.W.Fast.tw11998126343498857276 : Unit := ()
def PySem.W.Fast.tw2183689051633424006 : Unit := ()
def PySem.W.Fast.tw18014069571557010572 : Unit := ()
def PySem.W.Fast.tw4182318446364761886 : Unit := ()
def PySem.W.Fast.tw7297479718310999074 : Unit := ()
def PySem.W.Fast.tw1080143339536931319 : Unit := ()
def PySem.W.Fast.tw2752504555343477567 : Unit := ()
def PySem.W.Fast.tw17529966031281092809 : Unit := ()
def PySem.W.Fast.tw2263234198363390587 : Unit := ()
def PySem.W.Fast.tw5703561842019635519 : Unit := ()
def PySem.W.Fast.tw15071018344178127512 : Unit := ()
def PySem.W.Fast.tw4490430403203078617 : Unit := ()
def PySem.W.Fast.tw15844063524575668140 : Unit := ()
def PySem.W.Fast.tw15340538326150351920 : Unit := ()
def PySem.W.Fast.tw16122876346917291598 : Unit := ()
def PySem.W.Fast.tw3156057075036588077 : Unit := ()
def PySem.W.Fast.tw1996263499204881997 : Unit := ()
def PySem.W.Fast.tw7796466093618161877 : Unit := ()
def PySem.W.Fast.tw12602289371453485009 : Unit := ()
def PySem.W.Fast.tw899119173930019430 : Unit := ()
def PySem.W.Fast.tw17156969927602641577 : Unit := ()
def PySem.W.Fast.tw15323169550375419107 : Unit := ()
def PySem.W.Fast.tw14712348146357756499 : Unit := ()
def PySem.W.Fast.tw13825039698961946162 : Unit := ()
def PySem.W.Fast.tw11431490644379910026 : Unit := ()
def PySem.W.Fast.tw9195977762928037754 : Unit := ()
def PySem.W.Fast.tw7648759528738669714 : Unit := ()
def PySem.W.Fast.tw2009627988658404481 : Unit := ()
def PySem.W.Fast.tw12791025220737716060 : Unit := ()
def PySem.W.Fast.tw15705460397227232208 : Unit := ()
def PySem.W.Fast.tw4287678534273366354 : Unit := ()
def PySem.W.Fast.tw10955919261933200148 : Unit := ()
def PySem.W.Fast.tw2914123140090060726 : Unit := ()
def PySem.W.Fast.tw13791554859212508589 : Unit := ()
def PySem.W.Fast.tw5437136293458558568 : Unit := ()
def PySem.W.Fast.tw9581383429800927273 : Unit := ()
def PySem.W.Fast.tw17704583404047044513 : Unit := ()
def PySem.W.Fast.tw2683734033588488886 : Unit := ()
def PySem.W.Fast.tw558239664723387326 : Unit := ()
def PySem.W.Fast.tw16854812849591426347 : Unit := ()
def PySem.W.Fast.tw5110400086559069300 : Unit := ()
def PySem.W.Fast.tw9042426772939782533 : Unit := ()
def PySem.W.Fast.tw16253941106979028055 : Unit := ()
def PySem.W.Fast.tw11503929197106122661 : Unit := ()
def PySem.W.Fast.tw814139524858248588 : Unit := ()
def PySem.W.Fast.tw3721805899366986987 : Unit := ()
def PySem.W.Fast.tw8188141561385829441 : Unit := ()
def PySem.W.Fast.tw12160696694907847746 : Unit := ()
def PySem.W.Fast.tw140097581709603411 : Unit := ()
def PySem.W.Fast.tw9932535688638393150 : Unit := ()
def PySem.W.Fast.tw13666855809557310917 : Unit := ()
def PySem.W.Fast.tw9324011056191212436 : Unit := ()
def PySem.W.Fast.tw6399537578196560009 : Unit := ()
def PySem.W.Fast.tw6771345452189004188 : Unit := ()
def PySem.W.Fast.tw8309205034025628960 : Unit := ()
def PySem.W.Fast.tw3805806291382147665 : Unit := ()
def PySem.W.Fast.tw11696933266059038065 : Unit := ()
def PySem.W.Fast.tw14780656836893606028 : Unit := ()
def PySem.W.Fast.tw1920241062767170415 : Unit := ()
def PySem.W.Fast.tw4089648843561943317 : Unit := ()
def PySem.W.Fast.tw5860787841319184730 : Unit := ()
def PySem.W.Fast.tw18391283329521163727 : Unit := ()
def PySem.W.Fast.tw1623934109801367971 : Unit := ()
def PySem.W.Fast.tw12119275584849611412 : Unit := ()
def PySem.W.Fast.tw14234753129162263311 : Unit := ()
def PySem.W.Fast.tw3154270166045738868 : Unit := ()
def PySem.W.Fast.tw16780318347383568136 : Unit := ()
def PySem.W.Fast.tw17584706296810956590 : Unit := ()
def PySem.W.Fast.tw17321369796591000294 : Unit := ()
def PySem.W.Fast.tw8790186702445521286 : Unit := ()
def PySem.W.Fast.tw1422357561430299357 : Unit := ()
def PySem.W.Fast.tw5972269109964050221 : Unit := ()
def PySem.W.Fast.tw18082684798687599581 : Unit := ()
def PySem.W.Fast.tw11078549867970538201 : Unit := ()
def PySem.W.Fast.tw6389277612624358739 : Unit := ()
def PySem.W.Fast.tw17073900904690750128 : Unit := ()
def PySem.W.Fast.tw13354638818732569362 : Unit := ()
def PySem.W.Fast.tw11993240671385760864 : Unit := ()
def PySem.W.Fast.tw9290798691885236419 : Unit := ()
def PySem.W.Fast.tw6301629445464696875 : Unit := ()
def PySem.W.Fast.tw4814757122429100463 : Unit := ()
def PySem.W.Fast.tw3032200560582798700 : Unit := ()
def PySem.W.Fast.tw11152727516645408478 : Unit := ()
def PySem.W.Fast.tw15311518993394436834 : Unit := ()
def PySem.W.Fast.tw1542486382004451796 : Unit := ()
def PySem.W.Fast.tw8300212912393625276 : Unit := ()
def PySem.W.Fast.tw16660492174887096795 : Unit := ()
def PySem.W.Fast.tw17068218101607873910 : Unit := ()
def PySem.W.Fast.tw10929963996518709827 : Unit := ()
def PySem.W.Fast.tw8989959787864171313 : Unit := ()
def PySem.W.Fast.tw5211093234716941697 : Unit := ()
def PySem.W.Fast.tw17149698047452521147 : Unit := ()
def PySem.W.Fast.tw13462793722387396481 : Unit := ()
def PySem.W.Fast.tw4230720093074091843 : Unit := ()
def PySem.W.Fast.tw8412461796396737235 : Unit := ()
def PySem.W.Fast.tw10893313888348052175 : Unit := ()
def PySem.W.Fast.tw17678031237710935825 : Unit := ()
def PySem.W.Fast.tw10576356219932853266 : Unit := ()
def PySem.W.Fast.tw12570206975754547416 : Unit := ()
def PySem.W.Fast.tw1685902286376682831 : Unit := ()
def PySem.W.Fast.tw12945952983699492615 : Unit := ()
def PySem.W.Fast.tw7061329919675043324 : Unit := ()
def PySem.W.Fast.tw14525057374636143836 : Unit := ()
def PySem.W.Fast.tw17920551174867280882 : Unit := ()
def PySem.W.Fast.tw16207755153559219344 : Unit := ()
def PySem.W.Fast.tw13860578729642994852 : Unit := ()
def PySem.W.Fast.tw14561587836078579900 : Unit := ()
def PySem.W.Fast.tw16926529258472640167 : Unit := ()
def PySem.W.Fast.tw12776848597241496439 : Unit := ()
def PySem.W.Fast.tw13055202391780706949 : Unit := ()
def PySem.W.Fast.tw17268962195175895616 : Unit := ()
def PySem.W.Fast.tw15119047173705840282 : Unit := ()
def PySem.W.Fast.tw10604019352665121211 : Unit := ()
def PySem.W.Fast.tw5702113868792168781 : Unit := ()
def PySem.W.Fast.tw15401719397700051944 : Unit := ()
def PySem.W.Fast.tw13546272461487326424 : Unit := ()
def PySem.W.Fast.tw10074733875429645382 : Unit := ()
def PySem.W.Fast.tw1012009402601488249 : Unit := ()
def PySem.W.Fast.tw13913634284408688999 : Unit := ()
def PySem.W.Fast.tw7639967618079955756 : Unit := ()
def PySem.W.Fast.tw5605809682806020253 : Unit := ()
def PySem.W.Fast.tw4138761277754243209 : Unit := ()
def PySem.W.Fast.tw7848070609156014710 : Unit := ()
def PySem.W.Fast.tw36420145210659956 : Unit := ()
def PySem.W.Fast.tw16604633727697947075 : Unit := ()
def PySem.W.Fast.tw1036775056910113820 : Unit := ()
def PySem.W.Fast.tw1745879745773448279 : Unit := ()
def PySem.W.Fast.tw17221379985807343329 : Unit := ()
def PySem.W.Fast.tw11309598920699904627 : Unit := ()
def PySem.W.Fast.tw13976646547990729548 : Unit := ()
def PySem.W.Fast.tw10147972646960520784 : Unit := ()
def PySem.W.Fast.tw16822670121905683099 : Unit := ()
def PySem.W.Fast.tw4270299642678670634 : Unit := ()
def PySem.W.Fast.tw18077235285751647361 : Unit := ()
def PySem.W.Fast.tw18235793095031311511 : Unit := ()
def PySem.W.Fast.tw7163684287288207077 : Unit := ()
def PySem.W.Fast.tw12181009594819424718 : Unit := ()
def PySem.W.Fast.tw3186227470525908657 : Unit := ()
def PySem.W.Fast.tw13697905481084698436 : Unit := ()
def PySem.W.Fast.tw16934030011971480166 : Unit := ()
def PySem.W.Fast.tw12803234370901188962 : Unit := ()
def PySem.W.Fast.tw6558495822424617818 : Unit := ()
def PySem.W.Fast.tw11699384183118199603 : Unit := ()
def PySem.W.Fast.tw4902166751709346443 : Unit := ()
def PySem.W.Fast.tw14676960508728660843 : Unit := ()
def PySem.W.Fast.tw8826624469595980978 : Unit := ()
def PySem.W.Fast.tw2556334760004967429 : Unit := ()
def PySem.W.Fast.tw11790070123671656655 : Unit := ()
def PySem.W.Fast.tw16171163772935394390 : Unit := ()
def PySem.W.Fast.tw16618838583939701677 : Unit := ()
def PySem.W.Fast.tw3671930213026398407 : Unit := ()
def PySem.W.Fast.tw16621504263662425716 : Unit := ()
def PySem.W.Fast.tw13405692563174870360 : Unit := ()
def PySem.W.Fast.tw11820817565032172277 : Unit := ()
def PySem.W.Fast.tw4966698640481112531 : Unit := ()
def PySem.W.Fast.tw6633456884933016171 : Unit := ()
def PySem.W.Fast.tw10188216761791782328 : Unit := ()
def PySem.W.Fast.tw1530943221789583988 : Unit := ()
def PySem.W.Fast.tw15465852800566937407 : Unit := ()
def PySem.W.Fast.tw1376782886255171042 : Unit := ()
def PySem.W.Fast.tw15165665607159931486 : Unit := ()
def PySem.W.Fast.tw9599714090475830565 : Unit := ()
def PySem.W.Fast.tw8907703224325560072 : Unit := ()
def PySem.W.Fast.tw15705089253697419524 : Unit := ()
def PySem.W.Fast.tw399123722378534989 : Unit := ()
def PySem.W.Fast.tw16498429292199008236 : Unit := ()
def PySem.W.Fast.tw6538980219209445968 : Unit := ()
def PySem.W.Fast.tw17941814645914598803 : Unit := ()
def PySem.W.Fast.tw1005971719329617469 : Unit := ()
def PySem.W.Fast.tw11367106969829138010 : Unit := ()
def PySem.W.Fast.tw12715861215016275353 : Unit := ()
def PySem.W.Fast.tw5309093825065365476 : Unit := ()
def PySem.W.Fast.tw546317805142306597 : Unit := ()
def PySem.W.Fast.tw18329881254856547014 : Unit := ()
def PySem.W.Fast.tw3753317507198309124 : Unit := ()
def PySem.W.Fast.tw13845104330848722977 : Unit := ()
def PySem.W.Fast.tw15581267386330486555 : Unit := ()
def PySem.W.Fast.tw4123060755841816781 : Unit := ()
def PySem.W.Fast.tw5641989218500520761 : Unit := ()
def PySem.W.Fast.tw5023381422577665026 : Unit := ()
def PySem.W.Fast.tw7221425139953706472 : Unit := ()
def PySem.W.Fast.tw2821938566324915568 : Unit := ()
def PySem.W.Fast.tw3175257885520260501 : Unit := ()
def PySem.W.Fast.tw7042576524550736189 : Unit := ()
def PySem.W.Fast.tw4125136054415854699 : Unit := ()
def PySem.W.Fast.tw12674323429050772443 : Unit := ()
def PySem.W.Fast.tw16517378333298967672 : Unit := ()
def PySem.W.Fast.tw17998644234865905086 : Unit := ()
def PySem.W.Fast.tw18371229650084605554 : Unit := ()
def PySem.W.Fast.tw9627370500136863223 : Unit := ()
def PySem.W.Fast.tw15158264870274708253 : Unit := ()
def PySem.W.Fast.tw12757431412910720485 : Unit := ()
def PySem.W.Fast.tw4555706569303501504 : Unit := ()
def PySem.W.Fast.tw10521053390222592821 : Unit := ()
def PySem.W.Fast.tw1527886058929759262 : Unit := ()
def PySem.W.Fast.tw8653664664505714171 : Unit := ()
def PySem.W.Fast.tw12054515334446151871 : Unit := ()
def PySem.W.Fast.tw11479980955884189917 : Unit := ()
def PySem.W.Fast.tw10666891428351426555 : Unit := ()
def PySem.W.Fast.tw3155155830900185997 : Unit := ()
def PySem.W.Fast.tw16564431921526727770 : Unit := ()
def PySem.W.Fast.tw6415984804085664565 : Unit := ()
def PySem.W.Fast.tw2329770194039221963 : Unit := ()
def PySem.W.Fast.tw5024701375243263517 : Unit := ()
def PySem.W.Fast.tw6481779952411892089 : Unit := ()
def PySem.W.Fast.tw13011589035872337225 : Unit := ()
def PySem.W.Fast.tw179442779398235660 : Unit := ()
def PySem.W.Fast.tw18074169359960244629 : Unit := ()
def PySem.W.Fast.tw13362931170225726511 : Unit := ()
def PySem.W.Fast.tw13353512091835189024 : Unit := ()
def PySem.W.Fast.tw3374790933226281962 : Unit := ()
def PySem.W.Fast.tw6594079413714847231 : Unit := ()
def PySem.W.Fast.tw14960110966742654316 : Unit := ()
def PySem.W.Fast.tw9525571954839339258 : Unit := ()
def PySem.W.Fast.tw5892365723580516463 : Unit := ()
def PySem.W.Fast.tw6238796993799492387 : Unit := ()
def PySem.W.Fast.tw10075867084821724597 : Unit := ()
def PySem.W.Fast.tw14754918870891281460 : Unit := ()
def PySem.W.Fast.tw6656783731940193253 : Unit := ()
def PySem.W.Fast.tw2285749885772494078 : Unit := ()
def PySem.W.Fast.tw2604465506172812387 : Unit := ()
def PySem.W.Fast.tw14967477933708231755 : Unit := ()
def PySem.W.Fast.tw9268716336123984632 : Unit := ()
def PySem.W.Fast.tw6397932610361599823 : Unit := ()
def PySem.W.Fast.tw9734925424118766212 : Unit := ()
def PySem.W.Fast.tw12584514198910562262 : Unit := ()
def PySem.W.Fast.tw16586805478998881441 : Unit := ()
def PySem.W.Fast.tw5692756277829831656 : Unit := ()
def PySem.W.Fast.tw15924250159534999176 : Unit := ()
def PySem.W.Fast.tw1725090817237864624 : Unit := ()
def PySem.W.Fast.tw5305621799770556840 : Unit := ()
def PySem.W.Fast.tw9342360001697585775 : Unit := ()
def PySem.W.Fast.tw5520833004065774876 : Unit := ()
def PySem.W.Fast.tw3204031463230208519 : Unit := ()
def PySem.W.Fast.tw12414049904742444374 : Unit := ()
def PySem.W.Fast.tw5919245785324085799 : Unit := ()
def PySem.W.Fast.tw2778683644069579676 : Unit := ()
def PySem.W.Fast.tw14208094536468492427 : Unit := ()
def PySem.W.Fast.tw6017783121027288598 : Unit := ()
def PySem.W.Fast.tw10969194749926341371 : Unit := ()
def PySem.W.Fast.tw18075445550609557036 : Unit := ()
def PySem.W.Fast.tw4200681075801983444 : Unit := ()
def PySem.W.Fast.tw615477128013228817 : Unit := ()
def PySem.W.Fast.tw3875875937541523687 : Unit := ()
def PySem.W.Fast.tw17584175204495500684 : Unit := ()
def PySem.W.Fast.tw16690667596772336101 : Unit := ()
def PySem.W.Fast.tw3159937746880765095 : Unit := ()
def PySem.W.Fast.tw6647048273205397289 : Unit := ()
def PySem.W.Fast.tw14630690758815856052 : Unit := ()
def PySem.W.Fast.tw12507885108855020689 : Unit := ()
def PySem.W.Fast.tw4016761453685193637 : Unit := ()
def PySem.W.Fast.tw13441124943993496025 : Unit := ()
def PySem.W.Fast.tw11156762463951914458 : Unit := ()
def PySem.W.Fast.tw17399024822882545207 : Unit := ()
def PySem.W.Fast.tw5390696730322674523 : Unit := ()
def PySem.W.Fast.tw17781725511896246062 : Unit := ()
def PySem.W.Fast.tw1582976089651225460 : Unit := ()
def PySem.W.Fast.tw2173481869934404457 : Unit := ()
def PySem.W.Fast.tw16701583476006229036 : Unit := ()
def PySem.W.Fast.tw14748055318910450270 : Unit := ()
def PySem.W.Fast.tw15809420149918671161 : Unit := ()
def PySem.W.Fast.tw6954240038548762455 : Unit := ()
def PySem.W.Fast.tw15706687709336816082 : Unit := ()
def PySem.W.Fast.tw16409636638383117597 : Unit := ()
def PySem.W.Fast.tw9460282200472663859 : Unit := ()
def PySem.W.Fast.tw3047069350885987350 : Unit := ()
def PySem.W.Fast.tw8375514767199416139 : Unit := ()
def PySem.W.Fast.tw227467991918868141 : Unit := ()
def PySem.W.Fast.tw14819027624274821500 : Unit := ()
def PySem.W.Fast.tw16782711737356280276 : Unit := ()
def PySem.W.Fast.tw2335408614083244829 : Unit := ()
def PySem.W.Fast.tw7527286007414440014 : Unit := ()
def PySem.W.Fast.tw8572104321284401339 : Unit := ()
def PySem.W.Fast.tw2010773879098059586 : Unit := ()
def PySem.W.Fast.tw11550805409446758634 : Unit := ()
def PySem.W.Fast.tw10085438635554479846 : Unit := ()
def PySem.W.Fast.tw16531303302765163480 : Unit := ()
def PySem.W.Fast.tw18064890516640181049 : Unit := ()
def PySem.W.Fast.tw7298445934107059724 : Unit := ()
def PySem.W.Fast.tw11522962232830966896 : Unit := ()
def PySem.W.Fast.tw9613036400005957958 : Unit := ()
def PySem.W.Fast.tw864666406146763773 : Unit := ()
def PySem.W.Fast.tw4579026750096051901 : Unit := ()
def PySem.W.Fast.tw10084014263018382303 : Unit := ()
def PySem.W.Fast.tw595437312926896034 : Unit := ()
def PySem.W.Fast.tw13841049899199465692 : Unit := ()
def PySem.W.Fast.tw1711835648864841016 : Unit := ()
def PySem.W.Fast.tw14739233634286491112 : Unit := ()
def PySem.W.Fast.tw10749894384924885743 : Unit := ()
def PySem.W.Fast.tw8228597677559262170 : Unit := ()
def PySem.W.Fast.tw11580955996327894330 : Unit := ()
def PySem.W.Fast.tw1892817806471378558 : Unit := ()
def PySem.W.Fast.tw10328878785655592264 : Unit := ()
def PySem.W.Fast.tw1737895275830993166 : Unit := ()
def PySem.W.Fast.tw4604245901302155381 : Unit := ()
def PySem.W.Fast.tw1776556088052446462 : Unit := ()
def PySem.W.Fast.tw2212359950661502171 : Unit := ()
def PySem.W.Fast.tw10674657999813012223 : Unit := ()
def PySem.W.Fast.tw1258839330732012909 : Unit := ()
def PySem.W.Fast.tw6987009099954738344 : Unit := ()
def PySem.W.Fast.tw861138422102179832 : Unit := ()
def PySem.W.Fast.tw42770762408360399 : Unit := ()
def PySem.W.Fast.tw10100838540204286403 : Unit := ()
def PySem.W.Fast.tw9789117840376064885 : Unit := ()
def PySem.W.Fast.tw15502131902118326663 : Unit := ()
def PySem.W.Fast.tw11713738479146928330 : Unit := ()
def PySem.W.Fast.tw10922207383248781519 : Unit := ()
def PySem.W.Fast.tw2129380609153840433 : Unit := ()
def PySem.W.Fast.tw17894168662551401315 : Unit := ()
def PySem.W.Fast.tw6872844763311522662 : Unit := ()
def PySem.W.Fast.tw4124276124238268182 : Unit := ()
def PySem.W.Fast.tw4434398213603693558 : Unit := ()
def PySem.W.Fast.tw6427899749713138738 : Unit := ()
def PySem.W.Fast.tw13862928095261436113 : Unit := ()
def PySem.W.Fast.tw13706765102418796166 : Unit := ()
def PySem.W.Fast.tw3456145904381977304 : Unit := ()
def PySem.W.Fast.tw10231470144961542950 : Unit := ()
def PySem.W.Fast.tw17266918981747927484 : Unit := ()
def PySem.W.Fast.tw13297158183445526081 : Unit := ()
def PySem.W.Fast.tw3056062029406077413 : Unit := ()
def PySem.W.Fast.tw3052474117752919368 : Unit := ()
def PySem.W.Fast.tw13267885640223827011 : Unit := ()
def PySem.W.Fast.tw7861695362179758647 : Unit := ()
def PySem.W.Fast.tw16114567577337118658 : Unit := ()
def PySem.W.Fast.tw7649076514441201739 : Unit := ()
def PySem.W.Fast.tw4146256384629440409 : Unit := ()
def PySem.W.Fast.tw2953556736253637623 : Unit := ()
def PySem.W.Fast.tw6792201559789679599 : Unit := ()
def PySem.W.Fast.tw6580684651623015645 : Unit := ()
def PySem.W.Fast.tw1757205868846331049 : Unit := ()
def PySem.W.Fast.tw10677820579767537375 : Unit := ()
def PySem.W.Fast.tw15037292491871098420 : Unit := ()
def PySem.W.Fast.tw1391600487654101734 : Unit := ()
def PySem.W.Fast.tw4764678177337130131 : Unit := ()
def PySem.W.Fast.tw17175547148158660254 : Unit := ()
def PySem.W.Fast.tw9200119192001244812 : Unit := ()
def PySem.W.Fast.tw8271344044031889985 : Unit := ()
def PySem.W.Fast.tw17857139304228707469 : Unit := ()
def PySem.W.Fast.tw17328262976353626236 : Unit := ()
def PySem.W.Fast.tw15276813778967854225 : Unit := ()
def PySem.W.Fast.tw11911385024351113562 : Unit := ()
def PySem.W.Fast.tw16794890137215609358 : Unit := ()
def PySem.W.Fast.tw16105223818356638951 : Unit := ()
def PySem.W.Fast.tw17296604079601749873 : Unit := ()
def PySem.W.Fast.tw1400890656964513830 : Unit := ()
def PySem.W.Fast.tw15559612335240743392 : Unit := ()
def PySem.W.Fast.tw15593502354687873497 : Unit := ()
def PySem.W.Fast.tw3793158038739180863 : Unit := ()
def PySem.W.Fast.tw11582061354515709276 : Unit := ()
def PySem.W.Fast.tw2875936599781548257 : Unit := ()
def PySem.W.Fast.tw11668108666910777424 : Unit := ()
def PySem.W.Fast.tw15463567946385317167 : Unit := ()
def PySem.W.Fast.tw9288872058167943250 : Unit := ()
def PySem.W.Fast.tw7750394287663923688 : Unit := ()
def PySem.W.Fast.tw184089524078264842 : Unit := ()
def PySem.W.Fast.tw3237767302264152035 : Unit := ()
def PySem.W.Fast.tw563004022974136790 : Unit := ()
def PySem.W.Fast.tw1991677660071736979 : Unit := ()
def PySem.W.Fast.tw15740211452917259912 : Unit := ()
def PySem.W.Fast.tw7195943470336408713 : Unit := ()
def PySem.W.Fast.tw17279660048162014596 : Unit := ()
def PySem.W.Fast.tw17047742859910563448 : Unit := ()
def PySem.W.Fast.tw9730592609524060726 : Unit := ()
def PySem.W.Fast.tw8067118876102319044 : Unit := ()
def PySem.W.Fast.tw3852286995977244437 : Unit := ()
def PySem.W.Fast.tw9938312318861229753 : Unit := ()
def PySem.W.Fast.tw13314881346734112709 : Unit := ()
def PySem.W.Fast.tw9935117247351524926 : Unit := ()
def PySem.W.Fast.tw2590382782919796527 : Unit := ()
def PySem.W.Fast.tw9831473868456905469 : Unit := ()
def PySem.W.Fast.tw4995991259389175809 : Unit := ()
def PySem.W.Fast.tw16877617750188475714 : Unit := ()
def PySem.W.Fast.tw210801466929795872 : Unit := ()
def PySem.W.Fast.tw4269649227577788238 : Unit := ()
def PySem.W.Fast.tw1816694676695479843 : Unit := ()
def PySem.W.Fast.tw9352024185244559671 : Unit := ()
def PySem.W.Fast.tw4486967109429965530 : Unit := ()
def PySem.W.Fast.tw12870910745275531579 : Unit := ()
def PySem.W.Fast.tw5491059003120781751 : Unit := ()
def PySem.W.Fast.tw14846894363940344255 : Unit := ()
def PySem.W.Fast.tw11040221950431829736 : Unit := ()
def PySem.W.Fast.tw4901452399710036910 : Unit := ()
def PySem.W.Fast.tw8973440370359938408 : Unit := ()
def PySem.W.Fast.tw5536530661101156149 : Unit := ()
def PySem.W.Fast.tw9515557918548563076 : Unit := ()
def PySem.W.Fast.tw3910376157911994367 : Unit := ()
def PySem.W.Fast.tw6930018186173879741 : Unit := ()
def PySem.W.Fast.tw285786763499596946 : Unit := ()
def PySem.W.Fast.tw17870174797435899188 : Unit := ()
def PySem.W.Fast.tw8648808633750234170 : Unit := ()
def PySem.W.Fast.tw5294070434249840695 : Unit := ()
def PySem.W.Fast.tw13638016935772308749 : Unit := ()
def PySem.W.Fast.tw4686757234242062531 : Unit := ()
def PySem.W.Fast.tw7830591188734354699 : Unit := ()
def PySem.W.Fast.tw17444517730180434625 : Unit := ()
def PySem.W.Fast.tw4548336751068533823 : Unit := ()
def PySem.W.Fast.tw4405704845730632816 : Unit := ()
def PySem.W.Fast.tw15331224426132663322 : Unit := ()
def PySem.W.Fast.tw8825435219569856304 : Unit := ()
def PySem.W.Fast.tw14420462547327938868 : Unit := ()
def PySem.W.Fast.tw17296231910253051226 : Unit := ()
def PySem.W.Fast.tw16255119796002813668 : Unit := ()
def PySem.W.Fast.tw7195816857255656737 : Unit := ()
def PySem.W.Fast.tw9824954505178563170 : Unit := ()
def PySem.W.Fast.tw13135676044123808059 : Unit := ()
def PySem.W.Fast.tw694146310908119835 : Unit := ()
def PySem.W.Fast.tw15518433283771334375 : Unit := ()
def PySem.W.Fast.tw2991336521779286779 : Unit := ()
def PySem.W.Fast.tw1986576926781353237 : Unit := ()
def PySem.W.Fast.tw18207261119948765240 : Unit := ()
def PySem.W.Fast.tw16214711280714008128 : Unit := ()
def PySem.W.Fast.tw8921250318284155118 : Unit := ()
def PySem.W.Fast.tw13559458833737171168 : Unit := ()
def PySem.W.Fast.tw4971614750910931423 : Unit := ()
def PySem.W.Fast.tw2920455349879347002 : Unit := ()
def PySem.W.Fast.tw7453347949335797999 : Unit := ()
def PySem.W.Fast.tw12960082943685248553 : Unit := ()
def PySem.W.Fast.tw12995577027295737493 : Unit := ()
def PySem.W.Fast.tw3666724702831095552 : Unit := ()
def PySem.W.Fast.tw4059601413007842517 : Unit := ()
def PySem.W.Fast.tw11726826532856678102 : Unit := ()
def PySem.W.Fast.tw16153183735629113700 : Unit := ()
def PySem.W.Fast.tw9442872863906014708 : Unit := ()
def PySem.W.Fast.tw15271838034664209965 : Unit := ()
def PySem.W.Fast.tw15574875190736475717 : Unit := ()
def PySem.W.Fast.tw2805498175816898260 : Unit := ()
def PySem.W.Fast.tw1125028845453449602 : Unit := ()
def PySem.W.Fast.tw17516968892715528785 : Unit := ()
def PySem.W.Fast.tw1727851076528251756 : Unit := ()
def PySem.W.Fast.tw15633657650858193064 : Unit := ()
def PySem.W.Fast.tw2927718610253664602 : Unit := ()
def PySem.W.Fast.tw13033598736787374841 : Unit := ()
def PySem.W.Fast.tw12264739946771511044 : Unit := ()
def PySem.W.Fast.tw11854330364725257383 : Unit := ()
def PySem.W.Fast.tw3290618211886898859 : Unit := ()
def PySem.W.Fast.tw2503644123469301064 : Unit := ()
def PySem.W.Fast.tw1207629303782297545 : Unit := ()
def PySem.W.Fast.tw1949412304737736441 : Unit := ()
def PySem.W.Fast.tw11798388230964913515 : Unit := ()
def PySem.W.Fast.tw12056761519986912385 : Unit := ()
def PySem.W.Fast.tw10530052594001032736 : Unit := ()
def PySem.W.Fast.tw10910596791245622806 : Unit := ()
def PySem.W.Fast.tw17968304271117537022 : Unit := ()
def PySem.W.Fast.tw2101185673126928738 : Unit := ()
def PySem.W.Fast.tw12844563034172301115 : Unit := ()
def PySem.W.Fast.tw14532994519959268434 : Unit := ()
def PySem.W.Fast.tw8754939704673225801 : Unit := ()
def PySem.W.Fast.tw14720956642017052058 : Unit := ()
def PySem.W.Fast.tw12971876678897255028 : Unit := ()
def PySem.W.Fast.tw12667328119745264367 : Unit := ()
def PySem.W.Fast.tw15739861641996348060 : Unit := ()
def PySem.W.Fast.tw2053675617461361100 : Unit := ()
def PySem.W.Fast.tw13486851044568246093 : Unit := ()
def PySem.W.Fast.tw8945568426974395282 : Unit := ()
def PySem.W.Fast.tw10675602795985644667 : Unit := ()
def PySem.W.Fast.tw15836736148912640246 : Unit := ()
def PySem.W.Fast.tw16449241736655285156 : Unit := ()
def PySem.W.Fast.tw15369217715550812878 : Unit := ()
def PySem.W.Fast.tw215356387979942644 : Unit := ()
def PySem.W.Fast.tw12056411474420017575 : Unit := ()
def PySem.W.Fast.tw15596349395395618451 : Unit := ()
def PySem.W.Fast.tw13833264893952771340 : Unit := ()
def PySem.W.Fast.tw10403308953012113313 : Unit := ()
def PySem.W.Fast.tw5110795817829475829 : Unit := ()
def PySem.W.Fast.tw13965500621150108227 : Unit := ()
def PySem.W.Fast.tw5623227182904014664 : Unit := ()
def PySem.W.Fast.tw3289866179705814747 : Unit := ()
def PySem.W.Fast.tw10946915886506695183 : Unit := ()
def PySem.W.Fast.tw2406017087455077033 : Unit := ()
def PySem.W.Fast.tw14025721354641020067 : Unit := ()
def PySem.W.Fast.tw3922859786532869944 : Unit := ()
def PySem.W.Fast.tw3057900782326812776 : Unit := ()
def PySem.W.Fast.tw1637875419272466340 : Unit := ()
def PySem.W.Fast.tw10593022624743028650 : Unit := ()
def PySem.W.Fast.tw6959070690971857275 : Unit := ()
def PySem.W.Fast.tw9496758942690015775 : Unit := ()
def PySem.W.Fast.tw18107008341442868232 : Unit := ()
def PySem.W.Fast.tw11599035771004978217 : Unit := ()
def PySem.W.Fast.tw2593042406914571552 : Unit := ()
def PySem.W.Fast.tw11528848031337888620 : Unit := ()
def PySem.W.Fast.tw1319202342094595391 : Unit := ()
def PySem.W.Fast.tw17550883671699231156 : Unit := ()
def PySem.W.Fast.tw12237797380401618001 : Unit := ()
def PySem.W.Fast.tw10854915485294510842 : Unit := ()
def PySem.W.Fast.tw14497906816551489953 : Unit := ()
def PySem.W.Fast.tw792887007487557648 : Unit := ()
def PySem.W.Fast.tw11633872018539462929 : Unit := ()
def PySem.W.Fast.tw6535255004742427845 : Unit := ()
def PySem.W.Fast.tw422541246869363203 : Unit := ()
def PySem.W.Fast.tw1009236037413989538 : Unit := ()
def PySem.W.Fast.tw2820075313229430684 : Unit := ()
def PySem.W.Fast.tw14339328028527385470 : Unit := ()
def PySem.W.Fast.tw12698776981586084465 : Unit := ()
def PySem.W.Fast.tw10071414048833906145 : Unit := ()
def PySem.W.Fast.tw9908856515766760879 : Unit := ()
def PySem.W.Fast.tw5624387421241024587 : Unit := ()
def PySem.W.Fast.tw14577718234624182307 : Unit := ()
def PySem.W.Fast.tw16974497575058898038 : Unit := ()
def PySem.W.Fast.tw2443655173203875712 : Unit := ()
def PySem.W.Fast.tw11828660609503034207 : Unit := ()
def PySem.W.Fast.tw5585584116563334689 : Unit := ()
def PySem.W.Fast.tw15544278138070894308 : Unit := ()
def PySem.W.Fast.tw12512014385073715767 : Unit := ()
def PySem.W.Fast.tw12640601521880927802 : Unit := ()
def PySem.W.Fast.tw2280408676820361426 : Unit := ()
def PySem.W.Fast.tw5010461323005067775 : Unit := ()
def PySem.W.Fast.tw2552011802788156320 : Unit := ()
def PySem.W.Fast.tw5927780499718817251 : Unit := ()
def PySem.W.Fast.tw477631523410205545 : Unit := ()
def PySem.W.Fast.tw2350914120810835691 : Unit := ()
def PySem.W.Fast.tw5783273612260885352 : Unit := ()
def PySem.W.Fast.tw14290278982816210225 : Unit := ()
def PySem.W.Fast.tw8913901286985858739 : Unit := ()
def PySem.W.Fast.tw9774026771689419866 : Unit := ()
def PySem.W.Fast.tw16380854258601569848 : Unit := ()
def PySem.W.Fast.tw6831565358625315813 : Unit := ()
def PySem.W.Fast.tw8885950660693691107 : Unit := ()
def PySem.W.Fast.tw14127693143110471244 : Unit := ()
def PySem.W.Fast.tw7293904096159108844 : Unit := ()
def PySem.W.Fast.tw679334965603989799 : Unit := ()
def PySem.W.Fast.tw2778943754827780105 : Unit := ()
def PySem.W.Fast.tw18233161427343068592 : Unit := ()
def PySem.W.Fast.tw16226610620150400754 : Unit := ()
def PySem.W.Fast.tw12898486244470055924 : Unit := ()
def PySem.W.Fast.tw14002508659146391056 : Unit := ()
def PySem.W.Fast.tw17050925118890347463 : Unit := ()
def PySem.W.Fast.tw820711942984690888 : Unit := ()
def PySem.W.Fast.tw10593716389730001990 : Unit := ()
def PySem.W.Fast.tw17949257987575376509 : Unit := ()
def PySem.W.Fast.tw9670072866713671107 : Unit := ()
def PySem.W.Fast.tw8681794783322117441 : Unit := ()
def PySem.W.Fast.tw10126494463212926470 : Unit := ()
def PySem.W.Fast.tw7265852974818902575 : Unit := ()
def PySem.W.Fast.tw13132917942865165675 : Unit := ()
def PySem.W.Fast.tw966709980127257179 : Unit := ()
def PySem.W.Fast.tw8228282967170136587 : Unit := ()
def PySem.W.Fast.tw10693005606186806603 : Unit := ()
def PySem.W.Fast.tw9057834196658546343 : Unit := ()
def PySem.W.Fast.tw10290535534619906274 : Unit := ()
def PySem.W.Fast.tw12449895779655110704 : Unit := ()
def PySem.W.Fast.tw17755199119680611004 : Unit := ()
def PySem.W.Fast.tw12999238576645106757 : Unit := ()
def PySem.W.Fast.tw2461095631859508521 : Unit := ()
def PySem.W.Fast.tw15528996005174179054 : Unit := ()
def PySem.W.Fast.tw2808214115029559491 : Unit := ()
def PySem.W.Fast.tw14550428173128986818 : Unit := ()
def PySem.W.Fast.tw18253178370004272819 : Unit := ()
def PySem.W.Fast.tw6222824342386871262 : Unit := ()
def PySem.W.Fast.tw4606664182789228388 : Unit := ()
def PySem.W.Fast.tw3961288540095700110 : Unit := ()
def PySem.W.Fast.tw1521848239766693489 : Unit := ()
def PySem.W.Fast.tw9345219778831749699 : Unit := ()
def PySem.W.Fast.tw9567452348725242011 : Unit := ()
def PySem.W.Fast.tw9935377944780551085 : Unit := ()
def PySem.W.Fast.tw2684066078525700095 : Unit := ()
def PySem.W.Fast.tw93718483642255589 : Unit := ()
def PySem.W.Fast.tw7595354457316868955 : Unit := ()
def PySem.W.Fast.tw10359219134303190434 : Unit := ()
def PySem.W.Fast.tw13972019392142266421 : Unit := ()
def PySem.W.Fast.tw10501970386465269549 : Unit := ()
def PySem.W.Fast.tw15240531046210978714 : Unit := ()
def PySem.W.Fast.tw5253285663608650129 : Unit := ()
def PySem.W.Fast.tw8396642685744383789 : Unit := ()
def PySem.W.Fast.tw12041188188194989183 : Unit := ()
def PySem.W.Fast.tw7591986810013643511 : Unit := ()
def PySem.W.Fast.tw7876505948487079615 : Unit := ()
def PySem.W.Fast.tw869343682011235718 : Unit := ()
def PySem.W.Fast.tw6509141675069899903 : Unit := ()
def PySem.W.Fast.tw10622262706991832069 : Unit := ()
def PySem.W.Fast.tw5696277747470685564 : Unit := ()
def PySem.W.Fast.tw13066272824188253763 : Unit := ()
def PySem.W.Fast.tw9398283678280011067 : Unit := ()
def PySem.W.Fast.tw9176062776385510009 : Unit := ()
def PySem.W.Fast.tw5998951326445144865 : Unit := ()
def PySem.W.Fast.tw2083730386497362899 : Unit := ()
def PySem.W.Fast.tw13865135102614059414 : Unit := ()
def PySem.W.Fast.tw7414245324237413237 : Unit := ()
def PySem.W.Fast.tw17537066139315775943 : Unit := ()
def PySem.W.Fast.tw6082079775233689458 : Unit := ()
def PySem.W.Fast.tw4432860761011439537 : Unit := ()
def PySem.W.Fast.tw6253008161935536917 : Unit := ()
def PySem.W.Fast.tw7037072977704970980 : Unit := ()
def PySem.W.Fast.tw1331012175940026002 : Unit := ()
def PySem.W.Fast.tw7900879947927552897 : Unit := ()
def PySem.W.Fast.tw944429924972552615 : Unit := ()
def PySem.W.Fast.tw15153841033623655417 : Unit := ()
def PySem.W.Fast.tw6077805193813241986 : Unit := ()
def PySem.W.Fast.tw376442415698270901 : Unit := ()
def PySem.W.Fast.tw4323075982879098117 : Unit := ()
def PySem.W.Fast.tw7275850513109990690 : Unit := ()
def PySem.W.Fast.tw13657043379489701654 : Unit := ()
def PySem.W.Fast.tw5121329409465306169 : Unit := ()
def PySem.W.Fast.tw10670240154213850492 : Unit := ()
def PySem.W.Fast.tw14003485981919377767 : Unit := ()
def PySem.W.Fast.tw5640904086696644850 : Unit := ()
def PySem.W.Fast.tw7548388940417855265 : Unit := ()
def PySem.W.Fast.tw4756826726036120570 : Unit := ()
def PySem.W.Fast.tw10252349553866030101 : Unit := ()
def PySem.W.Fast.tw11843072838076600690 : Unit := ()
def PySem.W.Fast.tw8862862779972178722 : Unit := ()
def PySem.W.Fast.tw7184044389691026161 : Unit := ()
def PySem.W.Fast.tw17489360054114982514 : Unit := ()
def PySem.W.Fast.tw4050918062006742035 : Unit := ()
def PySem.W.Fast.tw16462404538488387727 : Unit := ()
def PySem.W.Fast.tw2392531236755436521 : Unit := ()
def PySem.W.Fast.tw12497398721043063915 : Unit := ()
def PySem.W.Fast.tw376404423976607816 : Unit := ()
def PySem.W.Fast.tw11612358634953611600 : Unit := ()
def PySem.W.Fast.tw15534548623211466459 : Unit := ()
def PySem.W.Fast.tw17967609734897359733 : Unit := ()
def PySem.W.Fast.tw5056351207781610534 : Unit := ()
def PySem.W.Fast.tw9760929241054894769 : Unit := ()
def PySem.W.Fast.tw208136814242468414 : Unit := ()
def PySem.W.Fast.tw5689694378677329213 : Unit := ()
def PySem.W.Fast.tw12698622402623026824 : Unit := ()
def PySem.W.Fast.tw13289944704885311970 : Unit := ()
def PySem.W.Fast.tw5625494073001308047 : Unit := ()
def PySem.W.Fast.tw13592175140789014448 : Unit := ()
def PySem.W.Fast.tw4530115970023032772 : Unit := ()
def PySem.W.Fast.tw13364046144370482434 : Unit := ()
def PySem.W.Fast.tw14336270041726504615 : Unit := ()
def PySem.W.Fast.tw16372175695025658442 : Unit := ()
def PySem.W.Fast.tw18024249619517969212 : Unit := ()
def PySem.W.Fast.tw1469631131532091869 : Unit := ()
def PySem.W.Fast.tw7540678226787803614 : Unit := ()
def PySem.W.Fast.tw13742248860064479866 : Unit := ()
def PySem.W.Fast.tw12240628911489507379 : Unit := ()
def PySem.W.Fast.tw13148343959099228661 : Unit := ()
def PySem.W.Fast.tw1506409479691812099 : Unit := ()
def PySem.W.Fast.tw14156826905246663902 : Unit := ()
def PySem.W.Fast.tw4456264352462031664 : Unit := ()
def PySem.W.Fast.tw17669000902161571196 : Unit := ()
def PySem.W.Fast.tw9692715399868211837 : Unit := ()
def PySem.W.Fast.tw14431526028862318510 : Unit := ()
def PySem.W.Fast.tw12975540774723127307 : Unit := ()
def PySem.W.Fast.tw5098722034809800327 : Unit := ()
def PySem.W.Fast.tw2953935665059639055 : Unit := ()
def PySem.W.Fast.tw15048774147424971768 : Unit := ()
def PySem.W.Fast.tw5325453880889733684 : Unit := ()
def PySem.W.Fast.tw17231603222471562017 : Unit := ()
def PySem.W.Fast.tw18129868476711637591 : Unit := ()
def PySem.W.Fast.tw11011565899680651795 : Unit := ()
def PySem.W.Fast.tw13947906040350870134 : Unit := ()
def PySem.W.Fast.tw892272729610023679 : Unit := ()
def PySem.W.Fast.tw3293397082387559865 : Unit := ()
def PySem.W.Fast.tw10948985103191754627 : Unit := ()
def PySem.W.Fast.tw1967769847497513690 : Unit := ()
def PySem.W.Fast.tw11207533548977176385 : Unit := ()
def PySem.W.Fast.tw15292600454222094789 : Unit := ()
def PySem.W.Fast.tw6016150260394766967 : Unit := ()
def PySem.W.Fast.tw2788958761147531770 : Unit := ()
def PySem.W.Fast.tw3584557947088023873 : Unit := ()
def PySem.W.Fast.tw10733563325270349122 : Unit := ()
def PySem.W.Fast.tw8262697729012890997 : Unit := ()
def PySem.W.Fast.tw17878071102246455474 : Unit := ()
def PySem.W.Fast.tw18137520517804985784 : Unit := ()
def PySem.W.Fast.tw6815905952506468569 : Unit := ()
def PySem.W.Fast.tw5106663333177513637 : Unit := ()
def PySem.W.Fast.tw4813425377499557011 : Unit := ()
def PySem.W.Fast.tw6404103443807586844 : Unit := ()
def PySem.W.Fast.tw9377758501563429109 : Unit := ()
def PySem.W.Fast.tw7335858666835265302 : Unit := ()
def PySem.W.Fast.tw17334135596838600414 : Unit := ()
def PySem.W.Fast.tw12332270797415078727 : Unit := ()
def PySem.W.Fast.tw15445424031680947752 : Unit := ()
def PySem.W.Fast.tw153955438269257677 : Unit := ()
def PySem.W.Fast.tw15195910653455757989 : Unit := ()
def PySem.W.Fast.tw15111728076942525192 : Unit := ()
def PySem.W.Fast.tw4424790262903742848 : Unit := ()
def PySem.W.Fast.tw8565992081882994125 : Unit := ()
def PySem.W.Fast.tw4610200087779224129 : Unit := ()
def PySem.W.Fast.tw5171920263962593076 : Unit := ()
def PySem.W.Fast.tw11879566553953565002 : Unit := ()
def PySem.W.Fast.tw4830893465942052032 : Unit := ()
def PySem.W.Fast.tw199444383322824886 : Unit := ()
def PySem.W.Fast.tw13113109096494467514 : Unit := ()
def PySem.W.Fast.tw11819390350419629203 : Unit := ()
def PySem.W.Fast.tw3621737040772850648 : Unit := ()
def PySem.W.Fast.tw2086193887340989447 : Unit := ()
def PySem.W.Fast.tw7770859473970989183 : Unit := ()
def PySem.W.Fast.tw13419040287928734288 : Unit := ()
def PySem.W.Fast.tw11601685917029197029 : Unit := ()
def PySem.W.Fast.tw14240466762673709117 : Unit := ()
def PySem.W.Fast.tw5993189068791175157 : Unit := ()
def PySem.W.Fast.tw2451466034962727759 : Unit := ()
def PySem.W.Fast.tw12049426171126398887 : Unit := ()
def PySem.W.Fast.tw11361704419958654542 : Unit := ()
def PySem.W.Fast.tw8800171876041622231 : Unit := ()
def PySem.W.Fast.tw8995792052631759096 : Unit := ()
def PySem.W.Fast.tw6925686309925644615 : Unit := ()
def PySem.W.Fast.tw4496172644010132733 : Unit := ()
def PySem.W.Fast.tw10361379293010685751 : Unit := ()
def PySem.W.Fast.tw12312830134751531160 : Unit := ()
def PySem.W.Fast.tw5625706089839283514 : Unit := ()
def PySem.W.Fast.tw6807842427719795325 : Unit := ()
def PySem.W.Fast.tw11285069413418555924 : Unit := ()
def PySem.W.Fast.tw9548343463430414774 : Unit := ()
def PySem.W.Fast.tw11903267104386253160 : Unit := ()
def PySem.W.Fast.tw1704398118492342637 : Unit := ()
def PySem.W.Fast.tw9704601581484817827 : Unit := ()
def PySem.W.Fast.tw16362203390865412014 : Unit := ()
def PySem.W.Fast.tw15572546162294998790 : Unit := ()
def PySem.W.Fast.tw579752266117116677 : Unit := ()
def PySem.W.Fast.tw17609172225593742168 : Unit := ()
def PySem.W.Fast.tw15280881846391588715 : Unit := ()
def PySem.W.Fast.tw16987094044444708799 : Unit := ()
def PySem.W.Fast.tw17130215238536052706 : Unit := ()
def PySem.W.Fast.tw17581895373649895673 : Unit := ()
def PySem.W.Fast.tw8801017261170783611 : Unit := ()
def PySem.W.Fast.tw14417772873980497379 : Unit := ()
def PySem.W.Fast.tw6068018562106525672 : Unit := ()
def PySem.W.Fast.tw13759392947807849399 : Unit := ()
def PySem.W.Fast.tw4136137526168311511 : Unit := ()
def PySem.W.Fast.tw2710854708681736061 : Unit := ()
def PySem.W.Fast.tw12620596323235259756 : Unit := ()
def PySem.W.Fast.tw4114894401974117882 : Unit := ()
def PySem.W.Fast.tw16317735319160354905 : Unit := ()
def PySem.W.Fast.tw3266441205707144267 : Unit := ()
def PySem.W.Fast.tw5777913572625344992 : Unit := ()
def PySem.W.Fast.tw2384057721389383300 : Unit := ()
def PySem.W.Fast.tw11703648565155527394 : Unit := ()
def PySem.W.Fast.tw13923171539169892960 : Unit := ()
def PySem.W.Fast.tw13976737918100355925 : Unit := ()
def PySem.W.Fast.tw7401897244105708475 : Unit := ()
def PySem.W.Fast.tw7551941844344338385 : Unit := ()
def PySem.W.Fast.tw6981699231104033643 : Unit := ()
def PySem.W.Fast.tw9080364799884740754 : Unit := ()
def PySem.W.Fast.tw8534892788945527828 : Unit := ()
def PySem.W.Fast.tw5931572271971934813 : Unit := ()
def PySem.W.Fast.tw417646560585517338 : Unit := ()
def PySem.W.Fast.tw1690073420311696767 : Unit := ()
def PySem.W.Fast.tw11597852248719692586 : Unit := ()
def PySem.W.Fast.tw17504683871944010949 : Unit := ()
def PySem.W.Fast.tw6695659610464309926 : Unit := ()
def PySem.W.Fast.tw15990230601319807050 : Unit := ()
def PySem.W.Fast.tw11485861664124063734 : Unit := ()
def PySem.W.Fast.tw9500448352789855574 : Unit := ()
def PySem.W.Fast.tw2539183447495828675 : Unit := ()
def PySem.W.Fast.tw8627749026048865637 : Unit := ()
def PySem.W.Fast.tw7661984316154762630 : Unit := ()
def PySem.W.Fast.tw8036118307489099614 : Unit := ()
def PySem.W.Fast.tw17843129200250060547 : Unit := ()
def PySem.W.Fast.tw12931112506593124808 : Unit := ()
def PySem.W.Fast.tw8573614726510160575 : Unit := ()
def PySem.W.Fast.tw2935481507484853418 : Unit := ()
def PySem.W.Fast.tw3172184470955394740 : Unit := ()
def PySem.W.Fast.tw12274674717938260681 : Unit := ()
def PySem.W.Fast.tw197362396492717629 : Unit := ()
def PySem.W.Fast.tw10522081175910663279 : Unit := ()
def PySem.W.Fast.tw4796229563077619685 : Unit := ()
def PySem.W.Fast.tw15642054460259567919 : Unit := ()
def PySem.W.Fast.tw8714151014368885068 : Unit := ()
def PySem.W.Fast.tw7393208418786642793 : Unit := ()
def PySem.W.Fast.tw12379362470609321517 : Unit := ()
def PySem.W.Fast.tw18288493731658238838 : Unit := ()
def PySem.W.Fast.tw11879783417812438794 : Unit := ()
def PySem.W.Fast.tw2301793113383238687 : Unit := ()
def PySem.W.Fast.tw3178826910946049299 : Unit := ()
def PySem.W.Fast.tw6736267158185026859 : Unit := ()
def PySem.W.Fast.tw4487703319072165431 : Unit := ()
def PySem.W.Fast.tw6292052160113344604 : Unit := ()
def PySem.W.Fast.tw17222652989407972689 : Unit := ()
def PySem.W.Fast.tw10730148774005220046 : Unit := ()
def PySem.W.Fast.tw14058295601361886953 : Unit := ()
def PySem.W.Fast.tw7874570568630598412 : Unit := ()
def PySem.W.Fast.tw10860259259699734426 : Unit := ()
def PySem.W.Fast.tw3854842526147717230 : Unit := ()
def PySem.W.Fast.tw15509703835085778630 : Unit := ()
def PySem.W.Fast.tw4376722031943940789 : Unit := ()
def PySem.W.Fast.tw2719864529281494684 : Unit := ()
def PySem.W.Fast.tw8507791332184499046 : Unit := ()
def PySem.W.Fast.tw1703462272898512565 : Unit := ()
def PySem.W.Fast.tw1818307565464269985 : Unit := ()
def PySem.W.Fast.tw10564737685897334801 : Unit := ()
def PySem.W.Fast.tw9331843830030129006 : Unit := ()
def PySem.W.Fast.tw12110645591005815471 : Unit := ()
def PySem.W.Fast.tw5930814091454344898 : Unit := ()
def PySem.W.Fast.tw11876545127288256221 : Unit := ()
def PySem.W.Fast.tw11885135577669180531 : Unit := ()
def PySem.W.Fast.tw14913034639168494594 : Unit := ()
def PySem.W.Fast.tw15193098732390993386 : Unit := ()
def PySem.W.Fast.tw9747381754541734910 : Unit := ()
def PySem.W.Fast.tw16803845590052630073 : Unit := ()
def PySem.W.Fast.tw13354094538660213293 : Unit := ()
def PySem.W.Fast.tw15909195505419196857 : Unit := ()
def PySem.W.Fast.tw16637785795792881571 : Unit := ()
def PySem.W.Fast.tw8013114293077494850 : Unit := ()
def PySem.W.Fast.tw9865124275863228440 : Unit := ()
def PySem.W.Fast.tw16856196221253823805 : Unit := ()
def PySem.W.Fast.tw4415048563106306594 : Unit := ()
def PySem.W.Fast.tw11985055539537279856 : Unit := ()
def PySem.W.Fast.tw6413602005480578529 : Unit := ()
def PySem.W.Fast.tw7367793473815668010 : Unit := ()
def PySem.W.Fast.tw8242262999623265156 : Unit := ()
def PySem.W.Fast.tw9470333724110280650 : Unit := ()
def PySem.W.Fast.tw6400014509057382800 : Unit := ()
def PySem.W.Fast.tw4160848626053049345 : Unit := ()
def PySem.W.Fast.tw16467857031353611337 : Unit := ()
def PySem.W.Fast.tw15308616879356066067 : Unit := ()
def PySem.W.Fast.tw15674813007866156701 : Unit := ()
def PySem.W.Fast.tw17232840294982854130 : Unit := ()
def PySem.W.Fast.tw17876233673378511825 : Unit := ()
def PySem.W.Fast.tw8092629779714928934 : Unit := ()
def PySem.W.Fast.tw15724091239934965508 : Unit := ()
def PySem.W.Fast.tw16446475646034301007 : Unit := ()
def PySem.W.Fast.tw7815742329329343771 : Unit := ()
def PySem.W.Fast.tw2084328735665994439 : Unit := ()
def PySem.W.Fast.tw12233686358752182725 : Unit := ()
def PySem.W.Fast.tw2034186986778470560 : Unit := ()
def PySem.W.Fast.tw1961976846796252794 : Unit := ()
def PySem.W.Fast.tw14017138307649282616 : Unit := ()
def PySem.W.Fast.tw3296923556084624048 : Unit := ()
def PySem.W.Fast.tw17625769672635810199 : Unit := ()
def PySem.W.Fast.tw2048148131647870405 : Unit := ()
def PySem.W.Fast.tw13734756756779821274 : Unit := ()
def PySem.W.Fast.tw12216891882036815398 : Unit := ()
def PySem.W.Fast.tw11546434192209883473 : Unit := ()
def PySem.W.Fast.tw7826764416235699687 : Unit := ()
def PySem.W.Fast.tw487796870231019412 : Unit := ()
def PySem.W.Fast.tw7173653761639824399 : Unit := ()
def PySem.W.Fast.tw10442922196381058795 : Unit := ()
def PySem.W.Fast.tw17483151472569169531 : Unit := ()
def PySem.W.Fast.tw2423441165397223079 : Unit := ()
def PySem.W.Fast.tw8351401487750942120 : Unit := ()
def PySem.W.Fast.tw14853979473189734839 : Unit := ()
def PySem.W.Fast.tw12561357753545703226 : Unit := ()
def PySem.W.Fast.tw2383654905576798777 : Unit := ()
def PySem.W.Fast.tw13811050453810664543 : Unit := ()
def PySem.W.Fast.tw3345525073429029193 : Unit := ()
def PySem.W.Fast.tw9564785547172423747 : Unit := ()
def PySem.W.Fast.tw10809495730427069706 : Unit := ()
def PySem.W.Fast.tw10253572615836302561 : Unit := ()
def PySem.W.Fast.tw14106804108150933797 : Unit := ()
def PySem.W.Fast.tw15800759557718053117 : Unit := ()
def PySem.W.Fast.tw2710727290968732645 : Unit := ()
def PySem.W.Fast.tw6852772454381192149 : Unit := ()
def PySem.W.Fast.tw15939437233596376185 : Unit := ()
def PySem.W.Fast.tw14123366391998297631 : Unit := ()
def PySem.W.Fast.tw16984001137137519200 : Unit := ()
def PySem.W.Fast.tw14854831230662289367 : Unit := ()
def PySem.W.Fast.tw5817467556709893756 : Unit := ()
def PySem.W.Fast.tw14520058842167585411 : Unit := ()
def PySem.W.Fast.tw7771577722013785798 : Unit := ()
def PySem.W.Fast.tw13526469815971533641 : Unit := ()
def PySem.W.Fast.tw15636606593246420883 : Unit := ()
def PySem.W.Fast.tw5778668714547089673 : Unit := ()
def PySem.W.Fast.tw17057056131990439393 : Unit := ()
def PySem.W.Fast.tw5452662282482285842 : Unit := ()
def PySem.W.Fast.tw14690845208575772115 : Unit := ()
def PySem.W.Fast.tw8908837751230800356 : Unit := ()
def PySem.W.Fast.tw6287105225827513103 : Unit := ()
def PySem.W.Fast.tw17592379536115024574 : Unit := ()
def PySem.W.Fast.tw349287416979863782 : Unit := ()
def PySem.W.Fast.tw4250492599147714423 : Unit := ()
def PySem.W.Fast.tw12596562532172358641 : Unit := ()
def PySem.W.Fast.tw14064465710174492402 : Unit := ()
def PySem.W.Fast.tw8245751221521955184 : Unit := ()
def PySem.W.Fast.tw6687306966722799501 : Unit := ()
def PySem.W.Fast.tw6824378990712092 : Unit := ()
def PySem.W.Fast.tw3453853350528116439 : Unit := ()
def PySem.W.Fast.tw8539076576689038381 : Unit := ()
def PySem.W.Fast.tw9052427977977055309 : Unit := ()
def PySem.W.Fast.tw12736774475937005021 : Unit := ()
def PySem.W.Fast.tw16655699878786947579 : Unit := ()
def PySem.W.Fast.tw16742229100440120015 : Unit := ()
def PySem.W.Fast.tw5624602115348914555 : Unit := ()
def PySem.W.Fast.tw5844757983133216988 : Unit := ()
def PySem.W.Fast.tw15976220857958244859 : Unit := ()
def PySem.W.Fast.tw13017737517612690176 : Unit := ()
def PySem.W.Fast.tw15922296935567115310 : Unit := ()
def PySem.W.Fast.tw12743075718115338279 : Unit := ()
def PySem.W.Fast.tw4466507032446461239 : Unit := ()
def PySem.W.Fast.tw6288688807106302892 : Unit := ()
def PySem.W.Fast.tw6241233241930252130 : Unit := ()
def PySem.W.Fast.tw2931380498377604569 : Unit := ()
def PySem.W.Fast.tw5781204610712328192 : Unit := ()
def PySem.W.Fast.tw11053134498641325878 : Unit := ()
def PySem.W.Fast.tw5378439074317274018 : Unit := ()
def PySem.W.Fast.tw511521740297907024 : Unit := ()
def PySem.W.Fast.tw15256930050038010280 : Unit := ()
def PySem.W.Fast.tw15503262340002087838 : Unit := ()
def PySem.W.Fast.tw9076951240117486136 : Unit := ()
def PySem.W.Fast.tw6575225574485067861 : Unit := ()
def PySem.W.Fast.tw15794438460171211028 : Unit := ()
def PySem.W.Fast.tw3256539464233699117 : Unit := ()
def PySem.W.Fast.tw5172685971389638425 : Unit := ()
def PySem.W.Fast.tw14030195787645651696 : Unit := ()
def PySem.W.Fast.tw15297707163728729220 : Unit := ()
def PySem.W.Fast.tw6928545164986917723 : Unit := ()
def PySem.W.Fast.tw11537177488380476289 : Unit := ()
def PySem.W.Fast.tw853599219537362316 : Unit := ()
def PySem.W.Fast.tw5584299222160774104 : Unit := ()
def PySem.W.Fast.tw14090173130373265791 : Unit := ()
def PySem.W.Fast.tw11288690818982236860 : Unit := ()
def PySem.W.Fast.tw2327703532828179450 : Unit := ()
def PySem.W.Fast.tw14971009385979264381 : Unit := ()
def PySem.W.Fast.tw18052150039243541974 : Unit := ()
def PySem.W.Fast.tw1868037414462369651 : Unit := ()
def PySem.W.Fast.tw16633456081483629727 : Unit := ()
def PySem.W.Fast.tw1592607227913533088 : Unit := ()
def PySem.W.Fast.tw8682843665410963028 : Unit := ()
def PySem.W.Fast.tw3035713468900324900 : Unit := ()
def PySem.W.Fast.tw3288829398673944069 : Unit := ()
def PySem.W.Fast.tw7276037359523199082 : Unit := ()
def PySem.W.Fast.tw16729786741242870460 : Unit := ()
def PySem.W.Fast.tw14923790016575235931 : Unit := ()
def PySem.W.Fast.tw3862200734170094399 : Unit := ()
def PySem.W.Fast.tw14033367566547980890 : Unit := ()
def PySem.W.Fast.tw12489202091912790175 : Unit := ()
def PySem.W.Fast.tw12218931403586213123 : Unit := ()
def PySem.W.Fast.tw9902959228322458229 : Unit := ()
def PySem.W.Fast.tw1273257317160277182 : Unit := ()
def PySem.W.Fast.tw9790026972706763371 : Unit := ()
def PySem.W.Fast.tw2220241943663221486 : Unit := ()
def PySem.W.Fast.tw13385511869634237853 : Unit := ()
def PySem.W.Fast.tw18156070672501014604 : Unit := ()
def PySem.W.Fast.tw11452095357049766812 : Unit := ()
def PySem.W.Fast.tw14769094630835944132 : Unit := ()
def PySem.W.Fast.tw6346418975155746602 : Unit := ()
def PySem.W.Fast.tw3970474394714723889 : Unit := ()
def PySem.W.Fast.tw11072372502612399951 : Unit := ()
def PySem.W.Fast.tw5247191067438987510 : Unit := ()
def PySem.W.Fast.tw225385680564530883 : Unit := ()
def PySem.W.Fast.tw652428647011819019 : Unit := ()
def PySem.W.Fast.tw11720810876751445967 : Unit := ()
def PySem.W.Fast.tw7463227651659071823 : Unit := ()
def PySem.W.Fast.tw11665494067965168209 : Unit := ()
def PySem.W.Fast.tw16309252605316602071 : Unit := ()
def PySem.W.Fast.tw5738648247731017159 : Unit := ()
def PySem.W.Fast.tw15176836764081012324 : Unit := ()
def PySem.W.Fast.tw17866455161043458863 : Unit := ()
def PySem.W.Fast.tw17340902998700010653 : Unit := ()
def PySem.W.Fast.tw3246315129485061755 : Unit := ()
def PySem.W.Fast.tw5027957065943019686 : Unit := ()
def PySem.W.Fast.tw17152693754842365369 : Unit := ()
def PySem.W.Fast.tw8168958345345326825 : Unit := ()
def PySem.W.Fast.tw17744837868009780393 : Unit := ()
def PySem.W.Fast.tw3406067298136460836 : Unit := ()
def PySem.W.Fast.tw4623125341209260371 : Unit := ()
def PySem.W.Fast.tw2894846805750329743 : Unit := ()
def PySem.W.Fast.tw3586079961808339451 : Unit := ()
def PySem.W.Fast.tw12209203071929574818 : Unit := ()
def PySem.W.Fast.tw15866087881487436717 : Unit := ()
def PySem.W.Fast.tw15617185815816609969 : Unit := ()
def PySem.W.Fast.tw16434034994806661360 : Unit := ()
def PySem.W.Fast.tw17887121736073885318 : Unit := ()
def PySem.W.Fast.tw17231767547349634717 : Unit := ()
def PySem.W.Fast.tw17792341317744015873 : Unit := ()
def PySem.W.Fast.tw17543149997009451738 : Unit := ()
def PySem.W.Fast.tw8422455392102943272 : Unit := ()
def PySem.W.Fast.tw17521355814691439036 : Unit := ()
def PySem.W.Fast.tw1345955125871447221 : Unit := ()
def PySem.W.Fast.tw3737105189915768501 : Unit := ()
def PySem.W.Fast.tw6571960212464199933 : Unit := ()
def PySem.W.Fast.tw1587104944305171412 : Unit := ()
def PySem.W.Fast.tw13384713884053621439 : Unit := ()
def PySem.W.Fast.tw13302783127812428360 : Unit := ()
def PySem.W.Fast.tw6626206600179411543 : Unit := ()
def PySem.W.Fast.tw15737797731766842222 : Unit := ()
def PySem.W.Fast.tw8419269822585469595 : Unit := ()
def PySem.W.Fast.tw11954836115602180506 : Unit := ()
def PySem.W.Fast.tw5609371486120080739 : Unit := ()
def PySem.W.Fast.tw13625881890481349594 : Unit := ()
def PySem.W.Fast.tw17593349003473839472 : Unit := ()
def PySem.W.Fast.tw306405666103034213 : Unit := ()
def PySem.W.Fast.tw4094043667662302987 : Unit := ()
def PySem.W.Fast.tw16296635256406505485 : Unit := ()
def PySem.W.Fast.tw12196638586230047082 : Unit := ()
def PySem.W.Fast.tw7072545699085455357 : Unit := ()
def PySem.W.Fast.tw8989011937066627843 : Unit := ()
def PySem.W.Fast.tw1439298502357444842 : Unit := ()
def PySem.W.Fast.tw1644167070374776480 : Unit := ()
def PySem.W.Fast.tw10865598816855290819 : Unit := ()
def PySem.W.Fast.tw16021377660036012406 : Unit := ()
def PySem.W.Fast.tw13095034416204187148 : Unit := ()
def PySem.W.Fast.tw11841370177339497043 : Unit := ()
def PySem.W.Fast.tw6741589606503910906 : Unit := ()
def PySem.W.Fast.tw3662469934519293622 : Unit := ()
def PySem.W.Fast.tw113814280875289642 : Unit := ()
def PySem.W.Fast.tw15056453309206511133 : Unit := ()
def PySem.W.Fast.tw8835964666866897091 : Unit := ()
def PySem.W.Fast.tw612503173742932592 : Unit := ()
def PySem.W.Fast.tw12809115795429294083 : Unit := ()
def PySem.W.Fast.tw11558097107567877969 : Unit := ()
def PySem.W.Fast.tw3563942501610919382 : Unit := ()
def PySem.W.Fast.tw9343796288871330025 : Unit := ()
def PySem.W.Fast.tw2316908347625702956 : Unit := ()
def PySem.W.Fast.tw17748180624212656900 : Unit := ()
def PySem.W.Fast.tw6534762248534310074 : Unit := ()
def PySem.W.Fast.tw12061835112599026572 : Unit := ()
def PySem.W.Fast.tw3460212234992168878 : Unit := ()
def PySem.W.Fast.tw11901691786189782295 : Unit := ()
def PySem.W.Fast.tw2231864309589024071 : Unit := ()
def PySem.W.Fast.tw15571401631733664759 : Unit := ()
def PySem.W.Fast.tw109955928132220483 : Unit := ()
def PySem.W.Fast.tw1321968543520676852 : Unit := ()
def PySem.W.Fast.tw2056898963848234479 : Unit := ()
def PySem.W.Fast.tw5388441962935054965 : Unit := ()
def PySem.W.Fast.tw5094591302624868236 : Unit := ()
def PySem.W.Fast.tw3838852876117640107 : Unit := ()
def PySem.W.Fast.tw2667020157263184426 : Unit := ()
def PySem.W.Fast.tw9337554858965320359 : Unit := ()
def PySem.W.Fast.tw12327095106078359204 : Unit := ()
def PySem.W.Fast.tw17326982419383075117 : Unit := ()
def PySem.W.Fast.tw15258039937548602881 : Unit := ()
def PySem.W.Fast.tw5354109436382068365 : Unit := ()
def PySem.W.Fast.tw4863229998362316830 : Unit := ()
def PySem.W.Fast.tw2733090354878928837 : Unit := ()
def PySem.W.Fast.tw1256716856517184662 : Unit := ()
def PySem.W.Fast.tw3877378937324893737 : Unit := ()
def PySem.W.Fast.tw1325876626408540242 : Unit := ()
def PySem.W.Fast.tw1104665951895080160 : Unit := ()
def PySem.W.Fast.tw4337281694489835933 : Unit := ()
def PySem.W.Fast.tw1181721200310186679 : Unit := ()
def PySem.W.Fast.tw14820103217858795906 : Unit := ()
def PySem.W.Fast.tw17230462665996522367 : Unit := ()
def PySem.W.Fast.tw13860227559145047877 : Unit := ()
def PySem.W.Fast.tw1680482226371866086 : Unit := ()
def PySem.W.Fast.tw2243114624287150536 : Unit := ()
def PySem.W.Fast.tw3510437404133362845 : Unit := ()
def PySem.W.Fast.tw11496742897568557704 : Unit := ()
def PySem.W.Fast.tw13269496276279436262 : Unit := ()
def PySem.W.Fast.tw12858005384981857959 : Unit := ()
def PySem.W.Fast.tw2191765605205809236 : Unit := ()
def PySem.W.Fast.tw12799145008885282760 : Unit := ()
def PySem.W.Fast.tw8236278192400271485 : Unit := ()
def PySem.W.Fast.tw17782255026957539660 : Unit := ()
def PySem.W.Fast.tw926899079624819028 : Unit := ()
def PySem.W.Fast.tw3701901264756660890 : Unit := ()
def PySem.W.Fast.tw6538170872502337554 : Unit := ()
def PySem.W.Fast.tw7947642758666311898 : Unit := ()
def PySem.W.Fast.tw8653014319303822798 : Unit := ()
def PySem.W.Fast.tw5143311925596157989 : Unit := ()
def PySem.W.Fast.tw16123540413708938745 : Unit := ()
def PySem.W.Fast.tw13309434838194214965 : Unit := ()
def PySem.W.Fast.tw17621792952179814937 : Unit := ()
def PySem.W.Fast.tw5987971755577041629 : Unit := ()
def PySem.W.Fast.tw8109650222723896695 : Unit := ()
def PySem.W.Fast.tw1129903146559393757 : Unit := ()
def PySem.W.Fast.tw12647201794214052947 : Unit := ()
def PySem.W.Fast.tw6441127213447774986 : Unit := ()
def PySem.W.Fast.tw16420578968828034286 : Unit := ()
def PySem.W.Fast.tw4370607434146386728 : Unit := ()
def PySem.W.Fast.tw7766034176117926606 : Unit := ()
def PySem.W.Fast.tw9605475389313528658 : Unit := ()
def PySem.W.Fast.tw2163871204710302088 : Unit := ()
def PySem.W.Fast.tw6367233829061131760 : Unit := ()
def PySem.W.Fast.tw18081603606222155038 : Unit := ()
def PySem.W.Fast.tw7820416941914454557 : Unit := ()
def PySem.W.Fast.tw8079598732973024238 : Unit := ()
def PySem.W.Fast.tw13947791997176789125 : Unit := ()
def PySem.W.Fast.tw17200250241249233145 : Unit := ()
def PySem.W.Fast.tw1670853555014652330 : Unit := ()
def PySem.W.Fast.tw17742324026049194951 : Unit := ()
def PySem.W.Fast.tw15338108662157460618 : Unit := ()
def PySem.W.Fast.tw7237433021071240566 : Unit := ()
def PySem.W.Fast.tw14009422039636220560 : Unit := ()
def PySem.W.Fast.tw8738164563761838192 : Unit := ()
def PySem.W.Fast.tw4340079007819239973 : Unit := ()
def PySem.W.Fast.tw9181677002570525940 : Unit := ()
def PySem.W.Fast.tw18146242559827622055 : Unit := ()
def PySem.W.Fast.tw13521158242193862355 : Unit := ()
def PySem.W.Fast.tw4858103372735919171 : Unit := ()
def PySem.W.Fast.tw6646296990409485682 : Unit := ()
def PySem.W.Fast.tw11171038347507173433 : Unit := ()
def PySem.W.Fast.tw2851380275384210576 : Unit := ()
def PySem.W.Fast.tw392918114743919575 : Unit := ()
def PySem.W.Fast.tw8086630661904448698 : Unit := ()
def PySem.W.Fast.tw4908267225013438062 : Unit := ()
def PySem.W.Fast.tw3098573443373224313 : Unit := ()
def PySem.W.Fast.tw3307903432812504514 : Unit := ()
def PySem.W.Fast.tw14437417163750106510 : Unit := ()
def PySem.W.Fast.tw10359751657146436672 : Unit := ()
def PySem.W.Fast.tw16620326453262866363 : Unit := ()
def PySem.W.Fast.tw17612294064639341323 : Unit := ()
def PySem.W.Fast.tw15309325630104967794 : Unit := ()
def PySem.W.Fast.tw366869103991404830 : Unit := ()
def PySem.W.Fast.tw17870577184141600900 : Unit := ()
def PySem.W.Fast.tw925137712653364063 : Unit := ()
def PySem.W.Fast.tw7296268336735316700 : Unit := ()
def PySem.W.Fast.tw5371967956063744625 : Unit := ()
def PySem.W.Fast.tw17862010627518069379 : Unit := ()
def PySem.W.Fast.tw5238667470446782565 : Unit := ()
def PySem.W.Fast.tw5269874170019188542 : Unit := ()
def PySem.W.Fast.tw8332549733628614172 : Unit := ()
def PySem.W.Fast.tw15429471026291525945 : Unit := ()
def PySem.W.Fast.tw2147585775378480941 : Unit := ()
def PySem.W.Fast.tw13311328297809428141 : Unit := ()
def PySem.W.Fast.tw11843543480456783725 : Unit := ()
def PySem.W.Fast.tw13090419537584561886 : Unit := ()
def PySem.W.Fast.tw13492003719762267126 : Unit := ()
def PySem.W.Fast.tw8307035660183541869 : Unit := ()
def PySem.W.Fast.tw885420327355735813 : Unit := ()
def PySem.W.Fast.tw15537295144261754384 : Unit := ()
def PySem.W.Fast.tw18383635444952890236 : Unit := ()
def PySem.W.Fast.tw9187633924551210561 : Unit := ()
def PySem.W.Fast.tw7345525920612542959 : Unit := ()
def PySem.W.Fast.tw14676484960893473327 : Unit := ()
def PySem.W.Fast.tw31250046021637636 : Unit := ()
def PySem.W.Fast.tw9123088045072205038 : Unit := ()
def PySem.W.Fast.tw9143776761450530271 : Unit := ()
def PySem.W.Fast.tw8902492604823280807 : Unit := ()
def PySem.W.Fast.tw15890337677325506556 : Unit := ()
def PySem.W.Fast.tw15237102329819687480 : Unit := ()
def PySem.W.Fast.tw14452976293273499435 : Unit := ()
def PySem.W.Fast.tw6082939209285282933 : Unit := ()
def PySem.W.Fast.tw5911673900961075252 : Unit := ()
def PySem.W.Fast.tw17708493771326139351 : Unit := ()
def PySem.W.Fast.tw16046577376626795878 : Unit := ()
def PySem.W.Fast.tw10249770767909045888 : Unit := ()
def PySem.W.Fast.tw2819989491950719667 : Unit := ()
def PySem.W.Fast.tw10329202597709249776 : Unit := ()
def PySem.W.Fast.tw6848704059970249800 : Unit := ()
def PySem.W.Fast.tw9523846520776776023 : Unit := ()
def PySem.W.Fast.tw16723324000887875711 : Unit := ()
def PySem.W.Fast.tw1121589022964747401 : Unit := ()
def PySem.W.Fast.tw13880060730724357086 : Unit := ()
def PySem.W.Fast.tw11410447646220166719 : Unit := ()
def PySem.W.Fast.tw4626475114460814041 : Unit := ()
def PySem.W.Fast.tw10417618733396951564 : Unit := ()
def PySem.W.Fast.tw8604846268467478057 : Unit := ()
def PySem.W.Fast.tw17189517959557913268 : Unit := ()
def PySem.W.Fast.tw17264998425911675590 : Unit := ()
def PySem.W.Fast.tw13325912886252297059 : Unit := ()
def PySem.W.Fast.tw12736634732027071981 : Unit := ()
def PySem.W.Fast.tw11371925726992366961 : Unit := ()
def PySem.W.Fast.tw5791026961780480291 : Unit := ()
def PySem.W.Fast.tw10807864593095451499 : Unit := ()
def PySem.W.Fast.tw3022495019648808265 : Unit := ()
def PySem.W.Fast.tw17601834581998130477 : Unit := ()
def PySem.W.Fast.tw16694000976828771557 : Unit := ()
def PySem.W.Fast.tw5667369798213856369 : Unit := ()
def PySem.W.Fast.tw16051009387875554925 : Unit := ()
def PySem.W.Fast.tw1964992831284218099 : Unit := ()
def PySem.W.Fast.tw15348410460888117461 : Unit := ()
def PySem.W.Fast.tw12669130153643581122 : Unit := ()
def PySem.W.Fast.tw10657943068492165671 : Unit := ()
def PySem.W.Fast.tw6038073358532023279 : Unit := ()
def PySem.W.Fast.tw16779940294045848390 : Unit := ()
def PySem.W.Fast.tw7937704968372075052 : Unit := ()
def PySem.W.Fast.tw9769197948609208193 : Unit := ()
def PySem.W.Fast.tw3127569349499484021 : Unit := ()
def PySem.W.Fast.tw1464353109965593929 : Unit := ()
def PySem.W.Fast.tw10196506061098469299 : Unit := ()
def PySem.W.Fast.tw4108286357490715276 : Unit := ()
def PySem.W.Fast.tw11401367145819749869 : Unit := ()
def PySem.W.Fast.tw10339534152688793242 : Unit := ()
def PySem.W.Fast.tw7005195350388249602 : Unit := ()
def PySem.W.Fast.tw9592623380291925421 : Unit := ()
def PySem.W.Fast.tw7694444739016168358 : Unit := ()
def PySem.W.Fast.tw18350856917588812917 : Unit := ()
def PySem.W.Fast.tw666468937860857590 : Unit := ()
def PySem.W.Fast.tw2676484597251377312 : Unit := ()
def PySem.W.Fast.tw2495719953543857929 : Unit := ()
def PySem.W.Fast.tw89951810259748504 : Unit := ()
def PySem.W.Fast.tw13342967151920636317 : Unit := ()
def PySem.W.Fast.tw14213045553917358586 : Unit := ()
def PySem.W.Fast.tw6321459533872927228 : Unit := ()
def PySem.W.Fast.tw2666142434543955973 : Unit := ()
def PySem.W.Fast.tw676317188366099218 : Unit := ()
def PySem.W.Fast.tw2104293085186632147 : Unit := ()
def PySem.W.Fast.tw3811848979082031295 : Unit := ()
def PySem.W.Fast.tw7439595420027162566 : Unit := ()
def PySem.W.Fast.tw2687434224552130816 : Unit := ()
def PySem.W.Fast.tw13242209576063355757 : Unit := ()
def PySem.W.Fast.tw7798124040061013244 : Unit := ()
def PySem.W.Fast.tw13530317434665303401 : Unit := ()
def PySem.W.Fast.tw3339453466338157645 : Unit := ()
def PySem.W.Fast.tw4886252223699201236 : Unit := ()
def PySem.W.Fast.tw2847560966465947481 : Unit := ()
def PySem.W.Fast.tw2052861868711217572 : Unit := ()
def PySem.W.Fast.tw6789981295864739517 : Unit := ()
def PySem.W.Fast.tw13546353470128317912 : Unit := ()
def PySem.W.Fast.tw16846545756955454431 : Unit := ()
def PySem.W.Fast.tw11292401875194904830 : Unit := ()
def PySem.W.Fast.tw9166253195019336466 : Unit := ()
def PySem.W.Fast.tw10228555979022034752 : Unit := ()
def PySem.W.Fast.tw9102730497890751934 : Unit := ()
def PySem.W.Fast.tw9120761543859556845 : Unit := ()
def PySem.W.Fast.tw13267891582834296915 : Unit := ()
def PySem.W.Fast.tw10430923582348183314 : Unit := ()
def PySem.W.Fast.tw12935373735537517376 : Unit := ()
def PySem.W.Fast.tw16747439193453108757 : Unit := ()
def PySem.W.Fast.tw1550848903266945498 : Unit := ()
def PySem.W.Fast.tw15087187281441454316 : Unit := ()
def PySem.W.Fast.tw2459721001460212386 : Unit := ()
def PySem.W.Fast.tw13417312697131777352 : Unit := ()
def PySem.W.Fast.tw3722316822986221946 : Unit := ()
def PySem.W.Fast.tw5088641430749458385 : Unit := ()
def PySem.W.Fast.tw1482544818562386324 : Unit := ()
def PySem.W.Fast.tw188700121712832304 : Unit := ()
def PySem.W.Fast.tw1331580037008329483 : Unit := ()
def PySem.W.Fast.tw17719340041263507621 : Unit := ()
def PySem.W.Fast.tw6325857066154143183 : Unit := ()
def PySem.W.Fast.tw2226875773250536487 : Unit := ()
def PySem.W.Fast.tw15272532108716841430 : Unit := ()
def PySem.W.Fast.tw9872249285982741991 : Unit := ()
def PySem.W.Fast.tw18258187698443799710 : Unit := ()
def PySem.W.Fast.tw12852904210024463948 : Unit := ()
def PySem.W.Fast.tw12008252647944183293 : Unit := ()
def PySem.W.Fast.tw30698509422811785 : Unit := ()
def PySem.W.Fast.tw6933042101868056684 : Unit := ()
def PySem.W.Fast.tw3763903075966680198 : Unit := ()
def PySem.W.Fast.tw11653907718338180256 : Unit := ()
def PySem.W.Fast.tw43195459964527982 : Unit := ()
def PySem.W.Fast.tw1645931282656512828 : Unit := ()
def PySem.W.Fast.tw13203596458343921786 : Unit := ()
def PySem.W.Fast.tw91775959195653327 : Unit := ()
def PySem.W.Fast.tw5038789239625075968 : Unit := ()
def PySem.W.Fast.tw9528019125481266155 : Unit := ()
def PySem.W.Fast.tw6469565759720020822 : Unit := ()
def PySem.W.Fast.tw16762411488604521194 : Unit := ()
def PySem.W.Fast.tw9945775109688988221 : Unit := ()
def PySem.W.Fast.tw13016543413850372833 : Unit := ()
def PySem.W.Fast.tw1293873727786792100 : Unit := ()
def PySem.W.Fast.tw1342302738009461816 : Unit := ()
def PySem.W.Fast.tw3836387260524717091 : Unit := ()
def PySem.W.Fast.tw6724713615032328319 : Unit := ()
def PySem.W.Fast.tw13820305767822665270 : Unit := ()
def PySem.W.Fast.tw2377797561282913776 : Unit := ()
def PySem.W.Fast.tw2152502278155105459 : Unit := ()
def PySem.W.Fast.tw11811807648035590765 : Unit := ()
def PySem.W.Fast.tw16778562802620343737 : Unit := ()
def PySem.W.Fast.tw10687963503208152445 : Unit := ()
def PySem.W.Fast.tw1129251516132276915 : Unit := ()
def PySem.W.Fast.tw16338480822141866253 : Unit := ()
def PySem.W.Fast.tw10685129822122719818 : Unit := ()
def PySem.W.Fast.tw16938463563403155490 : Unit := ()
def PySem.W.Fast.tw11144058039608968026 : Unit := ()
def PySem.W.Fast.tw3400953046110597371 : Unit := ()
def PySem.W.Fast.tw8192280055954383893 : Unit := ()
def PySem.W.Fast.tw13455620369581818976 : Unit := ()
def PySem.W.Fast.tw10396178505806301650 : Unit := ()
def PySem.W.Fast.tw10088100275729981234 : Unit := ()
def PySem.W.Fast.tw3011866151801882268 : Unit := ()
def PySem.W.Fast.tw5155175454949976187 : Unit := ()
def PySem.W.Fast.tw8211459891988162341 : Unit := ()
def PySem.W.Fast.tw12171089203339736492 : Unit := ()
def PySem.W.Fast.tw17651043723271347668 : Unit := ()
def PySem.W.Fast.tw7378367045406250409 : Unit := ()
def PySem.W.Fast.tw17141345724963734000 : Unit := ()
def PySem.W.Fast.tw6943992206152712898 : Unit := ()
def PySem.W.Fast.tw4053956641339074506 : Unit := ()
def PySem.W.Fast.tw5618655286209365688 : Unit := ()
def PySem.W.Fast.tw16984020916796243760 : Unit := ()
def PySem.W.Fast.tw2898596723173054720 : Unit := ()
def PySem.W.Fast.tw17381773520075107047 : Unit := ()
def PySem.W.Fast.tw15267945615234804744 : Unit := ()
def PySem.W.Fast.tw6208696109395874165 : Unit := ()
def PySem.W.Fast.tw13224774315381740818 : Unit := ()
def PySem.W.Fast.tw13830092580072218556 : Unit := ()
def PySem.W.Fast.tw15712924317928930923 : Unit := ()
def PySem.W.Fast.tw11784447269501204833 : Unit := ()
def PySem.W.Fast.tw791033301024428097 : Unit := ()
def PySem.W.Fast.tw12230741881881203526 : Unit := ()
def PySem.W.Fast.tw13553097858891491311 : Unit := ()
def PySem.W.Fast.tw8765136353403764703 : Unit := ()
def PySem.W.Fast.tw14375137554947878613 : Unit := ()
def PySem.W.Fast.tw17053475110296163503 : Unit := ()
def PySem.W.Fast.tw10660776039920864000 : Unit := ()
def PySem.W.Fast.tw11853790582620862245 : Unit := ()
def PySem.W.Fast.tw6558022976931520997 : Unit := ()
def PySem.W.Fast.tw5908084264794421745 : Unit := ()
def PySem.W.Fast.tw11560892936433196160 : Unit := ()
def PySem.W.Fast.tw3590472364021545613 : Unit := ()
def PySem.W.Fast.tw2123439063825072140 : Unit := ()
def PySem.W.Fast.tw8602357790111772826 : Unit := ()
def PySem.W.Fast.tw15868281847002525862 : Unit := ()
def PySem.W.Fast.tw15542861928502775580 : Unit := ()
def PySem.W.Fast.tw2860200597420356217 : Unit := ()
def PySem.W.Fast.tw16894993894941283437 : Unit := ()
def PySem.W.Fast.tw12490512054821823802 : Unit := ()
def PySem.W.Fast.tw11607212643954799531 : Unit := ()
def PySem.W.Fast.tw14236634765884965173 : Unit := ()
def PySem.W.Fast.tw14295525771293118605 : Unit := ()
def PySem.W.Fast.tw2550278913081716870 : Unit := ()
def PySem.W.Fast.tw15366628361275620236 : Unit := ()
def PySem.W.Fast.tw1834872110473005545 : Unit := ()
def PySem.W.Fast.tw1623167367884959013 : Unit := ()
def PySem.W.Fast.tw15905438816480147776 : Unit := ()
def PySem.W.Fast.tw4137081334720418737 : Unit := ()
def PySem.W.Fast.tw534475386052315443 : Unit := ()
def PySem.W.Fast.tw1917526166458262631 : Unit := ()
def PySem.W.Fast.tw17936516516780662946 : Unit := ()
def PySem.W.Fast.tw11430555554146339159 : Unit := ()
def PySem.W.Fast.tw7041599790073722862 : Unit := ()
def PySem.W.Fast.tw421941005126106606 : Unit := ()
def PySem.W.Fast.tw14895816590911856459 : Unit := ()
def PySem.W.Fast.tw800097500217073884 : Unit := ()
def PySem.W.Fast.tw2988397855057199584 : Unit := ()
def PySem.W.Fast.tw7450859777687618405 : Unit := ()
def PySem.W.Fast.tw13440690617779198481 : Unit := ()
def PySem.W.Fast.tw5163271917163535259 : Unit := ()
def PySem.W.Fast.tw12143095293210222786 : Unit := ()
def PySem.W.Fast.tw2226937801618995254 : Unit := ()
def PySem.W.Fast.tw14250687353374669257 : Unit := ()
def PySem.W.Fast.tw3617677637146563102 : Unit := ()
def PySem.W.Fast.tw2434261946415009609 : Unit := ()
def PySem.W.Fast.tw3576625417781353654 : Unit := ()
def PySem.W.Fast.tw2144643314725305302 : Unit := ()
def PySem.W.Fast.tw4118209990260281960 : Unit := ()
def PySem.W.Fast.tw16866328990916194634 : Unit := ()
def PySem.W.Fast.tw11313613948719706639 : Unit := ()
def PySem.W.Fast.tw698458953062573767 : Unit := ()
def PySem.W.Fast.tw7951345596300649826 : Unit := ()
def PySem.W.Fast.tw11549032431458614861 : Unit := ()
def PySem.W.Fast.tw16716880990329933128 : Unit := ()
def PySem.W.Fast.tw17290499963270616819 : Unit := ()
def PySem.W.Fast.tw18165794489705478059 : Unit := ()
def PySem.W.Fast.tw14214097455781888618 : Unit := ()
def PySem.W.Fast.tw4948163385196546089 : Unit := ()
def PySem.W.Fast.tw1909327212981349870 : Unit := ()
def PySem.W.Fast.tw8993065505015847248 : Unit := ()
def PySem.W.Fast.tw11977298735852630294 : Unit := ()
def PySem.W.Fast.tw18031265317992921991 : Unit := ()
def PySem.W.Fast.tw6059469311474208470 : Unit := ()
def PySem.W.Fast.tw8274878111091605312 : Unit := ()
def PySem.W.Fast.tw510263080919727531 : Unit := ()
def PySem.W.Fast.tw2943777851168401854 : Unit := ()
def PySem.W.Fast.tw10319193614116679294 : Unit := ()
def PySem.W.Fast.tw10377409891928500317 : Unit := ()
def PySem.W.Fast.tw9717274880014262616 : Unit := ()
def PySem.W.Fast.tw13357279062475376576 : Unit := ()
def PySem.W.Fast.tw9935617103644263033 : Unit := ()
def PySem.W.Fast.tw3994626174031040676 : Unit := ()
def PySem.W.Fast.tw16571958214538725920 : Unit := ()
def PySem.W.Fast.tw3628982238125247761 : Unit := ()
def PySem.W.Fast.tw13510623844207315524 : Unit := ()
def PySem.W.Fast.tw3915333160508744618 : Unit := ()
def PySem.W.Fast.tw7380867458864104158 : Unit := ()
def PySem.W.Fast.tw8285725392927752926 : Unit := ()
def PySem.W.Fast.tw7668097149442035935 : Unit := ()
def PySem.W.Fast.tw3985794655522897171 : Unit := ()
def PySem.W.Fast.tw5375033493682313479 : Unit := ()
def PySem.W.Fast.tw1341420154965104387 : Unit := ()
def PySem.W.Fast.tw10586412017241967221 : Unit := ()
def PySem.W.Fast.tw2200734727476432004 : Unit := ()
def PySem.W.Fast.tw9482994905541695321 : Unit := ()
def PySem.W.Fast.tw15769141094846506222 : Unit := ()
def PySem.W.Fast.tw2094226352323960114 : Unit := ()
def PySem.W.Fast.tw10784443010860447963 : Unit := ()
def PySem.W.Fast.tw666649880408608262 : Unit := ()
def PySem.W.Fast.tw9173072722183694584 : Unit := ()
def PySem.W.Fast.tw16173727838770252463 : Unit := ()
def PySem.W.Fast.tw14020957655796023930 : Unit := ()
def PySem.W.Fast.tw10549785182269920155 : Unit := ()
def PySem.W.Fast.tw5183135766465406290 : Unit := ()
def PySem.W.Fast.tw623662499926626124 : Unit := ()
def PySem.W.Fast.tw4337262874988662189 : Unit := ()
def PySem.W.Fast.tw9800455022816633917 : Unit := ()
def PySem.W.Fast.tw5537207580013014 : Unit := ()
def PySem.W.Fast.tw8940844601428088148 : Unit := ()
def PySem.W.Fast.tw10974833696459824436 : Unit := ()
def PySem.W.Fast.tw5851874844665535302 : Unit := ()
def PySem.W.Fast.tw9962383193863230882 : Unit := ()
def PySem.W.Fast.tw8840407912981590203 : Unit := ()
def PySem.W.Fast.tw15766244755244223987 : Unit := ()
def PySem.W.Fast.tw15783555632533274826 : Unit := ()
def PySem.W.Fast.tw5179717648002950308 : Unit := ()
def PySem.W.Fast.tw18309496727258349888 : Unit := ()
def PySem.W.Fast.tw5392608801315887075 : Unit := ()
def PySem.W.Fast.tw5163321357405708311 : Unit := ()
def PySem.W.Fast.tw91195344718469599 : Unit := ()
def PySem.W.Fast.tw4319286110934806643 : Unit := ()
def PySem.W.Fast.tw12249515499042089115 : Unit := ()
def PySem.W.Fast.tw11205950878942830676 : Unit := ()
def PySem.W.Fast.tw1415455534325707976 : Unit := ()
def PySem.W.Fast.tw6768447995554536017 : Unit := ()
def PySem.W.Fast.tw5073575536350687947 : Unit := ()
def PySem.W.Fast.tw17526978898106568603 : Unit := ()
def PySem.W.Fast.tw954140724957745506 : Unit := ()
def PySem.W.Fast.tw14072806911988421038 : Unit := ()
def PySem.W.Fast.tw16373062484132475850 : Unit := ()
def PySem.W.Fast.tw5453811936858934813 : Unit := ()
def PySem.W.Fast.tw13142659366181788209 : Unit := ()
def PySem.W.Fast.tw5638800400654227467 : Unit := ()
def PySem.W.Fast.tw15413858299730626468 : Unit := ()
def PySem.W.Fast.tw5621661228151217350 : Unit := ()
def PySem.W.Fast.tw9061763516026677288 : Unit := ()
def PySem.W.Fast.tw16392441758274161564 : Unit := ()
def PySem.W.Fast.tw16552242169543099036 : Unit := ()
def PySem.W.Fast.tw3725224921978181386 : Unit := ()
def PySem.W.Fast.tw6347249565063258210 : Unit := ()
def PySem.W.Fast.tw6019552373632856125 : Unit := ()
def PySem.W.Fast.tw5289890350324902688 : Unit := ()
def PySem.W.Fast.tw7234747276938693294 : Unit := ()
def PySem.W.Fast.tw1294631357636636992 : Unit := ()
def PySem.W.Fast.tw459786029213585135 : Unit := ()
def PySem.W.Fast.tw1840735712345988389 : Unit := ()
def PySem.W.Fast.tw94800556373631102 : Unit := ()
def PySem.W.Fast.tw4586065789827862769 : Unit := ()
def PySem.W.Fast.tw3687070576830727499 : Unit := ()
def PySem.W.Fast.tw6915100684629626856 : Unit := ()
def PySem.W.Fast.tw8069861425914581732 : Unit := ()
def PySem.W.Fast.tw11365418896016102774 : Unit := ()
def PySem.W.Fast.tw7948203735414019046 : Unit := ()
def PySem.W.Fast.tw17571735359565369953 : Unit := ()
def PySem.W.Fast.tw5322856969251749759 : Unit := ()
def PySem.W.Fast.tw17239390239272445456 : Unit := ()
def PySem.W.Fast.tw4224934085767768793 : Unit := ()
def PySem.W.Fast.tw12074523611900997514 : Unit := ()
def PySem.W.Fast.tw266216969655886947 : Unit := ()
def PySem.W.Fast.tw11556010366058104507 : Unit := ()
def PySem.W.Fast.tw723516615332413127 : Unit := ()
def PySem.W.Fast.tw3730500350916898964 : Unit := ()
def PySem.W.Fast.tw4847711282805470281 : Unit := ()
def PySem.W.Fast.tw9836530783900135458 : Unit := ()
def PySem.W.Fast.tw16788244235283169363 : Unit := ()
def PySem.W.Fast.tw3511988136459687606 : Unit := ()
def PySem.W.Fast.tw599148104882826584 : Unit := ()
def PySem.W.Fast.tw14748344578904708939 : Unit := ()
def PySem.W.Fast.tw16448731692768083338 : Unit := ()
def PySem.W.Fast.tw11618194410701680538 : Unit := ()
def PySem.W.Fast.tw12625342384126685065 : Unit := ()
def PySem.W.Fast.tw11912407043559017045 : Unit := ()
def PySem.W.Fast.tw13039482444857609087 : Unit := ()
def PySem.W.Fast.tw7747893046303389004 : Unit := ()
def PySem.W.Fast.tw10347289565728231811 : Unit := ()
def PySem.W.Fast.tw8887846772483962873 : Unit := ()
def PySem.W.Fast.tw18067206790318892024 : Unit := ()
def PySem.W.Fast.tw14696251406940054701 : Unit := ()
def PySem.W.Fast.tw7811927248305508627 : Unit := ()
def PySem.W.Fast.tw10816445913019235990 : Unit := ()
def PySem.W.Fast.tw15867825343623915915 : Unit := ()
def PySem.W.Fast.tw9983047095531726153 : Unit := ()
def PySem.W.Fast.tw1910375496299970148 : Unit := ()
def PySem.W.Fast.tw16498682836551843605 : Unit := ()
def PySem.W.Fast.tw17700921251460262889 : Unit := ()
def PySem.W.Fast.tw9220749349640527769 : Unit := ()
def PySem.W.Fast.tw12477996514874072069 : Unit := ()
def PySem.W.Fast.tw7326494654885570808 : Unit := ()
def PySem.W.Fast.tw9838797652180067226 : Unit := ()
def PySem.W.Fast.tw10310916825905139434 : Unit := ()
def PySem.W.Fast.tw4706577738632220656 : Unit := ()
def PySem.W.Fast.tw6542292812596040775 : Unit := ()
def PySem.W.Fast.tw6739597845161691588 : Unit := ()
def PySem.W.Fast.tw947666833285312659 : Unit := ()
def PySem.W.Fast.tw13356467392053066290 : Unit := ()
def PySem.W.Fast.tw4452756585150802392 : Unit := ()
def PySem.W.Fast.tw3567158208375438291 : Unit := ()
def PySem.W.Fast.tw5153901794931489297 : Unit := ()
def PySem.W.Fast.tw3923999229413069034 : Unit := ()
def PySem.W.Fast.tw6329815520250912499 : Unit := ()
def PySem.W.Fast.tw1638639202218452676 : Unit := ()
def PySem.W.Fast.tw16728011145142922652 : Unit := ()
def PySem.W.Fast.tw10144890634327664934 : Unit := ()
def PySem.W.Fast.tw13211100659069483979 : Unit := ()
def PySem.W.Fast.tw5563768439529938671 : Unit := ()
def PySem.W.Fast.tw12617969490133170071 : Unit := ()
def PySem.W.Fast.tw6490547213750595936 : Unit := ()
def PySem.W.Fast.tw246961067661268249 : Unit := ()
def PySem.W.Fast.tw8805137828289606571 : Unit := ()
def PySem.W.Fast.tw7449403831636003640 : Unit := ()
def PySem.W.Fast.tw13723287464066870332 : Unit := ()
def PySem.W.Fast.tw2769173981121250063 : Unit := ()
def PySem.W.Fast.tw4970902512728779236 : Unit := ()
def PySem.W.Fast.tw17035378822199789123 : Unit := ()
def PySem.W.Fast.tw306967228647665822 : Unit := ()
def PySem.W.Fast.tw5070359843625771030 : Unit := ()
def PySem.W.Fast.tw17361787121987445898 : Unit := ()
def PySem.W.Fast.tw8741732958991885701 : Unit := ()
def PySem.W.Fast.tw8360731931235909487 : Unit := ()
def PySem.W.Fast.tw191968242875662485 : Unit := ()
def PySem.W.Fast.tw4546362838696980276 : Unit := ()
def PySem.W.Fast.tw8168589002984659076 : Unit := ()
def PySem.W.Fast.tw4946258336386317507 : Unit := ()
def PySem.W.Fast.tw2391970123008502061 : Unit := ()
def PySem.W.Fast.tw8462628246961254156 : Unit := ()
def PySem.W.Fast.tw9642275036773569087 : Unit := ()
def PySem.W.Fast.tw15080380054363619388 : Unit := ()
def PySem.W.Fast.tw54102732063008286 : Unit := ()
def PySem.W.Fast.tw14344194262953317389 : Unit := ()
def PySem.W.Fast.tw11489737747649871144 : Unit := ()
def PySem.W.Fast.tw18226902475888956411 : Unit := ()
def PySem.W.Fast.tw14931768067803535399 : Unit := ()
def PySem.W.Fast.tw17401262178163656957 : Unit := ()
def PySem.W.Fast.tw15658287241946185952 : Unit := ()
def PySem.W.Fast.tw6818928227542625924 : Unit := ()
def PySem.W.Fast.tw10437927209131062237 : Unit := ()
def PySem.W.Fast.tw12516335424241030067 : Unit := ()
def PySem.W.Fast.tw10850161959915978316 : Unit := ()
def PySem.W.Fast.tw11340474278183678538 : Unit := ()
def PySem.W.Fast.tw14381428125550756140 : Unit := ()
def PySem.W.Fast.tw16555758510420236297 : Unit := ()
def PySem.W.Fast.tw14856218899378179654 : Unit := ()
def PySem.W.Fast.tw2199073129433824673 : Unit := ()
def PySem.W.Fast.tw4741381945771113868 : Unit := ()
def PySem.W.Fast.tw11467317851221426058 : Unit := ()
def PySem.W.Fast.tw14651322070962374072 : Unit := ()
def PySem.W.Fast.tw3273895842714947449 : Unit := ()
def PySem.W.Fast.tw12424428340052186458 : Unit := ()
def PySem.W.Fast.tw14708074044585585381 : Unit := ()
def PySem.W.Fast.tw11588513452017558152 : Unit := ()
def PySem.W.Fast.tw12868635357630006067 : Unit := ()
def PySem.W.Fast.tw439145881756015267 : Unit := ()
def PySem.W.Fast.tw17893696210829823667 : Unit := ()
def PySem.W.Fast.tw529086638963619537 : Unit := ()
def PySem.W.Fast.tw11054897704851613227 : Unit := ()
def PySem.W.Fast.tw3622514256444917669 : Unit := ()
def PySem.W.Fast.tw3800034497322968389 : Unit := ()
def PySem.W.Fast.tw453388458552762155 : Unit := ()
def PySem.W.Fast.tw13023569035743038959 : Unit := ()
def PySem.W.Fast.tw6752850878732695380 : Unit := ()
def PySem.W.Fast.tw6202710329714562561 : Unit := ()
def PySem.W.Fast.tw14244123090840900319 : Unit := ()
def PySem.W.Fast.tw17213294862844464687 : Unit := ()
def PySem.W.Fast.tw848641441628295642 : Unit := ()
def PySem.W.Fast.tw9270873599380499004 : Unit := ()
def PySem.W.Fast.tw600742124035390861 : Unit := ()
def PySem.W.Fast.tw16312823380619672229 : Unit := ()
def PySem.W.Fast.tw1320793574871166178 : Unit := ()
def PySem.W.Fast.tw2903158715836245287 : Unit := ()
def PySem.W.Fast.tw8794709181422320437 : Unit := ()
def PySem.W.Fast.tw11639105318246414230 : Unit := ()
def PySem.W.Fast.tw15785177445869273449 : Unit := ()
def PySem.W.Fast.tw16846133924805484220 : Unit := ()
def PySem.W.Fast.tw14280833076739554429 : Unit := ()
def PySem.W.Fast.tw17482721233379048656 : Unit := ()
def PySem.W.Fast.tw2462527653463394908 : Unit := ()
def PySem.W.Fast.tw10611331693533879949 : Unit := ()
def PySem.W.Fast.tw15565356631065397718 : Unit := ()
def PySem.W.Fast.tw8508440251835538404 : Unit := ()
def PySem.W.Fast.tw1680846410721403304 : Unit := ()
def PySem.W.Fast.tw18258315775540064790 : Unit := ()
def PySem.W.Fast.tw18376009126788082913 : Unit := ()
def PySem.W.Fast.tw4686524350187492539 : Unit := ()
def PySem.W.Fast.tw4921467080651975299 : Unit := ()
def PySem.W.Fast.tw4298595940739779625 : Unit := ()
def PySem.W.Fast.tw1330915664180384313 : Unit := ()
def PySem.W.Fast.tw2884885821512623456 : Unit := ()
def PySem.W.Fast.tw7782609272541688539 : Unit := ()
def PySem.W.Fast.tw8044105060048323331 : Unit := ()
def PySem.W.Fast.tw8034531991581489144 : Unit := ()
def PySem.W.Fast.tw14062863236649383088 : Unit := ()
def PySem.W.Fast.tw3036886701276375782 : Unit := ()
def PySem.W.Fast.tw12936025047579260452 : Unit := ()
def PySem.W.Fast.tw16293510238292901448 : Unit := ()
def PySem.W.Fast.tw927669035241934947 : Unit := ()
def PySem.W.Fast.tw7894308083514965864 : Unit := ()
def PySem.W.Fast.tw3277183271136858137 : Unit := ()
def PySem.W.Fast.tw4876890591561715799 : Unit := ()
def PySem.W.Fast.tw10075757120484798604 : Unit := ()
def PySem.W.Fast.tw14894773992738123356 : Unit := ()
def PySem.W.Fast.tw11652579123267396304 : Unit := ()
def PySem.W.Fast.tw12257010768714150663 : Unit := ()
def PySem.W.Fast.tw117435934685171684 : Unit := ()
def PySem.W.Fast.tw13798311400677982638 : Unit := ()
def PySem.W.Fast.tw8551967795800580239 : Unit := ()
def PySem.W.Fast.tw5387656557173153205 : Unit := ()
def PySem.W.Fast.tw8561233611104481883 : Unit := ()
def PySem.W.Fast.tw7338144611916255389 : Unit := ()
def PySem.W.Fast.tw9417388405617419682 : Unit := ()
def PySem.W.Fast.tw1315832402687910137 : Unit := ()
def PySem.W.Fast.tw10233556019644169532 : Unit := ()
def PySem.W.Fast.tw9492401190001476507 : Unit := ()
def PySem.W.Fast.tw18331175836907294006 : Unit := ()
def PySem.W.Fast.tw14062817548405732295 : Unit := ()
def PySem.W.Fast.tw12719413211558978954 : Unit := ()
def PySem.W.Fast.tw13955638659587563983 : Unit := ()
def PySem.W.Fast.tw16281571192060278243 : Unit := ()
def PySem.W.Fast.tw2867252024706979532 : Unit := ()
def PySem.W.Fast.tw18183687205962566834 : Unit := ()
def PySem.W.Fast.tw10572961534438682377 : Unit := ()
def PySem.W.Fast.tw5150259594855981034 : Unit := ()
def PySem.W.Fast.tw5758116046904268441 : Unit := ()
def PySem.W.Fast.tw11393675806950037137 : Unit := ()
def PySem.W.Fast.tw12006466164213888763 : Unit := ()
def PySem.W.Fast.tw10605095588134986712 : Unit := ()
def PySem.W.Fast.tw594477432500428555 : Unit := ()
def PySem.W.Fast.tw4954608692334520115 : Unit := ()
def PySem.W.Fast.tw9758952875542182187 : Unit := ()
def PySem.W.Fast.tw5263565872483467711 : Unit := ()
def PySem.W.Fast.tw18407994245737791190 : Unit := ()
def PySem.W.Fast.tw2773139301442912796 : Unit := ()
def PySem.W.Fast.tw7021200936844755120 : Unit := ()
def PySem.W.Fast.tw8020107177080970391 : Unit := ()
def PySem.W.Fast.tw16267826887149382507 : Unit := ()
def PySem.W.Fast.tw9509919196727579993 : Unit := ()
def PySem.W.Fast.tw14808889482169168175 : Unit := ()
def PySem.W.Fast.tw3127838991397740706 : Unit := ()
def PySem.W.Fast.tw10654499821093600776 : Unit := ()
def PySem.W.Fast.tw665856556848783291 : Unit := ()
def PySem.W.Fast.tw10805148937150548164 : Unit := ()
def PySem.W.Fast.tw11492391265198605924 : Unit := ()
def PySem.W.Fast.tw3453452876573686049 : Unit := ()
def PySem.W.Fast.tw4938513068047311982 : Unit := ()
def PySem.W.Fast.tw7766030925458660388 : Unit := ()
def PySem.W.Fast.tw443912751568000216 : Unit := ()
def PySem.W.Fast.tw11996870595333764702 : Unit := ()
def PySem.W.Fast.tw8712579771953788518 : Unit := ()
def PySem.W.Fast.tw6610563526733785423 : Unit := ()
def PySem.W.Fast.tw8560698967160304449 : Unit := ()
def PySem.W.Fast.tw2790502297604090434 : Unit := ()
def PySem.W.Fast.tw4802654481726907817 : Unit := ()
def PySem.W.Fast.tw1820130599600905705 : Unit := ()
def PySem.W.Fast.tw15147491966016351962 : Unit := ()
def PySem.W.Fast.tw12055315135742617808 : Unit := ()
def PySem.W.Fast.tw14812488545719965981 : Unit := ()
def PySem.W.Fast.tw3893216641123143483 : Unit := ()
def PySem.W.Fast.tw15332266062564203048 : Unit := ()
def PySem.W.Fast.tw11623808882840722208 : Unit := ()
def PySem.W.Fast.tw4461023314639328405 : Unit := ()
def PySem.W.Fast.tw7628870518292221080 : Unit := ()
def PySem.W.Fast.tw4263248334114554311 : Unit := ()
def PySem.W.Fast.tw18156285772150900621 : Unit := ()
def PySem.W.Fast.tw2941227708648357038 : Unit := ()
def PySem.W.Fast.tw14166737643739608423 : Unit := ()
def PySem.W.Fast.tw16074291303311202168 : Unit := ()
def PySem.W.Fast.tw16719065696027820662 : Unit := ()
def PySem.W.Fast.tw1108800760558981323 : Unit := ()
def PySem.W.Fast.tw1927396802768918237 : Unit := ()
def PySem.W.Fast.tw15436532154510088270 : Unit := ()
def PySem.W.Fast.tw5087452304930857449 : Unit := ()
def PySem.W.Fast.tw8116001035236077891 : Unit := ()
def PySem.W.Fast.tw9530552672043999142 : Unit := ()
def PySem.W.Fast.tw14243638708661852018 : Unit := ()
def PySem.W.Fast.tw2034033849091974563 : Unit := ()
def PySem.W.Fast.tw7311771238605305251 : Unit := ()
def PySem.W.Fast.tw934757195684119 : Unit := ()
def PySem.W.Fast.tw12595096496454156628 : Unit := ()
def PySem.W.Fast.tw14636949843820696431 : Unit := ()
def PySem.W.Fast.tw7996004753063544657 : Unit := ()
def PySem.W.Fast.tw9680042149582378352 : Unit := ()
def PySem.W.Fast.tw4637460143869902446 : Unit := ()
def PySem.W.Fast.tw15070069066263621878 : Unit := ()
def PySem.W.Fast.tw9182710466781376563 : Unit := ()
def PySem.W.Fast.tw3739561229960028069 : Unit := ()
def PySem.W.Fast.tw10605711260977505740 : Unit := ()
def PySem.W.Fast.tw7889665538206597412 : Unit := ()
def PySem.W.Fast.tw1212082577952807141 : Unit := ()
def PySem.W.Fast.tw9384472450699119554 : Unit := ()
def PySem.W.Fast.tw4043194617893981645 : Unit := ()
def PySem.W.Fast.tw9670074815942299897 : Unit := ()
def PySem.W.Fast.tw4218927110739745323 : Unit := ()
def PySem.W.Fast.tw3761722043044205706 : Unit := ()
def PySem.W.Fast.tw14998647263809226524 : Unit := ()
def PySem.W.Fast.tw15087739112140908994 : Unit := ()
def PySem.W.Fast.tw9455162680772339244 : Unit := ()
def PySem.W.Fast.tw17931231037840568610 : Unit := ()
def PySem.W.Fast.tw10927718862953210474 : Unit := ()
def PySem.W.Fast.tw2728102540357376323 : Unit := ()
def PySem.W.Fast.tw17647886583056860735 : Unit := ()
def PySem.W.Fast.tw691380336717867551 : Unit := ()
def PySem.W.Fast.tw4022886132037278847 : Unit := ()
def PySem.W.Fast.tw1000473594748025009 : Unit := ()
def PySem.W.Fast.tw3581200540126636392 : Unit := ()
def PySem.W.Fast.tw4058739641543045662 : Unit := ()
def PySem.W.Fast.tw12794349898023067549 : Unit := ()
def PySem.W.Fast.tw8983633340444747617 : Unit := ()
def PySem.W.Fast.tw11096046715025682901 : Unit := ()
def PySem.W.Fast.tw12555499170333266739 : Unit := ()
def PySem.W.Fast.tw16907741743964916620 : Unit := ()
def PySem.W.Fast.tw10820343080308330028 : Unit := ()
def PySem.W.Fast.tw16627179676541741447 : Unit := ()
def PySem.W.Fast.tw3026181024026109880 : Unit := ()
def PySem.W.Fast.tw15031830208493242626 : Unit := ()
def PySem.W.Fast.tw11521500685301164219 : Unit := ()
def PySem.W.Fast.tw11735171820293383621 : Unit := ()
def PySem.W.Fast.tw381828951129715548 : Unit := ()
def PySem.W.Fast.tw6567729200970338764 : Unit := ()
def PySem.W.Fast.tw14761496761818354259 : Unit := ()
def PySem.W.Fast.tw6490759345357222191 : Unit := ()
def PySem.W.Fast.tw1799391366216130794 : Unit := ()
def PySem.W.Fast.tw11902675302527226132 : Unit := ()
def PySem.W.Fast.tw17390834907867715940 : Unit := ()
def PySem.W.Fast.tw8576790668994035861 : Unit := ()
def PySem.W.Fast.tw10188943717775271417 : Unit := ()
def PySem.W.Fast.tw2251814647875117703 : Unit := ()
def PySem.W.Fast.tw14908038619586441515 : Unit := ()
def PySem.W.Fast.tw2211202721710441231 : Unit := ()
def PySem.W.Fast.tw13479896153364752054 : Unit := ()
def PySem.W.Fast.tw14045119507414742988 : Unit := ()
def PySem.W.Fast.tw17946335872857521186 : Unit := ()
def PySem.W.Fast.tw14256264143919251294 : Unit := ()
def PySem.W.Fast.tw12068628919631792851 : Unit := ()
def PySem.W.Fast.tw6048110109225960473 : Unit := ()
def PySem.W.Fast.tw3092162452711305920 : Unit := ()
def PySem.W.Fast.tw6615530676825014080 : Unit := ()
def PySem.W.Fast.tw1247358291253577834 : Unit := ()
def PySem.W.Fast.tw16179374640624885435 : Unit := ()
def PySem.W.Fast.tw2287080736971366148 : Unit := ()
def PySem.W.Fast.tw9393028614614798377 : Unit := ()
def PySem.W.Fast.tw6206772644492230676 : Unit := ()
def PySem.W.Fast.tw12592164480520768357 : Unit := ()
def PySem.W.Fast.tw7336273696145202103 : Unit := ()
def PySem.W.Fast.tw8093586583358128732 : Unit := ()
def PySem.W.Fast.tw15835222325456488406 : Unit := ()
def PySem.W.Fast.tw12302590354950926789 : Unit := ()
def PySem.W.Fast.tw14702298068526401630 : Unit := ()
def PySem.W.Fast.tw9288234202373176346 : Unit := ()
def PySem.W.Fast.tw14248170082477114287 : Unit := ()
def PySem.W.Fast.tw9100578360188368755 : Unit := ()
def PySem.W.Fast.tw10455800610257189623 : Unit := ()
def PySem.W.Fast.tw8045174885533174040 : Unit := ()
def PySem.W.Fast.tw13273722497742105546 : Unit := ()
def PySem.W.Fast.tw4247137808253575960 : Unit := ()
def PySem.W.Fast.tw17774856854701364925 : Unit := ()
def PySem.W.Fast.tw7593873844065578977 : Unit := ()
def PySem.W.Fast.tw7244408725029686615 : Unit := ()
def PySem.W.Fast.tw11568546232782289970 : Unit := ()
def PySem.W.Fast.tw4601854999839440113 : Unit := ()
def PySem.W.Fast.tw112857418294454048 : Unit := ()
def PySem.W.Fast.tw14094516776501539045 : Unit := ()
def PySem.W.Fast.tw7558703063076338535 : Unit := ()
def PySem.W.Fast.tw11057919034578391268 : Unit := ()
def PySem.W.Fast.tw1741353615026340492 : Unit := ()
def PySem.W.Fast.tw11081703264665168616 : Unit := ()
def PySem.W.Fast.tw8164162310269745787 : Unit := ()
def PySem.W.Fast.tw9431463727767929709 : Unit := ()
def PySem.W.Fast.tw8670233010958971514 : Unit := ()
def PySem.W.Fast.tw3629259934319434325 : Unit := ()
def PySem.W.Fast.tw17663923437983072701 : Unit := ()
def PySem.W.Fast.tw12153692427379172828 : Unit := ()
def PySem.W.Fast.tw6328691249653825470 : Unit := ()
def PySem.W.Fast.tw8973479443273344522 : Unit := ()
def PySem.W.Fast.tw7636167421368710134 : Unit := ()
def PySem.W.Fast.tw12165313228677601554 : Unit := ()
def PySem.W.Fast.tw14742233328548078175 : Unit := ()
def PySem.W.Fast.tw1193173517383285487 : Unit := ()
def PySem.W.Fast.tw2137075239944176941 : Unit := ()
def PySem.W.Fast.tw9919290151511825069 : Unit := ()
def PySem.W.Fast.tw6004143198159724622 : Unit := ()
def PySem.W.Fast.tw811756785271239544 : Unit := ()
def PySem.W.Fast.tw2517226922490903438 : Unit := ()
def PySem.W.Fast.tw15347894366422172552 : Unit := ()
def PySem.W.Fast.tw12463925834076709212 : Unit := ()
def PySem.W.Fast.tw6311127838745488099 : Unit := ()
def PySem.W.Fast.tw1920330632487080399 : Unit := ()
def PySem.W.Fast.tw823313004662672843 : Unit := ()
def PySem.W.Fast.tw17641925798643584705 : Unit := ()
def PySem.W.Fast.tw1615977992547707185 : Unit := ()
def PySem.W.Fast.tw4773962513672504630 : Unit := ()
def PySem.W.Fast.tw2043430235451674860 : Unit := ()
def PySem.W.Fast.tw15838873937887716167 : Unit := ()
def PySem.W.Fast.tw1024070065222752486 : Unit := ()
def PySem.W.Fast.tw12717562466545292869 : Unit := ()
def PySem.W.Fast.tw9352815784353831660 : Unit := ()
def PySem.W.Fast.tw4564300803298143203 : Unit := ()
def PySem.W.Fast.tw15139394110819001562 : Unit := ()
def PySem.W.Fast.tw18389947224276970183 : Unit := ()
def PySem.W.Fast.tw12102220337543370962 : Unit := ()
def PySem.W.Fast.tw448286156394228764 : Unit := ()
def PySem.W.Fast.tw14117098058556520386 : Unit := ()
def PySem.W.Fast.tw16761679728766882522 : Unit := ()
def PySem.W.Fast.tw4500641523910556771 : Unit := ()
def PySem.W.Fast.tw5153894104254810556 : Unit := ()
def PySem.W.Fast.tw11936551241719425766 : Unit := ()
def PySem.W.Fast.tw7932377152264207991 : Unit := ()
def PySem.W.Fast.tw4684724405317313456 : Unit := ()
def PySem.W.Fast.tw902990466556349057 : Unit := ()
def PySem.W.Fast.tw17065805007288942932 : Unit := ()
def PySem.W.Fast.tw17202738577527401028 : Unit := ()
def PySem.W.Fast.tw12234242285137850548 : Unit := ()
def PySem.W.Fast.tw15989240617377551195 : Unit := ()
def PySem.W.Fast.tw12378617706858752276 : Unit := ()
def PySem.W.Fast.tw13217212281568917253 : Unit := ()
def PySem.W.Fast.tw10350676813179733250 : Unit := ()
def PySem.W.Fast.tw15621953807071223936 : Unit := ()
def PySem.W.Fast.tw10262122172274383159 : Unit := ()
def PySem.W.Fast.tw14377532854728738031 : Unit := ()
def PySem.W.Fast.tw8060577782718534408 : Unit := ()
def PySem.W.Fast.tw5323551296963926950 : Unit := ()
def PySem.W.Fast.tw3605113196321060622 : Unit := ()
def PySem.W.Fast.tw12449843689888458578 : Unit := ()
def PySem.W.Fast.tw11603886071848471356 : Unit := ()
def PySem.W.Fast.tw14659247786521794928 : Unit := ()
def PySem.W.Fast.tw6075171807987562586 : Unit := ()
def PySem.W.Fast.tw589376364460674224 : Unit := ()
def PySem.W.Fast.tw7810477525529781683 : Unit := ()
def PySem.W.Fast.tw14592419852427757163 : Unit := ()
def PySem.W.Fast.tw15504172760653434683 : Unit := ()
def PySem.W.Fast.tw11261883212971829041 : Unit := ()
def PySem.W.Fast.tw3379147071233775321 : Unit := ()
def PySem.W.Fast.tw3224541144135810492 : Unit := ()
def PySem.W.Fast.tw11283995478196043694 : Unit := ()
def PySem.W.Fast.tw1922905183229571369 : Unit := ()
def PySem.W.Fast.tw8053017696514518321 : Unit := ()
def PySem.W.Fast.tw15655999687707675604 : Unit := ()
def PySem.W.Fast.tw16798361190457795621 : Unit := ()
def PySem.W.Fast.tw6710250364942318484 : Unit := ()
def PySem.W.Fast.tw1112527786656038091 : Unit := ()
def PySem.W.Fast.tw15571729203858654055 : Unit := ()
def PySem.W.Fast.tw15757652169184666115 : Unit := ()
def PySem.W.Fast.tw7452248547909701615 : Unit := ()
def PySem.W.Fast.tw8276112699468799647 : Unit := ()
def PySem.W.Fast.tw10245276348659027510 : Unit := ()
def PySem.W.Fast.tw9428347584195861924 : Unit := ()
def PySem.W.Fast.tw3266517907732297627 : Unit := ()
def PySem.W.Fast.tw9779667886912656492 : Unit := ()
def PySem.W.Fast.tw3583470251963863427 : Unit := ()
def PySem.W.Fast.tw14778478133307749283 : Unit := ()
def PySem.W.Fast.tw10635463608465564079 : Unit := ()
def PySem.W.Fast.tw2442010625938211895 : Unit := ()
def PySem.W.Fast.tw7774963168177063509 : Unit := ()
def PySem.W.Fast.tw2779866928041502404 : Unit := ()
def PySem.W.Fast.tw15791822725105725832 : Unit := ()
def PySem.W.Fast.tw16072448920078122755 : Unit := ()
def PySem.W.Fast.tw4114040342318698991 : Unit := ()
def PySem.W.Fast.tw17031859177888587934 : Unit := ()
def PySem.W.Fast.tw3090044665342530357 : Unit := ()
def PySem.W.Fast.tw5169735833934121814 : Unit := ()
def PySem.W.Fast.tw7884496919011799459 : Unit := ()
def PySem.W.Fast.tw689122635524734662 : Unit := ()
def PySem.W.Fast.tw15352150560507136697 : Unit := ()
def PySem.W.Fast.tw1273892178288425513 : Unit := ()
def PySem.W.Fast.tw15885808570818300013 : Unit := ()
def PySem.W.Fast.tw8013614084599331573 : Unit := ()
def PySem.W.Fast.tw17800772054872197404 : Unit := ()
def PySem.W.Fast.tw12767563985511427265 : Unit := ()
def PySem.W.Fast.tw14707104938605434566 : Unit := ()
def PySem.W.Fast.tw2507434945386630165 : Unit := ()
def PySem.W.Fast.tw10936368834099463773 : Unit := ()
def PySem.W.Fast.tw216558574902819741 : Unit := ()
def PySem.W.Fast.tw11572164500023023978 : Unit := ()
def PySem.W.Fast.tw2681776876373323859 : Unit := ()
def PySem.W.Fast.tw13868622087726164803 : Unit := ()
def PySem.W.Fast.tw1350279841940903501 : Unit := ()
def PySem.W.Fast.tw14845268330495074875 : Unit := ()
def PySem.W.Fast.tw13331080320584835393 : Unit := ()
def PySem.W.Fast.tw10071101671318501503 : Unit := ()
def PySem.W.Fast.tw11148879881909043267 : Unit := ()
def PySem.W.Fast.tw14808841170170763354 : Unit := ()
def PySem.W.Fast.tw15621855573135366571 : Unit := ()
def PySem.W.Fast.tw11761622233108645805 : Unit := ()
def PySem.W.Fast.tw1348051675022331421 : Unit := ()
def PySem.W.Fast.tw2603810223910820085 : Unit := ()
def PySem.W.Fast.tw16656695000903937199 : Unit := ()
def PySem.W.Fast.tw17954935604981645197 : Unit := ()
def PySem.W.Fast.tw103051544671312940 : Unit := ()
def PySem.W.Fast.tw4029893627381490934 : Unit := ()
def PySem.W.Fast.tw93701963757028481 : Unit := ()
def PySem.W.Fast.tw6691661369068760494 : Unit := ()
def PySem.W.Fast.tw6800599160566086565 : Unit := ()
def PySem.W.Fast.tw15029940494938236492 : Unit := ()
def PySem.W.Fast.tw50675054420219490 : Unit := ()
def PySem.W.Fast.tw9351981664434892411 : Unit := ()
def PySem.W.Fast.tw3931702022609764435 : Unit := ()
def PySem.W.Fast.tw7873667160136570733 : Unit := ()
def PySem.W.Fast.tw12425336684836787454 : Unit := ()
def PySem.W.Fast.tw14415450401187110161 : Unit := ()
def PySem.W.Fast.tw710781647705920269 : Unit := ()
def PySem.W.Fast.tw2463987314532767679 : Unit := ()
def PySem.W.Fast.tw270088204521388581 : Unit := ()
def PySem.W.Fast.tw8059759388477099959 : Unit := ()
def PySem.W.Fast.tw11410130606709774319 : Unit := ()
def PySem.W.Fast.tw13456101370629117008 : Unit := ()
def PySem.W.Fast.tw10635733943084120114 : Unit := ()
def PySem.W.Fast.tw2035511028169799333 : Unit := ()
def PySem.W.Fast.tw16296608610721402973 : Unit := ()
def PySem.W.Fast.tw17878197699789385270 : Unit := ()
def PySem.W.Fast.tw12729120732573289152 : Unit := ()
def PySem.W.Fast.tw11822187180911021412 : Unit := ()
def PySem.W.Fast.tw10253392595793549450 : Unit := ()
def PySem.W.Fast.tw15015594224588036513 : Unit := ()
def PySem.W.Fast.tw2656528295751185286 : Unit := ()
def PySem.W.Fast.tw3046111242550679942 : Unit := ()
def PySem.W.Fast.tw7292767800755672445 : Unit := ()
def PySem.W.Fast.tw16154229985718928535 : Unit := ()
def PySem.W.Fast.tw16830848883957760953 : Unit := ()
def PySem.W.Fast.tw11735825697492814654 : Unit := ()
def PySem.W.Fast.tw9859913856768195141 : Unit := ()
def PySem.W.Fast.tw11523930546545527056 : Unit := ()
def PySem.W.Fast.tw11287398871498498577 : Unit := ()
def PySem.W.Fast.tw17614025825232142901 : Unit := ()
def PySem.W.Fast.tw16382596909033496056 : Unit := ()
def PySem.W.Fast.tw10249201422194736777 : Unit := ()
def PySem.W.Fast.tw1919171444737127620 : Unit := ()
def PySem.W.Fast.tw13162660814127620372 : Unit := ()
def PySem.W.Fast.tw4128631846451312856 : Unit := ()
def PySem.W.Fast.tw10833470042076745933 : Unit := ()
def PySem.W.Fast.tw11763807606067702302 : Unit := ()
def PySem.W.Fast.tw4008824348285422794 : Unit := ()
def PySem.W.Fast.tw2630414034975231091 : Unit := ()
def PySem.W.Fast.tw2534345520283140219 : Unit := ()
def PySem.W.Fast.tw4707992922286539816 : Unit := ()
def PySem.W.Fast.tw3365771022846346866 : Unit := ()
def PySem.W.Fast.tw11071794941599303805 : Unit := ()
def PySem.W.Fast.tw6737159809727735816 : Unit := ()
def PySem.W.Fast.tw6794720443998095927 : Unit := ()
def PySem.W.Fast.tw1774662048279499379 : Unit := ()
def PySem.W.Fast.tw13311459526076330325 : Unit := ()
def PySem.W.Fast.tw16599909192118022724 : Unit := ()
def PySem.W.Fast.tw12081526786143494611 : Unit := ()
def PySem.W.Fast.tw17583422355133589836 : Unit := ()
def PySem.W.Fast.tw14985258989222778705 : Unit := ()
def PySem.W.Fast.tw6876867140829722422 : Unit := ()
def PySem.W.Fast.tw8155632062693195817 : Unit := ()
def PySem.W.Fast.tw13602699757092122707 : Unit := ()
def PySem.W.Fast.tw3928053345948484022 : Unit := ()
def PySem.W.Fast.tw8215179480974865718 : Unit := ()
def PySem.W.Fast.tw8306950783917711314 : Unit := ()
def PySem.W.Fast.tw12284943590492506062 : Unit := ()
def PySem.W.Fast.tw12320937491788332608 : Unit := ()
def PySem.W.Fast.tw3170017426593734705 : Unit := ()
def PySem.W.Fast.tw4759553370907900309 : Unit := ()
def PySem.W.Fast.tw567984391081997972 : Unit := ()
def PySem.W.Fast.tw9894047417013881879 : Unit := ()
def PySem.W.Fast.tw2124411253790253703 : Unit := ()
def PySem.W.Fast.tw14962780999794080059 : Unit := ()
def PySem.W.Fast.tw9565028637101537039 : Unit := ()
def PySem.W.Fast.tw9586449731999022005 : Unit := ()
def PySem.W.Fast.tw9855576599456471930 : Unit := ()
def PySem.W.Fast.tw13462441270763462775 : Unit := ()
def PySem.W.Fast.tw2412992022034451456 : Unit := ()
def PySem.W.Fast.tw12831627815544076282 : Unit := ()
def PySem.W.Fast.tw804136147893529381 : Unit := ()
def PySem.W.Fast.tw8459871008652886985 : Unit := ()
def PySem.W.Fast.tw10870745066628831344 : Unit := ()
def PySem.W.Fast.tw4469579159544002440 : Unit := ()
def PySem.W.Fast.tw15687016345888038070 : Unit := ()
def PySem.W.Fast.tw14609178920721329950 : Unit := ()
def PySem.W.Fast.tw14223304833885432581 : Unit := ()
def PySem.W.Fast.tw160734686237474723 : Unit := ()
def PySem.W.Fast.tw6288957955347238804 : Unit := ()
def PySem.W.Fast.tw6494295966128906859 : Unit := ()
def PySem.W.Fast.tw2483390475025492763 : Unit := ()
def PySem.W.Fast.tw7890274283324654167 : Unit := ()
def PySem.W.Fast.tw10971400099621546327 : Unit := ()
def PySem.W.Fast.tw2111906383993678572 : Unit := ()
def PySem.W.Fast.tw16772059136296382218 : Unit := ()
def PySem.W.Fast.tw13603164866504726705 : Unit := ()
def PySem.W.Fast.tw872157256731138663 : Unit := ()
def PySem.W.Fast.tw14879000304422487370 : Unit := ()
def PySem.W.Fast.tw15099512621022655317 : Unit := ()
def PySem.W.Fast.tw2453370756710085902 : Unit := ()
def PySem.W.Fast.tw17812278247221577785 : Unit := ()
def PySem.W.Fast.tw3269490648687975213 : Unit := ()
def PySem.W.Fast.tw8708567171580222083 : Unit := ()
def PySem.W.Fast.tw3105954582842230234 : Unit := ()
def PySem.W.Fast.tw6448418064153101266 : Unit := ()
def PySem.W.Fast.tw8208634202281565385 : Unit := ()
def PySem.W.Fast.tw3250787012739881787 : Unit := ()
def PySem.W.Fast.tw10653403756901879784 : Unit := ()
def PySem.W.Fast.tw10679923130022754636 : Unit := ()
def PySem.W.Fast.tw17137181061023410756 : Unit := ()
def PySem.W.Fast.tw3372518412293278427 : Unit := ()
def PySem.W.Fast.tw3239974500972463590 : Unit := ()
def PySem.W.Fast.tw10777396397636460157 : Unit := ()
def PySem.W.Fast.tw11266541211233509016 : Unit := ()
def PySem.W.Fast.tw4350861765521939318 : Unit := ()
def PySem.W.Fast.tw12286576665546512420 : Unit := ()
def PySem.W.Fast.tw5550950134174230904 : Unit := ()
def PySem.W.Fast.tw16074047131255809348 : Unit := ()
def PySem.W.Fast.tw2234973543934181377 : Unit := ()
def PySem.W.Fast.tw1098130819754562203 : Unit := ()
def PySem.W.Fast.tw1132970189591117546 : Unit := ()
def PySem.W.Fast.tw10146046907235516483 : Unit := ()
def PySem.W.Fast.tw1914903797301599641 : Unit := ()
def PySem.W.Fast.tw6100383201770153483 : Unit := ()
def PySem.W.Fast.tw1411413723561161934 : Unit := ()
def PySem.W.Fast.tw17816595386973880433 : Unit := ()
def PySem.W.Fast.tw6721157812151670186 : Unit := ()
def PySem.W.Fast.tw11148008229390526751 : Unit := ()
def PySem.W.Fast.tw13928264965288986788 : Unit := ()
def PySem.W.Fast.tw1816951678531125491 : Unit := ()
def PySem.W.Fast.tw9244524829149845890 : Unit := ()
def PySem.W.Fast.tw9987618703585435764 : Unit := ()
def PySem.W.Fast.tw2205952499209404369 : Unit := ()
def PySem.W.Fast.tw11148147293895674742 : Unit := ()
def PySem.W.Fast.tw6834496237354981304 : Unit := ()
def PySem.W.Fast.tw16834641397368930742 : Unit := ()
def PySem.W.Fast.tw9522713022061972470 : Unit := ()
def PySem.W.Fast.tw6821280982677167778 : Unit := ()
def PySem.W.Fast.tw8215034944388483677 : Unit := ()
def PySem.W.Fast.tw8649218970211304400 : Unit := ()
def PySem.W.Fast.tw11310180685771094396 : Unit := ()
def PySem.W.Fast.tw3898592257297338221 : Unit := ()
def PySem.W.Fast.tw13126731540958148573 : Unit := ()
def PySem.W.Fast.tw16047734247538125932 : Unit := ()
def PySem.W.Fast.tw15472963012862799814 : Unit := ()
def PySem.W.Fast.tw8253064033994343155 : Unit := ()
def PySem.W.Fast.tw12216562456941647107 : Unit := ()
def PySem.W.Fast.tw10547051015019480749 : Unit := ()
def PySem.W.Fast.tw17312943686045733318 : Unit := ()
def PySem.W.Fast.tw10503636785340323406 : Unit := ()
def PySem.W.Fast.tw10147899206013101801 : Unit := ()
def PySem.W.Fast.tw1400032433439409411 : Unit := ()
def PySem.W.Fast.tw1161206661780766186 : Unit := ()
def PySem.W.Fast.tw2491805983465902550 : Unit := ()
def PySem.W.Fast.tw9884383686780504081 : Unit := ()
def PySem.W.Fast.tw17374190089307631283 : Unit := ()
def PySem.W.Fast.tw17555983022913459158 : Unit := ()
def PySem.W.Fast.tw6607719516742438687 : Unit := ()
def PySem.W.Fast.tw12509608894982880308 : Unit := ()
def PySem.W.Fast.tw1409572663395024365 : Unit := ()
def PySem.W.Fast.tw11929742530456672064 : Unit := ()
def PySem.W.Fast.tw5832398037591092885 : Unit := ()
def PySem.W.Fast.tw3742062792968679663 : Unit := ()
def PySem.W.Fast.tw4290041746407292682 : Unit := ()
def PySem.W.Fast.tw11304420832373738714 : Unit := ()
def PySem.W.Fast.tw18115795086884501972 : Unit := ()
def PySem.W.Fast.tw3948687001005704205 : Unit := ()
def PySem.W.Fast.tw3604919281962398271 : Unit := ()
def PySem.W.Fast.tw1436429760076914489 : Unit := ()
def PySem.W.Fast.tw14115782908242076308 : Unit := ()
def PySem.W.Fast.tw65988143902934653 : Unit := ()
def PySem.W.Fast.tw11007581638083111111 : Unit := ()
def PySem.W.Fast.tw2487958511036194031 : Unit := ()
def PySem.W.Fast.tw1490002364927089820 : Unit := ()
def PySem.W.Fast.tw3133994535624545778 : Unit := ()
def PySem.W.Fast.tw7396255855857685435 : Unit := ()
def PySem.W.Fast.tw11598586558603533551 : Unit := ()
def PySem.W.Fast.tw7964955785941623634 : Unit := ()
def PySem.W.Fast.tw11048372758084777108 : Unit := ()
def PySem.W.Fast.tw6365232416322854284 : Unit := ()
def PySem.W.Fast.tw1663412354711848155 : Unit := ()
def PySem.W.Fast.tw3607760452041923562 : Unit := ()
def PySem.W.Fast.tw2538063863864243126 : Unit := ()
def PySem.W.Fast.tw15168846072081563224 : Unit := ()
def PySem.W.Fast.tw4250350784892931353 : Unit := ()
def PySem.W.Fast.tw6593986027053961026 : Unit := ()
def PySem.W.Fast.tw16977676575820276637 : Unit := ()
def PySem.W.Fast.tw5899479504830667113 : Unit := ()
def PySem.W.Fast.tw11243455902148563849 : Unit := ()
def PySem.W.Fast.tw4897953870011774374 : Unit := ()
def PySem.W.Fast.tw18027805069636912648 : Unit := ()
def PySem.W.Fast.tw7148948170374812536 : Unit := ()
def PySem.W.Fast.tw14621942438148785030 : Unit := ()
def PySem.W.Fast.tw14769637519284302217 : Unit := ()
def PySem.W.Fast.tw626021615097601683 : Unit := ()
def PySem.W.Fast.tw11801344969726856995 : Unit := ()
def PySem.W.Fast.tw3763395383311576611 : Unit := ()
def PySem.W.Fast.tw1599262367237883839 : Unit := ()
def PySem.W.Fast.tw13120167554464869937 : Unit := ()
def PySem.W.Fast.tw15885273507760632517 : Unit := ()
def PySem.W.Fast.tw13073779368193259562 : Unit := ()
def PySem.W.Fast.tw295514444222701001 : Unit := ()
def PySem.W.Fast.tw14834497389180210488 : Unit := ()
def PySem.W.Fast.tw7310069069011208886 : Unit := ()
def PySem.W.Fast.tw12796903911242411112 : Unit := ()
def PySem.W.Fast.tw1773564082168652112 : Unit := ()
def PySem.W.Fast.tw3608305580300258694 : Unit := ()
def PySem.W.Fast.tw14528180398914375420 : Unit := ()
def PySem.W.Fast.tw14433447819311118723 : Unit := ()
def PySem.W.Fast.tw5173525925293723770 : Unit := ()
def PySem.W.Fast.tw11538194346935585459 : Unit := ()
def PySem.W.Fast.tw8655531881410650041 : Unit := ()
def PySem.W.Fast.tw6422399325988452707 : Unit := ()
def PySem.W.Fast.tw17553855175442663553 : Unit := ()
def PySem.W.Fast.tw8290666509318472440 : Unit := ()
def PySem.W.Fast.tw4653399385804556914 : Unit := ()
def PySem.W.Fast.tw9797871469384411115 : Unit := ()
def PySem.W.Fast.tw4325834669927846633 : Unit := ()
def PySem.W.Fast.tw14156034851255133143 : Unit := ()
def PySem.W.Fast.tw4404773690717872669 : Unit := ()
def PySem.W.Fast.tw2189780461504452284 : Unit := ()
def PySem.W.Fast.tw17610065202826927458 : Unit := ()
def PySem.W.Fast.tw13280301219376529310 : Unit := ()
def PySem.W.Fast.tw17860604910327440378 : Unit := ()
def PySem.W.Fast.tw16726335535027208904 : Unit := ()
def PySem.W.Fast.tw7756776827865777528 : Unit := ()
def PySem.W.Fast.tw15688595353092920077 : Unit := ()
def PySem.W.Fast.tw4568619135488117847 : Unit := ()
def PySem.W.Fast.tw17616618018428302950 : Unit := ()
def PySem.W.Fast.tw13953984147678658047 : Unit := ()
def PySem.W.Fast.tw947238927371074555 : Unit := ()
def PySem.W.Fast.tw10777897451790383941 : Unit := ()
def PySem.W.Fast.tw11545905330249075406 : Unit := ()
def PySem.W.Fast.tw4562907656113176257 : Unit := ()
def PySem.W.Fast.tw14379836056691515932 : Unit := ()
def PySem.W.Fast.tw5379512118608241999 : Unit := ()
def PySem.W.Fast.tw18414912189651794627 : Unit := ()
def PySem.W.Fast.tw9525362020174507525 : Unit := ()
def PySem.W.Fast.tw9272068768700831507 : Unit := ()
def PySem.W.Fast.tw11864922897147601810 : Unit := ()
def PySem.W.Fast.tw16572052249052372662 : Unit := ()
def PySem.W.Fast.tw6440224458941869810 : Unit := ()
def PySem.W.Fast.tw15496490100808843829 : Unit := ()
def PySem.W.Fast.tw7643810942722714592 : Unit := ()
def PySem.W.Fast.tw18086341043190652104 : Unit := ()
def PySem.W.Fast.tw11150847891736595048 : Unit := ()
def PySem.W.Fast.tw7802458219242160126 : Unit := ()
def PySem.W.Fast.tw16832116078844365698 : Unit := ()
def PySem.W.Fast.tw3559266615480415978 : Unit := ()
def PySem.W.Fast.tw458725903884344113 : Unit := ()
def PySem.W.Fast.tw8103523980409733707 : Unit := ()
def PySem.W.Fast.tw16093401862935789630 : Unit := ()
def PySem.W.Fast.tw12084617389172899467 : Unit := ()
def PySem.W.Fast.tw10231968405939728457 : Unit := ()
def PySem.W.Fast.tw5239758758919225934 : Unit := ()
def PySem.W.Fast.tw1276773711353367565 : Unit := ()
def PySem.W.Fast.tw14594286110663371192 : Unit := ()
def PySem.W.Fast.tw14938672035981347657 : Unit := ()
def PySem.W.Fast.tw11271820178365996201 : Unit := ()
def PySem.W.Fast.tw15510173085424216159 : Unit := ()
def PySem.W.Fast.tw4684955037705707497 : Unit := ()
def PySem.W.Fast.tw4416692743287908731 : Unit := ()
def PySem.W.Fast.tw8601899004091697171 : Unit := ()
def PySem.W.Fast.tw11258174556638123004 : Unit := ()
def PySem.W.Fast.tw11848267145020626860 : Unit := ()
def PySem.W.Fast.tw15231848955394852017 : Unit := ()
def PySem.W.Fast.tw5475773422883452701 : Unit := ()
def PySem.W.Fast.tw13894369173077135027 : Unit := ()
def PySem.W.Fast.tw15117744376104285111 : Unit := ()
def PySem.W.Fast.tw12630632459048891627 : Unit := ()
def PySem.W.Fast.tw2053376846308086989 : Unit := ()
def PySem.W.Fast.tw15875281399389548022 : Unit := ()
def PySem.W.Fast.tw12536514784821036604 : Unit := ()
def PySem.W.Fast.tw9779998153224760064 : Unit := ()
def PySem.W.Fast.tw13316671220245332257 : Unit := ()
def PySem.W.Fast.tw14960263982194821046 : Unit := ()
def PySem.W.Fast.tw14440555223201953694 : Unit := ()
def PySem.W.Fast.tw17779833921198030234 : Unit := ()
def PySem.W.Fast.tw9180555479891954832 : Unit := ()
def PySem.W.Fast.tw5004913972180524835 : Unit := ()
def PySem.W.Fast.tw8724836261210483105 : Unit := ()
def PySem.W.Fast.tw10556230091734078697 : Unit := ()
def PySem.W.Fast.tw14179117895545631538 : Unit := ()
def PySem.W.Fast.tw4339169123882646687 : Unit := ()
def PySem.W.Fast.tw15921093224492631924 : Unit := ()
def PySem.W.Fast.tw8938065857760860153 : Unit := ()
def PySem.W.Fast.tw15852959422786322356 : Unit := ()
def PySem.W.Fast.tw16025061498504515490 : Unit := ()
def PySem.W.Fast.tw7858432160998713440 : Unit := ()
def PySem.W.Fast.tw11846211982504116110 : Unit := ()
def PySem.W.Fast.tw2114011890331601907 : Unit := ()
def PySem.W.Fast.tw4254855184569528145 : Unit := ()
def PySem.W.Fast.tw17943521070157474443 : Unit := ()
def PySem.W.Fast.tw5323139735835180699 : Unit := ()
def PySem.W.Fast.tw5876853181497463468 : Unit := ()
def PySem.W.Fast.tw12737832747741394086 : Unit := ()
def PySem.W.Fast.tw72887442352129140 : Unit := ()
def PySem.W.Fast.tw1827129872045373449 : Unit := ()
def PySem.W.Fast.tw17266628401225085317 : Unit := ()
def PySem.W.Fast.tw13197654605359456510 : Unit := ()
def PySem.W.Fast.tw1068800136473188397 : Unit := ()
def PySem.W.Fast.tw17481042963039178959 : Unit := ()
def PySem.W.Fast.tw10190096338941628383 : Unit := ()
def PySem.W.Fast.tw17444885920249605755 : Unit := ()
def PySem.W.Fast.tw10299326548639872081 : Unit := ()
def PySem.W.Fast.tw4084135367821157180 : Unit := ()
def PySem.W.Fast.tw13617234137158620469 : Unit := ()
def PySem.W.Fast.tw2246384914792234662 : Unit := ()
def PySem.W.Fast.tw16973738356375164121 : Unit := ()
def PySem.W.Fast.tw14848847042362610690 : Unit := ()
def PySem.W.Fast.tw12890207396147720857 : Unit := ()
def PySem.W.Fast.tw17487721692771321547 : Unit := ()
def PySem.W.Fast.tw13579549045424272869 : Unit := ()
def PySem.W.Fast.tw12056584536868776752 : Unit := ()
def PySem.W.Fast.tw10935254341755261692 : Unit := ()
def PySem.W.Fast.tw15847965440664579248 : Unit := ()
def PySem.W.Fast.tw4934339720013588514 : Unit := ()
def PySem.W.Fast.tw10268129958717516678 : Unit := ()
def PySem.W.Fast.tw7383896068935333267 : Unit := ()
def PySem.W.Fast.tw2554003283162888457 : Unit := ()
def PySem.W.Fast.tw16819897224797039704 : Unit := ()
def PySem.W.Fast.tw17026790698115341629 : Unit := ()
def PySem.W.Fast.tw18174735147905112395 : Unit := ()
def PySem.W.Fast.tw8528655841394967516 : Unit := ()
def PySem.W.Fast.tw15521290152026750929 : Unit := ()
def PySem.W.Fast.tw3744244281510367100 : Unit := ()
def PySem.W.Fast.tw8858736678927699600 : Unit := ()
def PySem.W.Fast.tw18386112345011116736 : Unit := ()
def PySem.W.Fast.tw1141755832253209780 : Unit := ()
def PySem.W.Fast.tw7055131990574516075 : Unit := ()
def PySem.W.Fast.tw9337467994840110463 : Unit := ()
def PySem.W.Fast.tw10078380520705192583 : Unit := ()
def PySem.W.Fast.tw17633497071243406007 : Unit := ()
def PySem.W.Fast.tw9508741233404241012 : Unit := ()
def PySem.W.Fast.tw13380529551285698863 : Unit := ()
def PySem.W.Fast.tw16804090809813667760 : Unit := ()
def PySem.W.Fast.tw9105038339821769889 : Unit := ()
def PySem.W.Fast.tw8914711852988549400 : Unit := ()
def PySem.W.Fast.tw3364519643743795164 : Unit := ()
def PySem.W.Fast.tw14426373994182527329 : Unit := ()
def PySem.W.Fast.tw12380993081934404015 : Unit := ()
def PySem.W.Fast.tw1214418396229306360 : Unit := ()
def PySem.W.Fast.tw9358242412099899985 : Unit := ()
def PySem.W.Fast.tw15042791155140750784 : Unit := ()
def PySem.W.Fast.tw8426877244497811637 : Unit := ()
def PySem.W.Fast.tw8850966675632471553 : Unit := ()
def PySem.W.Fast.tw9190855293150445501 : Unit := ()
def PySem.W.Fast.tw13610750324437959778 : Unit := ()
def PySem.W.Fast.tw4460264712065797273 : Unit := ()
def PySem.W.Fast.tw1619025380738930343 : Unit := ()
def PySem.W.Fast.tw10678797176540363160 : Unit := ()
def PySem.W.Fast.tw6721130074108381907 : Unit := ()
def PySem.W.Fast.tw15810658267568652443 : Unit := ()
def PySem.W.Fast.tw11699236209323185846 : Unit := ()
def PySem.W.Fast.tw7089383120987086073 : Unit := ()
def PySem.W.Fast.tw8120683062016868591 : Unit := ()
def PySem.W.Fast.tw6765560211497802077 : Unit := ()
def PySem.W.Fast.tw10610708606377155302 : Unit := ()
def PySem.W.Fast.tw16096160828755999296 : Unit := ()
def PySem.W.Fast.tw4124488543926377242 : Unit := ()
def PySem.W.Fast.tw4580742057595014665 : Unit := ()
def PySem.W.Fast.tw11199198859767380443 : Unit := ()
def PySem.W.Fast.tw12543225797713351487 : Unit := ()
def PySem.W.Fast.tw11644753400246508683 : Unit := ()
def PySem.W.Fast.tw15017604881493826330 : Unit := ()
def PySem.W.Fast.tw17143991416032254190 : Unit := ()
def PySem.W.Fast.tw13695220137839062945 : Unit := ()
def PySem.W.Fast.tw16345527077585355994 : Unit := ()
def PySem.W.Fast.tw1041959426990116911 : Unit := ()
def PySem.W.Fast.tw730591080401414594 : Unit := ()
def PySem.W.Fast.tw17433283723886185018 : Unit := ()
def PySem.W.Fast.tw12185519137683651437 : Unit := ()
def PySem.W.Fast.tw2122570804888829877 : Unit := ()
def PySem.W.Fast.tw14422345610725918682 : Unit := ()
def PySem.W.Fast.tw15606485292968900746 : Unit := ()
def PySem.W.Fast.tw1594338941787288136 : Unit := ()
def PySem.W.Fast.tw6299141374489078357 : Unit := ()
def PySem.W.Fast.tw11070121481429248092 : Unit := ()
def PySem.W.Fast.tw6399353822325311982 : Unit := ()
def PySem.W.Fast.tw4403733649998320698 : Unit := ()
def PySem.W.Fast.tw11031301658215693489 : Unit := ()
def PySem.W.Fast.tw8712026518521714838 : Unit := ()
def PySem.W.Fast.tw1302219346820784460 : Unit := ()
def PySem.W.Fast.tw646030843642852246 : Unit := ()
def PySem.W.Fast.tw8712765553542619661 : Unit := ()
def PySem.W.Fast.tw5473128125932596227 : Unit := ()
def PySem.W.Fast.tw16185043880576983886 : Unit := ()
def PySem.W.Fast.tw3273808730227028916 : Unit := ()
def PySem.W.Fast.tw3755786181207956585 : Unit := ()
def PySem.W.Fast.tw16951104520375253324 : Unit := ()
def PySem.W.Fast.tw15494075173350475376 : Unit := ()
def PySem.W.Fast.tw7965639141431653864 : Unit := ()
def PySem.W.Fast.tw10851202586198735958 : Unit := ()
def PySem.W.Fast.tw16040738708386788189 : Unit := ()
def PySem.W.Fast.tw2800745578572063952 : Unit := ()
def PySem.W.Fast.tw6301173423924776912 : Unit := ()
def PySem.W.Fast.tw4937827802554399431 : Unit := ()
def PySem.W.Fast.tw10091292290570008763 : Unit := ()
def PySem.W.Fast.tw4091360622543608715 : Unit := ()
def PySem.W.Fast.tw2300919129370950308 : Unit := ()
def PySem.W.Fast.tw7729087868039863252 : Unit := ()
def PySem.W.Fast.tw9560082294275812190 : Unit := ()
def PySem.W.Fast.tw3325714165843359892 : Unit := ()
def PySem.W.Fast.tw3327111953054626225 : Unit := ()
def PySem.W.Fast.tw17363311987162825251 : Unit := ()
def PySem.W.Fast.tw11941877558475910946 : Unit := ()
def PySem.W.Fast.tw13682381557817999962 : Unit := ()
def PySem.W.Fast.tw15787920805877377113 : Unit := ()
def PySem.W.Fast.tw4679004432243125732 : Unit := ()
def PySem.W.Fast.tw9052510887865957611 : Unit := ()
def PySem.W.Fast.tw6480086651574854581 : Unit := ()
def PySem.W.Fast.tw5663348275520993873 : Unit := ()
def PySem.W.Fast.tw13299821425752188534 : Unit := ()
def PySem.W.Fast.tw17418543930163672048 : Unit := ()
def PySem.W.Fast.tw11463029851636316459 : Unit := ()
def PySem.W.Fast.tw11610023082228704398 : Unit := ()
def PySem.W.Fast.tw323520792554062104 : Unit := ()
def PySem.W.Fast.tw7175222072085470707 : Unit := ()
def PySem.W.Fast.tw9143837673567073397 : Unit := ()
def PySem.W.Fast.tw1469278665997918910 : Unit := ()
def PySem.W.Fast.tw12948096962735104055 : Unit := ()
def PySem.W.Fast.tw6191572920879069186 : Unit := ()
def PySem.W.Fast.tw2841217750024481679 : Unit := ()
def PySem.W.Fast.tw5026246165338106320 : Unit := ()
def PySem.W.Fast.tw4461787828723982036 : Unit := ()
def PySem.W.Fast.tw9050621799756879657 : Unit := ()
def PySem.W.Fast.tw6449405167041267386 : Unit := ()
def PySem.W.Fast.tw3870516906268068796 : Unit := ()
def PySem.W.Fast.tw15472275545992484691 : Unit := ()
def PySem.W.Fast.tw13981638407597192244 : Unit := ()
def PySem.W.Fast.tw757042045972804873 : Unit := ()
def PySem.W.Fast.tw17082204970535403049 : Unit := ()
def PySem.W.Fast.tw11147121020860509964 : Unit := ()
def PySem.W.Fast.tw3481225838795451230 : Unit := ()
def PySem.W.Fast.tw683474461448515358 : Unit := ()
def PySem.W.Fast.tw14812005433154019725 : Unit := ()
def PySem.W.Fast.tw6035028626210487109 : Unit := ()
def PySem.W.Fast.tw14598442630317638492 : Unit := ()
def PySem.W.Fast.tw5763869221964552753 : Unit := ()
def PySem.W.Fast.tw15236918807525474308 : Unit := ()
def PySem.W.Fast.tw7662229185573713372 : Unit := ()
def PySem.W.Fast.tw10043195491707190810 : Unit := ()
def PySem.W.Fast.tw17909675194448555201 : Unit := ()
def PySem.W.Fast.tw14318527999753821113 : Unit := ()
def PySem.W.Fast.tw10578698906594742768 : Unit := ()
def PySem.W.Fast.tw14777707122615883028 : Unit := ()
def PySem.W.Fast.tw4759027569369997610 : Unit := ()
def PySem.W.Fast.tw2861585606194710295 : Unit := ()
def PySem.W.Fast.tw9201562701475087563 : Unit := ()
def PySem.W.Fast.tw7081319282995842495 : Unit := ()
def PySem.W.Fast.tw149770631215391815 : Unit := ()
def PySem.W.Fast.tw12932200115622704325 : Unit := ()
def PySem.W.Fast.tw2704785669205562077 : Unit := ()
def PySem.W.Fast.tw3873711200166159663 : Unit := ()
def PySem.W.Fast.tw4633661641610768889 : Unit := ()
def PySem.W.Fast.tw2022676505903878462 : Unit := ()
def PySem.W.Fast.tw366785326722713057 : Unit := ()
def PySem.W.Fast.tw11584618210517797649 : Unit := ()
def PySem.W.Fast.tw9140636657949034874 : Unit := ()
def PySem.W.Fast.tw2599586316699111530 : Unit := ()
def PySem.W.Fast.tw4866435212839300883 : Unit := ()
def PySem.W.Fast.tw12742727350368499286 : Unit := ()
def PySem.W.Fast.tw5376110373853199114 : Unit := ()
def PySem.W.Fast.tw16308644089715375727 : Unit := ()
def PySem.W.Fast.tw5732270515618693123 : Unit := ()
def PySem.W.Fast.tw1573035577678229981 : Unit := ()
def PySem.W.Fast.tw10221456439069419885 : Unit := ()
def PySem.W.Fast.tw7958955206457988759 : Unit := ()
def PySem.W.Fast.tw13768691430974627163 : Unit := ()
def PySem.W.Fast.tw17042990910205748103 : Unit := ()
def PySem.W.Fast.tw6158900487400420468 : Unit := ()
def PySem.W.Fast.tw15734003697032353017 : Unit := ()
def PySem.W.Fast.tw2628012296299459101 : Unit := ()
def PySem.W.Fast.tw5233769036800459995 : Unit := ()
def PySem.W.Fast.tw6123189958266543655 : Unit := ()
def PySem.W.Fast.tw5347071750622844039 : Unit := ()
def PySem.W.Fast.tw16016855157840940689 : Unit := ()
def PySem.W.Fast.tw4246226099254774008 : Unit := ()
def PySem.W.Fast.tw3768793566033169436 : Unit := ()
def PySem.W.Fast.tw10783721293051519959 : Unit := ()
def PySem.W.Fast.tw9766942270032641870 : Unit := ()
def PySem.W.Fast.tw17617626795193352896 : Unit := ()
def PySem.W.Fast.tw1359287949854619377 : Unit := ()
def PySem.W.Fast.tw12906386836254103313 : Unit := ()
def PySem.W.Fast.tw5839366655531526758 : Unit := ()
def PySem.W.Fast.tw14419689819418598069 : Unit := ()
def PySem.W.Fast.tw9157933442276173744 : Unit := ()
def PySem.W.Fast.tw15752951440833628040 : Unit := ()
def PySem.W.Fast.tw10667874324071303924 : Unit := ()
def PySem.W.Fast.tw8893081844024727788 : Unit := ()
def PySem.W.Fast.tw10149831208892473963 : Unit := ()
def PySem.W.Fast.tw15016141312115936914 : Unit := ()
def PySem.W.Fast.tw406131048211939795 : Unit := ()
def PySem.W.Fast.tw10826956548920703103 : Unit := ()
def PySem.W.Fast.tw16033419483242805836 : Unit := ()
def PySem.W.Fast.tw3215421193909235912 : Unit := ()
def PySem.W.Fast.tw14031324348947903855 : Unit := ()
def PySem.W.Fast.tw3433137173883418346 : Unit := ()
def PySem.W.Fast.tw15868373693561402507 : Unit := ()
def PySem.W.Fast.tw18139275989625826950 : Unit := ()
def PySem.W.Fast.tw4165761954926716214 : Unit := ()
def PySem.W.Fast.tw13694572844843099717 : Unit := ()
def PySem.W.Fast.tw13122028939173381364 : Unit := ()
def PySem.W.Fast.tw3304553651856169440 : Unit := ()
def PySem.W.Fast.tw7656007768206040008 : Unit := ()
def PySem.W.Fast.tw12409474739765194338 : Unit := ()
def PySem.W.Fast.tw1380011061603871092 : Unit := ()
def PySem.W.Fast.tw15712893133797963860 : Unit := ()
def PySem.W.Fast.tw7499300440418044360 : Unit := ()
def PySem.W.Fast.tw10336212549111838180 : Unit := ()
def PySem.W.Fast.tw15678635092750584364 : Unit := ()
def PySem.W.Fast.tw1730510693161251889 : Unit := ()
def PySem.W.Fast.tw6737602844377623395 : Unit := ()
def PySem.W.Fast.tw14374944757226883361 : Unit := ()
def PySem.W.Fast.tw10847721042184647719 : Unit := ()
def PySem.W.Fast.tw17684974379261858205 : Unit := ()
def PySem.W.Fast.tw13652490870571547199 : Unit := ()
def PySem.W.Fast.tw475007064420774916 : Unit := ()
def PySem.W.Fast.tw7743350606359204444 : Unit := ()
def PySem.W.Fast.tw15012821919031735682 : Unit := ()
def PySem.W.Fast.tw4630428672415125292 : Unit := ()
def PySem.W.Fast.tw15887464959720273475 : Unit := ()
def PySem.W.Fast.tw9815015236398612652 : Unit := ()
def PySem.W.Fast.tw5245527132072538707 : Unit := ()
def PySem.W.Fast.tw10215217047242112051 : Unit := ()
def PySem.W.Fast.tw16393037145133334229 : Unit := ()
def PySem.W.Fast.tw10671949280759532926 : Unit := ()
def PySem.W.Fast.tw4547033328962113615 : Unit := ()
def PySem.W.Fast.tw14270941821880694231 : Unit := ()
def PySem.W.Fast.tw3059069774843552109 : Unit := ()
def PySem.W.Fast.tw6939818709787467622 : Unit := ()
def PySem.W.Fast.tw14079064294225146291 : Unit := ()
def PySem.W.Fast.tw7033039810880937083 : Unit := ()
def PySem.W.Fast.tw14435680602632673161 : Unit := ()
def PySem.W.Fast.tw15678123125418164777 : Unit := ()
def PySem.W.Fast.tw8858272939802120893 : Unit := ()
def PySem.W.Fast.tw4057194865511266087 : Unit := ()
def PySem.W.Fast.tw13183147293006007735 : Unit := ()
def PySem.W.Fast.tw11018364877056158935 : Unit := ()
def PySem.W.Fast.tw17336992040503201624 : Unit := ()
def PySem.W.Fast.tw8831698038890434792 : Unit := ()
def PySem.W.Fast.tw8443298389076849636 : Unit := ()
def PySem.W.Fast.tw8146966024743448839 : Unit := ()
def PySem.W.Fast.tw2441124019858957201 : Unit := ()
def PySem.W.Fast.tw6998072268935491644 : Unit := ()
def PySem.W.Fast.tw13917696531350497025 : Unit := ()
def PySem.W.Fast.tw668463930642493631 : Unit := ()
def PySem.W.Fast.tw16889208428676602416 : Unit := ()
def PySem.W.Fast.tw9967346426883008586 : Unit := ()
def PySem.W.Fast.tw6943294911141039399 : Unit := ()
def PySem.W.Fast.tw16848146040275087522 : Unit := ()
def PySem.W.Fast.tw8691477103492192542 : Unit := ()
def PySem.W.Fast.tw8752561142415493733 : Unit := ()
def PySem.W.Fast.tw10368346746857733091 : Unit := ()
def PySem.W.Fast.tw3702603761669774851 : Unit := ()
def PySem.W.Fast.tw3119252964342772032 : Unit := ()
def PySem.W.Fast.tw2287291303133794251 : Unit := ()
def PySem.W.Fast.tw4677648304959867940 : Unit := ()
def PySem.W.Fast.tw9900568245825954695 : Unit := ()
def PySem.W.Fast.tw7599631768235796336 : Unit := ()
open PySem PySem.W PyProof.Rows
set_option maxHeartbeats 0 in
theorem PySem.Challenge.cw_layerseen_k04_simple_deeds_made_holds : PySem.Challenge.rw_layerseen_k04_simple_deeds_made.Holds := by
  w_on; o_law; k_head; (case hw => w_witness2)
  k_fill
  refine My.law_top (l := PySem.Challenge.rw_layerseen_k04_simple_deeds_made) (n := 63) (N := My.nLaw) (x := "_law_script") (nm := "law") (qual := "law") (st := My.sLaw) rfl (by decide) rfl (fun w h Y => PySem.W.kIn_of Y) ?Z
  case Z =>
    intro w mg fa h KX G hmg
    refine' My.all_mk KX G hmg ?a_W ?l_W ?c_W ?k_W ?a_X ?l_X ?c_X ?k_X ?a_as ?l_as ?c_as ?k_as ?a_fo ?l_fo ?c_fo ?k_fo ?a_ni ?l_ni ?c_ni ?k_ni ?a_vi ?l_vi ?c_vi ?k_vi ?a_D ?l_D ?c_D ?k_D ?a_N ?l_N ?c_N ?k_N ?a_C ?l_C ?c_C ?k_C ?a_cv ?l_cv ?c_cv ?k_cv ?a_pe ?l_pe ?c_pe ?k_pe ?a_dr ?l_dr ?c_dr ?k_dr ?a_pi ?l_pi ?c_pi ?k_pi ?a_pl ?l_pl ?c_pl ?k_pl ?a_ma ?l_ma ?c_ma ?k_ma ?a_na ?l_na ?c_na ?k_na ?a_pa ?l_pa ?c_pa ?k_pa ?a_tx ?l_tx ?c_tx ?k_tx ?a_fc ?l_fc ?c_fc ?k_fc ?a_la ?l_la ?c_la ?k_la ?g_cD ?g_cSi ?g_cBl ?g_cP ?g_cC ?g_cY ?g_cF ?g_cL ?g_cS ?g_cH ?g_cG ?m_ip ?l_ip ?c_ip ?k_ip ?n_ip ?m_ep ?l_ep ?c_ep ?k_ep ?n_ep ?m_tp ?l_tp ?c_tp ?k_tp ?n_tp ?m_ic ?l_ic ?c_ic ?k_ic ?n_ic ?m_ec ?l_ec ?c_ec ?k_ec ?n_ec ?m_tc ?l_tc ?c_tc ?k_tc ?n_tc ?m_iy ?l_iy ?c_iy ?k_iy ?n_iy ?m_ey ?l_ey ?c_ey ?k_ey ?n_ey ?m_ty ?l_ty ?c_ty ?k_ty ?n_ty ?m_ig ?l_ig ?c_ig ?k_ig ?n_ig ?m_eg ?l_eg ?c_eg ?k_eg ?n_eg ?m_tg ?l_tg ?c_tg ?k_tg ?n_tg ?m_il ?l_il ?c_il ?k_il ?n_il ?m_el ?l_el ?c_el ?k_el ?n_el ?m_tl ?l_tl ?c_tl ?k_tl ?n_tl ?m_is ?l_is ?c_is ?k_is ?n_is ?m_es ?l_es ?c_es ?k_es ?n_es ?m_ts ?l_ts ?c_ts ?k_ts ?n_ts ?m_ir ?l_ir ?c_ir ?k_ir ?n_ir ?m_qe ?l_qe ?c_qe ?k_qe ?n_qe ?m_bl ?l_bl ?c_bl ?k_bl ?n_bl ?b_cC ?b_cY ?b_cF ?b_cL ?b_cS ?gL ?eL ?gLo ?gMV ?gMD ?gMN ?gK ?lgK ?vgK ?zgK ?gF ?lgF ?vgF ?zgF ?gN ?lgN ?vgN ?zgN ?gS ?hD ?sS0 ?lT0 ?vT0 ?zT0 ?vw0 ?vg0 ?vc0 ?rd0 ?hB_cP ?sS1 ?lT1 ?vT1 ?zT1 ?vw1 ?vg1 ?vc1 ?rd1 ?hB_cC ?sS2 ?lT2 ?vT2 ?zT2 ?vw2 ?vg2 ?vc2 ?rd2 ?hB_cY ?sS3 ?lT3 ?vT3 ?zT3 ?vw3 ?vg3 ?vc3 ?rd3 ?hB_cF ?sS4 ?lT4 ?vT4 ?zT4 ?vw4 ?vg4 ?vc4 ?rd4 ?hB_cL ?sS5 ?lT5 ?vT5 ?zT5 ?vw5 ?vg5 ?vc5 ?rd5 ?hB_cS ?z_int ?z_bool ?z_len ?z_abs ?z_list ?z_tuple ?z_dict ?z_range ?z_isinstance ?z_str ?z_all ?z_repr ?z_ValueError ?z_enumerate ?z_sum ?z_max ?z_any ?z_zip ?z_set ?z_sorted ?hB_cG ?hOw ?hRe ?hO
    (case a_W => k_is)
    (case l_W => k_is)
    (case c_W => k_is)
    (case k_W => k_is)
    (case a_X => k_is)
    (case l_X => k_is)
    (case c_X => k_is)
    (case k_X => k_is)
    (case a_as => k_is)
    (case l_as => k_is)
    (case c_as => k_is)
    (case k_as => k_is)
    (case a_fo => k_is)
    (case l_fo => k_is)
    (case c_fo => k_is)
    (case k_fo => k_is)
    (case a_ni => k_is)
    (case l_ni => k_is)
    (case c_ni => k_is)
    (case k_ni => k_is)
    (case a_vi => k_is)
    (case l_vi => k_is)
    (case c_vi => k_is)
    (case k_vi => k_is)
    (case a_D => k_is)
    (case l_D => k_is)
    (case c_D => k_is)
    (case k_D => k_is)
    (case a_N => k_is)
    (case l_N => k_is)
    (case c_N => k_is)
    (case k_N => k_is)
    (case a_C => k_is)
    (case l_C => k_is)
    (case c_C => k_is)
    (case k_C => k_is)
    (case a_cv => k_is)
    (case l_cv => k_is)
    (case c_cv => k_is)
    (case k_cv => k_is)
    (case a_pe => k_is)
    (case l_pe => k_is)
    (case c_pe => k_is)
    (case k_pe => k_is)
    (case a_dr => k_is)
    (case l_dr => k_is)
    (case c_dr => k_is)
    (case k_dr => k_is)
    (case a_pi => k_is)
    (case l_pi => k_is)
    (case c_pi => k_is)
    (case k_pi => k_is)
    (case a_pl => k_is)
    (case l_pl => k_is)
    (case c_pl => k_is)
    (case k_pl => k_is)
    (case a_ma => k_is)
    (case l_ma => k_is)
    (case c_ma => k_is)
    (case k_ma => k_is)
    (case a_na => k_is)
    (case l_na => k_is)
    (case c_na => k_is)
    (case k_na => k_is)
    (case a_pa => k_is)
    (case l_pa => k_is)
    (case c_pa => k_is)
    (case k_pa => k_is)
    (case a_tx => k_is)
    (case l_tx => k_is)
    (case c_tx => k_is)
    (case k_tx => k_is)
    (case a_fc => k_is)
    (case l_fc => k_is)
    (case c_fc => k_is)
    (case k_fc => k_is)
    (case a_la => k_is)
    (case l_la => k_is)
    (case c_la => k_is)
    (case k_la => k_is)
    (case g_cD => k_is)
    (case g_cSi => k_is)
    (case g_cBl => k_is)
    (case g_cP => k_is)
    (case g_cC => k_is)
    (case g_cY => k_is)
    (case g_cF => k_is)
    (case g_cL => k_is)
    (case g_cS => k_is)
    (case g_cH => k_is)
    (case g_cG => k_is)
    (case m_ip => k_is)
    (case l_ip => k_is)
    (case c_ip => k_is)
    (case k_ip => k_is)
    (case n_ip => k_is)
    (case m_ep => k_is)
    (case l_ep => k_is)
    (case c_ep => k_is)
    (case k_ep => k_is)
    (case n_ep => k_is)
    (case m_tp => k_is)
    (case l_tp => k_is)
    (case c_tp => k_is)
    (case k_tp => k_is)
    (case n_tp => k_is)
    (case m_ic => k_is)
    (case l_ic => k_is)
    (case c_ic => k_is)
    (case k_ic => k_is)
    (case n_ic => k_is)
    (case m_ec => k_is)
    (case l_ec => k_is)
    (case c_ec => k_is)
    (case k_ec => k_is)
    (case n_ec => k_is)
    (case m_tc => k_is)
    (case l_tc => k_is)
    (case c_tc => k_is)
    (case k_tc => k_is)
    (case n_tc => k_is)
    (case m_iy => k_is)
    (case l_iy => k_is)
    (case c_iy => k_is)
    (case k_iy => k_is)
    (case n_iy => k_is)
    (case m_ey => k_is)
    (case l_ey => k_is)
    (case c_ey => k_is)
    (case k_ey => k_is)
    (case n_ey => k_is)
    (case m_ty => k_is)
    (case l_ty => k_is)
    (case c_ty => k_is)
    (case k_ty => k_is)
    (case n_ty => k_is)
    (case m_ig => k_is)
    (case l_ig => k_is)
    (case c_ig => k_is)
    (case k_ig => k_is)
    (case n_ig => k_is)
    (case m_eg => k_is)
    (case l_eg => k_is)
    (case c_eg => k_is)
    (case k_eg => k_is)
    (case n_eg => k_is)
    (case m_tg => k_is)
    (case l_tg => k_is)
    (case c_tg => k_is)
    (case k_tg => k_is)
    (case n_tg => k_is)
    (case m_il => k_is)
    (case l_il => k_is)
    (case c_il => k_is)
    (case k_il => k_is)
    (case n_il => k_is)
    (case m_el => k_is)
    (case l_el => k_is)
    (case c_el => k_is)
    (case k_el => k_is)
    (case n_el => k_is)
    (case m_tl => k_is)
    (case l_tl => k_is)
    (case c_tl => k_is)
    (case k_tl => k_is)
    (case n_tl => k_is)
    (case m_is => k_is)
    (case l_is => k_is)
    (case c_is => k_is)
    (case k_is => k_is)
    (case n_is => k_is)
    (case m_es => k_is)
    (case l_es => k_is)
    (case c_es => k_is)
    (case k_es => k_is)
    (case n_es => k_is)
    (case m_ts => k_is)
    (case l_ts => k_is)
    (case c_ts => k_is)
    (case k_ts => k_is)
    (case n_ts => k_is)
    (case m_ir => k_is)
    (case l_ir => k_is)
    (case c_ir => k_is)
    (case k_ir => k_is)
    (case n_ir => k_is)
    (case m_qe => k_is)
    (case l_qe => k_is)
    (case c_qe => k_is)
    (case k_qe => k_is)
    (case n_qe => k_is)
    (case m_bl => k_is)
    (case l_bl => k_is)
    (case c_bl => k_is)
    (case k_bl => k_is)
    (case n_bl => k_is)
    (case b_cC => k_is)
    (case b_cY => k_is)
    (case b_cF => k_is)
    (case b_cL => k_is)
    (case b_cS => k_is)
    (case gL => k_is)
    (case eL => decide +kernel)
    (case gLo => k_is)
    (case gMV => k_is)
    (case gMD => k_is)
    (case gMN => k_is)
    (case gK => k_is)
    (case lgK => k_is)
    (case vgK => decide +kernel)
    (case zgK => decide +kernel)
    (case gF => k_is)
    (case lgF => k_is)
    (case vgF => decide +kernel)
    (case zgF => decide +kernel)
    (case gN => k_is)
    (case lgN => k_is)
    (case vgN => decide +kernel)
    (case zgN => decide +kernel)
    (case gS => k_is)
    (case hD => kernel_rfl)
    (case sS0 => k_is)
    (case lT0 => k_is)
    (case vT0 => decide +kernel)
    (case zT0 => decide +kernel)
    (case vw0 => k_is)
    (case vg0 => k_is)
    (case vc0 => k_is)
    (case rd0 => kernel_rfl)
    (case hB_cP => kernel_rfl)
    (case sS1 => k_is)
    (case lT1 => k_is)
    (case vT1 => decide +kernel)
    (case zT1 => decide +kernel)
    (case vw1 => k_is)
    (case vg1 => k_is)
    (case vc1 => k_is)
    (case rd1 => kernel_rfl)
    (case hB_cC => kernel_rfl)
    (case sS2 => k_is)
    (case lT2 => k_is)
    (case vT2 => decide +kernel)
    (case zT2 => decide +kernel)
    (case vw2 => k_is)
    (case vg2 => k_is)
    (case vc2 => k_is)
    (case rd2 => kernel_rfl)
    (case hB_cY => kernel_rfl)
    (case sS3 => k_is)
    (case lT3 => k_is)
    (case vT3 => decide +kernel)
    (case zT3 => decide +kernel)
    (case vw3 => k_is)
    (case vg3 => k_is)
    (case vc3 => k_is)
    (case rd3 => kernel_rfl)
    (case hB_cF => kernel_rfl)
    (case sS4 => k_is)
    (case lT4 => k_is)
    (case vT4 => decide +kernel)
    (case zT4 => decide +kernel)
    (case vw4 => k_is)
    (case vg4 => k_is)
    (case vc4 => k_is)
    (case rd4 => kernel_rfl)
    (case hB_cL => kernel_rfl)
    (case sS5 => k_is)
    (case lT5 => k_is)
    (case vT5 => decide +kernel)
    (case zT5 => decide +kernel)
    (case vw5 => k_is)
    (case vg5 => k_is)
    (case vc5 => k_is)
    (case rd5 => kernel_rfl)
    (case hB_cS => kernel_rfl)
    (case z_int => k_is)
    (case z_bool => k_is)
    (case z_len => k_is)
    (case z_abs => k_is)
    (case z_list => k_is)
    (case z_tuple => k_is)
    (case z_dict => k_is)
    (case z_range => k_is)
    (case z_isinstance => k_is)
    (case z_str => k_is)
    (case z_all => k_is)
    (case z_repr => k_is)
    (case z_ValueError => k_is)
    (case z_enumerate => k_is)
    (case z_sum => k_is)
    (case z_max => k_is)
    (case z_any => k_is)
    (case z_zip => k_is)
    (case z_set => k_is)
    (case z_sorted => k_is)
    (case hB_cG => kernel_rfl)
    (case hOw => kernel_rfl)
    (case hRe => kernel_rfl)
    (case hO => kernel_rfl)
