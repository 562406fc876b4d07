import PyProof.Rows.All
import Wide.All
import OpenK.AllK
import Wide.FinOn
import HandS.ForMost
import HandS.ForExc
import HandS.ExcIs
import HandS.ExcField
import KE.KExcIs
import HandS.IsInst
import KE.KCallOwn
import PyProof.InstNe
import HandS.RaiseMore
import HandS.Lambda
import HandS.EndTab
import KE.KDictCopyH
import KE.KMathGC
import HandS.DictComp
import HandS.Walk
import HandS.Iter
import HandS.Comp
import HandS.Text
import HandS.ExcInit
import HandS.ClsMeth
import HandS.Gcd
import HandS.Wide
import HandS.MakeKw
import HandS.MakeKwOnly
import HandS.Style
import HandS.Defaults
import PySem.Challenge.RW_layerseen_k39_how_many_classes
set_option Elab.async false
set_option linter.all false
set_option maxRecDepth 100000
set_option maxHeartbeats 4000000

namespace My
open PySem PySem.Spec PyProof.Rows L2

/-- what the walk of the law's body has to give, the guards being known -/
def LawBody (l : PySem.W.OpenLaw) (w : World) (K : PySem.W.Frag) (mg : Str → Option Value) (n : Nat) (N : List Str) (qual : Str) (st : Stmt) (fa : Addr) : Prop :=
  ∀ base : Heap, K.In base → base.Ns mainGlobals mg → ∀ (cdv : Value) (s : Shared) (H : Hp) (a : Addr) (ns : List Int), ns.length ≤ n → Only H → SqL K H a (ns.map V.int) →
    ∃ t, PSs (cxOf CX0 l.prog w K mg base N qual (defScope st) fa cdv callerA [] s H E0).nox (defBody st) t ∧
      t { nx := fun _ _ => False, rt := fun v _ => v = .bl true } (start N [.ref a]) H

/-- one call of the law from an abstract heap -/
theorem enter {l : PySem.W.OpenLaw} {w : World} {K : PySem.W.Frag} {mg : Str → Option Value} {n : Nat} {N : List Str} {x nm qual : Str} {st : Stmt} {fa a : Addr} {fd : FuncData}
    {base : Heap} {s : Shared} {H : Hp} {ns : List Int}
    (F : Fun K nm qual st fa fd) (S : FnScope N [x] (defScope st)) (hb : ∀ (s : Shared) (u : Value), BindsTo s fd ⟨[u], []⟩ [(x, u)])
    (B : LawBody l w K mg n N qual st fa) (hKb : K.In base) (hNb : base.Ns mainGlobals mg) (hn : ns.length ≤ n) (hO : Only H) (hS : SqL K H a (ns.map V.int))
    (e0 : Env0 l.prog w K mg base callerA [] s H) :
    codeAny (model l.prog w) callerA (.call (.ref fa) ⟨[.ref a], []⟩)
      (fun r s' => r = .ok (.ret (.bool true)) ∧ ∃ H', s'.os = s.os ∧ AllBare s'.gens ∧ Un [] [] H H' s.heap s'.heap ∧ HOk l.prog w H' s'.heap) s := by
  obtain ⟨oc, od, kV, doc, pm, an, cdv, ct, osl, rfl, lk, hcd⟩ := F.ex
  have stays : ∀ b o, base.get? b = some o → s.heap.get? b = some o := fun b o z => (e0.bs b o z).1
  have KS : K.In s.heap := e0.mod.kin.keeps stays
  have NL : s.heap.NoLimit := e0.mod.nolimit.keeps stays
  have kinds : ∀ y ∈ [x].zip [Value.ref a], (defScope st).names.lookup y.1 = some .local ∨ ((defScope st).names.lookup y.1 = some .cell ∧ ((cellsFrom (s.heap.objs.size + 1) (defScope st).names []).lookup y.1).isSome = true) := by
    intro y hy
    obtain rfl : y = (x, Value.ref a) := List.mem_singleton.mp hy
    cases S.par x (List.mem_singleton.mpr rfl) with
    | inl q => exact .inl q
    | inr q => exact .inr ⟨q, PySem.W.cellsFrom_some _ _ _ (.inl q)⟩
  refine codeAny_call_function (by decide) (KS _ _ lk) rfl S.co S.gen rfl (PySem.W.codeRec_of KS hcd) (hb s (.ref a) _ _ _ _ ?_)
  refine wpAny_newFunctionEnv_cells S.kind kinds fun env he s2 ic => ?_
  subst he
  refine ⟨NL.keeps ic.toInCall.keep, codeAny_func ?_⟩
  obtain ⟨t, ht, hq⟩ := B base hKb hNb cdv s H a ns hn hO hS
  have J0 := inv_start (E := E0) (CX := CX0) S (show callerA.handled = none from rfl) e0 (vs := [.ref a]) (us := [.ref a]) rfl (.cons rfl .nil) ic
  refine wpAny_mono (ht.run [] s2 (start N [.ref a]) H _ (J0.wish _) hq) (fun fl s' hs => ?_) fun e s' hs => hs.elim
  cases fl with
  | ret u =>
    obtain ⟨v, σ', H', J, rv, q⟩ := hs
    subst q
    obtain rfl : u = Value.bool true := rv
    exact ⟨rfl, H', J.os, J.bare, J.base, J.hok⟩
  | next => exact (let ⟨_, _, _, q⟩ := hs; q).elim
  | brk => exact (let ⟨_, _, _, q⟩ := hs; q).elim
  | cont => exact (let ⟨_, _, _, q⟩ := hs; q).elim

/-- the object of the script, looked at through its abstract heap -/
def scriptHp (a : Addr) (vs : List Value) (ns : List Int) : Hp := fun b => if b = a then some (.frz { cls := .type "list", data := .seq vs.toArray } (.lst (ns.map V.int))) else none

/-- from one call in an abstract heap to the call that is asked for -/
theorem settle {l : PySem.W.OpenLaw} {w : World} {K : PySem.W.Frag} {mg mb : Str → Option Value} {n : Nat} {N : List Str} {x nm qual : Str} {st : Stmt} {fa a : Addr} {fd : FuncData} {s : Shared} {H : Hp} {ns : List Int} {vs : List Value}
    (KX : K.In s.heap) (hns : s.heap.Ns mainGlobals mg) (hb : s.heap.Ns builtinsNs mb) (hbb : ∀ x : Str, x ≠ "__name__" → mb x = bootBuiltins x) (hlim : s.heap.NoLimit) (hg : s.gens = #[])
    (ha : s.heap.get? a = some { cls := .type "list", data := .seq vs.toArray }) (hn : ns.length ≤ n)
    (F : Fun K nm qual st fa fd) (S : FnScope N [x] (defScope st)) (hbi : ∀ (s : Shared) (u : Value), BindsTo s fd ⟨[u], []⟩ [(x, u)]) (B : LawBody l w K mg n N qual st fa)
    (hO : Only H) (hS : SqL K H a (ns.map V.int)) (hok : HOk l.prog w H s.heap) (one : ∀ b, H b ≠ none → b = a) (out : H a ≠ none → K.lookup a = none) :
    codeAny (model l.prog w) callerA (.call (.ref fa) ⟨[.ref a], []⟩) (fun r s' => r = .ok (.ret (.bool true)) ∧ OldK s.heap s'.heap ∧ s'.os = s.os ∧ AllBare s'.gens) s := by
  have seen : ∀ {b : Addr} {o : Obj}, H b = none → s.heap.get? b = some o → (hidT s.heap H).get? b = some o := fun q e => hidT_get e q
  have free : ∀ {b : Addr} {o : Obj}, s.heap.get? b = some o → (∀ xs k, o.data ≠ .seq xs k) → H b = none := by
    intro b o e nd
    by_cases z : H b = none
    · exact z
    · have eb := one b z
      rw [eb, ha] at e
      injection e with e
      exact absurd (by rw [← e]) (nd vs.toArray 0)
  have names : ∀ {b : Addr} {m : Str → Option Value}, s.heap.Ns b m → (hidT s.heap H).Ns b m := by
    intro b m nb
    obtain ⟨o, es, ep, e, d, rest⟩ := nb
    exact ⟨o, es, ep, seen (free e fun xs k z => by rw [d] at z; injection z) e, d, rest⟩
  have KB : K.In (hidT s.heap H) := by
    intro b o e
    refine seen ?_ (KX b o e)
    by_cases z : H b = none
    · exact z
    · have eb := one b z
      subst eb
      rw [out z] at e
      injection e
  have E0' : Env0 l.prog w K mg (hidT s.heap H) callerA [] s H := by
    refine ⟨rfl, ⟨KB, names hns, ⟨mb, names hb, hbb⟩, ?_⟩, fun b o e => of_hidT e, Nat.le_of_eq (hidT_size _ _), trivial, ?_, hok, .of_eq hg⟩
    · obtain ⟨mc, c1, c2⟩ := hlim
      exact ⟨mc, names c1, c2⟩
    · intro b z
      exact absurd (show b ∈ ([] : List Addr) from z) List.not_mem_nil
  refine codeAny_mono (enter F S hbi B KB (names hns) hn hO hS E0') fun r s' h => ?_
  obtain ⟨e1, H', os, bare, un, hok'⟩ := h
  refine ⟨e1, OldK.of_keep fun b o e => ?_, os, bare⟩
  by_cases z : H b = none
  · exact un.keep b o e z (show b ∉ ([] : List Addr) from List.not_mem_nil) List.not_mem_nil
  · rcases hO b with y | ⟨ob, xs, y⟩
    · exact absurd y z
    · have g1 := (hok b _ y).1
      have g2 := (hok' b _ (un.frzs b ob _ y)).1
      rw [g1] at e
      injection e with e
      rw [← e]
      exact g2

/-- the goal that the head leaves, from the law's body walked with known guards -/
theorem law_top {l : PySem.W.OpenLaw} {n : Nat} {q : Program} {loose : List Str} {XP : (Str → Option Value) → Heap → Prop} {YP : World → Heap → Prop} {d : DefRec} {K : Params → PySem.W.Frag} {N : List Str} {x nm qual : Str} {st : Stmt}
    (hn : l.most = some n) (hn2 : n ≤ sizeLine) (hdf : d.params.defaults = []) (hY : ∀ (w : World) (h : Heap), YP w h → (K w.params).In h)
    (Z : ∀ (w : World) (mg : Str → Option Value) (fa : Addr) (h : Heap), (K w.params).In h → h.Ns mainGlobals mg → mg d.name = some (.ref fa) →
      ∃ fd : FuncData, Fun (K w.params) nm qual st fa fd ∧ FnScope N [x] (defScope st) ∧ (∀ (s : Shared) (u : Value), BindsTo s fd ⟨[u], []⟩ [(x, u)]) ∧ LawBody l w (K w.params) mg n N qual st fa) :
    PySem.W.WalkO q loose XP YP l.row.toRowW d [] (fun f vs => PySem.call f vs) := by
  refine Att.attach_call hn hdf ?_
  intro w s₀ s mg mb fa o pm cd doc a vs ns G Y ho hd hcd hmg hobj hints hlen hg
  have KX : (K w.params).In s.heap := hY w _ Y
  obtain ⟨fd, F, S, hbi, B⟩ := Z w mg fa _ KX G.T.g hmg
  have rv : Vals (ns.map V.int) vs := vals_ints hints
  have top : ns.length ≤ sizeLine := Nat.le_trans hlen hn2
  have plain := @settle l w (K w.params) mg mb n N x nm qual st fa a fd s
  cases hk : (K w.params).lookup a with
  | some u =>
    have e := KX a u hk
    rw [hobj] at e
    injection e with e
    subst e
    refine plain (H := fun _ => none) (ns := ns) (vs := vs) KX G.T.g G.T.b G.T.builtins G.T.nolimit hg hobj hlen F S hbi B (fun _ => .inl rfl) (.inr ⟨_, vs.toArray, _, hk, rfl, rfl, rfl, ?_, ?_⟩) (fun b u z => ?_) (fun b z => absurd rfl z) (fun z => absurd rfl z)
    · rw [List.size_toArray, hints.length]
      exact top
    · simpa using rv
    · injection z
  | none =>
    refine plain (H := scriptHp a vs ns) (ns := ns) (vs := vs) KX G.T.g G.T.b G.T.builtins G.T.nolimit hg hobj hlen F S hbi B (fun b => ?_) (.inl (.inr ⟨_, if_pos rfl⟩)) (fun b u z => ?_) (fun b z => ?_) (fun _ => hk)
    · by_cases eb : b = a
      · exact .inr ⟨_, _, if_pos eb⟩
      · exact .inl (if_neg eb)
    · by_cases eb : b = a
      · have y := (if_pos eb).symm.trans z
        injection y with y
        subst y
        subst eb
        exact ⟨hobj, by rw [List.length_map]; exact top, vs, _, rv, hobj⟩
      · have y := (if_neg eb).symm.trans z
        injection y
    · by_cases eb : b = a
      · exact eb
      · exact absurd (if_neg eb) z
end My
namespace My
open PySem PySem.Spec PyProof.Rows L2
/-- an exception of the class cls that was caught and is still held, its own dict at d -/
def KeptO (cls : Value) (d : Option Addr) (a : Addr) : HO := .ext fun h => ∃ oe vs, h.get? a = some oe ∧ Zc cls d oe ∧ oe.data = .fields vs
theorem kept_ok {P : Program} {w : World} {H : Hp} {h : Heap} {cls : Value} {d : Option Addr} {a : Addr} {oe : Obj} {vs : Array Value} (e : h.get? a = some oe) (z : Zc cls d oe) (f : oe.data = .fields vs) : ObjOk P w H h a (KeptO cls d a) :=
  ⟨⟨oe, vs, e, z, f⟩, ⟨oe, e⟩, fun _ _ ⟨o, v, q, r⟩ k => ⟨o, v, k o q, r⟩⟩
section
variable {X : Cx} {pins : List (Addr × Obj)} {σ : L2.St} {H : Hp} {s : Shared}
/-- an object of ours, made since the entry and not tracked so far, is tracked from now on -/
theorem track {a : Addr} {o : HO} (I : Inv X pins σ H s) (na : H a = none) (n0 : X.s_0.heap.get? a = none) (nL : a ≠ X.env.locals) (nC : ∀ x c, X.env.cells.lookup x = some c → c ≠ a) (nP : ∀ p ∈ X.pn ++ pins, p.1 ≠ a)
    (ok : ObjOk X.prog X.w (upd H a o) s.heap a o) : Inv X pins σ (upd H a o) s := by
  have far : ∀ {b : Addr} {u : HO}, H b = some u → b ≠ a := fun q z => by
    rw [z, na] at q
    cases q
  have up : ∀ {b : Addr} {u : HO}, H b = some u → (upd H a o) b = some u := fun q => by
    rw [upd_ne (far q)]
    exact q
  refine ⟨I.ok, I.os, I.bare, ⟨I.base.keep, I.base.slot, fun b u q n hx => ?_, I.base.there, fun b xs q => up (I.base.tups b xs q), fun b u xs q => up (I.base.frzs b u xs q), fun b ps q => ?_⟩, I.loc, I.cell, ?_, fun x c q => ?_, fun p hp => ?_, fun b u q => ?_, I.len⟩
  · have nb : b ≠ a := fun z => by
      rw [z, n0] at q
      cases q
    rw [upd_ne nb]
    exact I.base.free b u q n hx
  · obtain ⟨more, q1⟩ := I.base.tbls b ps q
    exact ⟨more, up q1⟩
  · rw [upd_ne (Ne.symm nL)]
    exact I.free
  · rw [upd_ne (nC x c q)]
    exact I.freeC x c q
  · obtain ⟨h1, h2, h3⟩ := I.pin p hp
    refine ⟨h1, ?_, h3⟩
    rw [upd_ne (nP p hp)]
    exact h2
  · by_cases hb : b = a
    · subst hb
      rw [upd_same] at q
      injection q with q
      subst q
      exact ok
    · rw [upd_ne hb] at q
      exact (I.hok b u q).stay (fun _ _ _ r => r) (fun _ r => up r) fun _ _ r => up r
end
/-- what `except x as n: suite` wishes of an exception of the body: slot i is n's; behind the suite the exception is held -/
def wKeep (K : PySem.W.Frag) (c : Value) (i : Nat) (ts : Addr → Value → Option Addr → TS) (D : Ends) : WX := fun cls d σ H =>
  PySem.W.exmOne K cls c = some true ∧ ∀ a, H a = none → ts a cls d { nx := fun σ' H' => D.nx (σ'.set i none) (upd H' a (KeptO cls d a)), rt := fun _ _ => False, bk := fun _ _ => False, ct := fun _ _ => False } (σ.set i (some (.ref a))) H
section
variable {X : Cx} {x n : Str} {c : Value} {i : Nat} {body suite : List Stmt} {b₀ : Stmt} {np pos pos' : Pos} {tb : WX → TS} {ts : Addr → Value → Option Addr → TS}
theorem ps_try_keep (hex : X.ex = []) (hs : X.stack = X.env :: X.outer) (hf : X.env.frame = some X.env.locals) (hN : X.N.Nodup) (hi : X.N[i]? = some n) (hln : X.env.kindOf n = some .local) (hc : Names X x c)
    (hb : ∀ (W : WX) (pn : List (Addr × Obj)) (xe : Value → Shared → Prop), Takes (X.tr pn xe) W → PassesOwn (model X.prog X.w) X.A X.env xe → PSs (X.tr pn xe) body (tb W))
    (hsu : ∀ (a : Addr) (oe : Obj) (cls : Value) (d : Option Addr) (pn : List (Addr × Obj)), Zc cls d oe → (∃ vs, oe.data = .fields vs) → PSs (X.suite a ((a, oe) :: pn)) (b₀ :: suite) (ts a cls d)) :
    PS X (.Try body [.ExceptHandler (some (.Name x np)) (some n) (b₀ :: suite) pos'] [] [] pos) (fun D σ H => tb (wKeep X.K c i ts D) D σ H) := by
  constructor
  intro pins s σ H D I h
  have ok := I.ok
  have hfr : X.A.frames = some (X.env :: X.outer) := by rw [ok.frames, hs]
  -- what the body's exceptions are told to
  have caught : Takes (X.tr (X.pn ++ pins) fun e s₁ => wpAny (model X.prog X.w) X.A (noteFrame e X.env) (fun _ s₂ => wpAny (model X.prog X.w) X.A (setFlight e none) (fun _ s₃ =>
      wpAny (model X.prog X.w) X.A (handleBy e X.env [.ExceptHandler (some (.Name x np)) (some n) (b₀ :: suite) pos']) (SP X pins D) X.xe s₃) X.xe s₂) X.xe s₁) (wKeep X.K c i ts D) := by
    intro u s' xx
    obtain ⟨a, B, sI, pins', σ', H', cls, d, rfl, J', nb, up, sky, na, os, ag, hm, go⟩ := xx
    have J : Inv X pins σ' H' sI := J'.ofTry ok
    rw [show (X.tr (X.pn ++ pins) _).stack = X.env :: X.outer from hs] at sky
    show wpAny (model X.prog X.w) X.A (noteFrame (.ref a) X.env) _ _ _
    refine Sky.land Zc.steady hfr hf sky fun h3 fl3 up3 => ?_
    have none_B : B.get? a = none := fl3.2.1
    obtain ⟨oe3, vs3, he3, hz3, hd3⟩ := fl3.there
    have J3 : Inv X pins σ' H' { s' with heap := h3 } := J.landed nb fl3.1 (up.trans up3) os ag
    have out : a ∉ frs (X.env :: X.outer) := by
      intro z
      obtain ⟨_, o, e1, e2⟩ := (fl3.2.2.1).mem z
      have e3 := he3.symm.trans e1
      injection e3 with e3
      exact e2 vs3 (e3 ▸ hd3)
    have nL : a ≠ X.env.locals := fun z => out (List.mem_filterMap.mpr ⟨X.env, List.mem_cons_self, by rw [hf, z]⟩)
    have nF : a ∉ X.fs := fun z => by
      obtain ⟨e, he, e1⟩ := List.mem_filterMap.mp z
      exact out (List.mem_filterMap.mpr ⟨e, List.mem_cons_of_mem _ he, e1⟩)
    have notI : ∀ o, sI.heap.get? a ≠ some o := fun o z => by
      have e1 := nb a o z (by rw [hs]; exact out)
      rw [none_B] at e1
      cases e1
    have n0 : X.s_0.heap.get? a = none := by
      cases z : X.s_0.heap.get? a with
      | none => rfl
      | some o =>
        obtain ⟨o', e1⟩ := J.base.there a o z (by rw [hex]; exact List.not_mem_nil)
        exact absurd e1 (notI o')
    have nP : ∀ p ∈ X.pn ++ pins, p.1 ≠ a := fun p hp z => notI p.2 (z ▸ (J.pin p hp).1)
    have nC : ∀ v cc, X.env.cells.lookup v = some cc → cc ≠ a := fun v cc q z => by
      obtain ⟨_, o, e1, e2⟩ := J3.cell v cc q
      have e3 : h3.get? cc = some o := e1
      rw [z, he3] at e3
      injection e3 with e3
      rw [← e3, hd3] at e2
      cases e2
    have S3 := J3.suite he3 hd3 na nL nF
    refine wpAny_handleBy_cons (codeAny_handlers_test ?_) (by intro q; cases q)
    have kind : PySem.W.Looks (model X.prog X.w) h3 (typeOf (.ref a)) cls := fun A Q E s k q => wpAny_typeOf_ref (k _ _ he3) (by rw [hz3.1]; exact q)
    have fits := PySem.W.exm_one (M := model X.prog X.w) J3.kIn kind hm
    have named : ∀ {Q : Value → Shared → Prop} {E : Value → Shared → Prop}, Q c { s' with heap := h3 } → wpAny (model X.prog X.w) (X.A.mark (some (.ref a))) (eval (.Name x np) X.env) Q E { s' with heap := h3 } := by
      intro Q E q
      obtain ⟨g, db, hx | ⟨hx, hv, hnn⟩⟩ := hc
      · exact ld_glob (X := X.suite a ((a, oe3) :: (X.pn ++ pins))) S3 g hx q db
      · exact ld_blt (X := X.suite a ((a, oe3) :: (X.pn ++ pins))) S3 g hx hv q hnn db
    refine named (fits.here (codeAny_handlers_suite_as (HandSPX.lands_againZ fl3 fun h4 fl4 up4 => ?_)))
    obtain ⟨oe4, vs4, he4, hz4, hd4⟩ := fl4.there
    have J4 : Inv X pins σ' H' { s' with heap := h4 } := J.landed nb fl4.1 ((up.trans up3).trans up4) os ag
    have S4 := J4.suite he4 hd4 na nL nF
    refine store_ok (X := X.suite a ((a, oe4) :: (X.pn ++ pins))) (v := .ref a) S4 hN hi (.inl hln) rfl (fun s5 S5 => ?_) (.inr hln)
    refine wpAny_mono ((hsu a oe4 cls d (X.pn ++ pins) hz4 ⟨_, hd4⟩).run [] s5 _ H' _ S5 (go a na)) (fun f s6 q => ?_) fun _ _ z => z.elim
    cases f with
    | brk => exact (let ⟨_, _, _, q⟩ := q; q).elim
    | cont => exact (let ⟨_, _, _, q⟩ := q; q).elim
    | ret u => exact (let ⟨_, _, _, _, _, q⟩ := q; q).elim
    | next =>
      obtain ⟨σ6, H6, S6, q6⟩ := q
      refine gone_ok (X := X.suite a ((a, oe4) :: (X.pn ++ pins))) S6 hN hi hln fun s7 S7 => ?_
      obtain ⟨e7, n7, _⟩ := S7.pin (a, oe4) (List.mem_append_left _ List.mem_cons_self)
      exact ⟨_, _, track (S7.unsuite ok) n7 n0 nL nC nP (kept_ok e7 hz4 hd4), q6⟩
  refine wpAny_Try_except (wpAny_mono ((hb (wKeep X.K c i ts D) (X.pn ++ pins) _ caught PassesOwn.looking).run [] s σ H D (I.toTry _) h) (fun f s1 q => ?_) fun e s1 q => q)
  cases f with
  | next => exact (let ⟨σ', H', J, q⟩ := q; wpAny_execs_nil ⟨σ', H', J.ofTry ok, q⟩)
  | brk => exact (let ⟨σ', H', J, q⟩ := q; ⟨σ', H', J.ofTry ok, q⟩)
  | cont => exact (let ⟨σ', H', J, q⟩ := q; ⟨σ', H', J.ofTry ok, q⟩)
  | ret u => exact (let ⟨v, σ', H', J, r, q⟩ := q; ⟨v, σ', H', J.ofTry ok, r, q⟩)
end
end My
namespace My
open PySem PySem.Spec PyProof.Rows L2
section
variable {X : Cx} {pins : List (Addr × Obj)} {σ : L2.St} {H : Hp} {s : Shared} {a C : Addr} {d : Option Addr}
/-- the held exception as the library's rules for instances want it; its own dict, if it has one, is tracked -/
theorem held_inst (I : Inv X pins σ H s) (h : H a = some (KeptO (.ref C) d a)) (hd : ∀ dd, d = some dd → ∃ fs, H dd = some (.xd fs)) : ∃ oe od, PySem.W.InstAt s.heap a oe C od := by
  obtain ⟨⟨oe, vs, e, z, f⟩, _, _⟩ := I.hok a _ h
  have plain : PySem.W.notCls oe = true := by
    unfold PySem.W.notCls
    rw [f] <;> rfl
  cases d with
  | none => exact ⟨oe, none, e, z.1, plain, by rw [z.2]; trivial⟩
  | some dd =>
    obtain ⟨fs, hx⟩ := hd dd rfl
    obtain ⟨mA, ns, _⟩ := (show ObjOk X.prog X.w H s.heap dd (.xd fs) from I.hok dd _ hx)
    obtain ⟨od, ho, _⟩ := lookIn_ns ns
    exact ⟨oe, some od, e, z.1, plain, by rw [z.2]; exact ho⟩
/-- isinstance(e, c), e an exception that is held, c an own class or a built-in one -/
def rHeldIs (K : PySem.W.Frag) : List V → Hp → VK → Prop := fun xs H Q => ∃ (a D : Addr) (d : Option Addr) (c : V) (u : Value) (b : Bool), xs = [.ref a, c] ∧ ClsV c u ∧ H a = some (KeptO (.ref D) d a) ∧ (∀ dd, d = some dd → ∃ fs, H dd = some (.xd fs)) ∧
  ExcC K D ∧ PySem.W.kitOne K (.ref D) u = some b ∧ Q (.bl b) H
theorem call_heldIs : CallR X (.builtin "isinstance") (rHeldIs X.K) := by
  intro pins s σ H xs us Q I r h
  obtain ⟨a, D, d, c, u, b, rfl, k, ha, hd, T, e, q⟩ := h
  obtain ⟨u1, u2, rfl, r1, r2⟩ := vals2 r
  cases r1
  have e2 := k.eq r2
  subst e2
  obtain ⟨oe, od, J⟩ := held_inst I ha hd
  have cls : (PySem.W.clsIn X.K D).isSome = true := by
    obtain ⟨cd, hc, _⟩ := PySem.W.any_some T.hd
    rw [hc] <;> rfl
  exact PySem.W.kia_one (PySem.W.kitx_exc cls T.hg T.hk T.hs T.ha T.hn T.ht T.hm) I.kIn J e (fun z => nomatch z) fun tk => ⟨.bl b, H, I.tok tk, rfl, q⟩
/-- e.f of a held exception -/
def tHeldF (K : PySem.W.Frag) (f : Str) (te : TE) : TE := fun σ H Q => te σ H fun x H1 => ∃ (a C dd : Addr) (fs : List (Str × V)) (v : V), x = .ref a ∧ H1 a = some (KeptO (.ref C) (some dd) a) ∧ H1 dd = some (.xd fs) ∧ XfC K C ∧ PySem.W.findIn K (.ref C) f = some none ∧ fs.lookup f = some v ∧ Q v H1
theorem pe_heldF {te : TE} {n : Str} {e : Expr} {pos : Pos} (he : PE X e te) (hb : attributeBase e n X.env (eval e X.env) = eval e X.env := by rfl) : PE X (.Attribute e n pos) (tHeldF X.K n te) := by
  constructor
  intro pins s σ H Q I h
  refine attr_of hb (thn (he.run pins s σ H _ I h) ?_)
  intro u s1 hu
  obtain ⟨x, H1, I1, rx, a, C, dd, fs, v, ex, ea, ed, T, hno, l, q⟩ := hu
  subst ex
  obtain rfl : u = Value.ref a := rx
  obtain ⟨⟨oe, vs, e1, z, f1⟩, _, _⟩ := I1.hok a _ ea
  obtain ⟨mA, ns, rel⟩ := (show ObjOk X.prog X.w H1 s1.heap dd (.xd fs) from I1.hok dd _ ed)
  obtain ⟨od, ho, hl⟩ := lookIn_ns ns
  obtain ⟨w, hw, rw'⟩ := RelO.some_of (v := v) (o := mA n) (by rw [← l]; exact rel n)
  have plain : PySem.W.notCls oe = true := by
    unfold PySem.W.notCls
    rw [f1] <;> rfl
  have J : PySem.W.InstAt s1.heap a oe C (some od) := ⟨e1, z.1, plain, by rw [z.2]; exact ho⟩
  exact HandSPX.exc_get I1.kIn J T.ga T.gg T.exC (PySem.W.findObj_own T.hdC hno rfl (by rw [hl, hw])) (handed_of rw') ⟨v, H1, I1.tok _, rw', q⟩
end
end My
namespace My
open PySem PySem.Spec PyProof.Rows L2
/-- a def's promise where it is known that no repr is under way -/
structure FnG (P : Program) (w : World) (K : PySem.W.Frag) (mg : Str → Option Value) (base : Heap) (CX : CXT) (k : Nat) (f : Addr) (fd : FuncData) (ps : List Str) (sp : Sp) : Prop where
  len : ∀ vs H Q E, sp vs H Q E → vs.length = ps.length
  run : ∀ (A : Around) (outer : List Env) (s : Shared) (H : Hp) (args : Args) (us : List Value) (vs : List V) (Q : VK) (E : XK), Room k A → A.guards = some [] → Env0 P w K mg base A outer s H → BindsTo s fd args (ps.zip us) → Vals vs us → sp vs H Q E →
    codeAny (model P w) A (.call (.ref f) args) (CR CX outer P w H s Q E) s
theorem toG {P : Program} {w : World} {K : PySem.W.Frag} {mg : Str → Option Value} {base : Heap} {CX : CXT} {k : Nat} {f : Addr} {fd : FuncData} {ps : List Str} {sp : Sp} (F : FnOk P w K mg base CX k f fd ps sp) : FnG P w K mg base CX k f fd ps sp :=
  ⟨F.len, fun A outer s H args us vs Q E r _ => F.run A outer s H args us vs Q E r⟩
section
variable {P : Program} {w : World} {K : PySem.W.Frag} {mg : Str → Option Value} {base : Heap}
/-- a def by its body, the guards known -/
theorem okG {CX : CXT} {x qual : Str} {st : Stmt} {f : Addr} {fd : FuncData} {N ps : List Str} {k : Nat} {sp : Sp} (F : Fun K x qual st f fd) (S : FnScope N ps (defScope st)) (len : ∀ vs H Q E, sp vs H Q E → vs.length = ps.length)
    (body : ∀ (cdv : Value) (A : Around) (outer : List Env) (s : Shared) (H : Hp) (vs : List V) (Q : VK) (E : XK), Room k (A.deeper (envOfC qual (defScope st) s.heap.objs.size f cdv)) → (A.deeper (envOfC qual (defScope st) s.heap.objs.size f cdv)).guards = some [] → sp vs H Q E →
      ∃ t, PSs (cxOf CX P w K mg base N qual (defScope st) f cdv A outer s H E) (defBody st) t ∧ t { nx := fun _ H' => Q .non H', rt := Q } (start N vs) H) : FnG P w K mg base CX (k + 1) f fd ps sp := by
  obtain ⟨oc, od, kV, doc, pm, an, cdv, ct, osl, rfl, lk, hcd⟩ := F.ex
  refine ⟨len, ?_⟩
  intro A outer s H args us vs Q E room guard e0 bind rel prom
  have stays : ∀ b o, base.get? b = some o → s.heap.get? b = some o := fun b o z => (e0.bs b o z).1
  have KS : K.In s.heap := e0.mod.kin.keeps stays
  have many := len _ _ _ _ prom
  have kinds : ∀ y ∈ ps.zip us, (defScope st).names.lookup y.1 = some .local ∨ ((defScope st).names.lookup y.1 = some .cell ∧ ((cellsFrom (s.heap.objs.size + 1) (defScope st).names []).lookup y.1).isSome = true) := by
    intro y hy
    cases S.par y.1 (List.of_mem_zip hy).1 with
    | inl q => exact .inl q
    | inr q => exact .inr ⟨q, PySem.W.cellsFrom_some _ _ _ (.inl q)⟩
  refine codeAny_call_function room.depth (KS _ _ lk) rfl S.co S.gen rfl (PySem.W.codeRec_of KS hcd) (bind _ _ _ _ ?_)
  refine wpAny_newFunctionEnv_cells S.kind kinds fun env he s2 ic => ?_
  subst he
  refine ⟨(e0.mod.nolimit.keeps stays).keeps ic.toInCall.keep, codeAny_func ?_⟩
  have guard' : (A.deeper (envOfC qual (defScope st) s.heap.objs.size f cdv)).guards = some [] := by
    obtain ⟨a1, a2, a3, a4, a5⟩ := A
    first | exact guard | simpa [Around.deeper, Code.guards, Code.isGuard, pushGuards, guardIds] using guard
  obtain ⟨t, ht, hq⟩ := body cdv A outer s H vs Q E (room.deeper _) guard' prom
  refine wpAny_mono (ht.run [] s2 (start N vs) H _ (inv_start S room.hd e0 many rel ic) hq) (fun fl s' hs => ?_) fun e s' hs => hs
  cases fl with
  | ret u => exact (let ⟨v, _, H', J, rv, q⟩ := hs; ⟨v, H', J.os, J.bare, J.base, J.hok, rv, q⟩)
  | next => exact (let ⟨_, H', J, q⟩ := hs; ⟨.non, H', J.os, J.bare, J.base, J.hok, rfl, q⟩)
  | brk => exact (let ⟨_, _, _, q⟩ := hs; q).elim
  | cont => exact (let ⟨_, _, _, q⟩ := hs; q).elim
end
section
variable {X : Cx} {CX : CXT} {k : Nat} {f : Addr} {fd : FuncData} {ps : List Str} {ds : List Value} {dvs : List V} {sp : Sp} {E : XK} {x : Str} {p pos : Pos} {e : Expr} {es : List Expr} {t : TA}
theorem runG {pins : List (Addr × Obj)} {σ : L2.St} {H : Hp} {s : Shared} {Q : VK} {us : List Value} {vs : List V} (F : FnG X.prog X.w X.K X.mg X.base CX k f fd ps sp) (hr : Room k X.A) (hg : X.A.guards = some []) (hb : Binds X.K fd ps ds) (hd : Vals dvs ds) (hx : Passes CX X E)
    (I : Inv X pins σ H s) (r : Vals vs us) (h : sp (vs ++ dvs) H Q E) : wpAny (model X.prog X.w) X.A (call (.ref f) us) (EP X pins σ Q) X.xe s := by
  have rel : Vals (vs ++ dvs) (us ++ ds) := r.append hd
  have many : (us ++ ds).length = ps.length := rel.length ▸ F.len _ _ _ _ h
  refine wpAny_call (codeAny_mono (F.run X.A X.stack s H ⟨us, []⟩ (us ++ ds) (vs ++ dvs) Q E hr hg I.env0 (hb s us I.kIn many) rel h) ?_)
  intro r s' hq
  match r, hq with
  | .error e, hq => exact hx pins σ H s e s' I hq
  | .ok (.ret u), hq => exact I.after hq
/-- f(e, ..) where it is known that no repr is under way -/
theorem pe_callG (F : FnG X.prog X.w X.K X.mg X.base CX k f fd ps sp) (hr : Room k X.A) (hgu : X.A.guards = some []) (hg : Gl X x) (hm : X.mg x = some (.ref f)) (hk : PySem.W.keepIn X.K (.ref f) = true) (hb : Binds X.K fd ps ds) (hd : Vals dvs ds) (hx : Passes CX X E)
    (ha : PA X (e :: es) t) (hdb : (x == ("__debug__" : Str)) = false := by decide) (he : starEach (e :: es) X.env = (false, eval e X.env) :: starEach es X.env := by rfl) (hpl : (backTo pos (starEach es X.env)).any (·.1) = false := by rfl) :
    PE X (.Call (.Name x p) (e :: es) [] pos) (tCall sp dvs E t) := by
  constructor
  intro pins s σ H Q I h
  refine wpAny_Call_Name_kw (ld_glob I hg hm (PySem.W.callWith_K (h₀ := X.base) I.ok.mod.kin hk (thn (ha.run pos pins s σ H _ I h) ?_) he hpl) hdb)
  intro us s1 hu
  obtain ⟨vs, H1, I1, r, q⟩ := hu
  exact ⟨I1.kIn, runG F hr hgu hb hd hx I1 r q⟩
/-- x == y where x is of an own class with an own __eq__ that answers True or False, y anything that is not of a class below x's -/
def rEqOwn (K : PySem.W.Frag) (C : Addr) (sp : Sp) (E : XK) : R2 := fun x y H Q => ∃ (a dx : Addr) (fs : List (Str × V)) (t : Value), x = .ref a ∧ H a = some (.ins C dx fs) ∧ TyX K H y t ∧ PySem.W.notFirst K C t = true ∧ sp [x, y] H (fun v H' => ∃ b, v = .bl b ∧ Q (.bl b) H') E
theorem op_eqOwn {C : Addr} (F : FnG X.prog X.w X.K X.mg X.base CX k f fd ps sp) (hr : Room k X.A) (hgu : X.A.guards = some []) (hs : PySem.W.findIn X.K (.ref C) "__eq__" = some (some (.ref f))) (hf : PySem.W.isFn X.K (.ref f) = true) (hb : Binds X.K fd ps []) (hx : Passes CX X E) :
    OpR X (compareOp .Eq) (rEqOwn X.K C sp E) := by
  intro pins s σ H x y v u Q I rx ry h
  obtain ⟨a, dx, fs, t, rfl, ha, ty, nf, q⟩ := h
  cases rx
  obtain ⟨mA, J, _⟩ := ins_get I.hok ha
  obtain ⟨od, J, _⟩ := J.look
  obtain ⟨m, hF⟩ := I.fr
  obtain ⟨Pp, Z, pz, _⟩ := kit_of I ry ty
  show wpAny (model X.prog X.w) X.A (richCompare .Eq (.ref a) u) (EP X pins σ Q) X.xe s
  refine PySem.W.cmp_K (op := .Eq) (tb := t) hr.units0 hF I.ok.mod.kin J (Z.ty _ _ I.kIn pz) nf hs hf ?_
  refine wpAny_mono (runG (vs := [.ref a, y]) (us := [.ref a, u]) (dvs := []) (ds := []) F hr hgu hb .nil hx I (.cons rfl (.cons ry .nil)) q) (fun r s' z => ?_) fun _ _ z => z
  obtain ⟨w1, H1, I1, r1, b, rfl, q1⟩ := z
  cases r1
  exact ⟨.bl b, H1, I1, rfl, q1⟩
end
end My
namespace My
open PySem PySem.Spec PyProof.Rows L2
section
variable {X : Cx} {CX : CXT} {k : Nat} {f : Addr} {fd : FuncData} {ps : List Str} {sp : Sp} {E : XK}
/-- a def called from within a built-in -/
theorem runAt {A : Around} {pins : List (Addr × Obj)} {σ : L2.St} {H : Hp} {s : Shared} {Q : VK} {us : List Value} {vs : List V} (F : FnG X.prog X.w X.K X.mg X.base CX k f fd ps sp) (hr : Room k A) (hg : A.guards = some []) (fr : A.frames = X.A.frames) (hb : Binds X.K fd ps []) (hx : Passes CX X E)
    (I : Inv X pins σ H s) (r : Vals vs us) (h : sp vs H Q E) : wpAny (model X.prog X.w) A (call (.ref f) us) (EP X pins σ Q) X.xe s := by
  have many : us.length = ps.length := r.length ▸ F.len _ _ _ _ h
  have e0 : Env0 X.prog X.w X.K X.mg X.base A X.stack s H := by
    obtain ⟨h1, h2, h3, h4, h5, h6, h7, h8⟩ := I.env0
    exact ⟨fr.trans h1, h2, h3, h4, h5, h6, h7, h8⟩
  have bind := hb s us I.kIn (by simpa using many)
  rw [List.append_nil] at bind
  refine wpAny_call (codeAny_mono (F.run A X.stack s H ⟨us, []⟩ us vs Q E hr hg e0 bind r h) ?_)
  intro r s' hq
  match r, hq with
  | .error e, hq => exact hx pins σ H s e s' I hq
  | .ok (.ret u), hq => exact I.after hq
/-- x != y where x is of an own class with an own __eq__ that answers True or False and without an own __ne__ -/
theorem op_neOwn {C : Addr} (F : FnG X.prog X.w X.K X.mg X.base CX k f fd ps sp) (hr : Room (k + 1) X.A) (hgu : X.A.guards = some []) (hs : PySem.W.findIn X.K (.ref C) "__eq__" = some (some (.ref f))) (hf : PySem.W.isFn X.K (.ref f) = true)
    (hn : PySem.W.findIn X.K (.ref C) "__ne__" = some (some (.builtin "object.__ne__"))) (hm : PySem.W.mroIn X.K C (.type "object") = some true) (hb : Binds X.K fd ps []) (hx : Passes CX X E) :
    OpR X (compareOp .NotEq) (fun x y H Q => rEqOwn X.K C sp E x y H fun v H' => ∃ b, v = .bl b ∧ Q (.bl (!b)) H') := by
  intro pins s σ H x y v u Q I rx ry h
  obtain ⟨a, dx, fs, t, rfl, ha, ty, nf, q⟩ := h
  cases rx
  obtain ⟨mA, J, _⟩ := ins_get I.hok ha
  obtain ⟨od, J, _⟩ := J.look
  obtain ⟨Pp, Z, pz, _⟩ := kit_of I ry ty
  have KS := I.kIn
  have own : wpAny (model X.prog X.w) X.A.in1 (callSpecialIfBound? (.ref a) "__eq__" [u]) (fun r s' => ∃ b, r = some (.bool b) ∧ EP X pins σ Q (.bool (!b)) s') X.xe s := by
    refine PySem.W.ifBound_K KS J hs hf (wpAny_mono (runAt (vs := [.ref a, y]) (us := [.ref a, u]) F hr.in1 hgu rfl hb hx I (.cons rfl (.cons ry .nil)) q) (fun r s' z => ?_) fun _ _ z => z)
    obtain ⟨w1, H1, I1, r1, b, rfl, b', e, q1⟩ := z
    cases r1
    cases e
    exact ⟨b, rfl, .bl (!b), H1, I1, rfl, q1⟩
  have entry : wpAny (model X.prog X.w) X.A.in1 (Builtin.«object.__ne__» ⟨[.ref a, u], []⟩) (fun r s' => ∃ b, r = .done (.ret (.bool (!b))) ∧ EP X pins σ Q (.bool (!b)) s') X.xe s := by
    unfold Builtin.«object.__ne__»
    refine wpAny_bind (wpAny_of_eq (a := ((Value.ref a : Value), [u])) (by first | rfl | (simp only [slotArgs]; rfl)) ?_)
    refine wpAny_bind (wpAny_cRoomFor hr.in1.units0 (wpAny_bind (wpAny_mono own (fun r s' z => ?_) fun _ _ z => z)))
    obtain ⟨b, rfl, ep⟩ := z
    exact wpAny_bind (wpAny_truthy_bool (wpAny_pure ⟨b, rfl, ep⟩))
  have slot : wpAny (model X.prog X.w) X.A (call (.builtin "object.__ne__") [.ref a, u]) (fun v s' => ∃ b, v = .bool b ∧ EP X pins σ Q (.bool b) s') X.xe s := by
    refine wpAny_call (codeAny_call_builtin PySem.F.cmp_object.ne.plain PySem.F.cmpEntry_ne (PySem.W.check_slot PySem.F.cmpKind_ne PySem.F.cmpSplit_ne (J.type.andThen (PySem.W.looks_mroIn KS hm)) (PySem.F.cmpArgs_ne _ _) (wpAny_mono entry (fun r s' z => ?_) fun _ _ z => z)))
    obtain ⟨b, rfl, ep⟩ := z
    exact ⟨!b, rfl, ep⟩
  have one : wpAny (model X.prog X.w) X.A (tryCompare (.ref a) "__ne__" u) (fun r s' => ∃ b, r = some (.bool b) ∧ EP X pins σ Q (.bool b) s') X.xe s := by
    unfold tryCompare
    have asked : wpAny (model X.prog X.w) X.A (callSpecialIfBound? (.ref a) "__ne__" [u]) (fun r s' => ∃ b, r = some (.bool b) ∧ EP X pins σ Q (.bool b) s') X.xe s := by
      have last : wpAny (model X.prog X.w) X.A (call (.builtin "object.__ne__") ([.ref a] ++ [u]) >>= fun v => pure (some v)) (fun r s' => ∃ b, r = some (.bool b) ∧ EP X pins σ Q (.bool b) s') X.xe s :=
        wpAny_bind (wpAny_mono slot (fun v s' z => wpAny_pure (let ⟨b, e, ep⟩ := z; ⟨b, congrArg some e, ep⟩)) fun _ _ z => z)
      unfold callSpecialIfBound? bindSpecialIfBound?
      refine wpAny_holding (wpAny_bind (wpAny_bind (wpAny_bind (J.type.here ((PySem.W.looks_findIn KS hn).here (wpAny_bind (wpAny_askSetting (wpAny_ite ?_))))))))
      split
      · exact wpAny_bind (wpAny_of_eq (PySem.F.cmp_object.ne.bind _) (wpAny_pure last))
      · exact wpAny_tryCatch (wpAny_bind (wpAny_of_eq (PySem.F.cmp_object.ne.bind _) (wpAny_pure last)))
    refine wpAny_bind (wpAny_mono asked (fun r s' z => ?_) fun _ _ z => z)
    obtain ⟨b, rfl, ep⟩ := z
    exact wpAny_pure ⟨b, rfl, ep⟩
  show wpAny (model X.prog X.w) X.A (richCompare .NotEq (.ref a) u) (EP X pins σ Q) X.xe s
  unfold richCompare
  simp only [oneThing_ref]
  refine wpAny_holding (wpAny_bind (wpAny_cRoomFor hr.units0 (wpAny_bind (J.type.here (wpAny_bind ((Z.ty _ _ KS pz).here ?_))))))
  have fin : ∀ (rest : Option Value → Sem Value), (∀ b, rest (some (.bool b)) = pure (.bool b)) → wpAny (model X.prog X.w) X.A (tryCompare (.ref a) (cmpInfo CmpOp.NotEq).2.1 u >>= rest) (EP X pins σ Q) X.xe s := fun rest hrest => by
    refine wpAny_bind (wpAny_mono one (fun r s' z => ?_) fun _ _ z => z)
    obtain ⟨b, rfl, ep⟩ := z
    rw [hrest]
    exact wpAny_pure ep
  unfold PySem.W.notFirst at nf
  split
  · rename_i ne
    have sub : PySem.W.subIn X.K t (.ref C) = some false := by
      cases e : (t == Value.ref C) with
      | true =>
        rw [eq_of_beq e] at ne
        simp at ne
      | false =>
        rw [e, Bool.false_or] at nf
        exact eq_of_beq nf
    refine wpAny_bind ((PySem.W.looks_subIn KS sub).here ?_)
    simp only [Bool.false_eq_true, if_false]
    exact fin _ fun b => rfl
  · refine wpAny_bind (wpAny_pure ?_)
    simp only [Bool.false_eq_true, if_false]
    exact fin _ fun b => rfl
end
end My
namespace My
open PySem PySem.Spec PyProof.Rows L2
section
variable {X : Cx} {CX : CXT} {k : Nat} {f : Addr} {fd : FuncData} {ps : List Str} {sp : Sp} {E : XK}
/-- str(x), x of an own class with an own __str__ -/
theorem call_strOwn {C : Addr} (F : FnG X.prog X.w X.K X.mg X.base CX k f fd ps sp) (hr : Room (k + 2) X.A) (hgu : X.A.guards = some []) (hs : PySem.W.findIn X.K (.ref C) "__str__" = some (some (.ref f))) (hf : PySem.W.isFn X.K (.ref f) = true) (hb : Binds X.K fd ps []) (hx : Passes CX X E) :
    CallR X (.type "str") (fun xs H Q => ∃ (a dx : Addr) (fs : List (Str × V)), xs = [.ref a] ∧ H a = some (.ins C dx fs) ∧ sp [.ref a] H (fun v H' => ∃ z : Str, v = .str z ∧ Q (.str z) H') E) := by
  intro pins s σ H xs us Q I r h
  obtain ⟨a, dx, fs, rfl, ha, q⟩ := h
  obtain ⟨u, rfl, ru⟩ := vals1 r
  cases ru
  obtain ⟨mA, J, _⟩ := ins_get I.hok ha
  obtain ⟨od, J, _⟩ := J.look
  refine PySem.W.kso_call (Room.units0 (hr.in1.in1)) I.kIn J hs hf (wpAny_mono (runAt (vs := [.ref a]) (us := [.ref a]) F hr.in1.in1 hgu rfl hb hx I (.cons rfl .nil) q) (fun r s' z => ?_) fun _ _ z => z)
  obtain ⟨w1, H1, I1, r1, y, rfl, q1⟩ := z
  obtain ⟨t, rfl⟩ := r1
  exact ⟨.str y, H1, I1, ⟨t, rfl⟩, q1⟩
end
/-- a value without parts, and what it is -/
inductive Fl : V → PyData → Prop
  | non : Fl .non .none
  | bl (b : Bool) : Fl (.bl b) (.bool b)
  | int (i : Int) : Fl (.int i) (.int i)
  | str (x : Str) : Fl (.str x) (.str x)
/-- values without parts, and what they are -/
abbrev Fls : List V → List PyData → Prop := Paired Fl
/-- what a value is: without parts, a list or tuple of such, the dict without entries -/
inductive Th (H : Hp) : V → PyData → Prop
  | flat {x : V} {d : PyData} (h : Fl x d) : Th H x d
  | lst {a : Addr} {xs : List V} {ds : List PyData} (h : H a = some (.lst xs)) (k : Fls xs ds) (n : xs.length ≤ 1000) : Th H (.ref a) (.list ds)
  | tup {a : Addr} {xs : List V} {ds : List PyData} (h : H a = some (.tup xs)) (k : Fls xs ds) (n : xs.length ≤ 1000) : Th H (.ref a) (.tuple ds)
  | dct {a : Addr} (h : H a = some (.dK [])) : Th H (.ref a) (.dict [])
theorem Th.keep {H H' : Hp} {x : V} {d : PyData} (h : Th H x d) (k : ∀ b o, H b = some o → H' b = some o) : Th H' x d := by
  cases h with
  | flat h => exact .flat h
  | lst h r n => exact .lst (k _ _ h) r n
  | tup h r n => exact .tup (k _ _ h) r n
  | dct h => exact .dct (k _ _ h)
theorem fl_dp {K : PySem.W.Frag} {H : Hp} {x : V} {d : PyData} (h : Fl x d) : Dp K H x d := by
  cases h with
  | non => exact .non
  | bl b => exact .bl b
  | int i => exact .int i
  | str x => exact .str x
theorem fls_dp {K : PySem.W.Frag} {H : Hp} : ∀ {xs : List V} {ds : List PyData}, Fls xs ds → DpAll K H xs ds
  | _, _, .nil => .nil
  | _, _, .cons h r => .cons (fl_dp h) (fls_dp r)
theorem fls_noDict : ∀ {xs : List V} {ds : List PyData}, Fls xs ds → PyData.hasDictAll ds = false
  | _, _, .nil => rfl
  | _, _, .cons h r => by
    unfold PyData.hasDictAll
    rw [fls_noDict r]
    cases h <;> rfl
/-- what can be shown in bounds -/
structure Fine (d : PyData) : Prop where
  show_ : d.showable = true
  deep : d.depth ≤ 8
  size : d.shown.length ≤ sizeLine
section
variable {X : Cx}
theorem call_reprT (hg : X.A.guards = some []) (hu : X.A.units + 64 < cLine) : CallR X (.builtin "repr") (fun xs H Q => ∃ x d, xs = [x] ∧ Th H x d ∧ Fine d ∧ Q (.str d.shown) H) := by
  intro pins s σ H xs us Q I r h
  obtain ⟨x, d, rfl, th, fine, q⟩ := h
  obtain ⟨u, rfl, ru⟩ := vals1 r
  have fin : ∀ t tk, EP X pins σ Q (.str d.shown t) { s with toks := tk } := fun t tk => ⟨.str d.shown, H, I.tok tk, ⟨t, rfl⟩, q⟩
  have obj : ∀ a (as : List Addr), Reads s.heap (.ref a) d as → (d.hasDict = true → sysModules ∉ as) → wpAny (model X.prog X.w) X.A (call (.builtin "repr") [.ref a]) (EP X pins σ Q) X.xe s := fun a as rd nd =>
    repr_of_reads' rd fine.show_ nd hg (by have := fine.deep; omega) (fun _ _ e => e) (fun h' u tk hk => ⟨.str d.shown, H, I.kept hk, ⟨u, rfl⟩, q⟩) fine.size
  cases th with
  | flat h =>
    cases h with
    | non =>
      cases ru
      exact PySem.P.repr_of_none (fin _ _)
    | bl b =>
      cases ru
      exact PySem.P.repr_of_bool (by
        have e : (PyData.bool b).shown = if b then ("True" : Str) else "False" := by unfold PyData.shown; rfl
        rw [e] at fin
        cases b <;> exact fin _ _)
    | int i =>
      obtain ⟨t, rfl⟩ := ru
      have sm : i.natAbs.log2 < 1920 := by
        have z := fine.show_
        unfold PyData.showable at z
        exact of_decide_eq_true z
      exact PySem.P.repr_of_int sm (by
        have e : (PyData.int i).shown = (toString i : Str) := by unfold PyData.shown; rfl
        rw [e] at fin
        exact fin _ _)
    | str z =>
      obtain ⟨t, rfl⟩ := ru
      have e : (PyData.str z).shown = reprText z := by unfold PyData.shown; rfl
      have sz := fine.size
      rw [e] at fin sz
      exact PySem.P.repr_of_str (fin _ _) sz
  | @lst a xs ds h k n =>
    cases ru
    obtain ⟨as, rd⟩ := Dp.reads I _ _ _ (Dp.lst (K := X.K) (SqL.of h) (fls_dp k)) rfl
    refine obj a as rd (fun z => ?_)
    unfold PyData.hasDict at z
    rw [fls_noDict k] at z
    cases z
  | @tup a xs ds h k n =>
    cases ru
    obtain ⟨as, rd⟩ := Dp.reads I _ _ _ (Dp.tup (K := X.K) (SqT.of h) (fls_dp k)) rfl
    refine obj a as rd (fun z => ?_)
    unfold PyData.hasDict at z
    rw [fls_noDict k] at z
    cases z
  | @dct a h =>
    cases ru
    obtain ⟨_, nsys, vs, kv, o, es, ep, ho, ex, hd, _, pr, _⟩ := dk_of I.hok h
    cases kv
    have es0 : es.toList = [] := by
      obtain ⟨l⟩ := es
      have pr' : PySem.Pairs _ l [] := pr
      cases l with
      | nil => rfl
      | cons _ _ => cases pr'
    refine obj a _ (Reads.dict (kvs := []) (as := []) (bs := []) ho ex.1 hd (by rw [es0]; exact .nil) (by rw [es0]; exact .nil)) (fun _ => ?_)
    simp only [List.append_nil, List.mem_singleton]
    intro z
    rw [z] at nsys
    simp at nsys
end
end My
namespace My
open PySem PySem.Spec PyProof.Rows L2
/-- what the walk of the law's body has to give where one def of the text makes lambdas: its code object at c, the table of that one at P, empty so far -/
def LawBodyT (l : PySem.W.OpenLaw) (w : World) (K : PySem.W.Frag) (mg : Str → Option Value) (n : Nat) (N : List Str) (qual : Str) (st : Stmt) (fa c P : Addr) : Prop :=
  ∀ base : Heap, K.In base → base.Ns mainGlobals mg → LamX.TabB base mg c P → ∀ (cdv : Value) (s : Shared) (H : Hp) (a : Addr) (ns : List Int), ns.length ≤ n → H P = some (.tbl #[]) → SqL K H a (ns.map V.int) →
    ∃ t, PSs (cxOf CX0 l.prog w K mg base N qual (defScope st) fa cdv callerA [] s H E0).nox (defBody st) t ∧
      t { nx := fun _ _ => False, rt := fun v _ => v = .bl true } (start N [.ref a]) H
theorem enterB {l : PySem.W.OpenLaw} {w : World} {K : PySem.W.Frag} {mg : Str → Option Value} {N : List Str} {x nm qual : Str} {st : Stmt} {fa a : Addr} {fd : FuncData}
    {base : Heap} {s : Shared} {H : Hp} (F : Fun K nm qual st fa fd) (S : FnScope N [x] (defScope st)) (hb : ∀ (s : Shared) (u : Value), BindsTo s fd ⟨[u], []⟩ [(x, u)])
    (B : ∀ cdv : Value, ∃ t, PSs (cxOf CX0 l.prog w K mg base N qual (defScope st) fa cdv callerA [] s H E0).nox (defBody st) t ∧ t { nx := fun _ _ => False, rt := fun v _ => v = .bl true } (start N [.ref a]) H)
    (e0 : Env0 l.prog w K mg base callerA [] s H) :
    codeAny (model l.prog w) callerA (.call (.ref fa) ⟨[.ref a], []⟩)
      (fun r s' => r = .ok (.ret (.bool true)) ∧ ∃ H', s'.os = s.os ∧ AllBare s'.gens ∧ Un [] [] H H' s.heap s'.heap ∧ HOk l.prog w H' s'.heap) s := by
  obtain ⟨oc, od, kV, doc, pm, an, cdv, ct, osl, rfl, lk, hcd⟩ := F.ex
  have stays : ∀ b o, base.get? b = some o → s.heap.get? b = some o := fun b o z => (e0.bs b o z).1
  have KS : K.In s.heap := e0.mod.kin.keeps stays
  have NL : s.heap.NoLimit := e0.mod.nolimit.keeps stays
  have kinds : ∀ y ∈ [x].zip [Value.ref a], (defScope st).names.lookup y.1 = some .local ∨ ((defScope st).names.lookup y.1 = some .cell ∧ ((cellsFrom (s.heap.objs.size + 1) (defScope st).names []).lookup y.1).isSome = true) := by
    intro y hy
    obtain rfl : y = (x, Value.ref a) := List.mem_singleton.mp hy
    cases S.par x (List.mem_singleton.mpr rfl) with
    | inl q => exact .inl q
    | inr q => exact .inr ⟨q, PySem.W.cellsFrom_some _ _ _ (.inl q)⟩
  refine codeAny_call_function (by decide) (KS _ _ lk) rfl S.co S.gen rfl (PySem.W.codeRec_of KS hcd) (hb s (.ref a) _ _ _ _ ?_)
  refine wpAny_newFunctionEnv_cells S.kind kinds fun env he s2 ic => ?_
  subst he
  refine ⟨NL.keeps ic.toInCall.keep, codeAny_func ?_⟩
  obtain ⟨t, ht, hq⟩ := B cdv
  have J0 := inv_start (E := E0) (CX := CX0) S (show callerA.handled = none from rfl) e0 (vs := [.ref a]) (us := [.ref a]) rfl (.cons rfl .nil) ic
  refine wpAny_mono (ht.run [] s2 (start N [.ref a]) H _ (J0.wish _) hq) (fun fl s' hs => ?_) fun e s' hs => hs.elim
  cases fl with
  | ret u =>
    obtain ⟨v, σ', H', J, rv, q⟩ := hs
    subst q
    obtain rfl : u = Value.bool true := rv
    exact ⟨rfl, H', J.os, J.bare, J.base, J.hok⟩
  | next => exact (let ⟨_, _, _, q⟩ := hs; q).elim
  | brk => exact (let ⟨_, _, _, q⟩ := hs; q).elim
  | cont => exact (let ⟨_, _, _, q⟩ := hs; q).elim
/-- a table that is empty so far -/
abbrev tab0 : Obj := { cls := .none, data := .fields #[] }
theorem settleT {l : PySem.W.OpenLaw} {w : World} {K : PySem.W.Frag} {mg mb : Str → Option Value} {n : Nat} {N : List Str} {x nm qual : Str} {st : Stmt} {fa a c P : Addr} {fd : FuncData} {s : Shared} {H : Hp} {ns : List Int} {vs : List Value}
    (KX : K.In s.heap) (hns : s.heap.Ns mainGlobals mg) (hb : s.heap.Ns builtinsNs mb) (hbb : ∀ x : Str, x ≠ "__name__" → mb x = bootBuiltins x) (hlim : s.heap.NoLimit) (hg : s.gens = #[])
    (ha : s.heap.get? a = some { cls := .type "list", data := .seq vs.toArray }) (hn : ns.length ≤ n)
    (hT : s.heap.get? P = some tab0) (nT : K.lookup P = none) (C : PySem.W.CodeHd s.heap c P) (bm : s.heap.BuiltinsAt mg P)
    (F : Fun K nm qual st fa fd) (S : FnScope N [x] (defScope st)) (hbi : ∀ (s : Shared) (u : Value), BindsTo s fd ⟨[u], []⟩ [(x, u)]) (B : LawBodyT l w K mg n N qual st fa c P)
    (hP : H P = some (.tbl #[])) (hO : ∀ b, b ≠ P → H b = none ∨ ∃ o xs, H b = some (.frz o (.lst xs))) (hS : SqL K H a (ns.map V.int)) (hok : HOk l.prog w H s.heap) (one : ∀ b, H b ≠ none → b = a ∨ b = P) (out : H a ≠ none → K.lookup a = none) :
    codeAny (model l.prog w) callerA (.call (.ref fa) ⟨[.ref a], []⟩) (fun r s' => r = .ok (.ret (.bool true)) ∧ OldK s.heap s'.heap ∧ s'.os = s.os ∧ AllBare s'.gens) s := by
  -- what is neither the script nor the table is not tracked
  have free : ∀ {b : Addr} {o : Obj}, s.heap.get? b = some o → (∀ xs k, o.data ≠ .seq xs k) → o.data ≠ .fields #[] → H b = none := by
    intro b o e nd nf
    by_cases z : H b = none
    · exact z
    · rcases one b z with eb | eb
      · rw [eb, ha] at e
        injection e with e
        exact absurd (by rw [← e]) (nd vs.toArray 0)
      · rw [eb, hT] at e
        injection e with e
        exact absurd (by rw [← e]) nf
  have seen : ∀ {b : Addr} {o : Obj}, s.heap.get? b = some o → (∀ xs k, o.data ≠ .seq xs k) → o.data ≠ .fields #[] → (hidT s.heap H).get? b = some o := fun e h1 h2 => hidT_get e (free e h1 h2)
  have names : ∀ {b : Addr} {m : Str → Option Value}, s.heap.Ns b m → (hidT s.heap H).Ns b m := by
    intro b m nb
    obtain ⟨o, es, ep, e, d, rest⟩ := nb
    exact ⟨o, es, ep, seen e (fun xs k z => by rw [d] at z; injection z) (fun z => by rw [d] at z; injection z), d, rest⟩
  have KB : K.In (hidT s.heap H) := by
    intro b o e
    refine hidT_get (KX b o e) ?_
    by_cases z : H b = none
    · exact z
    · rcases one b z with eb | eb
      · subst eb
        rw [out z] at e
        injection e
      · subst eb
        rw [nT] at e
        injection e
  have E0' : Env0 l.prog w K mg (hidT s.heap H) callerA [] s H := by
    refine ⟨rfl, ⟨KB, names hns, ⟨mb, names hb, hbb⟩, ?_⟩, fun b o e => of_hidT e, Nat.le_of_eq (hidT_size _ _), trivial, ?_, hok, .of_eq hg⟩
    · obtain ⟨mc, c1, c2⟩ := hlim
      exact ⟨mc, names c1, c2⟩
    · intro b z
      exact absurd (show b ∈ ([] : List Addr) from z) List.not_mem_nil
  have TB : LamX.TabB (hidT s.heap H) mg c P := by
    refine ⟨?_, ?_, fun z => ?_⟩
    · obtain ⟨o, us, file, tf, flags, tg, inF, text, tt, e1, r1, r2, r3, rest⟩ := C
      refine ⟨o, us, file, tf, flags, tg, inF, text, tt, seen e1 (fun xs k z => by rw [r2] at z; injection z) (fun z => ?_), r1, r2, r3, rest⟩
      rw [r2] at z
      injection z with z
      rw [z] at r3
      simp at r3
    · obtain ⟨b, ob, b1, b2, b3, b4, b5, b6, b7, b8⟩ := bm
      exact ⟨b, ob, b1, b2, b3, b4, seen b5 (fun xs k z => by rw [b8] at z; injection z) (fun z => by rw [b8] at z; injection z), b6, b7, b8⟩
    · obtain ⟨o, es, ep, e, d, _⟩ := hns
      rw [z, hT] at e
      injection e with e
      rw [← e] at d
      injection d
  refine codeAny_mono (enterB F S hbi (fun cdv => B _ KB (names hns) TB cdv s H a ns hn hP hS) E0') fun r s' h => ?_
  obtain ⟨e1, H', os, bare, un, hok'⟩ := h
  obtain ⟨more, eP⟩ := un.tbls P #[] hP
  have grown : s'.heap.get? P = some { cls := .none, data := .fields (#[] ++ more) } := hok' P _ eP
  have kept : ∀ b o, b ≠ P → s.heap.get? b = some o → s'.heap.get? b = some o := by
    intro b o nb e
    by_cases z : H b = none
    · exact un.keep b o e z (show b ∉ ([] : List Addr) from List.not_mem_nil) List.not_mem_nil
    · rcases hO b nb with y | ⟨ob, xs, y⟩
      · exact absurd y z
      · have g1 := (hok b _ y).1
        have g2 := (hok' b _ (un.frzs b ob _ y)).1
        rw [g1] at e
        injection e with e
        rw [← e]
        exact g2
  refine ⟨e1, ⟨fun b o e => ?_, fun b o e => ?_⟩, os, bare⟩
  · by_cases nb : b = P
    · subst nb
      rw [hT] at e
      injection e with e
      subst e
      exact .inr (.inl ⟨(C.tab hT).isCodeTable, rfl, #[], more, rfl, grown⟩)
    · exact .inl (kept b o nb e)
  · by_cases nb : b = P
    · subst nb
      exact ⟨_, grown⟩
    · exact ⟨o, kept b o nb e⟩
/-- the goal that the head leaves, from the law's body walked with known guards and one table -/
theorem law_topT {l : PySem.W.OpenLaw} {n : Nat} {q : Program} {loose : List Str} {XP : (Str → Option Value) → Heap → Prop} {YP : World → Heap → Prop} {d : DefRec} {K : Params → PySem.W.Frag} {N : List Str} {x nm qual : Str} {st : Stmt}
    (hn : l.most = some n) (hn2 : n ≤ sizeLine) (hdf : d.params.defaults = []) (hY : ∀ (w : World) (h : Heap), YP w h → (K w.params).In h)
    (Z : ∀ (w : World) (mg : Str → Option Value) (fa : Addr) (h : Heap), YP w h → (K w.params).In h → h.Ns mainGlobals mg → mg d.name = some (.ref fa) →
      ∃ (fd : FuncData) (c P : Addr), h.get? P = some tab0 ∧ (K w.params).lookup P = none ∧ PySem.W.CodeHd h c P ∧ Fun (K w.params) nm qual st fa fd ∧ FnScope N [x] (defScope st) ∧ (∀ (s : Shared) (u : Value), BindsTo s fd ⟨[u], []⟩ [(x, u)]) ∧ LawBodyT l w (K w.params) mg n N qual st fa c P) :
    PySem.W.WalkO q loose XP YP l.row.toRowW d [] (fun f vs => PySem.call f vs) := by
  refine Att.attach_call hn hdf ?_
  intro w s₀ s mg mb fa o pm cd doc a vs ns G Y ho hd hcd hmg hobj hints hlen hg
  have KX : (K w.params).In s.heap := hY w _ Y
  obtain ⟨fd, c, P, hT, nT, C, F, S, hbi, B⟩ := Z w mg fa _ Y KX G.T.g hmg
  have bmP : s.heap.BuiltinsAt mg P := by
    obtain ⟨bm, ob, b1, b2, b3, b4, b5, b6⟩ := G.T.bmain
    refine ⟨bm, ob, b1, b2, fun z => ?_, fun z => ?_, b3, b4, b5, b6⟩
    · obtain ⟨o', es, ep, e, hd', _⟩ := G.T.g
      rw [z, e] at b3
      injection b3 with b3
      rw [b3, b6] at hd'
      injection hd'
    · rw [z, hT] at b3
      injection b3 with b3
      rw [← b3] at b6
      injection b6
  have rv : Vals (ns.map V.int) vs := vals_ints hints
  have top : ns.length ≤ sizeLine := Nat.le_trans hlen hn2
  have naP : a ≠ P := fun z => by
    rw [z, hT] at hobj
    injection hobj with hobj
    have := congrArg Obj.data hobj
    injection this
  have plain := @settleT l w (K w.params) mg mb n N x nm qual st fa a c P fd s
  cases hk : (K w.params).lookup a with
  | some u =>
    have e := KX a u hk
    rw [hobj] at e
    injection e with e
    subst e
    refine plain (H := fun b => if b = P then some (.tbl #[]) else none) (ns := ns) (vs := vs) KX G.T.g G.T.b G.T.builtins G.T.nolimit hg hobj hlen hT nT C bmP F S hbi B (if_pos rfl) (fun b nb => .inl (if_neg nb)) (.inr ⟨_, vs.toArray, _, hk, rfl, rfl, rfl, ?_, ?_⟩) (fun b u z => ?_) (fun b z => ?_) (fun z => absurd (if_neg naP) z)
    · rw [List.size_toArray, hints.length]
      exact top
    · simpa using rv
    · by_cases hb : b = P
      · have y := (if_pos hb).symm.trans z
        injection y with y
        subst y
        subst hb
        exact hT
      · have y := (if_neg hb).symm.trans z
        injection y
    · by_cases hb : b = P
      · exact .inr hb
      · exact absurd (if_neg hb) z
  | none =>
    refine plain (H := fun b => if b = P then some (.tbl #[]) else scriptHp a vs ns b) (ns := ns) (vs := vs) KX G.T.g G.T.b G.T.builtins G.T.nolimit hg hobj hlen hT nT C bmP F S hbi B (if_pos rfl) (fun b nb => ?_) (.inl (.inr ⟨_, (if_neg naP).trans (if_pos rfl)⟩)) (fun b u z => ?_) (fun b z => ?_) (fun _ => hk)
    · by_cases eb : b = a
      · exact .inr ⟨_, _, (if_neg nb).trans (if_pos eb)⟩
      · exact .inl ((if_neg nb).trans (if_neg eb))
    · by_cases hb : b = P
      · have y := (if_pos hb).symm.trans z
        injection y with y
        subst y
        subst hb
        exact hT
      · have z1 := (if_neg hb).symm.trans z
        by_cases eb : b = a
        · have y := (if_pos eb).symm.trans z1
          injection y with y
          subst y
          subst eb
          exact ⟨hobj, by rw [List.length_map]; exact top, vs, _, rv, hobj⟩
        · have y := (if_neg eb).symm.trans z1
          injection y
    · by_cases hb : b = P
      · exact .inr hb
      · by_cases eb : b = a
        · exact .inl eb
        · exact absurd ((if_neg hb).trans (if_neg eb)) z
end My
namespace My
open PySem PySem.Spec PyProof.Rows L2
/-! ### a dict that remembers ints, its keys tuples of ints, texts and None -/
def lV : Leaf → V
  | .none => .non
  | .num i => .int i
  | .text z => .str z
theorem lV_is {P : Program} {w : World} {k : Leaf} {u : Value} (r : RelV (lV k) u) : (leafKind P w).is k u = true := by
  cases k with
  | none => obtain rfl : u = Value.none := r; rfl
  | num i => obtain ⟨t, rfl⟩ := (show ∃ t, u = Value.int i t from r); exact decide_eq_true rfl
  | text x =>
    obtain ⟨t, rfl⟩ := (show ∃ t, u = Value.str x t from r)
    show Value.isStrOf x (.str x t) = true
    simp [Value.isStrOf]
theorem leaves_are {P : Program} {w : World} : ∀ {ks : List Leaf} {us : List Value}, Vals (ks.map lV) us → ItemsAre (leafKind P w) ks us
  | [], _, r => by rw [List.map_nil] at r; cases r; exact .nil
  | k :: ks, _, r => by
    rw [List.map_cons] at r
    cases r with
    | cons h t => exact .cons (lV_is h) (leaves_are t)
theorem keyL_of {P : Program} {w : World} {H : Hp} {h : Heap} {b : Addr} {ks : List Leaf} (ok : HOk P w H h) (e : H b = some (.tup (ks.map lV))) : (tupleKind (leafKind P w)).is h ks b := by
  obtain ⟨_, its, r, o, h1, h2, n, h3⟩ := (show ObjOk P w H h b (.tup (ks.map lV)) from ok b _ e)
  exact ⟨o, its.toArray, n, h1, h2, h3, by simpa using leaves_are r⟩
/-- the dict at a by its own object: its entries -/
def MemO (P : Program) (w : World) (a : Addr) (xs : List (List Leaf × Addr × Value)) : HO := .ext fun h => ∃ o es ep, h.get? a = some o ∧ o.ExactDict ∧ o.data = .dict es ep ∧ es.toList = xs.map (entryOfKey (tupleKind (leafKind P w))) ∧ (xs.map (·.1)).Nodup
/-- what stands in it: R tells of each key's int; n entries at most -/
structure MemAt (P : Program) (w : World) (H : Hp) (a : Addr) (R : List Leaf → Int → Prop) (n : Nat) (xs : List (List Leaf × Addr × Value)) : Prop where
  ex : H a = some (MemO P w a xs)
  few : xs.length ≤ n
  key : ∀ x ∈ xs, H x.2.1 = some (.tup (x.1.map lV)) ∧ ∃ i t, x.2.2 = Value.int i t ∧ R x.1 i
  sys : (a == sysModules) = false
theorem MemAt.keep {P : Program} {w : World} {H H' : Hp} {a : Addr} {R : List Leaf → Int → Prop} {n : Nat} {xs : List (List Leaf × Addr × Value)} (M : MemAt P w H a R n xs) (k : ∀ q o, H q = some o → H' q = some o) : MemAt P w H' a R n xs :=
  ⟨k _ _ M.ex, M.few, fun x hx => ⟨k _ _ (M.key x hx).1, (M.key x hx).2⟩, M.sys⟩
theorem MemAt.more {P : Program} {w : World} {H : Hp} {a : Addr} {R : List Leaf → Int → Prop} {n m : Nat} {xs : List (List Leaf × Addr × Value)} (M : MemAt P w H a R n xs) (h : n ≤ m) : MemAt P w H a R m xs :=
  ⟨M.ex, Nat.le_trans M.few h, M.key, M.sys⟩
section
variable {X : Cx} {pins : List (Addr × Obj)} {σ : L2.St} {H : Hp} {s : Shared} {a : Addr} {R : List Leaf → Int → Prop} {n : Nat} {xs : List (List Leaf × Addr × Value)}
theorem mem_dict (I : Inv X pins σ H s) (M : MemAt X.prog X.w H a R n xs) : s.heap.DictOfH (tupleKind (leafKind X.prog X.w)) a xs := by
  obtain ⟨⟨o, es, ep, h1, h2, h3, h4, h5⟩, _, _⟩ := I.hok a _ M.ex
  exact ⟨o, es, ep, h1, h2, h3, h4, fun x hx => keyL_of I.hok (M.key x hx).1, h5⟩
theorem atKey_mem {K : Type} [DecidableEq K] : ∀ {xs : List (K × Addr × Value)} {k : K} {p : Addr × Value}, atKey xs k = some p → ∃ x ∈ xs, x.1 = k ∧ x.2 = p := by
  intro xs k p h
  unfold atKey at h
  obtain ⟨x, hx, e⟩ := Option.map_eq_some_iff.mp h
  have hm := List.mem_of_find?_eq_some hx
  have hp := List.find?_some hx
  exact ⟨x, hm, of_decide_eq_true hp, e⟩
def rMemNotIn (P : Program) (w : World) : R2 := fun x y H Q => ∃ (a b : Addr) (k : List Leaf) (R : List Leaf → Int → Prop) (n : Nat) (xs : List (List Leaf × Addr × Value)), x = .ref b ∧ y = .ref a ∧ H b = some (.tup (k.map lV)) ∧ MemAt P w H a R n xs ∧ Q (.bl (!(atKey xs k).isSome)) H
theorem op_memNotIn (hu : X.A.units + 1 < cLine) : OpR X (compareOp .NotIn) (rMemNotIn X.prog X.w) := by
  intro pins s σ H x y v u Q I rx ry h
  obtain ⟨a, b, k, R, n, xs, rfl, rfl, eb, M, q⟩ := h
  cases rx
  cases ry
  exact wpAny_notIn_heap (tupleKind_room_in1 hu) (keyL_of I.hok eb) M.sys (mem_dict I M) ⟨.bl (!(atKey xs k).isSome), H, I.tok _, rfl, q⟩
/-- d[key] of such a dict -/
def tMemGet (P : Program) (w : World) (td ty : TE) : TE := fun σ H Q => td σ H fun x H1 => ty σ H1 fun y H2 => ∃ (a b : Addr) (k : List Leaf) (R : List Leaf → Int → Prop) (n : Nat) (xs : List (List Leaf × Addr × Value)), x = .ref a ∧ y = .ref b ∧ H2 b = some (.tup (k.map lV)) ∧ MemAt P w H2 a R n xs ∧ (atKey xs k).isSome = true ∧
  ∀ i : Int, R k i → Q (.int i) H2
theorem pe_memget {o i : Expr} {td ty : TE} {pos : Pos} (hu : X.A.units + 1 < cLine) (ho : PE X o td) (hi : PE X i ty) (hs : NoSl i) : PE X (.Subscript o i pos) (tMemGet X.prog X.w td ty) := by
  refine ⟨fun pins s σ H Q I h => ?_⟩
  refine subD_of PySem.F.slot_dict_getitem.lookup hs (thn (ho.run pins s σ H _ I h) fun u s1 ⟨x, H1, I1, rx, q1⟩ => thn (hi.run pins s1 σ H1 _ I1 q1) fun iv s2 ⟨y, H2, I2, ry, a, b, k, R, n, xs, ex, ey, eb, M, sm, q2⟩ => ?_)
  subst ex ey
  obtain rfl : u = Value.ref a := rx
  obtain rfl : iv = Value.ref b := ry
  have dd := mem_dict I2 M
  obtain ⟨p, hp⟩ := Option.isSome_iff_exists.mp sm
  obtain ⟨x, hx, e1, e2⟩ := atKey_mem hp
  obtain ⟨_, i, t, e3, r⟩ := M.key x hx
  refine ⟨dd.typeIs, wpAny_getItem_heap (tupleKind_room_in1 hu) (keyL_of I2.hok eb) dd hp ⟨.int i, H2, I2.tok _, ?_, q2 i (e1 ▸ r)⟩⟩
  rw [← e2, e3]
  exact ⟨t, rfl⟩
/-- d[key] = i of such a dict, the key not yet in it -/
def rMemPut (P : Program) (w : World) : TSet := fun o y v H Q => ∃ (a b : Addr) (k : List Leaf) (R : List Leaf → Int → Prop) (n : Nat) (xs : List (List Leaf × Addr × Value)) (i : Int), o = .ref a ∧ y = .ref b ∧ v = .int i ∧ H b = some (.tup (k.map lV)) ∧ MemAt P w H a R n xs ∧ n < 1000000 ∧ R k i ∧
  ∀ (H' : Hp) (xs' : List (List Leaf × Addr × Value)), MemAt P w H' a R (n + 1) xs' → (∀ q u, q ≠ a → H q = some u → H' q = some u) → (atKey xs' k).isSome = true → Q H'
theorem atKey_put {K : Type} [DecidableEq K] (k : K) (v : Value) : ∀ {xs : List (K × Addr × Value)}, (atKey xs k).isSome = true → (atKey (xs.map (putAt k v)) k).isSome = true := by
  intro xs h
  obtain ⟨p, hp⟩ := Option.isSome_iff_exists.mp h
  obtain ⟨x, hx, e1, _⟩ := atKey_mem hp
  unfold atKey
  rw [Option.isSome_map, List.find?_isSome]
  refine ⟨putAt k v x, List.mem_map.mpr ⟨x, hx, rfl⟩, ?_⟩
  unfold putAt
  rw [if_pos e1]
  exact decide_eq_true e1
theorem set_mem (hu : X.A.units + 1 < cLine) : PSet X (rMemPut X.prog X.w) := by
  intro pins s σ H o y v ov iv u Q I ro ri rv h
  obtain ⟨a, b, k, R, n, xs, i, rfl, rfl, rfl, eb, M, hn, r, q⟩ := h
  cases ro
  cases ri
  obtain ⟨t, rfl⟩ := rv
  have dd := mem_dict I M
  have hz : xs.length ≤ sizeLine := by rw [sizeLine_eq]; have := M.few; omega
  refine wpAny_setItem_heap (hsz := hz) (tupleKind_room_in1 hu) (keyL_of I.hok eb) dd fun h' dd' hs => ?_
  obtain ⟨ob, es, ep, hq, h2, h3, h4, _, h5⟩ := dd'
  obtain ⟨_, _, _⟩ := I.hok a _ M.ex
  have new : ObjOk X.prog X.w (upd H a (MemO X.prog X.w a (storedH xs k b (.int i t)))) h' a (MemO X.prog X.w a (storedH xs k b (.int i t))) := by
    refine ⟨⟨ob, es, ep, hq, h2, h3, h4, h5⟩, ⟨ob, hq⟩, fun h1 h2' ⟨o1, es1, ep1, g1, g2⟩ kk => ⟨o1, es1, ep1, kk _ g1, g2⟩⟩
  have far : ∀ q u, q ≠ a → H q = some u → (upd H a (MemO X.prog X.w a (storedH xs k b (.int i t)))) q = some u := fun q u ne e => by rw [upd_ne ne]; exact e
  have tupNe : ∀ {c : Addr} {ys : List V}, H c = some (.tup ys) → c ≠ a := fun ec => ne_of ec M.ex (fun z => nomatch z)
  refine ⟨_, d_write I (by rw [M.ex]; exact True.intro) hs ⟨ob, hq⟩ new, ?_⟩
  by_cases there : (atKey xs k).isSome = true
  · obtain ⟨p, hp⟩ := Option.isSome_iff_exists.mp there
    have es' := storedH_old hp b (.int i t)
    refine q _ (xs.map (putAt k (.int i t))) ⟨by rw [← es']; exact upd_same, by rw [List.length_map]; have := M.few; omega, fun x hx => ?_, M.sys⟩ far (atKey_put k _ there)
    obtain ⟨x0, hx0, rfl⟩ := List.mem_map.mp hx
    obtain ⟨m1, i0, t0, m2, m3⟩ := M.key x0 hx0
    unfold putAt
    by_cases e : x0.1 = k
    · rw [if_pos e]
      exact ⟨far _ _ (tupNe m1) m1, i, t, rfl, e ▸ r⟩
    · rw [if_neg e]
      exact ⟨far _ _ (tupNe m1) m1, i0, t0, m2, m3⟩
  · have hno : atKey xs k = none := by
      cases e : atKey xs k with
      | none => rfl
      | some p => rw [e] at there; exact absurd rfl there
    have es' := storedH_new hno b (.int i t)
    refine q _ (xs ++ [(k, b, .int i t)]) ⟨by rw [← es']; exact upd_same, by rw [List.length_append, List.length_singleton]; have := M.few; omega, fun x hx => ?_, M.sys⟩ far ?_
    · rcases List.mem_append.mp hx with hx | hx
      · obtain ⟨m1, m2⟩ := M.key x hx
        exact ⟨far _ _ (tupNe m1) m1, m2⟩
      · obtain rfl := List.mem_singleton.mp hx
        exact ⟨far _ _ (tupNe eb) eb, i, t, rfl, r⟩
    · unfold atKey
      rw [Option.isSome_map, List.find?_isSome]
      exact ⟨(k, b, .int i t), List.mem_append_right _ (List.mem_singleton.mpr rfl), decide_eq_true rfl⟩
/-- {} as such a dict -/
def tMemNew (P : Program) (w : World) : TE := fun _ H Q => ∀ a, H a = none → (∀ R, MemAt P w (upd H a (MemO P w a [])) a R 0 []) → Q (.ref a) (upd H a (MemO P w a []))
theorem pe_memnew {pos : Pos} : PE X (.Dict [] [] pos) (tMemNew X.prog X.w) := ⟨fun pins s σ H Q I h => by
  have hb := I.big
  have hn := I.hok.fresh (Nat.le_refl s.heap.objs.size)
  have sys : (s.heap.objs.size == sysModules) = false := beq_eq_false_iff_ne.mpr (Ne.symm (Nat.ne_of_lt hb))
  have new : ObjOk X.prog X.w (upd H s.heap.objs.size (MemO X.prog X.w s.heap.objs.size [])) (s.heap.push { cls := .type "dict", data := .dict #[] }) s.heap.objs.size (MemO X.prog X.w s.heap.objs.size []) :=
    ⟨⟨_, #[], 0, Heap.get?_push_size _ rfl, ⟨rfl, rfl, rfl⟩, rfl, rfl, List.nodup_nil⟩, ⟨_, Heap.get?_push_size _ rfl⟩, fun h1 h2' ⟨o1, es1, ep1, g1, g2⟩ kk => ⟨o1, es1, ep1, kk _ g1, g2⟩⟩
  refine wpAny_Dict_empty ⟨.ref s.heap.objs.size, _, I.laid (a := s.heap.objs.size) (o := MemO X.prog X.w s.heap.objs.size []) (t' := s.toks) (fun _ _ q => Heap.get?_push_of_some _ q) (Nat.le_refl _) new, rfl, h _ hn fun R => ⟨upd_same, Nat.le_refl _, fun x hx => absurd hx List.not_mem_nil, sys⟩⟩⟩
end
end My
namespace My
/-! ### the mathematics of the counting -/
/-- the row behind a row -/
def nextRow (most : Nat) (last : List Int) : List Int := 0 :: (List.range most).map fun i : Nat => ((i : Int) + 1) * (last.getD (i + 1) 0 + last.getD i 0)
def rowOf (most : Nat) : Nat → List Int
  | 0 => 1 :: List.replicate most 0
  | j + 1 => nextRow most (rowOf most j)
def tableOf (most j : Nat) : List (List Int) := (List.range (j + 1)).map (rowOf most)
def begun (most a b : Nat) : Int := ((List.range a).map fun i : Nat => (rowOf most a).getD (i + 1) 0 * ((rowOf most b).getD (i + 1) 0 + (rowOf most b).getD i 0)).sum
def turnsM (most t f : Nat) : Int := if t = 0 ∧ f = 0 then 1 else begun most t f + begun most f t
def cmb (n k : Nat) : Int := PySem.W.mcComb (n : Int) (k : Int)
def term (most t f i j : Nat) : Int := cmb t i * cmb f j * turnsM most i j * turnsM most (t - i) (f - j)
def terms (most t f : Nat) : List Int := ((List.range (t + 1)).map fun i => (List.range (f + 1)).map fun j => term most t f i j).flatten
def partedM (most t f : Nat) : Int := (terms most t f).sum
def manyM (k f : Nat) (c : Bool) : Int := if c then partedM (max k f) k f else turnsM (max k f) k f
def ptsM (n k : Nat) : Int := (List.range k).foldl (fun (x : Int) (i : Nat) => (x * ((n : Int) - (i : Int))).fdiv ((i : Int) + 1)) 1
def waysM : Nat → List Nat → Nat → Int
  | 0, _, _ => 1
  | n + 1, l, last => if l.sum = 0 then 1 else ((List.range l.length).map fun at_ => if at_ = last then (0 : Int) else ((List.range (l.getD at_ 0)).map fun s => ptsM (l.getD at_ 0) (s + 1) * waysM n (l.set at_ (l.getD at_ 0 - (s + 1))) at_).sum).sum
/-! ### finite facts -/
theorem small_all : ∀ (t : Fin 6) (f : Fin 4) (c : Fin 2), manyM t.1 f.1 (decide (c.1 = 1)) = waysM 9 [t.1, f.1, c.1] 3 ∧ manyM f.1 t.1 (decide (c.1 = 1)) = waysM 9 [t.1, f.1, c.1] 3 := by decide +kernel
theorem last_all : [manyM 4 4 false, manyM 5 5 false, manyM 6 6 false] = [6902, 329462, 22934774] ∧ [manyM 0 0 false, manyM 0 0 true, manyM 3 3 false] = [1, 1, 230] := by decide +kernel
theorem cmb_all : ∀ (n k : Fin 61), k.1 ≤ n.1 → 0 ≤ cmb n.1 k.1 ∧ cmb n.1 k.1 < 2 ^ 60 := by decide +kernel
theorem pts_all : ∀ (n k : Fin 10), 0 ≤ ptsM n.1 k.1 ∧ ptsM n.1 k.1 < 2 ^ 60 := by decide +kernel
/-! ### bounds -/
theorem row_len (most : Nat) : ∀ j, (rowOf most j).length = most + 1
  | 0 => by unfold rowOf; rw [List.length_cons, List.length_replicate]
  | j + 1 => by unfold rowOf nextRow; rw [List.length_cons, List.length_map, List.length_range]
theorem row_bound (most : Nat) (hm : most ≤ 60) : ∀ j r, 0 ≤ (rowOf most j).getD r 0 ∧ (rowOf most j).getD r 0 ≤ 120 ^ j
  | 0, r => by
    unfold rowOf
    cases r with
    | zero => exact ⟨Int.zero_le_ofNat 1, Int.le_refl 1⟩
    | succ r =>
      rw [List.getD_cons_succ, List.getD_eq_getElem?_getD, List.getElem?_replicate]
      split <;> exact ⟨Int.le_refl 0, Int.zero_le_ofNat 1⟩
  | j + 1, r => by
    unfold rowOf nextRow
    have pos : (0 : Int) ≤ 120 ^ (j + 1) := Int.pow_nonneg (by decide)
    cases r with
    | zero => exact ⟨Int.le_refl 0, pos⟩
    | succ r =>
      rw [List.getD_cons_succ, List.getD_eq_getElem?_getD, List.getElem?_map]
      by_cases hr : r < most
      · rw [List.getElem?_range hr]
        show 0 ≤ ((r : Int) + 1) * _ ∧ ((r : Int) + 1) * _ ≤ _
        obtain ⟨a0, a1⟩ := row_bound most hm j (r + 1)
        obtain ⟨b0, b1⟩ := row_bound most hm j r
        obtain ⟨x, hx⟩ : ∃ x : Int, (rowOf most j).getD (r + 1) 0 + (rowOf most j).getD r 0 = x := ⟨_, rfl⟩
        obtain ⟨y, hy⟩ : ∃ y : Int, (120 : Int) ^ j = y := ⟨_, rfl⟩
        rw [hx, Int.pow_succ, hy]
        rw [hy] at a1 b1
        have h0 : 0 ≤ x := by omega
        have h1 : x ≤ 2 * y := by omega
        refine ⟨Int.mul_nonneg (by omega) h0, ?_⟩
        have m1 : ((r : Int) + 1) * x ≤ 60 * x := Int.mul_le_mul_of_nonneg_right (by omega) h0
        omega
      · rw [List.getElem?_eq_none (by rw [List.length_range]; omega)]
        exact ⟨Int.le_refl 0, pos⟩
end My
namespace My
theorem row0 (most r : Nat) : (rowOf most 0).getD r 0 = if r = 0 then 1 else 0 := by
  unfold rowOf
  cases r with
  | zero => rfl
  | succ r =>
    rw [List.getD_cons_succ, List.getD_eq_getElem?_getD, List.getElem?_replicate, if_neg (show ¬ (r + 1 = 0) by omega)]
    split <;> rfl
theorem rowS (most j r : Nat) : (rowOf most (j + 1)).getD (r + 1) 0 = if r < most then ((r : Int) + 1) * ((rowOf most j).getD (r + 1) 0 + (rowOf most j).getD r 0) else 0 := by
  rw [show rowOf most (j + 1) = nextRow most (rowOf most j) from rfl]
  unfold nextRow
  rw [List.getD_cons_succ, List.getD_eq_getElem?_getD, List.getElem?_map]
  by_cases hr : r < most
  · rw [List.getElem?_range hr, if_pos hr]; rfl
  · rw [List.getElem?_eq_none (by rw [List.length_range]; omega), if_neg hr]; rfl
theorem rowZ (most j : Nat) : (rowOf most (j + 1)).getD 0 0 = 0 := rfl
/-- beyond the many there is nothing -/
theorem row_far (most : Nat) : ∀ j r, j < r → (rowOf most j).getD r 0 = 0
  | 0, r, h => by rw [row0, if_neg (by omega)]
  | j + 1, 0, h => absurd h (Nat.not_lt_zero _)
  | j + 1, r + 1, h => by
    rw [rowS]
    split
    · rw [row_far most j (r + 1) (by omega), row_far most j r (by omega)]
      exact Int.mul_zero _
    · rfl
/-- the first three columns -/
theorem row_cols (most : Nat) : ∀ j, 1 ≤ j → j ≤ most → (rowOf most j).getD 0 0 = 0 ∧ (rowOf most j).getD 1 0 = 1 ∧ (rowOf most j).getD 2 0 = 2 ^ j - 2 ∧ (rowOf most j).getD 3 0 = 3 ^ j - 3 * 2 ^ j + 3
  | 0, h, _ => absurd h (by decide)
  | 1, _, hm => by
    refine ⟨rfl, ?_, ?_, ?_⟩
    · rw [rowS most 0 0, if_pos (by omega), row0, row0]; rfl
    · rw [row_far most 1 2 (by decide)]; rfl
    · rw [row_far most 1 3 (by decide)]; rfl
  | j + 2, _, hm => by
    obtain ⟨h0, h1, h2, h3⟩ := row_cols most (j + 1) (by omega) (by omega)
    obtain ⟨x, hx⟩ : ∃ x : Int, (2 : Int) ^ (j + 1) = x := ⟨_, rfl⟩
    obtain ⟨y, hy⟩ : ∃ y : Int, (3 : Int) ^ (j + 1) = y := ⟨_, rfl⟩
    have px : (2 : Int) ^ (j + 2) = x * 2 := by rw [Int.pow_succ, hx]
    have py : (3 : Int) ^ (j + 2) = y * 3 := by rw [Int.pow_succ, hy]
    rw [hx] at h2 h3
    rw [hy] at h3
    refine ⟨rfl, ?_, ?_, ?_⟩
    · rw [rowS most (j + 1) 0, if_pos (by omega), h0, h1]; rfl
    · rw [rowS most (j + 1) 1, if_pos (by omega), h1, h2, px]
      show ((1 : Int) + 1) * (x - 2 + 1) = x * 2 - 2
      omega
    · by_cases hj : 2 < most
      · rw [rowS most (j + 1) 2, if_pos hj, h2, h3, px, py]
        show ((2 : Int) + 1) * (y - 3 * x + 3 + (x - 2)) = y * 3 - 3 * (x * 2) + 3
        omega
      · obtain rfl : j = 0 := by omega
        rw [row_far most 2 3 (by decide)]; rfl
/-- a sum whose terms end behind the third -/
theorem sum3 (g : Nat → Int) (h : ∀ i, 3 ≤ i → g i = 0) : ∀ a, ((List.range a).map g).sum = (if 0 < a then g 0 else 0) + (if 1 < a then g 1 else 0) + (if 2 < a then g 2 else 0)
  | 0 => rfl
  | a + 1 => by
    rw [List.range_succ, List.map_append, List.sum_append, sum3 g h a]
    simp only [List.map_cons, List.map_nil, List.sum_cons, List.sum_nil]
    match a with
    | 0 => simp
    | 1 => simp
    | 2 => simp
    | a + 3 => rw [h (a + 3) (by omega)]; simp
def colM (b r : Nat) : Int := if b = 0 then (if r = 0 then 1 else 0) else if r = 0 then 0 else if r = 1 then 1 else if r = 2 then 2 ^ b - 2 else 3 ^ b - 3 * 2 ^ b + 3
theorem col_of (most b r : Nat) (hb : b ≤ most) (hr : r ≤ 3) : (rowOf most b).getD r 0 = colM b r := by
  unfold colM
  by_cases h : b = 0
  · subst h
    rw [row0, if_pos rfl]
  · rw [if_neg h]
    obtain ⟨h0, h1, h2, h3⟩ := row_cols most b (by omega) hb
    match r, hr with
    | 0, _ => exact h0
    | 1, _ => exact h1
    | 2, _ => exact h2
    | 3, _ => exact h3
/-- runs of at most three of the one kind, the other one having at most two -/
def begB (a b : Nat) : Int := (if 0 < a then colM a 1 * (colM b 1 + colM b 0) else 0) + (if 1 < a then colM a 2 * (colM b 2 + colM b 1) else 0) + (if 2 < a then colM a 3 * (colM b 3 + colM b 2) else 0)
theorem begun_b (most a b : Nat) (ha : a ≤ most) (hb : b ≤ most) (h2 : a ≤ 2 ∨ b ≤ 2) : begun most a b = begB a b := by
  unfold begun begB
  rw [sum3]
  · rw [col_of most a 1 ha (by decide), col_of most a 2 ha (by decide), col_of most a 3 ha (by decide), col_of most b 0 hb (by decide), col_of most b 1 hb (by decide), col_of most b 2 hb (by decide), col_of most b 3 hb (by decide)]
  · intro i hi
    rcases h2 with h2 | h2
    · rw [row_far most a (i + 1) (by omega)]
      exact Int.zero_mul _
    · rw [row_far most b (i + 1) (by omega), row_far most b i (by omega)]
      exact Int.mul_zero _
def turnsB (t f : Nat) : Int := if t = 0 ∧ f = 0 then 1 else begB t f + begB f t
theorem turns_b (most t f : Nat) (ht : t ≤ most) (hf : f ≤ most) (h2 : t ≤ 2 ∨ f ≤ 2) : turnsM most t f = turnsB t f := by
  unfold turnsM turnsB
  rw [begun_b most t f ht hf h2, begun_b most f t hf ht h2.symm]
def partedB (t f : Nat) : Int := (((List.range (t + 1)).map fun i => (List.range (f + 1)).map fun j => cmb t i * cmb f j * turnsB i j * turnsB (t - i) (f - j)).flatten).sum
theorem parted_b (most t f : Nat) (ht : t ≤ most) (hf : f ≤ most) (h2 : t ≤ 2 ∨ f ≤ 2) : partedM most t f = partedB t f := by
  unfold partedM terms partedB
  congr 2
  refine List.map_congr_left fun i hi => List.map_congr_left fun j hj => ?_
  have hi' := List.mem_range.mp hi
  have hj' := List.mem_range.mp hj
  unfold term
  rw [turns_b most i j (by omega) (by omega) (by omega), turns_b most (t - i) (f - j) (by omega) (by omega) (by omega)]
def manyB (k f : Nat) (c : Bool) : Int := if c then partedB k f else turnsB k f
theorem many_b (k f : Nat) (c : Bool) (h2 : k ≤ 2 ∨ f ≤ 2) : manyM k f c = manyB k f c := by
  unfold manyM manyB
  cases c
  · exact turns_b _ _ _ (Nat.le_max_left _ _) (Nat.le_max_right _ _) h2
  · exact parted_b _ _ _ (Nat.le_max_left _ _) (Nat.le_max_right _ _) h2
theorem great_b1 : ∀ m : Fin 60, [manyB (m.1 + 1) 0 false, manyB 0 (m.1 + 1) true, manyB (m.1 + 1) 1 false] =
    [1, 2 ^ (m.1 + 1), 2 ^ (m.1 + 1)] := by decide +kernel
theorem great_b2 : ∀ m : Fin 60, [manyB 1 (m.1 + 1) true, manyB 2 (m.1 + 1) false] =
    [2 * 3 ^ (m.1 + 1), 2 * 3 ^ (m.1 + 1) - 2 ^ (m.1 + 1)] := by decide +kernel
theorem great_b3 : ∀ m : Fin 60, manyB (m.1 + 1) 2 true = 6 * 4 ^ (m.1 + 1) - 2 * 3 ^ (m.1 + 1) := by decide +kernel
theorem great_all {m : Nat} (h1 : 1 ≤ m) (h2 : m ≤ 60) : manyM m 0 false = 1 ∧ manyM 0 m true = 2 ^ m ∧ manyM m 1 false = 2 ^ m ∧ manyM 1 m true = 2 * 3 ^ m ∧ manyM 2 m false = 2 * 3 ^ m - 2 ^ m ∧ manyM m 2 true = 6 * 4 ^ m - 2 * 3 ^ m := by
  obtain ⟨n, rfl⟩ : ∃ n, m = n + 1 := ⟨m - 1, by omega⟩
  have hb1 := great_b1 ⟨n, by omega⟩
  have hb2 := great_b2 ⟨n, by omega⟩
  have hb3 := great_b3 ⟨n, by omega⟩
  simp only [List.cons.injEq, and_true] at hb1 hb2 hb3
  rw [many_b _ _ _ (by omega), many_b _ _ _ (by omega), many_b _ _ _ (by omega), many_b _ _ _ (by omega), many_b _ _ _ (by omega), many_b _ _ _ (by omega)]
  exact ⟨hb1.1, hb1.2.1, hb1.2.2, hb2.1, hb2.2, hb3⟩
end My
namespace My
theorem sum_bound (g : Nat → Int) (B : Int) : ∀ a, (∀ i, i < a → 0 ≤ g i ∧ g i ≤ B) → 0 ≤ ((List.range a).map g).sum ∧ ((List.range a).map g).sum ≤ (a : Int) * B
  | 0, _ => ⟨Int.le_refl 0, by simp⟩
  | a + 1, h => by
    obtain ⟨h0, h1⟩ := sum_bound g B a fun i hi => h i (by omega)
    obtain ⟨g0, g1⟩ := h a (by omega)
    rw [List.range_succ, List.map_append, List.sum_append]
    simp only [List.map_cons, List.map_nil, List.sum_cons, List.sum_nil]
    have e : ((a + 1 : Nat) : Int) * B = (a : Int) * B + B := by
      rw [Int.natCast_add, Int.add_mul]
      simp
    rw [e]
    exact ⟨by omega, by omega⟩
def rowB : Int := 120 ^ 60
theorem row_le {most j r : Nat} (hm : most ≤ 60) (hj : j ≤ 60) : 0 ≤ (rowOf most j).getD r 0 ∧ (rowOf most j).getD r 0 ≤ rowB := by
  obtain ⟨h0, h1⟩ := row_bound most hm j r
  refine ⟨h0, Int.le_trans h1 ?_⟩
  unfold rowB
  have h := Nat.pow_le_pow_right (n := 120) (by decide) hj
  exact_mod_cast h
def begB' : Int := 60 * (rowB * (rowB + rowB))
theorem begun_le {most a b : Nat} (hm : most ≤ 60) (ha : a ≤ 60) (hb : b ≤ 60) : 0 ≤ begun most a b ∧ begun most a b ≤ begB' := by
  unfold begun
  obtain ⟨h0, h1⟩ := sum_bound (fun i : Nat => (rowOf most a).getD (i + 1) 0 * ((rowOf most b).getD (i + 1) 0 + (rowOf most b).getD i 0)) (rowB * (rowB + rowB)) a fun i hi => by
    obtain ⟨x0, x1⟩ := row_le (r := i + 1) hm ha
    obtain ⟨y0, y1⟩ := row_le (r := i + 1) hm hb
    obtain ⟨z0, z1⟩ := row_le (r := i) hm hb
    exact ⟨Int.mul_nonneg x0 (by omega), Int.mul_le_mul x1 (by omega) (by omega) (by unfold rowB; decide)⟩
  refine ⟨h0, Int.le_trans h1 ?_⟩
  unfold begB'
  exact Int.mul_le_mul_of_nonneg_right (by omega) (by unfold rowB; decide)
theorem turns_le {most a b : Nat} (hm : most ≤ 60) (ha : a ≤ 60) (hb : b ≤ 60) : 0 ≤ turnsM most a b ∧ turnsM most a b ≤ begB' + begB' := by
  unfold turnsM
  split
  · exact ⟨by decide, by unfold begB' rowB; decide⟩
  · obtain ⟨x0, x1⟩ := begun_le hm ha hb
    obtain ⟨y0, y1⟩ := begun_le hm hb ha
    exact ⟨by omega, by omega⟩
theorem row_small {most j r : Nat} (hm : most ≤ 60) (hj : j ≤ 60) : ((rowOf most j).getD r 0).natAbs < 2 ^ 1000 := by
  obtain ⟨h0, h1⟩ := row_le (r := r) hm hj
  have h2 : rowB.natAbs < 2 ^ 1000 := by unfold rowB; decide +kernel
  omega
theorem row2_small {most j r q : Nat} (hm : most ≤ 60) (hj : j ≤ 60) : ((rowOf most j).getD r 0 + (rowOf most j).getD q 0).natAbs < 2 ^ 1000 := by
  obtain ⟨h0, h1⟩ := row_le (r := r) hm hj
  obtain ⟨k0, k1⟩ := row_le (r := q) hm hj
  have h2 : (rowB + rowB).natAbs < 2 ^ 1000 := by unfold rowB; decide +kernel
  omega
theorem turns_small {most a b : Nat} (hm : most ≤ 60) (ha : a ≤ 60) (hb : b ≤ 60) : (turnsM most a b).natAbs < 2 ^ 1000 := by
  obtain ⟨h0, h1⟩ := turns_le hm ha hb
  have h2 : (begB' + begB').natAbs < 2 ^ 1000 := by unfold begB' rowB; decide +kernel
  omega
theorem cmb_small {n k : Nat} (hn : n ≤ 60) (hk : k ≤ n) : 0 ≤ cmb n k ∧ cmb n k < 2 ^ 60 := cmb_all ⟨n, by omega⟩ ⟨k, by omega⟩ hk
theorem two_small {n k m j : Nat} (hn : n ≤ 60) (hk : k ≤ n) (hm : m ≤ 60) (hj : j ≤ m) : (cmb n k * cmb m j).natAbs < 2 ^ 120 := by
  obtain ⟨a0, a1⟩ := cmb_small hn hk
  obtain ⟨b0, b1⟩ := cmb_small hm hj
  rw [Int.natAbs_mul, show (2 : Nat) ^ 120 = 2 ^ 60 * 2 ^ 60 from rfl]
  exact Nat.mul_lt_mul'' (by omega) (by omega)
end My
namespace My
open PySem PySem.Spec PyProof.Rows L2
def topS (i : Nat) : Stmt := PySem.Challenge.pw_layerseen_k39_how_many_classes.main.body.getD i (.Pass ⟨0, 0, 0, 0⟩)
abbrev sTable : Stmt := topS 7
abbrev sWhole : Stmt := topS 10
abbrev sIndex : Stmt := topS 11
abbrev sCopied : Stmt := topS 12
abbrev sMany : Stmt := topS 18
abbrev sPen : Stmt := topS 20
abbrev sDraw : Stmt := topS 21
abbrev sPick : Stmt := topS 22
abbrev sParts : Stmt := topS 24
abbrev sWays : Stmt := topS 25
abbrev sHeard : Stmt := topS 26
abbrev sGreat : Stmt := topS 27
abbrev sRefused : Stmt := topS 28
abbrev sLaw : Stmt := topS 29
abbrev sIniB : Stmt := inClass (topS 15) 0
abbrev sCntI : Stmt := inClass (topS 6) 0
abbrev sNumber : Stmt := inClass (topS 6) 1
abbrev sParted : Stmt := inClass (topS 6) 2
abbrev sTurns : Stmt := inClass (topS 6) 3
abbrev sBegun : Stmt := inClass (topS 6) 4
structure Txt (mg : Str → Option Value) : Prop where
  int : mg "int" = none
  bool : mg "bool" = none
  len : mg "len" = none
  abs : mg "abs" = none
  list : mg "list" = none
  tuple : mg "tuple" = none
  dict : mg "dict" = none
  range : mg "range" = none
  isi : mg "isinstance" = none
  repr : mg "repr" = none
  sum : mg "sum" = none
  max : mg "max" = none
  enum : mg "enumerate" = none
  comb : mg "comb" = some (.builtin "math.comb")
/-- no value without parts is a paper -/
structure NoPap (K : PySem.W.Frag) (mg : Str → Option Value) (C : Addr) : Prop where
  g : mg "Paper" = some (.ref C)
  kit : ∀ T ∈ ["NoneType", "bool", "int", "str"], PySem.W.kitOne K (.type T) (.ref C) = some false
theorem pe_never {X : Cx} {e : Expr} : PE X e (fun _ _ _ => False) := ⟨fun _ _ _ _ _ _ h => h.elim⟩
def Same' (H H' : Hp) : Prop := ∀ q o, H q = some o → H' q = some o
theorem Same'.trans {H1 H2 H3 : Hp} (h : Same' H1 H2) (k : Same' H2 H3) : Same' H1 H3 := fun b o e => k b o (h b o e)
theorem same_new {H : Hp} {p : Addr} {o : HO} (h : H p = none) : Same' H (upd H p o) := fun b x e => by
  rw [upd_ne (ne_of_none e h)]
  exact e
theorem same_over {H H1 : Hp} {p : Addr} {o : HO} (h : H p = none) (k : Same' H H1) : Same' H (upd H1 p o) := fun b x e => by
  rw [upd_ne (ne_of_none e h)]
  exact k _ _ e
theorem fl_not {K : PySem.W.Frag} {H : Hp} {x : V} {d : PyData} (h : Fl x d) (T : String) (hT : T = "list" ∨ T = "tuple" ∨ T = "dict") : ∃ S, TyX K H x (.type S) ∧ kitB S T = some false := by
  cases h with
  | non => exact ⟨"NoneType", .base .non, by rcases hT with rfl | rfl | rfl <;> decide +kernel⟩
  | bl b => exact ⟨"bool", .base (.bl b), by rcases hT with rfl | rfl | rfl <;> decide +kernel⟩
  | int i => exact ⟨"int", .base (.int i), by rcases hT with rfl | rfl | rfl <;> decide +kernel⟩
  | str z => exact ⟨"str", .base (.str z), by rcases hT with rfl | rfl | rfl <;> decide +kernel⟩
def spFlat : Sp := fun vs H Q _ => ∃ (x : V) (d : PyData), vs = [x] ∧ Fl x d ∧ Q x H
def spCopied : Sp := fun vs H Q _ => ∃ (x : V) (d : PyData), vs = [x] ∧ Th H x d ∧ ∀ y H', Same' H H' → Th H' y d → Q y H'
section
variable {P : Program} {w : World} {K : PySem.W.Frag} {mg : Str → Option Value} {base : Heap}
abbrev nCop : List Str := ["value", "item", "key"]
theorem scCop : FnScope nCop ["value"] (defScope sCopied) := ⟨rfl, rfl, rfl, by decide +kernel, rfl, by decide +kernel, by decide +kernel⟩
theorem fl_pap {C : Addr} {H : Hp} {x : V} {d : PyData} (N : NoPap K mg C) (h : Fl x d) : ∃ t, TyX K H x t ∧ PySem.W.kitOne K t (.ref C) = some false := by
  cases h with
  | non => exact ⟨_, .base .non, N.kit _ (by simp)⟩
  | bl b => exact ⟨_, .base (.bl b), N.kit _ (by simp)⟩
  | int i => exact ⟨_, .base (.int i), N.kit _ (by simp)⟩
  | str z => exact ⟨_, .base (.str z), N.kit _ (by simp)⟩
theorem ok_flat {f CP : Addr} {fd : FuncData} (F : Fun K "copied" "copied" sCopied f fd) (NP : NoPap K mg CP) (T : Txt mg) : FnOk P w K mg base CX0 1 f fd ["value"] spFlat := by
  refine F.ok scCop (fun vs H Q E h => ?_) (fun cdv A outer s H vs Q E hr h => ?_)
  · obtain ⟨x, d, rfl, _⟩ := h
    rfl
  · obtain ⟨x, d, rfl, fl, q⟩ := h
    refine ⟨_, pss_cons (ps_if (pt_val (pe_callB call_isi (by rfl) T.isi (by decide +kernel) (pa_cons (pv 0) (pa_cons (pe_bltn (by rfl) T.list (by decide +kernel) (show RelV (.ty "list") _ from rfl)) pa_nil)))) (pss_one ps_never) pss_nil)
      (pss_cons (ps_if (pt_val (pe_callB call_isi (by rfl) T.isi (by decide +kernel) (pa_cons (pv 0) (pa_cons (pe_bltn (by rfl) T.tuple (by decide +kernel) (show RelV (.ty "tuple") _ from rfl)) pa_nil)))) (pss_one ps_never) pss_nil)
      (pss_cons (ps_if (pt_val (pe_callB call_isi (by rfl) T.isi (by decide +kernel) (pa_cons (pv 0) (pa_cons (pe_bltn (by rfl) T.dict (by decide +kernel) (show RelV (.ty "dict") _ from rfl)) pa_nil)))) (pss_one ps_never) pss_nil)
      (pss_cons (ps_if (pt_val (pe_callB call_isi (by rfl) T.isi (by decide +kernel) (pa_cons (pv 0) (pa_cons (pe_glob (v := .ref CP) rfl NP.g rfl) pa_nil)))) (pss_one ps_never) pss_nil)
      (pss_one (ps_ret (pv 0)))))), ?_⟩
    obtain ⟨S1, t1, k1⟩ := fl_not (K := K) (H := H) fl "list" (by simp)
    obtain ⟨S2, t2, k2⟩ := fl_not (K := K) (H := H) fl "tuple" (by simp)
    obtain ⟨S3, t3, k3⟩ := fl_not (K := K) (H := H) fl "dict" (by simp)
    refine ⟨x, rfl, x, .ty "list", .type S1, .type "list", false, rfl, .ty "list", t1, kit_ty k1, false, rfl, iteF ?_⟩
    refine ⟨x, rfl, x, .ty "tuple", .type S2, .type "tuple", false, rfl, .ty "tuple", t2, kit_ty k2, false, rfl, iteF ?_⟩
    refine ⟨x, rfl, x, .ty "dict", .type S3, .type "dict", false, rfl, .ty "dict", t3, kit_ty k3, false, rfl, iteF ?_⟩
    obtain ⟨t4, ty4, k4⟩ := fl_pap (H := H) NP fl
    refine ⟨x, rfl, x, .ref CP, t4, .ref CP, false, rfl, .own _, ty4, k4, false, rfl, iteF ?_⟩
    exact ⟨x, rfl, q⟩
theorem fls_get : ∀ {xs : List V} {ds : List PyData} {i : Nat} {x : V}, Fls xs ds → xs[i]? = some x → ∃ d, Fl x d
  | _, _, _, _, .nil, h => by simp at h
  | _, _, 0, _, .cons h _, e => by
    simp at e
    subst e
    exact ⟨_, h⟩
  | _, _, i + 1, _, .cons _ r, e => fls_get (i := i) r (by simpa using e)
theorem ok_copied {f CP : Addr} {fd : FuncData} (F : Fun K "copied" "copied" sCopied f fd) (NP : NoPap K mg CP) (T : Txt mg) (b : Binds K fd ["value"] []) (g : mg "copied" = some (.ref f)) : FnOk P w K mg base CX0 2 f fd ["value"] spCopied := by
  have G : FnOk P w K mg base CX0 1 f fd ["value"] spFlat := ok_flat F NP T
  refine F.ok scCop (fun vs H Q E h => ?_) (fun cdv A outer s H vs Q E hr h => ?_)
  · obtain ⟨x, d, rfl, _⟩ := h
    rfl
  · obtain ⟨x, d, rfl, th, q⟩ := h
    refine ⟨_, pss_cons (ps_if (pt_val (pe_callB call_isi (by rfl) T.isi (by decide +kernel) (pa_cons (pv 0) (pa_cons (pe_bltn (by rfl) T.list (by decide +kernel) (show RelV (.ty "list") _ from rfl)) pa_nil))))
        (pss_one (ps_ret (pe_lc (own := [("item", 1)]) (g := gName 1) (tt := tYes) rfl scCop.nd (pi_list (pv 0)) (blkOk_by (N := nCop) (sc := defScope sCopied) (by decide +kernel)) (fun _ _ _ _ _ => pg_name (i := 1) scCop.nd rfl (Or.inl rfl)) (fun _ _ _ _ _ => pts_nil)
          (fun _ _ _ _ _ => pe_call G hr (by rfl) g F.kp b .nil pass0 (pa_cons (pv 1) pa_nil))))) pss_nil)
      (pss_cons (ps_if (pt_val (pe_callB call_isi (by rfl) T.isi (by decide +kernel) (pa_cons (pv 0) (pa_cons (pe_bltn (by rfl) T.tuple (by decide +kernel) (show RelV (.ty "tuple") _ from rfl)) pa_nil))))
        (pss_one (ps_ret (pe_callTy call_tuple_of (by rfl) T.tuple (by decide +kernel) (pa_cons (pe_lc (own := [("item", 1)]) (g := gName 1) (tt := tYes) rfl scCop.nd (pi_tup (pv 0)) (blkOk_by (N := nCop) (sc := defScope sCopied) (by decide +kernel)) (fun _ _ _ _ _ => pg_name (i := 1) scCop.nd rfl (Or.inl rfl)) (fun _ _ _ _ _ => pts_nil)
          (fun _ _ _ _ _ => pe_call G hr (by rfl) g F.kp b .nil pass0 (pa_cons (pv 1) pa_nil))) pa_nil)))) pss_nil)
      (pss_cons (ps_if (pt_val (pe_callB call_isi (by rfl) T.isi (by decide +kernel) (pa_cons (pv 0) (pa_cons (pe_bltn (by rfl) T.dict (by decide +kernel) (show RelV (.ty "dict") _ from rfl)) pa_nil))))
        (pss_one (ps_ret (pe_lock (pe_dc (own := [("key", 2)]) (g := gName 2) (tt := tYes) rfl scCop.nd (pi_keys (pv 0)) (blkOk_by (N := nCop) (sc := defScope sCopied) (by decide +kernel)) (fun _ _ _ _ _ => pg_name (i := 2) scCop.nd rfl (Or.inl rfl)) (fun _ _ _ _ _ => pts_nil)
          (fun _ _ _ _ _ => pe_never) (fun _ _ _ _ _ => pe_never))))) pss_nil)
      (pss_cons (ps_if (pt_val (pe_callB call_isi (by rfl) T.isi (by decide +kernel) (pa_cons (pv 0) (pa_cons (pe_glob (v := .ref CP) rfl NP.g rfl) pa_nil)))) (pss_one ps_never) pss_nil)
      (pss_one (ps_ret (pv 0)))))), ?_⟩
    cases th with
    | flat fl =>
      obtain ⟨S1, t1, k1⟩ := fl_not (K := K) (H := H) fl "list" (by simp)
      obtain ⟨S2, t2, k2⟩ := fl_not (K := K) (H := H) fl "tuple" (by simp)
      obtain ⟨S3, t3, k3⟩ := fl_not (K := K) (H := H) fl "dict" (by simp)
      refine ⟨x, rfl, x, .ty "list", .type S1, .type "list", false, rfl, .ty "list", t1, kit_ty k1, false, rfl, iteF ?_⟩
      refine ⟨x, rfl, x, .ty "tuple", .type S2, .type "tuple", false, rfl, .ty "tuple", t2, kit_ty k2, false, rfl, iteF ?_⟩
      refine ⟨x, rfl, x, .ty "dict", .type S3, .type "dict", false, rfl, .ty "dict", t3, kit_ty k3, false, rfl, iteF ?_⟩
      obtain ⟨t4, ty4, k4⟩ := fl_pap (H := H) NP fl
      refine ⟨x, rfl, x, .ref CP, t4, .ref CP, false, rfl, .own _, ty4, k4, false, rfl, iteF ?_⟩
      exact ⟨x, rfl, q x H (fun _ _ e => e) (.flat fl)⟩
    | @lst a xs ds h k n =>
      refine ⟨.ref a, rfl, .ref a, .ty "list", .type "list", .type "list", true, rfl, .ty "list", .base (.lst h), kit_ty (by decide +kernel), true, rfl, iteT ?_⟩
      refine ⟨.ref a, rfl, a, rfl, ⟨_, SqL.of h⟩, fun D hD => ?_⟩
      refine lc_list (K := K) (a := a) (xs := xs) (fun i H' => Same' H H' ∧ H' D = some (.lst (xs.take i))) ⟨same_new hD, upd_same⟩ (fun i H' _ hp => SqL.of (hp.1 _ _ h)) (fun i x H' hx hp => ?_) (fun H' hp => ?_)
      · obtain ⟨sm, ed⟩ := hp
        obtain ⟨d, fl⟩ := fls_get k hx
        refine ⟨rfl, ?_⟩
        refine ⟨x, rfl, x, d, rfl, fl, _, ed, ?_, same_over hD sm, ?_⟩
        · exact small1000 (by rw [List.length_take]; omega)
        · rw [upd_same, List.take_add_one, hx]
          rfl
      · obtain ⟨sm, ed⟩ := hp
        rw [List.take_length] at ed
        exact q _ _ sm (.lst ed k n)
    | @tup a xs ds h k n =>
      refine ⟨.ref a, rfl, .ref a, .ty "list", .type "tuple", .type "list", false, rfl, .ty "list", .base (.tup h), kit_ty (by decide +kernel), false, rfl, iteF ?_⟩
      refine ⟨.ref a, rfl, .ref a, .ty "tuple", .type "tuple", .type "tuple", true, rfl, .ty "tuple", .base (.tup h), kit_ty (by decide +kernel), true, rfl, iteT ?_⟩
      refine ⟨.ref a, rfl, a, rfl, ⟨_, SqT.of h⟩, fun D hD => ?_⟩
      refine lc_tup (K := K) (a := a) (xs := xs) (fun i H' => Same' H H' ∧ H' D = some (.lst (xs.take i))) ⟨same_new hD, upd_same⟩ (fun i H' _ hp => SqT.of (hp.1 _ _ h)) (fun i x H' hx hp => ?_) (fun H' hp => ?_)
      · obtain ⟨sm, ed⟩ := hp
        obtain ⟨d, fl⟩ := fls_get k hx
        refine ⟨rfl, ?_⟩
        refine ⟨x, rfl, x, d, rfl, fl, _, ed, ?_, same_over hD sm, ?_⟩
        · exact small1000 (by rw [List.length_take]; omega)
        · rw [upd_same, List.take_add_one, hx]
          rfl
      · obtain ⟨sm, ed⟩ := hp
        rw [List.take_length] at ed
        refine ⟨D, _, rfl, .inl ⟨SqL.of ed, fun l hl => ?_⟩⟩
        exact q _ _ (fun b o e => same_new hl b o (sm b o e)) (.tup upd_same k n)
    | @dct a h =>
      refine ⟨.ref a, rfl, .ref a, .ty "list", .type "dict", .type "list", false, rfl, .ty "list", .base (.dK h), kit_ty (by decide +kernel), false, rfl, iteF ?_⟩
      refine ⟨.ref a, rfl, .ref a, .ty "tuple", .type "dict", .type "tuple", false, rfl, .ty "tuple", .base (.dK h), kit_ty (by decide +kernel), false, rfl, iteF ?_⟩
      refine ⟨.ref a, rfl, .ref a, .ty "dict", .type "dict", .type "dict", true, rfl, .ty "dict", .base (.dK h), kit_ty (by decide +kernel), true, rfl, iteT ?_⟩
      refine ⟨a, .dK [], h, trivial, fun od => ⟨.ref a, rfl, a, od, rfl, .inl ⟨[], upd_same, fun D hD => ?_⟩⟩⟩
      have nDa : D ≠ a := fun z => by
        rw [z, upd_same] at hD
        cases hD
      have hD0 : H D = none := by
        rw [upd_ne nDa] at hD
        exact hD
      have atA : (upd (upd H a (.frz od (.dK []))) D (.dK [])) a = some (.frz od (.dK [])) := by rw [upd_ne (Ne.symm nDa), upd_same]
      refine ⟨fun i m H' => H' = upd (upd H a (.frz od (.dK []))) D (.dK []), ⟨0, rfl⟩, fun i m H' hw => .inl ?_⟩
      subst hw
      refine ⟨⟨atA, Nat.zero_le _⟩, atA, q _ _ (fun c o e => ?_) (.dct (by rw [upd_ne nDa, upd_same]))⟩
      by_cases hc : c = a
      · rw [hc, upd_same]
        rw [hc, h] at e
        exact e
      · rw [upd_ne hc, upd_ne (ne_of_none e hD0), upd_ne hc]
        exact e
end
end My
namespace My
open PySem PySem.Spec PyProof.Rows L2
/-- self.value = copied(value) -/
def spIni (K : PySem.W.Frag) (C : Addr) : Sp := fun vs H Q _ => ∃ (a : Addr) (x : V) (d : PyData), vs = [.ref a, x] ∧ H a = some (exo a C none) ∧ Th H x d ∧
  ∀ (y : V) (dx : Addr) (H' : Hp), (∀ b o, b ≠ a → H b = some o → H' b = some o) → H dx = none → H' a = some (exo a C (some dx)) → H' dx = some (exd dx [("value", y)]) → Th H' y d → Q .non H'
/-- an error class with the field value, as the top has made it -/
structure Err (K : PySem.W.Frag) (mg : Str → Option Value) (name : String) (C fI : Addr) : Prop where
  g : mg name = some (.ref C)
  ox : OexC K C
  ini : PySem.W.findIn K (.ref C) "__init__" = some (some (.ref fI))
  ty : PySem.W.typeIn K (.ref fI) = some (.type "function")
  no : PySem.W.findIn K (.ref C) "value" = some none
theorem th_exo {H : Hp} {x : V} {d : PyData} {a C : Addr} (h : Th H x d) (ha : H a = some (exo a C none)) {H' : Hp} (k : ∀ b o, b ≠ a → H b = some o → H' b = some o) : Th H' x d := by
  have ne : ∀ {b : Addr} {o : HO}, H b = some o → o ≠ exo a C none → b ≠ a := fun e n z => by
    rw [z, ha] at e
    injection e with e
    exact n e.symm
  cases h with
  | flat h => exact .flat h
  | lst h r n => exact .lst (k _ _ (ne h (by intro z; cases z)) h) r n
  | tup h r n => exact .tup (k _ _ (ne h (by intro z; cases z)) h) r n
  | dct h => exact .dct (k _ _ (ne h (by intro z; cases z)) h)
section
variable {P : Program} {w : World} {K : PySem.W.Frag} {mg : Str → Option Value} {base : Heap}
theorem scIniB : FnScope ["self", "value"] ["self", "value"] (defScope sIniB) := ⟨rfl, rfl, rfl, by decide +kernel, rfl, by decide +kernel, by decide +kernel⟩
theorem ini_read {C : Addr} (ox : OexC K C) (no : PySem.W.findIn K (.ref C) "value" = some none) {vs : List V} {H : Hp} {Q : VK} {E E2 : XK} {N : List Str} (h : spIni K C vs H Q E) (hN : N = (["self", "value"] : List Str)) :
    tOst K "value" (tVar 0) (tCall spCopied [] E2 (tCons (tVar 1) tNil)) { nx := fun _ H' => Q .non H', rt := Q } (start N vs) H := by
  subst hN
  obtain ⟨a, x, d, rfl, ha, th, q⟩ := h
  refine ⟨x, rfl, x, d, rfl, th, fun y H1 sm th1 => ⟨.ref a, rfl, a, C, rfl, ox, no, .inl ⟨sm _ _ ha, fun dx hdx ne => ?_⟩⟩⟩
  have hd0 : H dx = none := by
    cases e : H dx with
    | none => rfl
    | some o =>
      rw [sm _ _ e] at hdx
      cases hdx
  have keep1 : ∀ b o, b ≠ a → H1 b = some o → (upd (upd H1 dx (exd dx [("value", y)])) a (exo a C (some dx))) b = some o := fun b o n e => by
    rw [upd_ne n, upd_ne (ne_of_none e hdx)]
    exact e
  refine q y dx _ (fun b o n e => keep1 b o n (sm b o e)) hd0 upd_same ?_ (th_exo th1 (sm _ _ ha) keep1)
  rw [upd_ne ne, upd_same]
theorem ok_iniB {f fC C : Addr} {fd fdC : FuncData} (F : Fun K "__init__" "BadNumber.__init__" sIniB f fd) (ox : OexC K C) (no : PySem.W.findIn K (.ref C) "value" = some none) (FC : Fun K "copied" "copied" sCopied fC fdC) (b : Binds K fdC ["value"] []) (g : mg "copied" = some (.ref fC))
    (G : FnOk P w K mg base CX0 2 fC fdC ["value"] spCopied) : FnOk P w K mg base CX0 3 f fd ["self", "value"] (spIni K C) := by
  refine F.ok scIniB (fun vs H Q E h => ?_) (fun cdv A outer s H vs Q E hr h => ?_)
  · obtain ⟨a, x, d, rfl, _⟩ := h
    rfl
  · exact ⟨_, pss_one (ps_ost (pv 0) (pe_call G hr (by rfl) g FC.kp b .nil pass0 (pa_cons (pv 1) pa_nil))), ini_read ox no h rfl⟩
/-- what is told of a raised error with the field value -/
def Told (E : XK) (C : Addr) (H : Hp) (d : PyData) : Prop := ∀ (y : V) (dd : Addr) (H' : Hp), Same' H H' → H' dd = some (.xd [("value", y)]) → Th H' y d → E (.ref C) (some dd) H'
/-- what is raised is told -/
theorem raised {C fI : Addr} {x : V} {d : PyData} {H : Hp} {E : XK} (th : Th H x d) (told : Told E C H d) : ∀ a, H a = none → spIni K C (.ref a :: ([x] ++ [])) (upd H a (exo a C none))
    (fun v H2 => v = .non ∧ ∃ (dd : Addr) (fs : List (Str × V)), H2 a = some (exo a C (some dd)) ∧ H2 dd = some (exd dd fs) ∧ H dd = none ∧ E (.ref C) (some dd) (upd (del H2 a) dd (.xd fs))) (fun _ _ _ => False) := by
  intro a ha
  refine ⟨a, x, d, rfl, upd_same, th.keep fun b o e => by rw [upd_ne (ne_of_none e ha)]; exact e, fun y dx H' keep hdx ea ed th' => ⟨rfl, dx, _, ea, ed, ?_, ?_⟩⟩
  · have n : dx ≠ a := fun z => by
      rw [z, upd_same] at hdx
      cases hdx
    rw [upd_ne n] at hdx
    exact hdx
  · have n : dx ≠ a := fun z => by
      rw [z, upd_same] at hdx
      cases hdx
    rw [upd_ne n] at hdx
    have up : ∀ b o, b ≠ a → b ≠ dx → H' b = some o → (upd (del H' a) dx (.xd [("value", y)])) b = some o := fun b o n1 n2 e => by
      rw [upd_ne n2, del_ne n1]
      exact e
    refine told y dx _ (fun b o e => ?_) upd_same ?_
    · have n1 : b ≠ a := ne_of_none e ha
      have n2 : b ≠ dx := ne_of_none e hdx
      exact up b o n1 n2 (keep b o n1 (by rw [upd_ne n1]; exact e))
    · cases th' with
      | flat h => exact .flat h
      | lst h r n => exact .lst (up _ _ (fun z => by rw [z, ea] at h; cases h) (fun z => by rw [z, ed] at h; cases h) h) r n
      | tup h r n => exact .tup (up _ _ (fun z => by rw [z, ea] at h; cases h) (fun z => by rw [z, ed] at h; cases h) h) r n
      | dct h => exact .dct (up _ _ (fun z => by rw [z, ea] at h; cases h) (fun z => by rw [z, ed] at h; cases h) h)
end
def isW (x : V) : Bool := match x with
  | .int _ => true
  | _ => false
def spWhole : Sp := fun vs H Q _ => ∃ (x : V) (d : PyData), vs = [x] ∧ Th H x d ∧ Q (.bl (isW x)) H
theorem th_kinds {K : PySem.W.Frag} {H : Hp} {x : V} {d : PyData} (h : Th H x d) : ∃ (S : String) (b : Bool), TyX K H x (.type S) ∧ kitB S "int" = some b ∧ (b = true → ∃ c, kitB S "bool" = some c ∧ isW x = !c) ∧ (b = false → isW x = false) := by
  cases h with
  | flat h =>
    cases h with
    | non => exact ⟨"NoneType", false, .base .non, by decide +kernel, (fun z => nomatch z), fun _ => rfl⟩
    | bl b => exact ⟨"bool", true, .base (.bl b), by decide +kernel, fun _ => ⟨true, by decide +kernel, rfl⟩, fun z => nomatch z⟩
    | int i => exact ⟨"int", true, .base (.int i), by decide +kernel, fun _ => ⟨false, by decide +kernel, rfl⟩, fun z => nomatch z⟩
    | str z => exact ⟨"str", false, .base (.str z), by decide +kernel, (fun z => nomatch z), fun _ => rfl⟩
  | lst h k n => exact ⟨"list", false, .base (.lst h), by decide +kernel, (fun z => nomatch z), fun _ => rfl⟩
  | tup h k n => exact ⟨"tuple", false, .base (.tup h), by decide +kernel, (fun z => nomatch z), fun _ => rfl⟩
  | dct h => exact ⟨"dict", false, .base (.dK h), by decide +kernel, (fun z => nomatch z), fun _ => rfl⟩
theorem told_more {E : XK} {C : Addr} {H H' : Hp} {d : PyData} (t : Told E C H d) (sm : Same' H H') : Told E C H' d := fun y dd H2 k => t y dd H2 (sm.trans k)
section
variable {P : Program} {w : World} {K : PySem.W.Frag} {mg : Str → Option Value} {base : Heap}
theorem scWhole : FnScope ["value"] ["value"] (defScope sWhole) := ⟨rfl, rfl, rfl, by decide +kernel, rfl, by decide +kernel, by decide +kernel⟩
theorem ok_whole {f : Addr} {fd : FuncData} (F : Fun K "is_whole" "is_whole" sWhole f fd) (T : Txt mg) : FnOk P w K mg base CX0 1 f fd ["value"] spWhole := by
  refine F.ok scWhole (fun vs H Q E h => ?_) (fun cdv A outer s H vs Q E hr h => ?_)
  · obtain ⟨x, d, rfl, _⟩ := h
    rfl
  · obtain ⟨x, d, rfl, th, q⟩ := h
    refine ⟨_, pss_one (ps_ret (pe_and (pe_callB call_isi (by rfl) T.isi (by decide +kernel) (pa_cons (pv 0) (pa_cons (pe_bltn (by rfl) T.int (by decide +kernel) (show RelV (.ty "int") _ from rfl)) pa_nil)))
      (pe_one (pe_not (pe_callB call_isi (by rfl) T.isi (by decide +kernel) (pa_cons (pv 0) (pa_cons (pe_bltn (by rfl) T.bool (by decide +kernel) (show RelV (.ty "bool") _ from rfl)) pa_nil))))))), ?_⟩
    obtain ⟨S, b, ty, k, h1, h2⟩ := th_kinds (K := K) th
    refine ⟨x, rfl, x, .ty "int", .type S, .type "int", b, rfl, .ty "int", ty, kit_ty k, b, rfl, ?_⟩
    cases b with
    | true =>
      obtain ⟨c, kc, e⟩ := h1 rfl
      refine iteT ⟨x, rfl, x, .ty "bool", .type S, .type "bool", c, rfl, .ty "bool", ty, kit_ty kc, c, rfl, ?_⟩
      exact e ▸ q
    | false => exact iteF (h2 rfl ▸ q)
def isIx (x : V) (m : Int) : Bool := match x with
  | .int i => decide (0 ≤ i) && decide (i < m)
  | _ => false
def spIndex : Sp := fun vs H Q _ => ∃ (x : V) (d : PyData) (m : Int), vs = [x, .int m] ∧ Th H x d ∧ Q (.bl (isIx x m)) H
theorem scIndex : FnScope ["value", "many"] ["value", "many"] (defScope sIndex) := ⟨rfl, rfl, rfl, by decide +kernel, rfl, by decide +kernel, by decide +kernel⟩
theorem ok_index {f fW : Addr} {fd fdW : FuncData} (F : Fun K "is_index" "is_index" sIndex f fd) (FW : Fun K "is_whole" "is_whole" sWhole fW fdW) (bW : Binds K fdW ["value"] []) (gW : mg "is_whole" = some (.ref fW)) (GW : FnOk P w K mg base CX0 1 fW fdW ["value"] spWhole) : FnOk P w K mg base CX0 2 f fd ["value", "many"] spIndex := by
  refine F.ok scIndex (fun vs H Q E h => ?_) (fun cdv A outer s H vs Q E hr h => ?_)
  · obtain ⟨x, d, m, rfl, _⟩ := h
    rfl
  · obtain ⟨x, d, m, rfl, th, q⟩ := h
    refine ⟨_, pss_one (ps_ret (pe_and (pe_call GW hr (by rfl) gW FW.kp bW .nil pass0 (pa_cons (pv 0) pa_nil)) (pe_one (pe_chain op_le op_lt pe_int (pv 0) (pv 1))))), ?_⟩
    refine ⟨x, rfl, x, d, rfl, th, isW x, rfl, ?_⟩
    cases x with
    | int i =>
      refine iteT ⟨.int i, rfl, 0, i, rfl, rfl, decide (0 ≤ i), rfl, ?_⟩
      by_cases h0 : 0 ≤ i
      · have e : isIx (.int i) m = decide (i < m) := by show (decide (0 ≤ i) && decide (i < m)) = _; rw [decide_eq_true h0, Bool.true_and]
        rw [decide_eq_true h0]
        rw [e] at q
        exact iteT ⟨.int m, rfl, i, m, rfl, rfl, q⟩
      · have e : isIx (.int i) m = false := by show (decide (0 ≤ i) && decide (i < m)) = _; rw [decide_eq_false h0, Bool.false_and]
        rw [decide_eq_false h0]
        rw [e] at q
        exact iteF q
    | _ => exact iteF q
end
end My
namespace My
open PySem PySem.Spec PyProof.Rows L2
/-! ### the table of rows -/
structure TabAt (H : Hp) (t : Addr) (most n : Nat) : Prop where
  ex : ∃ as : List Addr, as.length = n + 1 ∧ H t = some (.lst (as.map V.ref)) ∧ ∀ j a, as[j]? = some a → H a = some (.lst ((rowOf most j).map V.int))
theorem TabAt.keep {H H' : Hp} {t : Addr} {most n : Nat} (T : TabAt H t most n) (k : ∀ q o, H q = some o → H' q = some o) : TabAt H' t most n := by
  obtain ⟨as, h1, h2, h3⟩ := T.ex
  exact ⟨as, h1, k _ _ h2, fun j a e => k _ _ (h3 j a e)⟩
def spTable : Sp := fun vs H Q _ => ∃ most : Nat, vs = [.int most] ∧ most ≤ 60 ∧ ∀ (t : Addr) (H' : Hp), Same' H H' → TabAt H' t most most → Q (.ref t) H'
abbrev nTab : List Str := ["most", "table", "_", "last", "runs"]
theorem row_ix {most j r : Nat} (h : r ≤ most) : atI ((rowOf most j).map V.int) (r : Int) = some (.int ((rowOf most j).getD r 0)) := by
  refine atI_nat ?_
  rw [List.getElem?_map, List.getD_eq_getElem?_getD]
  have hl := row_len most j
  rw [List.getElem?_eq_getElem (by omega)]
  rfl
section
variable {P : Program} {w : World} {K : PySem.W.Frag} {mg : Str → Option Value} {base : Heap}
theorem scTab : FnScope nTab ["most"] (defScope sTable) := ⟨rfl, rfl, rfl, by decide +kernel, rfl, by decide +kernel, by decide +kernel⟩
theorem ok_table {f : Addr} {fd : FuncData} (F : Fun K "_parted_table" "_parted_table" sTable f fd) (T : Txt mg) : FnOk P w K mg base CX0 1 f fd ["most"] spTable := by
  refine F.ok scTab (fun vs H Q E h => ?_) (fun cdv A outer s H vs Q E hr h => ?_)
  · obtain ⟨m, rfl, _⟩ := h
    rfl
  · obtain ⟨m, rfl, hm, q⟩ := h
    refine ⟨_, pss_cons (ps_set (i := 1) scTab.nd rfl (.inl rfl) (pe_lst (pa_cons (pe_op op_cat (pe_lst (pa_cons pe_int pa_nil)) (pe_op op_rep (pe_lst (pa_cons pe_int pa_nil)) (pv 0))) pa_nil)))
      (pss_cons (ps_for PassesOwn.never rfl (pi_range1 (by rfl) T.range (pa_cons (pv 0) pa_nil)) (pg_name (i := 2) scTab.nd rfl (.inl rfl))
        (pss_cons (ps_set (i := 3) scTab.nd rfl (.inr rfl) (pe_ix ix_list (pv 1) (pe_un un_neg pe_int) (fun _ _ => rfl)))
        (pss_one (ps_expr (pe_bm PySem.F.plainAttrs_list PySem.F.slot_list_append PySem.F.type_list_append mt_append (pv 1) (pa_cons (pe_op op_cat (pe_lst (pa_cons pe_int pa_nil))
          (pe_lc (own := [("runs", 4)]) (g := gName 4) (tt := tYes) rfl scTab.nd (pi_range2 (by rfl) T.range (pa_cons pe_int (pa_cons (pe_op op_add (pv 0) pe_int) pa_nil))) (blkOk_by (N := nTab) (sc := defScope sTable) (by decide +kernel)) (fun _ _ _ _ _ => pg_name (i := 4) scTab.nd rfl (Or.inl rfl)) (fun _ _ _ _ _ => pts_nil)
            (fun _ _ _ _ _ => pe_op op_mul (pv 4) (pe_op op_add (pe_ix (show IxR _ (rIxL K) from ix_list) (pv 3) (pv 4) (fun _ _ => rfl)) (pe_ix (show IxR _ (rIxL K) from ix_list) (pv 3) (pe_op op_sub (pv 4) pe_int) (fun _ _ => rfl)))))) pa_nil))))))
      (pss_one (ps_ret (pv 1)))), ?_⟩
    have tn : ((m : Int)).toNat = m := rfl
    have z1 : (1 : Nat) ≤ sizeLine := by decide
    refine ⟨z1, fun l1 hl1 => ⟨z1, fun l2 hl2 => ⟨.int m, rfl, l2, (m : Int), [.int 0], rfl, rfl, upd_same, by omega, by omega, by rw [sizeLine_eq]; simp; omega, fun l3 hl3 => ?_⟩⟩⟩
    have e3 : (List.replicate ((m : Int)).toNat [V.int 0]).flatten = (List.replicate m (0 : Int)).map V.int := by simp
    rw [e3] at *
    have s1 := same_new (o := .lst [.int 1]) hl1
    have s2 := same_new (o := .lst [.int 0]) hl2
    have s3 := same_new (o := .lst ((List.replicate m (0 : Int)).map V.int)) hl3
    refine ⟨l1, l3, [.int 1], _, rfl, rfl, (s2.trans s3) _ _ upd_same, upd_same, by rw [sizeLine_eq]; simp; omega, fun l4 hl4 => ⟨z1, fun t ht => ?_⟩⟩
    have s4 := same_new (o := .lst ([V.int 1] ++ (List.replicate m (0 : Int)).map V.int)) hl4
    have s5 := same_new (o := .lst [.ref l4]) ht
    refine ⟨.int m, rfl, m, rfl, by omega, by omega, ?_⟩
    refine for_range (lo := 0) (n := m) (fun i σ H' => ∃ y2 y3 y4, σ = [some (.int m), some (.ref t), y2, y3, y4] ∧ Same' H H' ∧ H t = none ∧ TabAt H' t m i) ?_ (fun i σ H1 hi hp => ?_) (fun σ H1 hp => ?_)
    · refine ⟨none, none, none, rfl, (((s1.trans s2).trans s3).trans s4).trans s5, ?_, [l4], rfl, upd_same, fun j a e => ?_⟩
      · cases e : H t with
        | none => rfl
        | some o =>
          rw [(((s1.trans s2).trans s3).trans s4) _ _ e] at ht
          cases ht
      · cases j with
        | zero =>
          injection e with e
          subst e
          exact s5 _ _ upd_same
        | succ j => cases e
    · obtain ⟨y2, y3, y4, rfl, sm, nt, TA⟩ := hp
      obtain ⟨as, hl, hT, hrow⟩ := TA.ex
      obtain ⟨a, ha⟩ : ∃ a, as[i]? = some a := ⟨_, List.getElem?_eq_getElem (show i < as.length by omega)⟩
      have hrow_i := hrow i a ha
      have lastat : atI (as.map V.ref) (-1) = some (.ref a) := by
        have e : as.map V.ref = (as.take i).map V.ref ++ [V.ref a] := by
          rw [← List.map_singleton, ← List.map_append]
          congr 1
          have := List.take_append_drop i as
          rw [List.drop_eq_getElem_cons (show i < as.length by omega)] at this
          rw [List.getElem?_eq_getElem (show i < as.length by omega)] at ha
          injection ha with ha
          rw [ha, List.drop_eq_nil_of_le (by omega)] at this
          exact this.symm
        rw [e]
        exact atI_last _ _
      have fr : ∀ (x : Addr) (ys : List Int), H1 x = some (.lst (ys.map V.int)) → x ≠ t := by
        intro x ys e z
        rw [z, hT] at e
        injection e with e
        injection e with e
        have := congrArg List.length e
        rw [List.length_map, List.length_map, hl] at this
        cases as with
        | nil => cases hl
        | cons b r =>
          cases ys with
          | nil => cases e
          | cons y ys => injection e with e _; cases e
      refine ⟨.ref t, rfl, 1, rfl, t, _, -1, _, rfl, rfl, SqL.of hT, lastat, ?_⟩
      refine ⟨.ref t, rfl, .inl ⟨rfl, _, SqL.of hT⟩, z1, fun z hz => ⟨.int m, rfl, m, 1, rfl, rfl, 1, (m : Int) + 1, rfl, ⟨by omega, by omega, by omega, by omega⟩, fun D hD => ?_⟩⟩
      have en : ((m : Int) + 1 - 1).toNat = m := by omega
      have sz := same_new (o := .lst [.int 0]) hz
      refine lc_range (lo := 1) (n := ((m : Int) + 1 - 1).toNat) (fun i' H' => Same' (upd H1 z (.lst [.int 0])) H' ∧ H' D = some (.lst (((List.range i').map fun r : Nat => ((r : Int) + 1) * ((rowOf m i).getD (r + 1) 0 + (rowOf m i).getD r 0)).map V.int))) ⟨same_new hD, upd_same⟩ (fun r H2 hr hp => ?_) (fun H2 hp => ?_)
      · rw [en] at hr
        obtain ⟨sm2, eD⟩ := hp
        have ra := sm2 _ _ (sz _ _ hrow_i)
        have e1 : (1 + (r : Int)) = ((r + 1 : Nat) : Int) := by omega
        have e2 : (1 + (r : Int) - 1) = (r : Int) := by omega
        refine ⟨rfl, .int (1 + r), rfl, .ref a, rfl, .int (1 + r), rfl, a, _, _, _, rfl, rfl, SqL.of ra, (by rw [e1]; exact row_ix (by omega)), .ref a, rfl, .int (1 + r), rfl, 1 + r, 1, rfl, rfl, a, _, _, _, rfl, rfl, SqL.of ra, (by rw [e2]; exact row_ix (by omega)), _, _, rfl, rfl, _, _, rfl, rfl, .inl ⟨by omega, by omega⟩, _, eD, by rw [sizeLine_eq]; simp; omega, same_over hD sm2, ?_⟩
        rw [upd_same, List.range_succ, List.map_append, List.map_append]
        show _ = some (HO.lst (_ ++ [V.int (((r : Int) + 1) * _)]))
        rw [Int.add_comm 1 (r : Int)]
      · rw [en] at hp
        obtain ⟨sm2, eD⟩ := hp
        refine ⟨z, D, [.int 0], _, rfl, rfl, sm2 _ _ upd_same, eD, by rw [sizeLine_eq]; simp; omega, fun l hl' => ?_⟩
        have sl := same_new (o := .lst ([V.int 0] ++ (((List.range m).map fun r : Nat => ((r : Int) + 1) * ((rowOf m i).getD (r + 1) 0 + (rowOf m i).getD r 0)).map V.int))) hl'
        have sa : Same' H1 _ := (sz.trans sm2).trans sl
        refine ⟨t, as.map V.ref, .ref l, rfl, rfl, sa _ _ hT, by rw [sizeLine_eq]; simp; omega, ?_⟩
        have nlt : l ≠ t := fun z => by
          rw [z] at hl'
          rw [(sz.trans sm2) _ _ hT] at hl'
          cases hl'
        refine ⟨_, _, _, rfl, fun q o e => ?_, nt, as ++ [l], by rw [List.length_append, hl]; rfl, by rw [upd_same, List.map_append]; rfl, fun j b e => ?_⟩
        · rw [upd_ne (ne_of_none e nt)]
          exact sa _ _ (sm _ _ e)
        · by_cases hj : j < as.length
          · rw [List.getElem?_append_left hj] at e
            have e1 := hrow j b e
            rw [upd_ne (fr _ _ e1)]
            exact sa _ _ e1
          · have ej : j = i + 1 := by
              have := (List.getElem?_eq_some_iff.mp e).1
              rw [List.length_append, List.length_singleton] at this
              omega
            subst ej
            rw [List.getElem?_append_right (by omega), hl, Nat.sub_self] at e
            injection e with e
            subst e
            rw [upd_ne nlt, upd_same]
            rfl
    · obtain ⟨y2, y3, y4, rfl, sm, nt, TA⟩ := hp
      exact ⟨.ref t, rfl, q t _ sm TA⟩
end
end My
namespace My
open PySem PySem.Spec PyProof.Rows L2
/-! ### the object that counts -/
/-- what is remembered of a key -/
def Rk (most : Nat) : List Leaf → Int → Prop := fun k i => ∀ (t f : Nat) (c : Bool) (b : Leaf), k = [.num t, .num f, .num (if c then 1 else 0), b] → i = if c then partedM most t f else turnsM most t f
structure CntAt (P : Program) (w : World) (H : Hp) (C a dx t d : Addr) (most n : Nat) : Prop where
  ins : H a = some (.ins C dx [("parted", .ref t), ("known", .ref d)])
  tab : TabAt H t most most
  mem : ∃ xs, MemAt P w H d (Rk most) n xs
theorem CntAt.keep {P : Program} {w : World} {H H' : Hp} {C a dx t d : Addr} {most n : Nat} (T : CntAt P w H C a dx t d most n) (k : Same' H H') : CntAt P w H' C a dx t d most n :=
  ⟨k _ _ T.ins, T.tab.keep k, let ⟨xs, M⟩ := T.mem; ⟨xs, M.keep k⟩⟩
structure CCls (K : PySem.W.Frag) (mg : Str → Option Value) (C : Addr) : Prop where
  g : mg "Counts" = some (.ref C)
  c : Cls K C
  np : NoAttr K C "parted"
  nk : NoAttr K C "known"
def spBegun (C : Addr) : Sp := fun vs H Q _ => ∃ (P : Program) (w : World) (a dx t d : Addr) (most n x y : Nat), vs = [.ref a, .int x, .int y] ∧ CntAt P w H C a dx t d most n ∧ most ≤ 60 ∧ x ≤ most ∧ y ≤ most ∧ ∀ H', Same' H H' → Q (.int (begun most x y)) H'
abbrev nBeg : List Str := ["self", "first", "second", "rows", "others", "runs"]
section
variable {P : Program} {w : World} {K : PySem.W.Frag} {mg : Str → Option Value} {base : Heap}
theorem scBeg : FnScope nBeg ["self", "first", "second"] (defScope sBegun) := ⟨rfl, rfl, rfl, by decide +kernel, rfl, by decide +kernel, by decide +kernel⟩
theorem tab_ix {H : Hp} {t : Addr} {most n j : Nat} (T : TabAt H t most n) (h : j ≤ n) : ∃ as a, H t = some (.lst as) ∧ atI as (j : Int) = some (.ref a) ∧ H a = some (.lst ((rowOf most j).map V.int)) := by
  obtain ⟨as, hl, hT, hrow⟩ := T.ex
  have e : as[j]? = some as[j] := List.getElem?_eq_getElem (show j < as.length by omega)
  exact ⟨_, as[j], hT, atI_nat (by rw [List.getElem?_map, e]; rfl), hrow j _ e⟩
theorem ok_begun {f C : Addr} {fd : FuncData} (F : Fun K "_begun" "Counts._begun" sBegun f fd) (CC : CCls K mg C) (T : Txt mg) : FnOk P w K mg base CX0 1 f fd ["self", "first", "second"] (spBegun C) := by
  refine F.ok scBeg (fun vs H Q E h => ?_) (fun cdv A outer s H vs Q E hr h => ?_)
  · obtain ⟨P, w, a, dx, t, d, most, n, x, y, rfl, _⟩ := h
    rfl
  · obtain ⟨P', w', a, dx, t, d, most, n, x, y, rfl, CA, hm, hx, hy, q⟩ := h
    refine ⟨_, pss_cons (ps_asg (pe_tup (pa_cons (pe_ix ix_list (pe_fld (pv 0) (by rfl)) (pv 1) (fun _ _ => rfl)) (pa_cons (pe_ix ix_list (pe_fld (pv 0) (by rfl)) (pv 2) (fun _ _ => rfl)) pa_nil)))
        (pg_tup (n := 2) rfl (pgs_cons (pg_name (i := 3) scBeg.nd rfl (.inr rfl)) (pgs_cons (pg_name (i := 4) scBeg.nd rfl (.inr rfl)) pgs_nil))))
      (pss_one (ps_ret (pe_callB (cr_sum rfl) (by rfl) T.sum (by decide +kernel) (pa_cons
        (pe_lc (own := [("runs", 5)]) (g := gName 5) (tt := tYes) rfl scBeg.nd (pi_range2 (by rfl) T.range (pa_cons pe_int (pa_cons (pe_op op_add (pv 1) pe_int) pa_nil))) (blkOk_by (N := nBeg) (sc := defScope sBegun) (by decide +kernel)) (fun _ _ _ _ _ => pg_name (i := 5) scBeg.nd rfl (Or.inl rfl)) (fun _ _ _ _ _ => pts_nil)
          (fun _ _ _ _ _ => pe_op op_mulW (pe_ix (show IxR _ (rIxL K) from ix_list) (pv 3) (pv 5) (fun _ _ => rfl)) (pe_op op_add (pe_ix (show IxR _ (rIxL K) from ix_list) (pv 4) (pv 5) (fun _ _ => rfl)) (pe_ix (show IxR _ (rIxL K) from ix_list) (pv 4) (pe_op op_sub (pv 5) pe_int) (fun _ _ => rfl))))) pa_nil)))), ?_⟩
    obtain ⟨as, ax, hT, atx, hax⟩ := tab_ix CA.tab hx
    obtain ⟨as', ay, hT', aty, hay⟩ := tab_ix CA.tab hy
    refine ⟨.ref a, rfl, a, C, dx, _, .ref t, rfl, CA.ins, CC.c, CC.np, rfl, .int x, rfl, t, _, _, _, rfl, rfl, SqL.of hT, atx, ?_⟩
    refine ⟨.ref a, rfl, a, C, dx, _, .ref t, rfl, CA.ins, CC.c, CC.np, rfl, .int y, rfl, t, _, _, _, rfl, rfl, SqL.of hT', aty, ?_⟩
    refine ⟨by show 2 ≤ sizeLine; decide, fun p hp => ⟨p, _, rfl, SqT.of upd_same, rfl, _, _, rfl, _, _, rfl, rfl, ?_⟩⟩
    have s1 := same_new (o := .tup [.ref ax, .ref ay]) hp
    refine ⟨.int x, rfl, x, 1, rfl, rfl, 1, (x : Int) + 1, rfl, ⟨by omega, by omega, by omega, by omega⟩, fun D hD => ?_⟩
    have en : ((x : Int) + 1 - 1).toNat = x := by omega
    refine lc_range (lo := 1) (n := ((x : Int) + 1 - 1).toNat) (fun i' H' => Same' (upd H p (.tup [.ref ax, .ref ay])) H' ∧ H' D = some (.lst (((List.range i').map fun i : Nat => (rowOf most x).getD (i + 1) 0 * ((rowOf most y).getD (i + 1) 0 + (rowOf most y).getD i 0)).map V.int))) ⟨same_new hD, upd_same⟩ (fun r H2 hr2 hp2 => ?_) (fun H2 hp2 => ?_)
    · rw [en] at hr2
      obtain ⟨sm2, eD⟩ := hp2
      have rx := sm2 _ _ (s1 _ _ hax)
      have ry := sm2 _ _ (s1 _ _ hay)
      have e1 : (1 + (r : Int)) = ((r + 1 : Nat) : Int) := by omega
      have e2 : (1 + (r : Int) - 1) = (r : Int) := by omega
      refine ⟨rfl, .ref ax, rfl, .int (1 + r), rfl, ax, _, _, _, rfl, rfl, SqL.of rx, (by rw [e1]; exact row_ix (by omega)), .ref ay, rfl, .int (1 + r), rfl, ay, _, _, _, rfl, rfl, SqL.of ry, (by rw [e1]; exact row_ix (by omega)), .ref ay, rfl, .int (1 + r), rfl, 1 + r, 1, rfl, rfl, ay, _, _, _, rfl, rfl, SqL.of ry, (by rw [e2]; exact row_ix (by omega)), _, _, rfl, rfl, _, _, rfl, rfl, wide_mul (row_small hm (by omega)) (row2_small hm (by omega)) (by decide) (by decide) (by decide), _, eD, by rw [sizeLine_eq]; simp; omega, same_over hD sm2, ?_⟩
      rw [upd_same, List.range_succ, List.map_append, List.map_append]
      rfl
    · rw [en] at hp2
      obtain ⟨sm2, eD⟩ := hp2
      exact ⟨D, _, rfl, SqL.of eD, q _ (s1.trans sm2)⟩
end
end My
namespace My
open PySem PySem.Spec PyProof.Rows L2
def Bar (b : Leaf) : Prop := b = .none ∨ b = .text "choice"
structure CTxt (mg : Str → Option Value) : Prop where
  things : ∃ t, mg "THINGS" = some (.str "things" t)
  failures : ∃ t, mg "FAILURES" = some (.str "failures" t)
  choice : ∃ t, mg "CHOICE" = some (.str "choice" t)
theorem bar_ne {b : Leaf} (h : Bar b) {z : Str} (hz : decide (("choice" : Str) = z) = false) : scal (lV b) (.str z) = true ∧ decide (lV b = .str z) = false := by
  rcases h with rfl | rfl
  · exact ⟨rfl, by simp [lV]⟩
  · exact ⟨rfl, by simpa [lV] using hz⟩
def spTurns (P : Program) (w : World) (C : Addr) : Sp := fun vs H Q _ => ∃ (a dx t d : Addr) (most n x y : Nat) (b : Leaf), vs = [.ref a, .int x, .int y, lV b] ∧ Bar b ∧ CntAt P w H C a dx t d most n ∧ most ≤ 60 ∧ x ≤ most ∧ y ≤ most ∧ ∀ H', Same' H H' → Q (.int (turnsM most x y)) H'
abbrev nTurns : List Str := ["self", "things", "failures", "barred", "first_things", "first_failures"]
section
variable {P : Program} {w : World} {K : PySem.W.Frag} {mg : Str → Option Value} {base : Heap}
theorem scTurns : FnScope nTurns ["self", "things", "failures", "barred"] (defScope sTurns) := ⟨rfl, rfl, rfl, by decide +kernel, rfl, by decide +kernel, by decide +kernel⟩
theorem ok_turns {f C fB : Addr} {fd dB : FuncData} (F : Fun K "_by_turns" "Counts._by_turns" sTurns f fd) (CC : CCls K mg C) (T : Txt mg) (CT : CTxt mg) (MB : Meth K C "_begun" fB) (bB : Binds K dB ["self", "first", "second"] []) (GB : FnOk P w K mg base CX0 1 fB dB ["self", "first", "second"] (spBegun C)) :
    FnOk P w K mg base CX0 2 f fd ["self", "things", "failures", "barred"] (spTurns P w C) := by
  obtain ⟨t1, g1⟩ := CT.things
  obtain ⟨t2, g2⟩ := CT.failures
  refine F.ok scTurns (fun vs H Q E h => ?_) (fun cdv A outer s H vs Q E hr h => ?_)
  · obtain ⟨a, dx, t, d, most, n, x, y, b, rfl, _⟩ := h
    rfl
  · obtain ⟨a, dx, t, d, most, n, x, y, b, rfl, hb, CA, hm, hx, hy, q⟩ := h
    refine ⟨_, pss_cons (ps_if (PW.pt (pw_and (pt_cmpR op_eq (pv 1) pe_int (nomark _)) (pw_and1 (pt_cmpR op_eq (pv 2) pe_int (nomark _))))) (pss_one (ps_ret pe_int)) pss_nil)
      (pss_cons (ps_set (i := 4) scTurns.nd rfl (.inl rfl) (pe_ifExp (pt_cmpR op_eq (pv 3) (pe_glob (v := .str "things") rfl g1 ⟨_, rfl⟩) (nomark _)) pe_int (pe_meth (pv 0) CC.c MB GB hr bB .nil pass0 (pa_cons (pv 1) (pa_cons (pv 2) pa_nil)))))
      (pss_cons (ps_set (i := 5) scTurns.nd rfl (.inl rfl) (pe_ifExp (pt_cmpR op_eq (pv 3) (pe_glob (v := .str "failures") rfl g2 ⟨_, rfl⟩) (nomark _)) pe_int (pe_meth (pv 0) CC.c MB GB hr bB .nil pass0 (pa_cons (pv 2) (pa_cons (pv 1) pa_nil)))))
      (pss_one (ps_ret (pe_op op_add (pv 4) (pv 5)))))), ?_⟩
    obtain ⟨sc1, ne1⟩ := bar_ne hb (z := "things") (by decide +kernel)
    obtain ⟨sc2, ne2⟩ := bar_ne hb (z := "failures") (by decide +kernel)
    have dx0 : decide (V.int (x : Int) = V.int 0) = decide (x = 0) := by
      by_cases e : x = 0
      · subst e; rfl
      · rw [decide_eq_false e, decide_eq_false (fun z => e (by injection z with z; omega))]
    have dy0 : decide (V.int (y : Int) = V.int 0) = decide (y = 0) := by
      by_cases e : y = 0
      · subst e; rfl
      · rw [decide_eq_false e, decide_eq_false (fun z => e (by injection z with z; omega))]
    have en : ¬(x = 0 ∧ y = 0) → turnsM most x y = begun most x y + begun most y x := fun h => if_neg h
    refine ⟨.int x, rfl, rfl, decide (x = 0), by rw [dx0], ite2 (fun e => ⟨.int y, rfl, rfl, decide (y = 0), by rw [dy0], ite2 (fun e2 => ?_) (fun e2 => ?_)⟩) (fun e => ?_)⟩
    · have ex := of_decide_eq_true e
      have ey := of_decide_eq_true e2
      have := q H (fun _ _ e => e)
      rw [show turnsM most x y = 1 from if_pos ⟨ex, ey⟩] at this
      exact this
    · have hn : ¬(x = 0 ∧ y = 0) := fun z => by rw [decide_eq_true z.2] at e2; exact e2 rfl
      refine ⟨lV b, rfl, sc1, false, by rw [ne1], iteF ⟨.ref a, rfl, a, dx, _, rfl, CA.ins, rfl, .int x, rfl, .int y, rfl, P, w, a, dx, t, d, most, n, x, y, rfl, CA, hm, hx, hy, fun H1 sm1 => ?_⟩⟩
      have CA1 := CA.keep sm1
      refine ⟨lV b, rfl, sc2, false, by rw [ne2], iteF ⟨.ref a, rfl, a, dx, _, rfl, CA1.ins, rfl, .int y, rfl, .int x, rfl, P, w, a, dx, t, d, most, n, y, x, rfl, CA1, hm, hy, hx, fun H2 sm2 => ?_⟩⟩
      exact ⟨_, rfl, _, rfl, _, _, rfl, rfl, by have z := q H2 (sm1.trans sm2); rw [en hn] at z; exact z⟩
    · have hn : ¬(x = 0 ∧ y = 0) := fun z => by rw [decide_eq_true z.1] at e; exact e rfl
      refine ⟨lV b, rfl, sc1, false, by rw [ne1], iteF ⟨.ref a, rfl, a, dx, _, rfl, CA.ins, rfl, .int x, rfl, .int y, rfl, P, w, a, dx, t, d, most, n, x, y, rfl, CA, hm, hx, hy, fun H1 sm1 => ?_⟩⟩
      have CA1 := CA.keep sm1
      refine ⟨lV b, rfl, sc2, false, by rw [ne2], iteF ⟨.ref a, rfl, a, dx, _, rfl, CA1.ins, rfl, .int y, rfl, .int x, rfl, P, w, a, dx, t, d, most, n, y, x, rfl, CA1, hm, hy, hx, fun H2 sm2 => ?_⟩⟩
      exact ⟨_, rfl, _, rfl, _, _, rfl, rfl, by have z := q H2 (sm1.trans sm2); rw [en hn] at z; exact z⟩
end
end My
namespace My
open PySem PySem.Spec PyProof.Rows L2
def KeepD (d : Addr) (H H' : Hp) : Prop := ∀ q u, q ≠ d → H q = some u → H' q = some u
theorem KeepD.trans {d : Addr} {H1 H2 H3 : Hp} (h : KeepD d H1 H2) (k : KeepD d H2 H3) : KeepD d H1 H3 := fun q u n e => k q u n (h q u n e)
theorem KeepD.of {d : Addr} {H1 H2 : Hp} (h : Same' H1 H2) : KeepD d H1 H2 := fun q u _ e => h q u e
theorem CntAt.ne {P : Program} {w : World} {H : Hp} {C a dx t d : Addr} {most n : Nat} (T : CntAt P w H C a dx t d most n) : a ≠ d ∧ t ≠ d := by
  obtain ⟨xs, M⟩ := T.mem
  obtain ⟨as, _, hT, _⟩ := T.tab.ex
  refine ⟨fun z => ?_, fun z => ?_⟩
  · have e := T.ins
    rw [z, M.ex] at e
    cases e
  · rw [z, M.ex] at hT
    cases hT
theorem CntAt.keepD {P : Program} {w : World} {H H' : Hp} {C a dx t d : Addr} {most n m : Nat} {xs : List (List Leaf × Addr × Value)} (T : CntAt P w H C a dx t d most n) (k : KeepD d H H') (M : MemAt P w H' d (Rk most) m xs) : CntAt P w H' C a dx t d most m := by
  obtain ⟨na, nt⟩ := T.ne
  obtain ⟨as, hl, hT, hrow⟩ := T.tab.ex
  obtain ⟨xs0, M0⟩ := T.mem
  refine ⟨k _ _ na T.ins, ⟨as, hl, k _ _ nt hT, fun j b e => k _ _ (fun z => ?_) (hrow j b e)⟩, xs, M⟩
  have e1 := hrow j b e
  rw [z, M0.ex] at e1
  cases e1
theorem Rk.turns {most x y : Nat} {b : Leaf} : Rk most [.num x, .num y, .num 0, b] (turnsM most x y) := by
  intro t f c b' e
  injection e with e1 e
  injection e with e2 e
  injection e with e3 e
  injection e1 with e1
  injection e2 with e2
  injection e3 with e3
  obtain rfl : t = x := by omega
  obtain rfl : f = y := by omega
  cases c with
  | false => rfl
  | true => cases e3
theorem Rk.parted {most x y : Nat} {b : Leaf} : Rk most [.num x, .num y, .num 1, b] (partedM most x y) := by
  intro t f c b' e
  injection e with e1 e
  injection e with e2 e
  injection e with e3 e
  injection e1 with e1
  injection e2 with e2
  injection e3 with e3
  obtain rfl : t = x := by omega
  obtain rfl : f = y := by omega
  cases c with
  | true => rfl
  | false => cases e3
/-- number(things, failures, 0, barred) -/
def spNum0 (P : Program) (w : World) (C : Addr) : Sp := fun vs H Q _ => ∃ (a dx t d : Addr) (most n x y : Nat) (b : Leaf), vs = [.ref a, .int x, .int y, .int 0, lV b] ∧ Bar b ∧ CntAt P w H C a dx t d most n ∧ n < 900000 ∧ most ≤ 60 ∧ x ≤ most ∧ y ≤ most ∧
  ∀ H', KeepD d H H' → CntAt P w H' C a dx t d most (n + 1) → Q (.int (turnsM most x y)) H'
abbrev nNum : List Str := ["self", "things", "failures", "choices", "barred", "key"]
abbrev pNum : List Str := ["self", "things", "failures", "choices", "barred"]
section
variable {P : Program} {w : World} {K : PySem.W.Frag} {mg : Str → Option Value} {base : Heap}
theorem scNum : FnScope nNum pNum (defScope sNumber) := ⟨rfl, rfl, rfl, by decide +kernel, rfl, by decide +kernel, by decide +kernel⟩
theorem ok_num0 {f C fT : Addr} {fd dT : FuncData} (F : Fun K "number" "Counts.number" sNumber f fd) (CC : CCls K mg C) (T : Txt mg) (MT : Meth K C "_by_turns" fT) (bT : Binds K dT ["self", "things", "failures", "barred"] []) (GT : FnOk P w K mg base CX0 2 fT dT ["self", "things", "failures", "barred"] (spTurns P w C)) :
    FnOk P w K mg base CX0 3 f fd pNum (spNum0 P w C) := by
  refine F.ok scNum (fun vs H Q E h => ?_) (fun cdv A outer s H vs Q E hr h => ?_)
  · obtain ⟨a, dx, t, d, most, n, x, y, b, rfl, _⟩ := h
    rfl
  · obtain ⟨a, dx, t, d, most, n, x, y, b, rfl, hb, CA, hn, hm, hx, hy, q⟩ := h
    have hu := hu_of hr
    refine ⟨_, pss_cons (ps_set (i := 5) scNum.nd rfl (.inl rfl) (pe_tup (pa_cons (pv 1) (pa_cons (pv 2) (pa_cons (pv 3) (pa_cons (pv 4) pa_nil))))))
      (pss_cons (ps_if (pt_cmpR (op_memNotIn hu) (pv 5) (pe_fld (pv 0) (by rfl)) (by rfl))
        (pss_one (ps_asg (pe_ifExp (pt_truth (pv 3) (by intro _; rfl)) pe_never (pe_meth (pv 0) CC.c MT GT hr bT .nil pass0 (pa_cons (pv 1) (pa_cons (pv 2) (pa_cons (pv 4) pa_nil)))))
          (pg_sub (pe_fld (pv 0) (by rfl)) (pv 5) (set_mem hu)))) pss_nil)
      (pss_one (ps_ret (pe_memget hu (pe_fld (pv 0) (by rfl)) (pv 5) (fun _ _ => rfl))))), ?_⟩
    refine ⟨_, rfl, _, rfl, _, rfl, _, rfl, by show 4 ≤ sizeLine; decide, fun k hk => ?_⟩
    have s1 := same_new (o := .tup [.int x, .int y, .int 0, lV b]) hk
    have CA1 := CA.keep s1
    obtain ⟨xs, M⟩ := CA1.mem
    have ek : (upd H k (.tup [.int x, .int y, .int 0, lV b])) k = some (.tup (([.num x, .num y, .num 0, b] : List Leaf).map lV)) := upd_same
    refine ⟨.ref k, rfl, .ref a, rfl, a, C, dx, _, .ref d, rfl, CA1.ins, CC.c, CC.nk, rfl, d, k, [.num x, .num y, .num 0, b], Rk most, n, xs, rfl, rfl, ek, M, _, rfl, ite2 (fun e => ?_) (fun e => ?_)⟩
    · refine ⟨.int 0, rfl, false, rfl, iteF ⟨.ref a, rfl, a, dx, _, rfl, CA1.ins, rfl, .int x, rfl, .int y, rfl, lV b, rfl, a, dx, t, d, most, n, x, y, b, rfl, hb, CA1, hm, hx, hy, fun H2 sm2 => ?_⟩⟩
      have CA2 := CA1.keep sm2
      refine ⟨.ref a, rfl, a, C, dx, _, .ref d, rfl, CA2.ins, CC.c, CC.nk, rfl, .ref k, rfl, d, k, [.num x, .num y, .num 0, b], Rk most, n, xs, _, rfl, rfl, rfl, sm2 _ _ ek, M.keep sm2, by omega, Rk.turns, fun H3 xs3 M3 keep there => ?_⟩
      have CA3 := CA2.keepD keep M3
      have nkd : k ≠ d := fun z => by
        have e := sm2 _ _ ek
        rw [z, (M.keep sm2).ex] at e
        cases e
      refine ⟨.ref a, rfl, a, C, dx, _, .ref d, rfl, CA3.ins, CC.c, CC.nk, rfl, .ref k, rfl, d, k, [.num x, .num y, .num 0, b], Rk most, n + 1, xs3, rfl, rfl, keep _ _ nkd (sm2 _ _ ek), M3, there, fun i ri => ?_⟩
      have ei : i = turnsM most x y := ri x y false b rfl
      rw [ei]
      exact q H3 ((KeepD.of (s1.trans sm2)).trans keep) CA3
    · refine ⟨.ref a, rfl, a, C, dx, _, .ref d, rfl, CA1.ins, CC.c, CC.nk, rfl, .ref k, rfl, d, k, [.num x, .num y, .num 0, b], Rk most, n, xs, rfl, rfl, ek, M, ?_, fun i ri => ?_⟩
      · cases z : (atKey xs [Leaf.num x, Leaf.num y, Leaf.num 0, b]).isSome with
        | true => rfl
        | false => rw [z] at e; exact absurd rfl e
      · have ei : i = turnsM most x y := ri x y false b rfl
        rw [ei]
        exact q _ (KeepD.of s1) ⟨CA1.ins, CA1.tab, xs, M.more (Nat.le_succ n)⟩
end
end My
namespace My
open PySem PySem.Spec PyProof.Rows L2
/-- math.comb(a, b) -/
def rComb : List V → Hp → VK → Prop := fun vs H Q => ∃ a b : Nat, vs = [.int a, .int b] ∧ a ≤ 60 ∧ Q (.int (cmb a b)) H
theorem cr_comb {X : Cx} : CallR X (.builtin "math.comb") rComb := by
  intro pins s σ H vs us Q I r h
  obtain ⟨a, b, rfl, ha, q⟩ := h
  obtain ⟨t, u, rfl⟩ := Vals.int2 r
  exact PySem.W.mc_comb (by omega) (by omega) (by omega) (.inr (by omega)) fun _ => ⟨.int (cmb a b), H, I.tok _, ⟨_, rfl⟩, q⟩
/-- _parted_by_choice(things, failures, barred) -/
def spParted (P : Program) (w : World) (C : Addr) : Sp := fun vs H Q _ => ∃ (a dx t d : Addr) (most n x y : Nat) (b : Leaf), vs = [.ref a, .int x, .int y, lV b] ∧ Bar b ∧ CntAt P w H C a dx t d most n ∧ n ≤ 100 ∧ most ≤ 60 ∧ x ≤ most ∧ y ≤ most ∧
  ∀ H' m, KeepD d H H' → CntAt P w H' C a dx t d most m → m ≤ 10000 → Q (.int (partedM most x y)) H'
/-- behind i whole rows of the terms and j more ones -/
def part (most x y i j : Nat) : List Int := ((List.range i).map fun i' => (List.range (y + 1)).map fun j' => term most x y i' j').flatten ++ (List.range j).map fun j' => term most x y i j'
theorem part_snoc (most x y i j : Nat) : part most x y i (j + 1) = part most x y i j ++ [term most x y i j] := by
  unfold part
  rw [List.range_succ (n := j), List.map_append, List.append_assoc]
  rfl
theorem part_next (most x y i : Nat) : part most x y (i + 1) 0 = part most x y i (y + 1) := by
  unfold part
  rw [List.range_succ (n := i), List.map_append, List.flatten_append]
  simp
theorem part_len (most x y : Nat) (hy : y ≤ 60) : ∀ i j, (part most x y i j).length ≤ 61 * i + j
  | i, j + 1 => by
    rw [part_snoc, List.length_append, List.length_singleton]
    have := part_len most x y hy i j
    omega
  | i + 1, 0 => by
    rw [part_next]
    have h : ∀ k, (part most x y i k).length = (part most x y i 0).length + k := fun k => by
      unfold part
      rw [List.length_append, List.length_append, List.length_map, List.length_map, List.length_range, List.length_range]
      omega
    rw [h]
    have := part_len most x y hy i 0
    omega
  | 0, 0 => by unfold part; simp
theorem part_all (most x y : Nat) : (part most x y (x + 1) 0).sum = partedM most x y := by
  unfold part partedM terms
  simp
def PvP (P : Program) (w : World) (C : Addr) (H : Hp) (a dx t d D : Addr) (most n x y i j : Nat) (H' : Hp) : Prop := KeepD d H H' ∧ (∃ c, c ≤ 122 * i + 2 * j ∧ CntAt P w H' C a dx t d most (n + c)) ∧ H' D = some (.lst ((part most x y i j).map V.int))
abbrev nPar : List Str := ["self", "things", "failures", "barred", "some", "few"]
abbrev pPar : List Str := ["self", "things", "failures", "barred"]
section
variable {P : Program} {w : World} {K : PySem.W.Frag} {mg : Str → Option Value} {base : Heap}
theorem scPar : FnScope nPar pPar (defScope sParted) := ⟨rfl, rfl, rfl, by decide +kernel, rfl, by decide +kernel, by decide +kernel⟩
theorem ok_parted {f C fN : Addr} {fd dN : FuncData} (F : Fun K "_parted_by_choice" "Counts._parted_by_choice" sParted f fd) (CC : CCls K mg C) (T : Txt mg) (CT : CTxt mg) (MN : Meth K C "number" fN) (bN : Binds K dN pNum []) (GN : FnOk P w K mg base CX0 3 fN dN pNum (spNum0 P w C)) :
    FnOk P w K mg base CX0 4 f fd pPar (spParted P w C) := by
  obtain ⟨tc, gc⟩ := CT.choice
  refine F.ok scPar (fun vs H Q E h => ?_) (fun cdv A outer s H vs Q E hr h => ?_)
  · obtain ⟨a, dx, t, d, most, n, x, y, b, rfl, _⟩ := h
    rfl
  · obtain ⟨a, dx, t, d, most, n, x, y, b, rfl, hb, CA, hn, hm, hx, hy, q⟩ := h
    refine ⟨_, pss_one (ps_ret (pe_callB (cr_sum rfl) (by rfl) T.sum (by decide +kernel) (pa_cons
      (pe_lc2 (own := [("some", 4), ("few", 5)]) (vs1 := [5]) (g := gName 4) (tt := tYes) (g1 := gName 5) (tt1 := tYes) rfl scPar.nd (pi_range1 (by rfl) T.range (pa_cons (pe_op op_add (pv 1) pe_int) pa_nil)) (blkOk_by (N := nPar) (sc := defScope sParted) (by decide +kernel)) (by decide)
        (fun _ _ _ _ _ => pg_name (i := 4) scPar.nd rfl (Or.inl rfl)) (fun _ _ _ _ _ => pts_nil) (fun _ _ _ _ _ => pi_range1 (by rfl) T.range (pa_cons (pe_op op_add (pv 2) pe_int) pa_nil)) (fun _ _ _ _ _ => pg_name (i := 5) scPar.nd rfl (Or.inl rfl)) (fun _ _ _ _ _ => pts_nil)
        (fun _ _ _ _ _ => pe_op op_mulW (pe_op op_mulW (pe_op op_mulW (pe_callBfun cr_comb (by rfl) T.comb (pa_cons (pv 1) (pa_cons (pv 4) pa_nil))) (pe_callBfun cr_comb (by rfl) T.comb (pa_cons (pv 2) (pa_cons (pv 5) pa_nil))))
            (pe_meth (pv 0) CC.c MN GN hr bN .nil pass0 (pa_cons (pv 4) (pa_cons (pv 5) (pa_cons pe_int (pa_cons (pv 3) pa_nil))))))
            (pe_meth (pv 0) CC.c MN GN hr bN .nil pass0 (pa_cons (pe_op op_sub (pv 1) (pv 4)) (pa_cons (pe_op op_sub (pv 2) (pv 5)) (pa_cons pe_int (pa_cons (pe_glob (v := .str "choice") rfl gc ⟨_, rfl⟩) pa_nil))))))) pa_nil))), ?_⟩
    have CAn := CA.ne
    refine ⟨.int x, rfl, x, 1, rfl, rfl, (x : Int) + 1, rfl, by omega, by omega, fun D hD => ?_⟩
    have n1 : ((x : Int) + 1).toNat = x + 1 := by omega
    have n2 : ((y : Int) + 1).toNat = y + 1 := by omega
    rw [n1]
    refine ⟨fun i m H' => m = x + 1 - i ∧ i ≤ x + 1 ∧ PvP P w C H a dx t d D most n x y i 0 H', ⟨x + 1, by simp, Nat.zero_le _, ?_⟩, ?_⟩
    · refine ⟨fun q u ne e => ?_, ⟨0, by omega, CA.keep (same_new hD)⟩, upd_same⟩
      rw [upd_ne (ne_of_none e hD)]
      exact e
    rintro i m H1 ⟨rfl, hi, p⟩
    by_cases hlt : i < x + 1
    · refine .inr ⟨hlt, PvP P w C H a dx t d D most n x y (i + 1) 0, fun H' p' => ⟨x + 1 - (i + 1), by omega, rfl, hlt, p'⟩, fun v H' yl => ?_⟩
      obtain ⟨eH, ev⟩ := yl
      rw [Int.zero_add] at ev
      subst eH ev
      refine ⟨rfl, .int y, rfl, y, 1, rfl, rfl, (y : Int) + 1, rfl, by omega, by omega, ?_⟩
      rw [n2]
      refine ⟨fun j m H' => m = y + 1 - j ∧ j ≤ y + 1 ∧ PvP P w C H a dx t d D most n x y i j H', ⟨y + 1, by simp, Nat.zero_le _, p⟩, ?_⟩
      rintro j m H2 ⟨rfl, hj, p2⟩
      by_cases jlt : j < y + 1
      · refine .inr ⟨jlt, PvP P w C H a dx t d D most n x y i (j + 1), fun H' p' => ⟨y + 1 - (j + 1), by omega, rfl, jlt, p'⟩, fun v H' yl => ?_⟩
        obtain ⟨eH, ev⟩ := yl
        rw [Int.zero_add] at ev
        subst eH ev
        obtain ⟨kd, ⟨c, hc, CA2⟩, eD⟩ := p2
        have nD : D ≠ d := fun z => by
          obtain ⟨xs, M⟩ := CA2.mem
          rw [z, M.ex] at eD
          cases eD
        obtain ⟨c10, c11⟩ := cmb_small (n := x) (k := i) (by omega) (by omega)
        obtain ⟨c20, c21⟩ := cmb_small (n := y) (k := j) (by omega) (by omega)
        have w1 : (cmb x i).natAbs < 2 ^ 60 := by omega
        have w2 : (cmb y j).natAbs < 2 ^ 60 := by omega
        have w12 := wide_lt w1 w2
        have w3 := turns_small (most := most) (a := i) (b := j) hm (by omega) (by omega)
        have w123 := wide_lt w12 w3
        have w4 := turns_small (most := most) (a := x - i) (b := y - j) hm (by omega) (by omega)
        have ex : ((x - i : Nat) : Int) = (x : Int) - (i : Int) := by omega
        have ey : ((y - j : Nat) : Int) = (y : Int) - (j : Int) := by omega
        refine ⟨rfl, .int x, rfl, .int i, rfl, x, i, rfl, by omega, .int y, rfl, .int j, rfl, y, j, rfl, by omega, _, _, rfl, rfl, wide_mul w1 w2 (by decide) (by decide) (by decide), ?_⟩
        refine ⟨.ref a, rfl, a, dx, _, rfl, CA2.ins, rfl, .int i, rfl, .int j, rfl, lV b, rfl, a, dx, t, d, most, n + c, i, j, b, rfl, hb, CA2, by omega, hm, by omega, by omega, fun H3 k3 CA3 => ?_⟩
        refine ⟨_, _, rfl, rfl, wide_mul w12 w3 (by decide) (by decide) (by decide), ?_⟩
        refine ⟨.ref a, rfl, a, dx, _, rfl, CA3.ins, rfl, .int x, rfl, .int i, rfl, _, _, rfl, rfl, .int y, rfl, .int j, rfl, _, _, rfl, rfl, a, dx, t, d, most, n + c + 1, x - i, y - j, .text "choice", by rw [ex, ey]; rfl, .inr rfl, CA3, by omega, hm, by omega, by omega, fun H4 k4 CA4 => ?_⟩
        refine ⟨_, _, rfl, rfl, wide_mul w123 w4 (by decide) (by decide) (by decide), ?_⟩
        have eD4 := k4 _ _ nD (k3 _ _ nD eD)
        have pl := part_len most x y (by omega) i j
        refine ⟨_, eD4, by rw [sizeLine_eq, List.length_map]; omega, fun q u ne e => ?_, ⟨c + 2, by omega, ?_⟩, ?_⟩
        · rw [upd_ne (ne_of_none e hD)]
          exact k4 _ _ ne (k3 _ _ ne (kd _ _ ne e))
        · have up : ∀ q u, H4 q = some u → q ≠ D → (upd H4 D (.lst ((part most x y i j).map V.int ++ [.int (cmb x i * cmb y j * turnsM most i j * turnsM most (x - i) (y - j))]))) q = some u := fun q u e ne => by rw [upd_ne ne]; exact e
          obtain ⟨as, hl, hT, hrow⟩ := CA4.tab.ex
          obtain ⟨xs, M⟩ := CA4.mem
          have far : ∀ {q : Addr} {u : HO}, H q = some u → q ≠ D := fun e => ne_of_none e hD
          have hTD : t ≠ D := by
            obtain ⟨_, _, h, _⟩ := CA.tab.ex
            exact far h
          have haD : a ≠ D := far CA.ins
          refine ⟨up _ _ CA4.ins haD, ⟨as, hl, up _ _ hT hTD, fun j' b' e => up _ _ (hrow j' b' e) (fun z => ?_)⟩, xs, ⟨up _ _ M.ex (fun z => nD z.symm), M.few, fun z hz => ⟨up _ _ (M.key z hz).1 (fun q => ?_), (M.key z hz).2⟩, M.sys⟩⟩
          · obtain ⟨as0, hl0, hT0, hrow0⟩ := CA.tab.ex
            have e1 := k4 _ _ CA2.ne.2 (k3 _ _ CA2.ne.2 (kd _ _ CA2.ne.2 hT0))
            rw [hT] at e1
            injection e1 with e1
            injection e1 with e1
            have e2 : as = as0 := (List.map_inj_right (fun _ _ h => by injection h)).mp e1
            rw [e2] at e
            exact far (hrow0 j' b' e) z
          · have e1 := (M.key z hz).1
            rw [q, eD4] at e1
            cases e1
        · rw [upd_same, part_snoc, List.map_append]
          rfl
      · have ej : j = y + 1 := by omega
        subst ej
        refine .inl ⟨Nat.le_refl _, ?_⟩
        obtain ⟨kd, ⟨c, hc, CA2⟩, eD⟩ := p2
        exact ⟨kd, ⟨c, by omega, CA2⟩, by rw [part_next]; exact eD⟩
    · have ei : i = x + 1 := by omega
      subst ei
      obtain ⟨kd, ⟨c, hc, CA2⟩, eD⟩ := p
      refine .inl ⟨Nat.le_refl _, D, _, rfl, SqL.of eD, ?_⟩
      rw [part_all]
      exact q H1 _ kd CA2 (by omega)
end
end My
namespace My
open PySem PySem.Spec PyProof.Rows L2
/-- number(things, failures, 1, barred) -/
def spNum1 (P : Program) (w : World) (C : Addr) : Sp := fun vs H Q _ => ∃ (a dx t d : Addr) (most n x y : Nat) (b : Leaf), vs = [.ref a, .int x, .int y, .int 1, lV b] ∧ Bar b ∧ CntAt P w H C a dx t d most n ∧ n ≤ 100 ∧ most ≤ 60 ∧ x ≤ most ∧ y ≤ most ∧
  ∀ H', KeepD d H H' → Q (.int (partedM most x y)) H'
def spCntI (P : Program) (w : World) (C : Addr) : Sp := fun vs H Q _ => ∃ (a dx : Addr) (most : Nat), vs = [.ref a, .int most] ∧ most ≤ 60 ∧ H a = some (.ins C dx []) ∧
  ∀ H' t d, (∀ q u, q ≠ a → H q = some u → H' q = some u) → H d = none → CntAt P w H' C a dx t d most 0 → Q .non H'
section
variable {P : Program} {w : World} {K : PySem.W.Frag} {mg : Str → Option Value} {base : Heap}
theorem ok_num1 {f C fP : Addr} {fd dP : FuncData} (F : Fun K "number" "Counts.number" sNumber f fd) (CC : CCls K mg C) (T : Txt mg) (MP : Meth K C "_parted_by_choice" fP) (bP : Binds K dP pPar []) (GP : FnOk P w K mg base CX0 4 fP dP pPar (spParted P w C)) :
    FnOk P w K mg base CX0 5 f fd pNum (spNum1 P w C) := by
  refine F.ok scNum (fun vs H Q E h => ?_) (fun cdv A outer s H vs Q E hr h => ?_)
  · obtain ⟨a, dx, t, d, most, n, x, y, b, rfl, _⟩ := h
    rfl
  · obtain ⟨a, dx, t, d, most, n, x, y, b, rfl, hb, CA, hn, hm, hx, hy, q⟩ := h
    have hu := hu_of hr
    refine ⟨_, pss_cons (ps_set (i := 5) scNum.nd rfl (.inl rfl) (pe_tup (pa_cons (pv 1) (pa_cons (pv 2) (pa_cons (pv 3) (pa_cons (pv 4) pa_nil))))))
      (pss_cons (ps_if (pt_cmpR (op_memNotIn hu) (pv 5) (pe_fld (pv 0) (by rfl)) (by rfl))
        (pss_one (ps_asg (pe_ifExp (pt_truth (pv 3) (by intro _; rfl)) (pe_meth (pv 0) CC.c MP GP hr bP .nil pass0 (pa_cons (pv 1) (pa_cons (pv 2) (pa_cons (pv 4) pa_nil)))) pe_never)
          (pg_sub (pe_fld (pv 0) (by rfl)) (pv 5) (set_mem hu)))) pss_nil)
      (pss_one (ps_ret (pe_memget hu (pe_fld (pv 0) (by rfl)) (pv 5) (fun _ _ => rfl))))), ?_⟩
    refine ⟨_, rfl, _, rfl, _, rfl, _, rfl, by show 4 ≤ sizeLine; decide, fun k hk => ?_⟩
    have s1 := same_new (o := .tup [.int x, .int y, .int 1, lV b]) hk
    have CA1 := CA.keep s1
    obtain ⟨xs, M⟩ := CA1.mem
    have ek : (upd H k (.tup [.int x, .int y, .int 1, lV b])) k = some (.tup (([.num x, .num y, .num 1, b] : List Leaf).map lV)) := upd_same
    have nkd : k ≠ d := ne_of ek M.ex (fun z => nomatch z)
    refine ⟨.ref k, rfl, .ref a, rfl, a, C, dx, _, .ref d, rfl, CA1.ins, CC.c, CC.nk, rfl, d, k, [.num x, .num y, .num 1, b], Rk most, n, xs, rfl, rfl, ek, M, _, rfl, ite2 (fun e => ?_) (fun e => ?_)⟩
    · refine ⟨.int 1, rfl, true, rfl, iteT ⟨.ref a, rfl, a, dx, _, rfl, CA1.ins, rfl, .int x, rfl, .int y, rfl, lV b, rfl, a, dx, t, d, most, n, x, y, b, rfl, hb, CA1, hn, hm, hx, hy, fun H2 m kd CA2 hm2 => ?_⟩⟩
      obtain ⟨xs2, M2⟩ := CA2.mem
      refine ⟨.ref a, rfl, a, C, dx, _, .ref d, rfl, CA2.ins, CC.c, CC.nk, rfl, .ref k, rfl, d, k, [.num x, .num y, .num 1, b], Rk most, m, xs2, _, rfl, rfl, rfl, kd _ _ nkd ek, M2, by omega, Rk.parted, fun H3 xs3 M3 keep there => ?_⟩
      have CA3 := CA2.keepD keep M3
      refine ⟨.ref a, rfl, a, C, dx, _, .ref d, rfl, CA3.ins, CC.c, CC.nk, rfl, .ref k, rfl, d, k, [.num x, .num y, .num 1, b], Rk most, m + 1, xs3, rfl, rfl, keep _ _ nkd (kd _ _ nkd ek), M3, there, fun i ri => ?_⟩
      have ei : i = partedM most x y := ri x y true b rfl
      rw [ei]
      exact q H3 (((KeepD.of s1).trans kd).trans keep)
    · refine ⟨.ref a, rfl, a, C, dx, _, .ref d, rfl, CA1.ins, CC.c, CC.nk, rfl, .ref k, rfl, d, k, [.num x, .num y, .num 1, b], Rk most, n, xs, rfl, rfl, ek, M, ?_, fun i ri => ?_⟩
      · cases z : (atKey xs [Leaf.num x, Leaf.num y, Leaf.num 1, b]).isSome with
        | true => rfl
        | false => rw [z] at e; exact absurd rfl e
      · have ei : i = partedM most x y := ri x y true b rfl
        rw [ei]
        exact q _ (KeepD.of s1)
theorem scCntI : FnScope ["self", "most"] ["self", "most"] (defScope sCntI) := ⟨rfl, rfl, rfl, by decide +kernel, rfl, by decide +kernel, by decide +kernel⟩
theorem ok_cntI {f C fT : Addr} {fd dT : FuncData} (F : Fun K "__init__" "Counts.__init__" sCntI f fd) (CC : CCls K mg C) (FT : Fun K "_parted_table" "_parted_table" sTable fT dT) (bT : Binds K dT ["most"] []) (gT : mg "_parted_table" = some (.ref fT)) (GT : FnOk P w K mg base CX0 1 fT dT ["most"] spTable) :
    FnOk P w K mg base CX0 2 f fd ["self", "most"] (spCntI P w C) := by
  refine F.ok scCntI (fun vs H Q E h => ?_) (fun cdv A outer s H vs Q E hr h => ?_)
  · obtain ⟨a, dx, most, rfl, _⟩ := h
    rfl
  · obtain ⟨a, dx, most, rfl, hm, ha, q⟩ := h
    refine ⟨_, pss_cons (ps_fld (pv 0) (pe_call GT hr (by rfl) gT FT.kp bT .nil pass0 (pa_cons (pv 1) pa_nil)) (by rfl)) (pss_one (ps_fld (pv 0) pe_memnew (by rfl))), ?_⟩
    refine ⟨.int most, rfl, most, rfl, hm, fun t H1 s1 TA => ⟨.ref a, rfl, a, C, dx, [], rfl, s1 _ _ ha, CC.c, CC.np, by decide, ?_⟩⟩
    intro d hd M
    have nda : d ≠ a := fun z => by
      rw [z, upd_same] at hd
      cases hd
    have hd1 : H1 d = none := by
      rw [upd_ne nda] at hd
      exact hd
    have hd0 : H d = none := by
      cases e : H d with
      | none => rfl
      | some o =>
        have := s1 _ _ e
        rw [hd1] at this
        cases this
    refine ⟨.ref a, rfl, a, C, dx, [("parted", .ref t)], rfl, by rw [upd_ne (Ne.symm nda), upd_same]; rfl, CC.c, CC.nk, by show 1 < 1000; decide, ?_⟩
    have M0 := M (Rk most)
    obtain ⟨as, hl, hT, hrow⟩ := TA.ex
    have up : ∀ q u, q ≠ a → H1 q = some u → (upd (upd (upd H1 a (.ins C dx [("parted", .ref t)])) d (MemO P w d [])) a (.ins C dx [("parted", .ref t), ("known", .ref d)])) q = some u := fun q u n e => by
      rw [upd_ne n, upd_ne (fun z => by rw [z, hd1] at e; cases e), upd_ne n]
      exact e
    have nl : ∀ {q : Addr} {ys : List V}, H1 q = some (.lst ys) → q ≠ a := fun e z => by
      rw [z, s1 _ _ ha] at e
      cases e
    refine q _ t d (fun q u n e => up q u n (s1 _ _ e)) hd0 ⟨upd_same, ⟨as, hl, up _ _ (nl hT) hT, fun j b e => up _ _ (nl (hrow j b e)) (hrow j b e)⟩, [], ⟨?_, Nat.le_refl _, fun x hx => absurd hx List.not_mem_nil, M0.sys⟩⟩
    rw [upd_ne nda, upd_same]
    rfl
end
end My
namespace My
open PySem PySem.Spec PyProof.Rows L2
theorem _root_.L2.FnOk.or {P : Program} {w : World} {K : PySem.W.Frag} {mg : Str → Option Value} {base : Heap} {CX : CXT} {k j : Nat} {f : Addr} {fd : FuncData} {ps : List Str} {sp sq : Sp} (F : FnOk P w K mg base CX k f fd ps sp) (G : FnOk P w K mg base CX j f fd ps sq) (h : k ≤ j) :
    FnOk P w K mg base CX j f fd ps (fun vs H Q E => sp vs H Q E ∨ sq vs H Q E) :=
  ⟨fun vs H Q E z => z.elim (F.len vs H Q E) (G.len vs H Q E), fun A outer s H args us vs Q E r e0 b rel z => z.elim (F.run A outer s H args us vs Q E (r.mono h) e0 b rel) (G.run A outer s H args us vs Q E r e0 b rel)⟩
def isB (x : V) : Bool := match x with
  | .bl _ => true
  | _ => false
theorem th_bool {K : PySem.W.Frag} {H : Hp} {x : V} {d : PyData} (h : Th H x d) : ∃ S : String, TyX K H x (.type S) ∧ kitB S "bool" = some (isB x) := by
  cases h with
  | flat h =>
    cases h with
    | non => exact ⟨"NoneType", .base .non, by decide +kernel⟩
    | bl b => exact ⟨"bool", .base (.bl b), by show kitB "bool" "bool" = some true; decide +kernel⟩
    | int i => exact ⟨"int", .base (.int i), by show kitB "int" "bool" = some false; decide +kernel⟩
    | str z => exact ⟨"str", .base (.str z), by show kitB "str" "bool" = some false; decide +kernel⟩
  | lst h k n => exact ⟨"list", .base (.lst h), by show kitB "list" "bool" = some false; decide +kernel⟩
  | tup h k n => exact ⟨"tuple", .base (.tup h), by show kitB "tuple" "bool" = some false; decide +kernel⟩
  | dct h => exact ⟨"dict", .base (.dK h), by show kitB "dict" "bool" = some false; decide +kernel⟩
theorem isIx_nat {x : V} {m : Nat} (h : isIx x (m + 1 : Nat) = true) : ∃ k : Nat, x = .int k ∧ k ≤ m := by
  cases x with
  | int i =>
    have h' : (decide (0 ≤ i) && decide (i < ((m + 1 : Nat) : Int))) = true := h
    rw [Bool.and_eq_true] at h'
    have h0 := of_decide_eq_true h'.1
    have h1 := of_decide_eq_true h'.2
    exact ⟨i.toNat, by rw [Int.toNat_of_nonneg h0], by omega⟩
  | _ => cases h
theorem isB_bl {x : V} (h : isB x = true) : ∃ b, x = .bl b := by
  cases x with
  | bl b => exact ⟨b, rfl⟩
  | _ => cases h
def spMany (CZ : Addr) : Sp := fun vs H Q E => ∃ (x y c : V) (dx dy dc : PyData), vs = [x, y, c] ∧ Th H x dx ∧ Th H y dy ∧ Th H c dc ∧
  (isIx x 61 = false → Told E CZ H dx) ∧ (isIx x 61 = true → isIx y 61 = false → Told E CZ H dy) ∧ (isIx x 61 = true → isIx y 61 = true → isB c = false → Told E CZ H dc) ∧
  (∀ (k f : Nat) (b : Bool), x = .int k → y = .int f → c = .bl b → k ≤ 60 → f ≤ 60 → ∀ H', Same' H H' → Q (.int (manyM k f b)) H')
abbrev nMany : List Str := ["keeping", "failures", "has_choice", "value"]
abbrev pMany : List Str := ["keeping", "failures", "has_choice"]
section
variable {P : Program} {w : World} {K : PySem.W.Frag} {mg : Str → Option Value} {base : Heap}
theorem scMany : FnScope nMany pMany (defScope sMany) := ⟨rfl, rfl, rfl, by decide +kernel, rfl, by decide +kernel, by decide +kernel⟩
theorem ok_many {f C CZ fX fI fC fN : Addr} {fd dX dI dC dN : FuncData} {t60 : Tok} (F : Fun K "many_classes" "many_classes" sMany f fd) (CC : CCls K mg C) (T : Txt mg) (g60 : mg "MOST_COUNTED" = some (.int 60 t60))
    (FX : Fun K "is_index" "is_index" sIndex fX dX) (bX : Binds K dX ["value", "many"] []) (gX : mg "is_index" = some (.ref fX)) (GX : FnOk P w K mg base CX0 2 fX dX ["value", "many"] spIndex)
    (EN : Err K mg "BadNumber" CZ fI) (bI : Binds K dI ["self", "value"] []) (GI : FnOk P w K mg base CX0 3 fI dI ["self", "value"] (spIni K CZ))
    (MC : Mk K C fC) (bC : Binds K dC ["self", "most"] []) (GC : FnOk P w K mg base CX0 2 fC dC ["self", "most"] (spCntI P w C))
    (MN : Meth K C "number" fN) (bN : Binds K dN pNum []) (G0 : FnOk P w K mg base CX0 3 fN dN pNum (spNum0 P w C)) (G1 : FnOk P w K mg base CX0 5 fN dN pNum (spNum1 P w C)) :
    FnOk P w K mg base (L2.CX P w) 6 f fd pMany (spMany CZ) := by
  refine F.okX scMany (fun vs H Q E h => ?_) (fun cdv A outer s H vs Q E hr h => ?_)
  · obtain ⟨x, y, c, dx, dy, dc, rfl, _⟩ := h
    rfl
  · obtain ⟨x, y, c, dx, dy, dc, rfl, tx, ty, tc, q1, q2, q3, q⟩ := h
    have GN := (G0.or G1 (by decide))
    refine ⟨_, pss_cons (ps_for (passes_of rfl) rfl (pi_tup (pe_tup (pa_cons (pv 0) (pa_cons (pv 1) pa_nil)))) (pg_name (i := 3) scMany.nd rfl (.inl rfl))
          (pss_one (ps_if (pt_not (pt_val (pe_call GX (hr.mono (by decide)) (by rfl) gX FX.kp bX .nil pass0 (pa_cons (pv 3) (pa_cons (pe_op op_add (pe_glob (v := .int 60) rfl g60 ⟨_, rfl⟩) pe_int) pa_nil)))))
            (pss_one (ps_raise rfl (takes_of rfl rfl rfl rfl) (pmk_oex EN.ox EN.ini EN.ty GI (hr.mono (by decide)) bI .nil pass0 (by rfl) EN.g (pa_cons (pv 3) pa_nil)))) pss_nil)))
        (pss_cons (ps_if (pt_not (pt_val (pe_callB call_isi (by rfl) T.isi (by decide +kernel) (pa_cons (pv 2) (pa_cons (pe_bltn (by rfl) T.bool (by decide +kernel) (show RelV (.ty "bool") _ from rfl)) pa_nil)))))
            (pss_one (ps_raise rfl (takes_of rfl rfl rfl rfl) (pmk_oex EN.ox EN.ini EN.ty GI (hr.mono (by decide)) bI .nil pass0 (by rfl) EN.g (pa_cons (pv 2) pa_nil)))) pss_nil)
        (pss_one (ps_ret (pe_meth (pe_make MC GC (hr.mono (by decide)) (by rfl) CC.g bC .nil pass0 (pa_cons (pe_callB (call_max2 rfl) (by rfl) T.max (by decide +kernel) (pa_cons (pe_callTy call_int1 (by rfl) T.int (by decide +kernel) (pa_cons (pv 0) pa_nil)) (pa_cons (pe_callTy call_int1 (by rfl) T.int (by decide +kernel) (pa_cons (pv 1) pa_nil)) pa_nil))) pa_nil))
          CC.c MN GN hr bN .nil pass0 (pa_cons (pv 0) (pa_cons (pv 1) (pa_cons (pe_callTy call_int1 (by rfl) T.int (by decide +kernel) (pa_cons (pv 2) pa_nil)) (pa_cons pe_non pa_nil)))))))), ?_⟩
    refine ⟨x, rfl, y, rfl, by show 2 ≤ sizeLine; decide, fun p hp => ⟨p, rfl, ⟨_, SqT.of upd_same⟩, ?_⟩⟩
    have s1 := same_new (o := .tup [x, y]) hp
    refine for_tup (K := K) (a := p) (xs := [x, y]) (fun i σ H' => Same' (upd H p (.tup [x, y])) H' ∧ (∃ v, σ = [some x, some y, some c, v]) ∧ (0 < i → isIx x 61 = true) ∧ (1 < i → isIx y 61 = true)) ?_ ?_ ?_ ?_
    · exact ⟨fun _ _ e => e, ⟨none, rfl⟩, fun z => absurd z (by decide), fun z => absurd z (by decide)⟩
    · exact fun i σ H' _ hp' => SqT.of (hp'.1 _ _ upd_same)
    · intro i v σ H1 hv hp'
      obtain ⟨sm, ⟨v3, rfl⟩, h0, h1⟩ := hp'
      have sm0 := s1.trans sm
      have key : ∃ dv, Th H v dv ∧ (isIx v 61 = false → Told E CZ H dv) ∧ (isIx v 61 = true → (0 < i + 1 → isIx x 61 = true) ∧ (1 < i + 1 → isIx y 61 = true)) := by
        match i, hv with
        | 0, hv =>
          injection hv with hv
          subst hv
          exact ⟨dx, tx, q1, fun e => ⟨fun _ => e, fun z => absurd z (by decide)⟩⟩
        | 1, hv =>
          injection hv with hv
          subst hv
          exact ⟨dy, ty, q2 (h0 (by decide)), fun e => ⟨fun _ => h0 (by decide), fun _ => e⟩⟩
      obtain ⟨dv, tv, bad, good⟩ := key
      refine ⟨v, rfl, 60, 1, rfl, rfl, v, dv, 61, rfl, tv.keep sm0, isIx v 61, rfl, ?_⟩
      cases e : isIx v 61 with
      | true => exact iteF ⟨sm, ⟨some v, rfl⟩, (good e).1, (good e).2⟩
      | false => exact iteT ⟨v, rfl, by show 1 ≤ 1000; decide, raised (fI := fI) (tv.keep sm0) (told_more (bad e) sm0)⟩
    · intro σ H1 hp'
      obtain ⟨sm, ⟨v3, rfl⟩, h0, h1⟩ := hp'
      have sm0 := s1.trans sm
      have ix := h0 (by show 0 < 2; decide)
      have iy := h1 (by show 1 < 2; decide)
      obtain ⟨S, tyc, kc⟩ := th_bool (K := K) (tc.keep sm0)
      refine ⟨c, rfl, c, .ty "bool", .type S, .type "bool", isB c, rfl, .ty "bool", tyc, kit_ty kc, isB c, rfl, ?_⟩
      cases e : isB c with
      | false => exact iteT ⟨c, rfl, by show 1 ≤ 1000; decide, raised (fI := fI) (tc.keep sm0) (told_more (q3 ix iy e) sm0)⟩
      | true =>
        obtain ⟨k, rfl, hk⟩ := isIx_nat (m := 60) ix
        obtain ⟨n, rfl, hn⟩ := isIx_nat (m := 60) iy
        obtain ⟨b, rfl⟩ := isB_bl e
        have em : (if (n : Int) > (k : Int) then (n : Int) else (k : Int)) = ((max k n : Nat) : Int) := by
          split <;> omega
        refine iteF ⟨.int k, rfl, .inl ⟨k, rfl, .int n, rfl, .inl ⟨n, rfl, k, n, rfl, fun a da ha hda nda => ?_⟩⟩⟩
        have sN : Same' H1 (upd (upd H1 da (.own a)) a (.ins C da [])) := fun q u e => by
          rw [upd_ne (ne_of_none e ha), upd_ne (ne_of_none e hda)]
          exact e
        refine ⟨a, da, max k n, by rw [em]; rfl, by omega, upd_same, fun H2 t d keep hd CA => ⟨rfl, ?_⟩⟩
        have hd1 : H1 d = none := by
          cases e : H1 d with
          | none => rfl
          | some o =>
            rw [sN _ _ e] at hd
            cases hd
        have far2 : Same' H1 H2 := fun q u e => keep q u (ne_of_none e ha) (sN _ _ e)
        have fin : ∀ H3, KeepD d H2 H3 → Same' H H3 := fun H3 kd q u e => kd q u (ne_of_none (sm0 _ _ e) hd1) (far2 _ _ (sm0 _ _ e))
        refine ⟨a, da, _, rfl, CA.ins, rfl, .int k, rfl, .int n, rfl, .bl b, rfl, .inr ⟨b, rfl, ?_⟩⟩
        cases b with
        | false =>
          refine .inl ⟨a, da, t, d, max k n, 0, k, n, .none, rfl, .inl rfl, CA, by decide, by omega, by omega, by omega, fun H3 kd _ => ?_⟩
          exact q k n false rfl rfl rfl hk hn H3 (fin H3 kd)
        | true =>
          refine .inr ⟨a, da, t, d, max k n, 0, k, n, .none, rfl, .inl rfl, CA, by decide, by omega, by omega, by omega, fun H3 kd => ?_⟩
          exact q k n true rfl rfl rfl hk hn H3 (fin H3 kd)
end
end My
namespace My
open PySem PySem.Spec PyProof.Rows L2
/-! ### the law's own count -/
def spParts : Sp := fun vs H Q _ => ∃ n k : Nat, vs = [.int n, .int k] ∧ n ≤ 9 ∧ k ≤ 9 ∧ Q (.int (ptsM n k)) H
abbrev nParts : List Str := ["_law_number", "_law_part", "_law_found", "_law_step"]
section
variable {P : Program} {w : World} {K : PySem.W.Frag} {mg : Str → Option Value} {base : Heap}
theorem scParts : FnScope nParts ["_law_number", "_law_part"] (defScope sParts) := ⟨rfl, rfl, rfl, by decide +kernel, rfl, by decide +kernel, by decide +kernel⟩
theorem pts_succ (n k : Nat) : ptsM n (k + 1) = (ptsM n k * ((n : Int) - (k : Int))).fdiv ((k : Int) + 1) := by
  unfold ptsM
  rw [List.range_succ, List.foldl_append]
  rfl
theorem ok_parts {f : Addr} {fd : FuncData} (F : Fun K "_law_parts" "_law_parts" sParts f fd) (T : Txt mg) : FnOk P w K mg base CX0 1 f fd ["_law_number", "_law_part"] spParts := by
  refine F.ok scParts (fun vs H Q E h => ?_) (fun cdv A outer s H vs Q E hr h => ?_)
  · obtain ⟨n, k, rfl, _⟩ := h
    rfl
  · obtain ⟨n, k, rfl, hn, hk, q⟩ := h
    refine ⟨_, pss_cons (ps_set (i := 2) scParts.nd rfl (.inl rfl) pe_int)
      (pss_cons (ps_for PassesOwn.never rfl (pi_range1 (by rfl) T.range (pa_cons (pv 1) pa_nil)) (pg_name (i := 3) scParts.nd rfl (.inl rfl))
        (pss_one (ps_set (i := 2) scParts.nd rfl (.inl rfl) (pe_op op_fdivN (pe_op op_mul (pv 2) (pe_op op_sub (pv 0) (pv 3))) (pe_op op_add (pv 3) pe_int)))))
      (pss_one (ps_ret (pv 2)))), ?_⟩
    refine ⟨.int k, rfl, k, rfl, by omega, by omega, ?_⟩
    rw [show ((k : Int)).toNat = k from rfl]
    refine for_range (lo := 0) (n := k) (fun i σ H' => H' = H ∧ ∃ y, σ = [some (.int n), some (.int k), some (.int (ptsM n i)), y]) ⟨rfl, none, rfl⟩ (fun i σ H1 hi hp => ?_) (fun σ H1 hp => ?_)
    · obtain ⟨rfl, y, rfl⟩ := hp
      rw [Int.zero_add]
      have pp := pts_all ⟨n, by omega⟩ ⟨i, by omega⟩
      have p0 : 0 ≤ ptsM n i := pp.1
      have p1 : ptsM n i < 2 ^ 60 := pp.2
      refine ⟨_, rfl, .int n, rfl, .int i, rfl, _, _, rfl, rfl, _, _, rfl, rfl, .inl ⟨by omega, by omega⟩, .int i, rfl, _, 1, rfl, rfl, _, _, rfl, rfl, ⟨by omega, by omega⟩, rfl, some (.int i), ?_⟩
      rw [pts_succ]
      rfl
    · obtain ⟨rfl, y, rfl⟩ := hp
      exact ⟨_, rfl, q⟩
/-- _law_ways(left, last): three kinds -/
def spWays (n : Nat) : Sp := fun vs H Q _ => ∃ (a : Addr) (l : List Nat) (last : Nat), vs = [.ref a, .int last] ∧ H a = some (.lst ((l.map fun x : Nat => (x : Int)).map V.int)) ∧ l.length = 3 ∧ l.sum ≤ n ∧ n ≤ 9 ∧ last ≤ 3 ∧ ∀ H', Same' H H' → Q (.int (waysM n l last)) H'
abbrev nWays : List Str := ["_law_left", "_law_last", "_law_found", "_law_at", "_law_number", "_law_size", "_law_rest"]
theorem cast_sum : ∀ l : List Nat, (l.map fun x : Nat => (x : Int)).sum = (l.sum : Int)
  | [] => rfl
  | x :: r => by
    rw [List.map_cons, List.sum_cons, List.sum_cons, cast_sum r]
    omega
theorem set_sum : ∀ (l : List Nat) (i v : Nat), i < l.length → (l.set i v).sum + l.getD i 0 = l.sum + v
  | [], i, v, h => absurd h (Nat.not_lt_zero _)
  | x :: r, 0, v, _ => by
    rw [List.set_cons_zero, List.sum_cons, List.sum_cons, List.getD_cons_zero]
    omega
  | x :: r, i + 1, v, h => by
    have := set_sum r i v (by rw [List.length_cons] at h; omega)
    rw [List.set_cons_succ, List.sum_cons, List.sum_cons, List.getD_cons_succ]
    omega
theorem cut_to (xs : List V) (i : Nat) (h : i ≤ xs.length) : cutV xs none (some (i : Int)) = xs.take i := by
  unfold cutV
  rw [show HT.sIx xs.length 0 none = 0 from rfl, show HT.sIx xs.length xs.length (some (i : Int)) = min i xs.length from HT.sIx_nat xs.length xs.length i, List.drop_zero, Nat.min_eq_left h, Nat.sub_zero]
theorem cut_from (xs : List V) (i : Nat) (h : i ≤ xs.length) : cutV xs (some (i : Int)) none = xs.drop i := by
  unfold cutV
  rw [show HT.sIx xs.length 0 (some (i : Int)) = min i xs.length from HT.sIx_nat xs.length 0 i, show HT.sIx xs.length xs.length none = xs.length from rfl, Nat.min_eq_left h]
  exact List.take_of_length_le (by rw [List.length_drop]; omega)
theorem sum_range (g : Nat → Int) (i : Nat) : ((List.range (i + 1)).map g).sum = ((List.range i).map g).sum + g i := by
  rw [List.range_succ, List.map_append, List.sum_append]
  simp
def inn (n : Nat) (l : List Nat) (i j : Nat) : Int := ((List.range j).map fun s => ptsM (l.getD i 0) (s + 1) * waysM n (l.set i (l.getD i 0 - (s + 1))) i).sum
def out (n : Nat) (l : List Nat) (last i : Nat) : Int := ((List.range i).map fun at_ => if at_ = last then (0 : Int) else inn n l at_ (l.getD at_ 0)).sum
theorem ways_out (n : Nat) (l : List Nat) (last : Nat) : waysM (n + 1) l last = if l.sum = 0 then 1 else out n l last l.length := rfl
theorem iteT' {p q : Prop} {c : Bool} (h : c = true) (x : p) : if c = true then p else q := by
  subst h
  exact x
theorem scWays : FnScope nWays ["_law_left", "_law_last"] (defScope sWays) := ⟨rfl, rfl, rfl, by decide +kernel, rfl, by decide +kernel, by decide +kernel⟩
theorem ok_ways0 {f : Addr} {fd : FuncData} (F : Fun K "_law_ways" "_law_ways" sWays f fd) (T : Txt mg) : FnOk P w K mg base CX0 1 f fd ["_law_left", "_law_last"] (spWays 0) := by
  refine F.ok scWays (fun vs H Q E h => ?_) (fun cdv A outer s H vs Q E hr h => ?_)
  · obtain ⟨a, l, last, rfl, _⟩ := h
    rfl
  · obtain ⟨a, l, last, rfl, ha, hl, hs, hn, hlast, q⟩ := h
    refine ⟨_, pss_cons (ps_if (pt_cmpR op_eq (pe_callB (cr_sum rfl) (by rfl) T.sum (by decide +kernel) (pa_cons (pv 0) pa_nil)) pe_int (nomark _)) (pss_one (ps_ret pe_int)) pss_nil)
      (pss_cons ps_never (pss_cons ps_never (pss_one ps_never))), ?_⟩
    refine ⟨.ref a, rfl, a, _, rfl, SqL.of ha, rfl, _, rfl, iteT' ?_ (q H (fun _ _ e => e))⟩
    rw [cast_sum, show l.sum = 0 by omega]
    rfl
theorem ok_ways1 {f fP : Addr} {fd dP : FuncData} {n : Nat} (F : Fun K "_law_ways" "_law_ways" sWays f fd) (T : Txt mg) (b : Binds K fd ["_law_left", "_law_last"] []) (g : mg "_law_ways" = some (.ref f)) (G : FnOk P w K mg base CX0 (n + 2) f fd ["_law_left", "_law_last"] (spWays n))
    (FP : Fun K "_law_parts" "_law_parts" sParts fP dP) (bP : Binds K dP ["_law_number", "_law_part"] []) (gP : mg "_law_parts" = some (.ref fP)) (GP : FnOk P w K mg base CX0 1 fP dP ["_law_number", "_law_part"] spParts) :
    FnOk P w K mg base CX0 (n + 3) f fd ["_law_left", "_law_last"] (spWays (n + 1)) := by
  refine F.ok scWays (fun vs H Q E h => ?_) (fun cdv A outer s H vs Q E hr h => ?_)
  · obtain ⟨a, l, last, rfl, _⟩ := h
    rfl
  · obtain ⟨a, l, last, rfl, ha, hl, hs, hn, hlast, q⟩ := h
    refine ⟨_, pss_cons (ps_if (pt_cmpR op_eq (pe_callB (cr_sum rfl) (by rfl) T.sum (by decide +kernel) (pa_cons (pv 0) pa_nil)) pe_int (nomark _)) (pss_one (ps_ret pe_int)) pss_nil)
      (pss_cons (ps_set (i := 2) scWays.nd rfl (.inl rfl) pe_int)
      (pss_cons (ps_for PassesOwn.never rfl (pi_enum (by rfl) T.enum (pa_cons (pv 0) pa_nil)) (pg_tup (n := 2) rfl (pgs_cons (pg_name (i := 3) scWays.nd rfl (.inl rfl)) (pgs_cons (pg_name (i := 4) scWays.nd rfl (.inl rfl)) pgs_nil)))
        (pss_one (ps_if (pt_cmpR op_ne (pv 3) (pv 1) (nomark _))
          (pss_one (ps_for PassesOwn.never rfl (pi_range2 (by rfl) T.range (pa_cons pe_int (pa_cons (pe_op op_add (pv 4) pe_int) pa_nil))) (pg_name (i := 5) scWays.nd rfl (.inl rfl))
            (pss_cons (ps_set (i := 6) scWays.nd rfl (.inl rfl) (pe_op op_cat (pe_op op_cat (pe_slice sl_list (pv 0) po_none (po_some (pv 3))) (pe_lst (pa_cons (pe_op op_sub (pv 4) (pv 5)) pa_nil))) (pe_slice sl_list (pv 0) (po_some (pe_op op_add (pv 3) pe_int)) po_none)))
            (pss_one (ps_set (i := 2) scWays.nd rfl (.inl rfl) (pe_op op_add (pv 2) (pe_op op_mul (pe_call GP (hr.mono (by omega)) (by rfl) gP FP.kp bP .nil pass0 (pa_cons (pv 4) (pa_cons (pv 5) pa_nil)))
              (pe_call G hr (by rfl) g F.kp b .nil pass0 (pa_cons (pv 6) (pa_cons (pv 3) pa_nil))))))))))
          pss_nil)))
      (pss_one (ps_ret (pv 2))))), ?_⟩
    have dz : decide (V.int (l.map fun x : Nat => (x : Int)).sum = V.int 0) = decide (l.sum = 0) := by
      rw [cast_sum]
      by_cases e : l.sum = 0
      · rw [e]; rfl
      · rw [decide_eq_false e, decide_eq_false (fun z => e (by injection z with z; omega))]
    refine ⟨.ref a, rfl, a, _, rfl, SqL.of ha, rfl, decide (l.sum = 0), by rw [dz], ite2 (fun e => ?_) (fun e => ?_)⟩
    · have := q H (fun _ _ e => e)
      rw [ways_out, if_pos (of_decide_eq_true e)] at this
      exact this
    have e0 : ¬ l.sum = 0 := fun z => by rw [decide_eq_true z] at e; exact e rfl
    rw [ways_out, if_neg e0] at q
    refine ⟨.ref a, rfl, a, _, rfl, SqL.of ha, ?_⟩
    refine for_it (walk_enum (K := K) (a := a) (xs := (l.map fun x : Nat => (x : Int)).map V.int)) (fun i σ H' => Same' H H' ∧ ∃ y3 y4 y5 y6, σ = [some (.ref a), some (.int last), some (.int (out n l last i)), y3, y4, y5, y6]) ?_ ?_ ?_ ?_
    · exact ⟨fun _ _ e => e, none, none, none, none, rfl⟩
    · exact fun i σ H' _ hp => SqL.of (hp.1 _ _ ha)
    · intro i x σ H1 H2 hi hp hy
      obtain ⟨sm, y3, y4, y5, y6, rfl⟩ := hp
      obtain ⟨tt, v1, v2, rfl, htt, rfl, e1, e2⟩ := hy
      rw [List.length_map, List.length_map] at hi
      injection e1 with e1
      subst e1
      obtain ⟨x, hx⟩ : ∃ x, l.getD i 0 = x := ⟨_, rfl⟩
      have ex : v2 = .int x := by
        have e2' : ((l.map fun x : Nat => (x : Int)).map V.int)[i]? = some v2 := e2
        rw [List.getElem?_map, List.getElem?_map, List.getElem?_eq_getElem hi] at e2'
        rw [List.getD_eq_getElem?_getD, List.getElem?_eq_getElem hi] at hx
        injection e2' with e2'
        rw [← e2', ← hx]
        rfl
      subst ex
      have xs0 := set_sum l i 0 hi
      rw [hx] at xs0
      have xle : x ≤ n + 1 := by omega
      have s1 := same_new (o := .tup [V.int i, .int x]) htt
      have sm1 := sm.trans s1
      refine ⟨tt, _, rfl, SqT.of upd_same, rfl, _, _, rfl, _, _, rfl, rfl, ?_⟩
      have dn : (!decide (V.int (i : Int) = V.int (last : Int))) = !decide (i = last) := by
        congr 1
        by_cases e : i = last
        · rw [e, decide_eq_true rfl, decide_eq_true rfl]
        · rw [decide_eq_false e, decide_eq_false (fun z => e (by injection z with z; omega))]
      have on : out n l last (i + 1) = out n l last i + if i = last then (0 : Int) else inn n l i x := by
        unfold out
        rw [sum_range, hx]
      refine ⟨.int i, rfl, .int last, rfl, rfl, !decide (i = last), by rw [dn], ite2 (fun e => ?_) (fun e => ?_)⟩
      · have ne : i ≠ last := fun z => by rw [decide_eq_true z] at e; cases e
        rw [if_neg ne] at on
        refine ⟨.int x, rfl, x, 1, rfl, rfl, 1, (x : Int) + 1, rfl, ⟨by omega, by omega, by omega, by omega⟩, ?_⟩
        have en : ((x : Int) + 1 - 1).toNat = x := by omega
        rw [en]
        refine for_range (lo := 1) (n := x) (fun j σ H' => Same' H H' ∧ ∃ y5 y6, σ = [some (.ref a), some (.int last), some (.int (out n l last i + inn n l i j)), some (.int i), some (.int x), y5, y6]) ⟨sm1, y5, y6, ?_⟩ (fun j σ H2 hj hp => ?_) (fun σ H2 hp => ?_)
        · show _ = [some (V.ref a), some (.int last), some (.int (out n l last i + 0)), some (.int i), some (.int x), y5, y6]
          rw [Int.add_zero]
          rfl
        · obtain ⟨sm2, y5, y6, rfl⟩ := hp
          have e1j : (1 + (j : Int)) = ((j + 1 : Nat) : Int) := by omega
          rw [e1j]
          have ha2 := sm2 _ _ ha
          have Ll : ((l.map fun x : Nat => (x : Int)).map V.int).length = l.length := by rw [List.length_map, List.length_map]
          refine ⟨.ref a, rfl, .int i, rfl, i, rfl, a, _, rfl, SqL.of ha2, fun p1 hp1 => ?_⟩
          rw [cut_to _ i (by rw [Ll]; omega)]
          refine ⟨.int x, rfl, .int (j + 1 : Nat), rfl, x, (j + 1 : Nat), rfl, rfl, by show 1 ≤ sizeLine; decide, fun p2 hp2 => ?_⟩
          have t1 := same_new (o := .lst (((l.map fun x : Nat => (x : Int)).map V.int).take i)) hp1
          have t2 := same_new (o := .lst [V.int ((x : Int) - ((j + 1 : Nat) : Int))]) hp2
          refine ⟨p1, p2, _, _, rfl, rfl, t2 _ _ upd_same, upd_same, by rw [sizeLine_eq, List.length_take, Ll]; simp; omega, fun p3 hp3 => ?_⟩
          have t3 := same_new (o := .lst (((l.map fun x : Nat => (x : Int)).map V.int).take i ++ [V.int ((x : Int) - ((j + 1 : Nat) : Int))])) hp3
          refine ⟨.ref a, rfl, .int i, rfl, i, 1, rfl, rfl, (i : Int) + 1, rfl, a, _, rfl, SqL.of (((t1.trans t2).trans t3) _ _ ha2), fun p4 hp4 => ?_⟩
          have ei1 : ((i : Int) + 1) = ((i + 1 : Nat) : Int) := by omega
          rw [ei1, cut_from _ (i + 1) (by rw [Ll]; omega)]
          have t4 := same_new (o := .lst (((l.map fun x : Nat => (x : Int)).map V.int).drop (i + 1))) hp4
          refine ⟨p3, p4, _, _, rfl, rfl, t4 _ _ upd_same, upd_same, by rw [sizeLine_eq]; simp; omega, fun p5 hp5 => ?_⟩
          have lst : ((l.map fun x : Nat => (x : Int)).map V.int).take i ++ [V.int ((x : Int) - ((j + 1 : Nat) : Int))] ++ ((l.map fun x : Nat => (x : Int)).map V.int).drop (i + 1) = (((l.set i (x - (j + 1))).map fun x : Nat => (x : Int)).map V.int) := by
            rw [List.map_set, List.map_set, List.set_eq_take_append_cons_drop, if_pos (by rw [Ll]; omega), show ((x - (j + 1) : Nat) : Int) = (x : Int) - ((j + 1 : Nat) : Int) by omega]
            simp
          rw [lst]
          have t5 := same_new (o := .lst (((l.set i (x - (j + 1))).map fun x : Nat => (x : Int)).map V.int)) hp5
          have tt' := (((t1.trans t2).trans t3).trans t4).trans t5
          have ss := set_sum l i (x - (j + 1)) hi
          rw [hx] at ss
          have pp := pts_all ⟨x, by omega⟩ ⟨j + 1, by omega⟩
          have pp0 : 0 ≤ ptsM x (j + 1) := pp.1
          have pp1 : ptsM x (j + 1) < 2 ^ 60 := pp.2
          refine ⟨_, rfl, .int x, rfl, .int (j + 1 : Nat), rfl, x, j + 1, rfl, by omega, by omega, ?_⟩
          refine ⟨.ref p5, rfl, .int i, rfl, p5, l.set i (x - (j + 1)), i, rfl, upd_same, by rw [List.length_set]; exact hl, by omega, by omega, by omega, fun H3 s3 => ?_⟩
          refine ⟨_, _, rfl, rfl, .inl ⟨by omega, by omega⟩, _, _, rfl, rfl, (sm2.trans tt').trans s3, some (.int (j + 1 : Nat)), some (.ref p5), ?_⟩
          have ij : inn n l i (j + 1) = inn n l i j + ptsM x (j + 1) * waysM n (l.set i (x - (j + 1))) i := by
            unfold inn
            rw [sum_range, hx]
          rw [ij, ← Int.add_assoc]
          rfl
        · obtain ⟨sm2, y5, y6, rfl⟩ := hp
          exact ⟨sm2, some (.int i), some (.int x), y5, y6, by rw [on]⟩
      · have eq : i = last := by
          cases z : decide (i = last) with
          | true => exact of_decide_eq_true z
          | false => rw [z] at e; exact absurd rfl e
        rw [if_pos eq, Int.add_zero] at on
        refine ⟨sm1, some (.int i), some (.int x), y5, y6, ?_⟩
        rw [on]
        rfl
    · intro σ H1 hp
      obtain ⟨sm, y3, y4, y5, y6, rfl⟩ := hp
      rw [List.length_map, List.length_map]
      exact ⟨_, rfl, q H1 sm⟩
end
end My
namespace My
open PySem PySem.Spec PyProof.Rows L2
/-! ### the pen: a list of a list of ints, of how many were taken, of what is left of a great one -/
structure PenAt (H : Hp) (p c : Addr) (ns : List Int) (B : Int) : Prop where
  pen : ∃ b g : Int, H p = some (.lst [.ref c, .int b, .int g]) ∧ 0 ≤ b ∧ b ≤ B ∧ 0 ≤ g
  cells : H c = some (.lst (ns.map V.int))
  few : ns.length ≤ 63
def Off (p : Addr) (H H' : Hp) : Prop := ∀ q o, q ≠ p → H q = some o → H' q = some o
theorem Off.trans {p : Addr} {H1 H2 H3 : Hp} (h : Off p H1 H2) (k : Off p H2 H3) : Off p H1 H3 := fun q o n e => k q o n (h q o n e)
theorem Off.rfl' {p : Addr} {H : Hp} : Off p H H := fun _ _ _ e => e
theorem Off.new {p a : Addr} {H : Hp} {o : HO} (h : H a = none) : Off p H (upd H a o) := fun q _ _ e => by
  rw [upd_ne (ne_of_none e h)]
  exact e
theorem PenAt.ne {H : Hp} {p c : Addr} {ns : List Int} {B : Int} (P : PenAt H p c ns B) : c ≠ p := by
  obtain ⟨b, g, e, _⟩ := P.pen
  intro z
  have y := P.cells
  rw [z, e] at y
  injection y with y
  injection y with y
  cases ns with
  | nil => cases y
  | cons x r => injection y with y1 y2; cases y1
theorem PenAt.more {H : Hp} {p c : Addr} {ns : List Int} {B C : Int} (P : PenAt H p c ns B) (h : B ≤ C) : PenAt H p c ns C := by
  obtain ⟨b, g, e, h1, h2, h3⟩ := P.pen
  exact ⟨⟨b, g, e, h1, by omega, h3⟩, P.cells, P.few⟩
theorem PenAt.keep {H H' : Hp} {p c : Addr} {ns : List Int} {B : Int} (P : PenAt H p c ns B) (h : ∀ q o, H q = some o → H' q = some o) : PenAt H' p c ns B := by
  obtain ⟨b, g, e, h1, h2, h3⟩ := P.pen
  exact ⟨⟨b, g, h _ _ e, h1, h2, h3⟩, h _ _ P.cells, P.few⟩

/-! ### numbers -/
theorem fm {x m : Int} (h : 0 < m) : 0 ≤ x.fmod m ∧ x.fmod m < m := by
  rw [Int.fmod_eq_emod_of_nonneg _ (by omega)]
  exact ⟨Int.emod_nonneg _ (by omega), Int.emod_lt_of_pos _ h⟩
theorem fd0 {x m : Int} (h : 0 < m) (hx : 0 ≤ x) : 0 ≤ x.fdiv m := by
  rw [Int.fdiv_eq_ediv_of_nonneg _ (by omega)]
  exact Int.ediv_nonneg hx (by omega)
theorem mulB {x y a b : Int} (h0 : 0 ≤ x) (h1 : x ≤ a) (k0 : 0 ≤ y) (k1 : y ≤ b) : 0 ≤ x * y ∧ x * y ≤ a * b :=
  ⟨Int.mul_nonneg h0 k0, Int.mul_le_mul h1 k1 k0 (by omega)⟩
theorem nz1 : (2147483587 : Int) ≠ 0 := by decide
theorem nz2 : (2147483497 : Int) ≠ 0 := by decide
theorem nz3 : (2147483399 : Int) ≠ 0 := by decide
theorem natAbs_lt {x : Int} (h0 : 0 ≤ x) (h1 : x < 18446744073709551616) : x.natAbs < 2 ^ 64 := by
  show x.natAbs < 18446744073709551616
  omega
theorem dpInts {K : PySem.W.Frag} {H : Hp} : ∀ ns : List Int, DpAll K H (ns.map V.int) (ns.map PyData.int)
  | [] => .nil
  | _ :: r => .cons (.int _) (dpInts r)
theorem shaped_ints : ∀ ns : List Int, SeqAt.shaped (.list (ns.map PyData.int)) = true
  | [] => rfl
  | _ :: r => shaped_ints r

theorem at_in {xs : List V} {j : Int} (h0 : 0 ≤ j) (h1 : j < (xs.length : Nat)) : ∃ v, v ∈ xs ∧ atI xs j = some v := by
  obtain ⟨k, rfl⟩ : ∃ k : Nat, j = (k : Int) := ⟨j.toNat, by omega⟩
  have hk : k < xs.length := by omega
  exact ⟨xs[k], List.getElem_mem hk, atI_nat (List.getElem?_eq_getElem hk)⟩
/-! ### the draw -/
def spDraw : Sp := fun vs H Q _ => ∃ (p c : Addr) (ns : List Int) (B m : Int), vs = [.ref p, .int m] ∧ PenAt H p c ns B ∧ B ≤ 1000 ∧ 1 ≤ m ∧ m ≤ 1000 ∧
  ∀ (d : Int) (H' : Hp), 0 ≤ d → d < m → PenAt H' p c ns (B + 1) → Off p H H' → Q (.int d) H'
section
variable {P : Program} {w : World} {K : PySem.W.Frag} {mg : Str → Option Value} {base : Heap}
abbrev nDraw : List Str := ["_law_pen_here", "_law_many", "_law_digit", "_law_at", "_law_cell", "_law_great", "_law_mixed_here"]
theorem scDraw : FnScope nDraw ["_law_pen_here", "_law_many"] (defScope sDraw) := ⟨rfl, rfl, rfl, by decide +kernel, rfl, by decide +kernel, by decide +kernel⟩
theorem tail2 {f : Addr} {cdv : Value} {A : Around} {outer : List Env} {s : Shared} {H0 : Hp} {E : XK} (T : Txt mg) :
    ∃ t, PSs (cxOf CX0 P w K mg base nDraw "_law_draw" (defScope sDraw) f cdv A outer s H0 E).nox ((defBody sDraw).drop 6) t ∧
      ∀ (Q : VK) (nx : L2.St → Hp → Prop) (p : Addr) (m b raw : Int) (y2 y5 y6 : Option V) (H : Hp), 0 ≤ b → b ≤ 1000 → 1 ≤ m → (∀ d : Int, 0 ≤ d → d < m → Q (.int d) H) →
        t { nx := nx, rt := Q } [some (.ref p), some (.int m), y2, some (.int b), some (.int raw), y5, y6] H := by
  refine ⟨_, pss_cons (ps_set (i := 6) scDraw.nd rfl (.inl rfl) (pe_op op_modN (pe_callTy call_int1 (by rfl) T.int (by decide +kernel) (pa_cons (pe_op op_pow
          (pe_op op_add (pe_op op_add (pe_op op_modN (pe_callTy call_int1 (by rfl) T.int (by decide +kernel) (pa_cons (pv 4) pa_nil)) pe_int) (pe_op op_mul pe_int (pv 3))) pe_int) pe_int) pa_nil)) pe_int))
      (pss_cons (ps_set (i := 6) scDraw.nd rfl (.inl rfl) (pe_op op_modN (pe_callTy call_int1 (by rfl) T.int (by decide +kernel) (pa_cons (pe_op op_pow
          (pe_op op_add (pe_op op_add (pe_op op_mul (pv 6) (pe_op op_add (pe_op op_mul pe_int (pv 3)) pe_int)) (pe_op op_mul (pe_op op_mul pe_int (pv 3)) (pv 3))) pe_int) pe_int) pa_nil)) pe_int))
      (pss_one (ps_ret (pe_op op_modN (pe_callTy call_int1 (by rfl) T.int (by decide +kernel) (pa_cons (pe_op op_fdivN (pv 6) pe_int) pa_nil)) (pv 1))))), ?_⟩
  intro Q nx p m b raw y2 y5 y6 H b0 bB hm q
  have f1 := fm (x := raw) (m := 2147483587) (by decide)
  refine ⟨.int raw, rfl, .inl ⟨raw, rfl, raw, _, rfl, rfl, nz1, .int b, rfl, _, b, rfl, rfl, .inl ⟨by decide, by decide⟩, _, _, rfl, rfl, _, _, rfl, rfl, _, 5, rfl, rfl, ⟨by decide, by decide, natAbs_lt (by omega) (by omega)⟩, .inl ⟨_, rfl, _, _, rfl, rfl, nz2, ?_⟩⟩⟩
  obtain ⟨z, hz⟩ : ∃ z : Int, ((raw.fmod 2147483587 + 30411 * b + 415) ^ (5 : Int).toNat).fmod 2147483497 = z := ⟨_, rfl⟩
  have f2 := fm (x := ((raw.fmod 2147483587 + 30411 * b + 415) ^ (5 : Int).toNat)) (m := 2147483497) (by decide)
  rw [hz] at f2
  have f3 := mulB (x := z) (y := 2 * b + 25) (a := 2147483497) (b := 2000 + 25) f2.1 (by omega) (by omega) (by omega)
  have f4 := mulB (x := 40473 * b) (y := b) (a := 40473 * 1000) (b := 1000) (by omega) (by omega) b0 bB
  refine ⟨.int z, by rw [← hz]; rfl, .int b, rfl, 2, b, rfl, rfl, .inl ⟨by decide, by decide⟩, _, _, rfl, rfl, z, _, rfl, rfl, .inl ⟨by omega, by omega⟩, .int b, rfl, _, b, rfl, rfl, .inl ⟨by decide, by decide⟩, .int b, rfl, _, b, rfl, rfl, .inl ⟨by omega, by omega⟩, _, _, rfl, rfl, _, _, rfl, rfl, _, 3, rfl, rfl, ⟨by decide, by decide, natAbs_lt (by omega) (by omega)⟩, .inl ⟨_, rfl, _, _, rfl, rfl, nz3, ?_⟩⟩
  obtain ⟨v, hv⟩ : ∃ v : Int, ((z * (2 * b + 25) + 40473 * b * b + 19) ^ (3 : Int).toNat).fmod 2147483399 = v := ⟨_, rfl⟩
  refine ⟨.int v, by rw [← hv]; rfl, v, 32, rfl, rfl, ⟨by decide, by decide⟩, .inl ⟨_, rfl, .int m, rfl, _, m, rfl, rfl, by omega, ?_⟩⟩
  exact q _ (fm (by omega)).1 (fm (by omega)).2
theorem tail1 {f : Addr} {cdv : Value} {A : Around} {outer : List Env} {s : Shared} {H0 : Hp} {E : XK} (T : Txt mg) :
    ∃ t, PSs (cxOf CX0 P w K mg base nDraw "_law_draw" (defScope sDraw) f cdv A outer s H0 E).nox ((defBody sDraw).drop 5) t ∧
      ∀ (Q : VK) (nx : L2.St → Hp → Prop) (p c : Addr) (ns : List Int) (m b b1 g raw : Int) (y2 y5 y6 : Option V) (H : Hp), H p = some (.lst [.ref c, .int b1, .int g]) → H c = some (.lst (ns.map V.int)) → 0 ≤ b → b ≤ 1000 → 0 ≤ g → 1 ≤ m → m ≤ 1000 →
        (∀ (d : Int) (H' : Hp), 0 ≤ d → d < m → (∃ g' : Int, 0 ≤ g' ∧ H' p = some (.lst [.ref c, .int b1, .int g'])) → Off p H H' → Q (.int d) H') →
        t { nx := nx, rt := Q } [some (.ref p), some (.int m), y2, some (.int b), some (.int raw), y5, y6] H := by
  obtain ⟨t2, h2, q2⟩ := tail2 (P := P) (w := w) (K := K) (base := base) (f := f) (cdv := cdv) (A := A) (outer := outer) (s := s) (H0 := H0) (E := E) T
  refine ⟨_, pss_cons (ps_if (PW.pt (pw_and (pt_cmpR op_lt (pv 3) (pe_callB call_len_seq (by rfl) T.len PySem.boot_len (pa_cons (pe_ix ix_list (pv 0) pe_int (fun _ _ => rfl)) pa_nil)) (nomark _))
            (pw_and1 (pt_cmpR op_ge (pe_callB call_abs (by rfl) T.abs (by decide +kernel) (pa_cons (pv 4) pa_nil)) (pe_op op_pow pe_int pe_int) (nomark _)))))
        (pss_cons (ps_set (i := 5) scDraw.nd rfl (.inl rfl) (pe_op op_add (pe_op op_mul pe_int (pe_op op_sub (pe_callB call_abs (by rfl) T.abs (by decide +kernel) (pa_cons (pv 4) pa_nil)) (pe_op op_pow pe_int pe_int)))
            (pe_callTy call_int1 (by rfl) T.int (by decide +kernel) (pa_cons (pe_cmpR op_lt (pv 4) pe_int (nomark _)) pa_nil))))
        (pss_cons (ps_asg (pe_op op_fdivN (pe_callTy call_int1 (by rfl) T.int (by decide +kernel) (pa_cons (pv 5) pa_nil)) (pv 1)) (pg_sub (pv 0) pe_int set_list))
        (pss_one (ps_ret (pe_op op_modN (pe_callTy call_int1 (by rfl) T.int (by decide +kernel) (pa_cons (pv 5) pa_nil)) (pv 1)))))) pss_nil) h2, ?_⟩
  intro Q nx p c ns m b b1 g raw y2 y5 y6 H hp hc b0 bB g0 hm hm2 q
  have last : t2 { nx := nx, rt := Q } [some (.ref p), some (.int m), y2, some (.int b), some (.int raw), y5, y6] H :=
    q2 Q nx p m b raw y2 y5 y6 H b0 bB hm fun d d0 d1 => q d H d0 d1 ⟨g, g0, hp⟩ Off.rfl'
  refine ⟨.int b, rfl, .ref p, rfl, p, _, 0, .ref c, rfl, rfl, SqL.of hp, rfl, c, _, rfl, .inl (SqL.of hc), _, _, rfl, rfl, _, rfl, ite2 (fun e => ?_) (fun e => iteF last)⟩
  refine ⟨.int raw, rfl, raw, rfl, 10, 18, rfl, rfl, ⟨by decide, by decide, by decide⟩, _, _, rfl, rfl, _, rfl, ite2 (fun e2 => ?_) (fun e2 => last)⟩
  have big := of_decide_eq_true e2
  obtain ⟨r, hr⟩ : ∃ r : Int, (if raw < 0 then -raw else raw) = r := ⟨_, rfl⟩
  obtain ⟨u, hu⟩ : ∃ u : Int, 2 * ((if raw < 0 then -raw else raw) - (10 : Int) ^ (18 : Int).toNat) + (if decide (raw < 0) = true then 1 else 0) = u := ⟨_, rfl⟩
  have u0 : 0 ≤ u := by
    rw [← hu]
    have k : (0 : Int) ≤ if decide (raw < 0) = true then 1 else 0 := by split <;> decide
    omega
  refine ⟨.int raw, rfl, raw, rfl, 10, 18, rfl, rfl, ⟨by decide, by decide, by decide⟩, _, _, rfl, rfl, 2, _, rfl, rfl, .inl ⟨by decide, by decide⟩, .int raw, rfl, raw, 0, rfl, rfl, .inr ⟨_, rfl, _, _, rfl, rfl, ?_⟩⟩
  refine ⟨.int u, by rw [← hu]; rfl, .inl ⟨u, rfl, .int m, rfl, u, m, rfl, rfl, ⟨by omega, by omega⟩, ?_⟩⟩
  refine ⟨.ref p, rfl, p, _, 2, 2, rfl, rfl, hp, rfl, ?_⟩
  refine ⟨.int u, by rw [← hu]; rfl, .inl ⟨u, rfl, .int m, rfl, u, m, rfl, rfl, by omega, ?_⟩⟩
  exact q _ _ (fm (by omega)).1 (fm (by omega)).2 ⟨u.fdiv m, fd0 (by omega) u0, upd_same⟩ fun a o n e => by rw [upd_ne n]; exact e
theorem ok_draw {f : Addr} {fd : FuncData} (F : Fun K "_law_draw" "_law_draw" sDraw f fd) (T : Txt mg) : FnOk P w K mg base CX0 1 f fd ["_law_pen_here", "_law_many"] spDraw := by
  refine F.ok scDraw (fun vs H Q E h => ?_) (fun cdv A outer s H vs Q E hr h => ?_)
  · obtain ⟨p, c, ns, B, m, rfl, _⟩ := h
    rfl
  · obtain ⟨p, c, ns, B, m, rfl, PA0, hB, hm, hm2, q⟩ := h
    obtain ⟨b, g, hp, b0, bB, g0⟩ := PA0.pen
    have hc := PA0.cells
    have few := PA0.few
    have ncp := PA0.ne
    obtain ⟨t1, h1, q1⟩ := tail1 (P := P) (w := w) (K := K) (base := base) (f := f) (cdv := cdv) (A := A) (outer := outer) (s := s) (H0 := H) (E := E) T
    refine ⟨_, pss_cons (ps_if (pt_cmpR op_gt (pe_ix ix_list (pv 0) pe_int (fun _ _ => rfl)) pe_int (nomark _))
        (pss_cons (ps_set (i := 2) scDraw.nd rfl (.inl rfl) (pe_op op_modN (pe_callTy call_int1 (by rfl) T.int (by decide +kernel) (pa_cons (pe_ix ix_list (pv 0) pe_int (fun _ _ => rfl)) pa_nil)) (pv 1)))
        (pss_cons (ps_asg (pe_op op_fdivN (pe_callTy call_int1 (by rfl) T.int (by decide +kernel) (pa_cons (pe_ix ix_list (pv 0) pe_int (fun _ _ => rfl)) pa_nil)) (pv 1)) (pg_sub (pv 0) pe_int set_list))
        (pss_one (ps_ret (pv 2))))) pss_nil)
      (pss_cons (ps_set (i := 3) scDraw.nd rfl (.inl rfl) (pe_ix ix_list (pv 0) pe_int (fun _ _ => rfl)))
      (pss_cons (ps_asg (pe_op op_add (pv 3) pe_int) (pg_sub (pv 0) pe_int set_list))
      (pss_cons (ps_set (i := 4) scDraw.nd rfl (.inl rfl) (pe_op op_add (pe_op op_mul pe_int (pv 3)) pe_int))
      (pss_cons (ps_if (pt_cmpR (op_neD hr.units) (pe_ix ix_list (pv 0) pe_int (fun _ _ => rfl)) (pe_lst pa_nil) (nomark _))
        (pss_one (ps_set (i := 4) scDraw.nd rfl (.inl rfl) (pe_ix ix_list (pe_ix ix_list (pv 0) pe_int (fun _ _ => rfl))
          (pe_op op_modN (pe_callTy call_int1 (by rfl) T.int (by decide +kernel) (pa_cons (pv 3) pa_nil)) (pe_callB call_len_seq (by rfl) T.len PySem.boot_len (pa_cons (pe_ix ix_list (pv 0) pe_int (fun _ _ => rfl)) pa_nil))) (fun _ _ => rfl)))) pss_nil) h1)))), ?_⟩
    -- if pen[2] > 0
    refine ⟨.ref p, rfl, p, _, 2, .int g, rfl, rfl, SqL.of hp, rfl, g, 0, rfl, rfl, _, rfl, ite2 (fun e => ?_) (fun e => ?_)⟩
    · refine ⟨.ref p, rfl, p, _, 2, .int g, rfl, rfl, SqL.of hp, rfl, .inl ⟨_, rfl, .int m, rfl, g, m, rfl, rfl, by omega, ?_⟩⟩
      refine ⟨.ref p, rfl, p, _, 2, .int g, rfl, rfl, SqL.of hp, rfl, .inl ⟨_, rfl, .int m, rfl, g, m, rfl, rfl, ⟨by omega, by omega⟩, ?_⟩⟩
      refine ⟨.ref p, rfl, p, _, 2, 2, rfl, rfl, hp, rfl, ?_⟩
      refine ⟨_, rfl, q (g.fmod m) _ (fm (by omega)).1 (fm (by omega)).2 ⟨⟨b, g.fdiv m, upd_same, b0, by omega, fd0 (by omega) g0⟩, by rw [upd_ne ncp]; exact hc, few⟩ fun a o n e => by rw [upd_ne n]; exact e⟩
    · -- begun = pen[1]; pen[1] = begun + 1; raw = ..
      refine ⟨.ref p, rfl, p, _, 1, .int b, rfl, rfl, SqL.of hp, rfl, ?_⟩
      refine ⟨_, rfl, b, 1, rfl, rfl, .ref p, rfl, p, _, 1, 1, rfl, rfl, hp, rfl, ?_⟩
      refine ⟨_, rfl, 71477, b, rfl, rfl, .inl ⟨by decide, by decide⟩, _, _, rfl, rfl, ?_⟩
      obtain ⟨H1, eH⟩ : ∃ H1 : Hp, upd H p (.lst [.ref c, .int (b + 1), .int g]) = H1 := ⟨_, rfl⟩
      have hp1 : H1 p = some (.lst [.ref c, .int (b + 1), .int g]) := by rw [← eH, upd_same]
      have hc1 : H1 c = some (.lst (ns.map V.int)) := by rw [← eH, upd_ne ncp]; exact hc
      have off1 : Off p H H1 := fun a o n e => by rw [← eH, upd_ne n]; exact e
      have eH' : upd H p (.lst (([.ref c, .int b, .int g] : List V).set 1 (.int (b + 1)))) = H1 := eH
      rw [eH']
      clear eH eH'
      -- if pen[0] != []
      refine ⟨.ref p, rfl, p, _, 0, .ref c, rfl, rfl, SqL.of hp1, rfl, Nat.zero_le _, fun l hl => ?_⟩
      have npl : p ≠ l := ne_of_none hp1 hl
      have ncl : c ≠ l := ne_of_none hc1 hl
      have hp2 : (upd H1 l (.lst [])) p = some (.lst [.ref c, .int (b + 1), .int g]) := by rw [upd_ne npl]; exact hp1
      have hc2 : (upd H1 l (.lst [])) c = some (.lst (ns.map V.int)) := by rw [upd_ne ncl]; exact hc1
      have off2 : Off p H (upd H1 l (.lst [])) := off1.trans (Off.new hl)
      refine ⟨.list (ns.map PyData.int), .list [], .lst (SqL.of hc2) (dpInts ns), .lst (SqL.of upd_same) .nil, shaped_ints ns, rfl, _, rfl, ?_⟩
      have last : ∀ (raw : Int) (y2 y5 y6 : Option V) (nx : L2.St → Hp → Prop), t1 { nx := nx, rt := Q } [some (.ref p), some (.int m), y2, some (.int b), some (.int raw), y5, y6] (upd H1 l (.lst [])) := by
        intro raw y2 y5 y6 nx
        refine q1 Q nx p c ns m b (b + 1) g raw y2 y5 y6 _ hp2 hc2 b0 (by omega) g0 hm hm2 fun d H' d0 d1 z off => ?_
        obtain ⟨g', z0, e1⟩ := z
        exact q d H' d0 d1 ⟨⟨b + 1, g', e1, by omega, by omega, z0⟩, off c _ ncp hc2, few⟩ (off2.trans off)
      cases ns with
      | nil => exact iteF (last _ _ _ _ _)
      | cons x r =>
        have lz : ((x :: r).map V.int).length = r.length + 1 := by rw [List.length_map]; rfl
        have lp : (0 : Int) < (((x :: r).map V.int).length : Nat) := by rw [lz]; omega
        obtain ⟨j, ej⟩ : ∃ j : Int, b.fmod (((x :: r).map V.int).length : Nat) = j := ⟨_, rfl⟩
        have j0 := (fm (x := b) lp).1
        have j1 := (fm (x := b) lp).2
        rw [ej] at j0 j1
        obtain ⟨v, hv, at1⟩ := at_in j0 j1
        obtain ⟨y, _, rfl⟩ := List.mem_map.mp hv
        refine iteT ⟨.ref p, rfl, p, _, 0, .ref c, rfl, rfl, SqL.of hp2, rfl, .int b, rfl, .inl ⟨b, rfl, .ref p, rfl, p, _, 0, .ref c, rfl, rfl, SqL.of hp2, rfl, c, _, rfl, .inl (SqL.of hc2), b, _, rfl, rfl, by omega, c, _, _, _, rfl, rfl, SqL.of hc2, (by rw [ej]; exact at1), ?_⟩⟩
        exact last _ _ _ _ _
end
/-! ### the pen is made -/
theorem cut63 {α : Type} (xs : List V) (h : xs.length ≤ 63) : cutV xs none (some 63) = xs := by
  unfold cutV
  rw [show HT.sIx xs.length 0 none = 0 from rfl, show HT.sIx xs.length xs.length (some 63) = min 63 xs.length from HT.sIx_nat xs.length xs.length 63, List.drop_zero, Nat.min_eq_right h, Nat.sub_zero]
  exact List.take_length
def spPen (K : PySem.W.Frag) : Sp := fun vs H Q _ => ∃ (a : Addr) (ns : List Int), vs = [.ref a] ∧ SqL K H a (ns.map V.int) ∧ ns.length ≤ 63 ∧ ∀ (p c : Addr) (H' : Hp), Same' H H' → PenAt H' p c ns 0 → Q (.ref p) H'
def Src (H : Hp) (p : Addr) (s : V) (src : List V) : Prop := (∃ l, s = .ref l ∧ l ≠ p ∧ H l = some (.lst src)) ∨ (∃ z : Str, s = .str z ∧ src = z.cps.toList.map (fun c => V.str ⟨#[c]⟩))
def spPick : Sp := fun vs H Q _ => ∃ (p c : Addr) (ns : List Int) (B : Int) (s : V) (src : List V), vs = [.ref p, s] ∧ PenAt H p c ns B ∧ B ≤ 1000 ∧ Src H p s src ∧ 1 ≤ src.length ∧ src.length ≤ 1000 ∧
  ∀ (v : V) (H' : Hp), v ∈ src → PenAt H' p c ns (B + 1) → Off p H H' → Q v H'
section
variable {P : Program} {w : World} {K : PySem.W.Frag} {mg : Str → Option Value} {base : Heap}
theorem scPen : FnScope ["_law_script"] ["_law_script"] (defScope sPen) := ⟨rfl, rfl, rfl, by decide +kernel, rfl, by decide +kernel, by decide +kernel⟩
theorem ok_pen {f : Addr} {fd : FuncData} (F : Fun K "_law_pen" "_law_pen" sPen f fd) (T : Txt mg) : FnOk P w K mg base CX0 1 f fd ["_law_script"] (spPen K) := by
  refine F.ok scPen (fun vs H Q E h => ?_) (fun cdv A outer s H vs Q E hr h => ?_)
  · obtain ⟨a, ns, rfl, _⟩ := h
    rfl
  · obtain ⟨a, ns, rfl, hS, few, q⟩ := h
    refine ⟨_, pss_one (ps_ret (pe_lst (pa_cons (pe_callTy call_list_of (by rfl) T.list (by decide +kernel) (pa_cons (pe_slice sl_list (pv 0) po_none (po_some pe_int)) pa_nil)) (pa_cons pe_int (pa_cons pe_int pa_nil))))), ?_⟩
    refine ⟨.ref a, rfl, 63, rfl, a, _, rfl, hS, fun u hu => ?_⟩
    rw [cut63 (α := Unit) _ (by rw [List.length_map]; exact few)]
    refine ⟨u, _, rfl, .inl (SqL.of upd_same), fun c hc => ⟨by show 3 ≤ sizeLine; decide, fun p hp => ?_⟩⟩
    have ncp : c ≠ p := fun z => by
      rw [← z, upd_same] at hp
      cases hp
    refine q p c _ (fun b o e => ?_) ⟨⟨0, 0, upd_same, Int.le_refl _, Int.le_refl _, Int.le_refl _⟩, by rw [upd_ne ncp, upd_same], few⟩
    have e1 : (upd H u (.lst (ns.map V.int))) b = some o := by
      rw [upd_ne (ne_of_none e hu)]
      exact e
    have e2 : (upd (upd H u (.lst (ns.map V.int))) c (.lst (ns.map V.int))) b = some o := by
      rw [upd_ne (ne_of_none e1 hc)]
      exact e1
    rw [upd_ne (ne_of_none e2 hp)]
    exact e2
theorem scPick : FnScope ["_law_pen_here", "_law_some"] ["_law_pen_here", "_law_some"] (defScope sPick) := ⟨rfl, rfl, rfl, by decide +kernel, rfl, by decide +kernel, by decide +kernel⟩
theorem ok_pick {f fD : Addr} {fd fdD : FuncData} (F : Fun K "_law_pick" "_law_pick" sPick f fd) (T : Txt mg) (FD : Fun K "_law_draw" "_law_draw" sDraw fD fdD) (bD : Binds K fdD ["_law_pen_here", "_law_many"] []) (gD : mg "_law_draw" = some (.ref fD))
    (G : FnOk P w K mg base CX0 1 fD fdD ["_law_pen_here", "_law_many"] spDraw) : FnOk P w K mg base CX0 2 f fd ["_law_pen_here", "_law_some"] spPick := by
  refine F.ok scPick (fun vs H Q E h => ?_) (fun cdv A outer s H vs Q E hr h => ?_)
  · obtain ⟨p, c, ns, B, s, src, rfl, _⟩ := h
    rfl
  · obtain ⟨p, c, ns, B, x, src, rfl, PA0, hB, hs, n1, n2, q⟩ := h
    refine ⟨_, pss_one (ps_ret (pe_ix ix_seq (pv 1) (pe_call G hr (by rfl) gD FD.kp bD .nil pass0 (pa_cons (pv 0) (pa_cons (pe_callB (CallR.or call_len_seq call_len_str) (by rfl) T.len PySem.boot_len (pa_cons (pv 1) pa_nil)) pa_nil))) (fun _ _ => rfl))), ?_⟩
    refine ⟨x, rfl, .ref p, rfl, x, rfl, ?_⟩
    have fin : ∀ (d : Int), 0 ≤ d → d < (src.length : Nat) → ∃ v, v ∈ src ∧ atI src d = some v := fun d h0 h1 => at_in h0 h1
    rcases hs with ⟨l, rfl, nlp, hl⟩ | ⟨z, rfl, rfl⟩
    · refine .inl ⟨l, src, rfl, .inl (SqL.of hl), ?_⟩
      refine ⟨p, c, ns, B, _, rfl, PA0, hB, by omega, by omega, fun d H' d0 d1 PA1 off => ?_⟩
      obtain ⟨v, hv, at1⟩ := fin d d0 d1
      exact .inl ⟨l, src, d, v, rfl, rfl, SqL.of (off l _ nlp hl), at1, q v H' hv PA1 off⟩
    · rw [List.length_map] at n1 n2
      have ez : z.cps.toList.length = z.length := Array.length_toList
      have zs : z.length < sizeLine := small1000 (by omega)
      refine .inr ⟨z, rfl, Nat.le_of_lt zs, ?_⟩
      refine ⟨p, c, ns, B, _, rfl, PA0, hB, by omega, by omega, fun d H' d0 d1 PA1 off => ?_⟩
      have d1' : d < (z.cps.toList.length : Nat) := by rw [ez]; exact d1
      obtain ⟨k, rfl⟩ : ∃ k : Nat, d = (k : Int) := ⟨d.toNat, by omega⟩
      have hk : k < z.cps.toList.length := by omega
      refine .inr (.inr ⟨z, _, z.cps.toList[k], rfl, rfl, Nat.le_of_lt zs, atI_nat (List.getElem?_eq_getElem hk), ?_⟩)
      exact q _ H' (List.mem_map.mpr ⟨_, List.getElem_mem hk, rfl⟩) PA1 off
end
end My
namespace My
open PySem PySem.Spec PyProof.Rows L2
/-- BadNumber as it is caught here -/
structure EK (K : PySem.W.Frag) (CL C : Addr) : Prop where
  ec : ExcC K C
  xf : XfC K C
  no : PySem.W.findIn K (.ref C) "value" = some none
  ex : PySem.W.exmOne K (.ref C) (.ref CL) = some true
  kZ : PySem.W.kitOne K (.ref C) (.ref C) = some true
/-- what the lambda's body must end in -/
def EH (K : PySem.W.Frag) (C CL : Addr) (Q : VK) : XK := fun cls d H' => ∃ (dd : Addr) (y : V) (pd : PyData), cls = .ref C ∧ d = some dd ∧ EK K CL C ∧ H' dd = some (.xd [("value", y)]) ∧ Th H' y pd ∧ Fine pd ∧
  ∀ t H2, Same' H' H2 → H2 t = some (.tup [.str "number", .str pd.shown]) → Q (.ref t) H2
def TH (K : PySem.W.Frag) (C CL : Addr) : (XK → Hp → VK → Prop) → Hp → VK → Prop := fun tl H Q => ∀ H1, Same' H H1 → ∀ Q' : VK, tl (EH K C CL Q) H1 Q'
theorem takes_len {X : Cx} {W : WX} {n : Nat} (h : X.N.length = n) (tk : Takes X W) : Takes X (fun cls d σ H => σ.length = n → W cls d σ H) := fun u s' ⟨a, B, sI, pins, σ, H, cls, d, e, I, nb, up, sky, na, os, ag, w⟩ =>
  tk u s' ⟨a, B, sI, pins, σ, H, cls, d, e, I, nb, up, sky, na, os, ag, w (I.len.trans h)⟩
abbrev nHeard : List Str := ["_law_ask", "_law_caught", "error"]
theorem scHeard : FnScope nHeard ["_law_ask"] (defScope sHeard) := ⟨rfl, rfl, rfl, by decide +kernel, rfl, by decide +kernel, by decide +kernel⟩
theorem len3 {σ : L2.St} (h : σ.length = 3) : ∃ a b c, σ = [a, b, c] := by
  match σ, h with
  | [a, b, c], _ => exact ⟨a, b, c, rfl⟩
abbrev YH (X : Cx) (g : Addr) (cdg : Value) (s : Shared) (H : Hp) : Cx := cxOf C8.CX0 X.prog X.w X.K X.mg X.base nHeard "_law_heard" (defScope sHeard) g cdg X.A X.stack s H C8.E0
theorem heard_gives {X : Cx} {g CZ CL : Addr} {cdg : Value} {q : Str} (hr : Room 2 X.A) (hg : X.A.guards = some []) (T : Txt X.mg) (gZ : X.mg "BadNumber" = some (.ref CZ)) (gL : X.mg "LayerError" = some (.ref CL)) :
    LamX.GivesTo X nHeard "_law_heard" (defScope sHeard) g cdg (defBody sHeard) "_law_ask" q (TH X.K CZ CL) := by
  intro f c' s H Q tl act hc h
  have hu : (YH X g cdg s H).nox.A.units + 64 < cLine := by
    have := (hr.deeper (YH X g cdg s H).env).units
    exact this
  have hg' : (YH X g cdg s H).nox.A.guards = some [] := hg
  refine ⟨_, pss_cons (ps_set (i := 1) scHeard.nd rfl (.inl rfl) pe_non)
    (pss_cons (ps_try_keep (X := (YH X g cdg s H).nox) (c := .ref CL) (i := 2) (n := "error")
        (tb := fun W D σ H => ∃ Ech : XK, (∀ cls d σ' H', Ech cls d H' → σ'.length = 3 → W cls d σ' H') ∧ σ[0]? = some (some (.ref f)) ∧ H c' = some (LamX.CodeO c' q) ∧ tl Ech H (fun v H1 => D.nx σ H1))
        rfl rfl rfl scHeard.nd rfl rfl ⟨rfl, by decide, .inl gL⟩ (fun W pn xe tk _ => ?body) (fun a oe cls d pn _ _ => pss_one (ps_set (i := 1) scHeard.nd rfl (.inl rfl) (pv 2))))
    (pss_cons (ps_if (pt_cmpR op_isN (pv 1) pe_non (nomark _)) (pss_one ps_never) pss_nil)
    (pss_one (ps_ret (pe_ifExp (pt_val (pe_callB call_heldIs (by rfl) T.isi (by decide +kernel) (pa_cons (pv 1) (pa_cons (pe_glob (v := .ref CZ) rfl gZ rfl) pa_nil))))
      (pe_tup (pa_cons pe_str (pa_cons (pe_callB (call_reprT hg' hu) (by rfl) T.repr (by decide +kernel) (pa_cons (pe_heldF (pv 1)) pa_nil)) pa_nil))) pe_never))))), ?_⟩
  case body =>
    refine ⟨fun pins s' σ H' D I h' => ?_⟩
    obtain ⟨Ech, hW, h1, h2, h3⟩ := h'
    have hp := fun p1 p2 => act (fun cls d σ H => σ.length = 3 → W cls d σ H) pn xe Ech p1 p2 (takes_len rfl tk) (fun cls d σ' H' e l => hW cls d σ' H' e l)
    exact (pss_one (ps_expr (hp _ _))).run pins s' σ H' D I ⟨h1, h2, h3⟩
  refine ⟨EH X.K CZ CL Q, fun cls d σ' H' e l3 => ?_, rfl, hc, h _ (fun _ _ e => e) _⟩
  obtain ⟨z0, z1, z2, rfl⟩ := len3 l3
  obtain ⟨dd, y, pd, rfl, rfl, ek, hd, th, fine, fin⟩ := e
  refine ⟨ek.ex, fun a ha => ⟨.ref a, rfl, ?_⟩⟩
  have sm1 := same_new (o := KeptO (.ref CZ) (some dd) a) ha
  refine ⟨.ref a, rfl, rfl, _, rfl, ite2 (fun e => (by simp at e)) (fun _ => ?_)⟩
  have ea : (upd H' a (KeptO (.ref CZ) (some dd) a)) a = some (KeptO (.ref CZ) (some dd) a) := upd_same
  have ed := sm1 _ _ hd
  have dh : ∀ d', some dd = some d' → ∃ fs, (upd H' a (KeptO (.ref CZ) (some dd) a)) d' = some (.xd fs) := fun d' q => by
    injection q with q
    subst q
    exact ⟨_, ed⟩
  refine ⟨.ref a, rfl, a, CZ, some dd, .ref CZ, .ref CZ, true, rfl, .own _, ea, dh, ek.ec, ek.kZ, true, rfl, iteT ?_⟩
  refine ⟨.ref a, rfl, a, CZ, dd, _, y, rfl, ea, ed, ek.xf, ek.no, rfl, y, pd, rfl, th.keep sm1, fine, by show 2 ≤ sizeLine; decide, fun t ht => ?_⟩
  exact fin t _ (sm1.trans (same_new ht)) upd_same
end My
namespace My
open PySem PySem.Spec PyProof.Rows L2
open LamX (ExtN Tabs TabS TabB lamSB lamS_by tLam lamCx)
theorem th_ext {H H' : Hp} {x : V} {d : PyData} (h : Th H x d) (e : ExtN H H') : Th H' x d := by
  cases h with
  | flat h => exact .flat h
  | lst h r n => exact .lst (e _ _ h (fun ps z => by cases z)) r n
  | tup h r n => exact .tup (e _ _ h (fun ps z => by cases z)) r n
  | dct h => exact .dct (e _ _ h (fun ps z => by cases z))
/-- a drawn value: what it is, and that it can be shown -/
structure Val (H : Hp) (v : V) (d : PyData) : Prop where
  th : Th H v d
  fine : Fine d
  ok : PyData.strOk d.shown = true
  few : ∀ z, v = .str z → z.length ≤ 1000
theorem Val.ext {H H' : Hp} {v : V} {d : PyData} (h : Val H v d) (e : ExtN H H') : Val H' v d := ⟨th_ext h.th e, h.fine, h.ok, h.few⟩
theorem Val.keep {H H' : Hp} {v : V} {d : PyData} (h : Val H v d) (e : Same' H H') : Val H' v d := ⟨h.th.keep e, h.fine, h.ok, h.few⟩
theorem same_ext {H H' : Hp} (s : Same' H H') : ExtN H H' := ExtN.of s
/-- _law_heard(lambda: ..) -/
theorem pe_ask {X : Cx} {P c g CZ CL : Addr} {fdg : FuncData} (FH : Fun X.K "_law_heard" "_law_heard" sHeard g fdg) (gH : X.mg "_law_heard" = some (.ref g)) (hgl : Gl X "_law_heard") (T : Txt X.mg) (gZ : X.mg "BadNumber" = some (.ref CZ)) (gL : X.mg "LayerError" = some (.ref CL))
    (hr : Room 9 X.A) (hg : X.A.guards = some []) (TB : TabB X.base X.mg c P) (hcode : X.env.code = .ref c) {TT : List (Addr × Str)} (hT : TT = [(P, X.env.qual ++ "<lambda>")]) {params : Arguments} {body : Expr} {scope : Scope} {t : XK → TE} {p lpos pos : Pos}
    (L : lamSB X.env.scope scope = true) (hdef : defaultsOf params X.env = ([], [])) (hbind : ∀ (q : Str) (cl : List (Str × Addr)) (pm cv ctv : Value), bindArgs (PySem.W.kla_fn "<lambda>" q params body scope cl pm cv ctv) ⟨[], []⟩ = pure [])
    (hbody : ∀ (A : Around) (outer : List Env) (s : Shared) (H : Hp) (E : XK) (f c' : Addr), Room 7 (A.deeper (LamX.lamEnv X scope s.heap.objs.size f c')) → PE (lamCx X A outer s H E scope f c') body (t E)) :
    PE X (.Call (.Name "_law_heard" p) [.Lambda params body scope lpos] [] pos) (tLam TT (TH X.K CZ CL) t) := by
  obtain ⟨oc, od, kV, doc, pm, an, cdv, ct, osl, rfl, lk, hcd⟩ := FH.ex
  subst hT
  exact LamX.pe_lamcall (a := "_law_ask") (Ng := nHeard) hgl gH FH.kp lk hcd (FH.binds (ps := ["_law_ask"]) fun _ _ _ _ _ _ us hl => match us, hl with | [_], _ => rfl) scHeard rfl (.inl rfl) (heard_gives (hr.mono (by decide)) hg T gZ gL) TB hcode (List.mem_singleton.mpr rfl)
    (fun q hq _ => by rw [List.mem_singleton.mp hq]) hr (lamS_by L) hdef hbind hbody
section
variable {K : PySem.W.Frag} {CZ CL : Addr} {T : List (Addr × Str)} {σ : L2.St} {H : Hp} {Q : VK}
theorem tells {Hm : Hp} {d : PyData} (ek : EK K CL CZ) (fine : Fine d) (q : ∀ t H3, Same' Hm H3 → H3 t = some (.tup [.str "number", .str d.shown]) → Q (.ref t) H3) : Told (EH K CZ CL Q) CZ Hm d :=
  fun y dd H' sm hd th => ⟨dd, y, d, rfl, rfl, ek, hd, th, fine, fun t H2 sm2 ht => q t H2 (sm.trans sm2) ht⟩
theorem isIx_of {k : Nat} (h : k ≤ 60) : isIx (.int k) 61 = true := by
  show (decide (0 ≤ (k : Int)) && decide ((k : Int) < 61)) = true
  rw [decide_eq_true (by omega), decide_eq_true (by omega)]
  rfl
theorem rd_many {i j k : Nat} {x y c : V} {dx dy dc d : PyData} (ek : EK K CL CZ) (tb : Tabs T H) (hi : σ[i]? = some (some x)) (hj : σ[j]? = some (some y)) (hk : σ[k]? = some (some c)) (X : Val H x dx) (Y : Val H y dy) (C : Val H c dc)
    (bad : (isIx x 61 = false ∧ d = dx) ∨ (isIx x 61 = true ∧ isIx y 61 = false ∧ d = dy) ∨ (isIx x 61 = true ∧ isIx y 61 = true ∧ isB c = false ∧ d = dc))
    (q : ∀ t H3, ExtN H H3 → Tabs T H3 → H3 t = some (.tup [.str "number", .str d.shown]) → Q (.ref t) H3) :
    tLam T (TH K CZ CL) (fun E => tCall (spMany CZ) [] E (tCons (tVar i) (tCons (tVar j) (tCons (tVar k) tNil)))) σ H Q := by
  refine ⟨tb, fun H1 e1 tb1 H2 sm2 Q' => ⟨x, hi, y, hj, c, hk, ?_⟩⟩
  have X2 := (X.ext e1).keep sm2
  have Y2 := (Y.ext e1).keep sm2
  have C2 := (C.ext e1).keep sm2
  have go : ∀ {d : PyData}, Fine d → (∀ t H3, ExtN H H3 → Tabs T H3 → H3 t = some (.tup [.str "number", .str d.shown]) → Q (.ref t) H3) → Told (EH K CZ CL Q) CZ H2 d := fun fine q => tells ek fine fun t H3 k ht => q t H3 (e1.trans (ExtN.of (sm2.trans k))) (tb1.ext (sm2.trans k)) ht
  refine ⟨x, y, c, dx, dy, dc, rfl, X2.th, Y2.th, C2.th, ?_⟩
  rcases bad with ⟨b1, rfl⟩ | ⟨b1, b2, rfl⟩ | ⟨b1, b2, b3, rfl⟩
  · refine ⟨fun _ => go X.fine q, fun z => ?_, fun z => ?_, fun a f b z _ _ ha => ?_⟩
    · rw [b1] at z; cases z
    · rw [b1] at z; cases z
    · rw [z, isIx_of ha] at b1; cases b1
  · refine ⟨fun z => ?_, fun _ _ => go Y.fine q, fun _ z => ?_, fun a f b _ z _ _ ha => ?_⟩
    · rw [b1] at z; cases z
    · rw [b2] at z; cases z
    · rw [z, isIx_of ha] at b2; cases b2
  · refine ⟨fun z => ?_, fun _ z => ?_, fun _ _ _ => go C.fine q, fun a f b _ _ z => ?_⟩
    · rw [b1] at z; cases z
    · rw [b2] at z; cases z
    · rw [z] at b3; cases b3
end
/-- a def by its body, the guards and the code object known -/
theorem okGc {P : Program} {w : World} {K : PySem.W.Frag} {mg : Str → Option Value} {base : Heap} {CX : CXT} {x qual : Str} {st : Stmt} {f : Addr} {N ps : List Str} {k : Nat} {sp : Sp} {oc kV doc pm cdv ct : Value} {od an : Option Addr} {osl : Array (Option Value)}
    (lk : K.lookup f = some ⟨oc, od, .func (PySem.W.fnOf x qual (defArgs st) (defBody st) (defScope st) .none kV doc pm an cdv ct), osl⟩) (hcd : PySem.W.codeIn K cdv qual = true) (S : FnScope N ps (defScope st)) (len : ∀ vs H Q E, sp vs H Q E → vs.length = ps.length)
    (body : ∀ (A : Around) (outer : List Env) (s : Shared) (H : Hp) (vs : List V) (Q : VK) (E : XK), Room k (A.deeper (envOfC qual (defScope st) s.heap.objs.size f cdv)) → (A.deeper (envOfC qual (defScope st) s.heap.objs.size f cdv)).guards = some [] → sp vs H Q E →
      ∃ t, PSs (cxOf CX P w K mg base N qual (defScope st) f cdv A outer s H E) (defBody st) t ∧ t { nx := fun _ H' => Q .non H', rt := Q } (start N vs) H) : FnG P w K mg base CX (k + 1) f (PySem.W.fnOf x qual (defArgs st) (defBody st) (defScope st) .none kV doc pm an cdv ct) ps sp := by
  refine ⟨len, fun A outer s H args us vs Q E room guard e0 bind rel prom => ?_⟩
  have guard' : (A.deeper (envOfC qual (defScope st) s.heap.objs.size f cdv)).guards = some [] := by
    cases A
    exact guard
  exact LamX.run_ofS lk hcd S room e0 bind rel (len _ _ _ _ prom) fun hr' => body A outer s H vs Q E hr' guard' prom
/-! ### the drawn wrong values -/
def flatD : V → PyData
  | .bl b => .bool b
  | .int i => .int i
  | .str z => .str z
  | _ => .none
def okFlat (v : V) : Bool := (match v with | .non => true | .bl _ => true | .int _ => true | .str z => decide (z.length ≤ 1000) | _ => false) && (flatD v).showable && decide ((flatD v).depth ≤ 8) && decide ((flatD v).shown.length ≤ 1000) && PyData.strOk (flatD v).shown
theorem val_flat {H : Hp} {v : V} (h : okFlat v = true) : Val H v (flatD v) := by
  unfold okFlat at h
  simp only [Bool.and_eq_true, decide_eq_true_eq] at h
  obtain ⟨⟨⟨⟨h1, h2⟩, h3⟩, h4⟩, h5⟩ := h
  refine ⟨.flat ?_, ⟨h2, h3, Nat.le_trans h4 (by decide)⟩, h5, fun z e => ?_⟩
  · cases v with
    | non => exact .non
    | bl b => exact .bl b
    | int i => exact .int i
    | str z => exact .str z
    | _ => cases h1
  · subst e
    exact of_decide_eq_true h1
theorem fine_1 : Fine (.tuple [.int 1]) ∧ PyData.strOk (PyData.tuple [.int 1]).shown = true := ⟨⟨by decide +kernel, by decide +kernel, by decide +kernel⟩, by decide +kernel⟩
theorem fine_d : Fine (.dict []) ∧ PyData.strOk (PyData.dict []).shown = true := ⟨⟨by decide +kernel, by decide +kernel, by decide +kernel⟩, by decide +kernel⟩
theorem fine_l : Fine (.list []) ∧ PyData.strOk (PyData.list []).shown = true := ⟨⟨by decide +kernel, by decide +kernel, by decide +kernel⟩, by decide +kernel⟩
theorem fine_t : Fine (.tuple []) ∧ PyData.strOk (PyData.tuple []).shown = true := ⟨⟨by decide +kernel, by decide +kernel, by decide +kernel⟩, by decide +kernel⟩
theorem fine_l2 : Fine (.list [.int 2]) ∧ PyData.strOk (PyData.list [.int 2]).shown = true := ⟨⟨by decide +kernel, by decide +kernel, by decide +kernel⟩, by decide +kernel⟩
/-- the pen is no such value -/
theorem Val.off {H H' : Hp} {v : V} {d : PyData} {p c : Addr} {ns : List Int} {B : Int} (h : Val H v d) (P : PenAt H p c ns B) (o : Off p H H') : Val H' v d := by
  obtain ⟨b, g, hp, _⟩ := P.pen
  refine ⟨?_, h.fine, h.ok, h.few⟩
  have th := h.th
  cases th with
  | flat e => exact .flat e
  | @lst a xs ds e k n =>
    refine .lst (o _ _ (fun z => ?_) e) k n
    rw [z, hp] at e
    injection e with e
    injection e with e
    subst e
    cases k with
    | cons k1 _ => cases k1
  | tup e k n =>
    refine .tup (o _ _ (fun z => ?_) e) k n
    rw [z, hp] at e
    cases e
  | dct e =>
    refine .dct (o _ _ (fun z => ?_) e)
    rw [z, hp] at e
    cases e
def big30 : Int := (10 : Int) ^ (30 : Int).toNat
def big40 : Int := -((10 : Int) ^ (40 : Int).toNat)
def oddL (t l d : Addr) : List V := [.non, .int (-1), .int 61, .bl true, .bl false, .str "1", .ref t, .ref l, .ref d, .int big30]
def badL (l : Addr) : List V := [.non, .int (-1), .int 61, .bl true, .str "2", .ref l, .int big40]
def strL (t l : Addr) : List V := [.non, .int 0, .int 1, .str "True", .ref t, .ref l]
theorem odd_flat : ∀ v ∈ ([.non, .int (-1), .int 61, .bl true, .bl false, .str "1", .int big30, .str "2", .int big40] : List V), okFlat v = true ∧ isIx v 61 = false := by decide +kernel
theorem str_flat : ∀ v ∈ ([.non, .int 0, .int 1, .str "True"] : List V), okFlat v = true ∧ isB v = false := by decide +kernel
theorem pick_odd {H : Hp} {t l d : Addr} {v : V} (ht : H t = some (.tup [.int 1])) (hl : H l = some (.lst [])) (hd : H d = some (.dK [])) (hv : v ∈ oddL t l d) : ∃ db, Val H v db ∧ isIx v 61 = false := by
  have flat : v ∈ ([.non, .int (-1), .int 61, .bl true, .bl false, .str "1", .int big30, .str "2", .int big40] : List V) → ∃ db, Val H v db ∧ isIx v 61 = false := fun h => ⟨_, val_flat (odd_flat v h).1, (odd_flat v h).2⟩
  unfold oddL at hv
  simp only [List.mem_cons, List.not_mem_nil, or_false] at hv flat
  rcases hv with h | h | h | h | h | h | h | h | h | h
  · exact flat (by simp [h])
  · exact flat (by simp [h])
  · exact flat (by simp [h])
  · exact flat (by simp [h])
  · exact flat (by simp [h])
  · exact flat (by simp [h])
  · subst h; exact ⟨.tuple [.int 1], ⟨.tup ht (.cons (.int _) .nil) (by decide), fine_1.1, fine_1.2, fun _ z => by cases z⟩, rfl⟩
  · subst h; exact ⟨.list [], ⟨.lst hl .nil (by decide), fine_l.1, fine_l.2, fun _ z => by cases z⟩, rfl⟩
  · subst h; exact ⟨.dict [], ⟨.dct hd, fine_d.1, fine_d.2, fun _ z => by cases z⟩, rfl⟩
  · exact flat (by simp [h])
theorem pick_bad {H : Hp} {l : Addr} {v : V} (hl : H l = some (.lst [.int 2])) (hv : v ∈ badL l) : ∃ db, Val H v db ∧ isIx v 61 = false := by
  have flat : v ∈ ([.non, .int (-1), .int 61, .bl true, .bl false, .str "1", .int big30, .str "2", .int big40] : List V) → ∃ db, Val H v db ∧ isIx v 61 = false := fun h => ⟨_, val_flat (odd_flat v h).1, (odd_flat v h).2⟩
  unfold badL at hv
  simp only [List.mem_cons, List.not_mem_nil, or_false] at hv flat
  rcases hv with h | h | h | h | h | h | h
  · exact flat (by simp [h])
  · exact flat (by simp [h])
  · exact flat (by simp [h])
  · exact flat (by simp [h])
  · exact flat (by simp [h])
  · subst h; exact ⟨.list [.int 2], ⟨.lst hl (.cons (.int _) .nil) (by decide), fine_l2.1, fine_l2.2, fun _ z => by cases z⟩, rfl⟩
  · exact flat (by simp [h])
theorem pick_str {H : Hp} {t l : Addr} {v : V} (ht : H t = some (.tup [])) (hl : H l = some (.lst [])) (hv : v ∈ strL t l) : ∃ db, Val H v db ∧ isB v = false := by
  have flat : v ∈ ([.non, .int 0, .int 1, .str "True"] : List V) → ∃ db, Val H v db ∧ isB v = false := fun h => ⟨_, val_flat (str_flat v h).1, (str_flat v h).2⟩
  unfold strL at hv
  simp only [List.mem_cons, List.not_mem_nil, or_false] at hv flat
  rcases hv with h | h | h | h | h | h
  · exact flat (by simp [h])
  · exact flat (by simp [h])
  · exact flat (by simp [h])
  · exact flat (by simp [h])
  · subst h; exact ⟨.tuple [], ⟨.tup ht .nil (by decide), fine_t.1, fine_t.2, fun _ z => by cases z⟩, rfl⟩
  · subst h; exact ⟨.list [], ⟨.lst hl .nil (by decide), fine_l.1, fine_l.2, fun _ z => by cases z⟩, rfl⟩
end My
namespace My
open PySem PySem.Spec PyProof.Rows L2
open LamX (ExtN Tabs TabS TabB lamSB lamS_by tLam lamCx)
def T1 (P : Addr) : List (Addr × Str) := [(P, (envOfC "_law_refused_right" (defScope sRefused) 0 0 .none).qual ++ "<lambda>")]
theorem tabs_off {P p : Addr} {H H' : Hp} {xs : List V} (h : Tabs (T1 P) H) (hp : H p = some (.lst xs)) (o : Off p H H') : Tabs (T1 P) H' := fun q hq => by
  obtain ⟨ps, h1, h2, h3⟩ := h q hq
  refine ⟨ps, o _ _ (fun z => ?_) h1, h2, fun pos cv e => ?_⟩
  · rw [z, hp] at h1
    cases h1
  · obtain ⟨c, e1, e2⟩ := h3 pos cv e
    refine ⟨c, e1, o _ _ (fun z => ?_) e2⟩
    rw [z, hp] at e2
    unfold LamX.CodeO at e2
    cases e2
theorem PenAt.ext {H H' : Hp} {p c : Addr} {ns : List Int} {B : Int} (h : PenAt H p c ns B) (e : ExtN H H') : PenAt H' p c ns B := by
  obtain ⟨b, g, hp, h1, h2, h3⟩ := h.pen
  exact ⟨⟨b, g, e _ _ hp (fun _ z => by cases z), h1, h2, h3⟩, e _ _ h.cells (fun _ z => by cases z), h.few⟩
/-- the tuples that the calls told -/
abbrev Tl (H : Hp) : List V → List Str → Prop := Paired fun v q => ∃ t, v = .ref t ∧ H t = some (.tup [.str "number", .str q])
theorem tl_keep {H H' : Hp} (k : ∀ t xs, H t = some (.tup xs) → H' t = some (.tup xs)) : ∀ {ts : List V} {bs : List Str}, Tl H ts bs → Tl H' ts bs
  | _, _, .nil => .nil
  | _, _, .cons ⟨t, e, h⟩ r => .cons ⟨t, e, k _ _ h⟩ (tl_keep k r)
theorem tl_snoc {H : Hp} {v : V} {q : Str} (h : ∃ t, v = .ref t ∧ H t = some (.tup [.str "number", .str q])) : ∀ {ts : List V} {bs : List Str}, Tl H ts bs → Tl H (ts ++ [v]) (bs ++ [q])
  | _, _, .nil => .cons h .nil
  | _, _, .cons a r => .cons a (tl_snoc h r)
structure Vals3 (H : Hp) (vo vb vs : V) (do_ db ds : PyData) : Prop where
  o : Val H vo do_
  b : Val H vb db
  s : Val H vs ds
  io : isIx vo 61 = false
  ib : isIx vb 61 = false
  is : isB vs = false
structure StF (H : Hp) (p cc : Addr) (ns : List Int) (B : Int) (l P : Addr) (vo vb vs : V) (do_ db ds : PyData) (ts : List V) (bs : List Str) : Prop where
  pen : PenAt H p cc ns B
  tabs : Tabs (T1 P) H
  v : Vals3 H vo vb vs do_ db ds
  lst : H l = some (.lst ts)
  tl : Tl H ts bs
  np : l ≠ p
  nc : l ≠ cc
  no : ∀ a, vo = .ref a → a ≠ l
  nb : ∀ a, vb = .ref a → a ≠ l
  ns' : ∀ a, vs = .ref a → a ≠ l
  few : ts.length ≤ 10
theorem val_upd {H : Hp} {l : Addr} {o : HO} {v : V} {d : PyData} (h : Val H v d) (n : ∀ a, v = .ref a → a ≠ l) : Val (upd H l o) v d := by
  refine ⟨?_, h.fine, h.ok, h.few⟩
  have th := h.th
  cases th with
  | flat e => exact .flat e
  | lst e k m => exact .lst (by rw [upd_ne (n _ rfl)]; exact e) k m
  | tup e k m => exact .tup (by rw [upd_ne (n _ rfl)]; exact e) k m
  | dct e => exact .dct (by rw [upd_ne (n _ rfl)]; exact e)
theorem StF.grow {H H3 : Hp} {p cc l P t : Addr} {ns : List Int} {B : Int} {vo vb vs : V} {do_ db ds : PyData} {ts : List V} {bs : List Str} {s : Str} (h : StF H p cc ns B l P vo vb vs do_ db ds ts bs) (few : ts.length ≤ 9) (e : ExtN H H3) (tb : Tabs (T1 P) H3) (ht : H3 t = some (.tup [.str "number", .str s])) :
    H3 l = some (.lst ts) ∧ ts.length < sizeLine ∧ StF (upd H3 l (.lst (ts ++ [.ref t]))) p cc ns B l P vo vb vs do_ db ds (ts ++ [.ref t]) (bs ++ [s]) := by
  have hl : H3 l = some (.lst ts) := e _ _ h.lst (fun _ z => by cases z)
  have nt : t ≠ l := fun z => by
    rw [z, hl] at ht
    cases ht
  have off : Off l H3 (upd H3 l (.lst (ts ++ [.ref t]))) := fun q o n e => by
    rw [upd_ne n]
    exact e
  obtain ⟨b0, g0, hp, h1, h2, h3⟩ := (h.pen.ext e).pen
  refine ⟨hl, small1000 (by omega), ⟨⟨⟨b0, g0, off _ _ h.np.symm hp, h1, h2, h3⟩, off _ _ h.nc.symm (h.pen.ext e).cells, h.pen.few⟩, tabs_off tb hl off, ⟨val_upd (h.v.o.ext e) h.no, val_upd (h.v.b.ext e) h.nb, val_upd (h.v.s.ext e) h.ns', h.v.io, h.v.ib, h.v.is⟩, upd_same, ?_, h.np, h.nc, h.no, h.nb, h.ns', ?_⟩⟩
  · refine tl_snoc ⟨t, rfl, off _ _ nt ht⟩ (tl_keep (fun t xs k => ?_) h.tl)
    have k3 := e _ _ k (fun _ z => by cases z)
    refine off _ _ (fun z => ?_) k3
    rw [z, hl] at k3
    cases k3
  · rw [List.length_append, List.length_singleton]
    omega
def tellD (q : Str) : PyData := .tuple [.str "number", .str q]
theorem tl_dp {K : PySem.W.Frag} {H : Hp} : ∀ {ts : List V} {bs : List Str}, Tl H ts bs → DpAll K H ts (bs.map tellD)
  | _, _, .nil => .nil
  | _, _, .cons ⟨t, e, h⟩ r => by
    subst e
    exact .cons (.tup (SqT.of h) (.cons (.str _) (.cons (.str _) .nil))) (tl_dp r)
theorem num_ok : PyData.strOk "number" = true := by decide +kernel
theorem three_shaped {x y z : Str} (hx : PyData.strOk x = true) (hy : PyData.strOk y = true) (hz : PyData.strOk z = true) : SeqAt.shaped (.list ([x, y, z].map tellD)) = true := by
  unfold SeqAt.shaped
  simp [tellD, PyData.canLay0, PyData.canLayAll0, num_ok, hx, hy, hz, PyData.depth, PyData.depthAll]
theorem three_eqv {x y z : Str} : PyData.eqv (.list ([x, y, z].map tellD)) (.list ([x, y, z].map tellD)) = true := by
  simp [tellD, PyData.eqv, PyData.eqvAll]
abbrev nRef : List Str := ["_law_pen_here", "_law_odd", "_law_bad", "_law_strange", "_law_fine", "_law_heard_here"]
theorem scRef : FnScope nRef ["_law_pen_here"] (defScope sRefused) := ⟨rfl, rfl, rfl, by decide +kernel, rfl, by decide +kernel, by decide +kernel⟩
def inF (i : Nat) : Stmt := (defBody sRefused).getD i (.Pass ⟨0, 0, 0, 0⟩)
abbrev XF (P : Program) (w : World) (K : PySem.W.Frag) (mg : Str → Option Value) (base : Heap) (f c : Addr) (A : Around) (outer : List Env) (s : Shared) (H : Hp) (E : XK) : Cx := cxOf CX0 P w K mg base nRef "_law_refused_right" (defScope sRefused) f (.ref c) A outer s H E
section
variable {P : Program} {w : World} {K : PySem.W.Frag} {mg : Str → Option Value} {base : Heap} {f c : Addr} {A0 : Around} {outer : List Env} {s : Shared} {H0 : Hp} {E : XK}
/-- the drawn values -/
theorem rq1 {fP fD : Addr} {dP dD : FuncData} (hr : Room 9 (XF P w K mg base f c A0 outer s H0 E).A) (FP : Fun K "_law_pick" "_law_pick" sPick fP dP) (bP : Binds K dP ["_law_pen_here", "_law_some"] []) (gP : mg "_law_pick" = some (.ref fP)) (GP : FnOk P w K mg base CX0 2 fP dP ["_law_pen_here", "_law_some"] spPick)
    (FD : Fun K "_law_draw" "_law_draw" sDraw fD dD) (bD : Binds K dD ["_law_pen_here", "_law_many"] []) (gD : mg "_law_draw" = some (.ref fD)) (GD : FnOk P w K mg base CX0 1 fD dD ["_law_pen_here", "_law_many"] spDraw) :
    ∃ t0 t1 t2 t3, PS (XF P w K mg base f c A0 outer s H0 E) (inF 0) t0 ∧ PS (XF P w K mg base f c A0 outer s H0 E) (inF 1) t1 ∧ PS (XF P w K mg base f c A0 outer s H0 E) (inF 2) t2 ∧ PS (XF P w K mg base f c A0 outer s H0 E) (inF 3) t3 ∧
      ∀ (p cc : Addr) (ns : List Int) (B : Int) (y1 y2 y3 y4 y5 : Option V) (H : Hp) (D : Ends), PenAt H p cc ns B → B + 4 ≤ 1000 →
        (∀ vo vb vs do_ db ds (n : Nat) H', Off p H H' → PenAt H' p cc ns (B + 4) → Vals3 H' vo vb vs do_ db ds → n ≤ 60 → D.nx [some (.ref p), some vo, some vb, some vs, some (.int n), y5] H') → tSeq t0 (tSeq t1 (tSeq t2 t3)) D [some (.ref p), y1, y2, y3, y4, y5] H := by
  refine ⟨_, _, _, _, ps_asg (pe_call GP (hr.mono (by decide)) (by rfl) gP FP.kp bP .nil pass0 (pa_cons (pv 0) (pa_cons (pe_lst (pa_cons pe_non (pa_cons (pe_un un_neg pe_int) (pa_cons pe_int (pa_cons pe_bl (pa_cons pe_bl (pa_cons pe_str (pa_cons (pe_tup (pa_cons pe_int pa_nil)) (pa_cons (pe_lst pa_nil) (pa_cons pe_dnewK (pa_cons (pe_op op_pow pe_int pe_int) pa_nil))))))))))) pa_nil))) (pg_name (i := 1) scRef.nd rfl (.inr rfl)),
    ps_asg (pe_call GP (hr.mono (by decide)) (by rfl) gP FP.kp bP .nil pass0 (pa_cons (pv 0) (pa_cons (pe_lst (pa_cons pe_non (pa_cons (pe_un un_neg pe_int) (pa_cons pe_int (pa_cons pe_bl (pa_cons pe_str (pa_cons (pe_lst (pa_cons pe_int pa_nil)) (pa_cons (pe_un un_neg (pe_op op_pow pe_int pe_int)) pa_nil)))))))) pa_nil))) (pg_name (i := 2) scRef.nd rfl (.inr rfl)),
    ps_asg (pe_call GP (hr.mono (by decide)) (by rfl) gP FP.kp bP .nil pass0 (pa_cons (pv 0) (pa_cons (pe_lst (pa_cons pe_non (pa_cons pe_int (pa_cons pe_int (pa_cons pe_str (pa_cons (pe_tup pa_nil) (pa_cons (pe_lst pa_nil) pa_nil))))))) pa_nil))) (pg_name (i := 3) scRef.nd rfl (.inr rfl)),
    ps_asg (pe_call GD (hr.mono (by decide)) (by rfl) gD FD.kp bD .nil pass0 (pa_cons (pv 0) (pa_cons pe_int pa_nil))) (pg_name (i := 4) scRef.nd rfl (.inr rfl)), ?_⟩
  intro p cc ns B y1 y2 y3 y4 y5 H D PA hB q
  obtain ⟨b0, g0, hp, _⟩ := PA.pen
  have z1 : (1 : Nat) ≤ sizeLine := by decide
  refine ⟨.ref p, rfl, 1, rfl, z1, fun t ht => ⟨Nat.zero_le _, fun l hl => fun d hd => ⟨10, 30, rfl, rfl, ⟨by decide, by decide, by decide⟩, by show 10 ≤ sizeLine; decide, fun l0 h0 => ?_⟩⟩⟩
  have a1 := same_new (o := .tup [V.int 1]) ht
  have a2 := same_new (o := .lst []) hl
  have a3 := same_new (o := .dK []) hd
  have a4 := same_new (o := .lst (oddL t l d)) h0
  have a14 := ((a1.trans a2).trans a3).trans a4
  have n0 : l0 ≠ p := (ne_of_none (((a1.trans a2).trans a3) _ _ hp) h0).symm
  refine ⟨p, cc, ns, B, .ref l0, oddL t l d, rfl, PA.keep a14, by omega, .inl ⟨l0, rfl, n0, upd_same⟩, by show 1 ≤ 10; decide, by show 10 ≤ 1000; decide, fun vo H1 hv PA1 off1 => ?_⟩
  obtain ⟨do_, Vo, io⟩ := pick_odd (((a2.trans a3).trans a4) _ _ upd_same) ((a3.trans a4) _ _ upd_same) (a4 _ _ upd_same) hv
  have Vo1 := Vo.off (PA.keep a14) off1
  have o1 : Off p H H1 := Off.trans (fun a o _ e => a14 a o e) off1
  obtain ⟨b1, g1, hp1, _⟩ := PA1.pen
  refine ⟨.ref p, rfl, 1, rfl, z1, fun l2 hl2 => ⟨10, 40, rfl, rfl, ⟨by decide, by decide, by decide⟩, _, rfl, by show 7 ≤ sizeLine; decide, fun l3 h3 => ?_⟩⟩
  have c1 := same_new (o := .lst [V.int 2]) hl2
  have c2 := same_new (o := .lst (badL l2)) h3
  have c12 := c1.trans c2
  have n3 : l3 ≠ p := (ne_of_none (c1 _ _ hp1) h3).symm
  refine ⟨p, cc, ns, B + 1, .ref l3, badL l2, rfl, PA1.keep c12, by omega, .inl ⟨l3, rfl, n3, upd_same⟩, by show 1 ≤ 7; decide, by show 7 ≤ 1000; decide, fun vb H2 hv2 PA2 off2 => ?_⟩
  obtain ⟨db, Vb, ib⟩ := pick_bad (c2 _ _ upd_same) hv2
  have Vb2 := Vb.off (PA1.keep c12) off2
  have Vo2 := (Vo1.keep c12).off (PA1.keep c12) off2
  have o2 : Off p H H2 := (o1.trans (fun a o _ e => c12 a o e)).trans off2
  obtain ⟨b2, g2, hp2, _⟩ := PA2.pen
  refine ⟨.ref p, rfl, Nat.zero_le _, fun t5 ht5 => ⟨Nat.zero_le _, fun l5 hl5 => ⟨by show 6 ≤ sizeLine; decide, fun l6 h6 => ?_⟩⟩⟩
  have e1 := same_new (o := .tup []) ht5
  have e2 := same_new (o := .lst []) hl5
  have e3 := same_new (o := .lst (strL t5 l5)) h6
  have e13 := (e1.trans e2).trans e3
  have n6 : l6 ≠ p := (ne_of_none ((e1.trans e2) _ _ hp2) h6).symm
  refine ⟨p, cc, ns, B + 1 + 1, .ref l6, strL t5 l5, rfl, PA2.keep e13, by omega, .inl ⟨l6, rfl, n6, upd_same⟩, by show 1 ≤ 6; decide, by show 6 ≤ 1000; decide, fun vs H3 hv3 PA3 off3 => ?_⟩
  obtain ⟨ds, Vs, is⟩ := pick_str ((e2.trans e3) _ _ upd_same) (e3 _ _ upd_same) hv3
  have Vs3 := Vs.off (PA2.keep e13) off3
  have Vb3 := (Vb2.keep e13).off (PA2.keep e13) off3
  have Vo3 := (Vo2.keep e13).off (PA2.keep e13) off3
  have o3 : Off p H H3 := (o2.trans (fun a o _ e => e13 a o e)).trans off3
  refine ⟨.ref p, rfl, p, cc, ns, B + 1 + 1 + 1, 61, rfl, PA3, by omega, by decide, by decide, fun n H4 n0' n1' PA4 off4 => ?_⟩
  obtain ⟨k, rfl⟩ : ∃ k : Nat, n = (k : Int) := ⟨n.toNat, by omega⟩
  exact q vo vb vs do_ db ds k H4 (o3.trans off4) (PA4.more (by omega)) ⟨Vo3.off PA3 off4, Vb3.off PA3 off4, Vs3.off PA3 off4, io, ib, is⟩ (by omega)
end
end My
namespace My
open PySem PySem.Spec PyProof.Rows L2
open LamX (ExtN Tabs TabS TabB lamSB lamS_by tLam lamCx)
theorem okf : ∀ k : Fin 61, okFlat (.int (k.1 : Int)) = true := by decide +kernel
section
variable {P : Program} {w : World} {K : PySem.W.Frag} {mg : Str → Option Value} {base : Heap} {f c : Addr} {A0 : Around} {outer : List Env} {s : Shared} {H0 : Hp} {E0' : XK}
theorem rq2 {fH fM P0 CZ CL : Addr} {dH dM : FuncData} (T : Txt mg) (hr : Room 9 (XF P w K mg base f c A0 outer s H0 E0').A) (hg : (XF P w K mg base f c A0 outer s H0 E0').A.guards = some [])
    (TB : TabB base mg c P0) (FH : Fun K "_law_heard" "_law_heard" sHeard fH dH) (gH : mg "_law_heard" = some (.ref fH)) (gZ : mg "BadNumber" = some (.ref CZ)) (gL : mg "LayerError" = some (.ref CL)) (ek : EK K CL CZ)
    (FM : Fun K "many_classes" "many_classes" sMany fM dM) (bM : Binds K dM pMany []) (gM : mg "many_classes" = some (.ref fM)) (GM : FnOk P w K mg base (L2.CX P w) 6 fM dM pMany (spMany CZ)) :
    ∃ t4 t5 t6 t7, PS (XF P w K mg base f c A0 outer s H0 E0') (inF 4) t4 ∧ PS (XF P w K mg base f c A0 outer s H0 E0') (inF 5) t5 ∧ PS (XF P w K mg base f c A0 outer s H0 E0') (inF 6) t6 ∧ PS (XF P w K mg base f c A0 outer s H0 E0') (inF 7) t7 ∧
      ∀ (p cc : Addr) (ns : List Int) (B : Int) (vo vb vs : V) (do_ db ds : PyData) (n : Nat) (y5 : Option V) (H : Hp) (D : Ends), PenAt H p cc ns B → Tabs (T1 P0) H → Vals3 H vo vb vs do_ db ds → n ≤ 60 →
        (∀ H', PenAt H' p cc ns B → Tabs (T1 P0) H' → D.rt (.bl true) H') → tSeq t4 (tSeq t5 (tSeq t6 t7)) D [some (.ref p), some vo, some vb, some vs, some (.int n), y5] H := by
  have hu : (XF P w K mg base f c A0 outer s H0 E0').A.units + 64 < cLine := hr.units
  refine ⟨_, _, _, _, ps_set (i := 5) scRef.nd rfl (.inl rfl) (pe_lst (pa_cons (pe_ask (t := fun E => tCall (spMany CZ) [] E (tCons (tVar 1) (tCons (tVar 2) (tCons (tVar 3) tNil)))) FH gH (by rfl) T gZ gL hr hg TB rfl (TT := T1 P0) rfl (by show lamSB (defScope sRefused) _ = true; decide +kernel) rfl (fun _ _ _ _ _ => rfl) (fun A1 outer1 s1 H1 E f1 c1 hr2 => pe_call GM (hr2.mono (by decide)) (by rfl) gM FM.kp bM .nil (passes_call (takes_of rfl rfl rfl rfl) (fun _ _ _ _ h => h)) (pa_cons (pv 1) (pa_cons (pv 2) (pa_cons (pv 3) pa_nil))))) pa_nil)),
    ps_expr (pe_bm PySem.F.plainAttrs_list PySem.F.slot_list_append PySem.F.type_list_append mt_append (pv 5) (pa_cons (pe_ask (t := fun E => tCall (spMany CZ) [] E (tCons (tVar 4) (tCons (tVar 2) (tCons (tVar 3) tNil)))) FH gH (by rfl) T gZ gL hr hg TB rfl (TT := T1 P0) rfl (by show lamSB (defScope sRefused) _ = true; decide +kernel) rfl (fun _ _ _ _ _ => rfl) (fun A1 outer1 s1 H1 E f1 c1 hr2 => pe_call GM (hr2.mono (by decide)) (by rfl) gM FM.kp bM .nil (passes_call (takes_of rfl rfl rfl rfl) (fun _ _ _ _ h => h)) (pa_cons (pv 4) (pa_cons (pv 2) (pa_cons (pv 3) pa_nil))))) pa_nil)),
    ps_expr (pe_bm PySem.F.plainAttrs_list PySem.F.slot_list_append PySem.F.type_list_append mt_append (pv 5) (pa_cons (pe_ask (t := fun E => tCall (spMany CZ) [] E (tCons (tVar 4) (tCons (tVar 4) (tCons (tVar 3) tNil)))) FH gH (by rfl) T gZ gL hr hg TB rfl (TT := T1 P0) rfl (by show lamSB (defScope sRefused) _ = true; decide +kernel) rfl (fun _ _ _ _ _ => rfl) (fun A1 outer1 s1 H1 E f1 c1 hr2 => pe_call GM (hr2.mono (by decide)) (by rfl) gM FM.kp bM .nil (passes_call (takes_of rfl rfl rfl rfl) (fun _ _ _ _ h => h)) (pa_cons (pv 4) (pa_cons (pv 4) (pa_cons (pv 3) pa_nil))))) pa_nil)),
    ps_ret (pe_cmpR (op_eqD hu) (pv 5) (pe_lst (pa_cons (pe_tup (pa_cons pe_str (pa_cons (pe_callB (call_reprT hg hu) (by rfl) T.repr (by decide +kernel) (pa_cons (pv 1) pa_nil)) pa_nil))) (pa_cons (pe_tup (pa_cons pe_str (pa_cons (pe_callB (call_reprT hg hu) (by rfl) T.repr (by decide +kernel) (pa_cons (pv 2) pa_nil)) pa_nil)))
      (pa_cons (pe_tup (pa_cons pe_str (pa_cons (pe_callB (call_reprT hg hu) (by rfl) T.repr (by decide +kernel) (pa_cons (pv 3) pa_nil)) pa_nil))) pa_nil)))) (nomark _)), ?_⟩
  intro p cc ns B vo vb vs do_ db ds n y5 H D PA tb V3 hn q
  have z1 : (1 : Nat) ≤ sizeLine := by decide
  have Vn : ∀ H', Val H' (.int n) (.int n) := fun H' => val_flat (okf ⟨n, by omega⟩)
  have ixn : isIx (.int n) 61 = true := isIx_of hn
  refine rd_many (CL := CL) (d := do_) (x := vo) (y := vb) (c := vs) ek tb rfl rfl rfl V3.o V3.b V3.s (.inl ⟨V3.io, rfl⟩) fun t1 H1 e1 tb1 ht1 => ⟨z1, fun l hl => ?_⟩
  have up := same_new (o := .lst [.ref t1]) hl
  have PA1 := PA.ext e1
  obtain ⟨b, g, hp, _⟩ := PA1.pen
  have no : ∀ {v : V} {d : PyData}, Val H1 v d → ∀ a, v = .ref a → a ≠ l := fun h a e z => by
    have th := h.th
    subst e
    rw [z] at th
    cases th with
    | flat e => cases e
    | lst e _ _ => rw [hl] at e; cases e
    | tup e _ _ => rw [hl] at e; cases e
    | dct e => rw [hl] at e; cases e
  have S1 : StF (upd H1 l (.lst [.ref t1])) p cc ns B l P0 vo vb vs do_ db ds [.ref t1] [do_.shown] :=
    ⟨PA1.keep up, tb1.ext up, ⟨(V3.o.ext e1).keep up, (V3.b.ext e1).keep up, (V3.s.ext e1).keep up, V3.io, V3.ib, V3.is⟩, upd_same, .cons ⟨t1, rfl, up _ _ ht1⟩ .nil, (ne_of_none hp hl).symm, (ne_of_none PA1.cells hl).symm, no (V3.o.ext e1), no (V3.b.ext e1), no (V3.s.ext e1), by show 1 ≤ 10; decide⟩
  refine ⟨.ref l, rfl, .inl ⟨rfl, _, SqL.of S1.lst⟩, rd_many (CL := CL) (d := db) (x := .int n) (y := vb) (c := vs) ek S1.tabs rfl rfl rfl (Vn _) S1.v.b S1.v.s (.inr (.inl ⟨ixn, V3.ib, rfl⟩)) fun t2 H2 e2 tb2 ht2 => ?_⟩
  obtain ⟨hl2, sz2, S2⟩ := S1.grow (by show 1 ≤ 9; decide) e2 tb2 ht2
  refine ⟨l, _, .ref t2, rfl, rfl, hl2, sz2, ?_⟩
  refine ⟨.ref l, rfl, .inl ⟨rfl, _, SqL.of S2.lst⟩, rd_many (CL := CL) (d := ds) (x := .int n) (y := .int n) (c := vs) ek S2.tabs rfl rfl rfl (Vn _) (Vn _) S2.v.s (.inr (.inr ⟨ixn, ixn, V3.is, rfl⟩)) fun t3 H3 e3 tb3 ht3 => ?_⟩
  obtain ⟨hl3, sz3, S3⟩ := S2.grow (by show 2 ≤ 9; decide) e3 tb3 ht3
  refine ⟨l, _, .ref t3, rfl, rfl, hl3, sz3, ?_⟩
  refine ⟨.ref l, rfl, vo, rfl, vo, do_, rfl, S3.v.o.th, S3.v.o.fine, by show 2 ≤ sizeLine; decide, fun u1 hu1 => ?_⟩
  have a1 := same_new (o := .tup [.str "number", .str do_.shown]) hu1
  refine ⟨vb, rfl, vb, db, rfl, (S3.v.b.keep a1).th, S3.v.b.fine, by show 2 ≤ sizeLine; decide, fun u2 hu2 => ?_⟩
  have a2 := same_new (o := .tup [.str "number", .str db.shown]) hu2
  refine ⟨vs, rfl, vs, ds, rfl, ((S3.v.s.keep a1).keep a2).th, S3.v.s.fine, by show 2 ≤ sizeLine; decide, fun u3 hu3 => ⟨by show 3 ≤ sizeLine; decide, fun r hr' => ?_⟩⟩
  have a3 := same_new (o := .tup [.str "number", .str ds.shown]) hu3
  have a4 := same_new (o := .lst [.ref u1, .ref u2, .ref u3]) hr'
  have all := ((a1.trans a2).trans a3).trans a4
  have tl2 : Tl _ [.ref u1, .ref u2, .ref u3] [do_.shown, db.shown, ds.shown] := .cons ⟨u1, rfl, ((a2.trans a3).trans a4) _ _ upd_same⟩ (.cons ⟨u2, rfl, (a3.trans a4) _ _ upd_same⟩ (.cons ⟨u3, rfl, a4 _ _ upd_same⟩ .nil))
  refine ⟨_, _, .lst (SqL.of (all _ _ S3.lst)) (tl_dp (tl_keep (fun t xs e => all _ _ e) S3.tl)), .lst (SqL.of upd_same) (tl_dp tl2), three_shaped S3.v.o.ok S3.v.b.ok S3.v.s.ok, three_shaped S3.v.o.ok S3.v.b.ok S3.v.s.ok, ?_⟩
  have ev := three_eqv (x := do_.shown) (y := db.shown) (z := ds.shown)
  show D.rt (.bl (PyData.eqv _ _)) _
  rw [show PyData.eqv (.list (([do_.shown] ++ [db.shown] ++ [ds.shown]).map tellD)) (.list ([do_.shown, db.shown, ds.shown].map tellD)) = true from ev]
  exact q _ (S3.pen.keep all) (S3.tabs.ext all)
def spRef (P0 : Addr) : Sp := fun vs H Q _ => ∃ (p cc : Addr) (ns : List Int) (B : Int), vs = [.ref p] ∧ PenAt H p cc ns B ∧ B + 10 ≤ 1000 ∧ Tabs (T1 P0) H ∧ ∀ H', PenAt H' p cc ns (B + 4) → Tabs (T1 P0) H' → Q (.bl true) H'
theorem ok_refused {oc kV doc pm ct : Value} {od an : Option Addr} {osl : Array (Option Value)} {fH fM fP fD P0 CZ CL : Addr} {dH dM dP dD : FuncData} (T : Txt mg)
    (TB : TabB base mg c P0) (FH : Fun K "_law_heard" "_law_heard" sHeard fH dH) (gH : mg "_law_heard" = some (.ref fH)) (gZ : mg "BadNumber" = some (.ref CZ)) (gL : mg "LayerError" = some (.ref CL)) (ek : EK K CL CZ)
    (FM : Fun K "many_classes" "many_classes" sMany fM dM) (bM : Binds K dM pMany []) (gM : mg "many_classes" = some (.ref fM)) (GM : FnOk P w K mg base (L2.CX P w) 6 fM dM pMany (spMany CZ))
    (lk : K.lookup f = some ⟨oc, od, .func (PySem.W.fnOf "_law_refused_right" "_law_refused_right" (defArgs sRefused) (defBody sRefused) (defScope sRefused) .none kV doc pm an (.ref c) ct), osl⟩) (hcd : PySem.W.codeIn K (.ref c) "_law_refused_right" = true)
    (FP : Fun K "_law_pick" "_law_pick" sPick fP dP) (bP : Binds K dP ["_law_pen_here", "_law_some"] []) (gP : mg "_law_pick" = some (.ref fP)) (GP : FnOk P w K mg base CX0 2 fP dP ["_law_pen_here", "_law_some"] spPick)
    (FD : Fun K "_law_draw" "_law_draw" sDraw fD dD) (bD : Binds K dD ["_law_pen_here", "_law_many"] []) (gD : mg "_law_draw" = some (.ref fD)) (GD : FnOk P w K mg base CX0 1 fD dD ["_law_pen_here", "_law_many"] spDraw) :
    FnG P w K mg base CX0 10 f (PySem.W.fnOf "_law_refused_right" "_law_refused_right" (defArgs sRefused) (defBody sRefused) (defScope sRefused) .none kV doc pm an (.ref c) ct) ["_law_pen_here"] (spRef P0) := by
  refine okGc lk hcd scRef (fun vs H Q E h => ?_) (fun A1 outer s H vs Q E hr hg h => ?_)
  · obtain ⟨p, cc, ns, B, rfl, _⟩ := h
    rfl
  · obtain ⟨p, cc, ns, B, rfl, PA, hB, tb, q⟩ := h
    obtain ⟨t0, t1, t2, t3, h0, h1, h2, h3, q1⟩ := rq1 (f := f) (c := c) (A0 := A1) (outer := outer) (s := s) (H0 := H) (E := E) hr FP bP gP GP FD bD gD GD
    obtain ⟨t4, t5, t6, t7, h4, h5, h6, h7, q2⟩ := rq2 (f := f) (c := c) (A0 := A1) (outer := outer) (s := s) (H0 := H) (E0' := E) T hr hg TB FH gH gZ gL ek FM bM gM GM
    refine ⟨_, pss_cons h0 (pss_cons h1 (pss_cons h2 (pss_cons h3 (pss_cons h4 (pss_cons h5 (pss_cons h6 (pss_one h7))))))), ?_⟩
    obtain ⟨b0', g0', hp, _⟩ := PA.pen
    refine q1 p cc ns B _ _ _ _ _ H { nx := _, rt := Q } PA (by omega) fun vo vb vs do_ db ds n H1 off PA1 V3 hn => ?_
    exact q2 p cc ns (B + 4) vo vb vs do_ db ds n _ H1 _ PA1 (tabs_off tb hp off) V3 hn q
end
end My
namespace My
open PySem PySem.Spec PyProof.Rows L2
theorem many_ok {CZ : Addr} {k f : Nat} {b : Bool} {H : Hp} {Q : VK} {E : XK} (hk : k ≤ 60) (hf : f ≤ 60) (q : ∀ H', Same' H H' → Q (.int (manyM k f b)) H') : spMany CZ [.int k, .int f, .bl b] H Q E := by
  refine ⟨_, _, _, _, _, _, rfl, .flat (.int _), .flat (.int _), .flat (.bl _), fun z => ?_, fun _ z => ?_, fun _ _ z => ?_, fun k' f' b' e1 e2 e3 _ _ H' sm => ?_⟩
  · rw [isIx_of hk] at z; cases z
  · rw [isIx_of hf] at z; cases z
  · cases z
  · injection e1 with e1
    injection e2 with e2
    injection e3 with e3
    obtain rfl : k' = k := by omega
    obtain rfl : f' = f := by omega
    subst e3
    exact q H' sm
theorem many_at {CZ : Addr} {x y : Int} {b : Bool} {H : Hp} {Q : VK} {E : XK} (k f : Nat) (ex : x = (k : Int)) (ey : y = (f : Int)) (hk : k ≤ 60) (hf : f ≤ 60) (q : ∀ H', Same' H H' → Q (.int (manyM k f b)) H') : spMany CZ [.int x, .int y, .bl b] H Q E := by
  subst ex ey
  exact many_ok hk hf q
theorem rd_call {CZ : Addr} {E : XK} {t1 t2 t3 : TE} {σ : L2.St} {H : Hp} {Q : VK} (x y z : V) (h1 : ∀ R : VK, R x H → t1 σ H R) (h2 : ∀ R : VK, R y H → t2 σ H R) (h3 : ∀ R : VK, R z H → t3 σ H R) (q : spMany CZ [x, y, z] H Q E) : tCall (spMany CZ) [] E (tCons t1 (tCons t2 (tCons t3 tNil))) σ H Q :=
  h1 _ (h2 _ (h3 _ q))
theorem rd_vc {CZ : Addr} {E : XK} {σ : L2.St} {H : Hp} {Q : VK} {i : Nat} {m : Nat} {c : Int} {b : Bool} (f : Nat) (hi : σ[i]? = some (some (.int m))) (hc : c = (f : Int)) (hm : m ≤ 60) (hf : f ≤ 60) (q : ∀ H', Same' H H' → Q (.int (manyM m f b)) H') :
    tCall (spMany CZ) [] E (tCons (tVar i) (tCons (tC (.int c)) (tCons (tC (.bl b)) tNil))) σ H Q := rd_call (.int m) (.int c) (.bl b) (fun R r => ⟨_, hi, r⟩) (fun R r => r) (fun R r => r) (many_at m f rfl hc hm hf q)
theorem rd_cv {CZ : Addr} {E : XK} {σ : L2.St} {H : Hp} {Q : VK} {i : Nat} {m : Nat} {c : Int} {b : Bool} (f : Nat) (hi : σ[i]? = some (some (.int m))) (hc : c = (f : Int)) (hm : m ≤ 60) (hf : f ≤ 60) (q : ∀ H', Same' H H' → Q (.int (manyM f m b)) H') :
    tCall (spMany CZ) [] E (tCons (tC (.int c)) (tCons (tVar i) (tCons (tC (.bl b)) tNil))) σ H Q := rd_call (.int c) (.int m) (.bl b) (fun R r => r) (fun R r => ⟨_, hi, r⟩) (fun R r => r) (many_at f m hc rfl hf hm q)
theorem ints_eqvA : ∀ ns : List Int, PyData.eqvAll (ns.map PyData.int) (ns.map PyData.int) = true
  | [] => by simp [PyData.eqvAll]
  | x :: r => by
    have := ints_eqvA r
    simp [PyData.eqvAll, PyData.eqv, this]
theorem ints_eqv (ns : List Int) : PyData.eqv (.list (ns.map PyData.int)) (.list (ns.map PyData.int)) = true := by
  have := ints_eqvA ns
  simp [PyData.eqv, this]
theorem passF {X : Cx} : Passes (L2.CX X.prog X.w) X (fun _ _ _ => False) := fun _ _ _ _ _ _ _ h => by
  obtain ⟨_, _, _, _, _, _, _, _, _, _, _, _, z⟩ := h
  exact z.elim
def spGreat : Sp := fun vs H Q _ => ∃ m : Nat, vs = [.int m] ∧ 1 ≤ m ∧ m ≤ 60 ∧ ∀ H', Same' H H' → Q (.bl true) H'
abbrev nGreat : List Str := ["_law_many", "_law_told", "_law_two", "_law_three", "_law_four", "_law_step"]
section
variable {P : Program} {w : World} {K : PySem.W.Frag} {mg : Str → Option Value} {base : Heap}
theorem scGreat : FnScope nGreat ["_law_many"] (defScope sGreat) := ⟨rfl, rfl, rfl, by decide +kernel, rfl, by decide +kernel, by decide +kernel⟩
theorem ok_great {f fM CZ : Addr} {fd dM : FuncData} (F : Fun K "_law_great_right" "_law_great_right" sGreat f fd) (T : Txt mg) (FM : Fun K "many_classes" "many_classes" sMany fM dM) (bM : Binds K dM pMany []) (gM : mg "many_classes" = some (.ref fM)) (GM : FnOk P w K mg base (L2.CX P w) 6 fM dM pMany (spMany CZ)) :
    FnOk P w K mg base CX0 7 f fd ["_law_many"] spGreat := by
  refine F.ok scGreat (fun vs H Q E h => ?_) (fun cdv A outer s H vs Q E hr h => ?_)
  · obtain ⟨m, rfl, _⟩ := h
    rfl
  · obtain ⟨m, rfl, h1, h2, q⟩ := h
    refine ⟨_, pss_cons (ps_set (i := 1) scGreat.nd rfl (.inl rfl) (pe_lst (pa_cons (pe_call GM hr (by rfl) gM FM.kp bM .nil passF (pa_cons (pv 0) (pa_cons pe_int (pa_cons pe_bl pa_nil)))) (pa_cons (pe_call GM hr (by rfl) gM FM.kp bM .nil passF (pa_cons pe_int (pa_cons (pv 0) (pa_cons pe_bl pa_nil)))) (pa_cons (pe_call GM hr (by rfl) gM FM.kp bM .nil passF (pa_cons (pv 0) (pa_cons pe_int (pa_cons pe_bl pa_nil)))) pa_nil)))))
      (pss_cons (ps_set (i := 1) scGreat.nd rfl (.inl rfl) (pe_op op_cat (pv 1) (pe_lst (pa_cons (pe_call GM hr (by rfl) gM FM.kp bM .nil passF (pa_cons pe_int (pa_cons (pv 0) (pa_cons pe_bl pa_nil)))) (pa_cons (pe_call GM hr (by rfl) gM FM.kp bM .nil passF (pa_cons pe_int (pa_cons (pv 0) (pa_cons pe_bl pa_nil)))) (pa_cons (pe_call GM hr (by rfl) gM FM.kp bM .nil passF (pa_cons (pv 0) (pa_cons pe_int (pa_cons pe_bl pa_nil)))) pa_nil))))))
      (pss_cons (ps_asg (pe_tup (pa_cons pe_int (pa_cons pe_int (pa_cons pe_int pa_nil)))) (pg_tup (n := 3) rfl (pgs_cons (pg_name (i := 2) scGreat.nd rfl (.inl rfl)) (pgs_cons (pg_name (i := 3) scGreat.nd rfl (.inl rfl)) (pgs_cons (pg_name (i := 4) scGreat.nd rfl (.inl rfl)) pgs_nil)))))
      (pss_cons (ps_for PassesOwn.never rfl (pi_range1 (by rfl) T.range (pa_cons (pv 0) pa_nil)) (pg_name (i := 5) scGreat.nd rfl (.inl rfl))
        (pss_one (ps_par3 (i := 2) (j := 3) (l := 4) rfl scGreat.nd rfl rfl rfl (by decide) (by decide) (by decide) rfl rfl rfl (pa_cons (pe_op op_mul (pv 2) pe_int) (pa_cons (pe_op op_mul (pv 3) pe_int) (pa_cons (pe_op op_mul (pv 4) pe_int) pa_nil))) (by rfl))))
      (pss_one (ps_ret (pe_cmpR (op_eqD hr.units) (pv 1) (pe_lst (pa_cons pe_int (pa_cons (pv 2) (pa_cons (pv 2) (pa_cons (pe_op op_mul pe_int (pv 3)) (pa_cons (pe_op op_sub (pe_op op_mul pe_int (pv 3)) (pv 2)) (pa_cons (pe_op op_sub (pe_op op_mul pe_int (pv 4)) (pe_op op_mul pe_int (pv 3))) pa_nil))))))) (nomark _))))))), ?_⟩
    have z3 : (3 : Nat) ≤ sizeLine := by decide
    refine rd_vc 0 rfl rfl h2 (by decide) fun H1 s1 => ?_
    refine rd_cv 0 rfl rfl h2 (by decide) fun H2 s2 => ?_
    refine rd_vc 1 rfl rfl h2 (by decide) fun H3 s3 => ⟨z3, fun l1 hl1 => ?_⟩
    obtain ⟨g1, g2, g3, g4, g5, g6⟩ := great_all h1 h2
    rw [g1, g2, g3]
    have a1 := same_new (o := .lst [V.int 1, .int (2 ^ m), .int (2 ^ m)]) hl1
    refine ⟨.ref l1, rfl, rd_cv 1 rfl rfl h2 (by decide) fun H4 s4 => ?_⟩
    refine rd_cv 2 rfl rfl h2 (by decide) fun H5 s5 => ?_
    refine rd_vc 2 rfl rfl h2 (by decide) fun H6 s6 => ⟨z3, fun l2 hl2 => ?_⟩
    rw [g4, g5, g6]
    have a2 := same_new (o := .lst [V.int (2 * 3 ^ m), .int (2 * 3 ^ m - 2 ^ m), .int (6 * 4 ^ m - 2 * 3 ^ m)]) hl2
    refine ⟨l1, l2, _, _, rfl, rfl, (((s4.trans s5).trans s6).trans a2) _ _ upd_same, upd_same, by show 6 ≤ sizeLine; decide, fun l hl => ?_⟩
    have a3 := same_new (o := .lst ([V.int 1, .int (2 ^ m), .int (2 ^ m)] ++ [V.int (2 * 3 ^ m), .int (2 * 3 ^ m - 2 ^ m), .int (6 * 4 ^ m - 2 * 3 ^ m)])) hl
    have all := ((((((s1.trans s2).trans s3).trans a1).trans ((s4.trans s5).trans s6)).trans a2).trans a3)
    refine ⟨z3, fun t ht => ⟨t, _, rfl, SqT.of upd_same, rfl, _, _, rfl, _, _, rfl, _, _, rfl, rfl, ?_⟩⟩
    have a4 := same_new (o := .tup [V.int 1, .int 1, .int 1]) ht
    have el := a4 _ _ (upd_same (a := l) (o := .lst ([V.int 1, .int (2 ^ m), .int (2 ^ m)] ++ [V.int (2 * 3 ^ m), .int (2 * 3 ^ m - 2 ^ m), .int (6 * 4 ^ m - 2 * 3 ^ m)])))
    refine ⟨.int m, rfl, m, rfl, by omega, by omega, ?_⟩
    rw [show ((m : Int)).toNat = m from rfl]
    refine for_range (lo := 0) (n := m) (fun i σ H' => Same' H H' ∧ H' l = some (.lst (([1, 2 ^ m, 2 ^ m, 2 * 3 ^ m, 2 * 3 ^ m - 2 ^ m, 6 * 4 ^ m - 2 * 3 ^ m] : List Int).map V.int)) ∧ ∃ y5, σ = [some (.int m), some (.ref l), some (.int (2 ^ i)), some (.int (3 ^ i)), some (.int (4 ^ i)), y5]) ⟨all.trans a4, el, none, rfl⟩ (fun i σ H' hi hp => ?_) (fun σ H' hp => ?_)
    · obtain ⟨sm, e1, y5, rfl⟩ := hp
      refine ⟨_, rfl, _, _, rfl, rfl, .inr ⟨by decide, by decide⟩, _, rfl, _, _, rfl, rfl, .inr ⟨by decide, by decide⟩, _, rfl, _, _, rfl, rfl, .inr ⟨by decide, by decide⟩, _, _, _, rfl, sm, e1, some (.int (0 + i)), ?_⟩
      rw [Int.pow_succ, Int.pow_succ, Int.pow_succ]
      rfl
    · obtain ⟨sm, e1, y5, rfl⟩ := hp
      refine ⟨.ref l, rfl, _, rfl, _, rfl, _, rfl, 2, _, rfl, rfl, .inl ⟨by decide, by decide⟩, _, rfl, 2, _, rfl, rfl, .inl ⟨by decide, by decide⟩, _, rfl, _, _, rfl, rfl, _, rfl, 6, _, rfl, rfl, .inl ⟨by decide, by decide⟩, _, rfl, 2, _, rfl, rfl, .inl ⟨by decide, by decide⟩, _, _, rfl, rfl, by show 6 ≤ sizeLine; decide, fun r hr' => ?_⟩
      have a5 := same_new (o := .lst (([1, 2 ^ m, 2 ^ m, 2 * 3 ^ m, 2 * 3 ^ m - 2 ^ m, 6 * 4 ^ m - 2 * 3 ^ m] : List Int).map V.int)) hr'
      refine ⟨_, _, .lst (SqL.of (a5 _ _ e1)) (dpInts _), .lst (SqL.of upd_same) (dpInts [1, 2 ^ m, 2 ^ m, 2 * 3 ^ m, 2 * 3 ^ m - 2 ^ m, 6 * 4 ^ m - 2 * 3 ^ m]), shaped_ints _, shaped_ints _, ?_⟩
      rw [ints_eqv]
      exact q _ (sm.trans a5)
end
end My
namespace My
open PySem PySem.Spec PyProof.Rows L2
open LamX (ExtN Tabs TabS TabB)
section
variable {X : Cx}
variable {CX : CXT} {k : Nat} {f : Addr} {fd : FuncData} {ps ks : List Str} {sp : Sp} {E : XK} {x : Str} {p pos : Pos} {kws : List Keyword} {tk : TA} {g : List Value → List Value → List Value} {gV : List V → List V → List V}
/-- f(k = v), keywords alone -/
theorem pe_callKw (F : FnOk X.prog X.w X.K X.mg X.base CX k f fd ps sp) (hr : Room k X.A) (hg : Gl X x) (hm : X.mg x = some (.ref f)) (hk : PySem.W.keepIn X.K (.ref f) = true) (hb : KBinds X.K fd ps ks g gV) (hx : Passes CX X E) (hkw : PK X kws tk)
    (hall : (backToKw pos (keywordEach kws X.env)).all (·.1.isSome) = true := by rfl) (hks : (backToKw pos (keywordEach kws X.env)).filterMap (·.1) = ks := by rfl) (hdb : (x == ("__debug__" : Str)) = false := by decide)
    (hpl : ((backTo pos (starEach [] X.env)).any (·.1) || (backToKw pos (keywordEach kws X.env)).any (·.1.isNone)) = false := by rfl) : PE X (.Call (.Name x p) [] kws pos) (tCallK sp gV E tNil tk) := by
  constructor
  intro pins s σ H Q I h
  refine wpAny_Call_Name_kw (ld_glob I hg hm (PySem.W.callWith_KW0 (h₀ := X.base) I.ok.mod.kin hk hall (thn (hkw.run pos pins s σ H _ I h) ?_) hpl) hdb)
  intro ws s2 hz
  obtain ⟨zs, H2, I2, rz, q2⟩ := hz
  refine ⟨I2.kIn, ?_⟩
  rw [hks]
  exact run_fnk (us := []) (vs := []) F hr hb hx I2 .nil rz q2
end
/-- keywords in the order turned about -/
abbrev g3 {α : Type} (us ws : List α) : List α := us ++ (us ++ (us ++ (us ++ ws.reverse)))
theorem vals_rev : ∀ {vs : List V} {us : List Value}, Vals vs us → Vals vs.reverse us.reverse := by
  intro vs us h
  induction h with
  | nil => exact .nil
  | cons r _ ih =>
    rw [List.reverse_cons, List.reverse_cons]
    exact ih.append (.cons r .nil)
theorem kw3 {K : PySem.W.Frag} {nm qual x y z : Str} {st : Stmt} {f : Addr} {fd : FuncData} (F : Fun K nm qual st f fd)
    (h : ∀ (kV doc pm : Value) (an : Option Addr) (cdv ct u v w : Value), bindArgs (PySem.W.fnOf nm qual (defArgs st) (defBody st) (defScope st) .none kV doc pm an cdv ct) ⟨[], [(z, u), (y, v), (x, w)]⟩ = pure [(x, w), (y, v), (z, u)]) : KBinds K fd [x, y, z] [z, y, x] g3 g3 := by
  obtain ⟨oc, od, kV, doc, pm, an, cdv, ct, osl, rfl, lk, hcd⟩ := F.ex
  refine ⟨fun s us ws _ hl => ?_, fun a b => a.append (a.append (a.append (a.append (vals_rev b))))⟩
  match us, ws, hl with
  | _ :: _, _, hl =>
    simp at hl
    omega
  | [], ws, hl =>
    have hl' : ws.length = 3 := by simpa using hl
    match ws, hl' with
    | [u, v, w], _ => exact .of_eq (h kV doc pm an cdv ct u v w)
theorem small_fine : ∀ (t : Fin 6) (f : Fin 4) (c : Fin 2), (PyData.int (waysM 9 [t.1, f.1, c.1] 3)).showable = true ∧ (PyData.int (waysM 9 [t.1, f.1, c.1] 3)).depth ≤ 8 ∧ (PyData.int (waysM 9 [t.1, f.1, c.1] 3)).shown.length ≤ 1000 := by decide +kernel
end My
namespace My
open PySem PySem.Spec PyProof.Rows L2
open LamX (ExtN Tabs TabS TabB)
abbrev nLaw : List Str := ["_law_script", "_law_pen_here", "_law_turn", "_law_things", "_law_fails", "_law_is_there", "_law_due"]
theorem scLaw : FnScope nLaw ["_law_script"] (defScope sLaw) := ⟨rfl, rfl, rfl, by decide +kernel, rfl, by decide +kernel, by decide +kernel⟩
abbrev PR : Program := PySem.Challenge.rw_layerseen_k39_how_many_classes.prog
abbrev XL (w : World) (K : PySem.W.Frag) (mg : Str → Option Value) (base : Heap) (fa : Addr) (cdv : Value) (s : Shared) (H0 : Hp) : Cx := (cxOf CX0 PR w K mg base nLaw "law" (defScope sLaw) fa cdv callerA [] s H0 E0).nox
theorem rd_kw {CZ : Addr} {E : XK} {t1 t2 t3 : TE} {σ : L2.St} {H : Hp} {Q : VK} (x y z : V) (h1 : ∀ R : VK, R x H → t1 σ H R) (h2 : ∀ R : VK, R y H → t2 σ H R) (h3 : ∀ R : VK, R z H → t3 σ H R) (q : spMany CZ [z, y, x] H Q E) : tCallK (spMany CZ) g3 E tNil (tCons t1 (tCons t2 (tCons t3 tNil))) σ H Q :=
  h1 _ (h2 _ (h3 _ q))
theorem rd_v3 {CZ : Addr} {E : XK} {σ : L2.St} {H : Hp} {Q : VK} {t f c : Nat} {b : Bool} (ht : σ[3]? = some (some (.int t))) (hf : σ[4]? = some (some (.int f))) (hc : σ[5]? = some (some (.int c))) (hb : decide (V.int (c : Int) = V.int 1) = b) (h1 : t ≤ 60) (h2 : f ≤ 60) (q : ∀ H', Same' H H' → Q (.int (manyM t f b)) H') :
    tCall (spMany CZ) [] E (tCons (tVar 3) (tCons (tVar 4) (tCons (tOp rEq (tVar 5) (tC (.int 1))) tNil))) σ H Q := by
  subst hb
  exact rd_call (.int t) (.int f) (.bl (decide (V.int (c : Int) = V.int 1))) (fun R r => ⟨_, ht, r⟩) (fun R r => ⟨_, hf, r⟩) (fun R r => ⟨_, hc, rfl, r⟩) (many_at t f rfl rfl h1 h2 q)
theorem rd_k3 {CZ : Addr} {E : XK} {σ : L2.St} {H : Hp} {Q : VK} {t f c : Nat} {b : Bool} (ht : σ[3]? = some (some (.int t))) (hf : σ[4]? = some (some (.int f))) (hc : σ[5]? = some (some (.int c))) (hb : decide (V.int (c : Int) = V.int 1) = b) (h1 : t ≤ 60) (h2 : f ≤ 60) (q : ∀ H', Same' H H' → Q (.int (manyM f t b)) H') :
    tCallK (spMany CZ) g3 E tNil (tCons (tOp rEq (tVar 5) (tC (.int 1))) (tCons (tVar 3) (tCons (tVar 4) tNil))) σ H Q := by
  subst hb
  exact rd_kw (.bl (decide (V.int (c : Int) = V.int 1))) (.int t) (.int f) (fun R r => ⟨_, hc, rfl, r⟩) (fun R r => ⟨_, ht, r⟩) (fun R r => ⟨_, hf, r⟩) (many_at f t rfl rfl h2 h1 q)
theorem fine_small {t f c : Nat} (ht : t < 6) (hf : f < 4) (hc : c < 2) : Fine (.int (waysM 9 [t, f, c] 3)) := by
  have h := small_fine ⟨t, ht⟩ ⟨f, hf⟩ ⟨c, hc⟩
  exact ⟨h.1, h.2.1, Nat.le_trans h.2.2 (by decide)⟩
structure Parts (w : World) (K : PySem.W.Frag) (mg : Str → Option Value) (base : Heap) (P0 CZ : Addr) (fE fD fM fW fG fF : Addr) (dE dD dM dW dG dF : FuncData) : Prop where
  T : Txt mg
  Fe : Fun K "_law_pen" "_law_pen" sPen fE dE
  be : Binds K dE ["_law_script"] []
  ge : mg "_law_pen" = some (.ref fE)
  Ge : FnOk PR w K mg base CX0 1 fE dE ["_law_script"] (spPen K)
  Fd : Fun K "_law_draw" "_law_draw" sDraw fD dD
  bd : Binds K dD ["_law_pen_here", "_law_many"] []
  gd : mg "_law_draw" = some (.ref fD)
  Gd : FnOk PR w K mg base CX0 1 fD dD ["_law_pen_here", "_law_many"] spDraw
  Fm : Fun K "many_classes" "many_classes" sMany fM dM
  bm : Binds K dM pMany []
  km : KBinds K dM pMany ["has_choice", "failures", "keeping"] g3 g3
  gm : mg "many_classes" = some (.ref fM)
  Gm : FnOk PR w K mg base (L2.CX PR w) 6 fM dM pMany (spMany CZ)
  Fw : Fun K "_law_ways" "_law_ways" sWays fW dW
  bw : Binds K dW ["_law_left", "_law_last"] []
  gw : mg "_law_ways" = some (.ref fW)
  Gw : FnOk PR w K mg base CX0 11 fW dW ["_law_left", "_law_last"] (spWays 9)
  Fg : Fun K "_law_great_right" "_law_great_right" sGreat fG dG
  bg : Binds K dG ["_law_many"] []
  gg : mg "_law_great_right" = some (.ref fG)
  Gg : FnOk PR w K mg base CX0 7 fG dG ["_law_many"] spGreat
  kf : PySem.W.keepIn K (.ref fF) = true
  bf : Binds K dF ["_law_pen_here"] []
  gf : mg "_law_refused_right" = some (.ref fF)
  Gf : FnG PR w K mg base CX0 10 fF dF ["_law_pen_here"] (spRef P0)
section
variable {w : World} {K : PySem.W.Frag} {mg : Str → Option Value} {base : Heap} {fa : Addr} {cdv : Value} {s : Shared} {H0 : Hp} {P0 CZ : Addr} {fE fD fM fW fG fF : Addr} {dE dD dM dW dG dF : FuncData}
theorem hrX : Room 13 (XL w K mg base fa cdv s H0).A := ⟨rfl, by show 1 + claimMargin + 1 + 3 * 13 + 5 < recursionLimit; decide +kernel, by show 4 + 3 + 16 * 13 + 200 < cLine; decide +kernel⟩
theorem hgX : (XL w K mg base fa cdv s H0).A.guards = some [] := rfl
def inL (i : Nat) : Stmt := (defBody sLaw).getD i (.Pass ⟨0, 0, 0, 0⟩)
def forBody (s : Stmt) : List Stmt := match s with
  | .For _ _ b .. => b
  | _ => []
theorem tab_nil {H : Hp} (h : H P0 = some (.tbl #[])) : Tabs (T1 P0) H := fun p hp => by
  rw [List.mem_singleton.mp hp]
  exact TabS.nil h
/-- one turn -/
theorem lp1 (Y : Parts w K mg base P0 CZ fE fD fM fW fG fF dE dD dM dW dG dF) : ∃ t, PSs (XL w K mg base fa cdv s H0) (forBody (inL 1)) t ∧ ∀ (p cc : Addr) (ns : List Int) (B : Int) (y0 y2 y3 y4 y5 y6 : Option V) (H : Hp) (D : Ends), PenAt H p cc ns B → B ≤ 900 → Tabs (T1 P0) H →
      (∀ y3 y4 y5 y6 H', PenAt H' p cc ns (B + 8) → Tabs (T1 P0) H' → D.nx [y0, some (.ref p), y2, y3, y4, y5, y6] H') → t D [y0, some (.ref p), y2, y3, y4, y5, y6] H := by
  have hu : (XL w K mg base fa cdv s H0).A.units + 64 < cLine := hrX.units
  refine ⟨_, pss_cons (ps_par3 (i := 3) (j := 4) (l := 5) rfl scLaw.nd rfl rfl rfl (by decide) (by decide) (by decide) rfl rfl rfl (pa_cons (pe_call Y.Gd (hrX.mono (by decide)) (by rfl) Y.gd Y.Fd.kp Y.bd .nil pass0 (pa_cons (pv 1) (pa_cons pe_int pa_nil))) (pa_cons (pe_call Y.Gd (hrX.mono (by decide)) (by rfl) Y.gd Y.Fd.kp Y.bd .nil pass0 (pa_cons (pv 1) (pa_cons pe_int pa_nil))) (pa_cons (pe_call Y.Gd (hrX.mono (by decide)) (by rfl) Y.gd Y.Fd.kp Y.bd .nil pass0 (pa_cons (pv 1) (pa_cons pe_int pa_nil))) pa_nil))) (by rfl))
    (pss_cons (ps_set (i := 6) scLaw.nd rfl (.inl rfl) (pe_call Y.Gw (hrX.mono (by decide)) (by rfl) Y.gw Y.Fw.kp Y.bw .nil pass0 (pa_cons (pe_lst (pa_cons (pv 3) (pa_cons (pv 4) (pa_cons (pv 5) pa_nil)))) (pa_cons pe_int pa_nil))))
    (pss_cons (ps_if (pt_cmpR op_ne (pe_callB (call_reprT hgX hu) (by rfl) Y.T.repr (by decide +kernel) (pa_cons (pe_call Y.Gm (hrX.mono (by decide)) (by rfl) Y.gm Y.Fm.kp Y.bm .nil passF (pa_cons (pv 3) (pa_cons (pv 4) (pa_cons (pe_cmpR op_eq (pv 5) pe_int (nomark _)) pa_nil)))) pa_nil))
        (pe_callB (call_reprT hgX hu) (by rfl) Y.T.repr (by decide +kernel) (pa_cons (pv 6) pa_nil)) (nomark _)) (pss_one (ps_ret pe_bl)) pss_nil)
    (pss_cons (ps_if (pt_cmpR op_ne (pe_callKw (ks := ["has_choice", "failures", "keeping"]) Y.Gm (hrX.mono (by decide)) (by rfl) Y.gm Y.Fm.kp Y.km passF (pk_cons (pe_cmpR op_eq (pv 5) pe_int (nomark _)) (pk_cons (pv 3) (pk_cons (pv 4) pk_nil)))) (pv 6) (nomark _)) (pss_one (ps_ret pe_bl)) pss_nil)
    (pss_one (ps_if (PW.pt (pw_or (pt_not (pt_val (pe_call Y.Gg (hrX.mono (by decide)) (by rfl) Y.gg Y.Fg.kp Y.bg .nil pass0 (pa_cons (pe_op op_add pe_int (pe_call Y.Gd (hrX.mono (by decide)) (by rfl) Y.gd Y.Fd.kp Y.bd .nil pass0 (pa_cons (pv 1) (pa_cons pe_int pa_nil)))) pa_nil))))
        (pw_or1 (pt_not (pt_val (pe_callG Y.Gf (hrX.mono (by decide)) hgX (by rfl) Y.gf Y.kf Y.bf .nil pass0 (pa_cons (pv 1) pa_nil))))))) (pss_one (ps_ret pe_bl)) pss_nil))))), ?_⟩
  intro p cc ns B y0 y2 y3 y4 y5 y6 H D PA hB tb q
  have nat_of : ∀ {d m : Int}, 0 ≤ d → d < m → ∃ k : Nat, d = (k : Int) := fun {d m} h _ => ⟨d.toNat, by omega⟩
  obtain ⟨b0, g0, hp0, _⟩ := PA.pen
  refine ⟨.ref p, rfl, p, cc, ns, B, 6, rfl, PA, by omega, by decide, by decide, fun d1 H1 h10 h11 PA1 off1 => ?_⟩
  obtain ⟨t, rfl⟩ := nat_of h10 h11
  have tb1 := tabs_off tb hp0 off1
  obtain ⟨b1, g1, hp1, _⟩ := PA1.pen
  refine ⟨.ref p, rfl, p, cc, ns, B + 1, 4, rfl, PA1, by omega, by decide, by decide, fun d2 H2 h20 h21 PA2 off2 => ?_⟩
  obtain ⟨f, rfl⟩ := nat_of h20 h21
  have tb2 := tabs_off tb1 hp1 off2
  obtain ⟨b2, g2, hp2, _⟩ := PA2.pen
  refine ⟨.ref p, rfl, p, cc, ns, B + 1 + 1, 2, rfl, PA2, by omega, by decide, by decide, fun d3 H3 h30 h31 PA3 off3 => ?_⟩
  obtain ⟨c, rfl⟩ := nat_of h30 h31
  have tb3 := tabs_off tb2 hp2 off3
  have ht : t < 6 := by omega
  have hf : f < 4 := by omega
  have hc : c < 2 := by omega
  obtain ⟨sm1, sm2⟩ := small_all ⟨t, ht⟩ ⟨f, hf⟩ ⟨c, hc⟩
  have db : decide (V.int (c : Int) = V.int 1) = decide (c = 1) := by
    by_cases e : c = 1
    · subst e; rfl
    · rw [decide_eq_false e, decide_eq_false (fun z => e (by injection z with z; omega))]
  have e1 : manyM t f (decide (c = 1)) = waysM 9 [t, f, c] 3 := sm1
  have e2 : manyM f t (decide (c = 1)) = waysM 9 [t, f, c] 3 := sm2
  refine ⟨_, _, _, rfl, _, rfl, _, rfl, _, rfl, by show 3 ≤ sizeLine; decide, fun l hl => ?_⟩
  have a1 := same_new (o := .lst [V.int t, .int f, .int c]) hl
  refine ⟨l, [t, f, c], 3, rfl, upd_same, rfl, ?_, by decide, by decide, fun H4 s4 => ?_⟩
  · show t + (f + (c + 0)) ≤ 9
    omega
  have s34 := a1.trans s4
  have fine := fine_small ht hf hc
  refine rd_v3 (t := t) (f := f) (c := c) rfl rfl rfl db (by omega) (by omega) fun H5 s5 => ?_
  rw [e1]
  refine ⟨_, _, rfl, .flat (.int _), fine, _, rfl, _, _, rfl, .flat (.int _), fine, rfl, false, by simp, iteF ?_⟩
  refine rd_k3 (t := t) (f := f) (c := c) rfl rfl rfl db (by omega) (by omega) fun H6 s6 => ?_
  rw [e2]
  have s36 := (s34.trans s5).trans s6
  have PA6 := PA3.keep s36
  refine ⟨_, rfl, rfl, false, by simp, iteF ?_⟩
  obtain ⟨b6, g6, hp6, _⟩ := PA6.pen
  refine ⟨.ref p, rfl, p, cc, ns, B + 1 + 1 + 1, 60, rfl, PA6, by omega, by decide, by decide, fun d4 H7 h40 h41 PA7 off7 => ?_⟩
  obtain ⟨m, rfl⟩ := nat_of h40 h41
  have tb7 := tabs_off (tb3.ext s36) hp6 off7
  refine ⟨1, m, rfl, rfl, 1 + m, ?_, by omega, by omega, fun H8 s8 => ⟨true, rfl, iteF ?_⟩⟩
  · show [V.int (1 + (m : Int))] ++ [] = [V.int ((1 + m : Nat) : Int)]
    rw [show ((1 + m : Nat) : Int) = 1 + (m : Int) by omega]
    rfl
  refine ⟨.ref p, rfl, p, cc, ns, B + 1 + 1 + 1 + 1, rfl, PA7.keep s8, by omega, tb7.ext s8, fun H9 PA9 tb9 => ⟨true, rfl, iteF ?_⟩⟩
  exact q _ _ _ _ H9 (PA9.more (by omega)) tb9
end
end My
namespace My
open PySem PySem.Spec PyProof.Rows L2
open LamX (ExtN Tabs TabS TabB)
theorem rd_cc {CZ : Addr} {E : XK} {σ : L2.St} {H : Hp} {Q : VK} {x y : Int} {b : Bool} (k f : Nat) (hx : x = (k : Int)) (hy : y = (f : Int)) (hk : k ≤ 60) (hf : f ≤ 60) (q : ∀ H', Same' H H' → Q (.int (manyM k f b)) H') :
    tCall (spMany CZ) [] E (tCons (tC (.int x)) (tCons (tC (.int y)) (tCons (tC (.bl b)) tNil))) σ H Q := rd_call (.int x) (.int y) (.bl b) (fun R r => r) (fun R r => r) (fun R r => r) (many_at k f hx hy hk hf q)
theorem rd_ifOp {r : R2} {ta tb : TE} {t1 t2 u : TS} {D : Ends} {σ : L2.St} {H : Hp} (h : ta σ H fun x H1 => tb σ H1 fun y H2 => r x y H2 fun z H3 => ∃ k, z = .bl k ∧ (if k = true then t1 { D with nx := fun σ' H' => u D σ' H' } σ H3 else t2 { D with nx := fun σ' H' => u D σ' H' } σ H3)) : tSeq (tIfS (tTest (tOp r ta tb)) t1 t2) u D σ H := h
theorem rd_retOp {r : R2} {ta tb : TE} {D : Ends} {σ : L2.St} {H : Hp} (h : ta σ H fun x H1 => tb σ H1 fun y H2 => r x y H2 D.rt) : tRet (tOp r ta tb) D σ H := h
theorem rd_lst3 {A B C : TE} {σ : L2.St} {H : Hp} {Q : VK} (h : A σ H fun x H1 => B σ H1 fun y H2 => C σ H2 fun z H3 => 3 ≤ sizeLine ∧ ∀ p, H3 p = none → Q (.ref p) (upd H3 p (.lst [x, y, z]))) : tLst (tCons A (tCons B (tCons C tNil))) σ H Q := h
theorem next_ {D : Ends} {σ : L2.St} {H : Hp} (h : D.nx σ H) : tNext D σ H := h
section
variable {w : World} {K : PySem.W.Frag} {mg : Str → Option Value} {base : Heap} {fa : Addr} {cdv : Value} {s : Shared} {H0 : Hp} {P0 CZ : Addr} {fE fD fM fW fG fF : Addr} {dE dD dM dW dG dF : FuncData}
/-- the last three statements -/
theorem lp2 (Y : Parts w K mg base P0 CZ fE fD fM fW fG fF dE dD dM dW dG dF) : ∃ t, PSs (XL w K mg base fa cdv s H0) ((defBody sLaw).drop 2) t ∧ ∀ (σ : L2.St) (H : Hp) (D : Ends), (∀ H', D.rt (.bl true) H') → t D σ H := by
  have hu : (XL w K mg base fa cdv s H0).A.units + 64 < cLine := hrX.units
  refine ⟨_, pss_cons (ps_if (pt_not (pt_val (pe_call Y.Gg (hrX.mono (by decide)) (by rfl) Y.gg Y.Fg.kp Y.bg .nil pass0 (pa_cons pe_int pa_nil)))) (pss_one (ps_ret pe_bl)) pss_nil)
    (pss_cons (ps_if (pt_cmpR (op_neD hu) (pe_lst (pa_cons (pe_call Y.Gm (hrX.mono (by decide)) (by rfl) Y.gm Y.Fm.kp Y.bm .nil passF (pa_cons pe_int (pa_cons pe_int (pa_cons pe_bl pa_nil)))) (pa_cons (pe_call Y.Gm (hrX.mono (by decide)) (by rfl) Y.gm Y.Fm.kp Y.bm .nil passF (pa_cons pe_int (pa_cons pe_int (pa_cons pe_bl pa_nil)))) (pa_cons (pe_call Y.Gm (hrX.mono (by decide)) (by rfl) Y.gm Y.Fm.kp Y.bm .nil passF (pa_cons pe_int (pa_cons pe_int (pa_cons pe_bl pa_nil)))) pa_nil))))
        (pe_lst (pa_cons pe_int (pa_cons pe_int (pa_cons pe_int pa_nil)))) (nomark _)) (pss_one (ps_ret pe_bl)) pss_nil)
    (pss_one (ps_ret (pe_cmpR (op_eqD hu) (pe_lst (pa_cons (pe_call Y.Gm (hrX.mono (by decide)) (by rfl) Y.gm Y.Fm.kp Y.bm .nil passF (pa_cons pe_int (pa_cons pe_int (pa_cons pe_bl pa_nil)))) (pa_cons (pe_call Y.Gm (hrX.mono (by decide)) (by rfl) Y.gm Y.Fm.kp Y.bm .nil passF (pa_cons pe_int (pa_cons pe_int (pa_cons pe_bl pa_nil)))) (pa_cons (pe_call Y.Gm (hrX.mono (by decide)) (by rfl) Y.gm Y.Fm.kp Y.bm .nil passF (pa_cons pe_int (pa_cons pe_int (pa_cons pe_bl pa_nil)))) pa_nil))))
        (pe_lst (pa_cons pe_int (pa_cons pe_int (pa_cons pe_int pa_nil)))) (nomark _))))), ?_⟩
  intro σ H D q
  obtain ⟨la, lb⟩ := last_all
  simp only [List.cons.injEq, and_true] at la lb
  obtain ⟨a1, a2, a3⟩ := la
  obtain ⟨b1, b2, b3⟩ := lb
  have z3 : (3 : Nat) ≤ sizeLine := by decide
  refine ⟨60, rfl, by decide, by decide, fun H1 s1 => ⟨true, rfl, iteF (next_ ?_)⟩⟩
  dsimp only
  refine rd_ifOp (rd_lst3 ?_)
  refine rd_cc (x := 4) (y := 4) 4 4 rfl rfl (by decide) (by decide) fun H2 s2 => ?_
  refine rd_cc (x := 5) (y := 5) 5 5 rfl rfl (by decide) (by decide) fun H3 s3 => ?_
  refine rd_cc (x := 6) (y := 6) 6 6 rfl rfl (by decide) (by decide) fun H4 s4 => ⟨z3, fun l1 hl1 => ?_⟩
  rw [a1, a2, a3]
  have c1 := same_new (o := .lst (([6902, 329462, 22934774] : List Int).map V.int)) hl1
  refine ⟨z3, fun l2 hl2 => ?_⟩
  have c2 := same_new (o := .lst (([6902, 329462, 22934774] : List Int).map V.int)) hl2
  refine ⟨_, _, .lst (SqL.of (c2 _ _ upd_same)) (dpInts [6902, 329462, 22934774]), .lst (SqL.of upd_same) (dpInts [6902, 329462, 22934774]), shaped_ints _, shaped_ints _, _, rfl, ?_⟩
  rw [ints_eqv]
  refine iteF (next_ ?_)
  dsimp only
  refine rd_retOp (rd_lst3 ?_)
  refine rd_cc (x := 0) (y := 0) 0 0 rfl rfl (by decide) (by decide) fun H5 s5 => ?_
  refine rd_cc (x := 0) (y := 0) 0 0 rfl rfl (by decide) (by decide) fun H6 s6 => ?_
  refine rd_cc (x := 3) (y := 3) 3 3 rfl rfl (by decide) (by decide) fun H7 s7 => ⟨z3, fun l3 hl3 => ?_⟩
  rw [b1, b2, b3]
  have c3 := same_new (o := .lst (([1, 1, 230] : List Int).map V.int)) hl3
  refine ⟨z3, fun l4 hl4 => ?_⟩
  have c4 := same_new (o := .lst (([1, 1, 230] : List Int).map V.int)) hl4
  refine ⟨_, _, .lst (SqL.of (c4 _ _ upd_same)) (dpInts [1, 1, 230]), .lst (SqL.of upd_same) (dpInts [1, 1, 230]), shaped_ints _, shaped_ints _, ?_⟩
  rw [ints_eqv]
  exact q _
theorem law_body {c : Addr} (Z : ∀ base : Heap, K.In base → base.Ns mainGlobals mg → TabB base mg c P0 → Parts w K mg base P0 CZ fE fD fM fW fG fF dE dD dM dW dG dF) :
    LawBodyT PySem.Challenge.rw_layerseen_k39_how_many_classes w K mg 63 nLaw "law" sLaw fa c P0 := by
  intro base hKb hNb TB cdv s H a ns hn hP hS
  have Y := Z base hKb hNb TB
  obtain ⟨t1, h1, q1⟩ := lp1 (fa := fa) (cdv := cdv) (s := s) (H0 := H) Y
  obtain ⟨t2, h2, q2⟩ := lp2 (fa := fa) (cdv := cdv) (s := s) (H0 := H) Y
  refine ⟨_, pss_cons (ps_set (i := 1) scLaw.nd rfl (.inl rfl) (pe_call Y.Ge (hrX.mono (by decide)) (by rfl) Y.ge Y.Fe.kp Y.be .nil pass0 (pa_cons (pv 0) pa_nil)))
    (pss_cons (ps_for PassesOwn.never rfl (pi_range1 (by rfl) Y.T.range (pa_cons pe_int pa_nil)) (pg_name (i := 2) scLaw.nd rfl (.inl rfl)) h1) h2), ?_⟩
  refine ⟨.ref a, rfl, a, ns, rfl, hS, hn, fun p cc H1 sm1 PA1 => ?_⟩
  have tb1 : Tabs (T1 P0) H1 := (tab_nil hP).ext sm1
  refine ⟨6, rfl, by decide, by decide, for_range (lo := 0) (n := 6) (fun i σ H' => ∃ y2 y3 y4 y5 y6 : Option V, σ = [some (.ref a), some (.ref p), y2, y3, y4, y5, y6] ∧ PenAt H' p cc ns (8 * (i : Int)) ∧ Tabs (T1 P0) H') ⟨none, none, none, none, none, rfl, PA1.more (by decide), tb1⟩ (fun i σ H2 hi hp => ?_) (fun σ H2 hp => ?_)⟩
  · obtain ⟨y2, y3, y4, y5, y6, rfl, PA2, tb2⟩ := hp
    refine q1 p cc ns (8 * (i : Int)) _ _ _ _ _ _ H2 _ PA2 (by omega) tb2 fun z3 z4 z5 z6 H3 PA3 tb3 => ?_
    exact ⟨_, z3, z4, z5, z6, rfl, PA3.more (by omega), tb3⟩
  · exact q2 σ H2 _ fun H3 => rfl
end
end My
namespace My
open PySem PySem.Spec PyProof.Rows L2
open LamX (ExtN Tabs TabS TabB)
/-! ### what is asked of the written part, decided at once -/
def clsB (K : PySem.W.Frag) (C : Addr) : Bool := PySem.W.plainGet K C Str.empty && (PySem.W.hasDictIn K C && (PySem.W.plainOver K C && (decide (PySem.W.findIn K (.ref C) "__setattr__" = some (some (.builtin "object.__setattr__"))) && (decide (PySem.W.findIn K (.ref C) "parted" = some none) && (decide (PySem.W.findIn K (.ref C) "known" = some none) && (PySem.W.makesIn K C && PySem.W.keepIn K (.ref C)))))))
def papB (K : PySem.W.Frag) (C : Addr) : Bool := ["NoneType", "bool", "int", "str"].all fun T => decide (PySem.W.kitOne K (.type T) (.ref C) = some false)
def objB (K : PySem.W.Frag) : Bool := decide (PySem.W.specialIn K (.builtin "object.__class__") "__get__" = some (some (.builtin "getset_descriptor.__get__"))) && decide (PySem.W.takesIn K (.builtin "object.__class__") = some true)
def excB (K : PySem.W.Frag) (CL C : Addr) : Bool := decide (PySem.W.findIn K (.ref C) "__getattribute__" = some (some (.builtin "BaseException.__getattribute__"))) && (decide (PySem.W.findIn K (.ref C) "__getattr__" = some none) && (decide (PySem.W.subIn K (.ref C) (.type "BaseException") = some true) && (PySem.W.hasDictIn K C
  && (decide (PySem.W.findIn K (.ref C) "__class__" = some (some (.builtin "object.__class__"))) && (decide (PySem.W.mroIn K C (.type "object") = some true) && (decide (PySem.W.findIn K (.ref C) "value" = some none) && (decide (PySem.W.exmOne K (.ref C) (.ref CL) = some true) && (decide (PySem.W.kitOne K (.ref C) (.ref C) = some true)
  && (decide (PySem.W.findIn K (.ref C) "__setattr__" = some (some (.builtin "object.__setattr__"))) && (decide (PySem.W.typeIn K (.ref C) = some (.type "type")) && PySem.W.keepIn K (.ref C)))))))))))
abbrev fdOf {K : PySem.W.Frag} {x q : Str} {st : Stmt} {f : Addr} {fd : FuncData} (_ : Fun K x q st f fd) : FuncData := fd
theorem cls_mk {K : PySem.W.Frag} {C : Addr} (h : clsB K C = true) : Cls K C ∧ NoAttr K C "parted" ∧ NoAttr K C "known" ∧ PySem.W.makesIn K C = true ∧ PySem.W.keepIn K (.ref C) = true := by
  unfold clsB at h
  simp only [Bool.and_eq_true, decide_eq_true_eq] at h
  obtain ⟨h1, h2, h3, h4, h5, h6, h7, h8⟩ := h
  exact ⟨⟨h1, h2, h3, h4⟩, h5, h6, h7, h8⟩
theorem pap_mk {K : PySem.W.Frag} {C : Addr} (h : papB K C = true) : ∀ T ∈ ["NoneType", "bool", "int", "str"], PySem.W.kitOne K (.type T) (.ref C) = some false := by
  unfold papB at h
  simp only [List.all_eq_true, decide_eq_true_eq] at h
  exact h
theorem exc_mk {K : PySem.W.Frag} {CL C : Addr} (hO : objB K = true) (h : excB K CL C = true) : EK K CL C ∧ PySem.W.findIn K (.ref C) "__setattr__" = some (some (.builtin "object.__setattr__")) ∧ PySem.W.typeIn K (.ref C) = some (.type "type") ∧ PySem.W.keepIn K (.ref C) = true := by
  unfold objB at hO
  unfold excB at h
  simp only [Bool.and_eq_true, decide_eq_true_eq] at hO h
  obtain ⟨o1, o2⟩ := hO
  obtain ⟨h1, h2, h3, h4, h5, h6, h7, h8, h9, h10, h11, h12⟩ := h
  exact ⟨⟨⟨h1, h2, h3, h4, h5, o1, o2, h6⟩, ⟨h1, h2, h3, h4⟩, h7, h8, h9⟩, h10, h11, h12⟩
theorem all_mk {w : World} {K : PySem.W.Frag} {h : Heap} {mg : Str → Option Value} {fa : Addr} (X : K.In h) (G : h.Ns mainGlobals mg) (hfa : mg "law" = some (.ref fa)) {TT : List Addr} (hT : ∀ P, P ∈ TT → h.get? P = some tab0)
    {f_T0 : Addr} {od_T0 an_T0 : Option Addr} {sl_T0 : Array (Option Value)} {oc_T0 kV_T0 dc_T0 pm_T0 cd_T0 ct_T0 : Value}
    {f_W : Addr} {od_W an_W : Option Addr} {sl_W : Array (Option Value)} {oc_W kV_W dc_W pm_W cd_W ct_W : Value}
    {f_X0 : Addr} {od_X0 an_X0 : Option Addr} {sl_X0 : Array (Option Value)} {oc_X0 kV_X0 dc_X0 pm_X0 cd_X0 ct_X0 : Value}
    {f_Y : Addr} {od_Y an_Y : Option Addr} {sl_Y : Array (Option Value)} {oc_Y kV_Y dc_Y pm_Y cd_Y ct_Y : Value}
    {f_mc : Addr} {od_mc an_mc : Option Addr} {sl_mc : Array (Option Value)} {oc_mc kV_mc dc_mc pm_mc cd_mc ct_mc : Value}
    {f_pe : Addr} {od_pe an_pe : Option Addr} {sl_pe : Array (Option Value)} {oc_pe kV_pe dc_pe pm_pe cd_pe ct_pe : Value}
    {f_dr : Addr} {od_dr an_dr : Option Addr} {sl_dr : Array (Option Value)} {oc_dr kV_dr dc_dr pm_dr cd_dr ct_dr : Value}
    {f_pi : Addr} {od_pi an_pi : Option Addr} {sl_pi : Array (Option Value)} {oc_pi kV_pi dc_pi pm_pi cd_pi ct_pi : Value}
    {f_pt : Addr} {od_pt an_pt : Option Addr} {sl_pt : Array (Option Value)} {oc_pt kV_pt dc_pt pm_pt cd_pt ct_pt : Value}
    {f_wa : Addr} {od_wa an_wa : Option Addr} {sl_wa : Array (Option Value)} {oc_wa kV_wa dc_wa pm_wa cd_wa ct_wa : Value}
    {f_he : Addr} {od_he an_he : Option Addr} {sl_he : Array (Option Value)} {oc_he kV_he dc_he pm_he cd_he ct_he : Value}
    {f_gr : Addr} {od_gr an_gr : Option Addr} {sl_gr : Array (Option Value)} {oc_gr kV_gr dc_gr pm_gr cd_gr ct_gr : Value}
    {f_re : Addr} {od_re an_re : Option Addr} {sl_re : Array (Option Value)} {oc_re kV_re dc_re pm_re  ct_re : Value}
    {f_la : Addr} {od_la an_la : Option Addr} {sl_la : Array (Option Value)} {oc_la kV_la dc_la pm_la cd_la ct_la : Value}
    {cC : Addr}
    {bP : Addr}
    {xZ : Addr}
    {xL : Addr}
    {f_iZ : Addr} {od_iZ an_iZ : Option Addr} {sl_iZ : Array (Option Value)} {oc_iZ kV_iZ dc_iZ pm_iZ cd_iZ ct_iZ : Value}
    {f_iC : Addr} {od_iC an_iC : Option Addr} {sl_iC : Array (Option Value)} {oc_iC kV_iC dc_iC pm_iC cd_iC ct_iC : Value}
    {f_nu : Addr} {od_nu an_nu : Option Addr} {sl_nu : Array (Option Value)} {oc_nu kV_nu dc_nu pm_nu cd_nu ct_nu : Value}
    {f_pa : Addr} {od_pa an_pa : Option Addr} {sl_pa : Array (Option Value)} {oc_pa kV_pa dc_pa pm_pa cd_pa ct_pa : Value}
    {f_tu : Addr} {od_tu an_tu : Option Addr} {sl_tu : Array (Option Value)} {oc_tu kV_tu dc_tu pm_tu cd_tu ct_tu : Value}
    {f_be : Addr} {od_be an_be : Option Addr} {sl_be : Array (Option Value)} {oc_be kV_be dc_be pm_be cd_be ct_be : Value}
    {cQ P0 : Addr} {t60 tth tfa tch : Tok} {odQ : Option Addr} {vsQ : Array Value} {slQ : Array (Option Value)} {oQ : Value}
    {nm_xZ q_xZ : Str} {N_xZ : Addr} {bs_xZ bm_xZ sub_xZ : List Value} {sn_xZ : List Str} {ab_xZ : Bool} {col_xZ : Option Bool} {dd_xZ : Option Addr} {k0_xZ k1_xZ k2_xZ k3_xZ k5_xZ : Option Value}
    (a_T0 : PySem.W.nsIn K mainGlobals "_parted_table" = some (some (.ref f_T0)))
    (l_T0 : K.lookup f_T0 = some ⟨oc_T0, od_T0, .func (PySem.W.fnOf "_parted_table" "_parted_table" (defArgs sTable) (defBody sTable) (defScope sTable) .none kV_T0 dc_T0 pm_T0 an_T0 (cd_T0) ct_T0), sl_T0⟩)
    (c_T0 : PySem.W.codeIn K cd_T0 "_parted_table" = true)
    (k_T0 : PySem.W.keepIn K (.ref f_T0) = true)
    (a_W : PySem.W.nsIn K mainGlobals "is_whole" = some (some (.ref f_W)))
    (l_W : K.lookup f_W = some ⟨oc_W, od_W, .func (PySem.W.fnOf "is_whole" "is_whole" (defArgs sWhole) (defBody sWhole) (defScope sWhole) .none kV_W dc_W pm_W an_W (cd_W) ct_W), sl_W⟩)
    (c_W : PySem.W.codeIn K cd_W "is_whole" = true)
    (k_W : PySem.W.keepIn K (.ref f_W) = true)
    (a_X0 : PySem.W.nsIn K mainGlobals "is_index" = some (some (.ref f_X0)))
    (l_X0 : K.lookup f_X0 = some ⟨oc_X0, od_X0, .func (PySem.W.fnOf "is_index" "is_index" (defArgs sIndex) (defBody sIndex) (defScope sIndex) .none kV_X0 dc_X0 pm_X0 an_X0 (cd_X0) ct_X0), sl_X0⟩)
    (c_X0 : PySem.W.codeIn K cd_X0 "is_index" = true)
    (k_X0 : PySem.W.keepIn K (.ref f_X0) = true)
    (a_Y : PySem.W.nsIn K mainGlobals "copied" = some (some (.ref f_Y)))
    (l_Y : K.lookup f_Y = some ⟨oc_Y, od_Y, .func (PySem.W.fnOf "copied" "copied" (defArgs sCopied) (defBody sCopied) (defScope sCopied) .none kV_Y dc_Y pm_Y an_Y (cd_Y) ct_Y), sl_Y⟩)
    (c_Y : PySem.W.codeIn K cd_Y "copied" = true)
    (k_Y : PySem.W.keepIn K (.ref f_Y) = true)
    (a_mc : PySem.W.nsIn K mainGlobals "many_classes" = some (some (.ref f_mc)))
    (l_mc : K.lookup f_mc = some ⟨oc_mc, od_mc, .func (PySem.W.fnOf "many_classes" "many_classes" (defArgs sMany) (defBody sMany) (defScope sMany) .none kV_mc dc_mc pm_mc an_mc (cd_mc) ct_mc), sl_mc⟩)
    (c_mc : PySem.W.codeIn K cd_mc "many_classes" = true)
    (k_mc : PySem.W.keepIn K (.ref f_mc) = true)
    (a_pe : PySem.W.nsIn K mainGlobals "_law_pen" = some (some (.ref f_pe)))
    (l_pe : K.lookup f_pe = some ⟨oc_pe, od_pe, .func (PySem.W.fnOf "_law_pen" "_law_pen" (defArgs sPen) (defBody sPen) (defScope sPen) .none kV_pe dc_pe pm_pe an_pe (cd_pe) ct_pe), sl_pe⟩)
    (c_pe : PySem.W.codeIn K cd_pe "_law_pen" = true)
    (k_pe : PySem.W.keepIn K (.ref f_pe) = true)
    (a_dr : PySem.W.nsIn K mainGlobals "_law_draw" = some (some (.ref f_dr)))
    (l_dr : K.lookup f_dr = some ⟨oc_dr, od_dr, .func (PySem.W.fnOf "_law_draw" "_law_draw" (defArgs sDraw) (defBody sDraw) (defScope sDraw) .none kV_dr dc_dr pm_dr an_dr (cd_dr) ct_dr), sl_dr⟩)
    (c_dr : PySem.W.codeIn K cd_dr "_law_draw" = true)
    (k_dr : PySem.W.keepIn K (.ref f_dr) = true)
    (a_pi : PySem.W.nsIn K mainGlobals "_law_pick" = some (some (.ref f_pi)))
    (l_pi : K.lookup f_pi = some ⟨oc_pi, od_pi, .func (PySem.W.fnOf "_law_pick" "_law_pick" (defArgs sPick) (defBody sPick) (defScope sPick) .none kV_pi dc_pi pm_pi an_pi (cd_pi) ct_pi), sl_pi⟩)
    (c_pi : PySem.W.codeIn K cd_pi "_law_pick" = true)
    (k_pi : PySem.W.keepIn K (.ref f_pi) = true)
    (a_pt : PySem.W.nsIn K mainGlobals "_law_parts" = some (some (.ref f_pt)))
    (l_pt : K.lookup f_pt = some ⟨oc_pt, od_pt, .func (PySem.W.fnOf "_law_parts" "_law_parts" (defArgs sParts) (defBody sParts) (defScope sParts) .none kV_pt dc_pt pm_pt an_pt (cd_pt) ct_pt), sl_pt⟩)
    (c_pt : PySem.W.codeIn K cd_pt "_law_parts" = true)
    (k_pt : PySem.W.keepIn K (.ref f_pt) = true)
    (a_wa : PySem.W.nsIn K mainGlobals "_law_ways" = some (some (.ref f_wa)))
    (l_wa : K.lookup f_wa = some ⟨oc_wa, od_wa, .func (PySem.W.fnOf "_law_ways" "_law_ways" (defArgs sWays) (defBody sWays) (defScope sWays) .none kV_wa dc_wa pm_wa an_wa (cd_wa) ct_wa), sl_wa⟩)
    (c_wa : PySem.W.codeIn K cd_wa "_law_ways" = true)
    (k_wa : PySem.W.keepIn K (.ref f_wa) = true)
    (a_he : PySem.W.nsIn K mainGlobals "_law_heard" = some (some (.ref f_he)))
    (l_he : K.lookup f_he = some ⟨oc_he, od_he, .func (PySem.W.fnOf "_law_heard" "_law_heard" (defArgs sHeard) (defBody sHeard) (defScope sHeard) .none kV_he dc_he pm_he an_he (cd_he) ct_he), sl_he⟩)
    (c_he : PySem.W.codeIn K cd_he "_law_heard" = true)
    (k_he : PySem.W.keepIn K (.ref f_he) = true)
    (a_gr : PySem.W.nsIn K mainGlobals "_law_great_right" = some (some (.ref f_gr)))
    (l_gr : K.lookup f_gr = some ⟨oc_gr, od_gr, .func (PySem.W.fnOf "_law_great_right" "_law_great_right" (defArgs sGreat) (defBody sGreat) (defScope sGreat) .none kV_gr dc_gr pm_gr an_gr (cd_gr) ct_gr), sl_gr⟩)
    (c_gr : PySem.W.codeIn K cd_gr "_law_great_right" = true)
    (k_gr : PySem.W.keepIn K (.ref f_gr) = true)
    (a_re : PySem.W.nsIn K mainGlobals "_law_refused_right" = some (some (.ref f_re)))
    (l_re : K.lookup f_re = some ⟨oc_re, od_re, .func (PySem.W.fnOf "_law_refused_right" "_law_refused_right" (defArgs sRefused) (defBody sRefused) (defScope sRefused) .none kV_re dc_re pm_re an_re (.ref cQ) ct_re), sl_re⟩)
    (c_re : PySem.W.codeIn K (.ref cQ) "_law_refused_right" = true)
    (k_re : PySem.W.keepIn K (.ref f_re) = true)
    (a_la : PySem.W.nsIn K mainGlobals "law" = some (some (.ref f_la)))
    (l_la : K.lookup f_la = some ⟨oc_la, od_la, .func (PySem.W.fnOf "law" "law" (defArgs sLaw) (defBody sLaw) (defScope sLaw) .none kV_la dc_la pm_la an_la (cd_la) ct_la), sl_la⟩)
    (c_la : PySem.W.codeIn K cd_la "law" = true)
    (k_la : PySem.W.keepIn K (.ref f_la) = true)
    (g_cC : PySem.W.nsIn K mainGlobals "Counts" = some (some (.ref cC)))
    (g_bP : PySem.W.nsIn K mainGlobals "Paper" = some (some (.ref bP)))
    (g_xZ : PySem.W.nsIn K mainGlobals "BadNumber" = some (some (.ref xZ)))
    (g_xL : PySem.W.nsIn K mainGlobals "LayerError" = some (some (.ref xL)))
    (m_iZ : PySem.W.findIn K (.ref xZ) "__init__" = some (some (.ref f_iZ)))
    (l_iZ : K.lookup f_iZ = some ⟨oc_iZ, od_iZ, .func (PySem.W.fnOf "__init__" "BadNumber.__init__" (defArgs sIniB) (defBody sIniB) (defScope sIniB) .none kV_iZ dc_iZ pm_iZ an_iZ (cd_iZ) ct_iZ), sl_iZ⟩)
    (c_iZ : PySem.W.codeIn K cd_iZ "BadNumber.__init__" = true)
    (k_iZ : PySem.W.keepIn K (.ref f_iZ) = true)
    (y_iZ : PySem.W.typeIn K (.ref f_iZ) = some (.type "function"))
    (n_iZ : PySem.W.isFn K (.ref f_iZ) = true)
    (m_iC : PySem.W.findIn K (.ref cC) "__init__" = some (some (.ref f_iC)))
    (l_iC : K.lookup f_iC = some ⟨oc_iC, od_iC, .func (PySem.W.fnOf "__init__" "Counts.__init__" (defArgs sCntI) (defBody sCntI) (defScope sCntI) .none kV_iC dc_iC pm_iC an_iC (cd_iC) ct_iC), sl_iC⟩)
    (c_iC : PySem.W.codeIn K cd_iC "Counts.__init__" = true)
    (k_iC : PySem.W.keepIn K (.ref f_iC) = true)
    (y_iC : PySem.W.typeIn K (.ref f_iC) = some (.type "function"))
    (n_iC : PySem.W.isFn K (.ref f_iC) = true)
    (m_nu : PySem.W.findIn K (.ref cC) "number" = some (some (.ref f_nu)))
    (l_nu : K.lookup f_nu = some ⟨oc_nu, od_nu, .func (PySem.W.fnOf "number" "Counts.number" (defArgs sNumber) (defBody sNumber) (defScope sNumber) .none kV_nu dc_nu pm_nu an_nu (cd_nu) ct_nu), sl_nu⟩)
    (c_nu : PySem.W.codeIn K cd_nu "Counts.number" = true)
    (k_nu : PySem.W.keepIn K (.ref f_nu) = true)
    (y_nu : PySem.W.typeIn K (.ref f_nu) = some (.type "function"))
    (n_nu : PySem.W.isFn K (.ref f_nu) = true)
    (m_pa : PySem.W.findIn K (.ref cC) "_parted_by_choice" = some (some (.ref f_pa)))
    (l_pa : K.lookup f_pa = some ⟨oc_pa, od_pa, .func (PySem.W.fnOf "_parted_by_choice" "Counts._parted_by_choice" (defArgs sParted) (defBody sParted) (defScope sParted) .none kV_pa dc_pa pm_pa an_pa (cd_pa) ct_pa), sl_pa⟩)
    (c_pa : PySem.W.codeIn K cd_pa "Counts._parted_by_choice" = true)
    (k_pa : PySem.W.keepIn K (.ref f_pa) = true)
    (y_pa : PySem.W.typeIn K (.ref f_pa) = some (.type "function"))
    (n_pa : PySem.W.isFn K (.ref f_pa) = true)
    (m_tu : PySem.W.findIn K (.ref cC) "_by_turns" = some (some (.ref f_tu)))
    (l_tu : K.lookup f_tu = some ⟨oc_tu, od_tu, .func (PySem.W.fnOf "_by_turns" "Counts._by_turns" (defArgs sTurns) (defBody sTurns) (defScope sTurns) .none kV_tu dc_tu pm_tu an_tu (cd_tu) ct_tu), sl_tu⟩)
    (c_tu : PySem.W.codeIn K cd_tu "Counts._by_turns" = true)
    (k_tu : PySem.W.keepIn K (.ref f_tu) = true)
    (y_tu : PySem.W.typeIn K (.ref f_tu) = some (.type "function"))
    (n_tu : PySem.W.isFn K (.ref f_tu) = true)
    (m_be : PySem.W.findIn K (.ref cC) "_begun" = some (some (.ref f_be)))
    (l_be : K.lookup f_be = some ⟨oc_be, od_be, .func (PySem.W.fnOf "_begun" "Counts._begun" (defArgs sBegun) (defBody sBegun) (defScope sBegun) .none kV_be dc_be pm_be an_be (cd_be) ct_be), sl_be⟩)
    (c_be : PySem.W.codeIn K cd_be "Counts._begun" = true)
    (k_be : PySem.W.keepIn K (.ref f_be) = true)
    (y_be : PySem.W.typeIn K (.ref f_be) = some (.type "function"))
    (n_be : PySem.W.isFn K (.ref f_be) = true)
    (lQ : K.lookup cQ = some ⟨oQ, odQ, .fields vsQ, slQ⟩)
    (pQ : vsQ[11]? = some (.ref P0))
    (hQ : PySem.W.codeHdIn K cQ P0 = true)
    (nQ : K.lookup P0 = none)
    (g60 : PySem.W.nsIn K mainGlobals "MOST_COUNTED" = some (some (.int 60 t60)))
    (gth : PySem.W.nsIn K mainGlobals "THINGS" = some (some (.str "things" tth)))
    (gfa : PySem.W.nsIn K mainGlobals "FAILURES" = some (some (.str "failures" tfa)))
    (gch : PySem.W.nsIn K mainGlobals "CHOICE" = some (some (.str "choice" tch)))
    (gco : PySem.W.nsIn K mainGlobals "comb" = some (some (.builtin "math.comb")))
    (z_int : PySem.W.nsIn K mainGlobals "int" = some none)
    (z_bool : PySem.W.nsIn K mainGlobals "bool" = some none)
    (z_len : PySem.W.nsIn K mainGlobals "len" = some none)
    (z_abs : PySem.W.nsIn K mainGlobals "abs" = some none)
    (z_list : PySem.W.nsIn K mainGlobals "list" = some none)
    (z_tuple : PySem.W.nsIn K mainGlobals "tuple" = some none)
    (z_dict : PySem.W.nsIn K mainGlobals "dict" = some none)
    (z_range : PySem.W.nsIn K mainGlobals "range" = some none)
    (z_isinstance : PySem.W.nsIn K mainGlobals "isinstance" = some none)
    (z_repr : PySem.W.nsIn K mainGlobals "repr" = some none)
    (z_sum : PySem.W.nsIn K mainGlobals "sum" = some none)
    (z_max : PySem.W.nsIn K mainGlobals "max" = some none)
    (z_enumerate : PySem.W.nsIn K mainGlobals "enumerate" = some none)
    (lo_xZ : K.lookup xZ = some (PySem.excClassObj nm_xZ q_xZ xZ N_xZ bs_xZ bm_xZ true sn_xZ sub_xZ ab_xZ col_xZ dd_xZ k0_xZ k1_xZ k2_xZ k3_xZ k5_xZ "ValueError.__new__"))
    (ve_xZ : PySem.HandSPX.refsVE bm_xZ = true)
    (hB : clsB K cC = true)
    (hP : papB K bP = true)
    (hXZ : excB K xL xZ = true)
    (hO : objB K = true)
    (mQ : P0 ∈ TT) :
    ∃ (fd : FuncData) (c P : Addr), h.get? P = some tab0 ∧ K.lookup P = none ∧ PySem.W.CodeHd h c P ∧ Fun K "law" "law" sLaw fa fd ∧ FnScope nLaw ["_law_script"] (defScope sLaw) ∧ (∀ (s : Shared) (u : Value), BindsTo s fd ⟨[u], []⟩ [("_law_script", u)]) ∧ LawBodyT PySem.Challenge.rw_layerseen_k39_how_many_classes w K mg 63 nLaw "law" sLaw fa c P := by
  have e := hfa.symm.trans (PySem.W.mg_of X G a_la)
  cases e
  have F_T0 := fun_mk (st := sTable) l_T0 c_T0 k_T0
  have F_W := fun_mk (st := sWhole) l_W c_W k_W
  have F_X0 := fun_mk (st := sIndex) l_X0 c_X0 k_X0
  have F_Y := fun_mk (st := sCopied) l_Y c_Y k_Y
  have F_mc := fun_mk (st := sMany) l_mc c_mc k_mc
  have F_pe := fun_mk (st := sPen) l_pe c_pe k_pe
  have F_dr := fun_mk (st := sDraw) l_dr c_dr k_dr
  have F_pi := fun_mk (st := sPick) l_pi c_pi k_pi
  have F_pt := fun_mk (st := sParts) l_pt c_pt k_pt
  have F_wa := fun_mk (st := sWays) l_wa c_wa k_wa
  have F_he := fun_mk (st := sHeard) l_he c_he k_he
  have F_gr := fun_mk (st := sGreat) l_gr c_gr k_gr
  have F_re := fun_mk (st := sRefused) l_re c_re k_re
  have F_la := fun_mk (st := sLaw) l_la c_la k_la
  have F_iZ := fun_mk (st := sIniB) l_iZ c_iZ k_iZ
  have F_iC := fun_mk (st := sCntI) l_iC c_iC k_iC
  have F_nu := fun_mk (st := sNumber) l_nu c_nu k_nu
  have F_pa := fun_mk (st := sParted) l_pa c_pa k_pa
  have F_tu := fun_mk (st := sTurns) l_tu c_tu k_tu
  have F_be := fun_mk (st := sBegun) l_be c_be k_be
  have B_T0 := F_T0.binds (ps := ["most"]) fun _ _ _ _ _ _ us hl => match us, hl with | [_], _ => rfl
  have B_W := F_W.binds (ps := ["value"]) fun _ _ _ _ _ _ us hl => match us, hl with | [_], _ => rfl
  have B_X0 := F_X0.binds (ps := ["value", "many"]) fun _ _ _ _ _ _ us hl => match us, hl with | [_, _], _ => rfl
  have B_Y := F_Y.binds (ps := ["value"]) fun _ _ _ _ _ _ us hl => match us, hl with | [_], _ => rfl
  have B_mc := F_mc.binds (ps := ["keeping", "failures", "has_choice"]) fun _ _ _ _ _ _ us hl => match us, hl with | [_, _, _], _ => rfl
  have B_pe := F_pe.binds (ps := ["_law_script"]) fun _ _ _ _ _ _ us hl => match us, hl with | [_], _ => rfl
  have B_dr := F_dr.binds (ps := ["_law_pen_here", "_law_many"]) fun _ _ _ _ _ _ us hl => match us, hl with | [_, _], _ => rfl
  have B_pi := F_pi.binds (ps := ["_law_pen_here", "_law_some"]) fun _ _ _ _ _ _ us hl => match us, hl with | [_, _], _ => rfl
  have B_pt := F_pt.binds (ps := ["_law_number", "_law_part"]) fun _ _ _ _ _ _ us hl => match us, hl with | [_, _], _ => rfl
  have B_wa := F_wa.binds (ps := ["_law_left", "_law_last"]) fun _ _ _ _ _ _ us hl => match us, hl with | [_, _], _ => rfl
  have B_he := F_he.binds (ps := ["_law_ask"]) fun _ _ _ _ _ _ us hl => match us, hl with | [_], _ => rfl
  have B_gr := F_gr.binds (ps := ["_law_many"]) fun _ _ _ _ _ _ us hl => match us, hl with | [_], _ => rfl
  have B_re := F_re.binds (ps := ["_law_pen_here"]) fun _ _ _ _ _ _ us hl => match us, hl with | [_], _ => rfl
  have B_iZ := F_iZ.binds (ps := ["self", "value"]) fun _ _ _ _ _ _ us hl => match us, hl with | [_, _], _ => rfl
  have B_iC := F_iC.binds (ps := ["self", "most"]) fun _ _ _ _ _ _ us hl => match us, hl with | [_, _], _ => rfl
  have B_nu := F_nu.binds (ps := ["self", "things", "failures", "choices", "barred"]) fun _ _ _ _ _ _ us hl => match us, hl with | [_, _, _, _, _], _ => rfl
  have B_pa := F_pa.binds (ps := ["self", "things", "failures", "barred"]) fun _ _ _ _ _ _ us hl => match us, hl with | [_, _, _, _], _ => rfl
  have B_tu := F_tu.binds (ps := ["self", "things", "failures", "barred"]) fun _ _ _ _ _ _ us hl => match us, hl with | [_, _, _, _], _ => rfl
  have B_be := F_be.binds (ps := ["self", "first", "second"]) fun _ _ _ _ _ _ us hl => match us, hl with | [_, _, _], _ => rfl
  have T : Txt mg := ⟨PySem.W.mg_none_of X G z_int, PySem.W.mg_none_of X G z_bool, PySem.W.mg_none_of X G z_len, PySem.W.mg_none_of X G z_abs, PySem.W.mg_none_of X G z_list, PySem.W.mg_none_of X G z_tuple, PySem.W.mg_none_of X G z_dict, PySem.W.mg_none_of X G z_range, PySem.W.mg_none_of X G z_isinstance, PySem.W.mg_none_of X G z_repr, PySem.W.mg_none_of X G z_sum, PySem.W.mg_none_of X G z_max, PySem.W.mg_none_of X G z_enumerate, PySem.W.mg_of X G gco⟩
  have CT : CTxt mg := ⟨⟨_, PySem.W.mg_of X G gth⟩, ⟨_, PySem.W.mg_of X G gfa⟩, ⟨_, PySem.W.mg_of X G gch⟩⟩
  obtain ⟨k0, np0, nk0, mk0, kp0⟩ := cls_mk hB
  obtain ⟨eZ, saZ, tyZ, kpZ⟩ := exc_mk hO hXZ
  have CC : CCls K mg cC := ⟨PySem.W.mg_of X G g_cC, k0, np0, nk0⟩
  have NP : NoPap K mg bP := ⟨PySem.W.mg_of X G g_bP, pap_mk hP⟩
  have EZ : Err K mg "BadNumber" xZ f_iZ := ⟨PySem.W.mg_of X G g_xZ, ⟨⟨_, _, _, _, _, _, _, _, _, _, _, _, _, _, _, lo_xZ, ve_xZ⟩, saZ, eZ.ec.hs, tyZ, kpZ⟩, m_iZ, y_iZ, eZ.no⟩
  have MC : Mk K cC f_iC := ⟨mk0, m_iC, n_iC, kp0⟩
  have Mnu : Meth K cC "number" f_nu := ⟨m_nu, n_nu, k_nu⟩
  have Mpa : Meth K cC "_parted_by_choice" f_pa := ⟨m_pa, n_pa, k_pa⟩
  have Mtu : Meth K cC "_by_turns" f_tu := ⟨m_tu, n_tu, k_tu⟩
  have Mbe : Meth K cC "_begun" f_be := ⟨m_be, n_be, k_be⟩
  have KM := kw3 (x := "keeping") (y := "failures") (z := "has_choice") F_mc fun _ _ _ _ _ _ _ _ _ => rfl
  refine ⟨_, cQ, P0, hT _ mQ, nQ, PySem.W.codeHd_of_K X hQ, F_la, scLaw, fun s v => .of_eq rfl, ?_⟩
  refine law_body (CZ := xZ) (fE := f_pe) (fD := f_dr) (fM := f_mc) (fW := f_wa) (fG := f_gr) (fF := f_re) (dE := fdOf F_pe) (dD := fdOf F_dr) (dM := fdOf F_mc) (dW := fdOf F_wa) (dG := fdOf F_gr) (dF := fdOf F_re) fun base hKb hNb TB => ?_
  have Gcop : FnOk PR w K mg base CX0 2 f_Y _ ["value"] spCopied := ok_copied F_Y NP T B_Y (PySem.W.mg_of X G a_Y)
  have GiZ : FnOk PR w K mg base CX0 3 f_iZ _ ["self", "value"] (spIni K xZ) := ok_iniB F_iZ EZ.ox EZ.no F_Y B_Y (PySem.W.mg_of X G a_Y) Gcop
  have Gwh : FnOk PR w K mg base CX0 1 f_W _ ["value"] spWhole := ok_whole F_W T
  have Gix : FnOk PR w K mg base CX0 2 f_X0 _ ["value", "many"] spIndex := ok_index F_X0 F_W B_W (PySem.W.mg_of X G a_W) Gwh
  have Gtab : FnOk PR w K mg base CX0 1 f_T0 _ ["most"] spTable := ok_table F_T0 T
  have GiC : FnOk PR w K mg base CX0 2 f_iC _ ["self", "most"] (spCntI PR w cC) := ok_cntI F_iC CC F_T0 B_T0 (PySem.W.mg_of X G a_T0) Gtab
  have Gbe : FnOk PR w K mg base CX0 1 f_be _ ["self", "first", "second"] (spBegun cC) := ok_begun F_be CC T
  have Gtu : FnOk PR w K mg base CX0 2 f_tu _ ["self", "things", "failures", "barred"] (spTurns PR w cC) := ok_turns F_tu CC T CT Mbe B_be Gbe
  have Gn0 : FnOk PR w K mg base CX0 3 f_nu _ pNum (spNum0 PR w cC) := ok_num0 F_nu CC T Mtu B_tu Gtu
  have Gpa : FnOk PR w K mg base CX0 4 f_pa _ pPar (spParted PR w cC) := ok_parted F_pa CC T CT Mnu B_nu Gn0
  have Gn1 : FnOk PR w K mg base CX0 5 f_nu _ pNum (spNum1 PR w cC) := ok_num1 F_nu CC T Mpa B_pa Gpa
  have Gmc : FnOk PR w K mg base (L2.CX PR w) 6 f_mc _ pMany (spMany xZ) := ok_many F_mc CC T (PySem.W.mg_of X G g60) F_X0 B_X0 (PySem.W.mg_of X G a_X0) Gix EZ B_iZ GiZ MC B_iC GiC Mnu B_nu Gn0 Gn1
  have Gpen : FnOk PR w K mg base CX0 1 f_pe _ ["_law_script"] (spPen K) := ok_pen F_pe T
  have Gdraw : FnOk PR w K mg base CX0 1 f_dr _ ["_law_pen_here", "_law_many"] spDraw := ok_draw F_dr T
  have Gpick : FnOk PR w K mg base CX0 2 f_pi _ ["_law_pen_here", "_law_some"] spPick := ok_pick F_pi T F_dr B_dr (PySem.W.mg_of X G a_dr) Gdraw
  have Gpt : FnOk PR w K mg base CX0 1 f_pt _ ["_law_number", "_law_part"] spParts := ok_parts F_pt T
  have Gwa : ∀ n, FnOk PR w K mg base CX0 (n + 2) f_wa (fdOf F_wa) ["_law_left", "_law_last"] (spWays n) := by
    intro n
    induction n with
    | zero => exact (ok_ways0 F_wa T).mono (by decide)
    | succ n ih => exact ok_ways1 F_wa T B_wa (PySem.W.mg_of X G a_wa) ih F_pt B_pt (PySem.W.mg_of X G a_pt) Gpt
  have Ggr : FnOk PR w K mg base CX0 7 f_gr _ ["_law_many"] spGreat := ok_great F_gr T F_mc B_mc (PySem.W.mg_of X G a_mc) Gmc
  have Gre := ok_refused (P := PR) (w := w) T TB F_he (PySem.W.mg_of X G a_he) (PySem.W.mg_of X G g_xZ) (PySem.W.mg_of X G g_xL) eZ F_mc B_mc (PySem.W.mg_of X G a_mc) Gmc l_re c_re F_pi B_pi (PySem.W.mg_of X G a_pi) Gpick F_dr B_dr (PySem.W.mg_of X G a_dr) Gdraw
  exact {
    T := T, Fe := F_pe, be := B_pe, ge := PySem.W.mg_of X G a_pe, Ge := Gpen, Fd := F_dr, bd := B_dr, gd := PySem.W.mg_of X G a_dr, Gd := Gdraw,
    Fm := F_mc, bm := B_mc, km := KM, gm := PySem.W.mg_of X G a_mc, Gm := Gmc, Fw := F_wa, bw := B_wa, gw := PySem.W.mg_of X G a_wa, Gw := Gwa 9,
    Fg := F_gr, bg := B_gr, gg := PySem.W.mg_of X G a_gr, Gg := Ggr, kf := k_re, bf := B_re, gf := PySem.W.mg_of X G a_re, Gf := Gre }
end My
open PySem PySem.W PyProof.Rows
set_option maxHeartbeats 0 in
theorem PySem.Challenge.cw_layerseen_k39_how_many_classes_holds : PySem.Challenge.rw_layerseen_k39_how_many_classes.Holds := by
  w_on; o_law; k_head; (case hw => w_witness2)
  k_fill
  refine My.law_topT (l := PySem.Challenge.rw_layerseen_k39_how_many_classes) (n := 63) (N := My.nLaw) (x := "_law_script") (nm := "law") (qual := "law") (st := My.sLaw) rfl (by decide) rfl (fun w h Y => PySem.W.km_in_of Y) ?Z
  case Z =>
    intro w mg fa h Y KX G hmg
    have hT8 := PySem.W.km_tabs_of Y
    refine' My.all_mk KX G hmg hT8 ?a_T0 ?l_T0 ?c_T0 ?k_T0 ?a_W ?l_W ?c_W ?k_W ?a_X0 ?l_X0 ?c_X0 ?k_X0 ?a_Y ?l_Y ?c_Y ?k_Y ?a_mc ?l_mc ?c_mc ?k_mc ?a_pe ?l_pe ?c_pe ?k_pe ?a_dr ?l_dr ?c_dr ?k_dr ?a_pi ?l_pi ?c_pi ?k_pi ?a_pt ?l_pt ?c_pt ?k_pt ?a_wa ?l_wa ?c_wa ?k_wa ?a_he ?l_he ?c_he ?k_he ?a_gr ?l_gr ?c_gr ?k_gr ?a_re ?l_re ?c_re ?k_re ?a_la ?l_la ?c_la ?k_la ?g_cC ?g_bP ?g_xZ ?g_xL ?m_iZ ?l_iZ ?c_iZ ?k_iZ ?y_iZ ?n_iZ ?m_iC ?l_iC ?c_iC ?k_iC ?y_iC ?n_iC ?m_nu ?l_nu ?c_nu ?k_nu ?y_nu ?n_nu ?m_pa ?l_pa ?c_pa ?k_pa ?y_pa ?n_pa ?m_tu ?l_tu ?c_tu ?k_tu ?y_tu ?n_tu ?m_be ?l_be ?c_be ?k_be ?y_be ?n_be ?lQ ?pQ ?hQ ?nQ ?g60 ?gth ?gfa ?gch ?gco ?z_int ?z_bool ?z_len ?z_abs ?z_list ?z_tuple ?z_dict ?z_range ?z_isinstance ?z_repr ?z_sum ?z_max ?z_enumerate ?lo_xZ ?ve_xZ ?hB ?hP ?hXZ ?hO ?mQ
    (case a_T0 => k_is)
    (case l_T0 => k_is)
    (case c_T0 => k_is)
    (case k_T0 => k_is)
    (case a_W => k_is)
    (case l_W => k_is)
    (case c_W => k_is)
    (case k_W => k_is)
    (case a_X0 => k_is)
    (case l_X0 => k_is)
    (case c_X0 => k_is)
    (case k_X0 => k_is)
    (case a_Y => k_is)
    (case l_Y => k_is)
    (case c_Y => k_is)
    (case k_Y => k_is)
    (case a_mc => k_is)
    (case l_mc => k_is)
    (case c_mc => k_is)
    (case k_mc => k_is)
    (case a_pe => k_is)
    (case l_pe => k_is)
    (case c_pe => k_is)
    (case k_pe => k_is)
    (case a_dr => k_is)
    (case l_dr => k_is)
    (case c_dr => k_is)
    (case k_dr => k_is)
    (case a_pi => k_is)
    (case l_pi => k_is)
    (case c_pi => k_is)
    (case k_pi => k_is)
    (case a_pt => k_is)
    (case l_pt => k_is)
    (case c_pt => k_is)
    (case k_pt => k_is)
    (case a_wa => k_is)
    (case l_wa => k_is)
    (case c_wa => k_is)
    (case k_wa => k_is)
    (case a_he => k_is)
    (case l_he => k_is)
    (case c_he => k_is)
    (case k_he => k_is)
    (case a_gr => k_is)
    (case l_gr => k_is)
    (case c_gr => k_is)
    (case k_gr => k_is)
    (case a_re => k_is)
    (case l_re => k_is)
    (case c_re => k_is)
    (case k_re => k_is)
    (case a_la => k_is)
    (case l_la => k_is)
    (case c_la => k_is)
    (case k_la => k_is)
    (case g_cC => k_is)
    (case g_bP => k_is)
    (case g_xZ => k_is)
    (case g_xL => k_is)
    (case m_iZ => k_is)
    (case l_iZ => k_is)
    (case c_iZ => k_is)
    (case k_iZ => k_is)
    (case y_iZ => k_is)
    (case n_iZ => k_is)
    (case m_iC => k_is)
    (case l_iC => k_is)
    (case c_iC => k_is)
    (case k_iC => k_is)
    (case y_iC => k_is)
    (case n_iC => k_is)
    (case m_nu => k_is)
    (case l_nu => k_is)
    (case c_nu => k_is)
    (case k_nu => k_is)
    (case y_nu => k_is)
    (case n_nu => k_is)
    (case m_pa => k_is)
    (case l_pa => k_is)
    (case c_pa => k_is)
    (case k_pa => k_is)
    (case y_pa => k_is)
    (case n_pa => k_is)
    (case m_tu => k_is)
    (case l_tu => k_is)
    (case c_tu => k_is)
    (case k_tu => k_is)
    (case y_tu => k_is)
    (case n_tu => k_is)
    (case m_be => k_is)
    (case l_be => k_is)
    (case c_be => k_is)
    (case k_be => k_is)
    (case y_be => k_is)
    (case n_be => k_is)
    (case lQ => k_is)
    (case pQ => rfl)
    (case hQ => kernel_rfl)
    (case nQ => kernel_rfl)
    (case g60 => k_is)
    (case gth => k_is)
    (case gfa => k_is)
    (case gch => k_is)
    (case gco => k_is)
    (case z_int => k_is)
    (case z_bool => k_is)
    (case z_len => k_is)
    (case z_abs => k_is)
    (case z_list => k_is)
    (case z_tuple => k_is)
    (case z_dict => k_is)
    (case z_range => k_is)
    (case z_isinstance => k_is)
    (case z_repr => k_is)
    (case z_sum => k_is)
    (case z_max => k_is)
    (case z_enumerate => k_is)
    (case lo_xZ => k_is)
    (case ve_xZ => decide +kernel)
    (case hB => kernel_rfl)
    (case hP => kernel_rfl)
    (case hXZ => kernel_rfl)
    (case hO => kernel_rfl)
    (case mQ => first | exact List.Mem.head _ | decide)
