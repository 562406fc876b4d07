import PyProof.Rows.All
import Wide.All
import OpenK.AllK
import Wide.FinOn
import HandS.ForMost
import HandS.ForExc
import HandS.ExcIs
import HandS.ExcField
import KE.KExcIs
import HandS.IsInst
import KE.KCallOwn
import PyProof.InstNe
import HandS.RaiseMore
import HandS.DictComp
import HandS.Walk
import HandS.Iter
import HandS.Comp
import HandS.Text
import HandS.ExcInit
import HandS.ClsMeth
import HandS.FStr
import HandS.MakeKw
import HandS.MakeKwOnly
import HandS.Lambda
import HandS.EndTab
import PySem.Challenge.RW_layerseen_k14_handlers_made
set_option Elab.async false
set_option linter.all false
set_option maxRecDepth 100000
set_option maxHeartbeats 4000000

namespace My
open PySem PySem.Spec PyProof.Rows L2

/-- what the walk of the law's body has to give, the guards being known -/
def LawBody (l : PySem.W.OpenLaw) (w : World) (K : PySem.W.Frag) (mg : Str → Option Value) (n : Nat) (N : List Str) (qual : Str) (st : Stmt) (fa : Addr) : Prop :=
  ∀ base : Heap, K.In base → base.Ns mainGlobals mg → ∀ (cdv : Value) (s : Shared) (H : Hp) (a : Addr) (ns : List Int), ns.length ≤ n → Only H → SqL K H a (ns.map V.int) →
    ∃ t, PSs (cxOf CX0 l.prog w K mg base N qual (defScope st) fa cdv callerA [] s H E0).nox (defBody st) t ∧
      t { nx := fun _ _ => False, rt := fun v _ => v = .bl true } (start N [.ref a]) H

/-- one call of the law from an abstract heap -/
theorem enter {l : PySem.W.OpenLaw} {w : World} {K : PySem.W.Frag} {mg : Str → Option Value} {n : Nat} {N : List Str} {x nm qual : Str} {st : Stmt} {fa a : Addr} {fd : FuncData}
    {base : Heap} {s : Shared} {H : Hp} {ns : List Int}
    (F : Fun K nm qual st fa fd) (S : FnScope N [x] (defScope st)) (hb : ∀ (s : Shared) (u : Value), BindsTo s fd ⟨[u], []⟩ [(x, u)])
    (B : LawBody l w K mg n N qual st fa) (hKb : K.In base) (hNb : base.Ns mainGlobals mg) (hn : ns.length ≤ n) (hO : Only H) (hS : SqL K H a (ns.map V.int))
    (e0 : Env0 l.prog w K mg base callerA [] s H) :
    codeAny (model l.prog w) callerA (.call (.ref fa) ⟨[.ref a], []⟩)
      (fun r s' => r = .ok (.ret (.bool true)) ∧ ∃ H', s'.os = s.os ∧ AllBare s'.gens ∧ Un [] [] H H' s.heap s'.heap ∧ HOk l.prog w H' s'.heap) s := by
  obtain ⟨oc, od, kV, doc, pm, an, cdv, ct, osl, rfl, lk, hcd⟩ := F.ex
  have stays : ∀ b o, base.get? b = some o → s.heap.get? b = some o := fun b o z => (e0.bs b o z).1
  have KS : K.In s.heap := e0.mod.kin.keeps stays
  have NL : s.heap.NoLimit := e0.mod.nolimit.keeps stays
  have kinds : ∀ y ∈ [x].zip [Value.ref a], (defScope st).names.lookup y.1 = some .local ∨ ((defScope st).names.lookup y.1 = some .cell ∧ ((cellsFrom (s.heap.objs.size + 1) (defScope st).names []).lookup y.1).isSome = true) := by
    intro y hy
    obtain rfl : y = (x, Value.ref a) := List.mem_singleton.mp hy
    cases S.par x (List.mem_singleton.mpr rfl) with
    | inl q => exact .inl q
    | inr q => exact .inr ⟨q, PySem.W.cellsFrom_some _ _ _ (.inl q)⟩
  refine codeAny_call_function (by decide) (KS _ _ lk) rfl S.co S.gen rfl (PySem.W.codeRec_of KS hcd) (hb s (.ref a) _ _ _ _ ?_)
  refine wpAny_newFunctionEnv_cells S.kind kinds fun env he s2 ic => ?_
  subst he
  refine ⟨NL.keeps ic.toInCall.keep, codeAny_func ?_⟩
  obtain ⟨t, ht, hq⟩ := B base hKb hNb cdv s H a ns hn hO hS
  have J0 := inv_start (E := E0) (CX := CX0) S (show callerA.handled = none from rfl) e0 (vs := [.ref a]) (us := [.ref a]) rfl (.cons rfl .nil) ic
  refine wpAny_mono (ht.run [] s2 (start N [.ref a]) H _ (J0.wish _) hq) (fun fl s' hs => ?_) fun e s' hs => hs.elim
  cases fl with
  | ret u =>
    obtain ⟨v, σ', H', J, rv, q⟩ := hs
    subst q
    obtain rfl : u = Value.bool true := rv
    exact ⟨rfl, H', J.os, J.bare, J.base, J.hok⟩
  | next => exact (let ⟨_, _, _, q⟩ := hs; q).elim
  | brk => exact (let ⟨_, _, _, q⟩ := hs; q).elim
  | cont => exact (let ⟨_, _, _, q⟩ := hs; q).elim

/-- the object of the script, looked at through its abstract heap -/
def scriptHp (a : Addr) (vs : List Value) (ns : List Int) : Hp := fun b => if b = a then some (.frz { cls := .type "list", data := .seq vs.toArray } (.lst (ns.map V.int))) else none

/-- from one call in an abstract heap to the call that is asked for -/
theorem settle {l : PySem.W.OpenLaw} {w : World} {K : PySem.W.Frag} {mg mb : Str → Option Value} {n : Nat} {N : List Str} {x nm qual : Str} {st : Stmt} {fa a : Addr} {fd : FuncData} {s : Shared} {H : Hp} {ns : List Int} {vs : List Value}
    (KX : K.In s.heap) (hns : s.heap.Ns mainGlobals mg) (hb : s.heap.Ns builtinsNs mb) (hbb : ∀ x : Str, x ≠ "__name__" → mb x = bootBuiltins x) (hlim : s.heap.NoLimit) (hg : s.gens = #[])
    (ha : s.heap.get? a = some { cls := .type "list", data := .seq vs.toArray }) (hn : ns.length ≤ n)
    (F : Fun K nm qual st fa fd) (S : FnScope N [x] (defScope st)) (hbi : ∀ (s : Shared) (u : Value), BindsTo s fd ⟨[u], []⟩ [(x, u)]) (B : LawBody l w K mg n N qual st fa)
    (hO : Only H) (hS : SqL K H a (ns.map V.int)) (hok : HOk l.prog w H s.heap) (one : ∀ b, H b ≠ none → b = a) (out : H a ≠ none → K.lookup a = none) :
    codeAny (model l.prog w) callerA (.call (.ref fa) ⟨[.ref a], []⟩) (fun r s' => r = .ok (.ret (.bool true)) ∧ OldK s.heap s'.heap ∧ s'.os = s.os ∧ AllBare s'.gens) s := by
  have seen : ∀ {b : Addr} {o : Obj}, H b = none → s.heap.get? b = some o → (hidT s.heap H).get? b = some o := fun q e => hidT_get e q
  have free : ∀ {b : Addr} {o : Obj}, s.heap.get? b = some o → (∀ xs k, o.data ≠ .seq xs k) → H b = none := by
    intro b o e nd
    by_cases z : H b = none
    · exact z
    · have eb := one b z
      rw [eb, ha] at e
      injection e with e
      exact absurd (by rw [← e]) (nd vs.toArray 0)
  have names : ∀ {b : Addr} {m : Str → Option Value}, s.heap.Ns b m → (hidT s.heap H).Ns b m := by
    intro b m nb
    obtain ⟨o, es, ep, e, d, rest⟩ := nb
    exact ⟨o, es, ep, seen (free e fun xs k z => by rw [d] at z; injection z) e, d, rest⟩
  have KB : K.In (hidT s.heap H) := by
    intro b o e
    refine seen ?_ (KX b o e)
    by_cases z : H b = none
    · exact z
    · have eb := one b z
      subst eb
      rw [out z] at e
      injection e
  have E0' : Env0 l.prog w K mg (hidT s.heap H) callerA [] s H := by
    refine ⟨rfl, ⟨KB, names hns, ⟨mb, names hb, hbb⟩, ?_⟩, fun b o e => of_hidT e, Nat.le_of_eq (hidT_size _ _), trivial, ?_, hok, .of_eq hg⟩
    · obtain ⟨mc, c1, c2⟩ := hlim
      exact ⟨mc, names c1, c2⟩
    · intro b z
      exact absurd (show b ∈ ([] : List Addr) from z) List.not_mem_nil
  refine codeAny_mono (enter F S hbi B KB (names hns) hn hO hS E0') fun r s' h => ?_
  obtain ⟨e1, H', os, bare, un, hok'⟩ := h
  refine ⟨e1, OldK.of_keep fun b o e => ?_, os, bare⟩
  by_cases z : H b = none
  · exact un.keep b o e z (show b ∉ ([] : List Addr) from List.not_mem_nil) List.not_mem_nil
  · rcases hO b with y | ⟨ob, xs, y⟩
    · exact absurd y z
    · have g1 := (hok b _ y).1
      have g2 := (hok' b _ (un.frzs b ob _ y)).1
      rw [g1] at e
      injection e with e
      rw [← e]
      exact g2

/-- the goal that the head leaves, from the law's body walked with known guards -/
theorem law_top {l : PySem.W.OpenLaw} {n : Nat} {q : Program} {loose : List Str} {XP : (Str → Option Value) → Heap → Prop} {YP : World → Heap → Prop} {d : DefRec} {K : Params → PySem.W.Frag} {N : List Str} {x nm qual : Str} {st : Stmt}
    (hn : l.most = some n) (hn2 : n ≤ sizeLine) (hdf : d.params.defaults = []) (hY : ∀ (w : World) (h : Heap), YP w h → (K w.params).In h)
    (Z : ∀ (w : World) (mg : Str → Option Value) (fa : Addr) (h : Heap), (K w.params).In h → h.Ns mainGlobals mg → mg d.name = some (.ref fa) →
      ∃ fd : FuncData, Fun (K w.params) nm qual st fa fd ∧ FnScope N [x] (defScope st) ∧ (∀ (s : Shared) (u : Value), BindsTo s fd ⟨[u], []⟩ [(x, u)]) ∧ LawBody l w (K w.params) mg n N qual st fa) :
    PySem.W.WalkO q loose XP YP l.row.toRowW d [] (fun f vs => PySem.call f vs) := by
  refine Att.attach_call hn hdf ?_
  intro w s₀ s mg mb fa o pm cd doc a vs ns G Y ho hd hcd hmg hobj hints hlen hg
  have KX : (K w.params).In s.heap := hY w _ Y
  obtain ⟨fd, F, S, hbi, B⟩ := Z w mg fa _ KX G.T.g hmg
  have rv : Vals (ns.map V.int) vs := vals_ints hints
  have top : ns.length ≤ sizeLine := Nat.le_trans hlen hn2
  have plain := @settle l w (K w.params) mg mb n N x nm qual st fa a fd s
  cases hk : (K w.params).lookup a with
  | some u =>
    have e := KX a u hk
    rw [hobj] at e
    injection e with e
    subst e
    refine plain (H := fun _ => none) (ns := ns) (vs := vs) KX G.T.g G.T.b G.T.builtins G.T.nolimit hg hobj hlen F S hbi B (fun _ => .inl rfl) (.inr ⟨_, vs.toArray, _, hk, rfl, rfl, rfl, ?_, ?_⟩) (fun b u z => ?_) (fun b z => absurd rfl z) (fun z => absurd rfl z)
    · rw [List.size_toArray, hints.length]
      exact top
    · simpa using rv
    · injection z
  | none =>
    refine plain (H := scriptHp a vs ns) (ns := ns) (vs := vs) KX G.T.g G.T.b G.T.builtins G.T.nolimit hg hobj hlen F S hbi B (fun b => ?_) (.inl (.inr ⟨_, if_pos rfl⟩)) (fun b u z => ?_) (fun b z => ?_) (fun _ => hk)
    · by_cases eb : b = a
      · exact .inr ⟨_, _, if_pos eb⟩
      · exact .inl (if_neg eb)
    · by_cases eb : b = a
      · have y := (if_pos eb).symm.trans z
        injection y with y
        subst y
        subst eb
        exact ⟨hobj, by rw [List.length_map]; exact top, vs, _, rv, hobj⟩
      · have y := (if_neg eb).symm.trans z
        injection y
    · by_cases eb : b = a
      · exact eb
      · exact absurd (if_neg eb) z
end My
namespace My
open PySem PySem.Spec PyProof.Rows L2
/-- an exception of the class cls that was caught and is still held, its own dict at d -/
def KeptO (cls : Value) (d : Option Addr) (a : Addr) : HO := .ext fun h => ∃ oe vs, h.get? a = some oe ∧ Zc cls d oe ∧ oe.data = .fields vs
theorem kept_ok {P : Program} {w : World} {H : Hp} {h : Heap} {cls : Value} {d : Option Addr} {a : Addr} {oe : Obj} {vs : Array Value} (e : h.get? a = some oe) (z : Zc cls d oe) (f : oe.data = .fields vs) : ObjOk P w H h a (KeptO cls d a) :=
  ⟨⟨oe, vs, e, z, f⟩, ⟨oe, e⟩, fun _ _ ⟨o, v, q, r⟩ k => ⟨o, v, k o q, r⟩⟩
section
variable {X : Cx} {pins : List (Addr × Obj)} {σ : L2.St} {H : Hp} {s : Shared}
/-- an object of ours, made since the entry and not tracked so far, is tracked from now on -/
theorem track {a : Addr} {o : HO} (I : Inv X pins σ H s) (na : H a = none) (n0 : X.s_0.heap.get? a = none) (nL : a ≠ X.env.locals) (nC : ∀ x c, X.env.cells.lookup x = some c → c ≠ a) (nP : ∀ p ∈ X.pn ++ pins, p.1 ≠ a)
    (ok : ObjOk X.prog X.w (upd H a o) s.heap a o) : Inv X pins σ (upd H a o) s := by
  have far : ∀ {b : Addr} {u : HO}, H b = some u → b ≠ a := fun q z => by
    rw [z, na] at q
    cases q
  have up : ∀ {b : Addr} {u : HO}, H b = some u → (upd H a o) b = some u := fun q => by
    rw [upd_ne (far q)]
    exact q
  refine ⟨I.ok, I.os, I.bare, ⟨I.base.keep, I.base.slot, fun b u q n hx => ?_, I.base.there, fun b xs q => up (I.base.tups b xs q), fun b u xs q => up (I.base.frzs b u xs q), fun b ps q => ?_⟩, I.loc, I.cell, ?_, fun x c q => ?_, fun p hp => ?_, fun b u q => ?_, I.len⟩
  · have nb : b ≠ a := fun z => by
      rw [z, n0] at q
      cases q
    rw [upd_ne nb]
    exact I.base.free b u q n hx
  · obtain ⟨more, q1⟩ := I.base.tbls b ps q
    exact ⟨more, up q1⟩
  · rw [upd_ne (Ne.symm nL)]
    exact I.free
  · rw [upd_ne (nC x c q)]
    exact I.freeC x c q
  · obtain ⟨h1, h2, h3⟩ := I.pin p hp
    refine ⟨h1, ?_, h3⟩
    rw [upd_ne (nP p hp)]
    exact h2
  · by_cases hb : b = a
    · subst hb
      rw [upd_same] at q
      injection q with q
      subst q
      exact ok
    · rw [upd_ne hb] at q
      exact (I.hok b u q).stay (fun _ _ _ r => r) (fun _ r => up r) fun _ _ r => up r
end
/-- what `except x as n: suite` wishes of an exception of the body: slot i is n's; behind the suite the exception is held -/
def wKeep (K : PySem.W.Frag) (c : Value) (i : Nat) (ts : Addr → Value → Option Addr → TS) (D : Ends) : WX := fun cls d σ H =>
  PySem.W.exmOne K cls c = some true ∧ ∀ a, H a = none → ts a cls d { nx := fun σ' H' => D.nx (σ'.set i none) (upd H' a (KeptO cls d a)), rt := fun _ _ => False, bk := fun _ _ => False, ct := fun _ _ => False } (σ.set i (some (.ref a))) H
section
variable {X : Cx} {x n : Str} {c : Value} {i : Nat} {body suite : List Stmt} {b₀ : Stmt} {np pos pos' : Pos} {tb : WX → TS} {ts : Addr → Value → Option Addr → TS}
theorem ps_try_keep (hex : X.ex = []) (hs : X.stack = X.env :: X.outer) (hf : X.env.frame = some X.env.locals) (hN : X.N.Nodup) (hi : X.N[i]? = some n) (hln : X.env.kindOf n = some .local) (hc : Names X x c)
    (hb : ∀ (W : WX) (pn : List (Addr × Obj)) (xe : Value → Shared → Prop), Takes (X.tr pn xe) W → PassesOwn (model X.prog X.w) X.A X.env xe → PSs (X.tr pn xe) body (tb W))
    (hsu : ∀ (a : Addr) (oe : Obj) (cls : Value) (d : Option Addr) (pn : List (Addr × Obj)), Zc cls d oe → (∃ vs, oe.data = .fields vs) → PSs (X.suite a ((a, oe) :: pn)) (b₀ :: suite) (ts a cls d)) :
    PS X (.Try body [.ExceptHandler (some (.Name x np)) (some n) (b₀ :: suite) pos'] [] [] pos) (fun D σ H => tb (wKeep X.K c i ts D) D σ H) := by
  constructor
  intro pins s σ H D I h
  have ok := I.ok
  have hfr : X.A.frames = some (X.env :: X.outer) := by rw [ok.frames, hs]
  -- what the body's exceptions are told to
  have caught : Takes (X.tr (X.pn ++ pins) fun e s₁ => wpAny (model X.prog X.w) X.A (noteFrame e X.env) (fun _ s₂ => wpAny (model X.prog X.w) X.A (setFlight e none) (fun _ s₃ =>
      wpAny (model X.prog X.w) X.A (handleBy e X.env [.ExceptHandler (some (.Name x np)) (some n) (b₀ :: suite) pos']) (SP X pins D) X.xe s₃) X.xe s₂) X.xe s₁) (wKeep X.K c i ts D) := by
    intro u s' xx
    obtain ⟨a, B, sI, pins', σ', H', cls, d, rfl, J', nb, up, sky, na, os, ag, hm, go⟩ := xx
    have J : Inv X pins σ' H' sI := J'.ofTry ok
    rw [show (X.tr (X.pn ++ pins) _).stack = X.env :: X.outer from hs] at sky
    show wpAny (model X.prog X.w) X.A (noteFrame (.ref a) X.env) _ _ _
    refine Sky.land Zc.steady hfr hf sky fun h3 fl3 up3 => ?_
    have none_B : B.get? a = none := fl3.2.1
    obtain ⟨oe3, vs3, he3, hz3, hd3⟩ := fl3.there
    have J3 : Inv X pins σ' H' { s' with heap := h3 } := J.landed nb fl3.1 (up.trans up3) os ag
    have out : a ∉ frs (X.env :: X.outer) := by
      intro z
      obtain ⟨_, o, e1, e2⟩ := (fl3.2.2.1).mem z
      have e3 := he3.symm.trans e1
      injection e3 with e3
      exact e2 vs3 (e3 ▸ hd3)
    have nL : a ≠ X.env.locals := fun z => out (List.mem_filterMap.mpr ⟨X.env, List.mem_cons_self, by rw [hf, z]⟩)
    have nF : a ∉ X.fs := fun z => by
      obtain ⟨e, he, e1⟩ := List.mem_filterMap.mp z
      exact out (List.mem_filterMap.mpr ⟨e, List.mem_cons_of_mem _ he, e1⟩)
    have notI : ∀ o, sI.heap.get? a ≠ some o := fun o z => by
      have e1 := nb a o z (by rw [hs]; exact out)
      rw [none_B] at e1
      cases e1
    have n0 : X.s_0.heap.get? a = none := by
      cases z : X.s_0.heap.get? a with
      | none => rfl
      | some o =>
        obtain ⟨o', e1⟩ := J.base.there a o z (by rw [hex]; exact List.not_mem_nil)
        exact absurd e1 (notI o')
    have nP : ∀ p ∈ X.pn ++ pins, p.1 ≠ a := fun p hp z => notI p.2 (z ▸ (J.pin p hp).1)
    have nC : ∀ v cc, X.env.cells.lookup v = some cc → cc ≠ a := fun v cc q z => by
      obtain ⟨_, o, e1, e2⟩ := J3.cell v cc q
      have e3 : h3.get? cc = some o := e1
      rw [z, he3] at e3
      injection e3 with e3
      rw [← e3, hd3] at e2
      cases e2
    have S3 := J3.suite he3 hd3 na nL nF
    refine wpAny_handleBy_cons (codeAny_handlers_test ?_) (by intro q; cases q)
    have kind : PySem.W.Looks (model X.prog X.w) h3 (typeOf (.ref a)) cls := fun A Q E s k q => wpAny_typeOf_ref (k _ _ he3) (by rw [hz3.1]; exact q)
    have fits := PySem.W.exm_one (M := model X.prog X.w) J3.kIn kind hm
    have named : ∀ {Q : Value → Shared → Prop} {E : Value → Shared → Prop}, Q c { s' with heap := h3 } → wpAny (model X.prog X.w) (X.A.mark (some (.ref a))) (eval (.Name x np) X.env) Q E { s' with heap := h3 } := by
      intro Q E q
      obtain ⟨g, db, hx | ⟨hx, hv, hnn⟩⟩ := hc
      · exact ld_glob (X := X.suite a ((a, oe3) :: (X.pn ++ pins))) S3 g hx q db
      · exact ld_blt (X := X.suite a ((a, oe3) :: (X.pn ++ pins))) S3 g hx hv q hnn db
    refine named (fits.here (codeAny_handlers_suite_as (HandSPX.lands_againZ fl3 fun h4 fl4 up4 => ?_)))
    obtain ⟨oe4, vs4, he4, hz4, hd4⟩ := fl4.there
    have J4 : Inv X pins σ' H' { s' with heap := h4 } := J.landed nb fl4.1 ((up.trans up3).trans up4) os ag
    have S4 := J4.suite he4 hd4 na nL nF
    refine store_ok (X := X.suite a ((a, oe4) :: (X.pn ++ pins))) (v := .ref a) S4 hN hi (.inl hln) rfl (fun s5 S5 => ?_) (.inr hln)
    refine wpAny_mono ((hsu a oe4 cls d (X.pn ++ pins) hz4 ⟨_, hd4⟩).run [] s5 _ H' _ S5 (go a na)) (fun f s6 q => ?_) fun _ _ z => z.elim
    cases f with
    | brk => exact (let ⟨_, _, _, q⟩ := q; q).elim
    | cont => exact (let ⟨_, _, _, q⟩ := q; q).elim
    | ret u => exact (let ⟨_, _, _, _, _, q⟩ := q; q).elim
    | next =>
      obtain ⟨σ6, H6, S6, q6⟩ := q
      refine gone_ok (X := X.suite a ((a, oe4) :: (X.pn ++ pins))) S6 hN hi hln fun s7 S7 => ?_
      obtain ⟨e7, n7, _⟩ := S7.pin (a, oe4) (List.mem_append_left _ List.mem_cons_self)
      exact ⟨_, _, track (S7.unsuite ok) n7 n0 nL nC nP (kept_ok e7 hz4 hd4), q6⟩
  refine wpAny_Try_except (wpAny_mono ((hb (wKeep X.K c i ts D) (X.pn ++ pins) _ caught PassesOwn.looking).run [] s σ H D (I.toTry _) h) (fun f s1 q => ?_) fun e s1 q => q)
  cases f with
  | next => exact (let ⟨σ', H', J, q⟩ := q; wpAny_execs_nil ⟨σ', H', J.ofTry ok, q⟩)
  | brk => exact (let ⟨σ', H', J, q⟩ := q; ⟨σ', H', J.ofTry ok, q⟩)
  | cont => exact (let ⟨σ', H', J, q⟩ := q; ⟨σ', H', J.ofTry ok, q⟩)
  | ret u => exact (let ⟨v, σ', H', J, r, q⟩ := q; ⟨v, σ', H', J.ofTry ok, r, q⟩)
end
end My
namespace My
open PySem PySem.Spec PyProof.Rows L2
section
variable {X : Cx} {pins : List (Addr × Obj)} {σ : L2.St} {H : Hp} {s : Shared} {a C : Addr} {d : Option Addr}
/-- the held exception as the library's rules for instances want it; its own dict, if it has one, is tracked -/
theorem held_inst (I : Inv X pins σ H s) (h : H a = some (KeptO (.ref C) d a)) (hd : ∀ dd, d = some dd → ∃ fs, H dd = some (.xd fs)) : ∃ oe od, PySem.W.InstAt s.heap a oe C od := by
  obtain ⟨⟨oe, vs, e, z, f⟩, _, _⟩ := I.hok a _ h
  have plain : PySem.W.notCls oe = true := by
    unfold PySem.W.notCls
    rw [f] <;> rfl
  cases d with
  | none => exact ⟨oe, none, e, z.1, plain, by rw [z.2]; trivial⟩
  | some dd =>
    obtain ⟨fs, hx⟩ := hd dd rfl
    obtain ⟨mA, ns, _⟩ := (show ObjOk X.prog X.w H s.heap dd (.xd fs) from I.hok dd _ hx)
    obtain ⟨od, ho, _⟩ := lookIn_ns ns
    exact ⟨oe, some od, e, z.1, plain, by rw [z.2]; exact ho⟩
/-- isinstance(e, c), e an exception that is held, c an own class or a built-in one -/
def rHeldIs (K : PySem.W.Frag) : List V → Hp → VK → Prop := fun xs H Q => ∃ (a D : Addr) (d : Option Addr) (c : V) (u : Value) (b : Bool), xs = [.ref a, c] ∧ ClsV c u ∧ H a = some (KeptO (.ref D) d a) ∧ (∀ dd, d = some dd → ∃ fs, H dd = some (.xd fs)) ∧
  ExcC K D ∧ PySem.W.kitOne K (.ref D) u = some b ∧ Q (.bl b) H
theorem call_heldIs : CallR X (.builtin "isinstance") (rHeldIs X.K) := by
  intro pins s σ H xs us Q I r h
  obtain ⟨a, D, d, c, u, b, rfl, k, ha, hd, T, e, q⟩ := h
  obtain ⟨u1, u2, rfl, r1, r2⟩ := vals2 r
  cases r1
  have e2 := k.eq r2
  subst e2
  obtain ⟨oe, od, J⟩ := held_inst I ha hd
  have cls : (PySem.W.clsIn X.K D).isSome = true := by
    obtain ⟨cd, hc, _⟩ := PySem.W.any_some T.hd
    rw [hc] <;> rfl
  exact PySem.W.kia_one (PySem.W.kitx_exc cls T.hg T.hk T.hs T.ha T.hn T.ht T.hm) I.kIn J e (fun z => nomatch z) fun tk => ⟨.bl b, H, I.tok tk, rfl, q⟩
/-- e.f of a held exception -/
def tHeldF (K : PySem.W.Frag) (f : Str) (te : TE) : TE := fun σ H Q => te σ H fun x H1 => ∃ (a C dd : Addr) (fs : List (Str × V)) (v : V), x = .ref a ∧ H1 a = some (KeptO (.ref C) (some dd) a) ∧ H1 dd = some (.xd fs) ∧ XfC K C ∧ PySem.W.findIn K (.ref C) f = some none ∧ fs.lookup f = some v ∧ Q v H1
theorem pe_heldF {te : TE} {n : Str} {e : Expr} {pos : Pos} (he : PE X e te) (hb : attributeBase e n X.env (eval e X.env) = eval e X.env := by rfl) : PE X (.Attribute e n pos) (tHeldF X.K n te) := by
  constructor
  intro pins s σ H Q I h
  refine attr_of hb (thn (he.run pins s σ H _ I h) ?_)
  intro u s1 hu
  obtain ⟨x, H1, I1, rx, a, C, dd, fs, v, ex, ea, ed, T, hno, l, q⟩ := hu
  subst ex
  obtain rfl : u = Value.ref a := rx
  obtain ⟨⟨oe, vs, e1, z, f1⟩, _, _⟩ := I1.hok a _ ea
  obtain ⟨mA, ns, rel⟩ := (show ObjOk X.prog X.w H1 s1.heap dd (.xd fs) from I1.hok dd _ ed)
  obtain ⟨od, ho, hl⟩ := lookIn_ns ns
  obtain ⟨w, hw, rw'⟩ := RelO.some_of (v := v) (o := mA n) (by rw [← l]; exact rel n)
  have plain : PySem.W.notCls oe = true := by
    unfold PySem.W.notCls
    rw [f1] <;> rfl
  have J : PySem.W.InstAt s1.heap a oe C (some od) := ⟨e1, z.1, plain, by rw [z.2]; exact ho⟩
  exact HandSPX.exc_get I1.kIn J T.ga T.gg T.exC (PySem.W.findObj_own T.hdC hno rfl (by rw [hl, hw])) (handed_of rw') ⟨v, H1, I1.tok _, rw', q⟩
end
end My
namespace My
open PySem PySem.Spec PyProof.Rows L2
/-- a def's promise where it is known that no repr is under way -/
structure FnG (P : Program) (w : World) (K : PySem.W.Frag) (mg : Str → Option Value) (base : Heap) (CX : CXT) (k : Nat) (f : Addr) (fd : FuncData) (ps : List Str) (sp : Sp) : Prop where
  len : ∀ vs H Q E, sp vs H Q E → vs.length = ps.length
  run : ∀ (A : Around) (outer : List Env) (s : Shared) (H : Hp) (args : Args) (us : List Value) (vs : List V) (Q : VK) (E : XK), Room k A → A.guards = some [] → Env0 P w K mg base A outer s H → BindsTo s fd args (ps.zip us) → Vals vs us → sp vs H Q E →
    codeAny (model P w) A (.call (.ref f) args) (CR CX outer P w H s Q E) s
theorem toG {P : Program} {w : World} {K : PySem.W.Frag} {mg : Str → Option Value} {base : Heap} {CX : CXT} {k : Nat} {f : Addr} {fd : FuncData} {ps : List Str} {sp : Sp} (F : FnOk P w K mg base CX k f fd ps sp) : FnG P w K mg base CX k f fd ps sp :=
  ⟨F.len, fun A outer s H args us vs Q E r _ => F.run A outer s H args us vs Q E r⟩
section
variable {P : Program} {w : World} {K : PySem.W.Frag} {mg : Str → Option Value} {base : Heap}
/-- a def by its body, the guards known -/
theorem okG {CX : CXT} {x qual : Str} {st : Stmt} {f : Addr} {fd : FuncData} {N ps : List Str} {k : Nat} {sp : Sp} (F : Fun K x qual st f fd) (S : FnScope N ps (defScope st)) (len : ∀ vs H Q E, sp vs H Q E → vs.length = ps.length)
    (body : ∀ (cdv : Value) (A : Around) (outer : List Env) (s : Shared) (H : Hp) (vs : List V) (Q : VK) (E : XK), Room k (A.deeper (envOfC qual (defScope st) s.heap.objs.size f cdv)) → (A.deeper (envOfC qual (defScope st) s.heap.objs.size f cdv)).guards = some [] → sp vs H Q E →
      ∃ t, PSs (cxOf CX P w K mg base N qual (defScope st) f cdv A outer s H E) (defBody st) t ∧ t { nx := fun _ H' => Q .non H', rt := Q } (start N vs) H) : FnG P w K mg base CX (k + 1) f fd ps sp := by
  obtain ⟨oc, od, kV, doc, pm, an, cdv, ct, osl, rfl, lk, hcd⟩ := F.ex
  refine ⟨len, ?_⟩
  intro A outer s H args us vs Q E room guard e0 bind rel prom
  have stays : ∀ b o, base.get? b = some o → s.heap.get? b = some o := fun b o z => (e0.bs b o z).1
  have KS : K.In s.heap := e0.mod.kin.keeps stays
  have many := len _ _ _ _ prom
  have kinds : ∀ y ∈ ps.zip us, (defScope st).names.lookup y.1 = some .local ∨ ((defScope st).names.lookup y.1 = some .cell ∧ ((cellsFrom (s.heap.objs.size + 1) (defScope st).names []).lookup y.1).isSome = true) := by
    intro y hy
    cases S.par y.1 (List.of_mem_zip hy).1 with
    | inl q => exact .inl q
    | inr q => exact .inr ⟨q, PySem.W.cellsFrom_some _ _ _ (.inl q)⟩
  refine codeAny_call_function room.depth (KS _ _ lk) rfl S.co S.gen rfl (PySem.W.codeRec_of KS hcd) (bind _ _ _ _ ?_)
  refine wpAny_newFunctionEnv_cells S.kind kinds fun env he s2 ic => ?_
  subst he
  refine ⟨(e0.mod.nolimit.keeps stays).keeps ic.toInCall.keep, codeAny_func ?_⟩
  have guard' : (A.deeper (envOfC qual (defScope st) s.heap.objs.size f cdv)).guards = some [] := by
    obtain ⟨a1, a2, a3, a4, a5⟩ := A
    first | exact guard | simpa [Around.deeper, Code.guards, Code.isGuard, pushGuards, guardIds] using guard
  obtain ⟨t, ht, hq⟩ := body cdv A outer s H vs Q E (room.deeper _) guard' prom
  refine wpAny_mono (ht.run [] s2 (start N vs) H _ (inv_start S room.hd e0 many rel ic) hq) (fun fl s' hs => ?_) fun e s' hs => hs
  cases fl with
  | ret u => exact (let ⟨v, _, H', J, rv, q⟩ := hs; ⟨v, H', J.os, J.bare, J.base, J.hok, rv, q⟩)
  | next => exact (let ⟨_, H', J, q⟩ := hs; ⟨.non, H', J.os, J.bare, J.base, J.hok, rfl, q⟩)
  | brk => exact (let ⟨_, _, _, q⟩ := hs; q).elim
  | cont => exact (let ⟨_, _, _, q⟩ := hs; q).elim
end
section
variable {X : Cx} {CX : CXT} {k : Nat} {f : Addr} {fd : FuncData} {ps : List Str} {ds : List Value} {dvs : List V} {sp : Sp} {E : XK} {x : Str} {p pos : Pos} {e : Expr} {es : List Expr} {t : TA}
theorem runG {pins : List (Addr × Obj)} {σ : L2.St} {H : Hp} {s : Shared} {Q : VK} {us : List Value} {vs : List V} (F : FnG X.prog X.w X.K X.mg X.base CX k f fd ps sp) (hr : Room k X.A) (hg : X.A.guards = some []) (hb : Binds X.K fd ps ds) (hd : Vals dvs ds) (hx : Passes CX X E)
    (I : Inv X pins σ H s) (r : Vals vs us) (h : sp (vs ++ dvs) H Q E) : wpAny (model X.prog X.w) X.A (call (.ref f) us) (EP X pins σ Q) X.xe s := by
  have rel : Vals (vs ++ dvs) (us ++ ds) := r.append hd
  have many : (us ++ ds).length = ps.length := rel.length ▸ F.len _ _ _ _ h
  refine wpAny_call (codeAny_mono (F.run X.A X.stack s H ⟨us, []⟩ (us ++ ds) (vs ++ dvs) Q E hr hg I.env0 (hb s us I.kIn many) rel h) ?_)
  intro r s' hq
  match r, hq with
  | .error e, hq => exact hx pins σ H s e s' I hq
  | .ok (.ret u), hq => exact I.after hq
/-- f(e, ..) where it is known that no repr is under way -/
theorem pe_callG (F : FnG X.prog X.w X.K X.mg X.base CX k f fd ps sp) (hr : Room k X.A) (hgu : X.A.guards = some []) (hg : Gl X x) (hm : X.mg x = some (.ref f)) (hk : PySem.W.keepIn X.K (.ref f) = true) (hb : Binds X.K fd ps ds) (hd : Vals dvs ds) (hx : Passes CX X E)
    (ha : PA X (e :: es) t) (hdb : (x == ("__debug__" : Str)) = false := by decide) (he : starEach (e :: es) X.env = (false, eval e X.env) :: starEach es X.env := by rfl) (hpl : (backTo pos (starEach es X.env)).any (·.1) = false := by rfl) :
    PE X (.Call (.Name x p) (e :: es) [] pos) (tCall sp dvs E t) := by
  constructor
  intro pins s σ H Q I h
  refine wpAny_Call_Name_kw (ld_glob I hg hm (PySem.W.callWith_K (h₀ := X.base) I.ok.mod.kin hk (thn (ha.run pos pins s σ H _ I h) ?_) he hpl) hdb)
  intro us s1 hu
  obtain ⟨vs, H1, I1, r, q⟩ := hu
  exact ⟨I1.kIn, runG F hr hgu hb hd hx I1 r q⟩
/-- x == y where x is of an own class with an own __eq__ that answers True or False, y anything that is not of a class below x's -/
def rEqOwn (K : PySem.W.Frag) (C : Addr) (sp : Sp) (E : XK) : R2 := fun x y H Q => ∃ (a dx : Addr) (fs : List (Str × V)) (t : Value), x = .ref a ∧ H a = some (.ins C dx fs) ∧ TyX K H y t ∧ PySem.W.notFirst K C t = true ∧ sp [x, y] H (fun v H' => ∃ b, v = .bl b ∧ Q (.bl b) H') E
theorem op_eqOwn {C : Addr} (F : FnG X.prog X.w X.K X.mg X.base CX k f fd ps sp) (hr : Room k X.A) (hgu : X.A.guards = some []) (hs : PySem.W.findIn X.K (.ref C) "__eq__" = some (some (.ref f))) (hf : PySem.W.isFn X.K (.ref f) = true) (hb : Binds X.K fd ps []) (hx : Passes CX X E) :
    OpR X (compareOp .Eq) (rEqOwn X.K C sp E) := by
  intro pins s σ H x y v u Q I rx ry h
  obtain ⟨a, dx, fs, t, rfl, ha, ty, nf, q⟩ := h
  cases rx
  obtain ⟨mA, J, _⟩ := ins_get I.hok ha
  obtain ⟨od, J, _⟩ := J.look
  obtain ⟨m, hF⟩ := I.fr
  obtain ⟨Pp, Z, pz, _⟩ := kit_of I ry ty
  show wpAny (model X.prog X.w) X.A (richCompare .Eq (.ref a) u) (EP X pins σ Q) X.xe s
  refine PySem.W.cmp_K (op := .Eq) (tb := t) hr.units0 hF I.ok.mod.kin J (Z.ty _ _ I.kIn pz) nf hs hf ?_
  refine wpAny_mono (runG (vs := [.ref a, y]) (us := [.ref a, u]) (dvs := []) (ds := []) F hr hgu hb .nil hx I (.cons rfl (.cons ry .nil)) q) (fun r s' z => ?_) fun _ _ z => z
  obtain ⟨w1, H1, I1, r1, b, rfl, q1⟩ := z
  cases r1
  exact ⟨.bl b, H1, I1, rfl, q1⟩
end
end My
namespace My
open PySem PySem.Spec PyProof.Rows L2
section
variable {X : Cx} {CX : CXT} {k : Nat} {f : Addr} {fd : FuncData} {ps : List Str} {sp : Sp} {E : XK}
/-- a def called from within a built-in -/
theorem runAt {A : Around} {pins : List (Addr × Obj)} {σ : L2.St} {H : Hp} {s : Shared} {Q : VK} {us : List Value} {vs : List V} (F : FnG X.prog X.w X.K X.mg X.base CX k f fd ps sp) (hr : Room k A) (hg : A.guards = some []) (fr : A.frames = X.A.frames) (hb : Binds X.K fd ps []) (hx : Passes CX X E)
    (I : Inv X pins σ H s) (r : Vals vs us) (h : sp vs H Q E) : wpAny (model X.prog X.w) A (call (.ref f) us) (EP X pins σ Q) X.xe s := by
  have many : us.length = ps.length := r.length ▸ F.len _ _ _ _ h
  have e0 : Env0 X.prog X.w X.K X.mg X.base A X.stack s H := by
    obtain ⟨h1, h2, h3, h4, h5, h6, h7, h8⟩ := I.env0
    exact ⟨fr.trans h1, h2, h3, h4, h5, h6, h7, h8⟩
  have bind := hb s us I.kIn (by simpa using many)
  rw [List.append_nil] at bind
  refine wpAny_call (codeAny_mono (F.run A X.stack s H ⟨us, []⟩ us vs Q E hr hg e0 bind r h) ?_)
  intro r s' hq
  match r, hq with
  | .error e, hq => exact hx pins σ H s e s' I hq
  | .ok (.ret u), hq => exact I.after hq
/-- x != y where x is of an own class with an own __eq__ that answers True or False and without an own __ne__ -/
theorem op_neOwn {C : Addr} (F : FnG X.prog X.w X.K X.mg X.base CX k f fd ps sp) (hr : Room (k + 1) X.A) (hgu : X.A.guards = some []) (hs : PySem.W.findIn X.K (.ref C) "__eq__" = some (some (.ref f))) (hf : PySem.W.isFn X.K (.ref f) = true)
    (hn : PySem.W.findIn X.K (.ref C) "__ne__" = some (some (.builtin "object.__ne__"))) (hm : PySem.W.mroIn X.K C (.type "object") = some true) (hb : Binds X.K fd ps []) (hx : Passes CX X E) :
    OpR X (compareOp .NotEq) (fun x y H Q => rEqOwn X.K C sp E x y H fun v H' => ∃ b, v = .bl b ∧ Q (.bl (!b)) H') := by
  intro pins s σ H x y v u Q I rx ry h
  obtain ⟨a, dx, fs, t, rfl, ha, ty, nf, q⟩ := h
  cases rx
  obtain ⟨mA, J, _⟩ := ins_get I.hok ha
  obtain ⟨od, J, _⟩ := J.look
  obtain ⟨Pp, Z, pz, _⟩ := kit_of I ry ty
  have KS := I.kIn
  have own : wpAny (model X.prog X.w) X.A.in1 (callSpecialIfBound? (.ref a) "__eq__" [u]) (fun r s' => ∃ b, r = some (.bool b) ∧ EP X pins σ Q (.bool (!b)) s') X.xe s := by
    refine PySem.W.ifBound_K KS J hs hf (wpAny_mono (runAt (vs := [.ref a, y]) (us := [.ref a, u]) F hr.in1 hgu rfl hb hx I (.cons rfl (.cons ry .nil)) q) (fun r s' z => ?_) fun _ _ z => z)
    obtain ⟨w1, H1, I1, r1, b, rfl, b', e, q1⟩ := z
    cases r1
    cases e
    exact ⟨b, rfl, .bl (!b), H1, I1, rfl, q1⟩
  have entry : wpAny (model X.prog X.w) X.A.in1 (Builtin.«object.__ne__» ⟨[.ref a, u], []⟩) (fun r s' => ∃ b, r = .done (.ret (.bool (!b))) ∧ EP X pins σ Q (.bool (!b)) s') X.xe s := by
    unfold Builtin.«object.__ne__»
    refine wpAny_bind (wpAny_of_eq (a := ((Value.ref a : Value), [u])) (by first | rfl | (simp only [slotArgs]; rfl)) ?_)
    refine wpAny_bind (wpAny_cRoomFor hr.in1.units0 (wpAny_bind (wpAny_mono own (fun r s' z => ?_) fun _ _ z => z)))
    obtain ⟨b, rfl, ep⟩ := z
    exact wpAny_bind (wpAny_truthy_bool (wpAny_pure ⟨b, rfl, ep⟩))
  have slot : wpAny (model X.prog X.w) X.A (call (.builtin "object.__ne__") [.ref a, u]) (fun v s' => ∃ b, v = .bool b ∧ EP X pins σ Q (.bool b) s') X.xe s := by
    refine wpAny_call (codeAny_call_builtin PySem.F.cmp_object.ne.plain PySem.F.cmpEntry_ne (PySem.W.check_slot PySem.F.cmpKind_ne PySem.F.cmpSplit_ne (J.type.andThen (PySem.W.looks_mroIn KS hm)) (PySem.F.cmpArgs_ne _ _) (wpAny_mono entry (fun r s' z => ?_) fun _ _ z => z)))
    obtain ⟨b, rfl, ep⟩ := z
    exact ⟨!b, rfl, ep⟩
  have one : wpAny (model X.prog X.w) X.A (tryCompare (.ref a) "__ne__" u) (fun r s' => ∃ b, r = some (.bool b) ∧ EP X pins σ Q (.bool b) s') X.xe s := by
    unfold tryCompare
    have asked : wpAny (model X.prog X.w) X.A (callSpecialIfBound? (.ref a) "__ne__" [u]) (fun r s' => ∃ b, r = some (.bool b) ∧ EP X pins σ Q (.bool b) s') X.xe s := by
      have last : wpAny (model X.prog X.w) X.A (call (.builtin "object.__ne__") ([.ref a] ++ [u]) >>= fun v => pure (some v)) (fun r s' => ∃ b, r = some (.bool b) ∧ EP X pins σ Q (.bool b) s') X.xe s :=
        wpAny_bind (wpAny_mono slot (fun v s' z => wpAny_pure (let ⟨b, e, ep⟩ := z; ⟨b, congrArg some e, ep⟩)) fun _ _ z => z)
      unfold callSpecialIfBound? bindSpecialIfBound?
      refine wpAny_holding (wpAny_bind (wpAny_bind (wpAny_bind (J.type.here ((PySem.W.looks_findIn KS hn).here (wpAny_bind (wpAny_askSetting (wpAny_ite ?_))))))))
      split
      · exact wpAny_bind (wpAny_of_eq (PySem.F.cmp_object.ne.bind _) (wpAny_pure last))
      · exact wpAny_tryCatch (wpAny_bind (wpAny_of_eq (PySem.F.cmp_object.ne.bind _) (wpAny_pure last)))
    refine wpAny_bind (wpAny_mono asked (fun r s' z => ?_) fun _ _ z => z)
    obtain ⟨b, rfl, ep⟩ := z
    exact wpAny_pure ⟨b, rfl, ep⟩
  show wpAny (model X.prog X.w) X.A (richCompare .NotEq (.ref a) u) (EP X pins σ Q) X.xe s
  unfold richCompare
  simp only [oneThing_ref]
  refine wpAny_holding (wpAny_bind (wpAny_cRoomFor hr.units0 (wpAny_bind (J.type.here (wpAny_bind ((Z.ty _ _ KS pz).here ?_))))))
  have fin : ∀ (rest : Option Value → Sem Value), (∀ b, rest (some (.bool b)) = pure (.bool b)) → wpAny (model X.prog X.w) X.A (tryCompare (.ref a) (cmpInfo CmpOp.NotEq).2.1 u >>= rest) (EP X pins σ Q) X.xe s := fun rest hrest => by
    refine wpAny_bind (wpAny_mono one (fun r s' z => ?_) fun _ _ z => z)
    obtain ⟨b, rfl, ep⟩ := z
    rw [hrest]
    exact wpAny_pure ep
  unfold PySem.W.notFirst at nf
  split
  · rename_i ne
    have sub : PySem.W.subIn X.K t (.ref C) = some false := by
      cases e : (t == Value.ref C) with
      | true =>
        rw [eq_of_beq e] at ne
        simp at ne
      | false =>
        rw [e, Bool.false_or] at nf
        exact eq_of_beq nf
    refine wpAny_bind ((PySem.W.looks_subIn KS sub).here ?_)
    simp only [Bool.false_eq_true, if_false]
    exact fin _ fun b => rfl
  · refine wpAny_bind (wpAny_pure ?_)
    simp only [Bool.false_eq_true, if_false]
    exact fin _ fun b => rfl
end
end My
namespace My
open PySem PySem.Spec PyProof.Rows L2
section
variable {X : Cx} {CX : CXT} {k : Nat} {f : Addr} {fd : FuncData} {ps : List Str} {sp : Sp} {E : XK}
/-- str(x), x of an own class with an own __str__ -/
theorem call_strOwn {C : Addr} (F : FnG X.prog X.w X.K X.mg X.base CX k f fd ps sp) (hr : Room (k + 2) X.A) (hgu : X.A.guards = some []) (hs : PySem.W.findIn X.K (.ref C) "__str__" = some (some (.ref f))) (hf : PySem.W.isFn X.K (.ref f) = true) (hb : Binds X.K fd ps []) (hx : Passes CX X E) :
    CallR X (.type "str") (fun xs H Q => ∃ (a dx : Addr) (fs : List (Str × V)), xs = [.ref a] ∧ H a = some (.ins C dx fs) ∧ sp [.ref a] H (fun v H' => ∃ z : Str, v = .str z ∧ Q (.str z) H') E) := by
  intro pins s σ H xs us Q I r h
  obtain ⟨a, dx, fs, rfl, ha, q⟩ := h
  obtain ⟨u, rfl, ru⟩ := vals1 r
  cases ru
  obtain ⟨mA, J, _⟩ := ins_get I.hok ha
  obtain ⟨od, J, _⟩ := J.look
  refine PySem.W.kso_call (Room.units0 (hr.in1.in1)) I.kIn J hs hf (wpAny_mono (runAt (vs := [.ref a]) (us := [.ref a]) F hr.in1.in1 hgu rfl hb hx I (.cons rfl .nil) q) (fun r s' z => ?_) fun _ _ z => z)
  obtain ⟨w1, H1, I1, r1, y, rfl, q1⟩ := z
  obtain ⟨t, rfl⟩ := r1
  exact ⟨.str y, H1, I1, ⟨t, rfl⟩, q1⟩
end
/-- a value without parts, and what it is -/
inductive Fl : V → PyData → Prop
  | non : Fl .non .none
  | bl (b : Bool) : Fl (.bl b) (.bool b)
  | int (i : Int) : Fl (.int i) (.int i)
  | str (x : Str) : Fl (.str x) (.str x)
/-- values without parts, and what they are -/
abbrev Fls : List V → List PyData → Prop := Paired Fl
/-- what a value is: without parts, a list or tuple of such, the dict without entries -/
inductive Th (H : Hp) : V → PyData → Prop
  | flat {x : V} {d : PyData} (h : Fl x d) : Th H x d
  | lst {a : Addr} {xs : List V} {ds : List PyData} (h : H a = some (.lst xs)) (k : Fls xs ds) (n : xs.length ≤ 1000) : Th H (.ref a) (.list ds)
  | tup {a : Addr} {xs : List V} {ds : List PyData} (h : H a = some (.tup xs)) (k : Fls xs ds) (n : xs.length ≤ 1000) : Th H (.ref a) (.tuple ds)
  | dct {a : Addr} (h : H a = some (.dK [])) : Th H (.ref a) (.dict [])
theorem Th.keep {H H' : Hp} {x : V} {d : PyData} (h : Th H x d) (k : ∀ b o, H b = some o → H' b = some o) : Th H' x d := by
  cases h with
  | flat h => exact .flat h
  | lst h r n => exact .lst (k _ _ h) r n
  | tup h r n => exact .tup (k _ _ h) r n
  | dct h => exact .dct (k _ _ h)
theorem fl_dp {K : PySem.W.Frag} {H : Hp} {x : V} {d : PyData} (h : Fl x d) : Dp K H x d := by
  cases h with
  | non => exact .non
  | bl b => exact .bl b
  | int i => exact .int i
  | str x => exact .str x
theorem fls_dp {K : PySem.W.Frag} {H : Hp} : ∀ {xs : List V} {ds : List PyData}, Fls xs ds → DpAll K H xs ds
  | _, _, .nil => .nil
  | _, _, .cons h r => .cons (fl_dp h) (fls_dp r)
theorem fls_noDict : ∀ {xs : List V} {ds : List PyData}, Fls xs ds → PyData.hasDictAll ds = false
  | _, _, .nil => rfl
  | _, _, .cons h r => by
    unfold PyData.hasDictAll
    rw [fls_noDict r]
    cases h <;> rfl
/-- what can be shown in bounds -/
structure Fine (d : PyData) : Prop where
  show_ : d.showable = true
  deep : d.depth ≤ 8
  size : d.shown.length ≤ sizeLine
section
variable {X : Cx}
theorem call_reprT (hg : X.A.guards = some []) (hu : X.A.units + 64 < cLine) : CallR X (.builtin "repr") (fun xs H Q => ∃ x d, xs = [x] ∧ Th H x d ∧ Fine d ∧ Q (.str d.shown) H) := by
  intro pins s σ H xs us Q I r h
  obtain ⟨x, d, rfl, th, fine, q⟩ := h
  obtain ⟨u, rfl, ru⟩ := vals1 r
  have fin : ∀ t tk, EP X pins σ Q (.str d.shown t) { s with toks := tk } := fun t tk => ⟨.str d.shown, H, I.tok tk, ⟨t, rfl⟩, q⟩
  have obj : ∀ a (as : List Addr), Reads s.heap (.ref a) d as → (d.hasDict = true → sysModules ∉ as) → wpAny (model X.prog X.w) X.A (call (.builtin "repr") [.ref a]) (EP X pins σ Q) X.xe s := fun a as rd nd =>
    repr_of_reads' rd fine.show_ nd hg (by have := fine.deep; omega) (fun _ _ e => e) (fun h' u tk hk => ⟨.str d.shown, H, I.kept hk, ⟨u, rfl⟩, q⟩) fine.size
  cases th with
  | flat h =>
    cases h with
    | non =>
      cases ru
      exact PySem.P.repr_of_none (fin _ _)
    | bl b =>
      cases ru
      exact PySem.P.repr_of_bool (by
        have e : (PyData.bool b).shown = if b then ("True" : Str) else "False" := by unfold PyData.shown; rfl
        rw [e] at fin
        cases b <;> exact fin _ _)
    | int i =>
      obtain ⟨t, rfl⟩ := ru
      have sm : i.natAbs.log2 < 1920 := by
        have z := fine.show_
        unfold PyData.showable at z
        exact of_decide_eq_true z
      exact PySem.P.repr_of_int sm (by
        have e : (PyData.int i).shown = (toString i : Str) := by unfold PyData.shown; rfl
        rw [e] at fin
        exact fin _ _)
    | str z =>
      obtain ⟨t, rfl⟩ := ru
      have e : (PyData.str z).shown = reprText z := by unfold PyData.shown; rfl
      have sz := fine.size
      rw [e] at fin sz
      exact PySem.P.repr_of_str (fin _ _) sz
  | @lst a xs ds h k n =>
    cases ru
    obtain ⟨as, rd⟩ := Dp.reads I _ _ _ (Dp.lst (K := X.K) (SqL.of h) (fls_dp k)) rfl
    refine obj a as rd (fun z => ?_)
    unfold PyData.hasDict at z
    rw [fls_noDict k] at z
    cases z
  | @tup a xs ds h k n =>
    cases ru
    obtain ⟨as, rd⟩ := Dp.reads I _ _ _ (Dp.tup (K := X.K) (SqT.of h) (fls_dp k)) rfl
    refine obj a as rd (fun z => ?_)
    unfold PyData.hasDict at z
    rw [fls_noDict k] at z
    cases z
  | @dct a h =>
    cases ru
    obtain ⟨_, nsys, vs, kv, o, es, ep, ho, ex, hd, _, pr, _⟩ := dk_of I.hok h
    cases kv
    have es0 : es.toList = [] := by
      obtain ⟨l⟩ := es
      have pr' : PySem.Pairs _ l [] := pr
      cases l with
      | nil => rfl
      | cons _ _ => cases pr'
    refine obj a _ (Reads.dict (kvs := []) (as := []) (bs := []) ho ex.1 hd (by rw [es0]; exact .nil) (by rw [es0]; exact .nil)) (fun _ => ?_)
    simp only [List.append_nil, List.mem_singleton]
    intro z
    rw [z] at nsys
    simp at nsys
end
end My
namespace My
open PySem PySem.Spec PyProof.Rows L2
def topS (i : Nat) : Stmt := PySem.Challenge.pw_layerseen_k14_handlers_made.main.body.getD i (.Pass ⟨0, 0, 0, 0⟩)
abbrev sWhole : Stmt := topS 3
abbrev sCopied : Stmt := topS 4
abbrev sWord : Stmt := topS 14
abbrev sName : Stmt := topS 15
abbrev sCheck : Stmt := topS 16
abbrev sPen : Stmt := topS 30
abbrev sDraw : Stmt := topS 31
abbrev sPick : Stmt := topS 32
abbrev sRow : Stmt := topS 33
abbrev sMade : Stmt := topS 34
abbrev sFaces : Stmt := topS 35
abbrev sRight : Stmt := topS 36
abbrev sHeard : Stmt := topS 37
abbrev sRefused : Stmt := topS 38
abbrev sLaw : Stmt := topS 39
structure Txt (mg : Str → Option Value) : Prop where
  int : mg "int" = none
  bool : mg "bool" = none
  len : mg "len" = none
  abs : mg "abs" = none
  list : mg "list" = none
  tuple : mg "tuple" = none
  dict : mg "dict" = none
  range : mg "range" = none
  isi : mg "isinstance" = none
  str : mg "str" = none
  all : mg "all" = none
  repr : mg "repr" = none
  ve : mg "ValueError" = none
/-- no value without parts is a paper -/
structure NoPap (K : PySem.W.Frag) (mg : Str → Option Value) (C : Addr) : Prop where
  g : mg "Paper" = some (.ref C)
  kit : ∀ T ∈ ["NoneType", "bool", "int", "str"], PySem.W.kitOne K (.type T) (.ref C) = some false
theorem pe_never {X : Cx} {e : Expr} : PE X e (fun _ _ _ => False) := ⟨fun _ _ _ _ _ _ h => h.elim⟩
def Same' (H H' : Hp) : Prop := ∀ q o, H q = some o → H' q = some o
theorem Same'.trans {H1 H2 H3 : Hp} (h : Same' H1 H2) (k : Same' H2 H3) : Same' H1 H3 := fun b o e => k b o (h b o e)
theorem same_new {H : Hp} {p : Addr} {o : HO} (h : H p = none) : Same' H (upd H p o) := fun b x e => by
  rw [upd_ne (ne_of_none e h)]
  exact e
theorem same_over {H H1 : Hp} {p : Addr} {o : HO} (h : H p = none) (k : Same' H H1) : Same' H (upd H1 p o) := fun b x e => by
  rw [upd_ne (ne_of_none e h)]
  exact k _ _ e
theorem fl_not {K : PySem.W.Frag} {H : Hp} {x : V} {d : PyData} (h : Fl x d) (T : String) (hT : T = "list" ∨ T = "tuple" ∨ T = "dict") : ∃ S, TyX K H x (.type S) ∧ kitB S T = some false := by
  cases h with
  | non => exact ⟨"NoneType", .base .non, by rcases hT with rfl | rfl | rfl <;> decide +kernel⟩
  | bl b => exact ⟨"bool", .base (.bl b), by rcases hT with rfl | rfl | rfl <;> decide +kernel⟩
  | int i => exact ⟨"int", .base (.int i), by rcases hT with rfl | rfl | rfl <;> decide +kernel⟩
  | str z => exact ⟨"str", .base (.str z), by rcases hT with rfl | rfl | rfl <;> decide +kernel⟩
def spFlat : Sp := fun vs H Q _ => ∃ (x : V) (d : PyData), vs = [x] ∧ Fl x d ∧ Q x H
def spCopied : Sp := fun vs H Q _ => ∃ (x : V) (d : PyData), vs = [x] ∧ Th H x d ∧ ∀ y H', Same' H H' → Th H' y d → Q y H'
section
variable {P : Program} {w : World} {K : PySem.W.Frag} {mg : Str → Option Value} {base : Heap}
abbrev nCop : List Str := ["value", "item", "key"]
theorem scCop : FnScope nCop ["value"] (defScope sCopied) := ⟨rfl, rfl, rfl, by decide +kernel, rfl, by decide +kernel, by decide +kernel⟩
theorem fl_pap {C : Addr} {H : Hp} {x : V} {d : PyData} (N : NoPap K mg C) (h : Fl x d) : ∃ t, TyX K H x t ∧ PySem.W.kitOne K t (.ref C) = some false := by
  cases h with
  | non => exact ⟨_, .base .non, N.kit _ (by simp)⟩
  | bl b => exact ⟨_, .base (.bl b), N.kit _ (by simp)⟩
  | int i => exact ⟨_, .base (.int i), N.kit _ (by simp)⟩
  | str z => exact ⟨_, .base (.str z), N.kit _ (by simp)⟩
theorem ok_flat {f CP : Addr} {fd : FuncData} (F : Fun K "copied" "copied" sCopied f fd) (NP : NoPap K mg CP) (T : Txt mg) : FnOk P w K mg base CX0 1 f fd ["value"] spFlat := by
  refine F.ok scCop (fun vs H Q E h => ?_) (fun cdv A outer s H vs Q E hr h => ?_)
  · obtain ⟨x, d, rfl, _⟩ := h
    rfl
  · obtain ⟨x, d, rfl, fl, q⟩ := h
    refine ⟨_, pss_cons (ps_if (pt_val (pe_callB call_isi (by rfl) T.isi (by decide +kernel) (pa_cons (pv 0) (pa_cons (pe_bltn (by rfl) T.list (by decide +kernel) (show RelV (.ty "list") _ from rfl)) pa_nil)))) (pss_one ps_never) pss_nil)
      (pss_cons (ps_if (pt_val (pe_callB call_isi (by rfl) T.isi (by decide +kernel) (pa_cons (pv 0) (pa_cons (pe_bltn (by rfl) T.tuple (by decide +kernel) (show RelV (.ty "tuple") _ from rfl)) pa_nil)))) (pss_one ps_never) pss_nil)
      (pss_cons (ps_if (pt_val (pe_callB call_isi (by rfl) T.isi (by decide +kernel) (pa_cons (pv 0) (pa_cons (pe_bltn (by rfl) T.dict (by decide +kernel) (show RelV (.ty "dict") _ from rfl)) pa_nil)))) (pss_one ps_never) pss_nil)
      (pss_cons (ps_if (pt_val (pe_callB call_isi (by rfl) T.isi (by decide +kernel) (pa_cons (pv 0) (pa_cons (pe_glob (v := .ref CP) rfl NP.g rfl) pa_nil)))) (pss_one ps_never) pss_nil)
      (pss_one (ps_ret (pv 0)))))), ?_⟩
    obtain ⟨S1, t1, k1⟩ := fl_not (K := K) (H := H) fl "list" (by simp)
    obtain ⟨S2, t2, k2⟩ := fl_not (K := K) (H := H) fl "tuple" (by simp)
    obtain ⟨S3, t3, k3⟩ := fl_not (K := K) (H := H) fl "dict" (by simp)
    refine ⟨x, rfl, x, .ty "list", .type S1, .type "list", false, rfl, .ty "list", t1, kit_ty k1, false, rfl, iteF ?_⟩
    refine ⟨x, rfl, x, .ty "tuple", .type S2, .type "tuple", false, rfl, .ty "tuple", t2, kit_ty k2, false, rfl, iteF ?_⟩
    refine ⟨x, rfl, x, .ty "dict", .type S3, .type "dict", false, rfl, .ty "dict", t3, kit_ty k3, false, rfl, iteF ?_⟩
    obtain ⟨t4, ty4, k4⟩ := fl_pap (H := H) NP fl
    refine ⟨x, rfl, x, .ref CP, t4, .ref CP, false, rfl, .own _, ty4, k4, false, rfl, iteF ?_⟩
    exact ⟨x, rfl, q⟩
theorem fls_get : ∀ {xs : List V} {ds : List PyData} {i : Nat} {x : V}, Fls xs ds → xs[i]? = some x → ∃ d, Fl x d
  | _, _, _, _, .nil, h => by simp at h
  | _, _, 0, _, .cons h _, e => by
    simp at e
    subst e
    exact ⟨_, h⟩
  | _, _, i + 1, _, .cons _ r, e => fls_get (i := i) r (by simpa using e)
theorem ok_copied {f CP : Addr} {fd : FuncData} (F : Fun K "copied" "copied" sCopied f fd) (NP : NoPap K mg CP) (T : Txt mg) (b : Binds K fd ["value"] []) (g : mg "copied" = some (.ref f)) : FnOk P w K mg base CX0 2 f fd ["value"] spCopied := by
  have G : FnOk P w K mg base CX0 1 f fd ["value"] spFlat := ok_flat F NP T
  refine F.ok scCop (fun vs H Q E h => ?_) (fun cdv A outer s H vs Q E hr h => ?_)
  · obtain ⟨x, d, rfl, _⟩ := h
    rfl
  · obtain ⟨x, d, rfl, th, q⟩ := h
    refine ⟨_, pss_cons (ps_if (pt_val (pe_callB call_isi (by rfl) T.isi (by decide +kernel) (pa_cons (pv 0) (pa_cons (pe_bltn (by rfl) T.list (by decide +kernel) (show RelV (.ty "list") _ from rfl)) pa_nil))))
        (pss_one (ps_ret (pe_lc (own := [("item", 1)]) (g := gName 1) (tt := tYes) rfl scCop.nd (pi_list (pv 0)) (blkOk_by (N := nCop) (sc := defScope sCopied) (by decide +kernel)) (fun _ _ _ _ _ => pg_name (i := 1) scCop.nd rfl (Or.inl rfl)) (fun _ _ _ _ _ => pts_nil)
          (fun _ _ _ _ _ => pe_call G hr (by rfl) g F.kp b .nil pass0 (pa_cons (pv 1) pa_nil))))) pss_nil)
      (pss_cons (ps_if (pt_val (pe_callB call_isi (by rfl) T.isi (by decide +kernel) (pa_cons (pv 0) (pa_cons (pe_bltn (by rfl) T.tuple (by decide +kernel) (show RelV (.ty "tuple") _ from rfl)) pa_nil))))
        (pss_one (ps_ret (pe_callTy call_tuple_of (by rfl) T.tuple (by decide +kernel) (pa_cons (pe_lc (own := [("item", 1)]) (g := gName 1) (tt := tYes) rfl scCop.nd (pi_tup (pv 0)) (blkOk_by (N := nCop) (sc := defScope sCopied) (by decide +kernel)) (fun _ _ _ _ _ => pg_name (i := 1) scCop.nd rfl (Or.inl rfl)) (fun _ _ _ _ _ => pts_nil)
          (fun _ _ _ _ _ => pe_call G hr (by rfl) g F.kp b .nil pass0 (pa_cons (pv 1) pa_nil))) pa_nil)))) pss_nil)
      (pss_cons (ps_if (pt_val (pe_callB call_isi (by rfl) T.isi (by decide +kernel) (pa_cons (pv 0) (pa_cons (pe_bltn (by rfl) T.dict (by decide +kernel) (show RelV (.ty "dict") _ from rfl)) pa_nil))))
        (pss_one (ps_ret (pe_lock (pe_dc (own := [("key", 2)]) (g := gName 2) (tt := tYes) rfl scCop.nd (pi_keys (pv 0)) (blkOk_by (N := nCop) (sc := defScope sCopied) (by decide +kernel)) (fun _ _ _ _ _ => pg_name (i := 2) scCop.nd rfl (Or.inl rfl)) (fun _ _ _ _ _ => pts_nil)
          (fun _ _ _ _ _ => pe_never) (fun _ _ _ _ _ => pe_never))))) pss_nil)
      (pss_cons (ps_if (pt_val (pe_callB call_isi (by rfl) T.isi (by decide +kernel) (pa_cons (pv 0) (pa_cons (pe_glob (v := .ref CP) rfl NP.g rfl) pa_nil)))) (pss_one ps_never) pss_nil)
      (pss_one (ps_ret (pv 0)))))), ?_⟩
    cases th with
    | flat fl =>
      obtain ⟨S1, t1, k1⟩ := fl_not (K := K) (H := H) fl "list" (by simp)
      obtain ⟨S2, t2, k2⟩ := fl_not (K := K) (H := H) fl "tuple" (by simp)
      obtain ⟨S3, t3, k3⟩ := fl_not (K := K) (H := H) fl "dict" (by simp)
      refine ⟨x, rfl, x, .ty "list", .type S1, .type "list", false, rfl, .ty "list", t1, kit_ty k1, false, rfl, iteF ?_⟩
      refine ⟨x, rfl, x, .ty "tuple", .type S2, .type "tuple", false, rfl, .ty "tuple", t2, kit_ty k2, false, rfl, iteF ?_⟩
      refine ⟨x, rfl, x, .ty "dict", .type S3, .type "dict", false, rfl, .ty "dict", t3, kit_ty k3, false, rfl, iteF ?_⟩
      obtain ⟨t4, ty4, k4⟩ := fl_pap (H := H) NP fl
      refine ⟨x, rfl, x, .ref CP, t4, .ref CP, false, rfl, .own _, ty4, k4, false, rfl, iteF ?_⟩
      exact ⟨x, rfl, q x H (fun _ _ e => e) (.flat fl)⟩
    | @lst a xs ds h k n =>
      refine ⟨.ref a, rfl, .ref a, .ty "list", .type "list", .type "list", true, rfl, .ty "list", .base (.lst h), kit_ty (by decide +kernel), true, rfl, iteT ?_⟩
      refine ⟨.ref a, rfl, a, rfl, ⟨_, SqL.of h⟩, fun D hD => ?_⟩
      refine lc_list (K := K) (a := a) (xs := xs) (fun i H' => Same' H H' ∧ H' D = some (.lst (xs.take i))) ⟨same_new hD, upd_same⟩ (fun i H' _ hp => SqL.of (hp.1 _ _ h)) (fun i x H' hx hp => ?_) (fun H' hp => ?_)
      · obtain ⟨sm, ed⟩ := hp
        obtain ⟨d, fl⟩ := fls_get k hx
        refine ⟨rfl, ?_⟩
        refine ⟨x, rfl, x, d, rfl, fl, _, ed, ?_, same_over hD sm, ?_⟩
        · exact small1000 (by rw [List.length_take]; omega)
        · rw [upd_same, List.take_add_one, hx]
          rfl
      · obtain ⟨sm, ed⟩ := hp
        rw [List.take_length] at ed
        exact q _ _ sm (.lst ed k n)
    | @tup a xs ds h k n =>
      refine ⟨.ref a, rfl, .ref a, .ty "list", .type "tuple", .type "list", false, rfl, .ty "list", .base (.tup h), kit_ty (by decide +kernel), false, rfl, iteF ?_⟩
      refine ⟨.ref a, rfl, .ref a, .ty "tuple", .type "tuple", .type "tuple", true, rfl, .ty "tuple", .base (.tup h), kit_ty (by decide +kernel), true, rfl, iteT ?_⟩
      refine ⟨.ref a, rfl, a, rfl, ⟨_, SqT.of h⟩, fun D hD => ?_⟩
      refine lc_tup (K := K) (a := a) (xs := xs) (fun i H' => Same' H H' ∧ H' D = some (.lst (xs.take i))) ⟨same_new hD, upd_same⟩ (fun i H' _ hp => SqT.of (hp.1 _ _ h)) (fun i x H' hx hp => ?_) (fun H' hp => ?_)
      · obtain ⟨sm, ed⟩ := hp
        obtain ⟨d, fl⟩ := fls_get k hx
        refine ⟨rfl, ?_⟩
        refine ⟨x, rfl, x, d, rfl, fl, _, ed, ?_, same_over hD sm, ?_⟩
        · exact small1000 (by rw [List.length_take]; omega)
        · rw [upd_same, List.take_add_one, hx]
          rfl
      · obtain ⟨sm, ed⟩ := hp
        rw [List.take_length] at ed
        refine ⟨D, _, rfl, .inl ⟨SqL.of ed, fun l hl => ?_⟩⟩
        exact q _ _ (fun b o e => same_new hl b o (sm b o e)) (.tup upd_same k n)
    | @dct a h =>
      refine ⟨.ref a, rfl, .ref a, .ty "list", .type "dict", .type "list", false, rfl, .ty "list", .base (.dK h), kit_ty (by decide +kernel), false, rfl, iteF ?_⟩
      refine ⟨.ref a, rfl, .ref a, .ty "tuple", .type "dict", .type "tuple", false, rfl, .ty "tuple", .base (.dK h), kit_ty (by decide +kernel), false, rfl, iteF ?_⟩
      refine ⟨.ref a, rfl, .ref a, .ty "dict", .type "dict", .type "dict", true, rfl, .ty "dict", .base (.dK h), kit_ty (by decide +kernel), true, rfl, iteT ?_⟩
      refine ⟨a, .dK [], h, trivial, fun od => ⟨.ref a, rfl, a, od, rfl, .inl ⟨[], upd_same, fun D hD => ?_⟩⟩⟩
      have nDa : D ≠ a := fun z => by
        rw [z, upd_same] at hD
        cases hD
      have hD0 : H D = none := by
        rw [upd_ne nDa] at hD
        exact hD
      have atA : (upd (upd H a (.frz od (.dK []))) D (.dK [])) a = some (.frz od (.dK [])) := by rw [upd_ne (Ne.symm nDa), upd_same]
      refine ⟨fun i m H' => H' = upd (upd H a (.frz od (.dK []))) D (.dK []), ⟨0, rfl⟩, fun i m H' hw => .inl ?_⟩
      subst hw
      refine ⟨⟨atA, Nat.zero_le _⟩, atA, q _ _ (fun c o e => ?_) (.dct (by rw [upd_ne nDa, upd_same]))⟩
      by_cases hc : c = a
      · rw [hc, upd_same]
        rw [hc, h] at e
        exact e
      · rw [upd_ne hc, upd_ne (ne_of_none e hD0), upd_ne hc]
        exact e
end
end My
namespace My
open PySem PySem.Spec PyProof.Rows L2
/-! ### words and names, as they are said here -/
def low (c : Nat) : Bool := decide (97 ≤ c) && decide (c ≤ 122)
def wd (z : Str) : Bool := decide (1 ≤ z.length) && decide (z.length ≤ 8) && z.cps.toList.all low
def abc : Str := "abcdefghijklmnopqrstuvwxyz"
theorem low_abc (c : Nat) : decide (c ∈ abc.cps.toList) = low c := by
  have e : abc.cps.toList = [97, 98, 99, 100, 101, 102, 103, 104, 105, 106, 107, 108, 109, 110, 111, 112, 113, 114, 115, 116, 117, 118, 119, 120, 121, 122] := by decide +kernel
  rw [e]
  unfold low
  rw [← Bool.decide_and]
  apply decide_eq_decide.mpr
  simp only [List.mem_cons, List.not_mem_nil, or_false]
  omega
theorem sign_at {z : Str} {i : Nat} {c : Nat} (h : z.cps[i]? = some c) : z.cps.toList[i]? = some c := by simpa using h
/-- what is no text: None, a number, a truth, a tuple, a list, a dict -/
def NoText (K : PySem.W.Frag) (H : Hp) (x : V) : Prop := ∃ T : String, TyX K H x (.type T) ∧ kitB T "str" = some false
def spWord (K : PySem.W.Frag) (ans : Str → Bool) : Sp := fun vs H Q _ => ∃ x : V, vs = [x] ∧
  ((∃ z : Str, x = .str z ∧ z.length ≤ 1000 ∧ ∀ H', Same' H H' → Q (.bl (ans z)) H') ∨ (NoText K H x ∧ Q (.bl false) H))
def kept : List Str := ["put", "copy", "if", "else", "say", "fail", "catch", "choose", "or", "none", "stop", "skip", "cell", "log", "failure", "choice"]
def nm (z : Str) : Bool := wd z && !inV (.str z) (kept.map V.str)
section
variable {P : Program} {w : World} {K : PySem.W.Frag} {mg : Str → Option Value} {base : Heap}
abbrev nWord : List Str := ["value", "sign"]
theorem scWord : FnScope nWord ["value"] (defScope sWord) := ⟨rfl, rfl, rfl, by decide +kernel, rfl, by decide +kernel, by decide +kernel⟩
theorem ok_word {f : Addr} {fd : FuncData} {tl tn : Tok} (F : Fun K "is_word" "is_word" sWord f fd) (T : Txt mg) (mL : mg "LETTERS" = some (.str abc tl)) (mN : mg "LONGEST" = some (.int 8 tn)) : FnOk P w K mg base CX0 1 f fd ["value"] (spWord K wd) := by
  refine F.ok scWord (fun vs H Q E h => ?_) (fun cdv A outer s H vs Q E hr h => ?_)
  · obtain ⟨x, rfl, _⟩ := h
    rfl
  · obtain ⟨x, rfl, h⟩ := h
    refine ⟨_, pss_one (ps_ret (pe_and (pe_callB call_isi (by rfl) T.isi (by decide +kernel) (pa_cons (pv 0) (pa_cons (pe_bltn (by rfl) T.str (by decide +kernel) (show RelV (.ty "str") _ from rfl)) pa_nil)))
      (pe_and (pe_chain op_le op_le pe_int (pe_callB call_len_str (by rfl) T.len PySem.boot_len (pa_cons (pv 0) pa_nil)) (pe_glob (v := .int 8) rfl mN ⟨_, rfl⟩))
      (pe_one (pe_callB (cr_all rfl) (by rfl) T.all (by decide +kernel) (pa_cons
        (pe_lc (own := [("sign", 1)]) (g := gName 1) (tt := tYes) rfl scWord.nd (pi_str (pv 0)) (blkOk_by (N := nWord) (sc := defScope sWord) (by decide +kernel)) (fun _ _ _ _ _ => pg_name (i := 1) scWord.nd rfl (Or.inl rfl)) (fun _ _ _ _ _ => pts_nil)
          (fun _ _ _ _ _ => pe_cmpR op_in_sign (pv 1) (pe_glob (v := .str abc) rfl mL ⟨_, rfl⟩) rfl)) pa_nil)))))), ?_⟩
    refine ⟨x, rfl, ?_⟩
    rcases h with ⟨z, rfl, zl, q⟩ | ⟨⟨T, ty, kt⟩, q⟩
    · refine ⟨.str z, .ty "str", .type "str", .type "str", true, rfl, .ty "str", .base (.str z), kit_ty (by decide +kernel), true, rfl, iteT ?_⟩
      have zs : z.length < sizeLine := small1000 zl
      refine ⟨.str z, rfl, z, rfl, Nat.le_of_lt zs, 1, _, rfl, rfl, _, rfl, ite2 (fun e => ?_) (fun e => ?_)⟩
      · refine ⟨_, 8, rfl, rfl, _, rfl, ite2 (fun e2 => ?_) (fun e2 => ?_)⟩
        · have l1 := of_decide_eq_true e
          have l2 := of_decide_eq_true e2
          refine ⟨.str z, rfl, z, rfl, fun D hD => ?_⟩
          refine lc_it walk_str (fun i H' => Same' H H' ∧ H' D = some (.lst ((z.cps.toList.take i).map fun c => V.bl (low c)))) ⟨same_new hD, upd_same⟩ (fun _ _ _ _ => trivial) (fun i x H1 H2 hi hp hy => ?_) (fun H' hp => ?_)
          · obtain ⟨sm, ed⟩ := hp
            obtain ⟨rfl, c, hc, rfl⟩ := hy
            have hc' := sign_at hc
            refine ⟨rfl, ?_⟩
            refine ⟨_, rfl, c, abc, rfl, rfl, _, ed, ?_, same_over hD sm, ?_⟩
            · rw [List.length_map, List.length_take]
              exact Nat.lt_of_le_of_lt (Nat.min_le_right _ _) (by rw [Array.length_toList]; exact zs)
            · rw [upd_same, List.take_add_one, hc', low_abc, List.map_append]
              rfl
          · obtain ⟨sm, ed⟩ := hp
            refine ⟨D, z.cps.toList.map low, rfl, SqL.of ?_, ?_⟩
            · rw [ed, List.take_of_length_le (by rw [Array.length_toList]; exact Nat.le_refl _), List.map_map]
              rfl
            · have ez : (z.cps.toList.map low).all id = wd z := by
                unfold wd
                rw [decide_eq_true (show 1 ≤ z.length by omega), decide_eq_true (show z.length ≤ 8 by omega), List.all_map]
                rfl
              rw [ez]
              exact q _ sm
        · have ez : wd z = false := by
            have := of_decide_eq_false (Bool.eq_false_iff.mpr e2)
            unfold wd
            rw [decide_eq_false (show ¬ z.length ≤ 8 by omega), Bool.and_false, Bool.false_and]
          exact ez ▸ q H fun _ _ e => e
      · refine ⟨false, rfl, iteF ?_⟩
        have ez : wd z = false := by
          have := of_decide_eq_false (Bool.eq_false_iff.mpr e)
          unfold wd
          rw [decide_eq_false (show ¬ 1 ≤ z.length by omega), Bool.false_and, Bool.false_and]
        exact ez ▸ q H fun _ _ e => e
    · refine ⟨x, .ty "str", .type T, .type "str", false, rfl, .ty "str", ty, kit_ty kt, false, rfl, iteF q⟩
abbrev nName : List Str := ["value"]
theorem scName : FnScope nName ["value"] (defScope sName) := ⟨rfl, rfl, rfl, by decide +kernel, rfl, by decide +kernel, by decide +kernel⟩
theorem ok_name {f fW aK : Addr} {fd fdW : FuncData} (F : Fun K "is_name" "is_name" sName f fd) (FW : Fun K "is_word" "is_word" sWord fW fdW) (bW : Binds K fdW ["value"] []) (gW : mg "is_word" = some (.ref fW)) (G : FnOk P w K mg base CX0 1 fW fdW ["value"] (spWord K wd))
    (mK : mg "KEPT_WORDS" = some (.ref aK)) (hK : ∀ H, SqT K H aK (kept.map V.str)) : FnOk P w K mg base CX0 2 f fd ["value"] (spWord K nm) := by
  refine F.ok scName (fun vs H Q E h => ?_) (fun cdv A outer s H vs Q E hr h => ?_)
  · obtain ⟨x, rfl, _⟩ := h
    rfl
  · obtain ⟨x, rfl, h⟩ := h
    refine ⟨_, pss_one (ps_ret (pe_and (pe_call G hr (by rfl) gW FW.kp bW .nil pass0 (pa_cons (pv 0) pa_nil))
      (pe_one (pe_cmpR op_notIn_seq (pv 0) (pe_glob (v := .ref aK) rfl mK rfl) (by rfl))))), ?_⟩
    refine ⟨x, rfl, x, rfl, ?_⟩
    rcases h with ⟨z, rfl, zl, q⟩ | ⟨nt, q⟩
    · refine .inl ⟨z, rfl, zl, fun H' sm => ?_⟩
      cases hz : wd z with
      | true =>
        refine ⟨true, rfl, iteT ⟨.str z, rfl, aK, _, rfl, .inr (hK _), rfl, by decide +kernel, ?_⟩⟩
        have e : nm z = !inV (.str z) (kept.map V.str) := by
          unfold nm
          rw [hz, Bool.true_and]
        exact e ▸ q H' sm
      | false =>
        refine ⟨false, rfl, iteF ?_⟩
        have e : nm z = false := by
          unfold nm
          rw [hz, Bool.false_and]
        exact e ▸ q H' sm
    · exact .inr ⟨nt, false, rfl, iteF q⟩

end
end My
namespace My
open PySem PySem.Spec PyProof.Rows L2
abbrev sIniN : Stmt := inClass (topS 7) 0
abbrev sIniB : Stmt := inClass (topS 8) 0
/-- self.value = copied(value) -/
def spIni (K : PySem.W.Frag) (C : Addr) : Sp := fun vs H Q _ => ∃ (a : Addr) (x : V) (d : PyData), vs = [.ref a, x] ∧ H a = some (exo a C none) ∧ Th H x d ∧
  ∀ (y : V) (dx : Addr) (H' : Hp), (∀ b o, b ≠ a → H b = some o → H' b = some o) → H dx = none → H' a = some (exo a C (some dx)) → H' dx = some (exd dx [("value", y)]) → Th H' y d → Q .non H'
/-- an error class with the field value, as the top has made it -/
structure Err (K : PySem.W.Frag) (mg : Str → Option Value) (name : String) (C fI : Addr) : Prop where
  g : mg name = some (.ref C)
  ox : OexC K C
  ini : PySem.W.findIn K (.ref C) "__init__" = some (some (.ref fI))
  ty : PySem.W.typeIn K (.ref fI) = some (.type "function")
  no : PySem.W.findIn K (.ref C) "value" = some none
theorem th_exo {H : Hp} {x : V} {d : PyData} {a C : Addr} (h : Th H x d) (ha : H a = some (exo a C none)) {H' : Hp} (k : ∀ b o, b ≠ a → H b = some o → H' b = some o) : Th H' x d := by
  have ne : ∀ {b : Addr} {o : HO}, H b = some o → o ≠ exo a C none → b ≠ a := fun e n z => by
    rw [z, ha] at e
    injection e with e
    exact n e.symm
  cases h with
  | flat h => exact .flat h
  | lst h r n => exact .lst (k _ _ (ne h (by intro z; cases z)) h) r n
  | tup h r n => exact .tup (k _ _ (ne h (by intro z; cases z)) h) r n
  | dct h => exact .dct (k _ _ (ne h (by intro z; cases z)) h)
section
variable {P : Program} {w : World} {K : PySem.W.Frag} {mg : Str → Option Value} {base : Heap}
theorem scIniN : FnScope ["self", "value"] ["self", "value"] (defScope sIniN) := ⟨rfl, rfl, rfl, by decide +kernel, rfl, by decide +kernel, by decide +kernel⟩
theorem scIniB : FnScope ["self", "value"] ["self", "value"] (defScope sIniB) := ⟨rfl, rfl, rfl, by decide +kernel, rfl, by decide +kernel, by decide +kernel⟩
theorem ini_read {C : Addr} (ox : OexC K C) (no : PySem.W.findIn K (.ref C) "value" = some none) {vs : List V} {H : Hp} {Q : VK} {E E2 : XK} {N : List Str} (h : spIni K C vs H Q E) (hN : N = (["self", "value"] : List Str)) :
    tOst K "value" (tVar 0) (tCall spCopied [] E2 (tCons (tVar 1) tNil)) { nx := fun _ H' => Q .non H', rt := Q } (start N vs) H := by
  subst hN
  obtain ⟨a, x, d, rfl, ha, th, q⟩ := h
  refine ⟨x, rfl, x, d, rfl, th, fun y H1 sm th1 => ⟨.ref a, rfl, a, C, rfl, ox, no, .inl ⟨sm _ _ ha, fun dx hdx ne => ?_⟩⟩⟩
  have hd0 : H dx = none := by
    cases e : H dx with
    | none => rfl
    | some o =>
      rw [sm _ _ e] at hdx
      cases hdx
  have keep1 : ∀ b o, b ≠ a → H1 b = some o → (upd (upd H1 dx (exd dx [("value", y)])) a (exo a C (some dx))) b = some o := fun b o n e => by
    rw [upd_ne n, upd_ne (ne_of_none e hdx)]
    exact e
  refine q y dx _ (fun b o n e => keep1 b o n (sm b o e)) hd0 upd_same ?_ (th_exo th1 (sm _ _ ha) keep1)
  rw [upd_ne ne, upd_same]
theorem ok_iniN {f fC C : Addr} {fd fdC : FuncData} (F : Fun K "__init__" "BadName.__init__" sIniN f fd) (ox : OexC K C) (no : PySem.W.findIn K (.ref C) "value" = some none) (FC : Fun K "copied" "copied" sCopied fC fdC) (b : Binds K fdC ["value"] []) (g : mg "copied" = some (.ref fC))
    (G : FnOk P w K mg base CX0 2 fC fdC ["value"] spCopied) : FnOk P w K mg base CX0 3 f fd ["self", "value"] (spIni K C) := by
  refine F.ok scIniN (fun vs H Q E h => ?_) (fun cdv A outer s H vs Q E hr h => ?_)
  · obtain ⟨a, x, d, rfl, _⟩ := h
    rfl
  · exact ⟨_, pss_one (ps_ost (pv 0) (pe_call G hr (by rfl) g FC.kp b .nil pass0 (pa_cons (pv 1) pa_nil))), ini_read ox no h rfl⟩
theorem ok_iniB {f fC C : Addr} {fd fdC : FuncData} (F : Fun K "__init__" "BadNumber.__init__" sIniB f fd) (ox : OexC K C) (no : PySem.W.findIn K (.ref C) "value" = some none) (FC : Fun K "copied" "copied" sCopied fC fdC) (b : Binds K fdC ["value"] []) (g : mg "copied" = some (.ref fC))
    (G : FnOk P w K mg base CX0 2 fC fdC ["value"] spCopied) : FnOk P w K mg base CX0 3 f fd ["self", "value"] (spIni K C) := by
  refine F.ok scIniB (fun vs H Q E h => ?_) (fun cdv A outer s H vs Q E hr h => ?_)
  · obtain ⟨a, x, d, rfl, _⟩ := h
    rfl
  · exact ⟨_, pss_one (ps_ost (pv 0) (pe_call G hr (by rfl) g FC.kp b .nil pass0 (pa_cons (pv 1) pa_nil))), ini_read ox no h rfl⟩
/-- what is told of a raised error with the field value -/
def Told (E : XK) (C : Addr) (H : Hp) (d : PyData) : Prop := ∀ (y : V) (dd : Addr) (H' : Hp), Same' H H' → H' dd = some (.xd [("value", y)]) → Th H' y d → E (.ref C) (some dd) H'
/-- what is raised is told -/
theorem raised {C fI : Addr} {x : V} {d : PyData} {H : Hp} {E : XK} (th : Th H x d) (told : Told E C H d) : ∀ a, H a = none → spIni K C (.ref a :: ([x] ++ [])) (upd H a (exo a C none))
    (fun v H2 => v = .non ∧ ∃ (dd : Addr) (fs : List (Str × V)), H2 a = some (exo a C (some dd)) ∧ H2 dd = some (exd dd fs) ∧ H dd = none ∧ E (.ref C) (some dd) (upd (del H2 a) dd (.xd fs))) (fun _ _ _ => False) := by
  intro a ha
  refine ⟨a, x, d, rfl, upd_same, th.keep fun b o e => by rw [upd_ne (ne_of_none e ha)]; exact e, fun y dx H' keep hdx ea ed th' => ⟨rfl, dx, _, ea, ed, ?_, ?_⟩⟩
  · have n : dx ≠ a := fun z => by
      rw [z, upd_same] at hdx
      cases hdx
    rw [upd_ne n] at hdx
    exact hdx
  · have n : dx ≠ a := fun z => by
      rw [z, upd_same] at hdx
      cases hdx
    rw [upd_ne n] at hdx
    have up : ∀ b o, b ≠ a → b ≠ dx → H' b = some o → (upd (del H' a) dx (.xd [("value", y)])) b = some o := fun b o n1 n2 e => by
      rw [upd_ne n2, del_ne n1]
      exact e
    refine told y dx _ (fun b o e => ?_) upd_same ?_
    · have n1 : b ≠ a := ne_of_none e ha
      have n2 : b ≠ dx := ne_of_none e hdx
      exact up b o n1 n2 (keep b o n1 (by rw [upd_ne n1]; exact e))
    · cases th' with
      | flat h => exact .flat h
      | lst h r n => exact .lst (up _ _ (fun z => by rw [z, ea] at h; cases h) (fun z => by rw [z, ed] at h; cases h) h) r n
      | tup h r n => exact .tup (up _ _ (fun z => by rw [z, ea] at h; cases h) (fun z => by rw [z, ed] at h; cases h) h) r n
      | dct h => exact .dct (up _ _ (fun z => by rw [z, ea] at h; cases h) (fun z => by rw [z, ed] at h; cases h) h)
/-- a value that may be asked whether it is a name -/
def NameArg (K : PySem.W.Frag) (H : Hp) (x : V) : Prop := (∃ z : Str, x = .str z ∧ z.length ≤ 1000) ∨ NoText K H x
def isN (x : V) : Bool := match x with
  | .str z => nm z
  | _ => false
theorem noText_isN {H : Hp} {x : V} (h : NoText K H x) : isN x = false := by
  obtain ⟨T, ty, k⟩ := h
  cases x with
  | str z =>
    exfalso
    cases ty with
    | base b =>
      cases b
      exact absurd k (by decide +kernel)
  | _ => rfl
def spCheck (K : PySem.W.Frag) (C : Addr) : Sp := fun vs H Q E => ∃ (x : V) (d : PyData), vs = [x] ∧ NameArg K H x ∧ Th H x d ∧ (isN x = true → ∀ H', Same' H H' → Q .non H') ∧ (isN x = false → Told E C H d)
theorem scCheck : FnScope ["value"] ["value"] (defScope sCheck) := ⟨rfl, rfl, rfl, by decide +kernel, rfl, by decide +kernel, by decide +kernel⟩
theorem ok_check {f fN C fI : Addr} {fd fdN fdI : FuncData} (F : Fun K "check_name" "check_name" sCheck f fd) (FN : Fun K "is_name" "is_name" sName fN fdN) (bN : Binds K fdN ["value"] []) (gN : mg "is_name" = some (.ref fN)) (GN : FnOk P w K mg base CX0 2 fN fdN ["value"] (spWord K nm))
    (EN : Err K mg "BadName" C fI) (bI : Binds K fdI ["self", "value"] []) (GI : FnOk P w K mg base CX0 3 fI fdI ["self", "value"] (spIni K C)) : FnOk P w K mg base (L2.CX P w) 5 f fd ["value"] (spCheck K C) := by
  refine F.okX scCheck (fun vs H Q E h => ?_) (fun cdv A outer s H vs Q E hr h => ?_)
  · obtain ⟨x, d, rfl, _⟩ := h
    rfl
  · obtain ⟨x, d, rfl, na, th, yes, no⟩ := h
    refine ⟨_, pss_one (ps_if (pt_not (pt_val (pe_call GN (hr.mono (by decide)) (by rfl) gN FN.kp bN .nil pass0 (pa_cons (pv 0) pa_nil))))
      (pss_one (ps_raise rfl (takes_of rfl rfl rfl rfl) (pmk_oex EN.ox EN.ini EN.ty GI hr bI .nil pass0 (by rfl) EN.g (pa_cons (pv 0) pa_nil)))) pss_nil), ?_⟩
    refine ⟨x, rfl, x, rfl, ?_⟩
    rcases na with ⟨z, rfl, zl⟩ | nt
    · refine .inl ⟨z, rfl, zl, fun H1 sm => ⟨nm z, rfl, ?_⟩⟩
      cases hz : nm z with
      | true => exact iteF (yes hz H1 sm)
      | false =>
        refine iteT ⟨_, rfl, by show 1 ≤ 1000; decide, ?_⟩
        refine raised (fI := fI) (th.keep sm) fun y dd H' k1 k2 k3 => no hz y dd H' (sm.trans k1) k2 k3
    · refine .inr ⟨nt, false, rfl, iteT ⟨_, rfl, by show 1 ≤ 1000; decide, ?_⟩⟩
      exact raised (fI := fI) th (no (noText_isN nt))
end
end My
namespace My
open PySem PySem.Spec PyProof.Rows L2
abbrev sCellI : Stmt := inClass (topS 24) 3
abbrev sLogI : Stmt := inClass (topS 25) 1
abbrev sFailI : Stmt := inClass (topS 26) 1
abbrev sChoI : Stmt := inClass (topS 27) 1
def isW (x : V) : Bool := match x with
  | .int _ => true
  | _ => false
def isZ (x : V) : Bool := match x with
  | .int i => decide (2 ≤ i) && decide (i ≤ 4)
  | _ => false
def spWhole : Sp := fun vs H Q _ => ∃ (x : V) (d : PyData), vs = [x] ∧ Th H x d ∧ Q (.bl (isW x)) H
theorem th_kinds {K : PySem.W.Frag} {H : Hp} {x : V} {d : PyData} (h : Th H x d) : ∃ (S : String) (b : Bool), TyX K H x (.type S) ∧ kitB S "int" = some b ∧ (b = true → ∃ c, kitB S "bool" = some c ∧ isW x = !c) ∧ (b = false → isW x = false) := by
  cases h with
  | flat h =>
    cases h with
    | non => exact ⟨"NoneType", false, .base .non, by decide +kernel, (fun z => nomatch z), fun _ => rfl⟩
    | bl b => exact ⟨"bool", true, .base (.bl b), by decide +kernel, fun _ => ⟨true, by decide +kernel, rfl⟩, fun z => nomatch z⟩
    | int i => exact ⟨"int", true, .base (.int i), by decide +kernel, fun _ => ⟨false, by decide +kernel, rfl⟩, fun z => nomatch z⟩
    | str z => exact ⟨"str", false, .base (.str z), by decide +kernel, (fun z => nomatch z), fun _ => rfl⟩
  | lst h k n => exact ⟨"list", false, .base (.lst h), by decide +kernel, (fun z => nomatch z), fun _ => rfl⟩
  | tup h k n => exact ⟨"tuple", false, .base (.tup h), by decide +kernel, (fun z => nomatch z), fun _ => rfl⟩
  | dct h => exact ⟨"dict", false, .base (.dK h), by decide +kernel, (fun z => nomatch z), fun _ => rfl⟩
/-- a handler class -/
structure HCls (K : PySem.W.Frag) (mg : Str → Option Value) (name : String) (C : Addr) : Prop where
  g : mg name = some (.ref C)
  c : Cls K C
  nn : NoAttr K C "name"
  ns : NoAttr K C "size"
theorem told_more {E : XK} {C : Addr} {H H' : Hp} {d : PyData} (t : Told E C H d) (sm : Same' H H') : Told E C H' d := fun y dd H2 k => t y dd H2 (sm.trans k)
/-- all else is kept -/
def Keep1 (a : Addr) (H H' : Hp) : Prop := ∀ b o, b ≠ a → H b = some o → H' b = some o
section
variable {P : Program} {w : World} {K : PySem.W.Frag} {mg : Str → Option Value} {base : Heap}
theorem scWhole : FnScope ["value"] ["value"] (defScope sWhole) := ⟨rfl, rfl, rfl, by decide +kernel, rfl, by decide +kernel, by decide +kernel⟩
theorem ok_whole {f : Addr} {fd : FuncData} (F : Fun K "is_whole" "is_whole" sWhole f fd) (T : Txt mg) : FnOk P w K mg base CX0 1 f fd ["value"] spWhole := by
  refine F.ok scWhole (fun vs H Q E h => ?_) (fun cdv A outer s H vs Q E hr h => ?_)
  · obtain ⟨x, d, rfl, _⟩ := h
    rfl
  · obtain ⟨x, d, rfl, th, q⟩ := h
    refine ⟨_, pss_one (ps_ret (pe_and (pe_callB call_isi (by rfl) T.isi (by decide +kernel) (pa_cons (pv 0) (pa_cons (pe_bltn (by rfl) T.int (by decide +kernel) (show RelV (.ty "int") _ from rfl)) pa_nil)))
      (pe_one (pe_not (pe_callB call_isi (by rfl) T.isi (by decide +kernel) (pa_cons (pv 0) (pa_cons (pe_bltn (by rfl) T.bool (by decide +kernel) (show RelV (.ty "bool") _ from rfl)) pa_nil))))))), ?_⟩
    obtain ⟨S, b, ty, k, h1, h2⟩ := th_kinds (K := K) th
    refine ⟨x, rfl, x, .ty "int", .type S, .type "int", b, rfl, .ty "int", ty, kit_ty k, b, rfl, ?_⟩
    cases b with
    | true =>
      obtain ⟨c, kc, e⟩ := h1 rfl
      refine iteT ⟨x, rfl, x, .ty "bool", .type S, .type "bool", c, rfl, .ty "bool", ty, kit_ty kc, c, rfl, ?_⟩
      exact e ▸ q
    | false => exact iteF (h2 rfl ▸ q)
/-- Log(name), Failure(name) -/
def spNamed (K : PySem.W.Frag) (C CN : Addr) : Sp := fun vs H Q E => ∃ (a dx : Addr) (x : V) (d : PyData), vs = [.ref a, x] ∧ H a = some (.ins C dx []) ∧ NameArg K H x ∧ Th H x d ∧
  (isN x = true → ∀ H', Keep1 a H H' → H' a = some (.ins C dx [("name", x)]) → Q .non H') ∧ (isN x = false → Told E CN H d)
theorem scLogI : FnScope ["self", "name"] ["self", "name"] (defScope sLogI) := ⟨rfl, rfl, rfl, by decide +kernel, rfl, by decide +kernel, by decide +kernel⟩
theorem scFailI : FnScope ["self", "name"] ["self", "name"] (defScope sFailI) := ⟨rfl, rfl, rfl, by decide +kernel, rfl, by decide +kernel, by decide +kernel⟩
theorem named_body {C CN : Addr} {nm : String} (HC : HCls K mg nm C) {vs : List V} {H : Hp} {Q : VK} {E E2 : XK} (h : spNamed K C CN vs H Q E) (hE : E2 = E) :
    tDrop (tCall (spCheck K CN) [] E2 (tCons (tVar 1) tNil)) { nx := fun σ H1 => sFld K (tVar 0) (tVar 1) "name" { nx := fun _ H' => Q .non H', rt := Q } σ H1, rt := Q } (start ["self", "name"] vs) H := by
  subst hE
  obtain ⟨a, dx, x, d, rfl, ha, na, th, yes, no⟩ := h
  refine ⟨x, rfl, x, d, rfl, na, th, fun hx H1 sm => ?_, no⟩
  refine ⟨x, rfl, .ref a, rfl, a, C, dx, [], rfl, sm _ _ ha, HC.c, HC.nn, by decide, ?_⟩
  exact yes hx _ (fun b o n e => by rw [upd_ne n]; exact sm b o e) upd_same
theorem ok_logI {f fCh C CN : Addr} {fd fdCh : FuncData} {nm : String} (F : Fun K "__init__" "Log.__init__" sLogI f fd) (HC : HCls K mg nm C) (FC : Fun K "check_name" "check_name" sCheck fCh fdCh) (bC : Binds K fdCh ["value"] []) (gC : mg "check_name" = some (.ref fCh)) (G : FnOk P w K mg base (L2.CX P w) 5 fCh fdCh ["value"] (spCheck K CN)) :
    FnOk P w K mg base (L2.CX P w) 6 f fd ["self", "name"] (spNamed K C CN) := by
  refine F.okX scLogI (fun vs H Q E h => ?_) (fun cdv A outer s H vs Q E hr h => ?_)
  · obtain ⟨a, dx, x, d, rfl, _⟩ := h
    rfl
  · exact ⟨_, pss_cons (ps_expr (pe_call G hr (by rfl) gC FC.kp bC .nil (passes_call (takes_of rfl rfl rfl rfl) (fun _ _ _ _ h => h)) (pa_cons (pv 1) pa_nil))) (pss_one (ps_fld (pv 0) (pv 1) (by rfl))), named_body HC h rfl⟩
theorem ok_failI {f fCh C CN : Addr} {fd fdCh : FuncData} {nm : String} (F : Fun K "__init__" "Failure.__init__" sFailI f fd) (HC : HCls K mg nm C) (FC : Fun K "check_name" "check_name" sCheck fCh fdCh) (bC : Binds K fdCh ["value"] []) (gC : mg "check_name" = some (.ref fCh)) (G : FnOk P w K mg base (L2.CX P w) 5 fCh fdCh ["value"] (spCheck K CN)) :
    FnOk P w K mg base (L2.CX P w) 6 f fd ["self", "name"] (spNamed K C CN) := by
  refine F.okX scFailI (fun vs H Q E h => ?_) (fun cdv A outer s H vs Q E hr h => ?_)
  · obtain ⟨a, dx, x, d, rfl, _⟩ := h
    rfl
  · exact ⟨_, pss_cons (ps_expr (pe_call G hr (by rfl) gC FC.kp bC .nil (passes_call (takes_of rfl rfl rfl rfl) (fun _ _ _ _ h => h)) (pa_cons (pv 1) pa_nil))) (pss_one (ps_fld (pv 0) (pv 1) (by rfl))), named_body HC h rfl⟩
/-- Choice() -/
def spChoI (C : Addr) : Sp := fun vs H Q _ => ∃ (a dx : Addr), vs = [.ref a] ∧ H a = some (.ins C dx []) ∧ ∀ H', Keep1 a H H' → H' a = some (.ins C dx [("name", .str "choice")]) → Q .non H'
theorem scChoI : FnScope ["self"] ["self"] (defScope sChoI) := ⟨rfl, rfl, rfl, by decide +kernel, rfl, by decide +kernel, by decide +kernel⟩
theorem ok_choI {f C : Addr} {fd : FuncData} {nm : String} (F : Fun K "__init__" "Choice.__init__" sChoI f fd) (HC : HCls K mg nm C) : FnOk P w K mg base CX0 1 f fd ["self"] (spChoI C) := by
  refine F.ok scChoI (fun vs H Q E h => ?_) (fun cdv A outer s H vs Q E hr h => ?_)
  · obtain ⟨a, dx, rfl, _⟩ := h
    rfl
  · obtain ⟨a, dx, rfl, ha, q⟩ := h
    refine ⟨_, pss_one (ps_fld (pv 0) pe_str (by rfl)), .ref a, rfl, a, C, dx, [], rfl, ha, HC.c, HC.nn, by decide, ?_⟩
    exact q _ (fun b o n e => by rw [upd_ne n]; exact e) upd_same
/-- Cell(name, size) -/
def spCellI (K : PySem.W.Frag) (C CN CZ : Addr) : Sp := fun vs H Q E => ∃ (a dx : Addr) (x z : V) (d dz : PyData), vs = [.ref a, x, z] ∧ H a = some (.ins C dx []) ∧ NameArg K H x ∧ Th H x d ∧ Th H z dz ∧
  (isN x = true → isZ z = true → ∀ H', Keep1 a H H' → H' a = some (.ins C dx [("name", x), ("size", z)]) → Q .non H') ∧ (isN x = false → Told E CN H d) ∧ (isN x = true → isZ z = false → Told E CZ H dz)
theorem scCellI : FnScope ["self", "name", "size"] ["self", "name", "size"] (defScope sCellI) := ⟨rfl, rfl, rfl, by decide +kernel, rfl, by decide +kernel, by decide +kernel⟩
theorem ok_cellI {f fCh fW C CN CZ fI : Addr} {fd fdCh fdW fdI : FuncData} {mc : Value} {t2 t4 : Tok} (F : FunD K "__init__" "Cell.__init__" (defArgs sCellI) (defBody sCellI) (defScope sCellI) [.int 2] [] f fd) (HC : HCls K mg "Cell" C) (FC : Fun K "check_name" "check_name" sCheck fCh fdCh) (bC : Binds K fdCh ["value"] []) (gC : mg "check_name" = some (.ref fCh)) (G : FnOk P w K mg base (L2.CX P w) 5 fCh fdCh ["value"] (spCheck K CN))
    (FW : Fun K "is_whole" "is_whole" sWhole fW fdW) (bW : Binds K fdW ["value"] []) (gW : mg "is_whole" = some (.ref fW)) (GW : FnOk P w K mg base CX0 1 fW fdW ["value"] spWhole)
    (rd : ClX.CRead K C mc) (v2 : ClX.CVal K C mc "LEAST" (.int 2) (.int 2 t2)) (v4 : ClX.CVal K C mc "MOST" (.int 4) (.int 4 t4))
    (EN : Err K mg "BadNumber" CZ fI) (bI : Binds K fdI ["self", "value"] []) (GI : FnOk P w K mg base CX0 3 fI fdI ["self", "value"] (spIni K CZ)) :
    FnOk P w K mg base (L2.CX P w) 6 f fd ["self", "name", "size"] (spCellI K C CN CZ) := by
  refine F.ok scCellI (fun vs H Q E h => ?_) (fun cdv A outer s H vs Q E hr h => ?_)
  · obtain ⟨a, dx, x, z, d, dz, rfl, _⟩ := h
    rfl
  · obtain ⟨a, dx, x, z, d, dz, rfl, ha, na, th, tz, yes, no, noz⟩ := h
    refine ⟨_, pss_cons (ps_expr (pe_call G hr (by rfl) gC FC.kp bC .nil (passes_call (takes_of rfl rfl rfl rfl) (fun _ _ _ _ h => h)) (pa_cons (pv 1) pa_nil)))
      (pss_cons (ps_if (PW.pt (pw_or (pt_not (pt_val (pe_call GW (hr.mono (by decide)) (by rfl) gW FW.kp bW .nil pass0 (pa_cons (pv 2) pa_nil))))
          (pw_or1 (pt_not (pt_chain op_le op_le (ClX.pe_cval (pe_glob (v := .ref C) rfl HC.g rfl)) (pv 2) (ClX.pe_cval (pe_glob (v := .ref C) rfl HC.g rfl)))))))
        (pss_one (ps_raise rfl (takes_of rfl rfl rfl rfl) (pmk_oex EN.ox EN.ini EN.ty GI (hr.mono (by decide)) bI .nil pass0 (by rfl) EN.g (pa_cons (pv 2) pa_nil)))) pss_nil)
      (pss_cons (ps_fld (pv 0) (pv 1) (by rfl)) (pss_one (ps_fld (pv 0) (pv 2) (by rfl))))), ?_⟩
    refine ⟨x, rfl, x, d, rfl, na, th, fun hx H1 sm => ?_, no⟩
    have tz1 := tz.keep sm
    refine ⟨z, rfl, z, dz, rfl, tz1, isW z, rfl, ?_⟩
    have good : isZ z = true → tSeq (sFld K (tVar 0) (tVar 1) "name") (sFld K (tVar 0) (tVar 2) "size") { nx := fun _ H' => Q V.non H', rt := Q } (L2.start ["self", "name", "size"] [V.ref a, x, z]) H1 := fun hz => by
      refine ⟨x, rfl, .ref a, rfl, a, C, dx, [], rfl, sm _ _ ha, HC.c, HC.nn, by decide, ?_⟩
      refine ⟨z, rfl, .ref a, rfl, a, C, dx, [("name", x)], rfl, upd_same, HC.c, HC.ns, by show 1 < 1000; decide, ?_⟩
      exact yes hx hz _ (fun b o n e => by rw [upd_ne n, upd_ne n]; exact sm b o e) upd_same
    cases hw : isW z with
    | false =>
      have hz : isZ z = false := by
        cases z <;> first | rfl | cases hw
      refine iteT (iteT ⟨_, rfl, by show 1 ≤ 1000; decide, ?_⟩)
      exact raised (fI := fI) tz1 (told_more (noz hx hz) sm)
    | true =>
      obtain ⟨i, rfl⟩ : ∃ i, z = .int i := by
        cases z <;> first | exact ⟨_, rfl⟩ | cases hw
      refine iteF ⟨C, mc, .int 2, _, rfl, rd, v2, .int i, rfl, 2, i, rfl, rfl, _, rfl, ite2 (fun e => ?_) (fun e => ?_)⟩
      · refine ⟨C, mc, .int 4, _, rfl, rd, v4, i, 4, rfl, rfl, _, rfl, ite2 (fun e2 => ?_) (fun e2 => ?_)⟩
        · have hz : isZ (.int i) = false := by
            show (decide (2 ≤ i) && decide (i ≤ 4)) = false
            rw [Bool.not_eq_true'] at e2
            rw [e2, Bool.and_false]
          refine ⟨_, rfl, by show 1 ≤ 1000; decide, ?_⟩
          exact raised (fI := fI) tz1 (told_more (noz hx hz) sm)
        · have hz : isZ (.int i) = true := by
            show (decide (2 ≤ i) && decide (i ≤ 4)) = true
            have e3 : decide (i ≤ 4) = true := by
              cases q : decide (i ≤ 4) with
              | true => rfl
              | false => exact absurd (by rw [q]; rfl) e2
            rw [e, e3]
            rfl
          exact good hz
      · have hz : isZ (.int i) = false := by
          show (decide (2 ≤ i) && decide (i ≤ 4)) = false
          rw [Bool.eq_false_iff.mpr e, Bool.false_and]
        refine ⟨_, rfl, iteT ?_⟩
        refine ⟨_, rfl, by show 1 ≤ 1000; decide, ?_⟩
        exact raised (fI := fI) tz1 (told_more (noz hx hz) sm)
end
end My
namespace My
open PySem PySem.Spec PyProof.Rows L2
/-! ### handlers as they lie -/
theorem len_app (x y : Str) : (x ++ y).length = x.length + y.length := by
  show (x.cps ++ y.cps).size = x.cps.size + y.cps.size
  simp
structure A4 where
  c : Addr
  l : Addr
  f : Addr
  h : Addr
def A4.at (A : A4) : Nat → Addr
  | 0 => A.c
  | 1 => A.l
  | 2 => A.f
  | _ => A.h
inductive HD where
  | cell (n : Str) (z : Int)
  | log (n : Str)
  | fail (n : Str)
  | cho
  deriving DecidableEq
def HD.ix : HD → Nat
  | .cell _ _ => 0
  | .log _ => 1
  | .fail _ => 2
  | .cho => 3
def HD.nm : HD → Str
  | .cell n _ => n
  | .log n => n
  | .fail n => n
  | .cho => "choice"
def HD.wd : HD → Str
  | .cell _ _ => "cell"
  | .log _ => "log"
  | .fail _ => "failure"
  | .cho => "choice"
def HD.flds : HD → List (Str × V)
  | .cell n z => [("name", .str n), ("size", .int z)]
  | .log n => [("name", .str n)]
  | .fail n => [("name", .str n)]
  | .cho => [("name", .str "choice")]
def HD.text : HD → Str
  | .cell n z => (((Str.empty ++ "cell ") ++ n) ++ " ") ++ (toString z : Str)
  | .log n => (Str.empty ++ "log ") ++ n
  | .fail n => (Str.empty ++ "failure ") ++ n
  | .cho => "choice"
def IsH (A : A4) (H : Hp) (a : Addr) (k : HD) : Prop := ∃ dx, H a = some (.ins (A.at k.ix) dx k.flds)
/-- what is no handler -/
def NotH (K : PySem.W.Frag) (A : A4) (H : Hp) (y : V) : Prop := ∃ S : String, TyX K H y (.type S) ∧ ∀ i, i < 4 → PySem.W.kitOne K (.type S) (.ref (A.at i)) = some false ∧ PySem.W.notFirst K (A.at i) (.type S) = true
def Other (K : PySem.W.Frag) (A : A4) (H : Hp) (y : V) (k : HD) (r : Bool) : Prop := (∃ b k2, y = .ref b ∧ IsH A H b k2 ∧ r = decide (k = k2)) ∨ (NotH K A H y ∧ r = false)
structure Hand (K : PySem.W.Frag) (mg : Str → Option Value) (A : A4) : Prop where
  cC : HCls K mg "Cell" A.c
  cL : HCls K mg "Log" A.l
  cF : HCls K mg "Failure" A.f
  cH : HCls K mg "Choice" A.h
  dc : ∀ i, i < 4 → PySem.W.findIn K (.ref (A.at i)) "__class__" = some (some (.builtin "object.__class__"))
  mo : ∀ i, i < 4 → PySem.W.mroIn K (A.at i) (.type "object") = some true
  hn : PySem.W.specialIn K (.builtin "object.__class__") "__get__" = some (some (.builtin "getset_descriptor.__get__"))
  tk : PySem.W.takesIn K (.builtin "object.__class__") = some true
  kit : ∀ i j, i < 4 → j < 4 → PySem.W.kitOne K (.ref (A.at i)) (.ref (A.at j)) = some (decide (i = j))
theorem Hand.cls {K : PySem.W.Frag} {mg : Str → Option Value} {A : A4} (S : Hand K mg A) : ∀ k : HD, Cls K (A.at k.ix) ∧ NoAttr K (A.at k.ix) "name" ∧ NoAttr K (A.at k.ix) "size"
  | .cell _ _ => ⟨S.cC.c, S.cC.nn, S.cC.ns⟩
  | .log _ => ⟨S.cL.c, S.cL.nn, S.cL.ns⟩
  | .fail _ => ⟨S.cF.c, S.cF.nn, S.cF.ns⟩
  | .cho => ⟨S.cH.c, S.cH.nn, S.cH.ns⟩
theorem HD.ix_lt : ∀ k : HD, k.ix < 4
  | .cell _ _ => (by decide : 0 < 4)
  | .log _ => (by decide : 1 < 4)
  | .fail _ => (by decide : 2 < 4)
  | .cho => (by decide : 3 < 4)
theorem Hand.ty {K : PySem.W.Frag} {mg : Str → Option Value} {A : A4} (S : Hand K mg A) {H : Hp} {a : Addr} {k : HD} (h : IsH A H a k) : TyX K H (.ref a) (.ref (A.at k.ix)) := by
  obtain ⟨dx, e⟩ := h
  exact .base (.ins e (S.cls k).1 (S.dc _ k.ix_lt) S.hn S.tk (S.mo _ k.ix_lt))
theorem IsH.fun {A : A4} {H : Hp} {a : Addr} {k : HD} (h : IsH A H a k) {H' : Hp} (e : H' a = H a) : IsH A H' a k := by
  obtain ⟨dx, q⟩ := h
  exact ⟨dx, e.trans q⟩
theorem IsH.keep {A : A4} {H H' : Hp} {a : Addr} {k : HD} (h : IsH A H a k) (sm : Same' H H') : IsH A H' a k := by
  obtain ⟨dx, q⟩ := h
  exact ⟨dx, sm _ _ q⟩
abbrev sCellE : Stmt := inClass (topS 24) 4
abbrev sLogE : Stmt := inClass (topS 25) 2
abbrev sFailE : Stmt := inClass (topS 26) 2
abbrev sChoE : Stmt := inClass (topS 27) 2
abbrev sCellT : Stmt := inClass (topS 24) 5
abbrev sLogT : Stmt := inClass (topS 25) 3
abbrev sFailT : Stmt := inClass (topS 26) 3
abbrev sChoT : Stmt := inClass (topS 27) 3
def spEq (K : PySem.W.Frag) (A : A4) (i : Nat) : Sp := fun vs H Q _ => ∃ (a : Addr) (k : HD) (y : V) (r : Bool), vs = [.ref a, y] ∧ k.ix = i ∧ IsH A H a k ∧ Other K A H y k r ∧ Q (.bl r) H
def spStr (A : A4) (i : Nat) : Sp := fun vs H Q _ => ∃ (a : Addr) (k : HD), vs = [.ref a] ∧ k.ix = i ∧ IsH A H a k ∧ k.nm.length ≤ 1000 ∧ (∀ n z, k = .cell n z → z.natAbs.log2 < 1920 ∧ k.text.length ≤ 2000) ∧ Q (.str k.text) H
section
variable {P : Program} {w : World} {K : PySem.W.Frag} {mg : Str → Option Value} {base : Heap} {A4' : A4}
abbrev nEq : List Str := ["self", "other"]
theorem scCellE : FnScope nEq nEq (defScope sCellE) := ⟨rfl, rfl, rfl, by decide +kernel, rfl, by decide +kernel, by decide +kernel⟩
theorem scLogE : FnScope nEq nEq (defScope sLogE) := ⟨rfl, rfl, rfl, by decide +kernel, rfl, by decide +kernel, by decide +kernel⟩
theorem scFailE : FnScope nEq nEq (defScope sFailE) := ⟨rfl, rfl, rfl, by decide +kernel, rfl, by decide +kernel, by decide +kernel⟩
theorem scChoE : FnScope nEq nEq (defScope sChoE) := ⟨rfl, rfl, rfl, by decide +kernel, rfl, by decide +kernel, by decide +kernel⟩
theorem scCellT : FnScope ["self"] ["self"] (defScope sCellT) := ⟨rfl, rfl, rfl, by decide +kernel, rfl, by decide +kernel, by decide +kernel⟩
theorem scLogT : FnScope ["self"] ["self"] (defScope sLogT) := ⟨rfl, rfl, rfl, by decide +kernel, rfl, by decide +kernel, by decide +kernel⟩
theorem scFailT : FnScope ["self"] ["self"] (defScope sFailT) := ⟨rfl, rfl, rfl, by decide +kernel, rfl, by decide +kernel, by decide +kernel⟩
theorem scChoT : FnScope ["self"] ["self"] (defScope sChoT) := ⟨rfl, rfl, rfl, by decide +kernel, rfl, by decide +kernel, by decide +kernel⟩
/-- isinstance(other, C), C the class of self -/
theorem other_kit {A : A4} {H : Hp} {y : V} {k : HD} {r : Bool} (S : Hand K mg A) (h : Other K A H y k r) : ∃ (t : Value) (b : Bool), TyX K H y t ∧ PySem.W.kitOne K t (.ref (A.at k.ix)) = some b ∧ (b = true → ∃ c k2, y = .ref c ∧ IsH A H c k2 ∧ k2.ix = k.ix ∧ r = decide (k = k2)) ∧ (b = false → r = false) := by
  rcases h with ⟨c, k2, rfl, h2, e⟩ | ⟨⟨T, ty, kk⟩, e⟩
  · refine ⟨_, _, S.ty h2, S.kit _ _ k2.ix_lt k.ix_lt, fun z => ⟨c, k2, rfl, h2, of_decide_eq_true z, e⟩, fun z => ?_⟩
    rw [e, decide_eq_false]
    intro q
    exact absurd (by rw [q]) (of_decide_eq_false z)
  · exact ⟨_, _, ty, (kk _ k.ix_lt).1, (fun z => nomatch z), fun _ => e⟩
theorem ok_eqCell {A : A4} {f : Addr} {fd : FuncData} (F : Fun K "__eq__" "Cell.__eq__" sCellE f fd) (S : Hand K mg A) (T : Txt mg) : FnOk P w K mg base CX0 1 f fd nEq (spEq K A 0) := by
  refine F.ok scCellE (fun vs H Q E h => ?_) (fun cdv A0 outer s H vs Q E hr h => ?_)
  · obtain ⟨a, k, y, r, rfl, _⟩ := h
    rfl
  · obtain ⟨a, k, y, r, rfl, hk, ha, o, q⟩ := h
    refine ⟨_, pss_one (ps_ret (pe_and (pe_callB call_isi (by rfl) T.isi (by decide +kernel) (pa_cons (pv 1) (pa_cons (pe_glob (v := .ref A.c) rfl S.cC.g rfl) pa_nil)))
      (pe_and (pe_cmpR op_eq (pe_fld (pv 0) (by rfl)) (pe_fld (pv 1) (by rfl)) (nomark _)) (pe_one (pe_cmpR op_eq (pe_fld (pv 0) (by rfl)) (pe_fld (pv 1) (by rfl)) (nomark _)))))), ?_⟩
    obtain ⟨t, b, ty, kt, h1, h2⟩ := other_kit S o
    rw [hk] at kt
    refine ⟨y, rfl, y, .ref A.c, t, .ref A.c, b, rfl, .own _, ty, kt, b, rfl, ?_⟩
    cases b with
    | false => exact iteF (h2 rfl ▸ q)
    | true =>
      obtain ⟨c, k2, rfl, hc, e2, er⟩ := h1 rfl
      obtain ⟨c1, c2, c3⟩ := S.cls k
      cases k with
      | cell n z =>
        cases k2 with
        | cell n2 z2 =>
          obtain ⟨dx, ea⟩ := ha
          obtain ⟨dx2, ec⟩ := hc
          refine iteT ⟨.ref a, rfl, a, _, dx, _, .str n, rfl, ea, c1, c2, rfl, .ref c, rfl, c, _, dx2, _, .str n2, rfl, ec, c1, c2, rfl, rfl, decide (V.str n = V.str n2), rfl, ite2 (fun e => ?_) (fun e => ?_)⟩
          · refine ⟨.ref a, rfl, a, _, dx, _, .int z, rfl, ea, c1, c3, rfl, .ref c, rfl, c, _, dx2, _, .int z2, rfl, ec, c1, c3, rfl, rfl, ?_⟩
            have en : n = n2 := by simpa using e
            have er' : r = decide (V.int z = V.int z2) := by
              rw [er, en]
              simp
            exact er' ▸ q
          · have er' : r = false := by
              have en : n ≠ n2 := by simpa using e
              rw [er]
              simp [en]
            exact er' ▸ q
        | _ => cases e2
      | _ => cases hk
theorem ok_eqLog {A : A4} {f : Addr} {fd : FuncData} (F : Fun K "__eq__" "Log.__eq__" sLogE f fd) (S : Hand K mg A) (T : Txt mg) : FnOk P w K mg base CX0 1 f fd nEq (spEq K A 1) := by
  refine F.ok scLogE (fun vs H Q E h => ?_) (fun cdv A0 outer s H vs Q E hr h => ?_)
  · obtain ⟨a, k, y, r, rfl, _⟩ := h
    rfl
  · obtain ⟨a, k, y, r, rfl, hk, ha, o, q⟩ := h
    refine ⟨_, pss_one (ps_ret (pe_and (pe_callB call_isi (by rfl) T.isi (by decide +kernel) (pa_cons (pv 1) (pa_cons (pe_glob (v := .ref A.l) rfl S.cL.g rfl) pa_nil)))
      (pe_one (pe_cmpR op_eq (pe_fld (pv 0) (by rfl)) (pe_fld (pv 1) (by rfl)) (nomark _))))), ?_⟩
    obtain ⟨t, b, ty, kt, h1, h2⟩ := other_kit S o
    rw [hk] at kt
    refine ⟨y, rfl, y, .ref A.l, t, .ref A.l, b, rfl, .own _, ty, kt, b, rfl, ?_⟩
    cases b with
    | false => exact iteF (h2 rfl ▸ q)
    | true =>
      obtain ⟨c, k2, rfl, hc, e2, er⟩ := h1 rfl
      obtain ⟨c1, c2, c3⟩ := S.cls k
      cases k with
      | log n =>
        cases k2 with
        | log n2 =>
          obtain ⟨dx, ea⟩ := ha
          obtain ⟨dx2, ec⟩ := hc
          have er' : r = decide (V.str n = V.str n2) := by
            rw [er]
            simp
          exact iteT ⟨.ref a, rfl, a, _, dx, _, .str n, rfl, ea, c1, c2, rfl, .ref c, rfl, c, _, dx2, _, .str n2, rfl, ec, c1, c2, rfl, rfl, er' ▸ q⟩
        | _ => cases e2
      | _ => cases hk
theorem ok_eqFail {A : A4} {f : Addr} {fd : FuncData} (F : Fun K "__eq__" "Failure.__eq__" sFailE f fd) (S : Hand K mg A) (T : Txt mg) : FnOk P w K mg base CX0 1 f fd nEq (spEq K A 2) := by
  refine F.ok scFailE (fun vs H Q E h => ?_) (fun cdv A0 outer s H vs Q E hr h => ?_)
  · obtain ⟨a, k, y, r, rfl, _⟩ := h
    rfl
  · obtain ⟨a, k, y, r, rfl, hk, ha, o, q⟩ := h
    refine ⟨_, pss_one (ps_ret (pe_and (pe_callB call_isi (by rfl) T.isi (by decide +kernel) (pa_cons (pv 1) (pa_cons (pe_glob (v := .ref A.f) rfl S.cF.g rfl) pa_nil)))
      (pe_one (pe_cmpR op_eq (pe_fld (pv 0) (by rfl)) (pe_fld (pv 1) (by rfl)) (nomark _))))), ?_⟩
    obtain ⟨t, b, ty, kt, h1, h2⟩ := other_kit S o
    rw [hk] at kt
    refine ⟨y, rfl, y, .ref A.f, t, .ref A.f, b, rfl, .own _, ty, kt, b, rfl, ?_⟩
    cases b with
    | false => exact iteF (h2 rfl ▸ q)
    | true =>
      obtain ⟨c, k2, rfl, hc, e2, er⟩ := h1 rfl
      obtain ⟨c1, c2, c3⟩ := S.cls k
      cases k with
      | fail n =>
        cases k2 with
        | fail n2 =>
          obtain ⟨dx, ea⟩ := ha
          obtain ⟨dx2, ec⟩ := hc
          have er' : r = decide (V.str n = V.str n2) := by
            rw [er]
            simp
          exact iteT ⟨.ref a, rfl, a, _, dx, _, .str n, rfl, ea, c1, c2, rfl, .ref c, rfl, c, _, dx2, _, .str n2, rfl, ec, c1, c2, rfl, rfl, er' ▸ q⟩
        | _ => cases e2
      | _ => cases hk
theorem ok_eqCho {A : A4} {f : Addr} {fd : FuncData} (F : Fun K "__eq__" "Choice.__eq__" sChoE f fd) (S : Hand K mg A) (T : Txt mg) : FnOk P w K mg base CX0 1 f fd nEq (spEq K A 3) := by
  refine F.ok scChoE (fun vs H Q E h => ?_) (fun cdv A0 outer s H vs Q E hr h => ?_)
  · obtain ⟨a, k, y, r, rfl, _⟩ := h
    rfl
  · obtain ⟨a, k, y, r, rfl, hk, ha, o, q⟩ := h
    refine ⟨_, pss_one (ps_ret (pe_callB call_isi (by rfl) T.isi (by decide +kernel) (pa_cons (pv 1) (pa_cons (pe_glob (v := .ref A.h) rfl S.cH.g rfl) pa_nil)))), ?_⟩
    obtain ⟨t, b, ty, kt, h1, h2⟩ := other_kit S o
    rw [hk] at kt
    refine ⟨y, rfl, y, .ref A.h, t, .ref A.h, b, rfl, .own _, ty, kt, ?_⟩
    cases b with
    | false => exact h2 rfl ▸ q
    | true =>
      obtain ⟨c, k2, rfl, hc, e2, er⟩ := h1 rfl
      cases k with
      | cho =>
        cases k2 with
        | cho => exact (show r = true from by rw [er]; rfl) ▸ q
        | _ => cases e2
      | _ => cases hk
theorem fmt_fld {X : Cx} {C : Addr} {i : Nat} {σ : L2.St} {H : Hp} {f : Str} {Q : VK} {a dx : Addr} {fs : List (Str × V)} {v : V} (h0 : σ[i]? = some (some (.ref a))) (e : H a = some (.ins C dx fs)) (c : Cls X.K C) (n : NoAttr X.K C f) (l : fs.lookup f = some v)
    (q : (∃ y : Str, v = .str y ∧ y.length ≤ sizeLine ∧ Q (.str y) H) ∨ ∃ j : Int, v = .int j ∧ j.natAbs.log2 < 1920 ∧ Q (.str (toString j)) H) : tFmt (tFld X.K (tVar i) f) σ H Q := ⟨.ref a, h0, a, C, dx, fs, v, rfl, e, c, n, l, q⟩
theorem ok_strCell {A : A4} {f : Addr} {fd : FuncData} (F : Fun K "__str__" "Cell.__str__" sCellT f fd) (S : Hand K mg A) : FnOk P w K mg base CX0 1 f fd ["self"] (spStr A 0) := by
  refine F.ok scCellT (fun vs H Q E h => ?_) (fun cdv A0 outer s H vs Q E hr h => ?_)
  · obtain ⟨a, k, rfl, _⟩ := h
    rfl
  · obtain ⟨a, k, rfl, hk, ⟨dx, ea⟩, hl, hz, q⟩ := h
    refine ⟨_, pss_one (ps_ret (pe_joined (.cons pe_str (.cons (pe_fmt (pe_fld (pv 0) (by rfl))) (.cons pe_str (.cons (pe_fmt (pe_fld (pv 0) (by rfl))) .nil)))))), ?_⟩
    obtain ⟨c1, c2, c3⟩ := S.cls k
    cases k with
    | cell n z =>
      obtain ⟨z1, z2⟩ := hz n z rfl
      have hl' : n.length ≤ 1000 := hl
      have t2 : ((((Str.empty ++ "cell ") ++ n) ++ " ") ++ (toString z : Str)).length ≤ 2000 := z2
      have big : (2000 : Nat) ≤ sizeLine := by decide
      simp only [len_app] at t2
      refine ⟨_, rfl, by simp only [len_app]; omega, ?_⟩
      refine fmt_fld (σ := L2.start ["self"] [V.ref a]) rfl ea c1 c2 rfl (.inl ⟨n, rfl, by omega, ?_⟩)
      refine ⟨_, rfl, by simp only [len_app]; omega, ?_⟩
      refine ⟨_, rfl, by simp only [len_app]; omega, ?_⟩
      refine fmt_fld (σ := L2.start ["self"] [V.ref a]) rfl ea c1 c3 rfl (.inr ⟨z, rfl, z1, ?_⟩)
      refine ⟨_, rfl, by simp only [len_app]; omega, ?_⟩
      exact q
    | _ => cases hk
theorem ok_strLog {A : A4} {f : Addr} {fd : FuncData} (F : Fun K "__str__" "Log.__str__" sLogT f fd) (S : Hand K mg A) : FnOk P w K mg base CX0 1 f fd ["self"] (spStr A 1) := by
  refine F.ok scLogT (fun vs H Q E h => ?_) (fun cdv A0 outer s H vs Q E hr h => ?_)
  · obtain ⟨a, k, rfl, _⟩ := h
    rfl
  · obtain ⟨a, k, rfl, hk, ⟨dx, ea⟩, hl, hz, q⟩ := h
    refine ⟨_, pss_one (ps_ret (pe_joined (.cons pe_str (.cons (pe_fmt (pe_fld (pv 0) (by rfl))) .nil)))), ?_⟩
    obtain ⟨c1, c2, c3⟩ := S.cls k
    cases k with
    | log n =>
      have hl' : n.length ≤ 1000 := hl
      have big : (2000 : Nat) ≤ sizeLine := by decide
      have l1 : (Str.empty ++ ("log " : Str)).length = 4 := by decide +kernel
      refine ⟨_, rfl, by omega, ?_⟩
      refine fmt_fld (σ := L2.start ["self"] [V.ref a]) rfl ea c1 c2 rfl (.inl ⟨n, rfl, by omega, ?_⟩)
      refine ⟨_, rfl, by rw [len_app]; omega, ?_⟩
      exact q
    | _ => cases hk
theorem ok_strFail {A : A4} {f : Addr} {fd : FuncData} (F : Fun K "__str__" "Failure.__str__" sFailT f fd) (S : Hand K mg A) : FnOk P w K mg base CX0 1 f fd ["self"] (spStr A 2) := by
  refine F.ok scFailT (fun vs H Q E h => ?_) (fun cdv A0 outer s H vs Q E hr h => ?_)
  · obtain ⟨a, k, rfl, _⟩ := h
    rfl
  · obtain ⟨a, k, rfl, hk, ⟨dx, ea⟩, hl, hz, q⟩ := h
    refine ⟨_, pss_one (ps_ret (pe_joined (.cons pe_str (.cons (pe_fmt (pe_fld (pv 0) (by rfl))) .nil)))), ?_⟩
    obtain ⟨c1, c2, c3⟩ := S.cls k
    cases k with
    | fail n =>
      have hl' : n.length ≤ 1000 := hl
      have big : (2000 : Nat) ≤ sizeLine := by decide
      have l1 : (Str.empty ++ ("failure " : Str)).length = 8 := by decide +kernel
      refine ⟨_, rfl, by omega, ?_⟩
      refine fmt_fld (σ := L2.start ["self"] [V.ref a]) rfl ea c1 c2 rfl (.inl ⟨n, rfl, by omega, ?_⟩)
      refine ⟨_, rfl, by rw [len_app]; omega, ?_⟩
      exact q
    | _ => cases hk
theorem ok_strCho {A : A4} {f : Addr} {fd : FuncData} (F : Fun K "__str__" "Choice.__str__" sChoT f fd) : FnOk P w K mg base CX0 1 f fd ["self"] (spStr A 3) := by
  refine F.ok scChoT (fun vs H Q E h => ?_) (fun cdv A0 outer s H vs Q E hr h => ?_)
  · obtain ⟨a, k, rfl, _⟩ := h
    rfl
  · obtain ⟨a, k, rfl, hk, ⟨dx, ea⟩, hl, hz, q⟩ := h
    refine ⟨_, pss_one (ps_ret pe_str), ?_⟩
    cases k with
    | cho => exact q
    | _ => cases hk
end
end My
namespace My
open PySem PySem.Spec PyProof.Rows L2
/-! ### the pen: a list of a list of ints, of how many were taken, of what is left of a great one -/
structure PenAt (H : Hp) (p c : Addr) (ns : List Int) (B : Int) : Prop where
  pen : ∃ b g : Int, H p = some (.lst [.ref c, .int b, .int g]) ∧ 0 ≤ b ∧ b ≤ B ∧ 0 ≤ g
  cells : H c = some (.lst (ns.map V.int))
  few : ns.length ≤ 63
def Off (p : Addr) (H H' : Hp) : Prop := ∀ q o, q ≠ p → H q = some o → H' q = some o
theorem Off.trans {p : Addr} {H1 H2 H3 : Hp} (h : Off p H1 H2) (k : Off p H2 H3) : Off p H1 H3 := fun q o n e => k q o n (h q o n e)
theorem Off.rfl' {p : Addr} {H : Hp} : Off p H H := fun _ _ _ e => e
theorem Off.new {p a : Addr} {H : Hp} {o : HO} (h : H a = none) : Off p H (upd H a o) := fun q _ _ e => by
  rw [upd_ne (ne_of_none e h)]
  exact e
theorem PenAt.ne {H : Hp} {p c : Addr} {ns : List Int} {B : Int} (P : PenAt H p c ns B) : c ≠ p := by
  obtain ⟨b, g, e, _⟩ := P.pen
  intro z
  have y := P.cells
  rw [z, e] at y
  injection y with y
  injection y with y
  cases ns with
  | nil => cases y
  | cons x r => injection y with y1 y2; cases y1
theorem PenAt.more {H : Hp} {p c : Addr} {ns : List Int} {B C : Int} (P : PenAt H p c ns B) (h : B ≤ C) : PenAt H p c ns C := by
  obtain ⟨b, g, e, h1, h2, h3⟩ := P.pen
  exact ⟨⟨b, g, e, h1, by omega, h3⟩, P.cells, P.few⟩
theorem PenAt.keep {H H' : Hp} {p c : Addr} {ns : List Int} {B : Int} (P : PenAt H p c ns B) (h : ∀ q o, H q = some o → H' q = some o) : PenAt H' p c ns B := by
  obtain ⟨b, g, e, h1, h2, h3⟩ := P.pen
  exact ⟨⟨b, g, h _ _ e, h1, h2, h3⟩, h _ _ P.cells, P.few⟩

/-! ### numbers -/
theorem fm {x m : Int} (h : 0 < m) : 0 ≤ x.fmod m ∧ x.fmod m < m := by
  rw [Int.fmod_eq_emod_of_nonneg _ (by omega)]
  exact ⟨Int.emod_nonneg _ (by omega), Int.emod_lt_of_pos _ h⟩
theorem fd0 {x m : Int} (h : 0 < m) (hx : 0 ≤ x) : 0 ≤ x.fdiv m := by
  rw [Int.fdiv_eq_ediv_of_nonneg _ (by omega)]
  exact Int.ediv_nonneg hx (by omega)
theorem mulB {x y a b : Int} (h0 : 0 ≤ x) (h1 : x ≤ a) (k0 : 0 ≤ y) (k1 : y ≤ b) : 0 ≤ x * y ∧ x * y ≤ a * b :=
  ⟨Int.mul_nonneg h0 k0, Int.mul_le_mul h1 k1 k0 (by omega)⟩
theorem nz1 : (2147483549 : Int) ≠ 0 := by decide
theorem nz2 : (2147483629 : Int) ≠ 0 := by decide
theorem nz3 : (2147483587 : Int) ≠ 0 := by decide
theorem natAbs_lt {x : Int} (h0 : 0 ≤ x) (h1 : x < 18446744073709551616) : x.natAbs < 2 ^ 64 := by
  show x.natAbs < 18446744073709551616
  omega
theorem dpInts {K : PySem.W.Frag} {H : Hp} : ∀ ns : List Int, DpAll K H (ns.map V.int) (ns.map PyData.int)
  | [] => .nil
  | _ :: r => .cons (.int _) (dpInts r)
theorem shaped_ints : ∀ ns : List Int, SeqAt.shaped (.list (ns.map PyData.int)) = true
  | [] => rfl
  | _ :: r => shaped_ints r

theorem at_in {xs : List V} {j : Int} (h0 : 0 ≤ j) (h1 : j < (xs.length : Nat)) : ∃ v, v ∈ xs ∧ atI xs j = some v := by
  obtain ⟨k, rfl⟩ : ∃ k : Nat, j = (k : Int) := ⟨j.toNat, by omega⟩
  have hk : k < xs.length := by omega
  exact ⟨xs[k], List.getElem_mem hk, atI_nat (List.getElem?_eq_getElem hk)⟩
/-! ### the draw -/
def spDraw : Sp := fun vs H Q _ => ∃ (p c : Addr) (ns : List Int) (B m : Int), vs = [.ref p, .int m] ∧ PenAt H p c ns B ∧ B ≤ 1000 ∧ 1 ≤ m ∧ m ≤ 1000 ∧
  ∀ (d : Int) (H' : Hp), 0 ≤ d → d < m → PenAt H' p c ns (B + 1) → Off p H H' → Q (.int d) H'
section
variable {P : Program} {w : World} {K : PySem.W.Frag} {mg : Str → Option Value} {base : Heap}
abbrev nDraw : List Str := ["_law_pen_here", "_law_many", "_law_digit", "_law_spot", "_law_cell", "_law_great", "_law_mixed"]
theorem scDraw : FnScope nDraw ["_law_pen_here", "_law_many"] (defScope sDraw) := ⟨rfl, rfl, rfl, by decide +kernel, rfl, by decide +kernel, by decide +kernel⟩
theorem tail2 {f : Addr} {cdv : Value} {A : Around} {outer : List Env} {s : Shared} {H0 : Hp} {E : XK} (T : Txt mg) :
    ∃ t, PSs (cxOf CX0 P w K mg base nDraw "_law_draw" (defScope sDraw) f cdv A outer s H0 E).nox ((defBody sDraw).drop 6) t ∧
      ∀ (Q : VK) (nx : L2.St → Hp → Prop) (p : Addr) (m b raw : Int) (y2 y5 y6 : Option V) (H : Hp), 0 ≤ b → b ≤ 1000 → 1 ≤ m → (∀ d : Int, 0 ≤ d → d < m → Q (.int d) H) →
        t { nx := nx, rt := Q } [some (.ref p), some (.int m), y2, some (.int b), some (.int raw), y5, y6] H := by
  refine ⟨_, pss_cons (ps_set (i := 6) scDraw.nd rfl (.inl rfl) (pe_op op_modN (pe_callTy call_int1 (by rfl) T.int (by decide +kernel) (pa_cons (pe_op op_pow
          (pe_op op_add (pe_op op_add (pe_op op_modN (pe_callTy call_int1 (by rfl) T.int (by decide +kernel) (pa_cons (pv 4) pa_nil)) pe_int) (pe_op op_mul pe_int (pv 3))) pe_int) pe_int) pa_nil)) pe_int))
      (pss_cons (ps_set (i := 6) scDraw.nd rfl (.inl rfl) (pe_op op_modN (pe_callTy call_int1 (by rfl) T.int (by decide +kernel) (pa_cons (pe_op op_pow
          (pe_op op_add (pe_op op_add (pe_op op_mul (pv 6) (pe_op op_add (pe_op op_mul pe_int (pv 3)) pe_int)) (pe_op op_mul (pe_op op_mul pe_int (pv 3)) (pv 3))) pe_int) pe_int) pa_nil)) pe_int))
      (pss_one (ps_ret (pe_op op_modN (pe_callTy call_int1 (by rfl) T.int (by decide +kernel) (pa_cons (pe_op op_fdivN (pv 6) pe_int) pa_nil)) (pv 1))))), ?_⟩
  intro Q nx p m b raw y2 y5 y6 H b0 bB hm q
  have f1 := fm (x := raw) (m := 2147483549) (by decide)
  refine ⟨.int raw, rfl, .inl ⟨raw, rfl, raw, _, rfl, rfl, nz1, .int b, rfl, _, b, rfl, rfl, .inl ⟨by decide, by decide⟩, _, _, rfl, rfl, _, _, rfl, rfl, _, 5, rfl, rfl, ⟨by decide, by decide, natAbs_lt (by omega) (by omega)⟩, .inl ⟨_, rfl, _, _, rfl, rfl, nz2, ?_⟩⟩⟩
  obtain ⟨z, hz⟩ : ∃ z : Int, ((raw.fmod 2147483549 + 63758 * b + 5774) ^ (5 : Int).toNat).fmod 2147483629 = z := ⟨_, rfl⟩
  have f2 := fm (x := ((raw.fmod 2147483549 + 63758 * b + 5774) ^ (5 : Int).toNat)) (m := 2147483629) (by decide)
  rw [hz] at f2
  have f3 := mulB (x := z) (y := 2 * b + 729) (a := 2147483629) (b := 2000 + 729) f2.1 (by omega) (by omega) (by omega)
  have f4 := mulB (x := 60422 * b) (y := b) (a := 60422 * 1000) (b := 1000) (by omega) (by omega) b0 bB
  refine ⟨.int z, by rw [← hz]; rfl, .int b, rfl, 2, b, rfl, rfl, .inl ⟨by decide, by decide⟩, _, _, rfl, rfl, z, _, rfl, rfl, .inl ⟨by omega, by omega⟩, .int b, rfl, _, b, rfl, rfl, .inl ⟨by decide, by decide⟩, .int b, rfl, _, b, rfl, rfl, .inl ⟨by omega, by omega⟩, _, _, rfl, rfl, _, _, rfl, rfl, _, 3, rfl, rfl, ⟨by decide, by decide, natAbs_lt (by omega) (by omega)⟩, .inl ⟨_, rfl, _, _, rfl, rfl, nz3, ?_⟩⟩
  obtain ⟨v, hv⟩ : ∃ v : Int, ((z * (2 * b + 729) + 60422 * b * b + 63758) ^ (3 : Int).toNat).fmod 2147483587 = v := ⟨_, rfl⟩
  refine ⟨.int v, by rw [← hv]; rfl, v, 32, rfl, rfl, ⟨by decide, by decide⟩, .inl ⟨_, rfl, .int m, rfl, _, m, rfl, rfl, by omega, ?_⟩⟩
  exact q _ (fm (by omega)).1 (fm (by omega)).2
theorem tail1 {f : Addr} {cdv : Value} {A : Around} {outer : List Env} {s : Shared} {H0 : Hp} {E : XK} (T : Txt mg) :
    ∃ t, PSs (cxOf CX0 P w K mg base nDraw "_law_draw" (defScope sDraw) f cdv A outer s H0 E).nox ((defBody sDraw).drop 5) t ∧
      ∀ (Q : VK) (nx : L2.St → Hp → Prop) (p c : Addr) (ns : List Int) (m b b1 g raw : Int) (y2 y5 y6 : Option V) (H : Hp), H p = some (.lst [.ref c, .int b1, .int g]) → H c = some (.lst (ns.map V.int)) → 0 ≤ b → b ≤ 1000 → 0 ≤ g → 1 ≤ m → m ≤ 1000 →
        (∀ (d : Int) (H' : Hp), 0 ≤ d → d < m → (∃ g' : Int, 0 ≤ g' ∧ H' p = some (.lst [.ref c, .int b1, .int g'])) → Off p H H' → Q (.int d) H') →
        t { nx := nx, rt := Q } [some (.ref p), some (.int m), y2, some (.int b), some (.int raw), y5, y6] H := by
  obtain ⟨t2, h2, q2⟩ := tail2 (P := P) (w := w) (K := K) (base := base) (f := f) (cdv := cdv) (A := A) (outer := outer) (s := s) (H0 := H0) (E := E) T
  refine ⟨_, pss_cons (ps_if (PW.pt (pw_and (pt_cmpR op_lt (pv 3) (pe_callB call_len_seq (by rfl) T.len PySem.boot_len (pa_cons (pe_ix ix_list (pv 0) pe_int (fun _ _ => rfl)) pa_nil)) (nomark _))
            (pw_and1 (pt_cmpR op_ge (pe_callB call_abs (by rfl) T.abs (by decide +kernel) (pa_cons (pv 4) pa_nil)) (pe_op op_pow pe_int pe_int) (nomark _)))))
        (pss_cons (ps_set (i := 5) scDraw.nd rfl (.inl rfl) (pe_op op_add (pe_op op_mul pe_int (pe_op op_sub (pe_callB call_abs (by rfl) T.abs (by decide +kernel) (pa_cons (pv 4) pa_nil)) (pe_op op_pow pe_int pe_int)))
            (pe_callTy call_int1 (by rfl) T.int (by decide +kernel) (pa_cons (pe_cmpR op_lt (pv 4) pe_int (nomark _)) pa_nil))))
        (pss_cons (ps_asg (pe_op op_fdivN (pe_callTy call_int1 (by rfl) T.int (by decide +kernel) (pa_cons (pv 5) pa_nil)) (pv 1)) (pg_sub (pv 0) pe_int set_list))
        (pss_one (ps_ret (pe_op op_modN (pe_callTy call_int1 (by rfl) T.int (by decide +kernel) (pa_cons (pv 5) pa_nil)) (pv 1)))))) pss_nil) h2, ?_⟩
  intro Q nx p c ns m b b1 g raw y2 y5 y6 H hp hc b0 bB g0 hm hm2 q
  have last : t2 { nx := nx, rt := Q } [some (.ref p), some (.int m), y2, some (.int b), some (.int raw), y5, y6] H :=
    q2 Q nx p m b raw y2 y5 y6 H b0 bB hm fun d d0 d1 => q d H d0 d1 ⟨g, g0, hp⟩ Off.rfl'
  refine ⟨.int b, rfl, .ref p, rfl, p, _, 0, .ref c, rfl, rfl, SqL.of hp, rfl, c, _, rfl, .inl (SqL.of hc), _, _, rfl, rfl, _, rfl, ite2 (fun e => ?_) (fun e => iteF last)⟩
  refine ⟨.int raw, rfl, raw, rfl, 10, 18, rfl, rfl, ⟨by decide, by decide, by decide⟩, _, _, rfl, rfl, _, rfl, ite2 (fun e2 => ?_) (fun e2 => last)⟩
  have big := of_decide_eq_true e2
  obtain ⟨r, hr⟩ : ∃ r : Int, (if raw < 0 then -raw else raw) = r := ⟨_, rfl⟩
  obtain ⟨u, hu⟩ : ∃ u : Int, 2 * ((if raw < 0 then -raw else raw) - (10 : Int) ^ (18 : Int).toNat) + (if decide (raw < 0) = true then 1 else 0) = u := ⟨_, rfl⟩
  have u0 : 0 ≤ u := by
    rw [← hu]
    have k : (0 : Int) ≤ if decide (raw < 0) = true then 1 else 0 := by split <;> decide
    omega
  refine ⟨.int raw, rfl, raw, rfl, 10, 18, rfl, rfl, ⟨by decide, by decide, by decide⟩, _, _, rfl, rfl, 2, _, rfl, rfl, .inl ⟨by decide, by decide⟩, .int raw, rfl, raw, 0, rfl, rfl, .inr ⟨_, rfl, _, _, rfl, rfl, ?_⟩⟩
  refine ⟨.int u, by rw [← hu]; rfl, .inl ⟨u, rfl, .int m, rfl, u, m, rfl, rfl, ⟨by omega, by omega⟩, ?_⟩⟩
  refine ⟨.ref p, rfl, p, _, 2, 2, rfl, rfl, hp, rfl, ?_⟩
  refine ⟨.int u, by rw [← hu]; rfl, .inl ⟨u, rfl, .int m, rfl, u, m, rfl, rfl, by omega, ?_⟩⟩
  exact q _ _ (fm (by omega)).1 (fm (by omega)).2 ⟨u.fdiv m, fd0 (by omega) u0, upd_same⟩ fun a o n e => by rw [upd_ne n]; exact e
theorem ok_draw {f : Addr} {fd : FuncData} (F : Fun K "_law_draw" "_law_draw" sDraw f fd) (T : Txt mg) : FnOk P w K mg base CX0 1 f fd ["_law_pen_here", "_law_many"] spDraw := by
  refine F.ok scDraw (fun vs H Q E h => ?_) (fun cdv A outer s H vs Q E hr h => ?_)
  · obtain ⟨p, c, ns, B, m, rfl, _⟩ := h
    rfl
  · obtain ⟨p, c, ns, B, m, rfl, PA0, hB, hm, hm2, q⟩ := h
    obtain ⟨b, g, hp, b0, bB, g0⟩ := PA0.pen
    have hc := PA0.cells
    have few := PA0.few
    have ncp := PA0.ne
    obtain ⟨t1, h1, q1⟩ := tail1 (P := P) (w := w) (K := K) (base := base) (f := f) (cdv := cdv) (A := A) (outer := outer) (s := s) (H0 := H) (E := E) T
    refine ⟨_, pss_cons (ps_if (pt_cmpR op_gt (pe_ix ix_list (pv 0) pe_int (fun _ _ => rfl)) pe_int (nomark _))
        (pss_cons (ps_set (i := 2) scDraw.nd rfl (.inl rfl) (pe_op op_modN (pe_callTy call_int1 (by rfl) T.int (by decide +kernel) (pa_cons (pe_ix ix_list (pv 0) pe_int (fun _ _ => rfl)) pa_nil)) (pv 1)))
        (pss_cons (ps_asg (pe_op op_fdivN (pe_callTy call_int1 (by rfl) T.int (by decide +kernel) (pa_cons (pe_ix ix_list (pv 0) pe_int (fun _ _ => rfl)) pa_nil)) (pv 1)) (pg_sub (pv 0) pe_int set_list))
        (pss_one (ps_ret (pv 2))))) pss_nil)
      (pss_cons (ps_set (i := 3) scDraw.nd rfl (.inl rfl) (pe_ix ix_list (pv 0) pe_int (fun _ _ => rfl)))
      (pss_cons (ps_asg (pe_op op_add (pv 3) pe_int) (pg_sub (pv 0) pe_int set_list))
      (pss_cons (ps_set (i := 4) scDraw.nd rfl (.inl rfl) (pe_op op_add (pe_op op_mul pe_int (pv 3)) pe_int))
      (pss_cons (ps_if (pt_cmpR (op_neD hr.units) (pe_ix ix_list (pv 0) pe_int (fun _ _ => rfl)) (pe_lst pa_nil) (nomark _))
        (pss_one (ps_set (i := 4) scDraw.nd rfl (.inl rfl) (pe_ix ix_list (pe_ix ix_list (pv 0) pe_int (fun _ _ => rfl))
          (pe_op op_modN (pe_callTy call_int1 (by rfl) T.int (by decide +kernel) (pa_cons (pv 3) pa_nil)) (pe_callB call_len_seq (by rfl) T.len PySem.boot_len (pa_cons (pe_ix ix_list (pv 0) pe_int (fun _ _ => rfl)) pa_nil))) (fun _ _ => rfl)))) pss_nil) h1)))), ?_⟩
    -- if pen[2] > 0
    refine ⟨.ref p, rfl, p, _, 2, .int g, rfl, rfl, SqL.of hp, rfl, g, 0, rfl, rfl, _, rfl, ite2 (fun e => ?_) (fun e => ?_)⟩
    · refine ⟨.ref p, rfl, p, _, 2, .int g, rfl, rfl, SqL.of hp, rfl, .inl ⟨_, rfl, .int m, rfl, g, m, rfl, rfl, by omega, ?_⟩⟩
      refine ⟨.ref p, rfl, p, _, 2, .int g, rfl, rfl, SqL.of hp, rfl, .inl ⟨_, rfl, .int m, rfl, g, m, rfl, rfl, ⟨by omega, by omega⟩, ?_⟩⟩
      refine ⟨.ref p, rfl, p, _, 2, 2, rfl, rfl, hp, rfl, ?_⟩
      refine ⟨_, rfl, q (g.fmod m) _ (fm (by omega)).1 (fm (by omega)).2 ⟨⟨b, g.fdiv m, upd_same, b0, by omega, fd0 (by omega) g0⟩, by rw [upd_ne ncp]; exact hc, few⟩ fun a o n e => by rw [upd_ne n]; exact e⟩
    · -- begun = pen[1]; pen[1] = begun + 1; raw = ..
      refine ⟨.ref p, rfl, p, _, 1, .int b, rfl, rfl, SqL.of hp, rfl, ?_⟩
      refine ⟨_, rfl, b, 1, rfl, rfl, .ref p, rfl, p, _, 1, 1, rfl, rfl, hp, rfl, ?_⟩
      refine ⟨_, rfl, 44834, b, rfl, rfl, .inl ⟨by decide, by decide⟩, _, _, rfl, rfl, ?_⟩
      obtain ⟨H1, eH⟩ : ∃ H1 : Hp, upd H p (.lst [.ref c, .int (b + 1), .int g]) = H1 := ⟨_, rfl⟩
      have hp1 : H1 p = some (.lst [.ref c, .int (b + 1), .int g]) := by rw [← eH, upd_same]
      have hc1 : H1 c = some (.lst (ns.map V.int)) := by rw [← eH, upd_ne ncp]; exact hc
      have off1 : Off p H H1 := fun a o n e => by rw [← eH, upd_ne n]; exact e
      have eH' : upd H p (.lst (([.ref c, .int b, .int g] : List V).set 1 (.int (b + 1)))) = H1 := eH
      rw [eH']
      clear eH eH'
      -- if pen[0] != []
      refine ⟨.ref p, rfl, p, _, 0, .ref c, rfl, rfl, SqL.of hp1, rfl, Nat.zero_le _, fun l hl => ?_⟩
      have npl : p ≠ l := ne_of_none hp1 hl
      have ncl : c ≠ l := ne_of_none hc1 hl
      have hp2 : (upd H1 l (.lst [])) p = some (.lst [.ref c, .int (b + 1), .int g]) := by rw [upd_ne npl]; exact hp1
      have hc2 : (upd H1 l (.lst [])) c = some (.lst (ns.map V.int)) := by rw [upd_ne ncl]; exact hc1
      have off2 : Off p H (upd H1 l (.lst [])) := off1.trans (Off.new hl)
      refine ⟨.list (ns.map PyData.int), .list [], .lst (SqL.of hc2) (dpInts ns), .lst (SqL.of upd_same) .nil, shaped_ints ns, rfl, _, rfl, ?_⟩
      have last : ∀ (raw : Int) (y2 y5 y6 : Option V) (nx : L2.St → Hp → Prop), t1 { nx := nx, rt := Q } [some (.ref p), some (.int m), y2, some (.int b), some (.int raw), y5, y6] (upd H1 l (.lst [])) := by
        intro raw y2 y5 y6 nx
        refine q1 Q nx p c ns m b (b + 1) g raw y2 y5 y6 _ hp2 hc2 b0 (by omega) g0 hm hm2 fun d H' d0 d1 z off => ?_
        obtain ⟨g', z0, e1⟩ := z
        exact q d H' d0 d1 ⟨⟨b + 1, g', e1, by omega, by omega, z0⟩, off c _ ncp hc2, few⟩ (off2.trans off)
      cases ns with
      | nil => exact iteF (last _ _ _ _ _)
      | cons x r =>
        have lz : ((x :: r).map V.int).length = r.length + 1 := by rw [List.length_map]; rfl
        have lp : (0 : Int) < (((x :: r).map V.int).length : Nat) := by rw [lz]; omega
        obtain ⟨j, ej⟩ : ∃ j : Int, b.fmod (((x :: r).map V.int).length : Nat) = j := ⟨_, rfl⟩
        have j0 := (fm (x := b) lp).1
        have j1 := (fm (x := b) lp).2
        rw [ej] at j0 j1
        obtain ⟨v, hv, at1⟩ := at_in j0 j1
        obtain ⟨y, _, rfl⟩ := List.mem_map.mp hv
        refine iteT ⟨.ref p, rfl, p, _, 0, .ref c, rfl, rfl, SqL.of hp2, rfl, .int b, rfl, .inl ⟨b, rfl, .ref p, rfl, p, _, 0, .ref c, rfl, rfl, SqL.of hp2, rfl, c, _, rfl, .inl (SqL.of hc2), b, _, rfl, rfl, by omega, c, _, _, _, rfl, rfl, SqL.of hc2, (by rw [ej]; exact at1), ?_⟩⟩
        exact last _ _ _ _ _
end
/-! ### the pen is made -/
theorem cut63 {α : Type} (xs : List V) (h : xs.length ≤ 63) : cutV xs none (some 63) = xs := by
  unfold cutV
  rw [show HT.sIx xs.length 0 none = 0 from rfl, show HT.sIx xs.length xs.length (some 63) = min 63 xs.length from HT.sIx_nat xs.length xs.length 63, List.drop_zero, Nat.min_eq_right h, Nat.sub_zero]
  exact List.take_length
def spPen (K : PySem.W.Frag) : Sp := fun vs H Q _ => ∃ (a : Addr) (ns : List Int), vs = [.ref a] ∧ SqL K H a (ns.map V.int) ∧ ns.length ≤ 63 ∧ ∀ (p c : Addr) (H' : Hp), Same' H H' → PenAt H' p c ns 0 → Q (.ref p) H'
def Src (H : Hp) (p : Addr) (s : V) (src : List V) : Prop := (∃ l, s = .ref l ∧ l ≠ p ∧ H l = some (.lst src)) ∨ (∃ z : Str, s = .str z ∧ src = z.cps.toList.map (fun c => V.str ⟨#[c]⟩))
def spPick : Sp := fun vs H Q _ => ∃ (p c : Addr) (ns : List Int) (B : Int) (s : V) (src : List V), vs = [.ref p, s] ∧ PenAt H p c ns B ∧ B ≤ 1000 ∧ Src H p s src ∧ 1 ≤ src.length ∧ src.length ≤ 1000 ∧
  ∀ (v : V) (H' : Hp), v ∈ src → PenAt H' p c ns (B + 1) → Off p H H' → Q v H'
section
variable {P : Program} {w : World} {K : PySem.W.Frag} {mg : Str → Option Value} {base : Heap}
theorem scPen : FnScope ["_law_script"] ["_law_script"] (defScope sPen) := ⟨rfl, rfl, rfl, by decide +kernel, rfl, by decide +kernel, by decide +kernel⟩
theorem ok_pen {f : Addr} {fd : FuncData} (F : Fun K "_law_pen" "_law_pen" sPen f fd) (T : Txt mg) : FnOk P w K mg base CX0 1 f fd ["_law_script"] (spPen K) := by
  refine F.ok scPen (fun vs H Q E h => ?_) (fun cdv A outer s H vs Q E hr h => ?_)
  · obtain ⟨a, ns, rfl, _⟩ := h
    rfl
  · obtain ⟨a, ns, rfl, hS, few, q⟩ := h
    refine ⟨_, pss_one (ps_ret (pe_lst (pa_cons (pe_callTy call_list_of (by rfl) T.list (by decide +kernel) (pa_cons (pe_slice sl_list (pv 0) po_none (po_some pe_int)) pa_nil)) (pa_cons pe_int (pa_cons pe_int pa_nil))))), ?_⟩
    refine ⟨.ref a, rfl, 63, rfl, a, _, rfl, hS, fun u hu => ?_⟩
    rw [cut63 (α := Unit) _ (by rw [List.length_map]; exact few)]
    refine ⟨u, _, rfl, .inl (SqL.of upd_same), fun c hc => ⟨by show 3 ≤ sizeLine; decide, fun p hp => ?_⟩⟩
    have ncp : c ≠ p := fun z => by
      rw [← z, upd_same] at hp
      cases hp
    refine q p c _ (fun b o e => ?_) ⟨⟨0, 0, upd_same, Int.le_refl _, Int.le_refl _, Int.le_refl _⟩, by rw [upd_ne ncp, upd_same], few⟩
    have e1 : (upd H u (.lst (ns.map V.int))) b = some o := by
      rw [upd_ne (ne_of_none e hu)]
      exact e
    have e2 : (upd (upd H u (.lst (ns.map V.int))) c (.lst (ns.map V.int))) b = some o := by
      rw [upd_ne (ne_of_none e1 hc)]
      exact e1
    rw [upd_ne (ne_of_none e2 hp)]
    exact e2
theorem scPick : FnScope ["_law_pen_here", "_law_some"] ["_law_pen_here", "_law_some"] (defScope sPick) := ⟨rfl, rfl, rfl, by decide +kernel, rfl, by decide +kernel, by decide +kernel⟩
theorem ok_pick {f fD : Addr} {fd fdD : FuncData} (F : Fun K "_law_pick" "_law_pick" sPick f fd) (T : Txt mg) (FD : Fun K "_law_draw" "_law_draw" sDraw fD fdD) (bD : Binds K fdD ["_law_pen_here", "_law_many"] []) (gD : mg "_law_draw" = some (.ref fD))
    (G : FnOk P w K mg base CX0 1 fD fdD ["_law_pen_here", "_law_many"] spDraw) : FnOk P w K mg base CX0 2 f fd ["_law_pen_here", "_law_some"] spPick := by
  refine F.ok scPick (fun vs H Q E h => ?_) (fun cdv A outer s H vs Q E hr h => ?_)
  · obtain ⟨p, c, ns, B, s, src, rfl, _⟩ := h
    rfl
  · obtain ⟨p, c, ns, B, x, src, rfl, PA0, hB, hs, n1, n2, q⟩ := h
    refine ⟨_, pss_one (ps_ret (pe_ix ix_seq (pv 1) (pe_call G hr (by rfl) gD FD.kp bD .nil pass0 (pa_cons (pv 0) (pa_cons (pe_callB (CallR.or call_len_seq call_len_str) (by rfl) T.len PySem.boot_len (pa_cons (pv 1) pa_nil)) pa_nil))) (fun _ _ => rfl))), ?_⟩
    refine ⟨x, rfl, .ref p, rfl, x, rfl, ?_⟩
    have fin : ∀ (d : Int), 0 ≤ d → d < (src.length : Nat) → ∃ v, v ∈ src ∧ atI src d = some v := fun d h0 h1 => at_in h0 h1
    rcases hs with ⟨l, rfl, nlp, hl⟩ | ⟨z, rfl, rfl⟩
    · refine .inl ⟨l, src, rfl, .inl (SqL.of hl), ?_⟩
      refine ⟨p, c, ns, B, _, rfl, PA0, hB, by omega, by omega, fun d H' d0 d1 PA1 off => ?_⟩
      obtain ⟨v, hv, at1⟩ := fin d d0 d1
      exact .inl ⟨l, src, d, v, rfl, rfl, SqL.of (off l _ nlp hl), at1, q v H' hv PA1 off⟩
    · rw [List.length_map] at n1 n2
      have ez : z.cps.toList.length = z.length := Array.length_toList
      have zs : z.length < sizeLine := small1000 (by omega)
      refine .inr ⟨z, rfl, Nat.le_of_lt zs, ?_⟩
      refine ⟨p, c, ns, B, _, rfl, PA0, hB, by omega, by omega, fun d H' d0 d1 PA1 off => ?_⟩
      have d1' : d < (z.cps.toList.length : Nat) := by rw [ez]; exact d1
      obtain ⟨k, rfl⟩ : ∃ k : Nat, d = (k : Int) := ⟨d.toNat, by omega⟩
      have hk : k < z.cps.toList.length := by omega
      refine .inr (.inr ⟨z, _, z.cps.toList[k], rfl, rfl, Nat.le_of_lt zs, atI_nat (List.getElem?_eq_getElem hk), ?_⟩)
      exact q _ H' (List.mem_map.mpr ⟨_, List.getElem_mem hk, rfl⟩) PA1 off
end
end My
namespace My
open PySem PySem.Spec PyProof.Rows L2
def HD.row : HD → List V
  | .cell n z => [.str "cell", .str n, .int z]
  | .log n => [.str "log", .str n]
  | .fail n => [.str "failure", .str n]
  | .cho => [.str "choice", .str "choice"]
def names : List Str := ["x", "y", "l", "f", "zzzzzzzz", "self", "abcdefgh"]
def rows : List HD := .cho :: (names.map HD.log ++ names.map HD.fail ++ names.map (fun n => HD.cell n 2) ++ names.map (fun n => HD.cell n 3) ++ names.map (fun n => HD.cell n 4))
theorem in_log {n : Str} (h : n ∈ names) : HD.log n ∈ rows := by
  unfold rows
  simp only [List.mem_cons, List.mem_append, List.mem_map]
  exact .inr (.inl (.inl (.inl (.inl ⟨n, h, rfl⟩))))
theorem in_fail {n : Str} (h : n ∈ names) : HD.fail n ∈ rows := by
  unfold rows
  simp only [List.mem_cons, List.mem_append, List.mem_map]
  exact .inr (.inl (.inl (.inl (.inr ⟨n, h, rfl⟩))))
theorem in_cell {n : Str} {z : Int} (h : n ∈ names) (h0 : 2 ≤ z) (h1 : z ≤ 4) : HD.cell n z ∈ rows := by
  unfold rows
  simp only [List.mem_cons, List.mem_append, List.mem_map]
  rcases (by omega : z = 2 ∨ z = 3 ∨ z = 4) with rfl | rfl | rfl
  · exact .inr (.inl (.inl (.inr ⟨n, h, rfl⟩)))
  · exact .inr (.inl (.inr ⟨n, h, rfl⟩))
  · exact .inr (.inr ⟨n, h, rfl⟩)
def spRow : Sp := fun vs H Q _ => ∃ (p c : Addr) (ns : List Int) (B : Int), vs = [.ref p] ∧ PenAt H p c ns B ∧ B + 10 ≤ 1000 ∧
  ∀ (t : Addr) (k : HD) (H' : Hp), k ∈ rows → H' t = some (.tup k.row) → PenAt H' p c ns (B + 3) → Off p H H' → Q (.ref t) H'
abbrev nRow : List Str := ["_law_pen_here", "_law_name", "_law_way"]
section
variable {P : Program} {w : World} {K : PySem.W.Frag} {mg : Str → Option Value} {base : Heap}
theorem scRow : FnScope nRow ["_law_pen_here"] (defScope sRow) := ⟨rfl, rfl, rfl, by decide +kernel, rfl, by decide +kernel, by decide +kernel⟩
theorem PenAt.new {H : Hp} {p c a : Addr} {ns : List Int} {B : Int} {o : HO} (P : PenAt H p c ns B) (h : H a = none) : PenAt (upd H a o) p c ns B := P.keep fun q x e => by
  rw [upd_ne (ne_of_none e h)]
  exact e
theorem ok_row {f fD fP : Addr} {fd fdD fdP : FuncData} (F : Fun K "_law_row" "_law_row" sRow f fd)
    (FD : Fun K "_law_draw" "_law_draw" sDraw fD fdD) (bD : Binds K fdD ["_law_pen_here", "_law_many"] []) (gD : mg "_law_draw" = some (.ref fD)) (GD : FnOk P w K mg base CX0 1 fD fdD ["_law_pen_here", "_law_many"] spDraw)
    (FP : Fun K "_law_pick" "_law_pick" sPick fP fdP) (bP : Binds K fdP ["_law_pen_here", "_law_some"] []) (gP : mg "_law_pick" = some (.ref fP)) (GP : FnOk P w K mg base CX0 2 fP fdP ["_law_pen_here", "_law_some"] spPick) : FnOk P w K mg base CX0 3 f fd ["_law_pen_here"] spRow := by
  refine F.ok scRow (fun vs H Q E h => ?_) (fun cdv A outer s H vs Q E hr h => ?_)
  · obtain ⟨p, c, ns, B, rfl, _⟩ := h
    rfl
  · obtain ⟨p, c, ns, B, rfl, PA0, hB, q⟩ := h
    refine ⟨_, pss_cons (ps_par (i := 1) (j := 2) rfl scRow.nd rfl rfl (by decide) rfl rfl
        (pa_cons (pe_call GP hr (by rfl) gP FP.kp bP .nil pass0 (pa_cons (pv 0) (pa_cons (pe_lst (pa_cons pe_str (pa_cons pe_str (pa_cons pe_str (pa_cons pe_str (pa_cons pe_str (pa_cons pe_str (pa_cons pe_str pa_nil)))))))) pa_nil)))
          (pa_cons (pe_call GD (hr.mono (by decide)) (by rfl) gD FD.kp bD .nil pass0 (pa_cons (pv 0) (pa_cons pe_int pa_nil))) pa_nil)) (by rfl))
      (pss_cons (ps_if (pt_cmpR op_lt (pv 2) pe_int (nomark _)) (pss_one (ps_ret (pe_tup (pa_cons pe_str (pa_cons (pv 1) (pa_cons (pe_op op_add pe_int (pe_call GD (hr.mono (by decide)) (by rfl) gD FD.kp bD .nil pass0 (pa_cons (pv 0) (pa_cons pe_int pa_nil)))) pa_nil)))))) pss_nil)
      (pss_cons (ps_if (pt_cmpR op_eq (pv 2) pe_int (nomark _)) (pss_one (ps_ret (pe_tup (pa_cons pe_str (pa_cons pe_str pa_nil))))) pss_nil)
      (pss_one (ps_ret (pe_tup (pa_cons (pe_ifExp (pt_cmpR op_eq (pv 2) pe_int (nomark _)) pe_str pe_str) (pa_cons (pv 1) pa_nil))))))), ?_⟩
    refine ⟨.ref p, rfl, by show 7 ≤ sizeLine; decide, fun l hl => ?_⟩
    obtain ⟨b, g, hp, _⟩ := PA0.pen
    have nlp : l ≠ p := (ne_of_none hp hl).symm
    refine ⟨p, c, ns, B, .ref l, names.map V.str, rfl, PA0.new hl, by omega, .inl ⟨l, rfl, nlp, upd_same⟩, by decide, by decide, fun v H1 hv PA1 off1 => ?_⟩
    obtain ⟨n, hn, rfl⟩ := List.mem_map.mp hv
    refine ⟨.ref p, rfl, p, c, ns, B + 1, 5, rfl, PA1, by omega, by decide, by decide, fun d H2 d0 d1 PA2 off2 => ⟨_, _, rfl, ?_⟩⟩
    have off : Off p H H2 := ((Off.new hl).trans off1).trans off2
    refine ⟨.int d, rfl, d, 2, rfl, rfl, _, rfl, ite2 (fun e => ?_) (fun e => ?_)⟩
    · refine ⟨.str n, rfl, .ref p, rfl, p, c, ns, B + 2, 3, rfl, PA2.more (by omega), by omega, by decide, by decide, fun e3 H3 k0 k1 PA3 off3 => ?_⟩
      refine ⟨2, e3, rfl, rfl, by show 3 ≤ sizeLine; decide, fun t ht => ?_⟩
      exact q t (.cell n (2 + e3)) _ (in_cell hn (by omega) (by omega)) upd_same ((PA3.new ht).more (by omega)) ((off.trans off3).trans (Off.new ht))
    · refine ⟨.int d, rfl, rfl, _, rfl, ite2 (fun e2 => ?_) (fun e2 => ?_)⟩
      · refine ⟨by show 2 ≤ sizeLine; decide, fun t ht => ?_⟩
        exact q t .cho _ (.head _) upd_same ((PA2.new ht).more (by omega)) (off.trans (Off.new ht))
      · have fin : ∀ (k : HD), k ∈ rows → (∀ t, H2 t = none → Q (.ref t) (upd H2 t (.tup k.row))) := fun k hk t ht => q t k _ hk upd_same ((PA2.new ht).more (by omega)) (off.trans (Off.new ht))
        refine ⟨.int d, rfl, rfl, _, rfl, ite2 (fun e3 => ?_) (fun e3 => ?_)⟩
        · exact ⟨.str n, rfl, by show 2 ≤ sizeLine; decide, fin (.log n) (in_log hn)⟩
        · exact ⟨.str n, rfl, by show 2 ≤ sizeLine; decide, fin (.fail n) (in_fail hn)⟩
/-- a call that might raise, but doesn't -/
theorem passF {X : Cx} : Passes (L2.CX X.prog X.w) X (fun _ _ _ => False) := fun _ _ _ _ _ _ _ h => by
  obtain ⟨_, _, _, _, _, _, _, _, _, _, _, _, z⟩ := h
  exact z.elim
theorem made_same {H H' : Hp} {x dx : Addr} {o : HO} (hx : H x = none) (hdx : H dx = none) (k : Keep1 x (upd (upd H dx (.own x)) x o) H') : Same' H H' := fun b u e => k b u (ne_of_none e hx) (by rw [upd_ne (ne_of_none e hx), upd_ne (ne_of_none e hdx)]; exact e)
def spMade (A : A4) : Sp := fun vs H Q _ => ∃ (t : Addr) (k : HD), vs = [.ref t] ∧ k ∈ rows ∧ H t = some (.tup k.row) ∧ ∀ (a : Addr) (H' : Hp), Same' H H' → IsH A H' a k → Q (.ref a) H'
theorem scMade : FnScope ["_law_row_here"] ["_law_row_here"] (defScope sMade) := ⟨rfl, rfl, rfl, by decide +kernel, rfl, by decide +kernel, by decide +kernel⟩
theorem rows_isN : ∀ k ∈ rows, k.ix ≠ 3 → isN (.str k.nm) = true := by decide +kernel
theorem rows_len : ∀ k ∈ rows, k.nm.length ≤ 8 := by decide +kernel
theorem rows_isZ : ∀ k ∈ rows, ∀ n z, k = .cell n z → 2 ≤ z ∧ z ≤ 4 := by
  intro k hk n z e
  subst e
  have h : ∀ k ∈ rows, (match k with | .cell _ z => decide (2 ≤ z) && decide (z ≤ 4) | _ => true) = true := by decide +kernel
  have q := h _ hk
  simp only [Bool.and_eq_true, decide_eq_true_eq] at q
  exact q
theorem ok_made {A : A4} {f fI0 fI1 fI2 fI3 CN CZ : Addr} {fd d0 d1 d2 d3 : FuncData} (F : Fun K "_law_made" "_law_made" sMade f fd) (S : Hand K mg A)
    (M0 : Mk K A.c fI0) (b0 : Binds K d0 ["self", "name", "size"] []) (G0 : FnOk P w K mg base (L2.CX P w) 6 fI0 d0 ["self", "name", "size"] (spCellI K A.c CN CZ))
    (M1 : Mk K A.l fI1) (b1 : Binds K d1 ["self", "name"] []) (G1 : FnOk P w K mg base (L2.CX P w) 6 fI1 d1 ["self", "name"] (spNamed K A.l CN))
    (M2 : Mk K A.f fI2) (b2 : Binds K d2 ["self", "name"] []) (G2 : FnOk P w K mg base (L2.CX P w) 6 fI2 d2 ["self", "name"] (spNamed K A.f CN))
    (M3 : Mk K A.h fI3) (b3 : Binds K d3 ["self"] []) (G3 : FnOk P w K mg base CX0 1 fI3 d3 ["self"] (spChoI A.h)) : FnOk P w K mg base CX0 8 f fd ["_law_row_here"] (spMade A) := by
  refine F.ok scMade (fun vs H Q E h => ?_) (fun cdv A0 outer s H vs Q E hr h => ?_)
  · obtain ⟨t, k, rfl, _⟩ := h
    rfl
  · obtain ⟨t, k, rfl, hk, ht, q⟩ := h
    refine ⟨_, pss_cons (ps_if (pt_cmpR op_eq (pe_ix ix_tup (pv 0) pe_int (fun _ _ => rfl)) pe_str (nomark _))
        (pss_one (ps_ret (pe_make M0 G0 hr (by rfl) S.cC.g b0 .nil passF (pa_cons (pe_ix ix_tup (pv 0) pe_int (fun _ _ => rfl)) (pa_cons (pe_ix ix_tup (pv 0) pe_int (fun _ _ => rfl)) pa_nil))))) pss_nil)
      (pss_cons (ps_if (pt_cmpR op_eq (pe_ix ix_tup (pv 0) pe_int (fun _ _ => rfl)) pe_str (nomark _))
        (pss_one (ps_ret (pe_make0 M3 G3 (hr.mono (by decide)) (by rfl) S.cH.g b3 .nil pass0))) pss_nil)
      (pss_one (ps_ret (pe_ifExp (pt_cmpR op_eq (pe_ix ix_tup (pv 0) pe_int (fun _ _ => rfl)) pe_str (nomark _))
        (pe_make M1 G1 hr (by rfl) S.cL.g b1 .nil passF (pa_cons (pe_ix ix_tup (pv 0) pe_int (fun _ _ => rfl)) pa_nil))
        (pe_make M2 G2 hr (by rfl) S.cF.g b2 .nil passF (pa_cons (pe_ix ix_tup (pv 0) pe_int (fun _ _ => rfl)) pa_nil)))))), ?_⟩
    have hN := rows_isN k hk
    have hL := rows_len k hk
    have hZ := rows_isZ k hk
    have tS := SqT.of (K := K) ht
    cases k with
    | cell n z =>
      obtain ⟨z2, z4⟩ := hZ n z rfl
      refine ⟨.ref t, rfl, t, _, 0, .str "cell", rfl, rfl, tS, rfl, rfl, true, rfl, iteT ?_⟩
      refine ⟨.ref t, rfl, t, _, 1, .str n, rfl, rfl, tS, rfl, .ref t, rfl, t, _, 2, .int z, rfl, rfl, tS, rfl, fun x dx hx hdx nxd => ?_⟩
      refine ⟨x, dx, .str n, .int z, .str n, .int z, rfl, upd_same, .inl ⟨n, rfl, by show n.length ≤ 1000; exact Nat.le_trans hL (by decide)⟩, .flat (.str n), .flat (.int z), fun _ _ H' k1 e1 => ⟨rfl, q x H' (made_same hx hdx k1) ⟨dx, e1⟩⟩, fun e => ?_, fun _ e => ?_⟩
      · have hn1 : isN (.str n) = true := hN (show (0 : Nat) ≠ 3 by decide)
        rw [hn1] at e
        cases e
      · have : isZ (.int z) = true := by
          show (decide (2 ≤ z) && decide (z ≤ 4)) = true
          rw [decide_eq_true z2, decide_eq_true z4]
          rfl
        rw [this] at e
        cases e
    | log n =>
      refine ⟨.ref t, rfl, t, _, 0, .str "log", rfl, rfl, tS, rfl, rfl, false, rfl, iteF ?_⟩
      refine ⟨.ref t, rfl, t, _, 0, .str "log", rfl, rfl, tS, rfl, rfl, false, rfl, iteF ?_⟩
      refine ⟨.ref t, rfl, t, _, 0, .str "log", rfl, rfl, tS, rfl, rfl, true, rfl, iteT ?_⟩
      refine ⟨.ref t, rfl, t, _, 1, .str n, rfl, rfl, tS, rfl, fun x dx hx hdx nxd => ?_⟩
      refine ⟨x, dx, .str n, .str n, rfl, upd_same, .inl ⟨n, rfl, by show n.length ≤ 1000; exact Nat.le_trans hL (by decide)⟩, .flat (.str n), fun _ H' k1 e1 => ⟨rfl, q x H' (made_same hx hdx k1) ⟨dx, e1⟩⟩, fun e => ?_⟩
      have hn1 : isN (.str n) = true := hN (show (1 : Nat) ≠ 3 by decide)
      rw [hn1] at e
      cases e
    | fail n =>
      refine ⟨.ref t, rfl, t, _, 0, .str "failure", rfl, rfl, tS, rfl, rfl, false, rfl, iteF ?_⟩
      refine ⟨.ref t, rfl, t, _, 0, .str "failure", rfl, rfl, tS, rfl, rfl, false, rfl, iteF ?_⟩
      refine ⟨.ref t, rfl, t, _, 0, .str "failure", rfl, rfl, tS, rfl, rfl, false, rfl, iteF ?_⟩
      refine ⟨.ref t, rfl, t, _, 1, .str n, rfl, rfl, tS, rfl, fun x dx hx hdx nxd => ?_⟩
      refine ⟨x, dx, .str n, .str n, rfl, upd_same, .inl ⟨n, rfl, by show n.length ≤ 1000; exact Nat.le_trans hL (by decide)⟩, .flat (.str n), fun _ H' k1 e1 => ⟨rfl, q x H' (made_same hx hdx k1) ⟨dx, e1⟩⟩, fun e => ?_⟩
      have hn1 : isN (.str n) = true := hN (show (2 : Nat) ≠ 3 by decide)
      rw [hn1] at e
      cases e
    | cho =>
      refine ⟨.ref t, rfl, t, _, 0, .str "choice", rfl, rfl, tS, rfl, rfl, false, rfl, iteF ?_⟩
      refine ⟨.ref t, rfl, t, _, 0, .str "choice", rfl, rfl, tS, rfl, rfl, true, rfl, iteT ?_⟩
      intro x dx hx hdx nxd
      exact ⟨x, dx, rfl, upd_same, fun H' k1 e1 => ⟨rfl, q x H' (made_same hx hdx k1) ⟨dx, e1⟩⟩⟩
/-! ### of which classes a handler is -/
def HD.faces (k : HD) : List Bool := [decide (k.ix = 0), decide (k.ix = 1), decide (k.ix = 2), decide (k.ix = 3), decide (k.ix ≠ 3), decide (k.ix < 2), decide (2 ≤ k.ix), true]
structure Bases (K : PySem.W.Frag) (mg : Str → Option Value) (A : A4) (bN bK bT bH : Addr) : Prop where
  gN : mg "Named" = some (.ref bN)
  gK : mg "Keeping" = some (.ref bK)
  gT : mg "Turning" = some (.ref bT)
  gH : mg "Handler" = some (.ref bH)
  kN : ∀ i, i < 4 → PySem.W.kitOne K (.ref (A.at i)) (.ref bN) = some (decide (i ≠ 3))
  kK : ∀ i, i < 4 → PySem.W.kitOne K (.ref (A.at i)) (.ref bK) = some (decide (i < 2))
  kT : ∀ i, i < 4 → PySem.W.kitOne K (.ref (A.at i)) (.ref bT) = some (decide (2 ≤ i))
  kH : ∀ i, i < 4 → PySem.W.kitOne K (.ref (A.at i)) (.ref bH) = some true
def spFaces (A : A4) : Sp := fun vs H Q _ => ∃ (a : Addr) (k : HD), vs = [.ref a] ∧ IsH A H a k ∧ ∀ (l : Addr) (H' : Hp), Same' H H' → H' l = some (.lst (k.faces.map V.bl)) → Q (.ref l) H'
theorem scFaces : FnScope ["_law_one", "_law_found"] ["_law_one"] (defScope sFaces) := ⟨rfl, rfl, rfl, by decide +kernel, rfl, by decide +kernel, by decide +kernel⟩
theorem ok_faces {A : A4} {f bN bK bT bH : Addr} {fd : FuncData} (F : Fun K "_law_faces" "_law_faces" sFaces f fd) (S : Hand K mg A) (T : Txt mg) (Ba : Bases K mg A bN bK bT bH) : FnOk P w K mg base CX0 1 f fd ["_law_one"] (spFaces A) := by
  refine F.ok scFaces (fun vs H Q E h => ?_) (fun cdv A0 outer s H vs Q E hr h => ?_)
  · obtain ⟨t, k, rfl, _⟩ := h
    rfl
  · obtain ⟨a, k, rfl, ha, q⟩ := h
    refine ⟨_, pss_cons (ps_set (i := 1) scFaces.nd rfl (.inl rfl) (pe_lst
        (pa_cons (pe_callB call_isi (by rfl) T.isi (by decide +kernel) (pa_cons (pv 0) (pa_cons (pe_glob (v := .ref A.c) rfl S.cC.g rfl) pa_nil)))
        (pa_cons (pe_callB call_isi (by rfl) T.isi (by decide +kernel) (pa_cons (pv 0) (pa_cons (pe_glob (v := .ref A.l) rfl S.cL.g rfl) pa_nil)))
        (pa_cons (pe_callB call_isi (by rfl) T.isi (by decide +kernel) (pa_cons (pv 0) (pa_cons (pe_glob (v := .ref A.f) rfl S.cF.g rfl) pa_nil)))
        (pa_cons (pe_callB call_isi (by rfl) T.isi (by decide +kernel) (pa_cons (pv 0) (pa_cons (pe_glob (v := .ref A.h) rfl S.cH.g rfl) pa_nil))) pa_nil))))))
      (pss_one (ps_ret (pe_op op_cat (pv 1) (pe_lst
        (pa_cons (pe_callB call_isi (by rfl) T.isi (by decide +kernel) (pa_cons (pv 0) (pa_cons (pe_glob (v := .ref bN) rfl Ba.gN rfl) pa_nil)))
        (pa_cons (pe_callB call_isi (by rfl) T.isi (by decide +kernel) (pa_cons (pv 0) (pa_cons (pe_glob (v := .ref bK) rfl Ba.gK rfl) pa_nil)))
        (pa_cons (pe_callB call_isi (by rfl) T.isi (by decide +kernel) (pa_cons (pv 0) (pa_cons (pe_glob (v := .ref bT) rfl Ba.gT rfl) pa_nil)))
        (pa_cons (pe_callB call_isi (by rfl) T.isi (by decide +kernel) (pa_cons (pv 0) (pa_cons (pe_glob (v := .ref bH) rfl Ba.gH rfl) pa_nil))) pa_nil)))))))), ?_⟩
    have il := k.ix_lt
    have ty := S.ty ha
    refine ⟨.ref a, rfl, .ref a, .ref A.c, _, .ref A.c, _, rfl, .own _, ty, S.kit _ 0 il (by decide), ?_⟩
    refine ⟨.ref a, rfl, .ref a, .ref A.l, _, .ref A.l, _, rfl, .own _, ty, S.kit _ 1 il (by decide), ?_⟩
    refine ⟨.ref a, rfl, .ref a, .ref A.f, _, .ref A.f, _, rfl, .own _, ty, S.kit _ 2 il (by decide), ?_⟩
    refine ⟨.ref a, rfl, .ref a, .ref A.h, _, .ref A.h, _, rfl, .own _, ty, S.kit _ 3 il (by decide), ?_⟩
    refine ⟨by show 4 ≤ sizeLine; decide, fun l1 h1 => ?_⟩
    have sm1 : Same' H (upd H l1 (.lst [.bl (decide (k.ix = 0)), .bl (decide (k.ix = 1)), .bl (decide (k.ix = 2)), .bl (decide (k.ix = 3))])) := same_new h1
    have ty1 := S.ty (ha.keep sm1)
    refine ⟨.ref l1, rfl, .ref a, rfl, .ref a, .ref bN, _, .ref bN, _, rfl, .own _, ty1, Ba.kN _ il, ?_⟩
    refine ⟨.ref a, rfl, .ref a, .ref bK, _, .ref bK, _, rfl, .own _, ty1, Ba.kK _ il, ?_⟩
    refine ⟨.ref a, rfl, .ref a, .ref bT, _, .ref bT, _, rfl, .own _, ty1, Ba.kT _ il, ?_⟩
    refine ⟨.ref a, rfl, .ref a, .ref bH, _, .ref bH, _, rfl, .own _, ty1, Ba.kH _ il, ?_⟩
    refine ⟨by show 4 ≤ sizeLine; decide, fun l2 h2 => ?_⟩
    refine ⟨l1, l2, _, _, rfl, rfl, same_new h2 _ _ upd_same, upd_same, by show 8 ≤ sizeLine; decide, fun p hp => ?_⟩
    exact q p _ ((sm1.trans (same_new h2)).trans (same_new hp)) upd_same
end
end My
namespace My
open PySem PySem.Spec PyProof.Rows L2
/-- a handler class's own methods -/
structure Own (P : Program) (w : World) (K : PySem.W.Frag) (mg : Str → Option Value) (base : Heap) (A : A4) (i : Nat) (fE fT : Addr) (dE dT : FuncData) : Prop where
  eq : PySem.W.findIn K (.ref (A.at i)) "__eq__" = some (some (.ref fE))
  ef : PySem.W.isFn K (.ref fE) = true
  ne : PySem.W.findIn K (.ref (A.at i)) "__ne__" = some (some (.builtin "object.__ne__"))
  bE : Binds K dE ["self", "other"] []
  gE : FnOk P w K mg base CX0 1 fE dE ["self", "other"] (spEq K A i)
  st : PySem.W.findIn K (.ref (A.at i)) "__str__" = some (some (.ref fT))
  tf : PySem.W.isFn K (.ref fT) = true
  bT : Binds K dT ["self"] []
  gT : FnOk P w K mg base CX0 1 fT dT ["self"] (spStr A i)
  nf : ∀ j, j < 4 → PySem.W.notFirst K (A.at i) (.ref (A.at j)) = true
def Owns (P : Program) (w : World) (K : PySem.W.Frag) (mg : Str → Option Value) (base : Heap) (A : A4) : Prop := ∀ i, i < 4 → ∃ fE fT dE dT, Own P w K mg base A i fE fT dE dT
section
variable {X : Cx} {A : A4}
theorem other_ty {K : PySem.W.Frag} {mg : Str → Option Value} {P : Program} {w : World} {base : Heap} {fE fT : Addr} {dE dT : FuncData} {H : Hp} {y : V} {k : HD} {r : Bool} (S : Hand K mg A) (O : Own P w K mg base A k.ix fE fT dE dT) (h : Other K A H y k r) : ∃ t, TyX K H y t ∧ PySem.W.notFirst K (A.at k.ix) t = true := by
  rcases h with ⟨b, k2, rfl, h2, _⟩ | ⟨⟨T, ty, kk⟩, _⟩
  · exact ⟨_, S.ty h2, O.nf _ k2.ix_lt⟩
  · exact ⟨_, ty, (kk _ k.ix_lt).2⟩
def rEqH (K : PySem.W.Frag) (A : A4) (neg : Bool) : R2 := fun x y H Q => ∃ (a : Addr) (k : HD) (r : Bool), x = .ref a ∧ IsH A H a k ∧ Other K A H y k r ∧ Q (.bl (if neg then !r else r)) H
theorem op_eqH (S : Hand X.K X.mg A) (O : Owns X.prog X.w X.K X.mg X.base A) (hr : Room 1 X.A) (hgu : X.A.guards = some []) : OpR X (compareOp .Eq) (rEqH X.K A false) := by
  intro pins s σ H x y v u Q I rx ry h
  obtain ⟨a, k, r, rfl, ha, ot, q⟩ := h
  obtain ⟨fE, fT, dE, dT, o⟩ := O k.ix k.ix_lt
  obtain ⟨t, ty, nf⟩ := other_ty S o ot
  obtain ⟨dx, ea⟩ := id ha
  exact op_eqOwn (C := A.at k.ix) (E := fun _ _ _ => False) (toG o.gE) hr hgu o.eq o.ef o.bE pass0 pins s σ H _ y v u Q I rx ry ⟨a, dx, _, t, rfl, ea, ty, nf, a, k, y, r, rfl, rfl, ha, ot, r, rfl, q⟩
theorem op_neH (S : Hand X.K X.mg A) (O : Owns X.prog X.w X.K X.mg X.base A) (hr : Room 2 X.A) (hgu : X.A.guards = some []) : OpR X (compareOp .NotEq) (rEqH X.K A true) := by
  intro pins s σ H x y v u Q I rx ry h
  obtain ⟨a, k, r, rfl, ha, ot, q⟩ := h
  obtain ⟨fE, fT, dE, dT, o⟩ := O k.ix k.ix_lt
  obtain ⟨t, ty, nf⟩ := other_ty S o ot
  obtain ⟨dx, ea⟩ := id ha
  exact op_neOwn (C := A.at k.ix) (E := fun _ _ _ => False) (toG o.gE) hr hgu o.eq o.ef o.ne (S.mo _ k.ix_lt) o.bE pass0 pins s σ H _ y v u Q I rx ry ⟨a, dx, _, t, rfl, ea, ty, nf, a, k, y, r, rfl, rfl, ha, ot, r, rfl, r, rfl, q⟩
def rStrH (A : A4) : List V → Hp → VK → Prop := fun xs H Q => ∃ (a : Addr) (k : HD), xs = [.ref a] ∧ IsH A H a k ∧ k ∈ rows ∧ Q (.str k.text) H
theorem rows_text : ∀ k ∈ rows, ∀ n z, k = .cell n z → z.natAbs.log2 < 1920 ∧ k.text.length ≤ 2000 := by
  intro k hk n z e
  have h : ∀ k ∈ rows, (match k with | .cell _ z => decide (z.natAbs.log2 < 1920) | _ => true) = true ∧ k.text.length ≤ 2000 := by decide +kernel
  have q := h _ hk
  subst e
  exact ⟨of_decide_eq_true q.1, q.2⟩
theorem call_strH (O : Owns X.prog X.w X.K X.mg X.base A) (hr : Room 3 X.A) (hgu : X.A.guards = some []) : CallR X (.type "str") (rStrH A) := by
  intro pins s σ H xs us Q I r h
  obtain ⟨a, k, rfl, ha, hk, q⟩ := h
  obtain ⟨fE, fT, dE, dT, o⟩ := O k.ix k.ix_lt
  obtain ⟨dx, ea⟩ := id ha
  exact call_strOwn (C := A.at k.ix) (E := fun _ _ _ => False) (toG o.gT) hr hgu o.st o.tf o.bT pass0 pins s σ H _ us Q I r ⟨a, dx, _, rfl, ea, a, k, rfl, rfl, ha, Nat.le_trans (rows_len k hk) (by decide), rows_text k hk, _, rfl, q⟩
end
/-! ### a row as data -/
def HD.rd : HD → PyData
  | .cell n z => .tuple [.str "cell", .str n, .int z]
  | .log n => .tuple [.str "log", .str n]
  | .fail n => .tuple [.str "failure", .str n]
  | .cho => .tuple [.str "choice", .str "choice"]
theorem row_dp {K : PySem.W.Frag} {H : Hp} {t : Addr} {k : HD} (h : H t = some (.tup k.row)) : Dp K H (.ref t) k.rd := by
  cases k with
  | cell n z => exact .tup (SqT.of h) (.cons (.str _) (.cons (.str _) (.cons (.int _) .nil)))
  | log n => exact .tup (SqT.of h) (.cons (.str _) (.cons (.str _) .nil))
  | fail n => exact .tup (SqT.of h) (.cons (.str _) (.cons (.str _) .nil))
  | cho => exact .tup (SqT.of h) (.cons (.str _) (.cons (.str _) .nil))
theorem rd_shaped : ∀ k ∈ rows, SeqAt.shaped k.rd = true := by decide +kernel
theorem rd_eqv (k k2 : HD) : PyData.eqv k.rd k2.rd = decide (k = k2) := by
  have h1 : Str.ofString "log" ≠ Str.ofString "failure" := by decide +kernel
  have h2 : Str.ofString "log" ≠ Str.ofString "choice" := by decide +kernel
  have h3 : Str.ofString "failure" ≠ Str.ofString "choice" := by decide +kernel
  have bd : ∀ a b : Str, (a == b) = decide (a = b) := fun a b => by
    rw [Bool.eq_iff_iff]
    simp
  have bi : ∀ a b : Int, (a == b) = decide (a = b) := fun a b => by
    rw [Bool.eq_iff_iff]
    simp
  cases k <;> cases k2 <;> simp [HD.rd, PyData.eqv, PyData.eqvAll, h1, h2, h3, h1.symm, h2.symm, h3.symm, bd, bi]
/-! ### _law_right -/
abbrev nRight : List Str := ["_law_row_here", "_law_other", "_law_one", "_law_word", "_law_found", "_law_plain_so", "_law_part", "_law_thing"]
theorem scRight : FnScope nRight ["_law_row_here", "_law_other"] (defScope sRight) := ⟨rfl, rfl, rfl, by decide +kernel, rfl, by decide +kernel, by decide +kernel⟩
def inR (i : Nat) : Stmt := (defBody sRight).getD i (.Pass ⟨0, 0, 0, 0⟩)
abbrev XR (P : Program) (w : World) (K : PySem.W.Frag) (mg : Str → Option Value) (base : Heap) (f : Addr) (cdv : Value) (A : Around) (outer : List Env) (s : Shared) (H : Hp) (E : XK) : Cx := cxOf CX0 P w K mg base nRight "_law_right" (defScope sRight) f cdv A outer s H E
theorem face_words (k : HD) (h : k ∈ rows) : ([V.bl (decide (V.str k.wd = V.str "cell")), V.bl (decide (V.str k.wd = V.str "log")), V.bl (decide (V.str k.wd = V.str "failure")), V.bl (decide (V.str k.wd = V.str "choice")), V.bl (!decide (V.str k.wd = V.str "choice"))] : List V) ++
    [V.bl (inV (V.str k.wd) [V.str "cell", V.str "log"]), V.bl (inV (V.str k.wd) [V.str "failure", V.str "choice"]), V.bl true] = k.faces.map V.bl := by
  have hh : ∀ k ∈ rows, ([V.bl (decide (V.str k.wd = V.str "cell")), V.bl (decide (V.str k.wd = V.str "log")), V.bl (decide (V.str k.wd = V.str "failure")), V.bl (decide (V.str k.wd = V.str "choice")), V.bl (!decide (V.str k.wd = V.str "choice"))] : List V) ++
    [V.bl (inV (V.str k.wd) [V.str "cell", V.str "log"]), V.bl (inV (V.str k.wd) [V.str "failure", V.str "choice"]), V.bl true] = k.faces.map V.bl := by decide +kernel
  exact hh k h
section
variable {P : Program} {w : World} {K : PySem.W.Frag} {mg : Str → Option Value} {base : Heap} {f : Addr} {cdv : Value} {A0 : Around} {outer : List Env} {s : Shared} {H0 : Hp} {E : XK} {A : A4}
/-- one, word = made(row), row[0] -/
theorem rp1 {fM : Addr} {dM : FuncData} (hr : Room 9 (XR P w K mg base f cdv A0 outer s H0 E).A) (FM : Fun K "_law_made" "_law_made" sMade fM dM) (bM : Binds K dM ["_law_row_here"] []) (gM : mg "_law_made" = some (.ref fM)) (GM : FnOk P w K mg base CX0 8 fM dM ["_law_row_here"] (spMade A)) :
    ∃ t, PS (XR P w K mg base f cdv A0 outer s H0 E) (inR 0) t ∧ ∀ (tr : Addr) (k : HD) (σ : L2.St) (H : Hp) (D : Ends), σ[0]? = some (some (.ref tr)) → H tr = some (.tup k.row) → k ∈ rows →
      (∀ a H', Same' H H' → IsH A H' a k → D.nx ((σ.set 2 (some (.ref a))).set 3 (some (.str k.wd))) H') → t D σ H := by
  refine ⟨_, ps_asg (pe_tup (pa_cons (pe_call GM (hr.mono (by decide)) (by rfl) gM FM.kp bM .nil pass0 (pa_cons (pv 0) pa_nil)) (pa_cons (pe_ix ix_tup (pv 0) pe_int (fun _ _ => rfl)) pa_nil)))
    (pg_tup (n := 2) rfl (pgs_cons (pg_name (i := 2) scRight.nd rfl (.inr rfl)) (pgs_cons (pg_name (i := 3) scRight.nd rfl (.inl rfl)) pgs_nil))), ?_⟩
  intro tr k σ H D s0 ht hk q
  refine ⟨.ref tr, s0, tr, k, rfl, hk, ht, fun a H1 sm ha => ?_⟩
  refine ⟨.ref tr, s0, tr, _, 0, .str k.wd, rfl, rfl, SqT.of (sm _ _ ht), by cases k <;> rfl, by show 2 ≤ sizeLine; decide, fun p hp => ?_⟩
  refine ⟨p, _, rfl, SqT.of upd_same, rfl, _, _, rfl, _, _, rfl, rfl, ?_⟩
  exact q a _ (sm.trans (same_new hp)) (ha.keep (same_new hp))
/-- found = [..] -/
theorem rp2 : ∃ t, PS (XR P w K mg base f cdv A0 outer s H0 E) (inR 1) t ∧ ∀ (k : HD) (σ : L2.St) (H : Hp) (D : Ends), σ[3]? = some (some (.str k.wd)) →
      (∀ l H', Same' H H' → H' l = some (.lst [V.bl (decide (V.str k.wd = V.str "cell")), V.bl (decide (V.str k.wd = V.str "log")), V.bl (decide (V.str k.wd = V.str "failure")), V.bl (decide (V.str k.wd = V.str "choice")), V.bl (!decide (V.str k.wd = V.str "choice"))]) → D.nx (σ.set 4 (some (.ref l))) H') → t D σ H := by
  refine ⟨_, ps_set (i := 4) scRight.nd rfl (.inl rfl) (pe_lst (pa_cons (pe_cmpR op_eq (pv 3) pe_str (nomark _)) (pa_cons (pe_cmpR op_eq (pv 3) pe_str (nomark _)) (pa_cons (pe_cmpR op_eq (pv 3) pe_str (nomark _)) (pa_cons (pe_cmpR op_eq (pv 3) pe_str (nomark _))
    (pa_cons (pe_cmpR op_ne (pv 3) pe_str (nomark _)) pa_nil)))))), ?_⟩
  intro k σ H D s3 q
  refine ⟨_, s3, rfl, _, s3, rfl, _, s3, rfl, _, s3, rfl, _, s3, rfl, by show 5 ≤ sizeLine; decide, fun l hl => ?_⟩
  exact q l _ (same_new hl) upd_same
/-- found = found + [..] -/
theorem rp3 : ∃ t, PS (XR P w K mg base f cdv A0 outer s H0 E) (inR 2) t ∧ ∀ (k : HD) (l : Addr) (σ : L2.St) (H : Hp) (D : Ends), σ[3]? = some (some (.str k.wd)) → σ[4]? = some (some (.ref l)) → k ∈ rows →
      H l = some (.lst [V.bl (decide (V.str k.wd = V.str "cell")), V.bl (decide (V.str k.wd = V.str "log")), V.bl (decide (V.str k.wd = V.str "failure")), V.bl (decide (V.str k.wd = V.str "choice")), V.bl (!decide (V.str k.wd = V.str "choice"))]) →
      (∀ l H', Same' H H' → H' l = some (.lst (k.faces.map V.bl)) → D.nx (σ.set 4 (some (.ref l))) H') → t D σ H := by
  refine ⟨_, ps_set (i := 4) scRight.nd rfl (.inl rfl) (pe_op op_cat (pv 4) (pe_lst (pa_cons (pe_cmpR op_in_seq (pv 3) (pe_tup (pa_cons pe_str (pa_cons pe_str pa_nil))) (by rfl))
    (pa_cons (pe_cmpR op_in_seq (pv 3) (pe_tup (pa_cons pe_str (pa_cons pe_str pa_nil))) (by rfl)) (pa_cons pe_bl pa_nil))))), ?_⟩
  intro k l σ H D s3 s4 hk hl q
  refine ⟨_, s4, _, s3, by show 2 ≤ sizeLine; decide, fun p1 h1 => ⟨p1, _, rfl, .inr (SqT.of upd_same), rfl, by decide +kernel, ?_⟩⟩
  refine ⟨_, s3, by show 2 ≤ sizeLine; decide, fun p2 h2 => ⟨p2, _, rfl, .inr (SqT.of upd_same), rfl, by decide +kernel, ?_⟩⟩
  refine ⟨by show 3 ≤ sizeLine; decide, fun l2 hl2 => ?_⟩
  have sm := ((same_new (o := .tup [.str "cell", .str "log"]) h1).trans (same_new (o := .tup [.str "failure", .str "choice"]) h2)).trans (same_new (o := .lst [V.bl (inV (V.str k.wd) [V.str "cell", V.str "log"]), V.bl (inV (V.str k.wd) [V.str "failure", V.str "choice"]), V.bl true]) hl2)
  refine ⟨l, l2, _, _, rfl, rfl, sm _ _ hl, upd_same, by show 8 ≤ sizeLine; decide, fun p hp => ?_⟩
  refine q p _ (sm.trans (same_new hp)) ?_
  rw [upd_same]
  exact congrArg (fun z => some (HO.lst z)) (face_words k hk)
end
end My
namespace My
open PySem PySem.Spec PyProof.Rows L2
def testOf (s : Stmt) : Expr := match s with
  | .If c _ _ _ => c
  | _ => .Name "" ⟨0, 0, 0, 0⟩
def strOf : V → V
  | .int i => .str (toString i)
  | x => x
def HD.parts : HD → List Str
  | .cell n z => ["cell", n, toString z]
  | .log n => ["log", n]
  | .fail n => ["failure", n]
  | .cho => ["choice", "choice"]
theorem row_parts (k : HD) : k.row.map strOf = k.parts.map V.str := by cases k <;> rfl
theorem rows_items : ∀ k ∈ rows, ∀ x ∈ k.row, (match x with | .str _ => true | .int i => decide (i.natAbs.log2 < 1920) | _ => false) = true := by decide +kernel
theorem rows_join : ∀ k ∈ rows, k.wd ≠ "choice" → Txt.join " " k.parts = k.text := by decide +kernel
theorem rows_sum : ∀ k ∈ rows, (k.parts.map (·.length)).sum + k.parts.length * (1 : Nat) ≤ 1000 := by decide +kernel
theorem rows_few : ∀ k ∈ rows, k.row.length ≤ 3 := by decide +kernel
theorem rows_fine : ∀ k ∈ rows, (PyData.str k.nm).showable = true ∧ (PyData.str k.nm).depth ≤ 8 ∧ (PyData.str k.nm).shown.length ≤ 1000 := by decide +kernel
theorem fineN {k : HD} (h : k ∈ rows) : Fine (.str k.nm) := by
  obtain ⟨h1, h2, h3⟩ := rows_fine k h
  exact ⟨h1, h2, Nat.le_trans h3 (by decide)⟩
theorem fineZ {n : Str} {z : Int} (h : HD.cell n z ∈ rows) : Fine (.int z) := by
  obtain ⟨z2, z4⟩ := rows_isZ _ h n z rfl
  rcases (by omega : z = 2 ∨ z = 3 ∨ z = 4) with rfl | rfl | rfl <;> exact ⟨by decide +kernel, by decide +kernel, by decide +kernel⟩
theorem row_1 (k : HD) : atI k.row 1 = some (.str k.nm) := by cases k <;> rfl
theorem flds_name (k : HD) : k.flds.lookup (Str.ofString "name") = some (.str k.nm) := by cases k <;> rfl
theorem flds_word (k : HD) : k.flds.lookup (Str.ofString "WORD") = none := by cases k <;> rfl
theorem dpBools {K : PySem.W.Frag} {H : Hp} : ∀ l : List Bool, DpAll K H (l.map V.bl) (l.map PyData.bool)
  | [] => .nil
  | _ :: r => .cons (.bl _) (dpBools r)
theorem faces_eqv (k : HD) : PyData.eqv (.list (k.faces.map PyData.bool)) (.list (k.faces.map PyData.bool)) = true := by
  simp [HD.faces, PyData.eqv, PyData.eqvAll]
theorem only_cho (k : HD) (h : k.wd = "choice") : k = .cho := by
  cases k with
  | cell n z => exact absurd (show Str.ofString "cell" = Str.ofString "choice" from h) (by decide +kernel)
  | log n => exact absurd (show Str.ofString "log" = Str.ofString "choice" from h) (by decide +kernel)
  | fail n => exact absurd (show Str.ofString "failure" = Str.ofString "choice" from h) (by decide +kernel)
  | cho => rfl
section
variable {P : Program} {w : World} {K : PySem.W.Frag} {mg : Str → Option Value} {base : Heap} {f : Addr} {cdv : Value} {A0 : Around} {outer : List Env} {s : Shared} {H0 : Hp} {E : XK} {A : A4}
/-- plain_so -/
theorem rp4 (T : Txt mg) : ∃ t, PS (XR P w K mg base f cdv A0 outer s H0 E) (inR 3) t ∧ ∀ (tr : Addr) (k : HD) (y1 y2 y4 y5 y6 y7 : Option V) (H : Hp) (D : Ends), H tr = some (.tup k.row) → k ∈ rows →
      (∀ H', Same' H H' → D.nx [some (.ref tr), y1, y2, some (.str k.wd), y4, some (.str k.text), y6, y7] H') → t D [some (.ref tr), y1, y2, some (.str k.wd), y4, y5, y6, y7] H := by
  refine ⟨_, ps_set (i := 5) scRight.nd rfl (.inl rfl) (pe_ifExp (pt_cmpR op_eq (pv 3) pe_str (nomark _)) pe_str
    (pe_join pe_str (pe_lc (own := [("_law_part", 6)]) (g := gName 6) (tt := tYes) rfl scRight.nd (pi_tup (pv 0)) (blkOk_by (N := nRight) (sc := defScope sRight) (by decide +kernel)) (fun _ _ _ _ _ => pg_name (i := 6) scRight.nd rfl (Or.inl rfl)) (fun _ _ _ _ _ => pts_nil)
      (fun _ _ _ _ _ => pe_callTy (CallR.or SkE.call_str_str call_str_int) (by rfl) T.str (by decide +kernel) (pa_cons (pv 6) pa_nil))))), ?_⟩
  intro tr k y1 y2 y4 y5 y6 y7 H D ht hk q
  refine ⟨_, rfl, rfl, _, rfl, ite2 (fun e => ?_) (fun e => ?_)⟩
  · have ew : k = .cho := by
      have : k.wd = "choice" := by simpa using e
      exact only_cho k this
    subst ew
    exact q H fun _ _ e => e
  · have nw : k.wd ≠ "choice" := by simpa using e
    refine ⟨⟨_, rfl⟩, .ref tr, rfl, tr, rfl, ⟨_, SqT.of ht⟩, fun D1 hD => ?_⟩
    refine lc_tup (K := K) (a := tr) (xs := k.row) (fun i H' => Same' H H' ∧ H' D1 = some (.lst ((k.row.map strOf).take i))) ⟨same_new hD, upd_same⟩ (fun i H' _ hp => SqT.of (hp.1 _ _ ht)) (fun i x H' hx hp => ?_) (fun H' hp => ?_)
    · obtain ⟨sm, ed⟩ := hp
      have hm := List.mem_of_getElem? hx
      have ok := rows_items k hk x hm
      have i3 : i < 3 := Nat.lt_of_lt_of_le (List.getElem?_eq_some_iff.mp hx).1 (rows_few k hk)
      have step : ∀ y, strOf x = y → ∃ acc, H' D1 = some (.lst acc) ∧ acc.length < sizeLine ∧ (Same' H (upd H' D1 (.lst (acc ++ [y]))) ∧ (upd H' D1 (.lst (acc ++ [y]))) D1 = some (.lst ((k.row.map strOf).take (i + 1)))) := fun y hy => by
        refine ⟨_, ed, ?_, same_over hD sm, ?_⟩
        · rw [List.length_take]
          exact small1000 (Nat.le_trans (Nat.min_le_left _ _) (by omega))
        · rw [upd_same, List.take_add_one, List.getElem?_map, hx, ← hy]
          rfl
      refine ⟨rfl, ?_⟩
      cases x with
      | str z => exact ⟨.str z, rfl, .inl ⟨z, rfl, step _ rfl⟩⟩
      | int j => exact ⟨.int j, rfl, .inr ⟨j, rfl, of_decide_eq_true ok, step _ rfl⟩⟩
      | _ => cases ok
    · obtain ⟨sm, ed⟩ := hp
      have e3 : (k.row.map strOf).take k.row.length = k.parts.map V.str := by
        rw [← row_parts, List.take_of_length_le]
        rw [List.length_map]
        exact Nat.le_refl _
      rw [e3] at ed
      refine ⟨" ", D1, k.parts, rfl, rfl, .inl (SqL.of ed), Nat.le_trans (rows_sum k hk) (by decide), ?_⟩
      rw [rows_join k hk nw]
      exact q H' sm
/-- the first check -/
theorem rp5 {bN bK bT bH fF : Addr} {dF : FuncData} (T : Txt mg) (S : Hand K mg A) (O : Owns P w K mg base A) (W : ∀ k : HD, ∃ u, Con K (A.at k.ix) "WORD" (.str k.wd) u) (hr : Room 9 (XR P w K mg base f cdv A0 outer s H0 E).A) (hg : (XR P w K mg base f cdv A0 outer s H0 E).A.guards = some [])
    (FF : Fun K "_law_faces" "_law_faces" sFaces fF dF) (bF : Binds K dF ["_law_one"] []) (gF : mg "_law_faces" = some (.ref fF)) (GF : FnOk P w K mg base CX0 1 fF dF ["_law_one"] (spFaces A)) :
    ∃ t, PT (XR P w K mg base f cdv A0 outer s H0 E) (testOf (inR 4)) t ∧ ∀ (tr a l : Addr) (k : HD) (σ : L2.St) (H : Hp) (Q : Bool → Hp → Prop), σ[0]? = some (some (.ref tr)) → σ[2]? = some (some (.ref a)) → σ[3]? = some (some (.str k.wd)) → σ[4]? = some (some (.ref l)) → σ[5]? = some (some (.str k.text)) →
      H tr = some (.tup k.row) → k ∈ rows → IsH A H a k → H l = some (.lst (k.faces.map V.bl)) → (∀ H', Same' H H' → Q false H') → t σ H Q := by
  have hu : (XR P w K mg base f cdv A0 outer s H0 E).A.units + 64 < cLine := hr.units
  refine ⟨_, PW.pt (pw_or (pt_cmpR (op_neD hu) (pe_call GF (hr.mono (by decide)) (by rfl) gF FF.kp bF .nil pass0 (pa_cons (pv 2) pa_nil)) (pv 4) (nomark _))
    (pw_or (pt_cmpR op_ne (pe_con (pv 2) (by rfl)) (pv 3) (nomark _))
    (pw_or (pt_cmpR op_ne (pe_callTy (call_strH O (hr.mono (by decide)) hg) (by rfl) T.str (by decide +kernel) (pa_cons (pv 2) pa_nil)) (pv 5) (nomark _))
    (pw_or1 (pt_cmpR op_ne (pe_callB (call_reprT hg hu) (by rfl) T.repr (by decide +kernel) (pa_cons (pe_fld (pv 2) (by rfl)) pa_nil)) (pe_callB (call_reprT hg hu) (by rfl) T.repr (by decide +kernel) (pa_cons (pe_ix ix_tup (pv 0) pe_int (fun _ _ => rfl)) pa_nil)) (nomark _)))))), ?_⟩
  intro tr a l k σ H Q s0 s2 s3 s4 s5 ht hk ha hl q
  refine ⟨.ref a, s2, a, k, rfl, ha, fun l2 H1 sm1 hl2 => ?_⟩
  have fs : SeqAt.shaped (.list (k.faces.map PyData.bool)) = true := rfl
  have fe : PyData.eqv (.list (k.faces.map PyData.bool)) (.list (k.faces.map PyData.bool)) = true := faces_eqv k
  refine ⟨.ref l, s4, .list (k.faces.map PyData.bool), .list (k.faces.map PyData.bool), .lst (xs := k.faces.map V.bl) (SqL.of hl2) (dpBools _), .lst (xs := k.faces.map V.bl) (SqL.of (sm1 _ _ hl)) (dpBools _), fs, fs, _, rfl, ?_⟩
  rw [fe]
  refine iteF ?_
  obtain ⟨u, cw⟩ := W k
  obtain ⟨dx, ea⟩ := ha.keep sm1
  obtain ⟨c1, c2, c3⟩ := S.cls k
  refine ⟨.ref a, s2, a, _, dx, _, .str k.wd, u, rfl, ea, c1, cw, flds_word k, _, s3, rfl, _, rfl, ?_⟩
  refine iteNS rfl ?_
  refine ⟨.ref a, s2, a, k, rfl, ⟨dx, ea⟩, hk, _, s5, rfl, _, rfl, ?_⟩
  refine iteNS rfl ?_
  refine ⟨.ref a, s2, a, _, dx, _, .str k.nm, rfl, ea, c1, c2, flds_name k, _, _, rfl, .flat (.str _), fineN hk, ?_⟩
  refine ⟨.ref tr, s0, tr, _, 1, .str k.nm, rfl, rfl, SqT.of (sm1 _ _ ht), row_1 k, _, _, rfl, .flat (.str _), fineN hk, rfl, _, rfl, ?_⟩
  rw [decide_eq_true (p := V.str (PyData.str k.nm).shown = V.str (PyData.str k.nm).shown) rfl]
  exact q _ sm1
end
end My
namespace My
open PySem PySem.Spec PyProof.Rows L2
theorem only_cell (k : HD) (h : k.wd = "cell") : ∃ n z, k = .cell n z := by
  cases k with
  | cell n z => exact ⟨n, z, rfl⟩
  | log n => exact absurd (show Str.ofString "log" = Str.ofString "cell" from h) (by decide +kernel)
  | fail n => exact absurd (show Str.ofString "failure" = Str.ofString "cell" from h) (by decide +kernel)
  | cho => exact absurd (show Str.ofString "choice" = Str.ofString "cell" from h) (by decide +kernel)
section
variable {P : Program} {w : World} {K : PySem.W.Frag} {mg : Str → Option Value} {base : Heap} {f : Addr} {cdv : Value} {A0 : Around} {outer : List Env} {s : Shared} {H0 : Hp} {E : XK} {A : A4}
/-- the second check -/
theorem rp6 (T : Txt mg) (S : Hand K mg A) (hr : Room 9 (XR P w K mg base f cdv A0 outer s H0 E).A) (hg : (XR P w K mg base f cdv A0 outer s H0 E).A.guards = some []) :
    ∃ t, PT (XR P w K mg base f cdv A0 outer s H0 E) (testOf (inR 5)) t ∧ ∀ (tr a : Addr) (k : HD) (σ : L2.St) (H : Hp) (Q : Bool → Hp → Prop), σ[0]? = some (some (.ref tr)) → σ[2]? = some (some (.ref a)) → σ[3]? = some (some (.str k.wd)) →
      H tr = some (.tup k.row) → k ∈ rows → IsH A H a k → (∀ H', Same' H H' → Q false H') → t σ H Q := by
  have hu : (XR P w K mg base f cdv A0 outer s H0 E).A.units + 64 < cLine := hr.units
  refine ⟨_, PW.pt (pw_and (pt_cmpR op_eq (pv 3) pe_str (nomark _))
    (pw_and1 (pt_cmpR op_ne (pe_callB (call_reprT hg hu) (by rfl) T.repr (by decide +kernel) (pa_cons (pe_fld (pv 2) (by rfl)) pa_nil)) (pe_callB (call_reprT hg hu) (by rfl) T.repr (by decide +kernel) (pa_cons (pe_ix ix_tup (pv 0) pe_int (fun _ _ => rfl)) pa_nil)) (nomark _)))), ?_⟩
  intro tr a k σ H Q s0 s2 s3 ht hk ha q
  refine ⟨_, s3, rfl, _, rfl, ite2 (fun e => ?_) (fun e => q H fun _ _ e => e)⟩
  obtain ⟨n, z, rfl⟩ := only_cell k (by simpa using e)
  obtain ⟨dx, ea⟩ := ha
  obtain ⟨c1, c2, c3⟩ := S.cls (.cell n z)
  refine ⟨.ref a, s2, a, _, dx, _, .int z, rfl, ea, c1, c3, rfl, _, _, rfl, .flat (.int _), fineZ hk, ?_⟩
  refine ⟨.ref tr, s0, tr, _, 2, .int z, rfl, rfl, SqT.of ht, rfl, _, _, rfl, .flat (.int _), fineZ hk, rfl, _, rfl, ?_⟩
  rw [decide_eq_true (p := V.str (PyData.int z).shown = V.str (PyData.int z).shown) rfl]
  exact q H fun _ _ e => e
/-- the third check -/
theorem rp7 {fM : Addr} {dM : FuncData} (S : Hand K mg A) (O : Owns P w K mg base A) (hr : Room 9 (XR P w K mg base f cdv A0 outer s H0 E).A) (hg : (XR P w K mg base f cdv A0 outer s H0 E).A.guards = some [])
    (FM : Fun K "_law_made" "_law_made" sMade fM dM) (bM : Binds K dM ["_law_row_here"] []) (gM : mg "_law_made" = some (.ref fM)) (GM : FnOk P w K mg base CX0 8 fM dM ["_law_row_here"] (spMade A)) :
    ∃ t, PT (XR P w K mg base f cdv A0 outer s H0 E) (testOf (inR 6)) t ∧ ∀ (tr to a : Addr) (k k2 : HD) (σ : L2.St) (H : Hp) (Q : Bool → Hp → Prop), σ[0]? = some (some (.ref tr)) → σ[1]? = some (some (.ref to)) → σ[2]? = some (some (.ref a)) →
      H tr = some (.tup k.row) → k ∈ rows → H to = some (.tup k2.row) → k2 ∈ rows → IsH A H a k → (∀ H', Same' H H' → Q false H') → t σ H Q := by
  have hu : (XR P w K mg base f cdv A0 outer s H0 E).A.units + 64 < cLine := hr.units
  refine ⟨_, PW.pt (pw_or (pt_cmpR op_ne (pe_cmpR (op_eqH S O (hr.mono (by decide)) hg) (pv 2) (pe_call GM (hr.mono (by decide)) (by rfl) gM FM.kp bM .nil pass0 (pa_cons (pv 1) pa_nil)) (nomark _)) (pe_cmpR (op_eqD hu) (pv 0) (pv 1) (nomark _)) (nomark _))
    (pw_or1 (pt_cmpR op_ne (pe_cmpR (op_neH S O (hr.mono (by decide)) hg) (pv 2) (pe_call GM (hr.mono (by decide)) (by rfl) gM FM.kp bM .nil pass0 (pa_cons (pv 1) pa_nil)) (nomark _)) (pe_cmpR (op_neD hu) (pv 0) (pv 1) (nomark _)) (nomark _)))), ?_⟩
  intro tr to a k k2 σ H Q s0 s1 s2 ht hk ht2 hk2 ha q
  refine ⟨.ref a, s2, .ref to, s1, to, k2, rfl, hk2, ht2, fun b H1 sm1 hb => ?_⟩
  refine ⟨a, k, decide (k = k2), rfl, ha.keep sm1, .inl ⟨b, k2, rfl, hb, rfl⟩, ?_⟩
  refine ⟨.ref tr, s0, .ref to, s1, k.rd, k2.rd, row_dp (sm1 _ _ ht), row_dp (sm1 _ _ ht2), rd_shaped k hk, rd_shaped k2 hk2, rfl, _, rfl, ?_⟩
  rw [rd_eqv]
  refine iteNS rfl ?_
  refine ⟨.ref a, s2, .ref to, s1, to, k2, rfl, hk2, sm1 _ _ ht2, fun b2 H2 sm2 hb2 => ?_⟩
  have sm := sm1.trans sm2
  refine ⟨a, k, decide (k = k2), rfl, ha.keep sm, .inl ⟨b2, k2, rfl, hb2, rfl⟩, ?_⟩
  refine ⟨.ref tr, s0, .ref to, s1, k.rd, k2.rd, row_dp (sm _ _ ht), row_dp (sm _ _ ht2), rd_shaped k hk, rd_shaped k2 hk2, rfl, _, rfl, ?_⟩
  rw [rd_eqv]
  have e : (!decide (V.bl (if true = true then !decide (k = k2) else decide (k = k2)) = V.bl (!decide (k = k2)))) = false := by
    rw [if_pos rfl, decide_eq_true rfl]
    rfl
  exact e ▸ q H2 sm
/-- the answer -/
theorem rp8 {fM : Addr} {dM : FuncData} (S : Hand K mg A) (O : Owns P w K mg base A) (hr : Room 9 (XR P w K mg base f cdv A0 outer s H0 E).A) (hg : (XR P w K mg base f cdv A0 outer s H0 E).A.guards = some [])
    (NT : ∀ T ∈ ["NoneType", "str", "int", "tuple"], ∀ i, i < 4 → PySem.W.kitOne K (.type T) (.ref (A.at i)) = some false ∧ PySem.W.notFirst K (A.at i) (.type T) = true)
    (FM : Fun K "_law_made" "_law_made" sMade fM dM) (bM : Binds K dM ["_law_row_here"] []) (gM : mg "_law_made" = some (.ref fM)) (GM : FnOk P w K mg base CX0 8 fM dM ["_law_row_here"] (spMade A)) :
    ∃ t, PS (XR P w K mg base f cdv A0 outer s H0 E) (inR 7) t ∧ ∀ (tr to a : Addr) (k : HD) (y4 y6 y7 : Option V) (H : Hp) (D : Ends),
      H tr = some (.tup k.row) → k ∈ rows → IsH A H a k → (∀ H', Same' H H' → D.rt (.bl true) H') → t D [some (.ref tr), some (.ref to), some (.ref a), some (.str k.wd), y4, some (.str k.text), y6, y7] H := by
  have hu : (XR P w K mg base f cdv A0 outer s H0 E).A.units + 64 < cLine := hr.units
  refine ⟨_, ps_ret (pe_and (pe_cmpR (op_eqH S O (hr.mono (by decide)) hg) (pv 2) (pe_call GM (hr.mono (by decide)) (by rfl) gM FM.kp bM .nil pass0 (pa_cons (pv 0) pa_nil)) (nomark _))
    (pe_one (pe_cmpR (op_eqD hu) (pe_lc (own := [("_law_thing", 7)]) (g := gName 7) rfl scRight.nd (pi_list (pe_lst (pa_cons pe_non (pa_cons (pv 0) (pa_cons (pv 5) (pa_cons (pe_ix ix_tup (pv 0) pe_int (fun _ _ => rfl)) (pa_cons (pv 3) (pa_cons pe_int pa_nil)))))))) (blkOk_by (N := nRight) (sc := defScope sRight) (by decide +kernel)) (fun _ _ _ _ _ => pg_name (i := 7) scRight.nd rfl (Or.inl rfl))
        (fun s1 H1 C1 cl1 fp1 => pts_one (pt_cmpR (show OpR _ (compareOp .Eq) (rEqH K A false) from @op_eqH ((XR P w K mg base f cdv A0 outer s H0 E).blk s1 H1 _ (compEnvC _ cl1 C1 (XR P w K mg base f cdv A0 outer s H0 E).env) fp1) A S O (hr.mono (by decide)) hg) (pv 2) (pv 7) (nomark _))) (fun _ _ _ _ _ => pv 7)) (pe_lst pa_nil) (nomark _)))), ?_⟩
  intro tr to a k y4 y6 y7 H D ht hk ha q
  refine ⟨.ref a, rfl, .ref tr, rfl, tr, k, rfl, hk, ht, fun b H1 sm1 hb => ?_⟩
  refine ⟨a, k, decide (k = k), rfl, ha.keep sm1, .inl ⟨b, k, rfl, hb, rfl⟩, ?_⟩
  rw [decide_eq_true (p := k = k) rfl]
  refine ⟨true, rfl, iteT ?_⟩
  refine ⟨.ref tr, rfl, .str k.text, rfl, .ref tr, rfl, tr, _, 1, .str k.nm, rfl, rfl, SqT.of (sm1 _ _ ht), row_1 k, .str k.wd, rfl, by show 6 ≤ sizeLine; decide, fun l hl => ?_⟩
  have sm2 := sm1.trans (same_new (o := .lst [.non, .ref tr, .str k.text, .str k.nm, .str k.wd, .int 0]) hl)
  refine ⟨l, rfl, ⟨_, SqL.of upd_same⟩, fun D1 hD => ?_⟩
  have nH : ∀ (x : V), x ∈ ([.non, .ref tr, .str k.text, .str k.nm, .str k.wd, .int 0] : List V) → ∀ H', Same' H H' → NotH K A H' x := by
    intro x hx H' sm
    simp only [List.mem_cons, List.not_mem_nil, or_false] at hx
    rcases hx with rfl | rfl | rfl | rfl | rfl | rfl
    · exact ⟨"NoneType", .base .non, NT _ (by simp)⟩
    · exact ⟨"tuple", .base (.tup (sm _ _ ht)), NT _ (by simp)⟩
    · exact ⟨"str", .base (.str _), NT _ (by simp)⟩
    · exact ⟨"str", .base (.str _), NT _ (by simp)⟩
    · exact ⟨"str", .base (.str _), NT _ (by simp)⟩
    · exact ⟨"int", .base (.int _), NT _ (by simp)⟩
  refine lc_list (K := K) (a := l) (xs := [.non, .ref tr, .str k.text, .str k.nm, .str k.wd, .int 0]) (fun i H' => Same' (upd H1 l (.lst [.non, .ref tr, .str k.text, .str k.nm, .str k.wd, .int 0])) H' ∧ H' D1 = some (.lst [])) ⟨same_new hD, upd_same⟩ (fun i H' _ hp => SqL.of (hp.1 _ _ upd_same)) (fun i x H' hx hp => ?_) (fun H' hp => ?_)
  · obtain ⟨sm, ed⟩ := hp
    refine ⟨rfl, .ref a, rfl, x, rfl, a, k, false, rfl, (ha.keep sm2).keep sm, .inr ⟨nH x (List.mem_of_getElem? hx) H' (sm2.trans sm), rfl⟩, false, rfl, iteF ⟨sm, ed⟩⟩
  · obtain ⟨sm, ed⟩ := hp
    refine ⟨Nat.zero_le _, fun e he => ⟨.list [], .list [], .lst (xs := []) (SqL.of (same_new he _ _ ed)) .nil, .lst (xs := []) (SqL.of upd_same) .nil, rfl, rfl, ?_⟩⟩
    have ee : PyData.eqv (.list []) (.list []) = true := by simp [PyData.eqv, PyData.eqvAll]
    rw [ee]
    exact q _ ((sm2.trans sm).trans (same_new he))
/-- the whole of it -/
def spRight : Sp := fun vs H Q _ => ∃ (tr to : Addr) (k k2 : HD), vs = [.ref tr, .ref to] ∧ H tr = some (.tup k.row) ∧ k ∈ rows ∧ H to = some (.tup k2.row) ∧ k2 ∈ rows ∧ ∀ H', Same' H H' → Q (.bl true) H'
theorem ok_right {f fM fF bN bK bT bH : Addr} {fd dM dF : FuncData} (F : Fun K "_law_right" "_law_right" sRight f fd) (T : Txt mg) (S : Hand K mg A) (O : Owns P w K mg base A) (W : ∀ k : HD, ∃ u, Con K (A.at k.ix) "WORD" (.str k.wd) u)
    (NT : ∀ T ∈ ["NoneType", "str", "int", "tuple"], ∀ i, i < 4 → PySem.W.kitOne K (.type T) (.ref (A.at i)) = some false ∧ PySem.W.notFirst K (A.at i) (.type T) = true)
    (FM : Fun K "_law_made" "_law_made" sMade fM dM) (bM : Binds K dM ["_law_row_here"] []) (gM : mg "_law_made" = some (.ref fM)) (GM : FnOk P w K mg base CX0 8 fM dM ["_law_row_here"] (spMade A))
    (FF : Fun K "_law_faces" "_law_faces" sFaces fF dF) (bF : Binds K dF ["_law_one"] []) (gF : mg "_law_faces" = some (.ref fF)) (GF : FnOk P w K mg base CX0 1 fF dF ["_law_one"] (spFaces A)) :
    FnG P w K mg base CX0 10 f fd ["_law_row_here", "_law_other"] spRight := by
  refine okG F scRight (fun vs H Q E h => ?_) (fun cdv A0 outer s H vs Q E hr hg h => ?_)
  · obtain ⟨tr, to, k, k2, rfl, _⟩ := h
    rfl
  · obtain ⟨tr, to, k, k2, rfl, ht, hk, ht2, hk2, q⟩ := h
    obtain ⟨t1, h1, q1⟩ := rp1 (P := P) (w := w) (base := base) (f := f) (cdv := cdv) (A0 := A0) (outer := outer) (s := s) (H0 := H) (E := E) hr FM bM gM GM
    obtain ⟨t2, h2, q2⟩ := rp2 (P := P) (w := w) (K := K) (mg := mg) (base := base) (f := f) (cdv := cdv) (A0 := A0) (outer := outer) (s := s) (H0 := H) (E := E)
    obtain ⟨t3, h3, q3⟩ := rp3 (P := P) (w := w) (K := K) (mg := mg) (base := base) (f := f) (cdv := cdv) (A0 := A0) (outer := outer) (s := s) (H0 := H) (E := E)
    obtain ⟨t4, h4, q4⟩ := rp4 (P := P) (w := w) (K := K) (base := base) (f := f) (cdv := cdv) (A0 := A0) (outer := outer) (s := s) (H0 := H) (E := E) T
    obtain ⟨t5, h5, q5⟩ := rp5 (bN := bN) (bK := bK) (bT := bT) (bH := bH) (f := f) (cdv := cdv) (A0 := A0) (outer := outer) (s := s) (H0 := H) (E := E) T S O W hr hg FF bF gF GF
    obtain ⟨t6, h6, q6⟩ := rp6 (P := P) (w := w) (base := base) (f := f) (cdv := cdv) (A0 := A0) (outer := outer) (s := s) (H0 := H) (E := E) T S hr hg
    obtain ⟨t7, h7, q7⟩ := rp7 (f := f) (cdv := cdv) (A0 := A0) (outer := outer) (s := s) (H0 := H) (E := E) S O hr hg FM bM gM GM
    obtain ⟨t8, h8, q8⟩ := rp8 (f := f) (cdv := cdv) (A0 := A0) (outer := outer) (s := s) (H0 := H) (E := E) S O hr hg NT FM bM gM GM
    refine ⟨_, pss_cons h1 (pss_cons h2 (pss_cons h3 (pss_cons h4 (pss_cons (ps_if h5 (pss_one (ps_ret pe_bl)) pss_nil) (pss_cons (ps_if h6 (pss_one (ps_ret pe_bl)) pss_nil) (pss_cons (ps_if h7 (pss_one (ps_ret pe_bl)) pss_nil) (pss_one h8))))))), ?_⟩
    refine q1 tr k _ _ _ rfl ht hk fun a H1 sm1 ha => ?_
    refine q2 k _ _ _ rfl fun l H2 sm2 hl => ?_
    refine q3 k l _ _ _ rfl rfl hk hl fun l2 H3 sm3 hl2 => ?_
    have sa := (sm1.trans sm2).trans sm3
    refine q4 tr k _ _ _ _ _ _ _ _ (sa _ _ ht) hk fun H4 sm4 => ?_
    have sb := sa.trans sm4
    have ha4 := ((ha.keep sm2).keep sm3).keep sm4
    refine q5 tr a l2 k _ _ _ rfl rfl rfl rfl rfl (sb _ _ ht) hk ha4 (sm4 _ _ hl2) fun H5 sm5 => iteF ?_
    refine q6 tr a k _ _ _ rfl rfl rfl (sm5 _ _ (sb _ _ ht)) hk (ha4.keep sm5) fun H6 sm6 => iteF ?_
    have sc := (sb.trans sm5).trans sm6
    refine q7 tr to a k k2 _ _ _ rfl rfl rfl (sc _ _ ht) hk (sc _ _ ht2) hk2 ((ha4.keep sm5).keep sm6) fun H7 sm7 => iteF ?_
    refine q8 tr to a k _ _ _ _ _ (sm7 _ _ (sc _ _ ht)) hk (((ha4.keep sm5).keep sm6).keep sm7) fun H8 sm8 => ?_
    exact q H8 ((sc.trans sm7).trans sm8)
end
end My
namespace My
open PySem PySem.Spec PyProof.Rows L2
/-- what the walk of the law's body has to give where one def of the text makes lambdas: its code object at c, the table of that one at P, empty so far -/
def LawBodyT (l : PySem.W.OpenLaw) (w : World) (K : PySem.W.Frag) (mg : Str → Option Value) (n : Nat) (N : List Str) (qual : Str) (st : Stmt) (fa c P : Addr) : Prop :=
  ∀ base : Heap, K.In base → base.Ns mainGlobals mg → LamX.TabB base mg c P → ∀ (cdv : Value) (s : Shared) (H : Hp) (a : Addr) (ns : List Int), ns.length ≤ n → H P = some (.tbl #[]) → SqL K H a (ns.map V.int) →
    ∃ t, PSs (cxOf CX0 l.prog w K mg base N qual (defScope st) fa cdv callerA [] s H E0).nox (defBody st) t ∧
      t { nx := fun _ _ => False, rt := fun v _ => v = .bl true } (start N [.ref a]) H
theorem enterB {l : PySem.W.OpenLaw} {w : World} {K : PySem.W.Frag} {mg : Str → Option Value} {N : List Str} {x nm qual : Str} {st : Stmt} {fa a : Addr} {fd : FuncData}
    {base : Heap} {s : Shared} {H : Hp} (F : Fun K nm qual st fa fd) (S : FnScope N [x] (defScope st)) (hb : ∀ (s : Shared) (u : Value), BindsTo s fd ⟨[u], []⟩ [(x, u)])
    (B : ∀ cdv : Value, ∃ t, PSs (cxOf CX0 l.prog w K mg base N qual (defScope st) fa cdv callerA [] s H E0).nox (defBody st) t ∧ t { nx := fun _ _ => False, rt := fun v _ => v = .bl true } (start N [.ref a]) H)
    (e0 : Env0 l.prog w K mg base callerA [] s H) :
    codeAny (model l.prog w) callerA (.call (.ref fa) ⟨[.ref a], []⟩)
      (fun r s' => r = .ok (.ret (.bool true)) ∧ ∃ H', s'.os = s.os ∧ AllBare s'.gens ∧ Un [] [] H H' s.heap s'.heap ∧ HOk l.prog w H' s'.heap) s := by
  obtain ⟨oc, od, kV, doc, pm, an, cdv, ct, osl, rfl, lk, hcd⟩ := F.ex
  have stays : ∀ b o, base.get? b = some o → s.heap.get? b = some o := fun b o z => (e0.bs b o z).1
  have KS : K.In s.heap := e0.mod.kin.keeps stays
  have NL : s.heap.NoLimit := e0.mod.nolimit.keeps stays
  have kinds : ∀ y ∈ [x].zip [Value.ref a], (defScope st).names.lookup y.1 = some .local ∨ ((defScope st).names.lookup y.1 = some .cell ∧ ((cellsFrom (s.heap.objs.size + 1) (defScope st).names []).lookup y.1).isSome = true) := by
    intro y hy
    obtain rfl : y = (x, Value.ref a) := List.mem_singleton.mp hy
    cases S.par x (List.mem_singleton.mpr rfl) with
    | inl q => exact .inl q
    | inr q => exact .inr ⟨q, PySem.W.cellsFrom_some _ _ _ (.inl q)⟩
  refine codeAny_call_function (by decide) (KS _ _ lk) rfl S.co S.gen rfl (PySem.W.codeRec_of KS hcd) (hb s (.ref a) _ _ _ _ ?_)
  refine wpAny_newFunctionEnv_cells S.kind kinds fun env he s2 ic => ?_
  subst he
  refine ⟨NL.keeps ic.toInCall.keep, codeAny_func ?_⟩
  obtain ⟨t, ht, hq⟩ := B cdv
  have J0 := inv_start (E := E0) (CX := CX0) S (show callerA.handled = none from rfl) e0 (vs := [.ref a]) (us := [.ref a]) rfl (.cons rfl .nil) ic
  refine wpAny_mono (ht.run [] s2 (start N [.ref a]) H _ (J0.wish _) hq) (fun fl s' hs => ?_) fun e s' hs => hs.elim
  cases fl with
  | ret u =>
    obtain ⟨v, σ', H', J, rv, q⟩ := hs
    subst q
    obtain rfl : u = Value.bool true := rv
    exact ⟨rfl, H', J.os, J.bare, J.base, J.hok⟩
  | next => exact (let ⟨_, _, _, q⟩ := hs; q).elim
  | brk => exact (let ⟨_, _, _, q⟩ := hs; q).elim
  | cont => exact (let ⟨_, _, _, q⟩ := hs; q).elim
/-- a table that is empty so far -/
abbrev tab0 : Obj := { cls := .none, data := .fields #[] }
theorem settleT {l : PySem.W.OpenLaw} {w : World} {K : PySem.W.Frag} {mg mb : Str → Option Value} {n : Nat} {N : List Str} {x nm qual : Str} {st : Stmt} {fa a c P : Addr} {fd : FuncData} {s : Shared} {H : Hp} {ns : List Int} {vs : List Value}
    (KX : K.In s.heap) (hns : s.heap.Ns mainGlobals mg) (hb : s.heap.Ns builtinsNs mb) (hbb : ∀ x : Str, x ≠ "__name__" → mb x = bootBuiltins x) (hlim : s.heap.NoLimit) (hg : s.gens = #[])
    (ha : s.heap.get? a = some { cls := .type "list", data := .seq vs.toArray }) (hn : ns.length ≤ n)
    (hT : s.heap.get? P = some tab0) (nT : K.lookup P = none) (C : PySem.W.CodeHd s.heap c P) (bm : s.heap.BuiltinsAt mg P)
    (F : Fun K nm qual st fa fd) (S : FnScope N [x] (defScope st)) (hbi : ∀ (s : Shared) (u : Value), BindsTo s fd ⟨[u], []⟩ [(x, u)]) (B : LawBodyT l w K mg n N qual st fa c P)
    (hP : H P = some (.tbl #[])) (hO : ∀ b, b ≠ P → H b = none ∨ ∃ o xs, H b = some (.frz o (.lst xs))) (hS : SqL K H a (ns.map V.int)) (hok : HOk l.prog w H s.heap) (one : ∀ b, H b ≠ none → b = a ∨ b = P) (out : H a ≠ none → K.lookup a = none) :
    codeAny (model l.prog w) callerA (.call (.ref fa) ⟨[.ref a], []⟩) (fun r s' => r = .ok (.ret (.bool true)) ∧ OldK s.heap s'.heap ∧ s'.os = s.os ∧ AllBare s'.gens) s := by
  -- what is neither the script nor the table is not tracked
  have free : ∀ {b : Addr} {o : Obj}, s.heap.get? b = some o → (∀ xs k, o.data ≠ .seq xs k) → o.data ≠ .fields #[] → H b = none := by
    intro b o e nd nf
    by_cases z : H b = none
    · exact z
    · rcases one b z with eb | eb
      · rw [eb, ha] at e
        injection e with e
        exact absurd (by rw [← e]) (nd vs.toArray 0)
      · rw [eb, hT] at e
        injection e with e
        exact absurd (by rw [← e]) nf
  have seen : ∀ {b : Addr} {o : Obj}, s.heap.get? b = some o → (∀ xs k, o.data ≠ .seq xs k) → o.data ≠ .fields #[] → (hidT s.heap H).get? b = some o := fun e h1 h2 => hidT_get e (free e h1 h2)
  have names : ∀ {b : Addr} {m : Str → Option Value}, s.heap.Ns b m → (hidT s.heap H).Ns b m := by
    intro b m nb
    obtain ⟨o, es, ep, e, d, rest⟩ := nb
    exact ⟨o, es, ep, seen e (fun xs k z => by rw [d] at z; injection z) (fun z => by rw [d] at z; injection z), d, rest⟩
  have KB : K.In (hidT s.heap H) := by
    intro b o e
    refine hidT_get (KX b o e) ?_
    by_cases z : H b = none
    · exact z
    · rcases one b z with eb | eb
      · subst eb
        rw [out z] at e
        injection e
      · subst eb
        rw [nT] at e
        injection e
  have E0' : Env0 l.prog w K mg (hidT s.heap H) callerA [] s H := by
    refine ⟨rfl, ⟨KB, names hns, ⟨mb, names hb, hbb⟩, ?_⟩, fun b o e => of_hidT e, Nat.le_of_eq (hidT_size _ _), trivial, ?_, hok, .of_eq hg⟩
    · obtain ⟨mc, c1, c2⟩ := hlim
      exact ⟨mc, names c1, c2⟩
    · intro b z
      exact absurd (show b ∈ ([] : List Addr) from z) List.not_mem_nil
  have TB : LamX.TabB (hidT s.heap H) mg c P := by
    refine ⟨?_, ?_, fun z => ?_⟩
    · obtain ⟨o, us, file, tf, flags, tg, inF, text, tt, e1, r1, r2, r3, rest⟩ := C
      refine ⟨o, us, file, tf, flags, tg, inF, text, tt, seen e1 (fun xs k z => by rw [r2] at z; injection z) (fun z => ?_), r1, r2, r3, rest⟩
      rw [r2] at z
      injection z with z
      rw [z] at r3
      simp at r3
    · obtain ⟨b, ob, b1, b2, b3, b4, b5, b6, b7, b8⟩ := bm
      exact ⟨b, ob, b1, b2, b3, b4, seen b5 (fun xs k z => by rw [b8] at z; injection z) (fun z => by rw [b8] at z; injection z), b6, b7, b8⟩
    · obtain ⟨o, es, ep, e, d, _⟩ := hns
      rw [z, hT] at e
      injection e with e
      rw [← e] at d
      injection d
  refine codeAny_mono (enterB F S hbi (fun cdv => B _ KB (names hns) TB cdv s H a ns hn hP hS) E0') fun r s' h => ?_
  obtain ⟨e1, H', os, bare, un, hok'⟩ := h
  obtain ⟨more, eP⟩ := un.tbls P #[] hP
  have grown : s'.heap.get? P = some { cls := .none, data := .fields (#[] ++ more) } := hok' P _ eP
  have kept : ∀ b o, b ≠ P → s.heap.get? b = some o → s'.heap.get? b = some o := by
    intro b o nb e
    by_cases z : H b = none
    · exact un.keep b o e z (show b ∉ ([] : List Addr) from List.not_mem_nil) List.not_mem_nil
    · rcases hO b nb with y | ⟨ob, xs, y⟩
      · exact absurd y z
      · have g1 := (hok b _ y).1
        have g2 := (hok' b _ (un.frzs b ob _ y)).1
        rw [g1] at e
        injection e with e
        rw [← e]
        exact g2
  refine ⟨e1, ⟨fun b o e => ?_, fun b o e => ?_⟩, os, bare⟩
  · by_cases nb : b = P
    · subst nb
      rw [hT] at e
      injection e with e
      subst e
      exact .inr (.inl ⟨(C.tab hT).isCodeTable, rfl, #[], more, rfl, grown⟩)
    · exact .inl (kept b o nb e)
  · by_cases nb : b = P
    · subst nb
      exact ⟨_, grown⟩
    · exact ⟨o, kept b o nb e⟩
/-- the goal that the head leaves, from the law's body walked with known guards and one table -/
theorem law_topT {l : PySem.W.OpenLaw} {n : Nat} {q : Program} {loose : List Str} {XP : (Str → Option Value) → Heap → Prop} {YP : World → Heap → Prop} {d : DefRec} {K : Params → PySem.W.Frag} {N : List Str} {x nm qual : Str} {st : Stmt}
    (hn : l.most = some n) (hn2 : n ≤ sizeLine) (hdf : d.params.defaults = []) (hY : ∀ (w : World) (h : Heap), YP w h → (K w.params).In h)
    (Z : ∀ (w : World) (mg : Str → Option Value) (fa : Addr) (h : Heap), YP w h → (K w.params).In h → h.Ns mainGlobals mg → mg d.name = some (.ref fa) →
      ∃ (fd : FuncData) (c P : Addr), h.get? P = some tab0 ∧ (K w.params).lookup P = none ∧ PySem.W.CodeHd h c P ∧ Fun (K w.params) nm qual st fa fd ∧ FnScope N [x] (defScope st) ∧ (∀ (s : Shared) (u : Value), BindsTo s fd ⟨[u], []⟩ [(x, u)]) ∧ LawBodyT l w (K w.params) mg n N qual st fa c P) :
    PySem.W.WalkO q loose XP YP l.row.toRowW d [] (fun f vs => PySem.call f vs) := by
  refine Att.attach_call hn hdf ?_
  intro w s₀ s mg mb fa o pm cd doc a vs ns G Y ho hd hcd hmg hobj hints hlen hg
  have KX : (K w.params).In s.heap := hY w _ Y
  obtain ⟨fd, c, P, hT, nT, C, F, S, hbi, B⟩ := Z w mg fa _ Y KX G.T.g hmg
  have bmP : s.heap.BuiltinsAt mg P := by
    obtain ⟨bm, ob, b1, b2, b3, b4, b5, b6⟩ := G.T.bmain
    refine ⟨bm, ob, b1, b2, fun z => ?_, fun z => ?_, b3, b4, b5, b6⟩
    · obtain ⟨o', es, ep, e, hd', _⟩ := G.T.g
      rw [z, e] at b3
      injection b3 with b3
      rw [b3, b6] at hd'
      injection hd'
    · rw [z, hT] at b3
      injection b3 with b3
      rw [← b3] at b6
      injection b6
  have rv : Vals (ns.map V.int) vs := vals_ints hints
  have top : ns.length ≤ sizeLine := Nat.le_trans hlen hn2
  have naP : a ≠ P := fun z => by
    rw [z, hT] at hobj
    injection hobj with hobj
    have := congrArg Obj.data hobj
    injection this
  have plain := @settleT l w (K w.params) mg mb n N x nm qual st fa a c P fd s
  cases hk : (K w.params).lookup a with
  | some u =>
    have e := KX a u hk
    rw [hobj] at e
    injection e with e
    subst e
    refine plain (H := fun b => if b = P then some (.tbl #[]) else none) (ns := ns) (vs := vs) KX G.T.g G.T.b G.T.builtins G.T.nolimit hg hobj hlen hT nT C bmP F S hbi B (if_pos rfl) (fun b nb => .inl (if_neg nb)) (.inr ⟨_, vs.toArray, _, hk, rfl, rfl, rfl, ?_, ?_⟩) (fun b u z => ?_) (fun b z => ?_) (fun z => absurd (if_neg naP) z)
    · rw [List.size_toArray, hints.length]
      exact top
    · simpa using rv
    · by_cases hb : b = P
      · have y := (if_pos hb).symm.trans z
        injection y with y
        subst y
        subst hb
        exact hT
      · have y := (if_neg hb).symm.trans z
        injection y
    · by_cases hb : b = P
      · exact .inr hb
      · exact absurd (if_neg hb) z
  | none =>
    refine plain (H := fun b => if b = P then some (.tbl #[]) else scriptHp a vs ns b) (ns := ns) (vs := vs) KX G.T.g G.T.b G.T.builtins G.T.nolimit hg hobj hlen hT nT C bmP F S hbi B (if_pos rfl) (fun b nb => ?_) (.inl (.inr ⟨_, (if_neg naP).trans (if_pos rfl)⟩)) (fun b u z => ?_) (fun b z => ?_) (fun _ => hk)
    · by_cases eb : b = a
      · exact .inr ⟨_, _, (if_neg nb).trans (if_pos eb)⟩
      · exact .inl ((if_neg nb).trans (if_neg eb))
    · by_cases hb : b = P
      · have y := (if_pos hb).symm.trans z
        injection y with y
        subst y
        subst hb
        exact hT
      · have z1 := (if_neg hb).symm.trans z
        by_cases eb : b = a
        · have y := (if_pos eb).symm.trans z1
          injection y with y
          subst y
          subst eb
          exact ⟨hobj, by rw [List.length_map]; exact top, vs, _, rv, hobj⟩
        · have y := (if_neg eb).symm.trans z1
          injection y
    · by_cases hb : b = P
      · exact .inr hb
      · by_cases eb : b = a
        · exact .inl eb
        · exact absurd ((if_neg hb).trans (if_neg eb)) z
end My
namespace My
open PySem PySem.Spec PyProof.Rows L2
/-- an error class as it is caught here: BadName (b) or BadNumber -/
structure EK (K : PySem.W.Frag) (CN CZ CL C : Addr) (b : Bool) : Prop where
  ec : ExcC K C
  xf : XfC K C
  no : PySem.W.findIn K (.ref C) "value" = some none
  ex : PySem.W.exmOne K (.ref C) (.ref CL) = some true
  kN : PySem.W.kitOne K (.ref C) (.ref CN) = some b
  kZ : PySem.W.kitOne K (.ref C) (.ref CZ) = some (!b)
  kV : PySem.W.kitOne K (.ref C) (.type "ValueError") = some true
def told (b : Bool) : Str := if b then "name" else "number"
/-- what the lambda's body must end in: one of the two errors, its value to be shown -/
def EH (K : PySem.W.Frag) (CN CZ CL : Addr) (Q : VK) : XK := fun cls d H' => ∃ (C dd : Addr) (y : V) (pd : PyData) (b : Bool), cls = .ref C ∧ d = some dd ∧ EK K CN CZ CL C b ∧ H' dd = some (.xd [("value", y)]) ∧ Th H' y pd ∧ Fine pd ∧
  ∀ t H2, Same' H' H2 → H2 t = some (.tup [.str (told b), .str pd.shown]) → Q (.ref t) H2
def TH (K : PySem.W.Frag) (CN CZ CL : Addr) : (XK → Hp → VK → Prop) → Hp → VK → Prop := fun tl H Q => ∀ H1, Same' H H1 → ∀ Q' : VK, tl (EH K CN CZ CL Q) H1 Q'
theorem takes_len {X : Cx} {W : WX} {n : Nat} (h : X.N.length = n) (tk : Takes X W) : Takes X (fun cls d σ H => σ.length = n → W cls d σ H) := fun u s' ⟨a, B, sI, pins, σ, H, cls, d, e, I, nb, up, sky, na, os, ag, w⟩ =>
  tk u s' ⟨a, B, sI, pins, σ, H, cls, d, e, I, nb, up, sky, na, os, ag, w (I.len.trans h)⟩
abbrev nHeard : List Str := ["_law_ask", "_law_caught", "_law_answer", "error", "_law_some"]
theorem scHeard : FnScope nHeard ["_law_ask"] (defScope sHeard) := ⟨rfl, rfl, rfl, by decide +kernel, rfl, by decide +kernel, by decide +kernel⟩
theorem len5 {σ : L2.St} (h : σ.length = 5) : ∃ a b c d e, σ = [a, b, c, d, e] := by
  match σ, h with
  | [a, b, c, d, e], _ => exact ⟨a, b, c, d, e, rfl⟩
abbrev YH (X : Cx) (g : Addr) (cdg : Value) (s : Shared) (H : Hp) : Cx := cxOf C8.CX0 X.prog X.w X.K X.mg X.base nHeard "_law_heard" (defScope sHeard) g cdg X.A X.stack s H C8.E0
theorem heard_gives {X : Cx} {g CN CZ CL : Addr} {cdg : Value} {q : Str} (hr : Room 2 X.A) (hg : X.A.guards = some []) (T : Txt X.mg) (gN : X.mg "BadName" = some (.ref CN)) (gZ : X.mg "BadNumber" = some (.ref CZ)) (gL : X.mg "LayerError" = some (.ref CL)) :
    LamX.GivesTo X nHeard "_law_heard" (defScope sHeard) g cdg (defBody sHeard) "_law_ask" q (TH X.K CN CZ CL) := by
  intro f c' s H Q tl act hc h
  have hu : (YH X g cdg s H).nox.A.units + 64 < cLine := by
    have := (hr.deeper (YH X g cdg s H).env).units
    exact this
  have hg' : (YH X g cdg s H).nox.A.guards = some [] := hg
  refine ⟨_, pss_cons (ps_asg (pe_tup (pa_cons pe_non (pa_cons pe_non pa_nil))) (pg_tup (n := 2) rfl (pgs_cons (pg_name (i := 1) scHeard.nd rfl (.inl rfl)) (pgs_cons (pg_name (i := 2) scHeard.nd rfl (.inl rfl)) pgs_nil))))
    (pss_cons (ps_try_keep (X := (YH X g cdg s H).nox) (c := .ref CL) (i := 3) (n := "error")
        (tb := fun W D σ H => ∃ Ech : XK, (∀ cls d σ' H', Ech cls d H' → σ'.length = 5 → W cls d σ' H') ∧ σ[0]? = some (some (.ref f)) ∧ H c' = some (LamX.CodeO c' q) ∧ tl Ech H (fun v H1 => D.nx (σ.set 2 (some v)) H1))
        rfl rfl rfl scHeard.nd rfl rfl ⟨rfl, by decide, .inl gL⟩ (fun W pn xe tk _ => ?body) (fun a oe cls d pn _ _ => pss_one (ps_set (i := 1) scHeard.nd rfl (.inl rfl) (pv 3))))
    (pss_cons (ps_if (pt_cmpR op_isN (pv 1) pe_non (nomark _)) (pss_one ps_never) pss_nil)
    (pss_cons (ps_set (i := 4) scHeard.nd rfl (.inl rfl) (pe_lst pa_nil))
    (pss_cons (ps_if (pt_val (pe_callB call_heldIs (by rfl) T.isi (by decide +kernel) (pa_cons (pv 1) (pa_cons (pe_glob (v := .ref CN) rfl gN rfl) pa_nil))))
      (pss_one (ps_expr (pe_bm PySem.F.plainAttrs_list PySem.F.slot_list_append PySem.F.type_list_append mt_append (pv 4) (pa_cons (pe_tup (pa_cons pe_str (pa_cons (pe_callB (call_reprT hg' hu) (by rfl) T.repr (by decide +kernel) (pa_cons (pe_heldF (pv 1)) pa_nil)) pa_nil))) pa_nil)))) pss_nil)
    (pss_cons (ps_if (pt_val (pe_callB call_heldIs (by rfl) T.isi (by decide +kernel) (pa_cons (pv 1) (pa_cons (pe_glob (v := .ref CZ) rfl gZ rfl) pa_nil))))
      (pss_one (ps_expr (pe_bm PySem.F.plainAttrs_list PySem.F.slot_list_append PySem.F.type_list_append mt_append (pv 4) (pa_cons (pe_tup (pa_cons pe_str (pa_cons (pe_callB (call_reprT hg' hu) (by rfl) T.repr (by decide +kernel) (pa_cons (pe_heldF (pv 1)) pa_nil)) pa_nil))) pa_nil)))) pss_nil)
    (pss_one (ps_ret (pe_ifExp (PW.pt (pw_and (pt_cmpR op_eq (pe_callB call_len_seq (by rfl) T.len PySem.boot_len (pa_cons (pv 4) pa_nil)) pe_int (nomark _))
        (pw_and1 (pt_val (pe_callB call_heldIs (by rfl) T.isi (by decide +kernel) (pa_cons (pv 1) (pa_cons (pe_bltn (by rfl) T.ve (by decide +kernel) (show RelV (.ty "ValueError") _ from rfl)) pa_nil)))))))
      (pe_ix ix_list (pv 4) pe_int (fun _ _ => rfl)) pe_never)))))))), ?_⟩
  case body =>
    refine ⟨fun pins s' σ H' D I h' => ?_⟩
    obtain ⟨Ech, hW, h1, h2, h3⟩ := h'
    have hp := fun p1 p2 => act (fun cls d σ H => σ.length = 5 → W cls d σ H) pn xe Ech p1 p2 (takes_len rfl tk) (fun cls d σ' H' e l => hW cls d σ' H' e l)
    exact (pss_one (ps_set (i := 2) scHeard.nd rfl (.inl rfl) (hp _ _))).run pins s' σ H' D I ⟨h1, h2, h3⟩
  refine ⟨by show 2 ≤ sizeLine; decide, fun p hp => ?_⟩
  refine ⟨p, _, rfl, SqT.of upd_same, rfl, _, _, rfl, _, _, rfl, rfl, ?_⟩
  have sm0 := same_new (o := .tup [.non, .non]) hp
  refine ⟨EH X.K CN CZ CL Q, fun cls d σ' H' e l5 => ?_, rfl, sm0 _ _ hc, h _ sm0 _⟩
  obtain ⟨z0, z1, z2, z3, z4, rfl⟩ := len5 l5
  obtain ⟨C, dd, y, pd, b, rfl, rfl, ek, hd, th, fine, fin⟩ := e
  refine ⟨ek.ex, fun a ha => ⟨.ref a, rfl, ?_⟩⟩
  have sm1 := same_new (o := KeptO (.ref C) (some dd) a) ha
  refine ⟨.ref a, rfl, rfl, _, rfl, ite2 (fun e => (by simp at e)) (fun _ => ?_)⟩
  refine ⟨Nat.zero_le _, fun l hl => ?_⟩
  have sm2 := sm1.trans (same_new (o := .lst []) hl)
  have held : ∀ {H2 : Hp}, Same' (upd (upd H' a (KeptO (.ref C) (some dd) a)) l (.lst [])) H2 → H2 a = some (KeptO (.ref C) (some dd) a) ∧ H2 dd = some (.xd [("value", y)]) := fun sm => ⟨sm _ _ (same_new hl _ _ upd_same), sm _ _ (sm2 _ _ hd)⟩
  have hl0 : (upd (upd H' a (KeptO (.ref C) (some dd) a)) l (.lst [])) l = some (.lst []) := upd_same
  obtain ⟨H3, e3⟩ : ∃ H3 : Hp, upd (upd H' a (KeptO (.ref C) (some dd) a)) l (.lst []) = H3 := ⟨_, rfl⟩
  rw [e3] at held sm2 hl0 ⊢
  obtain ⟨ea, ed⟩ := held (fun _ _ e => e)
  have nla : a ≠ l := fun z => by
    rw [z, hl0] at ea
    injection ea with ea
    unfold KeptO at ea
    cases ea
  have nld : dd ≠ l := fun z => by
    rw [z, hl0] at ed
    cases ed
  -- what is done behind the check that told the error
  have last : ∀ (t : Addr), H3 t = none → ∀ H4 : Hp, H4 = upd (upd H3 t (.tup [.str (told b), .str pd.shown])) l (.lst [.ref t]) → H4 a = some (KeptO (.ref C) (some dd) a) ∧ H4 dd = some (.xd [("value", y)]) ∧ H4 l = some (.lst [.ref t]) ∧ Q (.ref t) H4 := by
    intro t ht H4 e4
    have nlt : t ≠ l := fun z => by
      rw [z, hl0] at ht
      cases ht
    have s4 : Same' H' H4 := fun c o e => by
      have h1 : c ≠ l := fun z => by
        rw [z] at e
        have := sm1 _ _ e
        rw [hl] at this
        cases this
      rw [e4, upd_ne h1]
      exact same_new ht _ _ (sm2 _ _ e)
    refine ⟨?_, ?_, by rw [e4, upd_same], fin t H4 s4 (by rw [e4, upd_ne nlt, upd_same])⟩
    · rw [e4, upd_ne nla]
      exact same_new ht _ _ ea
    · rw [e4, upd_ne nld]
      exact same_new ht _ _ ed
  have dh : ∀ {H4 : Hp}, H4 dd = some (.xd [("value", y)]) → ∀ d', some dd = some d' → ∃ fs, H4 d' = some (.xd fs) := fun e d' q => by
    injection q with q
    subst q
    exact ⟨_, e⟩
  have th3 := th.keep sm2
  refine ⟨.ref a, rfl, a, C, some dd, .ref CN, .ref CN, b, rfl, .own _, ea, dh ed, ek.ec, ek.kN, b, rfl, ?_⟩
  cases b with
  | true =>
    refine iteT ⟨.ref l, rfl, .inl ⟨rfl, _, SqL.of hl0⟩, .ref a, rfl, a, C, dd, _, y, rfl, ea, ed, ek.xf, ek.no, rfl, y, pd, rfl, th3, fine, by show 2 ≤ sizeLine; decide, fun t ht => ?_⟩
    obtain ⟨fa, fd, fl, fq⟩ := last t ht _ rfl
    refine ⟨l, [], .ref t, rfl, rfl, same_new ht _ _ hl0, by decide, ?_⟩
    refine ⟨.ref a, rfl, a, C, some dd, .ref CZ, .ref CZ, _, rfl, .own _, fa, dh fd, ek.ec, ek.kZ, _, rfl, iteF ?_⟩
    refine ⟨.ref l, rfl, l, _, rfl, .inl (SqL.of fl), rfl, _, rfl, iteT ?_⟩
    refine ⟨.ref a, rfl, a, C, some dd, .ty "ValueError", .type "ValueError", true, rfl, .ty _, fa, dh fd, ek.ec, ek.kV, true, rfl, iteT ?_⟩
    exact ⟨.ref l, rfl, l, _, 0, .ref t, rfl, rfl, SqL.of fl, rfl, fq⟩
  | false =>
    refine iteF ?_
    refine ⟨.ref a, rfl, a, C, some dd, .ref CZ, .ref CZ, _, rfl, .own _, ea, dh ed, ek.ec, ek.kZ, _, rfl, iteT ?_⟩
    refine ⟨.ref l, rfl, .inl ⟨rfl, _, SqL.of hl0⟩, .ref a, rfl, a, C, dd, _, y, rfl, ea, ed, ek.xf, ek.no, rfl, y, pd, rfl, th3, fine, by show 2 ≤ sizeLine; decide, fun t ht => ?_⟩
    obtain ⟨fa, fd, fl, fq⟩ := last t ht _ rfl
    refine ⟨l, [], .ref t, rfl, rfl, same_new ht _ _ hl0, by decide, ?_⟩
    refine ⟨.ref l, rfl, l, _, rfl, .inl (SqL.of fl), rfl, _, rfl, iteT ?_⟩
    refine ⟨.ref a, rfl, a, C, some dd, .ty "ValueError", .type "ValueError", true, rfl, .ty _, fa, dh fd, ek.ec, ek.kV, true, rfl, iteT ?_⟩
    exact ⟨.ref l, rfl, l, _, 0, .ref t, rfl, rfl, SqL.of fl, rfl, fq⟩
end My
namespace My
open PySem PySem.Spec PyProof.Rows L2
open LamX (ExtN Tabs TabS TabB lamSB lamS_by tLam lamCx)
theorem th_ext {H H' : Hp} {x : V} {d : PyData} (h : Th H x d) (e : ExtN H H') : Th H' x d := by
  cases h with
  | flat h => exact .flat h
  | lst h r n => exact .lst (e _ _ h (fun ps z => by cases z)) r n
  | tup h r n => exact .tup (e _ _ h (fun ps z => by cases z)) r n
  | dct h => exact .dct (e _ _ h (fun ps z => by cases z))
/-- a drawn value: what it is, and that it can be shown -/
structure Val (H : Hp) (v : V) (d : PyData) : Prop where
  th : Th H v d
  fine : Fine d
  ok : PyData.strOk d.shown = true
  few : ∀ z, v = .str z → z.length ≤ 1000
theorem Val.ext {H H' : Hp} {v : V} {d : PyData} (h : Val H v d) (e : ExtN H H') : Val H' v d := ⟨th_ext h.th e, h.fine, h.ok, h.few⟩
theorem Val.keep {H H' : Hp} {v : V} {d : PyData} (h : Val H v d) (e : Same' H H') : Val H' v d := ⟨h.th.keep e, h.fine, h.ok, h.few⟩
theorem Val.arg {K : PySem.W.Frag} {H : Hp} {v : V} {d : PyData} (h : Val H v d) : NameArg K H v := by
  obtain ⟨th, _, _, few⟩ := h
  cases th with
  | flat h =>
    cases h with
    | non => exact .inr ⟨"NoneType", .base .non, by decide +kernel⟩
    | bl b => exact .inr ⟨"bool", .base (.bl b), by decide +kernel⟩
    | int i => exact .inr ⟨"int", .base (.int i), by decide +kernel⟩
    | str z => exact .inl ⟨z, rfl, few z rfl⟩
  | lst h k n => exact .inr ⟨"list", .base (.lst h), by decide +kernel⟩
  | tup h k n => exact .inr ⟨"tuple", .base (.tup h), by decide +kernel⟩
  | dct h => exact .inr ⟨"dict", .base (.dK h), by decide +kernel⟩
theorem same_ext {H H' : Hp} (s : Same' H H') : ExtN H H' := ExtN.of s
/-- x(lambda: ..), x being _law_heard -/
theorem pe_ask {X : Cx} {P c g CN CZ CL : Addr} {fdg : FuncData} (FH : Fun X.K "_law_heard" "_law_heard" sHeard g fdg) (gH : X.mg "_law_heard" = some (.ref g)) (hgl : Gl X "_law_heard") (T : Txt X.mg) (gN : X.mg "BadName" = some (.ref CN)) (gZ : X.mg "BadNumber" = some (.ref CZ)) (gL : X.mg "LayerError" = some (.ref CL))
    (hr : Room 9 X.A) (hg : X.A.guards = some []) (TB : TabB X.base X.mg c P) (hcode : X.env.code = .ref c) {TT : List (Addr × Str)} (hT : TT = [(P, X.env.qual ++ "<lambda>")]) {params : Arguments} {body : Expr} {scope : Scope} {t : XK → TE} {p lpos pos : Pos}
    (L : lamSB X.env.scope scope = true) (hdef : defaultsOf params X.env = ([], [])) (hbind : ∀ (q : Str) (cl : List (Str × Addr)) (pm cv ctv : Value), bindArgs (PySem.W.kla_fn "<lambda>" q params body scope cl pm cv ctv) ⟨[], []⟩ = pure [])
    (hbody : ∀ (A : Around) (outer : List Env) (s : Shared) (H : Hp) (E : XK) (f c' : Addr), Room 7 (A.deeper (LamX.lamEnv X scope s.heap.objs.size f c')) → PE (lamCx X A outer s H E scope f c') body (t E)) :
    PE X (.Call (.Name "_law_heard" p) [.Lambda params body scope lpos] [] pos) (tLam TT (TH X.K CN CZ CL) t) := by
  obtain ⟨oc, od, kV, doc, pm, an, cdv, ct, osl, rfl, lk, hcd⟩ := FH.ex
  subst hT
  exact LamX.pe_lamcall (a := "_law_ask") (Ng := nHeard) hgl gH FH.kp lk hcd (FH.binds (ps := ["_law_ask"]) fun _ _ _ _ _ _ us hl => match us, hl with | [_], _ => rfl) scHeard rfl (.inl rfl) (heard_gives (hr.mono (by decide)) hg T gN gZ gL) TB hcode (List.mem_singleton.mpr rfl)
    (fun q hq _ => by rw [List.mem_singleton.mp hq]) hr (lamS_by L) hdef hbind hbody
/-! ### what the six calls tell -/
section
variable {K : PySem.W.Frag} {CN CZ CL : Addr} {A : A4} {T : List (Addr × Str)} {σ : L2.St} {H : Hp} {Q : VK} {vb vw : V} {db dw : PyData}
theorem tells {C : Addr} {b : Bool} {Hm : Hp} {d : PyData} (ek : EK K CN CZ CL C b) (fine : Fine d) (q : ∀ t H3, Same' Hm H3 → H3 t = some (.tup [.str (told b), .str d.shown]) → Q (.ref t) H3) : Told (EH K CN CZ CL Q) C Hm d :=
  fun y dd H' sm hd th => ⟨C, dd, y, d, b, rfl, rfl, ek, hd, th, fine, fun t H2 sm2 ht => q t H2 (sm.trans sm2) ht⟩
theorem made_up {H2 : Hp} {x dx : Addr} {o : HO} (hx : H2 x = none) (hdx : H2 dx = none) : Same' H2 (upd (upd H2 dx (.own x)) x o) := fun b u e => by
  rw [upd_ne (ne_of_none e hx), upd_ne (ne_of_none e hdx)]
  exact e
theorem after {H1 H2 Hm H3 : Hp} (e1 : ExtN H H1) (tb : Tabs T H1) (sm : Same' H1 H2) (m : Same' H2 Hm) (k : Same' Hm H3) : ExtN H H3 ∧ Tabs T H3 := ⟨e1.trans (ExtN.of ((sm.trans m).trans k)), tb.ext ((sm.trans m).trans k)⟩
theorem rd_named {C : Addr} (ek : EK K CN CZ CL CN true) (tb : Tabs T H) (h3 : σ[3]? = some (some vb)) (B : Val H vb db) (nb : isN vb = false) (q : ∀ t H3, ExtN H H3 → Tabs T H3 → H3 t = some (.tup [.str (told true), .str db.shown]) → Q (.ref t) H3) :
    tLam T (TH K CN CZ CL) (fun E => tMake C (spNamed K C CN) [] E (tCons (tVar 3) tNil)) σ H Q := by
  refine ⟨tb, fun H1 e1 tb1 H2 sm2 Q' => ⟨vb, h3, fun x dx hx hdx nxd => ?_⟩⟩
  have m := made_up (o := .ins C dx []) hx hdx
  have B2 := ((B.ext e1).keep sm2).keep m
  refine ⟨x, dx, vb, db, rfl, upd_same, B2.arg, B2.th, fun e => ?_, fun _ => tells ek B.fine fun t H3 k ht => ?_⟩
  · rw [nb] at e
    cases e
  · obtain ⟨e3, t3⟩ := after e1 tb1 sm2 m k
    exact q t H3 e3 t3 ht
theorem rd_cell {C : Addr} (ek : EK K CN CZ CL CN true) (tb : Tabs T H) (h3 : σ[3]? = some (some vb)) (h4 : σ[4]? = some (some vw)) (B : Val H vb db) (W : Val H vw dw) (nb : isN vb = false) (q : ∀ t H3, ExtN H H3 → Tabs T H3 → H3 t = some (.tup [.str (told true), .str db.shown]) → Q (.ref t) H3) :
    tLam T (TH K CN CZ CL) (fun E => tMake C (spCellI K C CN CZ) [] E (tCons (tVar 3) (tCons (tVar 4) tNil))) σ H Q := by
  refine ⟨tb, fun H1 e1 tb1 H2 sm2 Q' => ⟨vb, h3, vw, h4, fun x dx hx hdx nxd => ?_⟩⟩
  have m := made_up (o := .ins C dx []) hx hdx
  have B2 := ((B.ext e1).keep sm2).keep m
  have W2 := ((W.ext e1).keep sm2).keep m
  refine ⟨x, dx, vb, vw, db, dw, rfl, upd_same, B2.arg, B2.th, W2.th, fun e => ?_, fun _ => tells ek B.fine fun t H3 k ht => ?_, fun e => ?_⟩
  · rw [nb] at e
    cases e
  · obtain ⟨e3, t3⟩ := after e1 tb1 sm2 m k
    exact q t H3 e3 t3 ht
  · rw [nb] at e
    cases e
theorem rd_cell1 {C : Addr} (ek : EK K CN CZ CL CN true) (tb : Tabs T H) (h3 : σ[3]? = some (some vb)) (B : Val H vb db) (nb : isN vb = false) (q : ∀ t H3, ExtN H H3 → Tabs T H3 → H3 t = some (.tup [.str (told true), .str db.shown]) → Q (.ref t) H3) :
    tLam T (TH K CN CZ CL) (fun E => tMake C (spCellI K C CN CZ) [.int 2] E (tCons (tVar 3) tNil)) σ H Q := by
  refine ⟨tb, fun H1 e1 tb1 H2 sm2 Q' => ⟨vb, h3, fun x dx hx hdx nxd => ?_⟩⟩
  have m := made_up (o := .ins C dx []) hx hdx
  have B2 := ((B.ext e1).keep sm2).keep m
  refine ⟨x, dx, vb, .int 2, db, .int 2, rfl, upd_same, B2.arg, B2.th, .flat (.int 2), fun e => ?_, fun _ => tells ek B.fine fun t H3 k ht => ?_, fun e => ?_⟩
  · rw [nb] at e
    cases e
  · obtain ⟨e3, t3⟩ := after e1 tb1 sm2 m k
    exact q t H3 e3 t3 ht
  · rw [nb] at e
    cases e
theorem isN_x : isN (.str "x") = true := by decide +kernel
theorem rd_wide {C : Addr} (ek : EK K CN CZ CL CZ false) (tb : Tabs T H) (h4 : σ[4]? = some (some vw)) (W : Val H vw dw) (nz : isZ vw = false) (q : ∀ t H3, ExtN H H3 → Tabs T H3 → H3 t = some (.tup [.str (told false), .str dw.shown]) → Q (.ref t) H3) :
    tLam T (TH K CN CZ CL) (fun E => tMake C (spCellI K C CN CZ) [] E (tCons (tC (.str "x")) (tCons (tVar 4) tNil))) σ H Q := by
  refine ⟨tb, fun H1 e1 tb1 H2 sm2 Q' => ⟨vw, h4, fun x dx hx hdx nxd => ?_⟩⟩
  have m := made_up (o := .ins C dx []) hx hdx
  have W2 := ((W.ext e1).keep sm2).keep m
  refine ⟨x, dx, .str "x", vw, .str "x", dw, rfl, upd_same, .inl ⟨_, rfl, by decide +kernel⟩, .flat (.str _), W2.th, fun _ e => ?_, fun e => ?_, fun _ _ => tells ek W.fine fun t H3 k ht => ?_⟩
  · rw [nz] at e
    cases e
  · rw [isN_x] at e
    cases e
  · obtain ⟨e3, t3⟩ := after e1 tb1 sm2 m k
    exact q t H3 e3 t3 ht
/-- (size=.., name=..) in the parameters' order -/
abbrev gSN {α : Type} (us ws : List α) : List α := us ++ (ws.drop 1 ++ ws.take 1)
theorem rd_kw {C : Addr} (ek : EK K CN CZ CL CZ false) (tb : Tabs T H) (h4 : σ[4]? = some (some vw)) (W : Val H vw dw) (nz : isZ vw = false) (q : ∀ t H3, ExtN H H3 → Tabs T H3 → H3 t = some (.tup [.str (told false), .str dw.shown]) → Q (.ref t) H3) :
    tLam T (TH K CN CZ CL) (fun E => tMakeK C 0 2 (spCellI K C CN CZ) gSN E tNil (tCons (tVar 4) (tCons (tC (.str "x")) tNil))) σ H Q := by
  refine ⟨tb, fun H1 e1 tb1 H2 sm2 Q' => ⟨vw, h4, rfl, rfl, fun x dx hx hdx nxd => ?_⟩⟩
  have m := made_up (o := .ins C dx []) hx hdx
  have W2 := ((W.ext e1).keep sm2).keep m
  refine ⟨x, dx, .str "x", vw, .str "x", dw, rfl, upd_same, .inl ⟨_, rfl, by decide +kernel⟩, .flat (.str _), W2.th, fun _ e => ?_, fun e => ?_, fun _ _ => tells ek W.fine fun t H3 k ht => ?_⟩
  · rw [nz] at e
    cases e
  · rw [isN_x] at e
    cases e
  · obtain ⟨e3, t3⟩ := after e1 tb1 sm2 m k
    exact q t H3 e3 t3 ht
end
end My
namespace My
open PySem PySem.Spec PyProof.Rows L2
open LamX (ExtN Tabs TabS TabB lamSB lamS_by tLam lamCx)
/-- a def by its body, the guards and the code object known -/
theorem okGc {P : Program} {w : World} {K : PySem.W.Frag} {mg : Str → Option Value} {base : Heap} {CX : CXT} {x qual : Str} {st : Stmt} {f : Addr} {N ps : List Str} {k : Nat} {sp : Sp} {oc kV doc pm cdv ct : Value} {od an : Option Addr} {osl : Array (Option Value)}
    (lk : K.lookup f = some ⟨oc, od, .func (PySem.W.fnOf x qual (defArgs st) (defBody st) (defScope st) .none kV doc pm an cdv ct), osl⟩) (hcd : PySem.W.codeIn K cdv qual = true) (S : FnScope N ps (defScope st)) (len : ∀ vs H Q E, sp vs H Q E → vs.length = ps.length)
    (body : ∀ (A : Around) (outer : List Env) (s : Shared) (H : Hp) (vs : List V) (Q : VK) (E : XK), Room k (A.deeper (envOfC qual (defScope st) s.heap.objs.size f cdv)) → (A.deeper (envOfC qual (defScope st) s.heap.objs.size f cdv)).guards = some [] → sp vs H Q E →
      ∃ t, PSs (cxOf CX P w K mg base N qual (defScope st) f cdv A outer s H E) (defBody st) t ∧ t { nx := fun _ H' => Q .non H', rt := Q } (start N vs) H) : FnG P w K mg base CX (k + 1) f (PySem.W.fnOf x qual (defArgs st) (defBody st) (defScope st) .none kV doc pm an cdv ct) ps sp := by
  refine ⟨len, fun A outer s H args us vs Q E room guard e0 bind rel prom => ?_⟩
  have guard' : (A.deeper (envOfC qual (defScope st) s.heap.objs.size f cdv)).guards = some [] := by
    cases A
    exact guard
  exact LamX.run_ofS lk hcd S room e0 bind rel (len _ _ _ _ prom) fun hr' => body A outer s H vs Q E hr' guard' prom
/-! ### the drawn wrong values -/
def flatD : V → PyData
  | .bl b => .bool b
  | .int i => .int i
  | .str z => .str z
  | _ => .none
def okFlat (v : V) : Bool := (match v with | .non => true | .bl _ => true | .int _ => true | .str z => decide (z.length ≤ 1000) | _ => false) && (flatD v).showable && decide ((flatD v).depth ≤ 8) && decide ((flatD v).shown.length ≤ 1000) && PyData.strOk (flatD v).shown
theorem val_flat {H : Hp} {v : V} (h : okFlat v = true) : Val H v (flatD v) := by
  unfold okFlat at h
  simp only [Bool.and_eq_true, decide_eq_true_eq] at h
  obtain ⟨⟨⟨⟨h1, h2⟩, h3⟩, h4⟩, h5⟩ := h
  refine ⟨.flat ?_, ⟨h2, h3, Nat.le_trans h4 (by decide)⟩, h5, fun z e => ?_⟩
  · cases v with
    | non => exact .non
    | bl b => exact .bl b
    | int i => exact .int i
    | str z => exact .str z
    | _ => cases h1
  · subst e
    exact of_decide_eq_true h1
def big40 : Int := (10 : Int) ^ (40 : Int).toNat
def barred : List V := [.str "put", .str "copy", .str "if", .str "else", .str "say", .str "fail", .str "catch", .str "choose", .str "or", .str "none", .str "stop", .str "skip", .str "cell", .str "log"]
def oddA : List V := [.non, .int 0, .str "", .str "A", .str "x1", .str "abcdefghi", .str "x "]
def oddB : List V := [.bl true, .str "failure", .str "choice", .int big40]
def wideA : List V := [.non, .int 0, .int 1, .int 5, .bl true, .str "2"]
def wideB : List V := [.int big40, .int (-2)]
theorem bad_flat : ∀ v ∈ oddA ++ (oddB ++ barred), okFlat v = true ∧ isN v = false := by decide +kernel
theorem wide_flat : ∀ v ∈ wideA ++ wideB, okFlat v = true ∧ isZ v = false := by decide +kernel
theorem fine_lx : Fine (.list [.str "x"]) ∧ PyData.strOk (PyData.list [.str "x"]).shown = true := ⟨⟨by decide +kernel, by decide +kernel, by decide +kernel⟩, by decide +kernel⟩
theorem fine_tx : Fine (.tuple [.str "x"]) ∧ PyData.strOk (PyData.tuple [.str "x"]).shown = true := ⟨⟨by decide +kernel, by decide +kernel, by decide +kernel⟩, by decide +kernel⟩
theorem fine_d : Fine (.dict []) ∧ PyData.strOk (PyData.dict []).shown = true := ⟨⟨by decide +kernel, by decide +kernel, by decide +kernel⟩, by decide +kernel⟩
theorem fine_t2 : Fine (.tuple [.int 2]) ∧ PyData.strOk (PyData.tuple [.int 2]).shown = true := ⟨⟨by decide +kernel, by decide +kernel, by decide +kernel⟩, by decide +kernel⟩
theorem fine_l3 : Fine (.list [.int 3]) ∧ PyData.strOk (PyData.list [.int 3]).shown = true := ⟨⟨by decide +kernel, by decide +kernel, by decide +kernel⟩, by decide +kernel⟩
/-- the pen is no such value -/
theorem Val.off {H H' : Hp} {v : V} {d : PyData} {p c : Addr} {ns : List Int} {B : Int} (h : Val H v d) (P : PenAt H p c ns B) (o : Off p H H') : Val H' v d := by
  obtain ⟨b, g, hp, _⟩ := P.pen
  refine ⟨?_, h.fine, h.ok, h.few⟩
  have th := h.th
  cases th with
  | flat e => exact .flat e
  | @lst a xs ds e k n =>
    refine .lst (o _ _ (fun z => ?_) e) k n
    rw [z, hp] at e
    injection e with e
    injection e with e
    subst e
    cases k with
    | cons k1 _ => cases k1
  | tup e k n =>
    refine .tup (o _ _ (fun z => ?_) e) k n
    rw [z, hp] at e
    cases e
  | dct e =>
    refine .dct (o _ _ (fun z => ?_) e)
    rw [z, hp] at e
    cases e
theorem pick_bad {H : Hp} {l t d : Addr} {v : V} (hl : H l = some (.lst [.str "x"])) (ht : H t = some (.tup [.str "x"])) (hd : H d = some (.dK [])) (hv : v ∈ (oddA ++ ([.ref l, .ref t, .ref d] ++ oddB)) ++ barred) : ∃ db, Val H v db ∧ isN v = false := by
  have flat : v ∈ oddA ++ (oddB ++ barred) → ∃ db, Val H v db ∧ isN v = false := fun h => ⟨_, val_flat (bad_flat v h).1, (bad_flat v h).2⟩
  simp only [List.mem_append] at hv flat
  rcases hv with (h | h | h) | h
  · exact flat (.inl h)
  · simp only [List.mem_cons, List.not_mem_nil, or_false] at h
    rcases h with rfl | rfl | rfl
    · exact ⟨.list [.str "x"], ⟨.lst hl (.cons (.str _) .nil) (by decide), fine_lx.1, fine_lx.2, fun _ z => by cases z⟩, rfl⟩
    · exact ⟨.tuple [.str "x"], ⟨.tup ht (.cons (.str _) .nil) (by decide), fine_tx.1, fine_tx.2, fun _ z => by cases z⟩, rfl⟩
    · exact ⟨.dict [], ⟨.dct hd, fine_d.1, fine_d.2, fun _ z => by cases z⟩, rfl⟩
  · exact flat (.inr (.inl h))
  · exact flat (.inr (.inr h))
theorem pick_wide {H : Hp} {t l : Addr} {v : V} (ht : H t = some (.tup [.int 2])) (hl : H l = some (.lst [.int 3])) (hv : v ∈ wideA ++ ([.ref t] ++ (wideB ++ [.ref l]))) : ∃ dw, Val H v dw ∧ isZ v = false := by
  have flat : v ∈ wideA ++ wideB → ∃ dw, Val H v dw ∧ isZ v = false := fun h => ⟨_, val_flat (wide_flat v h).1, (wide_flat v h).2⟩
  simp only [List.mem_append] at hv flat
  rcases hv with h | h | h | h
  · exact flat (.inl h)
  · rw [List.mem_singleton.mp h]
    exact ⟨.tuple [.int 2], ⟨.tup ht (.cons (.int _) .nil) (by decide), fine_t2.1, fine_t2.2, fun _ z => by cases z⟩, rfl⟩
  · exact flat (.inr h)
  · rw [List.mem_singleton.mp h]
    exact ⟨.list [.int 3], ⟨.lst hl (.cons (.int _) .nil) (by decide), fine_l3.1, fine_l3.2, fun _ z => by cases z⟩, rfl⟩
abbrev nRef : List Str := ["_law_pen_here", "_law_barred", "_law_odd", "_law_bad", "_law_wide", "_law_heard_here"]
theorem scRef : FnScope nRef ["_law_pen_here"] (defScope sRefused) := ⟨rfl, rfl, rfl, by decide +kernel, rfl, by decide +kernel, by decide +kernel⟩
def inF (i : Nat) : Stmt := (defBody sRefused).getD i (.Pass ⟨0, 0, 0, 0⟩)
abbrev XF (P : Program) (w : World) (K : PySem.W.Frag) (mg : Str → Option Value) (base : Heap) (f c : Addr) (A : Around) (outer : List Env) (s : Shared) (H : Hp) (E : XK) : Cx := cxOf CX0 P w K mg base nRef "_law_refused_right" (defScope sRefused) f (.ref c) A outer s H E
section
variable {P : Program} {w : World} {K : PySem.W.Frag} {mg : Str → Option Value} {base : Heap} {f c : Addr} {A0 : Around} {outer : List Env} {s : Shared} {H0 : Hp} {E : XK}
/-- the two lists -/
theorem rq1 : ∃ t0 t1, PS (XF P w K mg base f c A0 outer s H0 E) (inF 0) t0 ∧ PS (XF P w K mg base f c A0 outer s H0 E) (inF 1) t1 ∧ ∀ (p : Addr) (y1 y2 y3 y4 y5 : Option V) (H : Hp) (D : Ends),
      (∀ l0 l1 l t d H', Same' H H' → H' l0 = some (.lst barred) → H' l1 = some (.lst (oddA ++ ([.ref l, .ref t, .ref d] ++ oddB))) → H' l = some (.lst [.str "x"]) → H' t = some (.tup [.str "x"]) → H' d = some (.dK []) → D.nx [some (.ref p), some (.ref l0), some (.ref l1), y3, y4, y5] H') → tSeq t0 t1 D [some (.ref p), y1, y2, y3, y4, y5] H := by
  refine ⟨_, _, ps_set (i := 1) scRef.nd rfl (.inl rfl) (pe_lst (pa_cons pe_str (pa_cons pe_str (pa_cons pe_str (pa_cons pe_str (pa_cons pe_str (pa_cons pe_str (pa_cons pe_str (pa_cons pe_str (pa_cons pe_str (pa_cons pe_str (pa_cons pe_str (pa_cons pe_str (pa_cons pe_str (pa_cons pe_str pa_nil))))))))))))))),
    ps_set (i := 2) scRef.nd rfl (.inl rfl) (pe_lst (pa_cons pe_non (pa_cons pe_int (pa_cons pe_str (pa_cons pe_str (pa_cons pe_str (pa_cons pe_str (pa_cons pe_str (pa_cons (pe_lst (pa_cons pe_str pa_nil)) (pa_cons (pe_tup (pa_cons pe_str pa_nil)) (pa_cons pe_dnewK
      (pa_cons pe_bl (pa_cons pe_str (pa_cons pe_str (pa_cons (pe_op op_pow pe_int pe_int) pa_nil))))))))))))))), ?_⟩
  intro p y1 y2 y3 y4 y5 H D q
  refine ⟨by show 14 ≤ sizeLine; decide, fun l0 h0 => ?_⟩
  refine ⟨by show 1 ≤ sizeLine; decide, fun l hl => ⟨by show 1 ≤ sizeLine; decide, fun t ht => fun d hd => ?_⟩⟩
  refine ⟨10, 40, rfl, rfl, ⟨by decide, by decide, by decide⟩, by show 14 ≤ sizeLine; decide, fun l1 h1 => ?_⟩
  have e0 := same_new (o := .lst barred) h0
  have e1 := same_new (o := .lst [.str "x"]) hl
  have e2 := same_new (o := .tup [.str "x"]) ht
  have e3 := same_new (o := .dK []) hd
  have e4 := same_new (o := .lst (oddA ++ ([.ref l, .ref t, .ref d] ++ oddB))) h1
  exact q l0 l1 l t d _ ((((e0.trans e1).trans e2).trans e3).trans e4) ((((e1.trans e2).trans e3).trans e4) _ _ upd_same) upd_same (((e2.trans e3).trans e4) _ _ upd_same) ((e3.trans e4) _ _ upd_same) (e4 _ _ upd_same)
/-- the two values -/
theorem rq2 {fP : Addr} {fdP : FuncData} (hr : Room 9 (XF P w K mg base f c A0 outer s H0 E).A) (FP : Fun K "_law_pick" "_law_pick" sPick fP fdP) (bP : Binds K fdP ["_law_pen_here", "_law_some"] []) (gP : mg "_law_pick" = some (.ref fP)) (GP : FnOk P w K mg base CX0 2 fP fdP ["_law_pen_here", "_law_some"] spPick) :
    ∃ t2, PS (XF P w K mg base f c A0 outer s H0 E) (inF 2) t2 ∧ ∀ (p cc : Addr) (ns : List Int) (B : Int) (l0 l1 l t d : Addr) (y3 y4 y5 : Option V) (H : Hp) (D : Ends), PenAt H p cc ns B → B + 2 ≤ 1000 →
      H l0 = some (.lst barred) → H l1 = some (.lst (oddA ++ ([.ref l, .ref t, .ref d] ++ oddB))) → H l = some (.lst [.str "x"]) → H t = some (.tup [.str "x"]) → H d = some (.dK []) →
      (∀ vb vw db dw H', Off p H H' → PenAt H' p cc ns (B + 2) → Val H' vb db → isN vb = false → Val H' vw dw → isZ vw = false → D.nx [some (.ref p), some (.ref l0), some (.ref l1), some vb, some vw, y5] H') → t2 D [some (.ref p), some (.ref l0), some (.ref l1), y3, y4, y5] H := by
  refine ⟨_, ps_asg (pe_tup (pa_cons (pe_call GP (hr.mono (by decide)) (by rfl) gP FP.kp bP .nil pass0 (pa_cons (pv 0) (pa_cons (pe_op op_cat (pv 2) (pv 1)) pa_nil)))
    (pa_cons (pe_call GP (hr.mono (by decide)) (by rfl) gP FP.kp bP .nil pass0 (pa_cons (pv 0) (pa_cons (pe_lst (pa_cons pe_non (pa_cons pe_int (pa_cons pe_int (pa_cons pe_int (pa_cons pe_bl (pa_cons pe_str (pa_cons (pe_tup (pa_cons pe_int pa_nil))
      (pa_cons (pe_op op_pow pe_int pe_int) (pa_cons (pe_un un_neg pe_int) (pa_cons (pe_lst (pa_cons pe_int pa_nil)) pa_nil))))))))))) pa_nil))) pa_nil)))
    (pg_tup (n := 2) rfl (pgs_cons (pg_name (i := 3) scRef.nd rfl (.inr rfl)) (pgs_cons (pg_name (i := 4) scRef.nd rfl (.inr rfl)) pgs_nil))), ?_⟩
  intro p cc ns B l0 l1 l t d y3 y4 y5 H D PA hB h0 h1 hl ht hd q
  obtain ⟨bb, gg, hp, _⟩ := PA.pen
  refine ⟨.ref p, rfl, .ref l1, rfl, .ref l0, rfl, l1, l0, _, _, rfl, rfl, h1, h0, by show 28 ≤ sizeLine; decide, fun l2 h2 => ?_⟩
  have c2 := same_new (o := .lst ((oddA ++ ([.ref l, .ref t, .ref d] ++ oddB)) ++ barred)) h2
  refine ⟨p, cc, ns, B, .ref l2, _, rfl, PA.new h2, by omega, .inl ⟨l2, rfl, (ne_of_none hp h2).symm, upd_same⟩, by show 1 ≤ 28; decide, by show 28 ≤ 1000; decide, fun vb H1 hv PA1 off1 => ?_⟩
  obtain ⟨db, Vb, nb⟩ := pick_bad (c2 _ _ hl) (c2 _ _ ht) (c2 _ _ hd) hv
  have Vb1 := Vb.off (PA.new h2) off1
  have o1 : Off p H H1 := (Off.new h2).trans off1
  obtain ⟨bb1, gg1, hp1, _⟩ := PA1.pen
  refine ⟨.ref p, rfl, by show 1 ≤ sizeLine; decide, fun t2 ht2 => ⟨10, 40, rfl, rfl, ⟨by decide, by decide, by decide⟩, 2, rfl, by show 1 ≤ sizeLine; decide, fun l3 hl3 => ⟨by show 10 ≤ sizeLine; decide, fun l4 hl4 => ?_⟩⟩⟩
  have d1 := same_new (o := .tup [.int 2]) ht2
  have d2 := same_new (o := .lst [.int 3]) hl3
  have d3 := same_new (o := .lst (wideA ++ ([.ref t2] ++ (wideB ++ [.ref l3])))) hl4
  have dd := (d1.trans d2).trans d3
  have n4 : l4 ≠ p := fun z => by
    have e := (d1.trans d2) _ _ hp1
    rw [← z, hl4] at e
    cases e
  refine ⟨p, cc, ns, B + 1, .ref l4, _, rfl, PA1.keep dd, by omega, .inl ⟨l4, rfl, n4, upd_same⟩, by show 1 ≤ 10; decide, by show 10 ≤ 1000; decide, fun vw H2 hw PA2 off2 => ?_⟩
  obtain ⟨dw, Vw, nz⟩ := pick_wide ((d2.trans d3) _ _ upd_same) (d3 _ _ upd_same) hw
  have Vw2 := Vw.off (PA1.keep dd) off2
  have Vb2 := (Vb1.keep dd).off (PA1.keep dd) off2
  refine ⟨by show 2 ≤ sizeLine; decide, fun pp hpp => ?_⟩
  refine ⟨pp, _, rfl, SqT.of upd_same, rfl, _, _, rfl, _, _, rfl, rfl, ?_⟩
  have last := same_new (o := .tup [vb, vw]) hpp
  refine q vb vw db dw _ (((o1.trans (fun a o _ e => dd a o e)).trans off2).trans (fun a o _ e => last a o e)) ((PA2.more (by omega)).keep last) (Vb2.keep last) nb (Vw2.keep last) nz
end
end My
namespace My
open PySem PySem.Spec PyProof.Rows L2
open LamX (ExtN Tabs TabS TabB lamSB lamS_by tLam lamCx)
def T1 (P : Addr) : List (Addr × Str) := [(P, (envOfC "_law_refused_right" (defScope sRefused) 0 0 .none).qual ++ "<lambda>")]
theorem tab_of {P : Addr} {H : Hp} (h : Tabs (T1 P) H) : TabS H P ((envOfC "_law_refused_right" (defScope sRefused) 0 0 .none).qual ++ "<lambda>") := h _ (List.mem_singleton.mpr rfl)
theorem tabs_off {P p : Addr} {H H' : Hp} {xs : List V} (h : Tabs (T1 P) H) (hp : H p = some (.lst xs)) (o : Off p H H') : Tabs (T1 P) H' := fun q hq => by
  obtain ⟨ps, h1, h2, h3⟩ := h q hq
  refine ⟨ps, o _ _ (fun z => ?_) h1, h2, fun pos cv e => ?_⟩
  · rw [z, hp] at h1
    cases h1
  · obtain ⟨c, e1, e2⟩ := h3 pos cv e
    refine ⟨c, e1, o _ _ (fun z => ?_) e2⟩
    rw [z, hp] at e2
    unfold LamX.CodeO at e2
    cases e2
theorem PenAt.ext {H H' : Hp} {p c : Addr} {ns : List Int} {B : Int} (h : PenAt H p c ns B) (e : ExtN H H') : PenAt H' p c ns B := by
  obtain ⟨b, g, hp, h1, h2, h3⟩ := h.pen
  exact ⟨⟨b, g, e _ _ hp (fun _ z => by cases z), h1, h2, h3⟩, e _ _ h.cells (fun _ z => by cases z), h.few⟩
/-- the tuples that the calls told -/
abbrev Tl (H : Hp) : List V → List (Bool × Str) → Prop := Paired fun v q => ∃ t, v = .ref t ∧ H t = some (.tup [.str (told q.1), .str q.2])
theorem tl_keep {H H' : Hp} (k : ∀ t xs, H t = some (.tup xs) → H' t = some (.tup xs)) : ∀ {ts : List V} {bs : List (Bool × Str)}, Tl H ts bs → Tl H' ts bs
  | _, _, .nil => .nil
  | _, _, .cons ⟨t, e, h⟩ r => .cons ⟨t, e, k _ _ h⟩ (tl_keep k r)
theorem tl_snoc {H : Hp} {v : V} {q : Bool × Str} (h : ∃ t, v = .ref t ∧ H t = some (.tup [.str (told q.1), .str q.2])) : ∀ {ts : List V} {bs : List (Bool × Str)}, Tl H ts bs → Tl H (ts ++ [v]) (bs ++ [q])
  | _, _, .nil => .cons h .nil
  | _, _, .cons a r => .cons a (tl_snoc h r)
structure StF (H : Hp) (p cc : Addr) (ns : List Int) (B : Int) (l P : Addr) (vb vw : V) (db dw : PyData) (ts : List V) (bs : List (Bool × Str)) : Prop where
  pen : PenAt H p cc ns B
  tabs : Tabs (T1 P) H
  hb : Val H vb db
  hw : Val H vw dw
  lst : H l = some (.lst ts)
  tl : Tl H ts bs
  np : l ≠ p
  nc : l ≠ cc
  nb : ∀ a, vb = .ref a → a ≠ l
  nw : ∀ a, vw = .ref a → a ≠ l
  few : ts.length ≤ 10
theorem val_upd {H : Hp} {l : Addr} {o : HO} {v : V} {d : PyData} (h : Val H v d) (n : ∀ a, v = .ref a → a ≠ l) : Val (upd H l o) v d := by
  refine ⟨?_, h.fine, h.ok, h.few⟩
  have th := h.th
  cases th with
  | flat e => exact .flat e
  | lst e k m => exact .lst (by rw [upd_ne (n _ rfl)]; exact e) k m
  | tup e k m => exact .tup (by rw [upd_ne (n _ rfl)]; exact e) k m
  | dct e => exact .dct (by rw [upd_ne (n _ rfl)]; exact e)
theorem StF.grow {H H3 : Hp} {p cc l P t : Addr} {ns : List Int} {B : Int} {vb vw : V} {db dw : PyData} {ts : List V} {bs : List (Bool × Str)} {b : Bool} {s : Str} (h : StF H p cc ns B l P vb vw db dw ts bs) (few : ts.length ≤ 9) (e : ExtN H H3) (tb : Tabs (T1 P) H3) (ht : H3 t = some (.tup [.str (told b), .str s])) :
    H3 l = some (.lst ts) ∧ ts.length < sizeLine ∧ StF (upd H3 l (.lst (ts ++ [.ref t]))) p cc ns B l P vb vw db dw (ts ++ [.ref t]) (bs ++ [(b, s)]) := by
  have hl : H3 l = some (.lst ts) := e _ _ h.lst (fun _ z => by cases z)
  have nt : t ≠ l := fun z => by
    rw [z, hl] at ht
    cases ht
  have off : Off l H3 (upd H3 l (.lst (ts ++ [.ref t]))) := fun q o n e => by
    rw [upd_ne n]
    exact e
  obtain ⟨b0, g0, hp, h1, h2, h3⟩ := (h.pen.ext e).pen
  refine ⟨hl, small1000 (by omega), ⟨⟨⟨b0, g0, off _ _ h.np.symm hp, h1, h2, h3⟩, off _ _ h.nc.symm (h.pen.ext e).cells, h.pen.few⟩, tabs_off tb hl off, val_upd (h.hb.ext e) h.nb, val_upd (h.hw.ext e) h.nw, upd_same, ?_, h.np, h.nc, h.nb, h.nw, ?_⟩⟩
  · refine tl_snoc ⟨t, rfl, off _ _ nt ht⟩ (tl_keep (fun t xs k => ?_) h.tl)
    have k3 := e _ _ k (fun _ z => by cases z)
    refine off _ _ (fun z => ?_) k3
    rw [z, hl] at k3
    cases k3
  · rw [List.length_append, List.length_singleton]
    omega
/-- what is told, as data -/
def tellD (q : Bool × Str) : PyData := .tuple [.str (told q.1), .str q.2]
theorem tl_dp {K : PySem.W.Frag} {H : Hp} : ∀ {ts : List V} {bs : List (Bool × Str)}, Tl H ts bs → DpAll K H ts (bs.map tellD)
  | _, _, .nil => .nil
  | _, _, .cons ⟨t, e, h⟩ r => by
    subst e
    exact .cons (.tup (SqT.of h) (.cons (.str _) (.cons (.str _) .nil))) (tl_dp r)
theorem told_ok (b : Bool) : PyData.strOk (told b) = true := by cases b <;> decide +kernel
theorem six_shaped {x y : Str} (hx : PyData.strOk x = true) (hy : PyData.strOk y = true) : SeqAt.shaped (.list ([(true, x), (true, x), (true, x), (true, x), (false, y), (false, y)].map tellD)) = true := by
  unfold SeqAt.shaped
  simp [tellD, PyData.canLay0, PyData.canLayAll0, told_ok, hx, hy, PyData.depth, PyData.depthAll]
theorem six_eqv {x y : Str} : PyData.eqv (.list ([(true, x), (true, x), (true, x), (true, x), (false, y), (false, y)].map tellD)) (.list ([(true, x), (true, x), (true, x), (true, x), (false, y), (false, y)].map tellD)) = true := by
  simp [tellD, PyData.eqv, PyData.eqvAll]
end My
namespace My
open PySem PySem.Spec PyProof.Rows L2
open LamX (ExtN Tabs TabS TabB lamSB lamS_by tLam lamCx)
section
variable {P : Program} {w : World} {K : PySem.W.Frag} {mg : Str → Option Value} {base : Heap} {f c : Addr} {A0 : Around} {outer : List Env} {s : Shared} {H0 : Hp} {E0' : XK}
theorem rq3 {fH fP fI0 fI1 fI2 P0 CN CZ CL : Addr} {dH dP d0 d1 d2 : FuncData} {ds2 : List Value} {gk : List Value → List Value → List Value} {A : A4} (T : Txt mg) (S : Hand K mg A) (hr : Room 9 (XF P w K mg base f c A0 outer s H0 E0').A) (hg : (XF P w K mg base f c A0 outer s H0 E0').A.guards = some [])
    (TB : TabB base mg c P0) (FH : Fun K "_law_heard" "_law_heard" sHeard fH dH) (gH : mg "_law_heard" = some (.ref fH)) (gN : mg "BadName" = some (.ref CN)) (gZ : mg "BadNumber" = some (.ref CZ)) (gL : mg "LayerError" = some (.ref CL)) (eN : EK K CN CZ CL CN true) (eZ : EK K CN CZ CL CZ false)
    (M0 : Mk K A.c fI0) (b0 : Binds K d0 ["self", "name", "size"] []) (b01 : Binds K d0 ["self", "name", "size"] ds2) (dv : Vals [V.int 2] ds2) (kb : KBn K d0 ["self", "name", "size"] 1 ["size", "name"] gk gSN) (G0 : FnOk P w K mg base (L2.CX P w) 6 fI0 d0 ["self", "name", "size"] (spCellI K A.c CN CZ))
    (M1 : Mk K A.l fI1) (b1 : Binds K d1 ["self", "name"] []) (G1 : FnOk P w K mg base (L2.CX P w) 6 fI1 d1 ["self", "name"] (spNamed K A.l CN))
    (M2 : Mk K A.f fI2) (b2 : Binds K d2 ["self", "name"] []) (G2 : FnOk P w K mg base (L2.CX P w) 6 fI2 d2 ["self", "name"] (spNamed K A.f CN)) :
    ∃ t3, PS (XF P w K mg base f c A0 outer s H0 E0') (inF 3) t3 ∧ ∀ (p cc : Addr) (ns : List Int) (B : Int) (vb vw : V) (db dw : PyData) (y1 y2 y5 : Option V) (H : Hp) (D : Ends), PenAt H p cc ns B → Tabs (T1 P0) H → Val H vb db → isN vb = false → Val H vw dw →
      (∀ l ts H', StF H' p cc ns B l P0 vb vw db dw ts [(true, db.shown)] → ts.length = 1 → D.nx [some (.ref p), y1, y2, some vb, some vw, some (.ref l)] H') → t3 D [some (.ref p), y1, y2, some vb, some vw, y5] H := by
  refine ⟨_, ps_set (i := 5) scRef.nd rfl (.inl rfl) (pe_lst (pa_cons (pe_ask (t := fun E => tMake A.c (spCellI K A.c CN CZ) [] E (tCons (tVar 3) (tCons (tVar 4) tNil))) FH gH (by rfl) T gN gZ gL hr hg TB rfl (TT := T1 P0) rfl (by show lamSB (defScope sRefused) _ = true; decide +kernel) rfl (fun _ _ _ _ _ => rfl) (fun A1 outer1 s1 H1 E f1 c1 hr2 => pe_make M0 G0 hr2 (by rfl) S.cC.g b0 .nil (passes_call (takes_of rfl rfl rfl rfl) (fun _ _ _ _ h => h)) (pa_cons (pv 3) (pa_cons (pv 4) pa_nil)))) pa_nil)), ?_⟩
  intro p cc ns B vb vw db dw y1 y2 y5 H D PA tb Vb nb Vw q
  refine rd_cell (CL := CL) eN tb rfl rfl Vb Vw nb fun t H3 e3 tb3 ht => ⟨by show 1 ≤ sizeLine; decide, fun l hl => ?_⟩
  have up := same_new (o := .lst [.ref t]) hl
  have PA3 := PA.ext e3
  obtain ⟨b, g, hp, _⟩ := PA3.pen
  have no : ∀ {v : V} {d : PyData}, Val H3 v d → ∀ a, v = .ref a → a ≠ l := fun h a e z => by
    have th := h.th
    subst e
    rw [z] at th
    cases th with
    | flat e => cases e
    | lst e _ _ => rw [hl] at e; cases e
    | tup e _ _ => rw [hl] at e; cases e
    | dct e => rw [hl] at e; cases e
  refine q l [.ref t] _ ⟨PA3.keep up, tb3.ext up, (Vb.ext e3).keep up, (Vw.ext e3).keep up, upd_same, .cons ⟨t, rfl, up _ _ ht⟩ .nil, (ne_of_none hp hl).symm, (ne_of_none PA3.cells hl).symm, no (Vb.ext e3), no (Vw.ext e3), by show 1 ≤ 10; decide⟩ rfl
theorem rq4 {fH fP fI0 fI1 fI2 P0 CN CZ CL : Addr} {dH dP d0 d1 d2 : FuncData} {ds2 : List Value} {gk : List Value → List Value → List Value} {A : A4} (T : Txt mg) (S : Hand K mg A) (hr : Room 9 (XF P w K mg base f c A0 outer s H0 E0').A) (hg : (XF P w K mg base f c A0 outer s H0 E0').A.guards = some [])
    (TB : TabB base mg c P0) (FH : Fun K "_law_heard" "_law_heard" sHeard fH dH) (gH : mg "_law_heard" = some (.ref fH)) (gN : mg "BadName" = some (.ref CN)) (gZ : mg "BadNumber" = some (.ref CZ)) (gL : mg "LayerError" = some (.ref CL)) (eN : EK K CN CZ CL CN true) (eZ : EK K CN CZ CL CZ false)
    (M0 : Mk K A.c fI0) (b0 : Binds K d0 ["self", "name", "size"] []) (b01 : Binds K d0 ["self", "name", "size"] ds2) (dv : Vals [V.int 2] ds2) (kb : KBn K d0 ["self", "name", "size"] 1 ["size", "name"] gk gSN) (G0 : FnOk P w K mg base (L2.CX P w) 6 fI0 d0 ["self", "name", "size"] (spCellI K A.c CN CZ))
    (M1 : Mk K A.l fI1) (b1 : Binds K d1 ["self", "name"] []) (G1 : FnOk P w K mg base (L2.CX P w) 6 fI1 d1 ["self", "name"] (spNamed K A.l CN))
    (M2 : Mk K A.f fI2) (b2 : Binds K d2 ["self", "name"] []) (G2 : FnOk P w K mg base (L2.CX P w) 6 fI2 d2 ["self", "name"] (spNamed K A.f CN)) :
    ∃ t3, PS (XF P w K mg base f c A0 outer s H0 E0') (inF 4) t3 ∧ ∀ (p cc : Addr) (ns : List Int) (B : Int) (l : Addr) (vb vw : V) (db dw : PyData) (ts : List V) (bs : List (Bool × Str)) (y1 y2 : Option V) (H : Hp) (D : Ends), StF H p cc ns B l P0 vb vw db dw ts bs → ts.length = 1 → isN vb = false → isZ vw = false →
      (∀ ts' H', StF H' p cc ns B l P0 vb vw db dw ts' (bs ++ [(true, db.shown)]) → ts'.length = 2 → D.nx [some (.ref p), y1, y2, some vb, some vw, some (.ref l)] H') → t3 D [some (.ref p), y1, y2, some vb, some vw, some (.ref l)] H := by
  refine ⟨_, ps_expr (pe_bm PySem.F.plainAttrs_list PySem.F.slot_list_append PySem.F.type_list_append mt_append (pv 5) (pa_cons (pe_ask (t := fun E => tMake A.c (spCellI K A.c CN CZ) [.int 2] E (tCons (tVar 3) tNil)) FH gH (by rfl) T gN gZ gL hr hg TB rfl (TT := T1 P0) rfl (by show lamSB (defScope sRefused) _ = true; decide +kernel) rfl (fun _ _ _ _ _ => rfl) (fun A1 outer1 s1 H1 E f1 c1 hr2 => pe_make M0 G0 hr2 (by rfl) S.cC.g b01 dv (passes_call (takes_of rfl rfl rfl rfl) (fun _ _ _ _ h => h)) (pa_cons (pv 3) pa_nil))) pa_nil)), ?_⟩
  intro p cc ns B l vb vw db dw ts bs y1 y2 H D S0 hn nb nz q
  refine ⟨.ref l, rfl, .inl ⟨rfl, _, SqL.of S0.lst⟩, rd_cell1 (CL := CL) eN S0.tabs rfl S0.hb nb fun t H3 e3 tb3 ht => ?_⟩
  obtain ⟨hl, sz, S1⟩ := S0.grow (by omega) e3 tb3 ht
  exact ⟨l, ts, .ref t, rfl, rfl, hl, sz, q _ _ S1 (by rw [List.length_append, List.length_singleton, hn])⟩
theorem rq5 {fH fP fI0 fI1 fI2 P0 CN CZ CL : Addr} {dH dP d0 d1 d2 : FuncData} {ds2 : List Value} {gk : List Value → List Value → List Value} {A : A4} (T : Txt mg) (S : Hand K mg A) (hr : Room 9 (XF P w K mg base f c A0 outer s H0 E0').A) (hg : (XF P w K mg base f c A0 outer s H0 E0').A.guards = some [])
    (TB : TabB base mg c P0) (FH : Fun K "_law_heard" "_law_heard" sHeard fH dH) (gH : mg "_law_heard" = some (.ref fH)) (gN : mg "BadName" = some (.ref CN)) (gZ : mg "BadNumber" = some (.ref CZ)) (gL : mg "LayerError" = some (.ref CL)) (eN : EK K CN CZ CL CN true) (eZ : EK K CN CZ CL CZ false)
    (M0 : Mk K A.c fI0) (b0 : Binds K d0 ["self", "name", "size"] []) (b01 : Binds K d0 ["self", "name", "size"] ds2) (dv : Vals [V.int 2] ds2) (kb : KBn K d0 ["self", "name", "size"] 1 ["size", "name"] gk gSN) (G0 : FnOk P w K mg base (L2.CX P w) 6 fI0 d0 ["self", "name", "size"] (spCellI K A.c CN CZ))
    (M1 : Mk K A.l fI1) (b1 : Binds K d1 ["self", "name"] []) (G1 : FnOk P w K mg base (L2.CX P w) 6 fI1 d1 ["self", "name"] (spNamed K A.l CN))
    (M2 : Mk K A.f fI2) (b2 : Binds K d2 ["self", "name"] []) (G2 : FnOk P w K mg base (L2.CX P w) 6 fI2 d2 ["self", "name"] (spNamed K A.f CN)) :
    ∃ t3, PS (XF P w K mg base f c A0 outer s H0 E0') (inF 5) t3 ∧ ∀ (p cc : Addr) (ns : List Int) (B : Int) (l : Addr) (vb vw : V) (db dw : PyData) (ts : List V) (bs : List (Bool × Str)) (y1 y2 : Option V) (H : Hp) (D : Ends), StF H p cc ns B l P0 vb vw db dw ts bs → ts.length = 2 → isN vb = false → isZ vw = false →
      (∀ ts' H', StF H' p cc ns B l P0 vb vw db dw ts' (bs ++ [(true, db.shown)]) → ts'.length = 3 → D.nx [some (.ref p), y1, y2, some vb, some vw, some (.ref l)] H') → t3 D [some (.ref p), y1, y2, some vb, some vw, some (.ref l)] H := by
  refine ⟨_, ps_expr (pe_bm PySem.F.plainAttrs_list PySem.F.slot_list_append PySem.F.type_list_append mt_append (pv 5) (pa_cons (pe_ask (t := fun E => tMake A.l (spNamed K A.l CN) [] E (tCons (tVar 3) tNil)) FH gH (by rfl) T gN gZ gL hr hg TB rfl (TT := T1 P0) rfl (by show lamSB (defScope sRefused) _ = true; decide +kernel) rfl (fun _ _ _ _ _ => rfl) (fun A1 outer1 s1 H1 E f1 c1 hr2 => pe_make M1 G1 hr2 (by rfl) S.cL.g b1 .nil (passes_call (takes_of rfl rfl rfl rfl) (fun _ _ _ _ h => h)) (pa_cons (pv 3) pa_nil))) pa_nil)), ?_⟩
  intro p cc ns B l vb vw db dw ts bs y1 y2 H D S0 hn nb nz q
  refine ⟨.ref l, rfl, .inl ⟨rfl, _, SqL.of S0.lst⟩, rd_named (CL := CL) eN S0.tabs rfl S0.hb nb fun t H3 e3 tb3 ht => ?_⟩
  obtain ⟨hl, sz, S1⟩ := S0.grow (by omega) e3 tb3 ht
  exact ⟨l, ts, .ref t, rfl, rfl, hl, sz, q _ _ S1 (by rw [List.length_append, List.length_singleton, hn])⟩
theorem rq6 {fH fP fI0 fI1 fI2 P0 CN CZ CL : Addr} {dH dP d0 d1 d2 : FuncData} {ds2 : List Value} {gk : List Value → List Value → List Value} {A : A4} (T : Txt mg) (S : Hand K mg A) (hr : Room 9 (XF P w K mg base f c A0 outer s H0 E0').A) (hg : (XF P w K mg base f c A0 outer s H0 E0').A.guards = some [])
    (TB : TabB base mg c P0) (FH : Fun K "_law_heard" "_law_heard" sHeard fH dH) (gH : mg "_law_heard" = some (.ref fH)) (gN : mg "BadName" = some (.ref CN)) (gZ : mg "BadNumber" = some (.ref CZ)) (gL : mg "LayerError" = some (.ref CL)) (eN : EK K CN CZ CL CN true) (eZ : EK K CN CZ CL CZ false)
    (M0 : Mk K A.c fI0) (b0 : Binds K d0 ["self", "name", "size"] []) (b01 : Binds K d0 ["self", "name", "size"] ds2) (dv : Vals [V.int 2] ds2) (kb : KBn K d0 ["self", "name", "size"] 1 ["size", "name"] gk gSN) (G0 : FnOk P w K mg base (L2.CX P w) 6 fI0 d0 ["self", "name", "size"] (spCellI K A.c CN CZ))
    (M1 : Mk K A.l fI1) (b1 : Binds K d1 ["self", "name"] []) (G1 : FnOk P w K mg base (L2.CX P w) 6 fI1 d1 ["self", "name"] (spNamed K A.l CN))
    (M2 : Mk K A.f fI2) (b2 : Binds K d2 ["self", "name"] []) (G2 : FnOk P w K mg base (L2.CX P w) 6 fI2 d2 ["self", "name"] (spNamed K A.f CN)) :
    ∃ t3, PS (XF P w K mg base f c A0 outer s H0 E0') (inF 6) t3 ∧ ∀ (p cc : Addr) (ns : List Int) (B : Int) (l : Addr) (vb vw : V) (db dw : PyData) (ts : List V) (bs : List (Bool × Str)) (y1 y2 : Option V) (H : Hp) (D : Ends), StF H p cc ns B l P0 vb vw db dw ts bs → ts.length = 3 → isN vb = false → isZ vw = false →
      (∀ ts' H', StF H' p cc ns B l P0 vb vw db dw ts' (bs ++ [(true, db.shown)]) → ts'.length = 4 → D.nx [some (.ref p), y1, y2, some vb, some vw, some (.ref l)] H') → t3 D [some (.ref p), y1, y2, some vb, some vw, some (.ref l)] H := by
  refine ⟨_, ps_expr (pe_bm PySem.F.plainAttrs_list PySem.F.slot_list_append PySem.F.type_list_append mt_append (pv 5) (pa_cons (pe_ask (t := fun E => tMake A.f (spNamed K A.f CN) [] E (tCons (tVar 3) tNil)) FH gH (by rfl) T gN gZ gL hr hg TB rfl (TT := T1 P0) rfl (by show lamSB (defScope sRefused) _ = true; decide +kernel) rfl (fun _ _ _ _ _ => rfl) (fun A1 outer1 s1 H1 E f1 c1 hr2 => pe_make M2 G2 hr2 (by rfl) S.cF.g b2 .nil (passes_call (takes_of rfl rfl rfl rfl) (fun _ _ _ _ h => h)) (pa_cons (pv 3) pa_nil))) pa_nil)), ?_⟩
  intro p cc ns B l vb vw db dw ts bs y1 y2 H D S0 hn nb nz q
  refine ⟨.ref l, rfl, .inl ⟨rfl, _, SqL.of S0.lst⟩, rd_named (CL := CL) eN S0.tabs rfl S0.hb nb fun t H3 e3 tb3 ht => ?_⟩
  obtain ⟨hl, sz, S1⟩ := S0.grow (by omega) e3 tb3 ht
  exact ⟨l, ts, .ref t, rfl, rfl, hl, sz, q _ _ S1 (by rw [List.length_append, List.length_singleton, hn])⟩
theorem rq7 {fH fP fI0 fI1 fI2 P0 CN CZ CL : Addr} {dH dP d0 d1 d2 : FuncData} {ds2 : List Value} {gk : List Value → List Value → List Value} {A : A4} (T : Txt mg) (S : Hand K mg A) (hr : Room 9 (XF P w K mg base f c A0 outer s H0 E0').A) (hg : (XF P w K mg base f c A0 outer s H0 E0').A.guards = some [])
    (TB : TabB base mg c P0) (FH : Fun K "_law_heard" "_law_heard" sHeard fH dH) (gH : mg "_law_heard" = some (.ref fH)) (gN : mg "BadName" = some (.ref CN)) (gZ : mg "BadNumber" = some (.ref CZ)) (gL : mg "LayerError" = some (.ref CL)) (eN : EK K CN CZ CL CN true) (eZ : EK K CN CZ CL CZ false)
    (M0 : Mk K A.c fI0) (b0 : Binds K d0 ["self", "name", "size"] []) (b01 : Binds K d0 ["self", "name", "size"] ds2) (dv : Vals [V.int 2] ds2) (kb : KBn K d0 ["self", "name", "size"] 1 ["size", "name"] gk gSN) (G0 : FnOk P w K mg base (L2.CX P w) 6 fI0 d0 ["self", "name", "size"] (spCellI K A.c CN CZ))
    (M1 : Mk K A.l fI1) (b1 : Binds K d1 ["self", "name"] []) (G1 : FnOk P w K mg base (L2.CX P w) 6 fI1 d1 ["self", "name"] (spNamed K A.l CN))
    (M2 : Mk K A.f fI2) (b2 : Binds K d2 ["self", "name"] []) (G2 : FnOk P w K mg base (L2.CX P w) 6 fI2 d2 ["self", "name"] (spNamed K A.f CN)) :
    ∃ t3, PS (XF P w K mg base f c A0 outer s H0 E0') (inF 7) t3 ∧ ∀ (p cc : Addr) (ns : List Int) (B : Int) (l : Addr) (vb vw : V) (db dw : PyData) (ts : List V) (bs : List (Bool × Str)) (y1 y2 : Option V) (H : Hp) (D : Ends), StF H p cc ns B l P0 vb vw db dw ts bs → ts.length = 4 → isN vb = false → isZ vw = false →
      (∀ ts' H', StF H' p cc ns B l P0 vb vw db dw ts' (bs ++ [(false, dw.shown)]) → ts'.length = 5 → D.nx [some (.ref p), y1, y2, some vb, some vw, some (.ref l)] H') → t3 D [some (.ref p), y1, y2, some vb, some vw, some (.ref l)] H := by
  refine ⟨_, ps_expr (pe_bm PySem.F.plainAttrs_list PySem.F.slot_list_append PySem.F.type_list_append mt_append (pv 5) (pa_cons (pe_ask (t := fun E => tMake A.c (spCellI K A.c CN CZ) [] E (tCons (tC (.str "x")) (tCons (tVar 4) tNil))) FH gH (by rfl) T gN gZ gL hr hg TB rfl (TT := T1 P0) rfl (by show lamSB (defScope sRefused) _ = true; decide +kernel) rfl (fun _ _ _ _ _ => rfl) (fun A1 outer1 s1 H1 E f1 c1 hr2 => pe_make M0 G0 hr2 (by rfl) S.cC.g b0 .nil (passes_call (takes_of rfl rfl rfl rfl) (fun _ _ _ _ h => h)) (pa_cons pe_str (pa_cons (pv 4) pa_nil)))) pa_nil)), ?_⟩
  intro p cc ns B l vb vw db dw ts bs y1 y2 H D S0 hn nb nz q
  refine ⟨.ref l, rfl, .inl ⟨rfl, _, SqL.of S0.lst⟩, rd_wide (CL := CL) eZ S0.tabs rfl S0.hw nz fun t H3 e3 tb3 ht => ?_⟩
  obtain ⟨hl, sz, S1⟩ := S0.grow (by omega) e3 tb3 ht
  exact ⟨l, ts, .ref t, rfl, rfl, hl, sz, q _ _ S1 (by rw [List.length_append, List.length_singleton, hn])⟩
theorem rq8 {fH fP fI0 fI1 fI2 P0 CN CZ CL : Addr} {dH dP d0 d1 d2 : FuncData} {ds2 : List Value} {gk : List Value → List Value → List Value} {A : A4} (T : Txt mg) (S : Hand K mg A) (hr : Room 9 (XF P w K mg base f c A0 outer s H0 E0').A) (hg : (XF P w K mg base f c A0 outer s H0 E0').A.guards = some [])
    (TB : TabB base mg c P0) (FH : Fun K "_law_heard" "_law_heard" sHeard fH dH) (gH : mg "_law_heard" = some (.ref fH)) (gN : mg "BadName" = some (.ref CN)) (gZ : mg "BadNumber" = some (.ref CZ)) (gL : mg "LayerError" = some (.ref CL)) (eN : EK K CN CZ CL CN true) (eZ : EK K CN CZ CL CZ false)
    (M0 : Mk K A.c fI0) (b0 : Binds K d0 ["self", "name", "size"] []) (b01 : Binds K d0 ["self", "name", "size"] ds2) (dv : Vals [V.int 2] ds2) (kb : KBn K d0 ["self", "name", "size"] 1 ["size", "name"] gk gSN) (G0 : FnOk P w K mg base (L2.CX P w) 6 fI0 d0 ["self", "name", "size"] (spCellI K A.c CN CZ))
    (M1 : Mk K A.l fI1) (b1 : Binds K d1 ["self", "name"] []) (G1 : FnOk P w K mg base (L2.CX P w) 6 fI1 d1 ["self", "name"] (spNamed K A.l CN))
    (M2 : Mk K A.f fI2) (b2 : Binds K d2 ["self", "name"] []) (G2 : FnOk P w K mg base (L2.CX P w) 6 fI2 d2 ["self", "name"] (spNamed K A.f CN)) :
    ∃ t3, PS (XF P w K mg base f c A0 outer s H0 E0') (inF 8) t3 ∧ ∀ (p cc : Addr) (ns : List Int) (B : Int) (l : Addr) (vb vw : V) (db dw : PyData) (ts : List V) (bs : List (Bool × Str)) (y1 y2 : Option V) (H : Hp) (D : Ends), StF H p cc ns B l P0 vb vw db dw ts bs → ts.length = 5 → isN vb = false → isZ vw = false →
      (∀ ts' H', StF H' p cc ns B l P0 vb vw db dw ts' (bs ++ [(false, dw.shown)]) → ts'.length = 6 → D.nx [some (.ref p), y1, y2, some vb, some vw, some (.ref l)] H') → t3 D [some (.ref p), y1, y2, some vb, some vw, some (.ref l)] H := by
  refine ⟨_, ps_expr (pe_bm PySem.F.plainAttrs_list PySem.F.slot_list_append PySem.F.type_list_append mt_append (pv 5) (pa_cons (pe_ask (t := fun E => tMakeK A.c 0 2 (spCellI K A.c CN CZ) gSN E tNil (tCons (tVar 4) (tCons (tC (.str "x")) tNil))) FH gH (by rfl) T gN gZ gL hr hg TB rfl (TT := T1 P0) rfl (by show lamSB (defScope sRefused) _ = true; decide +kernel) rfl (fun _ _ _ _ _ => rfl) (fun A1 outer1 s1 H1 E f1 c1 hr2 => pe_makeK0 (ks := ["size", "name"]) M0 G0 hr2 (by rfl) S.cC.g kb (passes_call (takes_of rfl rfl rfl rfl) (fun _ _ _ _ h => h)) (pk_cons (pv 4) (pk_cons pe_str pk_nil)))) pa_nil)), ?_⟩
  intro p cc ns B l vb vw db dw ts bs y1 y2 H D S0 hn nb nz q
  refine ⟨.ref l, rfl, .inl ⟨rfl, _, SqL.of S0.lst⟩, rd_kw (CL := CL) eZ S0.tabs rfl S0.hw nz fun t H3 e3 tb3 ht => ?_⟩
  obtain ⟨hl, sz, S1⟩ := S0.grow (by omega) e3 tb3 ht
  exact ⟨l, ts, .ref t, rfl, rfl, hl, sz, q _ _ S1 (by rw [List.length_append, List.length_singleton, hn])⟩
end
end My
namespace My
open PySem PySem.Spec PyProof.Rows L2
open LamX (ExtN Tabs TabS TabB lamSB lamS_by tLam lamCx)
def spRef (P0 : Addr) : Sp := fun vs H Q _ => ∃ (p cc : Addr) (ns : List Int) (B : Int), vs = [.ref p] ∧ PenAt H p cc ns B ∧ B + 10 ≤ 1000 ∧ Tabs (T1 P0) H ∧ ∀ H', PenAt H' p cc ns (B + 2) → Tabs (T1 P0) H' → Q (.bl true) H'
section
variable {P : Program} {w : World} {K : PySem.W.Frag} {mg : Str → Option Value} {base : Heap} {f c : Addr} {A0 : Around} {outer : List Env} {s : Shared} {H0 : Hp} {E0' : XK}
theorem rq9 (T : Txt mg) (hr : Room 9 (XF P w K mg base f c A0 outer s H0 E0').A) (hg : (XF P w K mg base f c A0 outer s H0 E0').A.guards = some []) :
    ∃ t9, PS (XF P w K mg base f c A0 outer s H0 E0') (inF 9) t9 ∧ ∀ (p cc l P0 : Addr) (ns : List Int) (B : Int) (vb vw : V) (db dw : PyData) (ts : List V) (y1 y2 : Option V) (H : Hp) (D : Ends),
      StF H p cc ns B l P0 vb vw db dw ts [(true, db.shown), (true, db.shown), (true, db.shown), (true, db.shown), (false, dw.shown), (false, dw.shown)] →
      (∀ H', Same' H H' → D.rt (.bl true) H') → t9 D [some (.ref p), y1, y2, some vb, some vw, some (.ref l)] H := by
  have hu : (XF P w K mg base f c A0 outer s H0 E0').A.units + 64 < cLine := hr.units
  refine ⟨_, ps_ret (pe_cmpR (op_eqD hu) (pv 5) (pe_op op_cat
    (pe_op op_rep (pe_lst (pa_cons (pe_tup (pa_cons pe_str (pa_cons (pe_callB (call_reprT hg hu) (by rfl) T.repr (by decide +kernel) (pa_cons (pv 3) pa_nil)) pa_nil))) pa_nil)) pe_int)
    (pe_op op_rep (pe_lst (pa_cons (pe_tup (pa_cons pe_str (pa_cons (pe_callB (call_reprT hg hu) (by rfl) T.repr (by decide +kernel) (pa_cons (pv 4) pa_nil)) pa_nil))) pa_nil)) pe_int)) (nomark _)), ?_⟩
  intro p cc l P0 ns B vb vw db dw ts y1 y2 H D S0 q
  refine ⟨.ref l, rfl, vb, rfl, vb, db, rfl, S0.hb.th, S0.hb.fine, by show 2 ≤ sizeLine; decide, fun t1 h1 => ⟨by show 1 ≤ sizeLine; decide, fun l1 hl1 => ?_⟩⟩
  have a1 := same_new (o := .tup [.str (told true), .str db.shown]) h1
  have a2 := same_new (o := .lst [.ref t1]) hl1
  refine ⟨l1, 4, _, rfl, rfl, upd_same, by decide, by decide, by show 1 * 4 ≤ sizeLine; decide, fun r1 hr1 => ?_⟩
  have a3 := same_new (o := .lst [.ref t1, .ref t1, .ref t1, .ref t1]) hr1
  have a13 := (a1.trans a2).trans a3
  refine ⟨vw, rfl, vw, dw, rfl, (S0.hw.keep a13).th, S0.hw.fine, by show 2 ≤ sizeLine; decide, fun t2 h2 => ⟨by show 1 ≤ sizeLine; decide, fun l2 hl2 => ?_⟩⟩
  have a4 := same_new (o := .tup [.str (told false), .str dw.shown]) h2
  have a5 := same_new (o := .lst [.ref t2]) hl2
  refine ⟨l2, 2, _, rfl, rfl, upd_same, by decide, by decide, by show 1 * 2 ≤ sizeLine; decide, fun r2 hr2 => ?_⟩
  have a6 := same_new (o := .lst [.ref t2, .ref t2]) hr2
  refine ⟨r1, r2, [.ref t1, .ref t1, .ref t1, .ref t1], [.ref t2, .ref t2], rfl, rfl, ((a4.trans a5).trans a6) _ _ upd_same, upd_same, by show 6 ≤ sizeLine; decide, fun r hrr => ?_⟩
  have a7 := same_new (o := .lst ([.ref t1, .ref t1, .ref t1, .ref t1] ++ [.ref t2, .ref t2])) hrr
  have all := a13.trans (((a4.trans a5).trans a6).trans a7)
  have et1 := ((a2.trans a3).trans (((a4.trans a5).trans a6).trans a7)) _ _ (upd_same (H := H) (a := t1) (o := .tup [.str (told true), .str db.shown]))
  have et2 := ((a5.trans a6).trans a7) _ _ (upd_same (a := t2) (o := .tup [.str (told false), .str dw.shown]))
  have tl2 : Tl _ [.ref t1, .ref t1, .ref t1, .ref t1, .ref t2, .ref t2] [(true, db.shown), (true, db.shown), (true, db.shown), (true, db.shown), (false, dw.shown), (false, dw.shown)] :=
    .cons ⟨t1, rfl, et1⟩ (.cons ⟨t1, rfl, et1⟩ (.cons ⟨t1, rfl, et1⟩ (.cons ⟨t1, rfl, et1⟩ (.cons ⟨t2, rfl, et2⟩ (.cons ⟨t2, rfl, et2⟩ .nil)))))
  refine ⟨_, _, .lst (SqL.of (all _ _ S0.lst)) (tl_dp (tl_keep (fun t xs e => all _ _ e) S0.tl)), .lst (xs := [.ref t1, .ref t1, .ref t1, .ref t1, .ref t2, .ref t2]) (SqL.of upd_same) (tl_dp tl2), six_shaped S0.hb.ok S0.hw.ok, six_shaped S0.hb.ok S0.hw.ok, ?_⟩
  rw [six_eqv]
  exact q _ all
theorem ok_refused {oc kV doc pm ct : Value} {od an : Option Addr} {osl : Array (Option Value)} {fH fP fI0 fI1 fI2 P0 CN CZ CL : Addr} {dH dP d0 d1 d2 : FuncData} {ds2 : List Value} {gk : List Value → List Value → List Value} {A : A4} (T : Txt mg) (S : Hand K mg A)
    (TB : TabB base mg c P0) (FH : Fun K "_law_heard" "_law_heard" sHeard fH dH) (gH : mg "_law_heard" = some (.ref fH)) (gN : mg "BadName" = some (.ref CN)) (gZ : mg "BadNumber" = some (.ref CZ)) (gL : mg "LayerError" = some (.ref CL)) (eN : EK K CN CZ CL CN true) (eZ : EK K CN CZ CL CZ false)
    (M0 : Mk K A.c fI0) (b0 : Binds K d0 ["self", "name", "size"] []) (b01 : Binds K d0 ["self", "name", "size"] ds2) (dv : Vals [V.int 2] ds2) (kb : KBn K d0 ["self", "name", "size"] 1 ["size", "name"] gk gSN) (G0 : FnOk P w K mg base (L2.CX P w) 6 fI0 d0 ["self", "name", "size"] (spCellI K A.c CN CZ))
    (M1 : Mk K A.l fI1) (b1 : Binds K d1 ["self", "name"] []) (G1 : FnOk P w K mg base (L2.CX P w) 6 fI1 d1 ["self", "name"] (spNamed K A.l CN))
    (M2 : Mk K A.f fI2) (b2 : Binds K d2 ["self", "name"] []) (G2 : FnOk P w K mg base (L2.CX P w) 6 fI2 d2 ["self", "name"] (spNamed K A.f CN))
    (lk : K.lookup f = some ⟨oc, od, .func (PySem.W.fnOf "_law_refused_right" "_law_refused_right" (defArgs sRefused) (defBody sRefused) (defScope sRefused) .none kV doc pm an (.ref c) ct), osl⟩) (hcd : PySem.W.codeIn K (.ref c) "_law_refused_right" = true)
    (FP : Fun K "_law_pick" "_law_pick" sPick fP dP) (bP : Binds K dP ["_law_pen_here", "_law_some"] []) (gP : mg "_law_pick" = some (.ref fP)) (GP : FnOk P w K mg base CX0 2 fP dP ["_law_pen_here", "_law_some"] spPick) :
    FnG P w K mg base CX0 10 f (PySem.W.fnOf "_law_refused_right" "_law_refused_right" (defArgs sRefused) (defBody sRefused) (defScope sRefused) .none kV doc pm an (.ref c) ct) ["_law_pen_here"] (spRef P0) := by
  refine okGc lk hcd scRef (fun vs H Q E h => ?_) (fun A1 outer s H vs Q E hr hg h => ?_)
  · obtain ⟨p, cc, ns, B, rfl, _⟩ := h
    rfl
  · obtain ⟨p, cc, ns, B, rfl, PA, hB, tb, q⟩ := h
    obtain ⟨t0, t1, h0, h1, q1⟩ := rq1 (P := P) (w := w) (K := K) (mg := mg) (base := base) (f := f) (c := c) (A0 := A1) (outer := outer) (s := s) (H0 := H) (E := E)
    obtain ⟨t2, h2, q2⟩ := rq2 (f := f) (c := c) (A0 := A1) (outer := outer) (s := s) (H0 := H) (E := E) hr FP bP gP GP
    obtain ⟨t3, h3, q3⟩ := rq3 (f := f) (c := c) (A0 := A1) (outer := outer) (s := s) (H0 := H) (E0' := E) (fP := fP) (dP := dP) T S hr hg TB FH gH gN gZ gL eN eZ M0 b0 b01 dv kb G0 M1 b1 G1 M2 b2 G2
    obtain ⟨t4, h4, q4⟩ := rq4 (f := f) (c := c) (A0 := A1) (outer := outer) (s := s) (H0 := H) (E0' := E) (fP := fP) (dP := dP) T S hr hg TB FH gH gN gZ gL eN eZ M0 b0 b01 dv kb G0 M1 b1 G1 M2 b2 G2
    obtain ⟨t5, h5, q5⟩ := rq5 (f := f) (c := c) (A0 := A1) (outer := outer) (s := s) (H0 := H) (E0' := E) (fP := fP) (dP := dP) T S hr hg TB FH gH gN gZ gL eN eZ M0 b0 b01 dv kb G0 M1 b1 G1 M2 b2 G2
    obtain ⟨t6, h6, q6⟩ := rq6 (f := f) (c := c) (A0 := A1) (outer := outer) (s := s) (H0 := H) (E0' := E) (fP := fP) (dP := dP) T S hr hg TB FH gH gN gZ gL eN eZ M0 b0 b01 dv kb G0 M1 b1 G1 M2 b2 G2
    obtain ⟨t7, h7, q7⟩ := rq7 (f := f) (c := c) (A0 := A1) (outer := outer) (s := s) (H0 := H) (E0' := E) (fP := fP) (dP := dP) T S hr hg TB FH gH gN gZ gL eN eZ M0 b0 b01 dv kb G0 M1 b1 G1 M2 b2 G2
    obtain ⟨t8, h8, q8⟩ := rq8 (f := f) (c := c) (A0 := A1) (outer := outer) (s := s) (H0 := H) (E0' := E) (fP := fP) (dP := dP) T S hr hg TB FH gH gN gZ gL eN eZ M0 b0 b01 dv kb G0 M1 b1 G1 M2 b2 G2
    obtain ⟨t9, h9, q9⟩ := rq9 (f := f) (c := c) (A0 := A1) (outer := outer) (s := s) (H0 := H) (E0' := E) T hr hg
    refine ⟨_, pss_cons h0 (pss_cons h1 (pss_cons h2 (pss_cons h3 (pss_cons h4 (pss_cons h5 (pss_cons h6 (pss_cons h7 (pss_cons h8 (pss_one h9))))))))), ?_⟩
    obtain ⟨b0', g0', hp, _⟩ := PA.pen
    refine q1 p _ _ _ _ _ H { nx := _, rt := Q } fun l0 l1 l t d H1 sm1 e0 e1 el et ed => ?_
    have PA1 := PA.keep sm1
    obtain ⟨b1', g1', hp1, _⟩ := PA1.pen
    refine q2 p cc ns B l0 l1 l t d _ _ _ H1 _ PA1 (by omega) e0 e1 el et ed fun vb vw db dw H2 off PA2 Vb nb Vw nz => ?_
    have tb2 := tabs_off (tb.ext sm1) hp1 off
    refine q3 p cc ns (B + 2) vb vw db dw _ _ _ H2 _ PA2 tb2 Vb nb Vw fun l9 ts3 H3 S3 n3 => ?_
    refine q4 p cc ns (B + 2) l9 vb vw db dw ts3 _ _ _ H3 _ S3 n3 nb nz fun ts4 H4 S4 n4 => ?_
    refine q5 p cc ns (B + 2) l9 vb vw db dw ts4 _ _ _ H4 _ S4 n4 nb nz fun ts5 H5 S5 n5 => ?_
    refine q6 p cc ns (B + 2) l9 vb vw db dw ts5 _ _ _ H5 _ S5 n5 nb nz fun ts6 H6 S6 n6 => ?_
    refine q7 p cc ns (B + 2) l9 vb vw db dw ts6 _ _ _ H6 _ S6 n6 nb nz fun ts7 H7 S7 n7 => ?_
    refine q8 p cc ns (B + 2) l9 vb vw db dw ts7 _ _ _ H7 _ S7 n7 nb nz fun ts8 H8 S8 n8 => ?_
    refine q9 p cc l9 P0 ns (B + 2) vb vw db dw ts8 _ _ H8 _ S8 fun H9 sm9 => ?_
    exact q H9 (S8.pen.keep sm9) (S8.tabs.ext sm9)
end
end My
namespace My
open PySem PySem.Spec PyProof.Rows L2
open LamX (ExtN Tabs TabS TabB)
abbrev nLaw : List Str := ["_law_script", "_law_pen_here", "_law_turn", "_law_told"]
theorem scLaw : FnScope nLaw ["_law_script"] (defScope sLaw) := ⟨rfl, rfl, rfl, by decide +kernel, rfl, by decide +kernel, by decide +kernel⟩
abbrev PR : Program := PySem.Challenge.rw_layerseen_k14_handlers_made.prog
abbrev XL (w : World) (K : PySem.W.Frag) (mg : Str → Option Value) (base : Heap) (fa : Addr) (cdv : Value) (s : Shared) (H0 : Hp) : Cx := (cxOf CX0 PR w K mg base nLaw "law" (defScope sLaw) fa cdv callerA [] s H0 E0).nox
/-- a call of a class that makes a handler -/
theorem cell_made {K : PySem.W.Frag} {A : A4} {CN CZ : Addr} {H : Hp} {Q : Addr → Hp → Prop} {n : Str} {z : Int} (hn : isN (.str n) = true) (hz : isZ (.int z) = true) (hl : n.length ≤ 1000) (q : ∀ a H', Same' H H' → IsH A H' a (.cell n z) → Q a H') :
    ∀ x dx, H x = none → H dx = none → dx ≠ x → spCellI K A.c CN CZ [.ref x, .str n, .int z] (upd (upd H dx (.own x)) x (.ins A.c dx [])) (fun v H2 => v = .non ∧ Q x H2) (fun _ _ _ => False) := by
  intro x dx hx hdx nxd
  refine ⟨x, dx, .str n, .int z, .str n, .int z, rfl, upd_same, .inl ⟨n, rfl, hl⟩, .flat (.str n), .flat (.int z), fun _ _ H' k1 e1 => ⟨rfl, q x H' (made_same hx hdx k1) ⟨dx, e1⟩⟩, fun e => ?_, fun _ e => ?_⟩
  · rw [hn] at e
    cases e
  · rw [hz] at e
    cases e
theorem named_made {K : PySem.W.Frag} {A : A4} {CN : Addr} {H : Hp} {Q : Addr → Hp → Prop} {n : Str} {k : HD} (hk : k.flds = ([(Str.ofString "name", V.str n)] : List (Str × V))) (hn : isN (.str n) = true) (hl : n.length ≤ 1000) (q : ∀ a H', Same' H H' → IsH A H' a k → Q a H') :
    ∀ x dx, H x = none → H dx = none → dx ≠ x → spNamed K (A.at k.ix) CN [.ref x, .str n] (upd (upd H dx (.own x)) x (.ins (A.at k.ix) dx [])) (fun v H2 => v = .non ∧ Q x H2) (fun _ _ _ => False) := by
  intro x dx hx hdx nxd
  refine ⟨x, dx, .str n, .str n, rfl, upd_same, .inl ⟨n, rfl, hl⟩, .flat (.str n), fun _ H' k1 e1 => ⟨rfl, q x H' (made_same hx hdx k1) ⟨dx, hk ▸ e1⟩⟩, fun e => ?_⟩
  rw [hn] at e
  cases e
/-- the parts that the law's body stands on -/
structure Parts (w : World) (K : PySem.W.Frag) (mg : Str → Option Value) (base : Heap) (A : A4) (P0 CN CZ : Addr) (fE fR fG fF fI0 fI1 fI2 fI3 : Addr) (dE dR dG dF d0 d1 d2 d3 : FuncData) (ds2 : List Value) (gk : List Value → List Value → List Value) (mc : Nat → Value) : Prop where
  T : Txt mg
  S : Hand K mg A
  O : Owns PR w K mg base A
  Fe : Fun K "_law_pen" "_law_pen" sPen fE dE
  be : Binds K dE ["_law_script"] []
  ge : mg "_law_pen" = some (.ref fE)
  Ge : FnOk PR w K mg base CX0 1 fE dE ["_law_script"] (spPen K)
  Fr : Fun K "_law_row" "_law_row" sRow fR dR
  br : Binds K dR ["_law_pen_here"] []
  gr : mg "_law_row" = some (.ref fR)
  Gr : FnOk PR w K mg base CX0 3 fR dR ["_law_pen_here"] spRow
  kg : PySem.W.keepIn K (.ref fG) = true
  bg : Binds K dG ["_law_row_here", "_law_other"] []
  gg : mg "_law_right" = some (.ref fG)
  Gg : FnG PR w K mg base CX0 10 fG dG ["_law_row_here", "_law_other"] spRight
  kf : PySem.W.keepIn K (.ref fF) = true
  bf : Binds K dF ["_law_pen_here"] []
  gf : mg "_law_refused_right" = some (.ref fF)
  Gf : FnG PR w K mg base CX0 10 fF dF ["_law_pen_here"] (spRef P0)
  M0 : Mk K A.c fI0
  b0 : Binds K d0 ["self", "name", "size"] []
  b01 : Binds K d0 ["self", "name", "size"] ds2
  dv : Vals [V.int 2] ds2
  kb : KBn K d0 ["self", "name", "size"] 1 ["size", "name"] gk gSN
  G0 : FnOk PR w K mg base (L2.CX PR w) 6 fI0 d0 ["self", "name", "size"] (spCellI K A.c CN CZ)
  M1 : Mk K A.l fI1
  b1 : Binds K d1 ["self", "name"] []
  k1 : KBn K d1 ["self", "name"] 1 ["name"] (· ++ ·) (· ++ ·)
  G1 : FnOk PR w K mg base (L2.CX PR w) 6 fI1 d1 ["self", "name"] (spNamed K A.l CN)
  M2 : Mk K A.f fI2
  b2 : Binds K d2 ["self", "name"] []
  k2 : KBn K d2 ["self", "name"] 1 ["name"] (· ++ ·) (· ++ ·)
  G2 : FnOk PR w K mg base (L2.CX PR w) 6 fI2 d2 ["self", "name"] (spNamed K A.f CN)
  M3 : Mk K A.h fI3
  b3 : Binds K d3 ["self"] []
  G3 : FnOk PR w K mg base CX0 1 fI3 d3 ["self"] (spChoI A.h)
  rd : ∀ i, i < 4 → ClX.CRead K (A.at i) (mc i)
  c2 : ∃ u, ClX.CVal K A.c (mc 0) "LEAST" (.int 2) u
  c4 : ∃ u, ClX.CVal K A.c (mc 0) "MOST" (.int 4) u
  w0 : ∃ u, ClX.CVal K A.c (mc 0) "WORD" (.str "cell") u
  w1 : ∃ u, ClX.CVal K A.l (mc 1) "WORD" (.str "log") u
  w2 : ∃ u, ClX.CVal K A.f (mc 2) "WORD" (.str "failure") u
  w3 : ∃ u, ClX.CVal K A.h (mc 3) "WORD" (.str "choice") u
def toldA : List V := [.bl true, .int 4, .str "l", .str "f", .str "choice"]
def toldB : List V := [.int 2, .int 4, .str "cell", .str "log", .str "failure", .str "choice", .bl false]
def toldD : List PyData := [.bool true, .int 4, .str "l", .str "f", .str "choice", .int 2, .int 4, .str "cell", .str "log", .str "failure", .str "choice", .bool false]
theorem told_fls : Fls (toldA ++ toldB) toldD := .cons (.bl _) (.cons (.int _) (.cons (.str _) (.cons (.str _) (.cons (.str _) (.cons (.int _) (.cons (.int _) (.cons (.str _) (.cons (.str _) (.cons (.str _) (.cons (.str _) (.cons (.bl _) .nil)))))))))))
theorem told_fine : Fine (.list toldD) := ⟨by decide +kernel, by decide +kernel, by decide +kernel⟩
section
variable {w : World} {K : PySem.W.Frag} {mg : Str → Option Value} {base : Heap} {fa : Addr} {cdv : Value} {s : Shared} {H0 : Hp} {A : A4} {P0 CN CZ : Addr} {fE fR fG fF fI0 fI1 fI2 fI3 : Addr} {dE dR dG dF d0 d1 d2 d3 : FuncData} {ds2 : List Value} {gk : List Value → List Value → List Value} {mc : Nat → Value}
theorem hrX : Room 12 (XL w K mg base fa cdv s H0).A := ⟨rfl, by show 1 + claimMargin + 1 + 3 * 12 + 5 < recursionLimit; decide +kernel, by show 4 + 3 + 16 * 12 + 200 < cLine; decide +kernel⟩
theorem hgX : (XL w K mg base fa cdv s H0).A.guards = some [] := rfl
def inL (i : Nat) : Stmt := (defBody sLaw).getD i (.Pass ⟨0, 0, 0, 0⟩)
/-- told = [..] -/
theorem lp2 (Z : Parts w K mg base A P0 CN CZ fE fR fG fF fI0 fI1 fI2 fI3 dE dR dG dF d0 d1 d2 d3 ds2 gk mc) : ∃ t, PS (XL w K mg base fa cdv s H0) (inL 2) t ∧ ∀ (y0 y1 y2 y3 : Option V) (H : Hp) (D : Ends),
      (∀ l H', H' l = some (.lst toldA) → D.nx [y0, y1, y2, some (.ref l)] H') → t D [y0, y1, y2, y3] H := by
  refine ⟨_, ps_set (i := 3) scLaw.nd rfl (.inl rfl) (pe_lst (pa_cons (pe_cmpR (op_eqH Z.S Z.O (hrX.mono (by decide)) hgX) (pe_make (E := fun _ _ _ => False) Z.M0 Z.G0 (hrX.mono (by decide)) (by rfl) Z.S.cC.g Z.b01 Z.dv passF (pa_cons pe_str pa_nil)) (pe_make (E := fun _ _ _ => False) Z.M0 Z.G0 (hrX.mono (by decide)) (by rfl) Z.S.cC.g Z.b0 .nil passF (pa_cons pe_str (pa_cons pe_int pa_nil))) (nomark _))
    (pa_cons (pe_fld (pe_makeK0 (ks := ["size", "name"]) (E := fun _ _ _ => False) Z.M0 Z.G0 (hrX.mono (by decide)) (by rfl) Z.S.cC.g Z.kb passF (pk_cons pe_int (pk_cons pe_str pk_nil))) (by rfl))
    (pa_cons (pe_fld (pe_makeK0 (ks := ["name"]) (E := fun _ _ _ => False) Z.M1 Z.G1 (hrX.mono (by decide)) (by rfl) Z.S.cL.g Z.k1 passF (pk_cons pe_str pk_nil)) (by rfl))
    (pa_cons (pe_fld (pe_makeK0 (ks := ["name"]) (E := fun _ _ _ => False) Z.M2 Z.G2 (hrX.mono (by decide)) (by rfl) Z.S.cF.g Z.k2 passF (pk_cons pe_str pk_nil)) (by rfl))
    (pa_cons (pe_fld (pe_make0 (E := fun _ _ _ => False) Z.M3 Z.G3 (hrX.mono (by decide)) (by rfl) Z.S.cH.g Z.b3 .nil pass0) (by rfl)) pa_nil)))))), ?_⟩
  intro y0 y1 y2 y3 H D q
  refine cell_made (z := 2) isN_x (by decide +kernel) (by decide +kernel) fun a H1 sm1 ha => ?_
  refine cell_made (z := 2) isN_x (by decide +kernel) (by decide +kernel) fun b H2 sm2 hb => ?_
  refine ⟨a, .cell "x" 2, true, rfl, ha.keep sm2, .inl ⟨b, .cell "x" 2, rfl, hb, (decide_eq_true rfl).symm⟩, ?_⟩
  obtain ⟨c1, c2, c3⟩ := Z.S.cls (.cell "y" 4)
  refine ⟨rfl, rfl, cell_made (n := "y") (z := 4) (by decide +kernel) (by decide +kernel) (by decide +kernel) fun a2 H3 sm3 ha2 => ?_⟩
  obtain ⟨dx2, e2⟩ := ha2
  refine ⟨a2, _, dx2, _, .int 4, rfl, e2, c1, c3, rfl, ?_⟩
  refine ⟨rfl, rfl, named_made (k := .log "l") (n := "l") rfl (by decide +kernel) (by decide +kernel) fun a3 H4 sm4 ha3 => ?_⟩
  obtain ⟨dx3, e3⟩ := ha3
  refine ⟨a3, _, dx3, _, .str "l", rfl, e3, (Z.S.cls (.log "l")).1, (Z.S.cls (.log "l")).2.1, rfl, ?_⟩
  refine ⟨rfl, rfl, named_made (k := .fail "f") (n := "f") rfl (by decide +kernel) (by decide +kernel) fun a4 H5 sm5 ha4 => ?_⟩
  obtain ⟨dx4, e4⟩ := ha4
  refine ⟨a4, _, dx4, _, .str "f", rfl, e4, (Z.S.cls (.fail "f")).1, (Z.S.cls (.fail "f")).2.1, rfl, ?_⟩
  intro x dx hx hdx nxd
  refine ⟨x, dx, rfl, upd_same, fun H6 k6 e6 => ⟨rfl, ?_⟩⟩
  refine ⟨x, _, dx, _, .str "choice", rfl, e6, (Z.S.cls .cho).1, (Z.S.cls .cho).2.1, rfl, by show 5 ≤ sizeLine; decide, fun l hl => ?_⟩
  exact q l _ upd_same
end
end My
namespace My
open PySem PySem.Spec PyProof.Rows L2
open LamX (ExtN Tabs TabS TabB)
section
variable {w : World} {K : PySem.W.Frag} {mg : Str → Option Value} {base : Heap} {fa : Addr} {cdv : Value} {s : Shared} {H0 : Hp} {A : A4} {P0 CN CZ : Addr} {fE fR fG fF fI0 fI1 fI2 fI3 : Addr} {dE dR dG dF d0 d1 d2 d3 : FuncData} {ds2 : List Value} {gk : List Value → List Value → List Value} {mc : Nat → Value}
/-- told = told + [..] -/
theorem lp3 (Z : Parts w K mg base A P0 CN CZ fE fR fG fF fI0 fI1 fI2 fI3 dE dR dG dF d0 d1 d2 d3 ds2 gk mc) : ∃ t, PS (XL w K mg base fa cdv s H0) (inL 3) t ∧ ∀ (l : Addr) (y0 y1 y2 : Option V) (H : Hp) (D : Ends), H l = some (.lst toldA) →
      (∀ l H', H' l = some (.lst (toldA ++ toldB)) → D.nx [y0, y1, y2, some (.ref l)] H') → t D [y0, y1, y2, some (.ref l)] H := by
  refine ⟨_, ps_set (i := 3) scLaw.nd rfl (.inl rfl) (pe_op op_cat (pv 3) (pe_lst (pa_cons (ClX.pe_cval (pe_glob (v := .ref A.c) rfl Z.S.cC.g rfl)) (pa_cons (ClX.pe_cval (pe_glob (v := .ref A.c) rfl Z.S.cC.g rfl)) (pa_cons (ClX.pe_cval (pe_glob (v := .ref A.c) rfl Z.S.cC.g rfl))
    (pa_cons (ClX.pe_cval (pe_glob (v := .ref A.l) rfl Z.S.cL.g rfl)) (pa_cons (ClX.pe_cval (pe_glob (v := .ref A.f) rfl Z.S.cF.g rfl)) (pa_cons (ClX.pe_cval (pe_glob (v := .ref A.h) rfl Z.S.cH.g rfl))
    (pa_cons (pe_cmpR (op_eqH Z.S Z.O (hrX.mono (by decide)) hgX) (pe_make (E := fun _ _ _ => False) Z.M1 Z.G1 (hrX.mono (by decide)) (by rfl) Z.S.cL.g Z.b1 .nil passF (pa_cons pe_str pa_nil)) (pe_make (E := fun _ _ _ => False) Z.M2 Z.G2 (hrX.mono (by decide)) (by rfl) Z.S.cF.g Z.b2 .nil passF (pa_cons pe_str pa_nil)) (nomark _)) pa_nil))))))))), ?_⟩
  intro l y0 y1 y2 H D hl q
  obtain ⟨u2, v2⟩ := Z.c2
  obtain ⟨u4, v4⟩ := Z.c4
  obtain ⟨x0, v0⟩ := Z.w0
  obtain ⟨x1, v1⟩ := Z.w1
  obtain ⟨x2, v2'⟩ := Z.w2
  obtain ⟨x3, v3⟩ := Z.w3
  have r0 := Z.rd 0 (by decide)
  have r1 := Z.rd 1 (by decide)
  have r2 := Z.rd 2 (by decide)
  have r3 := Z.rd 3 (by decide)
  refine ⟨.ref l, rfl, A.c, _, _, _, rfl, r0, v2, A.c, _, _, _, rfl, r0, v4, A.c, _, _, _, rfl, r0, v0, A.l, _, _, _, rfl, r1, v1, A.f, _, _, _, rfl, r2, v2', A.h, _, _, _, rfl, r3, v3, ?_⟩
  refine named_made (k := .log "x") (n := "x") rfl isN_x (by decide +kernel) fun a H1 sm1 ha => ?_
  refine named_made (k := .fail "x") (n := "x") rfl isN_x (by decide +kernel) fun b H2 sm2 hb => ?_
  refine ⟨a, .log "x", false, rfl, ha.keep sm2, .inl ⟨b, .fail "x", rfl, hb, (decide_eq_false (fun z => by cases z)).symm⟩, ?_⟩
  refine ⟨by show 7 ≤ sizeLine; decide, fun l2 hl2 => ?_⟩
  have up := same_new (o := .lst toldB) hl2
  refine ⟨l, l2, toldA, toldB, rfl, rfl, up _ _ (sm2 _ _ (sm1 _ _ hl)), upd_same, by show 12 ≤ sizeLine; decide, fun p hp => ?_⟩
  exact q p _ upd_same
theorem tab_nil {H : Hp} (h : H P0 = some (.tbl #[])) : Tabs (T1 P0) H := fun p hp => by
  rw [List.mem_singleton.mp hp]
  exact TabS.nil h
theorem law_body {c : Addr} (Z : ∀ base : Heap, K.In base → base.Ns mainGlobals mg → TabB base mg c P0 → Parts w K mg base A P0 CN CZ fE fR fG fF fI0 fI1 fI2 fI3 dE dR dG dF d0 d1 d2 d3 ds2 gk mc) :
    LawBodyT PySem.Challenge.rw_layerseen_k14_handlers_made w K mg 63 nLaw "law" sLaw fa c P0 := by
  intro base hKb hNb TB cdv s H a ns hn hP hS
  have Y := Z base hKb hNb TB
  have hu : (XL w K mg base fa cdv s H).A.units + 64 < cLine := hrX.units
  obtain ⟨t2, h2, q2⟩ := lp2 (fa := fa) (cdv := cdv) (s := s) (H0 := H) Y
  obtain ⟨t3, h3, q3⟩ := lp3 (fa := fa) (cdv := cdv) (s := s) (H0 := H) Y
  refine ⟨_, pss_cons (ps_set (i := 1) scLaw.nd rfl (.inl rfl) (pe_call Y.Ge (hrX.mono (by decide)) (by rfl) Y.ge Y.Fe.kp Y.be .nil pass0 (pa_cons (pv 0) pa_nil)))
    (pss_cons (ps_for PassesOwn.never rfl (pi_range1 (by rfl) Y.T.range (pa_cons pe_int pa_nil)) (pg_name (i := 2) scLaw.nd rfl (.inl rfl))
      (pss_one (ps_if (PW.pt (pw_or (pt_not (pt_val (pe_callG Y.Gg (hrX.mono (by decide)) hgX (by rfl) Y.gg Y.kg Y.bg .nil pass0 (pa_cons (pe_call Y.Gr (hrX.mono (by decide)) (by rfl) Y.gr Y.Fr.kp Y.br .nil pass0 (pa_cons (pv 1) pa_nil)) (pa_cons (pe_call Y.Gr (hrX.mono (by decide)) (by rfl) Y.gr Y.Fr.kp Y.br .nil pass0 (pa_cons (pv 1) pa_nil)) pa_nil)))))
        (pw_or1 (pt_not (pt_val (pe_callG Y.Gf (hrX.mono (by decide)) hgX (by rfl) Y.gf Y.kf Y.bf .nil pass0 (pa_cons (pv 1) pa_nil))))))) (pss_one (ps_ret pe_bl)) pss_nil)))
    (pss_cons h2 (pss_cons h3
    (pss_one (ps_ret (pe_cmpR op_eq (pe_callB (call_reprT hgX hu) (by rfl) Y.T.repr (by decide +kernel) (pa_cons (pv 3) pa_nil)) (pe_callB (call_reprT hgX hu) (by rfl) Y.T.repr (by decide +kernel)
      (pa_cons (pe_lst (pa_cons pe_bl (pa_cons pe_int (pa_cons pe_str (pa_cons pe_str (pa_cons pe_str (pa_cons pe_int (pa_cons pe_int (pa_cons pe_str (pa_cons pe_str (pa_cons pe_str (pa_cons pe_str (pa_cons pe_bl pa_nil))))))))))))) pa_nil)) (nomark _))))))), ?_⟩
  refine ⟨.ref a, rfl, a, ns, rfl, hS, hn, fun p cc H1 sm1 PA1 => ?_⟩
  have tb1 : Tabs (T1 P0) H1 := (tab_nil hP).ext sm1
  refine ⟨14, rfl, by decide, by decide, for_range (lo := 0) (n := 14) (fun i σ H' => ∃ y2 y3 : Option V, σ = [some (.ref a), some (.ref p), y2, y3] ∧ PenAt H' p cc ns (8 * (i : Int)) ∧ Tabs (T1 P0) H') ⟨none, none, rfl, PA1.more (by decide), tb1⟩ (fun i σ H2 hi hp => ?_) (fun σ H2 hp => ?_)⟩
  · obtain ⟨y2, y3, rfl, PA2, tb2⟩ := hp
    obtain ⟨b2, g2, e2, _⟩ := PA2.pen
    refine ⟨.ref p, rfl, p, cc, ns, 8 * (i : Int), rfl, PA2, by omega, fun t k H3 hk ht PA3 off3 => ?_⟩
    obtain ⟨b3, g3, e3, _⟩ := PA3.pen
    refine ⟨.ref p, rfl, p, cc, ns, 8 * (i : Int) + 3, rfl, PA3, by omega, fun t2 k2 H4 hk2 ht2 PA4 off4 => ?_⟩
    have ntp : t ≠ p := fun z => by
      rw [z, e3] at ht
      cases ht
    refine ⟨t, t2, k, k2, rfl, off4 _ _ ntp ht, hk, ht2, hk2, fun H5 sm5 => ⟨true, rfl, iteF ?_⟩⟩
    have tb4 := tabs_off (tabs_off tb2 e2 off3) e3 off4
    refine ⟨.ref p, rfl, p, cc, ns, 8 * (i : Int) + 3 + 3, rfl, PA4.keep sm5, by omega, tb4.ext sm5, fun H6 PA6 tb6 => ⟨true, rfl, iteF ?_⟩⟩
    exact ⟨_, _, rfl, PA6.more (by omega), tb6⟩
  · obtain ⟨y2, y3, rfl, PA2, tb2⟩ := hp
    refine q2 _ _ _ _ _ _ fun l H3 hl => ?_
    refine q3 l _ _ _ _ _ hl fun l2 H4 hl2 => ?_
    refine ⟨.ref l2, rfl, .ref l2, .list toldD, rfl, .lst hl2 told_fls (by decide), told_fine, by show 12 ≤ sizeLine; decide, fun l3 hl3 => ?_⟩
    refine ⟨.ref l3, .list toldD, rfl, .lst (xs := toldA ++ toldB) upd_same told_fls (by decide), told_fine, rfl, ?_⟩
    rw [decide_eq_true (p := V.str (PyData.list toldD).shown = V.str (PyData.list toldD).shown) rfl]
end
end My
namespace My
open PySem PySem.Spec PyProof.Rows L2
open LamX (ExtN Tabs TabS TabB)
def sayB : List Str → List Value → Bool
  | [], [] => true
  | k :: ks, .str x _ :: vs => decide (x = k) && sayB ks vs
  | _, _ => false
theorem say_of : ∀ (ks : List Str) (vs : List Value), sayB ks vs = true → Vals (ks.map V.str) vs
  | [], [], _ => .nil
  | k :: ks, .str x t :: vs, h => by
    unfold sayB at h
    rw [Bool.and_eq_true] at h
    have e : x = k := of_decide_eq_true h.1
    subst e
    exact .cons ⟨t, rfl⟩ (say_of ks vs h.2)
/-! ### what is asked of the written part, decided at once -/
def clsB (K : PySem.W.Frag) (C : Addr) : Bool := PySem.W.plainGet K C Str.empty && (PySem.W.hasDictIn K C && (PySem.W.plainOver K C && (decide (PySem.W.findIn K (.ref C) "__setattr__" = some (some (.builtin "object.__setattr__"))) && (decide (PySem.W.findIn K (.ref C) "name" = some none) && (decide (PySem.W.findIn K (.ref C) "size" = some none)
  && (decide (PySem.W.findIn K (.ref C) "__class__" = some (some (.builtin "object.__class__"))) && (decide (PySem.W.mroIn K C (.type "object") = some true) && (PySem.W.makesIn K C && (PySem.W.keepIn K (.ref C) && (decide (PySem.W.findIn K (.ref C) "__ne__" = some (some (.builtin "object.__ne__")))
  && (PySem.W.readsIn K C (.type "type") && decide (PySem.W.specialIn K (.ref C) "__getattribute__" = some (some (.builtin "type.__getattribute__"))))))))))))))
def pairB (K : PySem.W.Frag) (A : A4) (bN bK bT bH : Addr) : Bool := (List.range 4).all fun i => ((List.range 4).all fun j => decide (PySem.W.kitOne K (.ref (A.at i)) (.ref (A.at j)) = some (decide (i = j))) && PySem.W.notFirst K (A.at i) (.ref (A.at j)))
  && ((["NoneType", "str", "int", "tuple"].all fun T => decide (PySem.W.kitOne K (.type T) (.ref (A.at i)) = some false) && PySem.W.notFirst K (A.at i) (.type T))
  && (decide (PySem.W.kitOne K (.ref (A.at i)) (.ref bN) = some (decide (i ≠ 3))) && (decide (PySem.W.kitOne K (.ref (A.at i)) (.ref bK) = some (decide (i < 2))) && (decide (PySem.W.kitOne K (.ref (A.at i)) (.ref bT) = some (decide (2 ≤ i))) && decide (PySem.W.kitOne K (.ref (A.at i)) (.ref bH) = some true)))))
def objB (K : PySem.W.Frag) : Bool := decide (PySem.W.specialIn K (.builtin "object.__class__") "__get__" = some (some (.builtin "getset_descriptor.__get__"))) && decide (PySem.W.takesIn K (.builtin "object.__class__") = some true)
def excB (K : PySem.W.Frag) (CN CZ CL C : Addr) (b : Bool) : Bool := decide (PySem.W.findIn K (.ref C) "__getattribute__" = some (some (.builtin "BaseException.__getattribute__"))) && (decide (PySem.W.findIn K (.ref C) "__getattr__" = some none) && (decide (PySem.W.subIn K (.ref C) (.type "BaseException") = some true) && (PySem.W.hasDictIn K C
  && (decide (PySem.W.findIn K (.ref C) "__class__" = some (some (.builtin "object.__class__"))) && (decide (PySem.W.mroIn K C (.type "object") = some true) && (decide (PySem.W.findIn K (.ref C) "value" = some none) && (decide (PySem.W.exmOne K (.ref C) (.ref CL) = some true) && (decide (PySem.W.kitOne K (.ref C) (.ref CN) = some b)
  && (decide (PySem.W.kitOne K (.ref C) (.ref CZ) = some (!b)) && (decide (PySem.W.kitOne K (.ref C) (.type "ValueError") = some true) && (decide (PySem.W.findIn K (.ref C) "__setattr__" = some (some (.builtin "object.__setattr__"))) && (decide (PySem.W.typeIn K (.ref C) = some (.type "type")) && PySem.W.keepIn K (.ref C)))))))))))))
abbrev fdOf {K : PySem.W.Frag} {x q : Str} {st : Stmt} {f : Addr} {fd : FuncData} (_ : Fun K x q st f fd) : FuncData := fd
abbrev fdD {K : PySem.W.Frag} {x q : Str} {params : Arguments} {body : List Stmt} {scope : Scope} {dvs : List V} {kws : List (Str × V)} {f : Addr} {fd : FuncData} (_ : FunD K x q params body scope dvs kws f fd) : FuncData := fd
theorem kbn1 {K : PySem.W.Frag} {qual : Str} {st : Stmt} {f : Addr} {fd : FuncData} (F : Fun K "__init__" qual st f fd)
    (h : ∀ (kV doc pm : Value) (an : Option Addr) (cdv ct u v : Value), bindArgs (PySem.W.fnOf "__init__" qual (defArgs st) (defBody st) (defScope st) .none kV doc pm an cdv ct) ⟨[u], [(Str.ofString "name", v)]⟩ = pure [(Str.ofString "self", u), (Str.ofString "name", v)]) : KBn K fd ["self", "name"] 1 ["name"] (· ++ ·) (· ++ ·) := by
  obtain ⟨oc, od, kV, doc, pm, an, cdv, ct, osl, rfl, lk, hcd⟩ := F.ex
  refine ⟨fun s us ws _ l1 l2 => ?_, fun a b => a.append b⟩
  match us, ws, l1, l2 with
  | [u], [v], _, _ => exact .of_eq (h kV doc pm an cdv ct u v)
theorem cls_mk {K : PySem.W.Frag} {C : Addr} (h : clsB K C = true) : Cls K C ∧ NoAttr K C "name" ∧ NoAttr K C "size" ∧ PySem.W.findIn K (.ref C) "__class__" = some (some (.builtin "object.__class__")) ∧ PySem.W.mroIn K C (.type "object") = some true ∧ PySem.W.makesIn K C = true ∧ PySem.W.keepIn K (.ref C) = true ∧
    PySem.W.findIn K (.ref C) "__ne__" = some (some (.builtin "object.__ne__")) ∧ ClX.CRead K C (.type "type") := by
  unfold clsB at h
  simp only [Bool.and_eq_true, decide_eq_true_eq] at h
  obtain ⟨h1, h2, h3, h4, h5, h6, h7, h8, h9, h10, h11, h12, h13⟩ := h
  exact ⟨⟨h1, h2, h3, h4⟩, h5, h6, h7, h8, h9, h10, h11, ⟨h12, h13⟩⟩
def papB (K : PySem.W.Frag) (C : Addr) : Bool := ["NoneType", "bool", "int", "str"].all fun T => decide (PySem.W.kitOne K (.type T) (.ref C) = some false)
theorem pap_mk {K : PySem.W.Frag} {C : Addr} (h : papB K C = true) : ∀ T ∈ ["NoneType", "bool", "int", "str"], PySem.W.kitOne K (.type T) (.ref C) = some false := by
  unfold papB at h
  simp only [List.all_eq_true, decide_eq_true_eq] at h
  exact h
theorem pair_mk {K : PySem.W.Frag} {A : A4} {bN bK bT bH : Addr} (h : pairB K A bN bK bT bH = true) : (∀ i j, i < 4 → j < 4 → PySem.W.kitOne K (.ref (A.at i)) (.ref (A.at j)) = some (decide (i = j))) ∧ (∀ i j, i < 4 → j < 4 → PySem.W.notFirst K (A.at i) (.ref (A.at j)) = true) ∧
    (∀ T ∈ ["NoneType", "str", "int", "tuple"], ∀ i, i < 4 → PySem.W.kitOne K (.type T) (.ref (A.at i)) = some false ∧ PySem.W.notFirst K (A.at i) (.type T) = true) ∧
    (∀ i, i < 4 → PySem.W.kitOne K (.ref (A.at i)) (.ref bN) = some (decide (i ≠ 3))) ∧ (∀ i, i < 4 → PySem.W.kitOne K (.ref (A.at i)) (.ref bK) = some (decide (i < 2))) ∧ (∀ i, i < 4 → PySem.W.kitOne K (.ref (A.at i)) (.ref bT) = some (decide (2 ≤ i))) ∧ (∀ i, i < 4 → PySem.W.kitOne K (.ref (A.at i)) (.ref bH) = some true) := by
  unfold pairB at h
  simp only [List.all_eq_true, List.mem_range, Bool.and_eq_true, decide_eq_true_eq] at h
  exact ⟨fun i j hi hj => ((h i hi).1 j hj).1, fun i j hi hj => ((h i hi).1 j hj).2, fun T hT i hi => (h i hi).2.1 T hT, fun i hi => (h i hi).2.2.1, fun i hi => (h i hi).2.2.2.1, fun i hi => (h i hi).2.2.2.2.1, fun i hi => (h i hi).2.2.2.2.2⟩
theorem exc_mk {K : PySem.W.Frag} {CN CZ CL C : Addr} {b : Bool} (hO : objB K = true) (h : excB K CN CZ CL C b = true) : EK K CN CZ CL C b ∧ PySem.W.findIn K (.ref C) "__setattr__" = some (some (.builtin "object.__setattr__")) ∧ PySem.W.typeIn K (.ref C) = some (.type "type") ∧ PySem.W.keepIn K (.ref C) = true := by
  unfold objB at hO
  unfold excB at h
  simp only [Bool.and_eq_true, decide_eq_true_eq] at hO h
  obtain ⟨o1, o2⟩ := hO
  obtain ⟨h1, h2, h3, h4, h5, h6, h7, h8, h9, h10, h11, h12, h13, h14⟩ := h
  exact ⟨⟨⟨h1, h2, h3, h4, h5, o1, o2, h6⟩, ⟨h1, h2, h3, h4⟩, h7, h8, h9, h10, h11⟩, h12, h13, h14⟩
theorem all_mk {w : World} {K : PySem.W.Frag} {h : Heap} {mg : Str → Option Value} {fa : Addr} (X : K.In h) (G : h.Ns mainGlobals mg) (hfa : mg "law" = some (.ref fa)) {TT : List Addr} (hT : ∀ P, P ∈ TT → h.get? P = some tab0)
    {f_W : Addr} {od_W an_W : Option Addr} {sl_W : Array (Option Value)} {oc_W kV_W dc_W pm_W cd_W ct_W : Value}
    {f_Y : Addr} {od_Y an_Y : Option Addr} {sl_Y : Array (Option Value)} {oc_Y kV_Y dc_Y pm_Y cd_Y ct_Y : Value}
    {f_D : Addr} {od_D an_D : Option Addr} {sl_D : Array (Option Value)} {oc_D kV_D dc_D pm_D cd_D ct_D : Value}
    {f_N : Addr} {od_N an_N : Option Addr} {sl_N : Array (Option Value)} {oc_N kV_N dc_N pm_N cd_N ct_N : Value}
    {f_C : Addr} {od_C an_C : Option Addr} {sl_C : Array (Option Value)} {oc_C kV_C dc_C pm_C cd_C ct_C : Value}
    {f_pe : Addr} {od_pe an_pe : Option Addr} {sl_pe : Array (Option Value)} {oc_pe kV_pe dc_pe pm_pe cd_pe ct_pe : Value}
    {f_dr : Addr} {od_dr an_dr : Option Addr} {sl_dr : Array (Option Value)} {oc_dr kV_dr dc_dr pm_dr cd_dr ct_dr : Value}
    {f_pi : Addr} {od_pi an_pi : Option Addr} {sl_pi : Array (Option Value)} {oc_pi kV_pi dc_pi pm_pi cd_pi ct_pi : Value}
    {f_ro : Addr} {od_ro an_ro : Option Addr} {sl_ro : Array (Option Value)} {oc_ro kV_ro dc_ro pm_ro cd_ro ct_ro : Value}
    {f_ma : Addr} {od_ma an_ma : Option Addr} {sl_ma : Array (Option Value)} {oc_ma kV_ma dc_ma pm_ma cd_ma ct_ma : Value}
    {f_fc : Addr} {od_fc an_fc : Option Addr} {sl_fc : Array (Option Value)} {oc_fc kV_fc dc_fc pm_fc cd_fc ct_fc : Value}
    {f_ri : Addr} {od_ri an_ri : Option Addr} {sl_ri : Array (Option Value)} {oc_ri kV_ri dc_ri pm_ri cd_ri ct_ri : Value}
    {f_he : Addr} {od_he an_he : Option Addr} {sl_he : Array (Option Value)} {oc_he kV_he dc_he pm_he cd_he ct_he : Value}
    {f_re : Addr} {od_re an_re : Option Addr} {sl_re : Array (Option Value)} {oc_re kV_re dc_re pm_re  ct_re : Value}
    {f_la : Addr} {od_la an_la : Option Addr} {sl_la : Array (Option Value)} {oc_la kV_la dc_la pm_la cd_la ct_la : Value}
    {c0 : Addr}
    {c1 : Addr}
    {c2 : Addr}
    {c3 : Addr}
    {bN : Addr}
    {bP : Addr}
    {bK : Addr}
    {bT : Addr}
    {bH : Addr}
    {xN : Addr}
    {xZ : Addr}
    {xL : Addr}
    {f_iN : Addr} {od_iN an_iN : Option Addr} {sl_iN : Array (Option Value)} {oc_iN kV_iN dc_iN pm_iN cd_iN ct_iN : Value}
    {f_iZ : Addr} {od_iZ an_iZ : Option Addr} {sl_iZ : Array (Option Value)} {oc_iZ kV_iZ dc_iZ pm_iZ cd_iZ ct_iZ : Value}
    {f_i0 : Addr} {od_i0 an_i0 : Option Addr} {sl_i0 : Array (Option Value)} {oc_i0 kV_i0 dc_i0 pm_i0 cd_i0 ct_i0 : Value}
    {f_i1 : Addr} {od_i1 an_i1 : Option Addr} {sl_i1 : Array (Option Value)} {oc_i1 kV_i1 dc_i1 pm_i1 cd_i1 ct_i1 : Value}
    {f_i2 : Addr} {od_i2 an_i2 : Option Addr} {sl_i2 : Array (Option Value)} {oc_i2 kV_i2 dc_i2 pm_i2 cd_i2 ct_i2 : Value}
    {f_i3 : Addr} {od_i3 an_i3 : Option Addr} {sl_i3 : Array (Option Value)} {oc_i3 kV_i3 dc_i3 pm_i3 cd_i3 ct_i3 : Value}
    {f_e0 : Addr} {od_e0 an_e0 : Option Addr} {sl_e0 : Array (Option Value)} {oc_e0 kV_e0 dc_e0 pm_e0 cd_e0 ct_e0 : Value}
    {f_e1 : Addr} {od_e1 an_e1 : Option Addr} {sl_e1 : Array (Option Value)} {oc_e1 kV_e1 dc_e1 pm_e1 cd_e1 ct_e1 : Value}
    {f_e2 : Addr} {od_e2 an_e2 : Option Addr} {sl_e2 : Array (Option Value)} {oc_e2 kV_e2 dc_e2 pm_e2 cd_e2 ct_e2 : Value}
    {f_e3 : Addr} {od_e3 an_e3 : Option Addr} {sl_e3 : Array (Option Value)} {oc_e3 kV_e3 dc_e3 pm_e3 cd_e3 ct_e3 : Value}
    {f_t0 : Addr} {od_t0 an_t0 : Option Addr} {sl_t0 : Array (Option Value)} {oc_t0 kV_t0 dc_t0 pm_t0 cd_t0 ct_t0 : Value}
    {f_t1 : Addr} {od_t1 an_t1 : Option Addr} {sl_t1 : Array (Option Value)} {oc_t1 kV_t1 dc_t1 pm_t1 cd_t1 ct_t1 : Value}
    {f_t2 : Addr} {od_t2 an_t2 : Option Addr} {sl_t2 : Array (Option Value)} {oc_t2 kV_t2 dc_t2 pm_t2 cd_t2 ct_t2 : Value}
    {f_t3 : Addr} {od_t3 an_t3 : Option Addr} {sl_t3 : Array (Option Value)} {oc_t3 kV_t3 dc_t3 pm_t3 cd_t3 ct_t3 : Value}
    {T0 cQ P0 aK : Addr} {LT : Str} {tl tn t2d : Tok} {dK0 dT0 odQ : Option Addr} {itsK vsQ : Array Value} {nTu nT0 : Nat} {slTu slT0 slQ : Array (Option Value)} {oQ oT0 : Value}
    {nm_xN q_xN : Str} {N_xN : Addr} {bs_xN bm_xN sub_xN : List Value} {sn_xN : List Str} {ab_xN : Bool} {col_xN : Option Bool} {dd_xN : Option Addr} {k0_xN k1_xN k2_xN k3_xN k5_xN : Option Value}
    {nm_xZ q_xZ : Str} {N_xZ : Addr} {bs_xZ bm_xZ sub_xZ : List Value} {sn_xZ : List Str} {ab_xZ : Bool} {col_xZ : Option Bool} {dd_xZ : Option Addr} {k0_xZ k1_xZ k2_xZ k3_xZ k5_xZ : Option Value}
    {tw0 tv0 : Tok}
    {tw1 tv1 : Tok}
    {tw2 tv2 : Tok}
    {tw3 tv3 : Tok}
    {tle tmo : Tok}
    (a_W : PySem.W.nsIn K mainGlobals "is_whole" = some (some (.ref f_W)))
    (l_W : K.lookup f_W = some ⟨oc_W, od_W, .func (PySem.W.fnOf "is_whole" "is_whole" (defArgs sWhole) (defBody sWhole) (defScope sWhole) .none kV_W dc_W pm_W an_W (cd_W) ct_W), sl_W⟩)
    (c_W : PySem.W.codeIn K cd_W "is_whole" = true)
    (k_W : PySem.W.keepIn K (.ref f_W) = true)
    (a_Y : PySem.W.nsIn K mainGlobals "copied" = some (some (.ref f_Y)))
    (l_Y : K.lookup f_Y = some ⟨oc_Y, od_Y, .func (PySem.W.fnOf "copied" "copied" (defArgs sCopied) (defBody sCopied) (defScope sCopied) .none kV_Y dc_Y pm_Y an_Y (cd_Y) ct_Y), sl_Y⟩)
    (c_Y : PySem.W.codeIn K cd_Y "copied" = true)
    (k_Y : PySem.W.keepIn K (.ref f_Y) = true)
    (a_D : PySem.W.nsIn K mainGlobals "is_word" = some (some (.ref f_D)))
    (l_D : K.lookup f_D = some ⟨oc_D, od_D, .func (PySem.W.fnOf "is_word" "is_word" (defArgs sWord) (defBody sWord) (defScope sWord) .none kV_D dc_D pm_D an_D (cd_D) ct_D), sl_D⟩)
    (c_D : PySem.W.codeIn K cd_D "is_word" = true)
    (k_D : PySem.W.keepIn K (.ref f_D) = true)
    (a_N : PySem.W.nsIn K mainGlobals "is_name" = some (some (.ref f_N)))
    (l_N : K.lookup f_N = some ⟨oc_N, od_N, .func (PySem.W.fnOf "is_name" "is_name" (defArgs sName) (defBody sName) (defScope sName) .none kV_N dc_N pm_N an_N (cd_N) ct_N), sl_N⟩)
    (c_N : PySem.W.codeIn K cd_N "is_name" = true)
    (k_N : PySem.W.keepIn K (.ref f_N) = true)
    (a_C : PySem.W.nsIn K mainGlobals "check_name" = some (some (.ref f_C)))
    (l_C : K.lookup f_C = some ⟨oc_C, od_C, .func (PySem.W.fnOf "check_name" "check_name" (defArgs sCheck) (defBody sCheck) (defScope sCheck) .none kV_C dc_C pm_C an_C (cd_C) ct_C), sl_C⟩)
    (c_C : PySem.W.codeIn K cd_C "check_name" = true)
    (k_C : PySem.W.keepIn K (.ref f_C) = true)
    (a_pe : PySem.W.nsIn K mainGlobals "_law_pen" = some (some (.ref f_pe)))
    (l_pe : K.lookup f_pe = some ⟨oc_pe, od_pe, .func (PySem.W.fnOf "_law_pen" "_law_pen" (defArgs sPen) (defBody sPen) (defScope sPen) .none kV_pe dc_pe pm_pe an_pe (cd_pe) ct_pe), sl_pe⟩)
    (c_pe : PySem.W.codeIn K cd_pe "_law_pen" = true)
    (k_pe : PySem.W.keepIn K (.ref f_pe) = true)
    (a_dr : PySem.W.nsIn K mainGlobals "_law_draw" = some (some (.ref f_dr)))
    (l_dr : K.lookup f_dr = some ⟨oc_dr, od_dr, .func (PySem.W.fnOf "_law_draw" "_law_draw" (defArgs sDraw) (defBody sDraw) (defScope sDraw) .none kV_dr dc_dr pm_dr an_dr (cd_dr) ct_dr), sl_dr⟩)
    (c_dr : PySem.W.codeIn K cd_dr "_law_draw" = true)
    (k_dr : PySem.W.keepIn K (.ref f_dr) = true)
    (a_pi : PySem.W.nsIn K mainGlobals "_law_pick" = some (some (.ref f_pi)))
    (l_pi : K.lookup f_pi = some ⟨oc_pi, od_pi, .func (PySem.W.fnOf "_law_pick" "_law_pick" (defArgs sPick) (defBody sPick) (defScope sPick) .none kV_pi dc_pi pm_pi an_pi (cd_pi) ct_pi), sl_pi⟩)
    (c_pi : PySem.W.codeIn K cd_pi "_law_pick" = true)
    (k_pi : PySem.W.keepIn K (.ref f_pi) = true)
    (a_ro : PySem.W.nsIn K mainGlobals "_law_row" = some (some (.ref f_ro)))
    (l_ro : K.lookup f_ro = some ⟨oc_ro, od_ro, .func (PySem.W.fnOf "_law_row" "_law_row" (defArgs sRow) (defBody sRow) (defScope sRow) .none kV_ro dc_ro pm_ro an_ro (cd_ro) ct_ro), sl_ro⟩)
    (c_ro : PySem.W.codeIn K cd_ro "_law_row" = true)
    (k_ro : PySem.W.keepIn K (.ref f_ro) = true)
    (a_ma : PySem.W.nsIn K mainGlobals "_law_made" = some (some (.ref f_ma)))
    (l_ma : K.lookup f_ma = some ⟨oc_ma, od_ma, .func (PySem.W.fnOf "_law_made" "_law_made" (defArgs sMade) (defBody sMade) (defScope sMade) .none kV_ma dc_ma pm_ma an_ma (cd_ma) ct_ma), sl_ma⟩)
    (c_ma : PySem.W.codeIn K cd_ma "_law_made" = true)
    (k_ma : PySem.W.keepIn K (.ref f_ma) = true)
    (a_fc : PySem.W.nsIn K mainGlobals "_law_faces" = some (some (.ref f_fc)))
    (l_fc : K.lookup f_fc = some ⟨oc_fc, od_fc, .func (PySem.W.fnOf "_law_faces" "_law_faces" (defArgs sFaces) (defBody sFaces) (defScope sFaces) .none kV_fc dc_fc pm_fc an_fc (cd_fc) ct_fc), sl_fc⟩)
    (c_fc : PySem.W.codeIn K cd_fc "_law_faces" = true)
    (k_fc : PySem.W.keepIn K (.ref f_fc) = true)
    (a_ri : PySem.W.nsIn K mainGlobals "_law_right" = some (some (.ref f_ri)))
    (l_ri : K.lookup f_ri = some ⟨oc_ri, od_ri, .func (PySem.W.fnOf "_law_right" "_law_right" (defArgs sRight) (defBody sRight) (defScope sRight) .none kV_ri dc_ri pm_ri an_ri (cd_ri) ct_ri), sl_ri⟩)
    (c_ri : PySem.W.codeIn K cd_ri "_law_right" = true)
    (k_ri : PySem.W.keepIn K (.ref f_ri) = true)
    (a_he : PySem.W.nsIn K mainGlobals "_law_heard" = some (some (.ref f_he)))
    (l_he : K.lookup f_he = some ⟨oc_he, od_he, .func (PySem.W.fnOf "_law_heard" "_law_heard" (defArgs sHeard) (defBody sHeard) (defScope sHeard) .none kV_he dc_he pm_he an_he (cd_he) ct_he), sl_he⟩)
    (c_he : PySem.W.codeIn K cd_he "_law_heard" = true)
    (k_he : PySem.W.keepIn K (.ref f_he) = true)
    (a_re : PySem.W.nsIn K mainGlobals "_law_refused_right" = some (some (.ref f_re)))
    (l_re : K.lookup f_re = some ⟨oc_re, od_re, .func (PySem.W.fnOf "_law_refused_right" "_law_refused_right" (defArgs sRefused) (defBody sRefused) (defScope sRefused) .none kV_re dc_re pm_re an_re (.ref cQ) ct_re), sl_re⟩)
    (c_re : PySem.W.codeIn K (.ref cQ) "_law_refused_right" = true)
    (k_re : PySem.W.keepIn K (.ref f_re) = true)
    (a_la : PySem.W.nsIn K mainGlobals "law" = some (some (.ref f_la)))
    (l_la : K.lookup f_la = some ⟨oc_la, od_la, .func (PySem.W.fnOf "law" "law" (defArgs sLaw) (defBody sLaw) (defScope sLaw) .none kV_la dc_la pm_la an_la (cd_la) ct_la), sl_la⟩)
    (c_la : PySem.W.codeIn K cd_la "law" = true)
    (k_la : PySem.W.keepIn K (.ref f_la) = true)
    (g_c0 : PySem.W.nsIn K mainGlobals "Cell" = some (some (.ref c0)))
    (g_c1 : PySem.W.nsIn K mainGlobals "Log" = some (some (.ref c1)))
    (g_c2 : PySem.W.nsIn K mainGlobals "Failure" = some (some (.ref c2)))
    (g_c3 : PySem.W.nsIn K mainGlobals "Choice" = some (some (.ref c3)))
    (g_bN : PySem.W.nsIn K mainGlobals "Named" = some (some (.ref bN)))
    (g_bK : PySem.W.nsIn K mainGlobals "Keeping" = some (some (.ref bK)))
    (g_bT : PySem.W.nsIn K mainGlobals "Turning" = some (some (.ref bT)))
    (g_bH : PySem.W.nsIn K mainGlobals "Handler" = some (some (.ref bH)))
    (g_xN : PySem.W.nsIn K mainGlobals "BadName" = some (some (.ref xN)))
    (g_xZ : PySem.W.nsIn K mainGlobals "BadNumber" = some (some (.ref xZ)))
    (g_xL : PySem.W.nsIn K mainGlobals "LayerError" = some (some (.ref xL)))
    (m_iN : PySem.W.findIn K (.ref xN) "__init__" = some (some (.ref f_iN)))
    (l_iN : K.lookup f_iN = some ⟨oc_iN, od_iN, .func (PySem.W.fnOf "__init__" "BadName.__init__" (defArgs sIniN) (defBody sIniN) (defScope sIniN) .none kV_iN dc_iN pm_iN an_iN (cd_iN) ct_iN), sl_iN⟩)
    (c_iN : PySem.W.codeIn K cd_iN "BadName.__init__" = true)
    (k_iN : PySem.W.keepIn K (.ref f_iN) = true)
    (y_iN : PySem.W.typeIn K (.ref f_iN) = some (.type "function"))
    (n_iN : PySem.W.isFn K (.ref f_iN) = true)
    (m_iZ : PySem.W.findIn K (.ref xZ) "__init__" = some (some (.ref f_iZ)))
    (l_iZ : K.lookup f_iZ = some ⟨oc_iZ, od_iZ, .func (PySem.W.fnOf "__init__" "BadNumber.__init__" (defArgs sIniB) (defBody sIniB) (defScope sIniB) .none kV_iZ dc_iZ pm_iZ an_iZ (cd_iZ) ct_iZ), sl_iZ⟩)
    (c_iZ : PySem.W.codeIn K cd_iZ "BadNumber.__init__" = true)
    (k_iZ : PySem.W.keepIn K (.ref f_iZ) = true)
    (y_iZ : PySem.W.typeIn K (.ref f_iZ) = some (.type "function"))
    (n_iZ : PySem.W.isFn K (.ref f_iZ) = true)
    (m_i0 : PySem.W.findIn K (.ref c0) "__init__" = some (some (.ref f_i0)))
    (l_i0 : K.lookup f_i0 = some ⟨oc_i0, od_i0, .func (PySem.W.fnOf "__init__" "Cell.__init__" (defArgs sCellI) (defBody sCellI) (defScope sCellI) (.ref T0) kV_i0 dc_i0 pm_i0 an_i0 (cd_i0) ct_i0), sl_i0⟩)
    (c_i0 : PySem.W.codeIn K cd_i0 "Cell.__init__" = true)
    (k_i0 : PySem.W.keepIn K (.ref f_i0) = true)
    (y_i0 : PySem.W.typeIn K (.ref f_i0) = some (.type "function"))
    (n_i0 : PySem.W.isFn K (.ref f_i0) = true)
    (m_i1 : PySem.W.findIn K (.ref c1) "__init__" = some (some (.ref f_i1)))
    (l_i1 : K.lookup f_i1 = some ⟨oc_i1, od_i1, .func (PySem.W.fnOf "__init__" "Log.__init__" (defArgs sLogI) (defBody sLogI) (defScope sLogI) .none kV_i1 dc_i1 pm_i1 an_i1 (cd_i1) ct_i1), sl_i1⟩)
    (c_i1 : PySem.W.codeIn K cd_i1 "Log.__init__" = true)
    (k_i1 : PySem.W.keepIn K (.ref f_i1) = true)
    (y_i1 : PySem.W.typeIn K (.ref f_i1) = some (.type "function"))
    (n_i1 : PySem.W.isFn K (.ref f_i1) = true)
    (m_i2 : PySem.W.findIn K (.ref c2) "__init__" = some (some (.ref f_i2)))
    (l_i2 : K.lookup f_i2 = some ⟨oc_i2, od_i2, .func (PySem.W.fnOf "__init__" "Failure.__init__" (defArgs sFailI) (defBody sFailI) (defScope sFailI) .none kV_i2 dc_i2 pm_i2 an_i2 (cd_i2) ct_i2), sl_i2⟩)
    (c_i2 : PySem.W.codeIn K cd_i2 "Failure.__init__" = true)
    (k_i2 : PySem.W.keepIn K (.ref f_i2) = true)
    (y_i2 : PySem.W.typeIn K (.ref f_i2) = some (.type "function"))
    (n_i2 : PySem.W.isFn K (.ref f_i2) = true)
    (m_i3 : PySem.W.findIn K (.ref c3) "__init__" = some (some (.ref f_i3)))
    (l_i3 : K.lookup f_i3 = some ⟨oc_i3, od_i3, .func (PySem.W.fnOf "__init__" "Choice.__init__" (defArgs sChoI) (defBody sChoI) (defScope sChoI) .none kV_i3 dc_i3 pm_i3 an_i3 (cd_i3) ct_i3), sl_i3⟩)
    (c_i3 : PySem.W.codeIn K cd_i3 "Choice.__init__" = true)
    (k_i3 : PySem.W.keepIn K (.ref f_i3) = true)
    (y_i3 : PySem.W.typeIn K (.ref f_i3) = some (.type "function"))
    (n_i3 : PySem.W.isFn K (.ref f_i3) = true)
    (m_e0 : PySem.W.findIn K (.ref c0) "__eq__" = some (some (.ref f_e0)))
    (l_e0 : K.lookup f_e0 = some ⟨oc_e0, od_e0, .func (PySem.W.fnOf "__eq__" "Cell.__eq__" (defArgs sCellE) (defBody sCellE) (defScope sCellE) .none kV_e0 dc_e0 pm_e0 an_e0 (cd_e0) ct_e0), sl_e0⟩)
    (c_e0 : PySem.W.codeIn K cd_e0 "Cell.__eq__" = true)
    (k_e0 : PySem.W.keepIn K (.ref f_e0) = true)
    (y_e0 : PySem.W.typeIn K (.ref f_e0) = some (.type "function"))
    (n_e0 : PySem.W.isFn K (.ref f_e0) = true)
    (m_e1 : PySem.W.findIn K (.ref c1) "__eq__" = some (some (.ref f_e1)))
    (l_e1 : K.lookup f_e1 = some ⟨oc_e1, od_e1, .func (PySem.W.fnOf "__eq__" "Log.__eq__" (defArgs sLogE) (defBody sLogE) (defScope sLogE) .none kV_e1 dc_e1 pm_e1 an_e1 (cd_e1) ct_e1), sl_e1⟩)
    (c_e1 : PySem.W.codeIn K cd_e1 "Log.__eq__" = true)
    (k_e1 : PySem.W.keepIn K (.ref f_e1) = true)
    (y_e1 : PySem.W.typeIn K (.ref f_e1) = some (.type "function"))
    (n_e1 : PySem.W.isFn K (.ref f_e1) = true)
    (m_e2 : PySem.W.findIn K (.ref c2) "__eq__" = some (some (.ref f_e2)))
    (l_e2 : K.lookup f_e2 = some ⟨oc_e2, od_e2, .func (PySem.W.fnOf "__eq__" "Failure.__eq__" (defArgs sFailE) (defBody sFailE) (defScope sFailE) .none kV_e2 dc_e2 pm_e2 an_e2 (cd_e2) ct_e2), sl_e2⟩)
    (c_e2 : PySem.W.codeIn K cd_e2 "Failure.__eq__" = true)
    (k_e2 : PySem.W.keepIn K (.ref f_e2) = true)
    (y_e2 : PySem.W.typeIn K (.ref f_e2) = some (.type "function"))
    (n_e2 : PySem.W.isFn K (.ref f_e2) = true)
    (m_e3 : PySem.W.findIn K (.ref c3) "__eq__" = some (some (.ref f_e3)))
    (l_e3 : K.lookup f_e3 = some ⟨oc_e3, od_e3, .func (PySem.W.fnOf "__eq__" "Choice.__eq__" (defArgs sChoE) (defBody sChoE) (defScope sChoE) .none kV_e3 dc_e3 pm_e3 an_e3 (cd_e3) ct_e3), sl_e3⟩)
    (c_e3 : PySem.W.codeIn K cd_e3 "Choice.__eq__" = true)
    (k_e3 : PySem.W.keepIn K (.ref f_e3) = true)
    (y_e3 : PySem.W.typeIn K (.ref f_e3) = some (.type "function"))
    (n_e3 : PySem.W.isFn K (.ref f_e3) = true)
    (m_t0 : PySem.W.findIn K (.ref c0) "__str__" = some (some (.ref f_t0)))
    (l_t0 : K.lookup f_t0 = some ⟨oc_t0, od_t0, .func (PySem.W.fnOf "__str__" "Cell.__str__" (defArgs sCellT) (defBody sCellT) (defScope sCellT) .none kV_t0 dc_t0 pm_t0 an_t0 (cd_t0) ct_t0), sl_t0⟩)
    (c_t0 : PySem.W.codeIn K cd_t0 "Cell.__str__" = true)
    (k_t0 : PySem.W.keepIn K (.ref f_t0) = true)
    (y_t0 : PySem.W.typeIn K (.ref f_t0) = some (.type "function"))
    (n_t0 : PySem.W.isFn K (.ref f_t0) = true)
    (m_t1 : PySem.W.findIn K (.ref c1) "__str__" = some (some (.ref f_t1)))
    (l_t1 : K.lookup f_t1 = some ⟨oc_t1, od_t1, .func (PySem.W.fnOf "__str__" "Log.__str__" (defArgs sLogT) (defBody sLogT) (defScope sLogT) .none kV_t1 dc_t1 pm_t1 an_t1 (cd_t1) ct_t1), sl_t1⟩)
    (c_t1 : PySem.W.codeIn K cd_t1 "Log.__str__" = true)
    (k_t1 : PySem.W.keepIn K (.ref f_t1) = true)
    (y_t1 : PySem.W.typeIn K (.ref f_t1) = some (.type "function"))
    (n_t1 : PySem.W.isFn K (.ref f_t1) = true)
    (m_t2 : PySem.W.findIn K (.ref c2) "__str__" = some (some (.ref f_t2)))
    (l_t2 : K.lookup f_t2 = some ⟨oc_t2, od_t2, .func (PySem.W.fnOf "__str__" "Failure.__str__" (defArgs sFailT) (defBody sFailT) (defScope sFailT) .none kV_t2 dc_t2 pm_t2 an_t2 (cd_t2) ct_t2), sl_t2⟩)
    (c_t2 : PySem.W.codeIn K cd_t2 "Failure.__str__" = true)
    (k_t2 : PySem.W.keepIn K (.ref f_t2) = true)
    (y_t2 : PySem.W.typeIn K (.ref f_t2) = some (.type "function"))
    (n_t2 : PySem.W.isFn K (.ref f_t2) = true)
    (m_t3 : PySem.W.findIn K (.ref c3) "__str__" = some (some (.ref f_t3)))
    (l_t3 : K.lookup f_t3 = some ⟨oc_t3, od_t3, .func (PySem.W.fnOf "__str__" "Choice.__str__" (defArgs sChoT) (defBody sChoT) (defScope sChoT) .none kV_t3 dc_t3 pm_t3 an_t3 (cd_t3) ct_t3), sl_t3⟩)
    (c_t3 : PySem.W.codeIn K cd_t3 "Choice.__str__" = true)
    (k_t3 : PySem.W.keepIn K (.ref f_t3) = true)
    (y_t3 : PySem.W.typeIn K (.ref f_t3) = some (.type "function"))
    (n_t3 : PySem.W.isFn K (.ref f_t3) = true)
    (lT0 : K.lookup T0 = some ⟨oT0, dT0, .seq #[.int 2 t2d] nT0, slT0⟩)
    (lQ : K.lookup cQ = some ⟨oQ, odQ, .fields vsQ, slQ⟩)
    (pQ : vsQ[11]? = some (.ref P0))
    (hQ : PySem.W.codeHdIn K cQ P0 = true)
    (nQ : K.lookup P0 = none)
    (gL : PySem.W.nsIn K mainGlobals "LETTERS" = some (some (.str LT tl)))
    (eL : decide (LT = abc) = true)
    (gLo : PySem.W.nsIn K mainGlobals "LONGEST" = some (some (.int 8 tn)))
    (gK : PySem.W.nsIn K mainGlobals "KEPT_WORDS" = some (some (.ref aK)))
    (lK0 : K.lookup aK = some ⟨.type "tuple", dK0, .seq itsK nTu, slTu⟩)
    (vK : sayB kept itsK.toList = true)
    (zK : decide (itsK.size ≤ sizeLine) = true)
    (z_int : PySem.W.nsIn K mainGlobals "int" = some none)
    (z_bool : PySem.W.nsIn K mainGlobals "bool" = some none)
    (z_len : PySem.W.nsIn K mainGlobals "len" = some none)
    (z_abs : PySem.W.nsIn K mainGlobals "abs" = some none)
    (z_list : PySem.W.nsIn K mainGlobals "list" = some none)
    (z_tuple : PySem.W.nsIn K mainGlobals "tuple" = some none)
    (z_dict : PySem.W.nsIn K mainGlobals "dict" = some none)
    (z_range : PySem.W.nsIn K mainGlobals "range" = some none)
    (z_isinstance : PySem.W.nsIn K mainGlobals "isinstance" = some none)
    (z_str : PySem.W.nsIn K mainGlobals "str" = some none)
    (z_all : PySem.W.nsIn K mainGlobals "all" = some none)
    (z_repr : PySem.W.nsIn K mainGlobals "repr" = some none)
    (z_ValueError : PySem.W.nsIn K mainGlobals "ValueError" = some none)
    (lo_xN : K.lookup xN = some (PySem.excClassObj nm_xN q_xN xN N_xN bs_xN bm_xN true sn_xN sub_xN ab_xN col_xN dd_xN k0_xN k1_xN k2_xN k3_xN k5_xN "ValueError.__new__"))
    (ve_xN : PySem.HandSPX.refsVE bm_xN = true)
    (lo_xZ : K.lookup xZ = some (PySem.excClassObj nm_xZ q_xZ xZ N_xZ bs_xZ bm_xZ true sn_xZ sub_xZ ab_xZ col_xZ dd_xZ k0_xZ k1_xZ k2_xZ k3_xZ k5_xZ "ValueError.__new__"))
    (ve_xZ : PySem.HandSPX.refsVE bm_xZ = true)
    (w0 : PySem.W.findIn K (.ref c0) "WORD" = some (some (.str "cell" tw0)))
    (wg0 : PySem.W.specialIn K (.str "cell" tw0) "__get__" = some none)
    (v0 : PySem.W.findCls K (.ref c0) (.type "type") "WORD" = some (.val (.str "cell" tv0)))
    (w1 : PySem.W.findIn K (.ref c1) "WORD" = some (some (.str "log" tw1)))
    (wg1 : PySem.W.specialIn K (.str "log" tw1) "__get__" = some none)
    (v1 : PySem.W.findCls K (.ref c1) (.type "type") "WORD" = some (.val (.str "log" tv1)))
    (w2 : PySem.W.findIn K (.ref c2) "WORD" = some (some (.str "failure" tw2)))
    (wg2 : PySem.W.specialIn K (.str "failure" tw2) "__get__" = some none)
    (v2 : PySem.W.findCls K (.ref c2) (.type "type") "WORD" = some (.val (.str "failure" tv2)))
    (w3 : PySem.W.findIn K (.ref c3) "WORD" = some (some (.str "choice" tw3)))
    (wg3 : PySem.W.specialIn K (.str "choice" tw3) "__get__" = some none)
    (v3 : PySem.W.findCls K (.ref c3) (.type "type") "WORD" = some (.val (.str "choice" tv3)))
    (vle : PySem.W.findCls K (.ref c0) (.type "type") "LEAST" = some (.val (.int 2 tle)))
    (vmo : PySem.W.findCls K (.ref c0) (.type "type") "MOST" = some (.val (.int 4 tmo)))
    (hB0 : clsB K c0 = true)
    (hB1 : clsB K c1 = true)
    (hB2 : clsB K c2 = true)
    (hB3 : clsB K c3 = true)
    (hP : pairB K ⟨c0, c1, c2, c3⟩ bN bK bT bH = true)
    (hXN : excB K xN xZ xL xN true = true)
    (hXZ : excB K xN xZ xL xZ false = true)
    (hPap : papB K bP = true)
    (g_bP : PySem.W.nsIn K mainGlobals "Paper" = some (some (.ref bP)))
    (hO : objB K = true)
    (mQ : P0 ∈ TT) :
    ∃ (fd : FuncData) (c P : Addr), h.get? P = some tab0 ∧ K.lookup P = none ∧ PySem.W.CodeHd h c P ∧ Fun K "law" "law" sLaw fa fd ∧ FnScope nLaw ["_law_script"] (defScope sLaw) ∧ (∀ (s : Shared) (u : Value), BindsTo s fd ⟨[u], []⟩ [("_law_script", u)]) ∧ LawBodyT PySem.Challenge.rw_layerseen_k14_handlers_made w K mg 63 nLaw "law" sLaw fa c P := by
  have e := hfa.symm.trans (PySem.W.mg_of X G a_la)
  cases e
  have eL' : LT = abc := of_decide_eq_true eL
  subst eL'
  have F_W := fun_mk (st := sWhole) l_W c_W k_W
  have F_Y := fun_mk (st := sCopied) l_Y c_Y k_Y
  have F_D := fun_mk (st := sWord) l_D c_D k_D
  have F_N := fun_mk (st := sName) l_N c_N k_N
  have F_C := fun_mk (st := sCheck) l_C c_C k_C
  have F_pe := fun_mk (st := sPen) l_pe c_pe k_pe
  have F_dr := fun_mk (st := sDraw) l_dr c_dr k_dr
  have F_pi := fun_mk (st := sPick) l_pi c_pi k_pi
  have F_ro := fun_mk (st := sRow) l_ro c_ro k_ro
  have F_ma := fun_mk (st := sMade) l_ma c_ma k_ma
  have F_fc := fun_mk (st := sFaces) l_fc c_fc k_fc
  have F_ri := fun_mk (st := sRight) l_ri c_ri k_ri
  have F_he := fun_mk (st := sHeard) l_he c_he k_he
  have F_re := fun_mk (st := sRefused) l_re c_re k_re
  have F_la := fun_mk (st := sLaw) l_la c_la k_la
  have F_iN := fun_mk (st := sIniN) l_iN c_iN k_iN
  have F_iZ := fun_mk (st := sIniB) l_iZ c_iZ k_iZ
  have F_i1 := fun_mk (st := sLogI) l_i1 c_i1 k_i1
  have F_i2 := fun_mk (st := sFailI) l_i2 c_i2 k_i2
  have F_i3 := fun_mk (st := sChoI) l_i3 c_i3 k_i3
  have F_e0 := fun_mk (st := sCellE) l_e0 c_e0 k_e0
  have F_e1 := fun_mk (st := sLogE) l_e1 c_e1 k_e1
  have F_e2 := fun_mk (st := sFailE) l_e2 c_e2 k_e2
  have F_e3 := fun_mk (st := sChoE) l_e3 c_e3 k_e3
  have F_t0 := fun_mk (st := sCellT) l_t0 c_t0 k_t0
  have F_t1 := fun_mk (st := sLogT) l_t1 c_t1 k_t1
  have F_t2 := fun_mk (st := sFailT) l_t2 c_t2 k_t2
  have F_t3 := fun_mk (st := sChoT) l_t3 c_t3 k_t3
  have B_W := F_W.binds (ps := ["value"]) fun _ _ _ _ _ _ us hl => match us, hl with | [_], _ => rfl
  have B_Y := F_Y.binds (ps := ["value"]) fun _ _ _ _ _ _ us hl => match us, hl with | [_], _ => rfl
  have B_D := F_D.binds (ps := ["value"]) fun _ _ _ _ _ _ us hl => match us, hl with | [_], _ => rfl
  have B_N := F_N.binds (ps := ["value"]) fun _ _ _ _ _ _ us hl => match us, hl with | [_], _ => rfl
  have B_C := F_C.binds (ps := ["value"]) fun _ _ _ _ _ _ us hl => match us, hl with | [_], _ => rfl
  have B_pe := F_pe.binds (ps := ["_law_script"]) fun _ _ _ _ _ _ us hl => match us, hl with | [_], _ => rfl
  have B_dr := F_dr.binds (ps := ["_law_pen_here", "_law_many"]) fun _ _ _ _ _ _ us hl => match us, hl with | [_, _], _ => rfl
  have B_pi := F_pi.binds (ps := ["_law_pen_here", "_law_some"]) fun _ _ _ _ _ _ us hl => match us, hl with | [_, _], _ => rfl
  have B_ro := F_ro.binds (ps := ["_law_pen_here"]) fun _ _ _ _ _ _ us hl => match us, hl with | [_], _ => rfl
  have B_ma := F_ma.binds (ps := ["_law_row_here"]) fun _ _ _ _ _ _ us hl => match us, hl with | [_], _ => rfl
  have B_fc := F_fc.binds (ps := ["_law_one"]) fun _ _ _ _ _ _ us hl => match us, hl with | [_], _ => rfl
  have B_ri := F_ri.binds (ps := ["_law_row_here", "_law_other"]) fun _ _ _ _ _ _ us hl => match us, hl with | [_, _], _ => rfl
  have B_he := F_he.binds (ps := ["_law_ask"]) fun _ _ _ _ _ _ us hl => match us, hl with | [_], _ => rfl
  have B_re := F_re.binds (ps := ["_law_pen_here"]) fun _ _ _ _ _ _ us hl => match us, hl with | [_], _ => rfl
  have B_iN := F_iN.binds (ps := ["self", "value"]) fun _ _ _ _ _ _ us hl => match us, hl with | [_, _], _ => rfl
  have B_iZ := F_iZ.binds (ps := ["self", "value"]) fun _ _ _ _ _ _ us hl => match us, hl with | [_, _], _ => rfl
  have B_i1 := F_i1.binds (ps := ["self", "name"]) fun _ _ _ _ _ _ us hl => match us, hl with | [_, _], _ => rfl
  have B_i2 := F_i2.binds (ps := ["self", "name"]) fun _ _ _ _ _ _ us hl => match us, hl with | [_, _], _ => rfl
  have B_i3 := F_i3.binds (ps := ["self"]) fun _ _ _ _ _ _ us hl => match us, hl with | [_], _ => rfl
  have B_e0 := F_e0.binds (ps := ["self", "other"]) fun _ _ _ _ _ _ us hl => match us, hl with | [_, _], _ => rfl
  have B_t0 := F_t0.binds (ps := ["self"]) fun _ _ _ _ _ _ us hl => match us, hl with | [_], _ => rfl
  have B_e1 := F_e1.binds (ps := ["self", "other"]) fun _ _ _ _ _ _ us hl => match us, hl with | [_, _], _ => rfl
  have B_t1 := F_t1.binds (ps := ["self"]) fun _ _ _ _ _ _ us hl => match us, hl with | [_], _ => rfl
  have B_e2 := F_e2.binds (ps := ["self", "other"]) fun _ _ _ _ _ _ us hl => match us, hl with | [_, _], _ => rfl
  have B_t2 := F_t2.binds (ps := ["self"]) fun _ _ _ _ _ _ us hl => match us, hl with | [_], _ => rfl
  have B_e3 := F_e3.binds (ps := ["self", "other"]) fun _ _ _ _ _ _ us hl => match us, hl with | [_, _], _ => rfl
  have B_t3 := F_t3.binds (ps := ["self"]) fun _ _ _ _ _ _ us hl => match us, hl with | [_], _ => rfl
  have T : Txt mg := ⟨PySem.W.mg_none_of X G z_int, PySem.W.mg_none_of X G z_bool, PySem.W.mg_none_of X G z_len, PySem.W.mg_none_of X G z_abs, PySem.W.mg_none_of X G z_list, PySem.W.mg_none_of X G z_tuple, PySem.W.mg_none_of X G z_dict, PySem.W.mg_none_of X G z_range, PySem.W.mg_none_of X G z_isinstance, PySem.W.mg_none_of X G z_str, PySem.W.mg_none_of X G z_all, PySem.W.mg_none_of X G z_repr, PySem.W.mg_none_of X G z_ValueError⟩
  have FD0 : FunD K "__init__" "Cell.__init__" (defArgs sCellI) (defBody sCellI) (defScope sCellI) [.int 2] [] f_i0 _ := ⟨⟨oc_i0, od_i0, .ref T0, kV_i0, dc_i0, pm_i0, an_i0, cd_i0, ct_i0, sl_i0, rfl, l_i0, c_i0, .inr ⟨by simp, T0, _, [.int 2 t2d], nT0, rfl, lT0, rfl, .cons ⟨t2d, rfl⟩ .nil⟩, .inl rfl⟩, k_i0⟩
  have tK : ∀ H, SqT K H aK (kept.map V.str) := fun H => .inr ⟨_, itsK, nTu, lK0, rfl, rfl, of_decide_eq_true zK, say_of _ _ vK⟩
  obtain ⟨dsA, vA, B_i0⟩ := FD0.binds1 (ps := ["self", "name", "size"]) 3 1 (by simp) rfl (fun T kV doc pm an cdv ct us its e1 e2 => match us, its, e1, e2 with | [_, _, _], [_], _, _ => ⟨_, rfl, rfl⟩)
  obtain rfl : dsA = [] := by cases vA; rfl
  obtain ⟨ds2, dv, B_i01⟩ := FD0.binds1 (ps := ["self", "name", "size"]) 2 0 (by simp) rfl (fun T kV doc pm an cdv ct us its e1 e2 => match us, its, e1, e2 with | [_, _], [_], _, _ => ⟨_, rfl, rfl⟩)
  obtain ⟨itsG, kb⟩ := FD0.kbindsD (ps := ["self", "name", "size"]) 1 ["size", "name"] (fun us _ ws => us ++ (ws.drop 1 ++ ws.take 1)) (by simp) (fun a _ b => a.append ((b.drop 1).append (b.take 1))) (fun T kV doc pm an cdv ct us its ws e1 e2 e3 => match us, its, ws, e1, e2, e3 with | [_], [_], [_, _], _, _, _ => ⟨_, rfl, rfl⟩)
  obtain ⟨p1, p2, p3, p4, p5, p6, p7⟩ := pair_mk hP
  obtain ⟨k0, nn0, ns0, dc0, mo0, mk0, kp0, ne0, rd0⟩ := cls_mk hB0
  obtain ⟨k1, nn1, ns1, dc1, mo1, mk1, kp1, ne1, rd1⟩ := cls_mk hB1
  obtain ⟨k2, nn2, ns2, dc2, mo2, mk2, kp2, ne2, rd2⟩ := cls_mk hB2
  obtain ⟨k3, nn3, ns3, dc3, mo3, mk3, kp3, ne3, rd3⟩ := cls_mk hB3
  obtain ⟨eN, saN, tyN, kpN⟩ := exc_mk hO hXN
  obtain ⟨eZ, saZ, tyZ, kpZ⟩ := exc_mk hO hXZ
  have hO' := hO
  unfold objB at hO'
  simp only [Bool.and_eq_true, decide_eq_true_eq] at hO'
  have H0' : HCls K mg "Cell" c0 := ⟨PySem.W.mg_of X G g_c0, k0, nn0, ns0⟩
  have H1' : HCls K mg "Log" c1 := ⟨PySem.W.mg_of X G g_c1, k1, nn1, ns1⟩
  have H2' : HCls K mg "Failure" c2 := ⟨PySem.W.mg_of X G g_c2, k2, nn2, ns2⟩
  have H3' : HCls K mg "Choice" c3 := ⟨PySem.W.mg_of X G g_c3, k3, nn3, ns3⟩
  have S : Hand K mg ⟨c0, c1, c2, c3⟩ := ⟨H0', H1', H2', H3', fun i hi => match i, hi with | 0, _ => dc0 | 1, _ => dc1 | 2, _ => dc2 | 3, _ => dc3, fun i hi => match i, hi with | 0, _ => mo0 | 1, _ => mo1 | 2, _ => mo2 | 3, _ => mo3, hO'.1, hO'.2, p1⟩
  have Ba : Bases K mg ⟨c0, c1, c2, c3⟩ bN bK bT bH := ⟨PySem.W.mg_of X G g_bN, PySem.W.mg_of X G g_bK, PySem.W.mg_of X G g_bT, PySem.W.mg_of X G g_bH, p4, p5, p6, p7⟩
  have W : ∀ k : HD, ∃ u, Con K ((⟨c0, c1, c2, c3⟩ : A4).at k.ix) "WORD" (.str k.wd) u := fun k => match k with
    | .cell _ _ => ⟨_, w0, ⟨_, rfl⟩, wg0, by decide +kernel⟩
    | .log _ => ⟨_, w1, ⟨_, rfl⟩, wg1, by decide +kernel⟩
    | .fail _ => ⟨_, w2, ⟨_, rfl⟩, wg2, by decide +kernel⟩
    | .cho => ⟨_, w3, ⟨_, rfl⟩, wg3, by decide +kernel⟩
  have EN : Err K mg "BadName" xN f_iN := ⟨PySem.W.mg_of X G g_xN, ⟨⟨_, _, _, _, _, _, _, _, _, _, _, _, _, _, _, lo_xN, ve_xN⟩, saN, eN.ec.hs, tyN, kpN⟩, m_iN, y_iN, eN.no⟩
  have EZ : Err K mg "BadNumber" xZ f_iZ := ⟨PySem.W.mg_of X G g_xZ, ⟨⟨_, _, _, _, _, _, _, _, _, _, _, _, _, _, _, lo_xZ, ve_xZ⟩, saZ, eZ.ec.hs, tyZ, kpZ⟩, m_iZ, y_iZ, eZ.no⟩
  have M0 : Mk K c0 f_i0 := ⟨mk0, m_i0, n_i0, kp0⟩
  have M1 : Mk K c1 f_i1 := ⟨mk1, m_i1, n_i1, kp1⟩
  have M2 : Mk K c2 f_i2 := ⟨mk2, m_i2, n_i2, kp2⟩
  have M3 : Mk K c3 f_i3 := ⟨mk3, m_i3, n_i3, kp3⟩
  have kb1 := kbn1 F_i1 fun _ _ _ _ _ _ _ _ => rfl
  have kb2 := kbn1 F_i2 fun _ _ _ _ _ _ _ _ => rfl
  refine ⟨_, cQ, P0, hT _ mQ, nQ, PySem.W.codeHd_of_K X hQ, F_la, scLaw, fun s v => .of_eq rfl, ?_⟩
  refine law_body (A := ⟨c0, c1, c2, c3⟩) (CN := xN) (CZ := xZ) (mc := fun _ => .type "type") (fE := f_pe) (fR := f_ro) (fG := f_ri) (fF := f_re) (fI0 := f_i0) (fI1 := f_i1) (fI2 := f_i2) (fI3 := f_i3) (dE := fdOf F_pe) (dR := fdOf F_ro) (dG := fdOf F_ri) (dF := fdOf F_re) (d0 := fdD FD0) (d1 := fdOf F_i1) (d2 := fdOf F_i2) (d3 := fdOf F_i3) (ds2 := ds2) (gk := fun us ws => us ++ (ws.drop 1 ++ ws.take 1)) fun base hKb hNb TB => ?_
  have NP : NoPap K mg bP := ⟨PySem.W.mg_of X G g_bP, pap_mk hPap⟩
  have Gcop : FnOk PR w K mg base CX0 2 f_Y _ ["value"] spCopied := ok_copied F_Y NP T B_Y (PySem.W.mg_of X G a_Y)
  have GiN : FnOk PR w K mg base CX0 3 f_iN _ ["self", "value"] (spIni K xN) := ok_iniN F_iN EN.ox EN.no F_Y B_Y (PySem.W.mg_of X G a_Y) Gcop
  have GiZ : FnOk PR w K mg base CX0 3 f_iZ _ ["self", "value"] (spIni K xZ) := ok_iniB F_iZ EZ.ox EZ.no F_Y B_Y (PySem.W.mg_of X G a_Y) Gcop
  have Gword : FnOk PR w K mg base CX0 1 f_D _ ["value"] (spWord K wd) := ok_word F_D T (PySem.W.mg_of X G gL) (PySem.W.mg_of X G gLo)
  have Gname : FnOk PR w K mg base CX0 2 f_N _ ["value"] (spWord K nm) := ok_name F_N F_D B_D (PySem.W.mg_of X G a_D) Gword (PySem.W.mg_of X G gK) tK
  have Gchk : FnOk PR w K mg base (L2.CX PR w) 5 f_C _ ["value"] (spCheck K xN) := ok_check F_C F_N B_N (PySem.W.mg_of X G a_N) Gname EN B_iN GiN
  have Gwh : FnOk PR w K mg base CX0 1 f_W _ ["value"] spWhole := ok_whole F_W T
  have G0 : FnOk PR w K mg base (L2.CX PR w) 6 f_i0 _ ["self", "name", "size"] (spCellI K c0 xN xZ) := ok_cellI FD0 H0' F_C B_C (PySem.W.mg_of X G a_C) Gchk F_W B_W (PySem.W.mg_of X G a_W) Gwh rd0 ⟨vle, ⟨_, rfl⟩⟩ ⟨vmo, ⟨_, rfl⟩⟩ EZ B_iZ GiZ
  have G1 : FnOk PR w K mg base (L2.CX PR w) 6 f_i1 _ ["self", "name"] (spNamed K c1 xN) := ok_logI F_i1 H1' F_C B_C (PySem.W.mg_of X G a_C) Gchk
  have G2 : FnOk PR w K mg base (L2.CX PR w) 6 f_i2 _ ["self", "name"] (spNamed K c2 xN) := ok_failI F_i2 H2' F_C B_C (PySem.W.mg_of X G a_C) Gchk
  have G3 : FnOk PR w K mg base CX0 1 f_i3 _ ["self"] (spChoI c3) := ok_choI F_i3 H3'
  have Gpen : FnOk PR w K mg base CX0 1 f_pe _ ["_law_script"] (spPen K) := ok_pen F_pe T
  have Gdraw : FnOk PR w K mg base CX0 1 f_dr _ ["_law_pen_here", "_law_many"] spDraw := ok_draw F_dr T
  have Gpick : FnOk PR w K mg base CX0 2 f_pi _ ["_law_pen_here", "_law_some"] spPick := ok_pick F_pi T F_dr B_dr (PySem.W.mg_of X G a_dr) Gdraw
  have Grow : FnOk PR w K mg base CX0 3 f_ro _ ["_law_pen_here"] spRow := ok_row F_ro F_dr B_dr (PySem.W.mg_of X G a_dr) Gdraw F_pi B_pi (PySem.W.mg_of X G a_pi) Gpick
  have Gmade : FnOk PR w K mg base CX0 8 f_ma _ ["_law_row_here"] (spMade ⟨c0, c1, c2, c3⟩) := ok_made F_ma S M0 B_i0 G0 M1 B_i1 G1 M2 B_i2 G2 M3 B_i3 G3
  have Gfc : FnOk PR w K mg base CX0 1 f_fc _ ["_law_one"] (spFaces ⟨c0, c1, c2, c3⟩) := ok_faces F_fc S T Ba
  have O : Owns PR w K mg base ⟨c0, c1, c2, c3⟩ := fun i hi => match i, hi with
    | 0, _ => ⟨f_e0, f_t0, _, _, m_e0, n_e0, ne0, B_e0, ok_eqCell F_e0 S T, m_t0, n_t0, B_t0, ok_strCell F_t0 S, fun j hj => p2 0 j (by decide) hj⟩
    | 1, _ => ⟨f_e1, f_t1, _, _, m_e1, n_e1, ne1, B_e1, ok_eqLog F_e1 S T, m_t1, n_t1, B_t1, ok_strLog F_t1 S, fun j hj => p2 1 j (by decide) hj⟩
    | 2, _ => ⟨f_e2, f_t2, _, _, m_e2, n_e2, ne2, B_e2, ok_eqFail F_e2 S T, m_t2, n_t2, B_t2, ok_strFail F_t2 S, fun j hj => p2 2 j (by decide) hj⟩
    | 3, _ => ⟨f_e3, f_t3, _, _, m_e3, n_e3, ne3, B_e3, ok_eqCho F_e3 S T, m_t3, n_t3, B_t3, ok_strCho F_t3, fun j hj => p2 3 j (by decide) hj⟩
  have Gri := ok_right (bN := bN) (bK := bK) (bT := bT) (bH := bH) F_ri T S O W p3 F_ma B_ma (PySem.W.mg_of X G a_ma) Gmade F_fc B_fc (PySem.W.mg_of X G a_fc) Gfc
  have Gre := ok_refused (P := PR) (w := w) T S TB F_he (PySem.W.mg_of X G a_he) (PySem.W.mg_of X G g_xN) (PySem.W.mg_of X G g_xZ) (PySem.W.mg_of X G g_xL) eN eZ M0 B_i0 B_i01 dv kb G0 M1 B_i1 G1 M2 B_i2 G2 l_re c_re F_pi B_pi (PySem.W.mg_of X G a_pi) Gpick
  have rdA : ∀ i, i < 4 → ClX.CRead K ((⟨c0, c1, c2, c3⟩ : A4).at i) (.type "type") := fun i hi => match i, hi with
    | 0, _ => rd0
    | 1, _ => rd1
    | 2, _ => rd2
    | 3, _ => rd3
  exact {
    T := T, S := S, O := O, Fe := F_pe, be := B_pe, ge := PySem.W.mg_of X G a_pe, Ge := Gpen, Fr := F_ro, br := B_ro, gr := PySem.W.mg_of X G a_ro, Gr := Grow,
    kg := k_ri, bg := B_ri, gg := PySem.W.mg_of X G a_ri, Gg := Gri, kf := k_re, bf := B_re, gf := PySem.W.mg_of X G a_re, Gf := Gre,
    M0 := M0, b0 := B_i0, b01 := B_i01, dv := dv, kb := kb, G0 := G0, M1 := M1, b1 := B_i1, k1 := kb1, G1 := G1, M2 := M2, b2 := B_i2, k2 := kb2, G2 := G2, M3 := M3, b3 := B_i3, G3 := G3,
    rd := rdA,
    c2 := ⟨_, vle, ⟨_, rfl⟩⟩, c4 := ⟨_, vmo, ⟨_, rfl⟩⟩, w0 := ⟨_, v0, ⟨_, rfl⟩⟩, w1 := ⟨_, v1, ⟨_, rfl⟩⟩, w2 := ⟨_, v2, ⟨_, rfl⟩⟩, w3 := ⟨_, v3, ⟨_, rfl⟩⟩ }
end My
open PySem PySem.W PyProof.Rows
set_option maxHeartbeats 0 in
theorem PySem.Challenge.cw_layerseen_k14_handlers_made_holds : PySem.Challenge.rw_layerseen_k14_handlers_made.Holds := by
  w_on; o_law; k_head; (case hw => w_witness2)
  k_fill
  refine My.law_topT (l := PySem.Challenge.rw_layerseen_k14_handlers_made) (n := 63) (N := My.nLaw) (x := "_law_script") (nm := "law") (qual := "law") (st := My.sLaw) rfl (by decide) rfl (fun w h Y => PySem.W.km_in_of Y) ?Z
  case Z =>
    intro w mg fa h Y KX G hmg
    have hT8 := PySem.W.km_tabs_of Y
    refine' My.all_mk KX G hmg hT8 ?a_W ?l_W ?c_W ?k_W ?a_Y ?l_Y ?c_Y ?k_Y ?a_D ?l_D ?c_D ?k_D ?a_N ?l_N ?c_N ?k_N ?a_C ?l_C ?c_C ?k_C ?a_pe ?l_pe ?c_pe ?k_pe ?a_dr ?l_dr ?c_dr ?k_dr ?a_pi ?l_pi ?c_pi ?k_pi ?a_ro ?l_ro ?c_ro ?k_ro ?a_ma ?l_ma ?c_ma ?k_ma ?a_fc ?l_fc ?c_fc ?k_fc ?a_ri ?l_ri ?c_ri ?k_ri ?a_he ?l_he ?c_he ?k_he ?a_re ?l_re ?c_re ?k_re ?a_la ?l_la ?c_la ?k_la ?g_c0 ?g_c1 ?g_c2 ?g_c3 ?g_bN ?g_bK ?g_bT ?g_bH ?g_xN ?g_xZ ?g_xL ?m_iN ?l_iN ?c_iN ?k_iN ?y_iN ?n_iN ?m_iZ ?l_iZ ?c_iZ ?k_iZ ?y_iZ ?n_iZ ?m_i0 ?l_i0 ?c_i0 ?k_i0 ?y_i0 ?n_i0 ?m_i1 ?l_i1 ?c_i1 ?k_i1 ?y_i1 ?n_i1 ?m_i2 ?l_i2 ?c_i2 ?k_i2 ?y_i2 ?n_i2 ?m_i3 ?l_i3 ?c_i3 ?k_i3 ?y_i3 ?n_i3 ?m_e0 ?l_e0 ?c_e0 ?k_e0 ?y_e0 ?n_e0 ?m_e1 ?l_e1 ?c_e1 ?k_e1 ?y_e1 ?n_e1 ?m_e2 ?l_e2 ?c_e2 ?k_e2 ?y_e2 ?n_e2 ?m_e3 ?l_e3 ?c_e3 ?k_e3 ?y_e3 ?n_e3 ?m_t0 ?l_t0 ?c_t0 ?k_t0 ?y_t0 ?n_t0 ?m_t1 ?l_t1 ?c_t1 ?k_t1 ?y_t1 ?n_t1 ?m_t2 ?l_t2 ?c_t2 ?k_t2 ?y_t2 ?n_t2 ?m_t3 ?l_t3 ?c_t3 ?k_t3 ?y_t3 ?n_t3 ?lT0 ?lQ ?pQ ?hQ ?nQ ?gL ?eL ?gLo ?gK ?lK0 ?vK ?zK ?z_int ?z_bool ?z_len ?z_abs ?z_list ?z_tuple ?z_dict ?z_range ?z_isinstance ?z_str ?z_all ?z_repr ?z_ValueError ?lo_xN ?ve_xN ?lo_xZ ?ve_xZ ?w0 ?wg0 ?v0 ?w1 ?wg1 ?v1 ?w2 ?wg2 ?v2 ?w3 ?wg3 ?v3 ?vle ?vmo ?hB0 ?hB1 ?hB2 ?hB3 ?hP ?hXN ?hXZ ?hPap ?g_bP ?hO ?mQ
    (case a_W => k_is)
    (case l_W => k_is)
    (case c_W => k_is)
    (case k_W => k_is)
    (case a_Y => k_is)
    (case l_Y => k_is)
    (case c_Y => k_is)
    (case k_Y => k_is)
    (case a_D => k_is)
    (case l_D => k_is)
    (case c_D => k_is)
    (case k_D => k_is)
    (case a_N => k_is)
    (case l_N => k_is)
    (case c_N => k_is)
    (case k_N => k_is)
    (case a_C => k_is)
    (case l_C => k_is)
    (case c_C => k_is)
    (case k_C => k_is)
    (case a_pe => k_is)
    (case l_pe => k_is)
    (case c_pe => k_is)
    (case k_pe => k_is)
    (case a_dr => k_is)
    (case l_dr => k_is)
    (case c_dr => k_is)
    (case k_dr => k_is)
    (case a_pi => k_is)
    (case l_pi => k_is)
    (case c_pi => k_is)
    (case k_pi => k_is)
    (case a_ro => k_is)
    (case l_ro => k_is)
    (case c_ro => k_is)
    (case k_ro => k_is)
    (case a_ma => k_is)
    (case l_ma => k_is)
    (case c_ma => k_is)
    (case k_ma => k_is)
    (case a_fc => k_is)
    (case l_fc => k_is)
    (case c_fc => k_is)
    (case k_fc => k_is)
    (case a_ri => k_is)
    (case l_ri => k_is)
    (case c_ri => k_is)
    (case k_ri => k_is)
    (case a_he => k_is)
    (case l_he => k_is)
    (case c_he => k_is)
    (case k_he => k_is)
    (case a_re => k_is)
    (case l_re => k_is)
    (case c_re => k_is)
    (case k_re => k_is)
    (case a_la => k_is)
    (case l_la => k_is)
    (case c_la => k_is)
    (case k_la => k_is)
    (case g_c0 => k_is)
    (case g_c1 => k_is)
    (case g_c2 => k_is)
    (case g_c3 => k_is)
    (case g_bN => k_is)
    (case g_bK => k_is)
    (case g_bT => k_is)
    (case g_bH => k_is)
    (case g_xN => k_is)
    (case g_xZ => k_is)
    (case g_xL => k_is)
    (case m_iN => k_is)
    (case l_iN => k_is)
    (case c_iN => k_is)
    (case k_iN => k_is)
    (case y_iN => k_is)
    (case n_iN => k_is)
    (case m_iZ => k_is)
    (case l_iZ => k_is)
    (case c_iZ => k_is)
    (case k_iZ => k_is)
    (case y_iZ => k_is)
    (case n_iZ => k_is)
    (case m_i0 => k_is)
    (case l_i0 => k_is)
    (case c_i0 => k_is)
    (case k_i0 => k_is)
    (case y_i0 => k_is)
    (case n_i0 => k_is)
    (case m_i1 => k_is)
    (case l_i1 => k_is)
    (case c_i1 => k_is)
    (case k_i1 => k_is)
    (case y_i1 => k_is)
    (case n_i1 => k_is)
    (case m_i2 => k_is)
    (case l_i2 => k_is)
    (case c_i2 => k_is)
    (case k_i2 => k_is)
    (case y_i2 => k_is)
    (case n_i2 => k_is)
    (case m_i3 => k_is)
    (case l_i3 => k_is)
    (case c_i3 => k_is)
    (case k_i3 => k_is)
    (case y_i3 => k_is)
    (case n_i3 => k_is)
    (case m_e0 => k_is)
    (case l_e0 => k_is)
    (case c_e0 => k_is)
    (case k_e0 => k_is)
    (case y_e0 => k_is)
    (case n_e0 => k_is)
    (case m_e1 => k_is)
    (case l_e1 => k_is)
    (case c_e1 => k_is)
    (case k_e1 => k_is)
    (case y_e1 => k_is)
    (case n_e1 => k_is)
    (case m_e2 => k_is)
    (case l_e2 => k_is)
    (case c_e2 => k_is)
    (case k_e2 => k_is)
    (case y_e2 => k_is)
    (case n_e2 => k_is)
    (case m_e3 => k_is)
    (case l_e3 => k_is)
    (case c_e3 => k_is)
    (case k_e3 => k_is)
    (case y_e3 => k_is)
    (case n_e3 => k_is)
    (case m_t0 => k_is)
    (case l_t0 => k_is)
    (case c_t0 => k_is)
    (case k_t0 => k_is)
    (case y_t0 => k_is)
    (case n_t0 => k_is)
    (case m_t1 => k_is)
    (case l_t1 => k_is)
    (case c_t1 => k_is)
    (case k_t1 => k_is)
    (case y_t1 => k_is)
    (case n_t1 => k_is)
    (case m_t2 => k_is)
    (case l_t2 => k_is)
    (case c_t2 => k_is)
    (case k_t2 => k_is)
    (case y_t2 => k_is)
    (case n_t2 => k_is)
    (case m_t3 => k_is)
    (case l_t3 => k_is)
    (case c_t3 => k_is)
    (case k_t3 => k_is)
    (case y_t3 => k_is)
    (case n_t3 => k_is)
    (case lT0 => k_is)
    (case lQ => k_is)
    (case pQ => rfl)
    (case hQ => kernel_rfl)
    (case nQ => kernel_rfl)
    (case gL => k_is)
    (case eL => decide +kernel)
    (case gLo => k_is)
    (case gK => k_is)
    (case lK0 => k_is)
    (case vK => decide +kernel)
    (case zK => decide +kernel)
    (case z_int => k_is)
    (case z_bool => k_is)
    (case z_len => k_is)
    (case z_abs => k_is)
    (case z_list => k_is)
    (case z_tuple => k_is)
    (case z_dict => k_is)
    (case z_range => k_is)
    (case z_isinstance => k_is)
    (case z_str => k_is)
    (case z_all => k_is)
    (case z_repr => k_is)
    (case z_ValueError => k_is)
    (case lo_xN => k_is)
    (case ve_xN => decide +kernel)
    (case lo_xZ => k_is)
    (case ve_xZ => decide +kernel)
    (case w0 => k_is)
    (case wg0 => kernel_rfl)
    (case v0 => k_is)
    (case w1 => k_is)
    (case wg1 => kernel_rfl)
    (case v1 => k_is)
    (case w2 => k_is)
    (case wg2 => kernel_rfl)
    (case v2 => k_is)
    (case w3 => k_is)
    (case wg3 => kernel_rfl)
    (case v3 => k_is)
    (case vle => k_is)
    (case vmo => k_is)
    (case hB0 => kernel_rfl)
    (case hB1 => kernel_rfl)
    (case hB2 => kernel_rfl)
    (case hB3 => kernel_rfl)
    (case hP => kernel_rfl)
    (case hXN => kernel_rfl)
    (case hXZ => kernel_rfl)
    (case g_bP => k_is)
    (case hPap => kernel_rfl)
    (case hO => kernel_rfl)
    (case mQ => first | exact List.Mem.head _ | decide)
