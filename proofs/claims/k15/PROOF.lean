import PyProof.Rows.All
import Wide.All
import OpenK.AllK
import Wide.FinOn
import HandS.ForMost
import HandS.Lambda
import HandS.EndTab
import KE.KDictCopyH
import HandS.ForExc
import HandS.ExcIs
import HandS.ExcField
import KE.KExcIs
import HandS.IsInst
import KE.KCallOwn
import PyProof.InstNe
import HandS.RaiseMore
import HandS.DictEq
import HandS.DeepEq
import HandS.DictComp
import HandS.Walk
import HandS.Iter
import HandS.Comp
import HandS.Text
import HandS.ExcInit
import HandS.ExcValue
import HandS.ClsMeth
import HandS.Gcd
import HandS.Wide
import HandS.MakeKw
import HandS.MakeKwOnly
import HandS.Defaults
import HandS.Dict
import HandS.Star
import HandS.MethStar
import HandS.CallLocal
import HandS.IterVal
import HandS.ListItems
import HandS.FStr
import HandS.Flow
import HandS.AnyAll
import HandS.TupAny
import HandS.Style
import HandS.Conv
import HandS.TupLe
import HandS.OwnEq
import PyProof.NeKinds
import PySem.Challenge.RW_layerseen_k15_handlers_that_meet
set_option Elab.async false
set_option linter.all false
set_option maxRecDepth 100000
set_option maxHeartbeats 4000000

namespace My
open PySem PySem.Spec PyProof.Rows L2

/-- what the walk of the law's body has to give, the guards being known -/
def LawBody (l : PySem.W.OpenLaw) (w : World) (K : PySem.W.Frag) (mg : Str → Option Value) (n : Nat) (N : List Str) (qual : Str) (st : Stmt) (fa : Addr) : Prop :=
  ∀ base : Heap, K.In base → base.Ns mainGlobals mg → ∀ (cdv : Value) (s : Shared) (H : Hp) (a : Addr) (ns : List Int), ns.length ≤ n → Only H → SqL K H a (ns.map V.int) →
    ∃ t, PSs (cxOf CX0 l.prog w K mg base N qual (defScope st) fa cdv callerA [] s H E0).nox (defBody st) t ∧
      t { nx := fun _ _ => False, rt := fun v _ => v = .bl true } (start N [.ref a]) H

/-- one call of the law from an abstract heap -/
theorem enter {l : PySem.W.OpenLaw} {w : World} {K : PySem.W.Frag} {mg : Str → Option Value} {n : Nat} {N : List Str} {x nm qual : Str} {st : Stmt} {fa a : Addr} {fd : FuncData}
    {base : Heap} {s : Shared} {H : Hp} {ns : List Int}
    (F : Fun K nm qual st fa fd) (S : FnScope N [x] (defScope st)) (hb : ∀ (s : Shared) (u : Value), BindsTo s fd ⟨[u], []⟩ [(x, u)])
    (B : LawBody l w K mg n N qual st fa) (hKb : K.In base) (hNb : base.Ns mainGlobals mg) (hn : ns.length ≤ n) (hO : Only H) (hS : SqL K H a (ns.map V.int))
    (e0 : Env0 l.prog w K mg base callerA [] s H) :
    codeAny (model l.prog w) callerA (.call (.ref fa) ⟨[.ref a], []⟩)
      (fun r s' => r = .ok (.ret (.bool true)) ∧ ∃ H', s'.os = s.os ∧ AllBare s'.gens ∧ Un [] [] H H' s.heap s'.heap ∧ HOk l.prog w H' s'.heap) s := by
  obtain ⟨oc, od, kV, doc, pm, an, cdv, ct, osl, rfl, lk, hcd⟩ := F.ex
  have stays : ∀ b o, base.get? b = some o → s.heap.get? b = some o := fun b o z => (e0.bs b o z).1
  have KS : K.In s.heap := e0.mod.kin.keeps stays
  have NL : s.heap.NoLimit := e0.mod.nolimit.keeps stays
  have kinds : ∀ y ∈ [x].zip [Value.ref a], (defScope st).names.lookup y.1 = some .local ∨ ((defScope st).names.lookup y.1 = some .cell ∧ ((cellsFrom (s.heap.objs.size + 1) (defScope st).names []).lookup y.1).isSome = true) := by
    intro y hy
    obtain rfl : y = (x, Value.ref a) := List.mem_singleton.mp hy
    cases S.par x (List.mem_singleton.mpr rfl) with
    | inl q => exact .inl q
    | inr q => exact .inr ⟨q, PySem.W.cellsFrom_some _ _ _ (.inl q)⟩
  refine codeAny_call_function (by decide) (KS _ _ lk) rfl S.co S.gen rfl (PySem.W.codeRec_of KS hcd) (hb s (.ref a) _ _ _ _ ?_)
  refine wpAny_newFunctionEnv_cells S.kind kinds fun env he s2 ic => ?_
  subst he
  refine ⟨NL.keeps ic.toInCall.keep, codeAny_func ?_⟩
  obtain ⟨t, ht, hq⟩ := B base hKb hNb cdv s H a ns hn hO hS
  have J0 := inv_start (E := E0) (CX := CX0) S (show callerA.handled = none from rfl) e0 (vs := [.ref a]) (us := [.ref a]) rfl (.cons rfl .nil) ic
  refine wpAny_mono (ht.run [] s2 (start N [.ref a]) H _ (J0.wish _) hq) (fun fl s' hs => ?_) fun e s' hs => hs.elim
  cases fl with
  | ret u =>
    obtain ⟨v, σ', H', J, rv, q⟩ := hs
    subst q
    obtain rfl : u = Value.bool true := rv
    exact ⟨rfl, H', J.os, J.bare, J.base, J.hok⟩
  | next => exact (let ⟨_, _, _, q⟩ := hs; q).elim
  | brk => exact (let ⟨_, _, _, q⟩ := hs; q).elim
  | cont => exact (let ⟨_, _, _, q⟩ := hs; q).elim

/-- the object of the script, looked at through its abstract heap -/
def scriptHp (a : Addr) (vs : List Value) (ns : List Int) : Hp := fun b => if b = a then some (.frz { cls := .type "list", data := .seq vs.toArray } (.lst (ns.map V.int))) else none

/-- from one call in an abstract heap to the call that is asked for -/
theorem settle {l : PySem.W.OpenLaw} {w : World} {K : PySem.W.Frag} {mg mb : Str → Option Value} {n : Nat} {N : List Str} {x nm qual : Str} {st : Stmt} {fa a : Addr} {fd : FuncData} {s : Shared} {H : Hp} {ns : List Int} {vs : List Value}
    (KX : K.In s.heap) (hns : s.heap.Ns mainGlobals mg) (hb : s.heap.Ns builtinsNs mb) (hbb : ∀ x : Str, x ≠ "__name__" → mb x = bootBuiltins x) (hlim : s.heap.NoLimit) (hg : s.gens = #[])
    (ha : s.heap.get? a = some { cls := .type "list", data := .seq vs.toArray }) (hn : ns.length ≤ n)
    (F : Fun K nm qual st fa fd) (S : FnScope N [x] (defScope st)) (hbi : ∀ (s : Shared) (u : Value), BindsTo s fd ⟨[u], []⟩ [(x, u)]) (B : LawBody l w K mg n N qual st fa)
    (hO : Only H) (hS : SqL K H a (ns.map V.int)) (hok : HOk l.prog w H s.heap) (one : ∀ b, H b ≠ none → b = a) (out : H a ≠ none → K.lookup a = none) :
    codeAny (model l.prog w) callerA (.call (.ref fa) ⟨[.ref a], []⟩) (fun r s' => r = .ok (.ret (.bool true)) ∧ OldK s.heap s'.heap ∧ s'.os = s.os ∧ AllBare s'.gens) s := by
  have seen : ∀ {b : Addr} {o : Obj}, H b = none → s.heap.get? b = some o → (hidT s.heap H).get? b = some o := fun q e => hidT_get e q
  have free : ∀ {b : Addr} {o : Obj}, s.heap.get? b = some o → (∀ xs k, o.data ≠ .seq xs k) → H b = none := by
    intro b o e nd
    by_cases z : H b = none
    · exact z
    · have eb := one b z
      rw [eb, ha] at e
      injection e with e
      exact absurd (by rw [← e]) (nd vs.toArray 0)
  have names : ∀ {b : Addr} {m : Str → Option Value}, s.heap.Ns b m → (hidT s.heap H).Ns b m := by
    intro b m nb
    obtain ⟨o, es, ep, e, d, rest⟩ := nb
    exact ⟨o, es, ep, seen (free e fun xs k z => by rw [d] at z; injection z) e, d, rest⟩
  have KB : K.In (hidT s.heap H) := by
    intro b o e
    refine seen ?_ (KX b o e)
    by_cases z : H b = none
    · exact z
    · have eb := one b z
      subst eb
      rw [out z] at e
      injection e
  have E0' : Env0 l.prog w K mg (hidT s.heap H) callerA [] s H := by
    refine ⟨rfl, ⟨KB, names hns, ⟨mb, names hb, hbb⟩, ?_⟩, fun b o e => of_hidT e, Nat.le_of_eq (hidT_size _ _), trivial, ?_, hok, .of_eq hg⟩
    · obtain ⟨mc, c1, c2⟩ := hlim
      exact ⟨mc, names c1, c2⟩
    · intro b z
      exact absurd (show b ∈ ([] : List Addr) from z) List.not_mem_nil
  refine codeAny_mono (enter F S hbi B KB (names hns) hn hO hS E0') fun r s' h => ?_
  obtain ⟨e1, H', os, bare, un, hok'⟩ := h
  refine ⟨e1, OldK.of_keep fun b o e => ?_, os, bare⟩
  by_cases z : H b = none
  · exact un.keep b o e z (show b ∉ ([] : List Addr) from List.not_mem_nil) List.not_mem_nil
  · rcases hO b with y | ⟨ob, xs, y⟩
    · exact absurd y z
    · have g1 := (hok b _ y).1
      have g2 := (hok' b _ (un.frzs b ob _ y)).1
      rw [g1] at e
      injection e with e
      rw [← e]
      exact g2

/-- the goal that the head leaves, from the law's body walked with known guards -/
theorem law_top {l : PySem.W.OpenLaw} {n : Nat} {q : Program} {loose : List Str} {XP : (Str → Option Value) → Heap → Prop} {YP : World → Heap → Prop} {d : DefRec} {K : Params → PySem.W.Frag} {N : List Str} {x nm qual : Str} {st : Stmt}
    (hn : l.most = some n) (hn2 : n ≤ sizeLine) (hdf : d.params.defaults = []) (hY : ∀ (w : World) (h : Heap), YP w h → (K w.params).In h)
    (Z : ∀ (w : World) (mg : Str → Option Value) (fa : Addr) (h : Heap), (K w.params).In h → h.Ns mainGlobals mg → mg d.name = some (.ref fa) →
      ∃ fd : FuncData, Fun (K w.params) nm qual st fa fd ∧ FnScope N [x] (defScope st) ∧ (∀ (s : Shared) (u : Value), BindsTo s fd ⟨[u], []⟩ [(x, u)]) ∧ LawBody l w (K w.params) mg n N qual st fa) :
    PySem.W.WalkO q loose XP YP l.row.toRowW d [] (fun f vs => PySem.call f vs) := by
  refine Att.attach_call hn hdf ?_
  intro w s₀ s mg mb fa o pm cd doc a vs ns G Y ho hd hcd hmg hobj hints hlen hg
  have KX : (K w.params).In s.heap := hY w _ Y
  obtain ⟨fd, F, S, hbi, B⟩ := Z w mg fa _ KX G.T.g hmg
  have rv : Vals (ns.map V.int) vs := vals_ints hints
  have top : ns.length ≤ sizeLine := Nat.le_trans hlen hn2
  have plain := @settle l w (K w.params) mg mb n N x nm qual st fa a fd s
  cases hk : (K w.params).lookup a with
  | some u =>
    have e := KX a u hk
    rw [hobj] at e
    injection e with e
    subst e
    refine plain (H := fun _ => none) (ns := ns) (vs := vs) KX G.T.g G.T.b G.T.builtins G.T.nolimit hg hobj hlen F S hbi B (fun _ => .inl rfl) (.inr ⟨_, vs.toArray, _, hk, rfl, rfl, rfl, ?_, ?_⟩) (fun b u z => ?_) (fun b z => absurd rfl z) (fun z => absurd rfl z)
    · rw [List.size_toArray, hints.length]
      exact top
    · simpa using rv
    · injection z
  | none =>
    refine plain (H := scriptHp a vs ns) (ns := ns) (vs := vs) KX G.T.g G.T.b G.T.builtins G.T.nolimit hg hobj hlen F S hbi B (fun b => ?_) (.inl (.inr ⟨_, if_pos rfl⟩)) (fun b u z => ?_) (fun b z => ?_) (fun _ => hk)
    · by_cases eb : b = a
      · exact .inr ⟨_, _, if_pos eb⟩
      · exact .inl (if_neg eb)
    · by_cases eb : b = a
      · have y := (if_pos eb).symm.trans z
        injection y with y
        subst y
        subst eb
        exact ⟨hobj, by rw [List.length_map]; exact top, vs, _, rv, hobj⟩
      · have y := (if_neg eb).symm.trans z
        injection y
    · by_cases eb : b = a
      · exact eb
      · exact absurd (if_neg eb) z
end My
namespace My
open PySem PySem.Spec PyProof.Rows L2
/-- what the walk of the law's body has to give where one def of the text makes lambdas: its code object at c, the table of that one at P, empty so far -/
def LawBodyT (l : PySem.W.OpenLaw) (w : World) (K : PySem.W.Frag) (mg : Str → Option Value) (n : Nat) (N : List Str) (qual : Str) (st : Stmt) (fa c P : Addr) : Prop :=
  ∀ base : Heap, K.In base → base.Ns mainGlobals mg → LamX.TabB base mg c P → ∀ (cdv : Value) (s : Shared) (H : Hp) (a : Addr) (ns : List Int), ns.length ≤ n → H P = some (.tbl #[]) → SqL K H a (ns.map V.int) →
    ∃ t, PSs (cxOf CX0 l.prog w K mg base N qual (defScope st) fa cdv callerA [] s H E0).nox (defBody st) t ∧
      t { nx := fun _ _ => False, rt := fun v _ => v = .bl true } (start N [.ref a]) H
theorem enterB {l : PySem.W.OpenLaw} {w : World} {K : PySem.W.Frag} {mg : Str → Option Value} {N : List Str} {x nm qual : Str} {st : Stmt} {fa a : Addr} {fd : FuncData}
    {base : Heap} {s : Shared} {H : Hp} (F : Fun K nm qual st fa fd) (S : FnScope N [x] (defScope st)) (hb : ∀ (s : Shared) (u : Value), BindsTo s fd ⟨[u], []⟩ [(x, u)])
    (B : ∀ cdv : Value, ∃ t, PSs (cxOf CX0 l.prog w K mg base N qual (defScope st) fa cdv callerA [] s H E0).nox (defBody st) t ∧ t { nx := fun _ _ => False, rt := fun v _ => v = .bl true } (start N [.ref a]) H)
    (e0 : Env0 l.prog w K mg base callerA [] s H) :
    codeAny (model l.prog w) callerA (.call (.ref fa) ⟨[.ref a], []⟩)
      (fun r s' => r = .ok (.ret (.bool true)) ∧ ∃ H', s'.os = s.os ∧ AllBare s'.gens ∧ Un [] [] H H' s.heap s'.heap ∧ HOk l.prog w H' s'.heap) s := by
  obtain ⟨oc, od, kV, doc, pm, an, cdv, ct, osl, rfl, lk, hcd⟩ := F.ex
  have stays : ∀ b o, base.get? b = some o → s.heap.get? b = some o := fun b o z => (e0.bs b o z).1
  have KS : K.In s.heap := e0.mod.kin.keeps stays
  have NL : s.heap.NoLimit := e0.mod.nolimit.keeps stays
  have kinds : ∀ y ∈ [x].zip [Value.ref a], (defScope st).names.lookup y.1 = some .local ∨ ((defScope st).names.lookup y.1 = some .cell ∧ ((cellsFrom (s.heap.objs.size + 1) (defScope st).names []).lookup y.1).isSome = true) := by
    intro y hy
    obtain rfl : y = (x, Value.ref a) := List.mem_singleton.mp hy
    cases S.par x (List.mem_singleton.mpr rfl) with
    | inl q => exact .inl q
    | inr q => exact .inr ⟨q, PySem.W.cellsFrom_some _ _ _ (.inl q)⟩
  refine codeAny_call_function (by decide) (KS _ _ lk) rfl S.co S.gen rfl (PySem.W.codeRec_of KS hcd) (hb s (.ref a) _ _ _ _ ?_)
  refine wpAny_newFunctionEnv_cells S.kind kinds fun env he s2 ic => ?_
  subst he
  refine ⟨NL.keeps ic.toInCall.keep, codeAny_func ?_⟩
  obtain ⟨t, ht, hq⟩ := B cdv
  have J0 := inv_start (E := E0) (CX := CX0) S (show callerA.handled = none from rfl) e0 (vs := [.ref a]) (us := [.ref a]) rfl (.cons rfl .nil) ic
  refine wpAny_mono (ht.run [] s2 (start N [.ref a]) H _ (J0.wish _) hq) (fun fl s' hs => ?_) fun e s' hs => hs.elim
  cases fl with
  | ret u =>
    obtain ⟨v, σ', H', J, rv, q⟩ := hs
    subst q
    obtain rfl : u = Value.bool true := rv
    exact ⟨rfl, H', J.os, J.bare, J.base, J.hok⟩
  | next => exact (let ⟨_, _, _, q⟩ := hs; q).elim
  | brk => exact (let ⟨_, _, _, q⟩ := hs; q).elim
  | cont => exact (let ⟨_, _, _, q⟩ := hs; q).elim
/-- a table that is empty so far -/
abbrev tab0 : Obj := { cls := .none, data := .fields #[] }
theorem settleT {l : PySem.W.OpenLaw} {w : World} {K : PySem.W.Frag} {mg mb : Str → Option Value} {n : Nat} {N : List Str} {x nm qual : Str} {st : Stmt} {fa a c P : Addr} {fd : FuncData} {s : Shared} {H : Hp} {ns : List Int} {vs : List Value}
    (KX : K.In s.heap) (hns : s.heap.Ns mainGlobals mg) (hb : s.heap.Ns builtinsNs mb) (hbb : ∀ x : Str, x ≠ "__name__" → mb x = bootBuiltins x) (hlim : s.heap.NoLimit) (hg : s.gens = #[])
    (ha : s.heap.get? a = some { cls := .type "list", data := .seq vs.toArray }) (hn : ns.length ≤ n)
    (hT : s.heap.get? P = some tab0) (nT : K.lookup P = none) (C : PySem.W.CodeHd s.heap c P) (bm : s.heap.BuiltinsAt mg P)
    (F : Fun K nm qual st fa fd) (S : FnScope N [x] (defScope st)) (hbi : ∀ (s : Shared) (u : Value), BindsTo s fd ⟨[u], []⟩ [(x, u)]) (B : LawBodyT l w K mg n N qual st fa c P)
    (hP : H P = some (.tbl #[])) (hO : ∀ b, b ≠ P → H b = none ∨ ∃ o xs, H b = some (.frz o (.lst xs))) (hS : SqL K H a (ns.map V.int)) (hok : HOk l.prog w H s.heap) (one : ∀ b, H b ≠ none → b = a ∨ b = P) (out : H a ≠ none → K.lookup a = none) :
    codeAny (model l.prog w) callerA (.call (.ref fa) ⟨[.ref a], []⟩) (fun r s' => r = .ok (.ret (.bool true)) ∧ OldK s.heap s'.heap ∧ s'.os = s.os ∧ AllBare s'.gens) s := by
  -- what is neither the script nor the table is not tracked
  have free : ∀ {b : Addr} {o : Obj}, s.heap.get? b = some o → (∀ xs k, o.data ≠ .seq xs k) → o.data ≠ .fields #[] → H b = none := by
    intro b o e nd nf
    by_cases z : H b = none
    · exact z
    · rcases one b z with eb | eb
      · rw [eb, ha] at e
        injection e with e
        exact absurd (by rw [← e]) (nd vs.toArray 0)
      · rw [eb, hT] at e
        injection e with e
        exact absurd (by rw [← e]) nf
  have seen : ∀ {b : Addr} {o : Obj}, s.heap.get? b = some o → (∀ xs k, o.data ≠ .seq xs k) → o.data ≠ .fields #[] → (hidT s.heap H).get? b = some o := fun e h1 h2 => hidT_get e (free e h1 h2)
  have names : ∀ {b : Addr} {m : Str → Option Value}, s.heap.Ns b m → (hidT s.heap H).Ns b m := by
    intro b m nb
    obtain ⟨o, es, ep, e, d, rest⟩ := nb
    exact ⟨o, es, ep, seen e (fun xs k z => by rw [d] at z; injection z) (fun z => by rw [d] at z; injection z), d, rest⟩
  have KB : K.In (hidT s.heap H) := by
    intro b o e
    refine hidT_get (KX b o e) ?_
    by_cases z : H b = none
    · exact z
    · rcases one b z with eb | eb
      · subst eb
        rw [out z] at e
        injection e
      · subst eb
        rw [nT] at e
        injection e
  have E0' : Env0 l.prog w K mg (hidT s.heap H) callerA [] s H := by
    refine ⟨rfl, ⟨KB, names hns, ⟨mb, names hb, hbb⟩, ?_⟩, fun b o e => of_hidT e, Nat.le_of_eq (hidT_size _ _), trivial, ?_, hok, .of_eq hg⟩
    · obtain ⟨mc, c1, c2⟩ := hlim
      exact ⟨mc, names c1, c2⟩
    · intro b z
      exact absurd (show b ∈ ([] : List Addr) from z) List.not_mem_nil
  have TB : LamX.TabB (hidT s.heap H) mg c P := by
    refine ⟨?_, ?_, fun z => ?_⟩
    · obtain ⟨o, us, file, tf, flags, tg, inF, text, tt, e1, r1, r2, r3, rest⟩ := C
      refine ⟨o, us, file, tf, flags, tg, inF, text, tt, seen e1 (fun xs k z => by rw [r2] at z; injection z) (fun z => ?_), r1, r2, r3, rest⟩
      rw [r2] at z
      injection z with z
      rw [z] at r3
      simp at r3
    · obtain ⟨b, ob, b1, b2, b3, b4, b5, b6, b7, b8⟩ := bm
      exact ⟨b, ob, b1, b2, b3, b4, seen b5 (fun xs k z => by rw [b8] at z; injection z) (fun z => by rw [b8] at z; injection z), b6, b7, b8⟩
    · obtain ⟨o, es, ep, e, d, _⟩ := hns
      rw [z, hT] at e
      injection e with e
      rw [← e] at d
      injection d
  refine codeAny_mono (enterB F S hbi (fun cdv => B _ KB (names hns) TB cdv s H a ns hn hP hS) E0') fun r s' h => ?_
  obtain ⟨e1, H', os, bare, un, hok'⟩ := h
  obtain ⟨more, eP⟩ := un.tbls P #[] hP
  have grown : s'.heap.get? P = some { cls := .none, data := .fields (#[] ++ more) } := hok' P _ eP
  have kept : ∀ b o, b ≠ P → s.heap.get? b = some o → s'.heap.get? b = some o := by
    intro b o nb e
    by_cases z : H b = none
    · exact un.keep b o e z (show b ∉ ([] : List Addr) from List.not_mem_nil) List.not_mem_nil
    · rcases hO b nb with y | ⟨ob, xs, y⟩
      · exact absurd y z
      · have g1 := (hok b _ y).1
        have g2 := (hok' b _ (un.frzs b ob _ y)).1
        rw [g1] at e
        injection e with e
        rw [← e]
        exact g2
  refine ⟨e1, ⟨fun b o e => ?_, fun b o e => ?_⟩, os, bare⟩
  · by_cases nb : b = P
    · subst nb
      rw [hT] at e
      injection e with e
      subst e
      exact .inr (.inl ⟨(C.tab hT).isCodeTable, rfl, #[], more, rfl, grown⟩)
    · exact .inl (kept b o nb e)
  · by_cases nb : b = P
    · subst nb
      exact ⟨_, grown⟩
    · exact ⟨o, kept b o nb e⟩
/-- the goal that the head leaves, from the law's body walked with known guards and one table -/
theorem law_topT {l : PySem.W.OpenLaw} {n : Nat} {q : Program} {loose : List Str} {XP : (Str → Option Value) → Heap → Prop} {YP : World → Heap → Prop} {d : DefRec} {K : Params → PySem.W.Frag} {N : List Str} {x nm qual : Str} {st : Stmt}
    (hn : l.most = some n) (hn2 : n ≤ sizeLine) (hdf : d.params.defaults = []) (hY : ∀ (w : World) (h : Heap), YP w h → (K w.params).In h)
    (Z : ∀ (w : World) (mg : Str → Option Value) (fa : Addr) (h : Heap), YP w h → (K w.params).In h → h.Ns mainGlobals mg → mg d.name = some (.ref fa) →
      ∃ (fd : FuncData) (c P : Addr), h.get? P = some tab0 ∧ (K w.params).lookup P = none ∧ PySem.W.CodeHd h c P ∧ Fun (K w.params) nm qual st fa fd ∧ FnScope N [x] (defScope st) ∧ (∀ (s : Shared) (u : Value), BindsTo s fd ⟨[u], []⟩ [(x, u)]) ∧ LawBodyT l w (K w.params) mg n N qual st fa c P) :
    PySem.W.WalkO q loose XP YP l.row.toRowW d [] (fun f vs => PySem.call f vs) := by
  refine Att.attach_call hn hdf ?_
  intro w s₀ s mg mb fa o pm cd doc a vs ns G Y ho hd hcd hmg hobj hints hlen hg
  have KX : (K w.params).In s.heap := hY w _ Y
  obtain ⟨fd, c, P, hT, nT, C, F, S, hbi, B⟩ := Z w mg fa _ Y KX G.T.g hmg
  have bmP : s.heap.BuiltinsAt mg P := by
    obtain ⟨bm, ob, b1, b2, b3, b4, b5, b6⟩ := G.T.bmain
    refine ⟨bm, ob, b1, b2, fun z => ?_, fun z => ?_, b3, b4, b5, b6⟩
    · obtain ⟨o', es, ep, e, hd', _⟩ := G.T.g
      rw [z, e] at b3
      injection b3 with b3
      rw [b3, b6] at hd'
      injection hd'
    · rw [z, hT] at b3
      injection b3 with b3
      rw [← b3] at b6
      injection b6
  have rv : Vals (ns.map V.int) vs := vals_ints hints
  have top : ns.length ≤ sizeLine := Nat.le_trans hlen hn2
  have naP : a ≠ P := fun z => by
    rw [z, hT] at hobj
    injection hobj with hobj
    have := congrArg Obj.data hobj
    injection this
  have plain := @settleT l w (K w.params) mg mb n N x nm qual st fa a c P fd s
  cases hk : (K w.params).lookup a with
  | some u =>
    have e := KX a u hk
    rw [hobj] at e
    injection e with e
    subst e
    refine plain (H := fun b => if b = P then some (.tbl #[]) else none) (ns := ns) (vs := vs) KX G.T.g G.T.b G.T.builtins G.T.nolimit hg hobj hlen hT nT C bmP F S hbi B (if_pos rfl) (fun b nb => .inl (if_neg nb)) (.inr ⟨_, vs.toArray, _, hk, rfl, rfl, rfl, ?_, ?_⟩) (fun b u z => ?_) (fun b z => ?_) (fun z => absurd (if_neg naP) z)
    · rw [List.size_toArray, hints.length]
      exact top
    · simpa using rv
    · by_cases hb : b = P
      · have y := (if_pos hb).symm.trans z
        injection y with y
        subst y
        subst hb
        exact hT
      · have y := (if_neg hb).symm.trans z
        injection y
    · by_cases hb : b = P
      · exact .inr hb
      · exact absurd (if_neg hb) z
  | none =>
    refine plain (H := fun b => if b = P then some (.tbl #[]) else scriptHp a vs ns b) (ns := ns) (vs := vs) KX G.T.g G.T.b G.T.builtins G.T.nolimit hg hobj hlen hT nT C bmP F S hbi B (if_pos rfl) (fun b nb => ?_) (.inl (.inr ⟨_, (if_neg naP).trans (if_pos rfl)⟩)) (fun b u z => ?_) (fun b z => ?_) (fun _ => hk)
    · by_cases eb : b = a
      · exact .inr ⟨_, _, (if_neg nb).trans (if_pos eb)⟩
      · exact .inl ((if_neg nb).trans (if_neg eb))
    · by_cases hb : b = P
      · have y := (if_pos hb).symm.trans z
        injection y with y
        subst y
        subst hb
        exact hT
      · have z1 := (if_neg hb).symm.trans z
        by_cases eb : b = a
        · have y := (if_pos eb).symm.trans z1
          injection y with y
          subst y
          subst eb
          exact ⟨hobj, by rw [List.length_map]; exact top, vs, _, rv, hobj⟩
        · have y := (if_neg eb).symm.trans z1
          injection y
    · by_cases hb : b = P
      · exact .inr hb
      · by_cases eb : b = a
        · exact .inl eb
        · exact absurd ((if_neg hb).trans (if_neg eb)) z
end My
namespace My
open PySem PySem.Spec PyProof.Rows L2
/-! ### a dict that remembers ints, its keys tuples of ints, texts and None -/
def lV : Leaf → V
  | .none => .non
  | .num i => .int i
  | .text z => .str z
theorem lV_is {P : Program} {w : World} {k : Leaf} {u : Value} (r : RelV (lV k) u) : (leafKind P w).is k u = true := by
  cases k with
  | none => obtain rfl : u = Value.none := r; rfl
  | num i => obtain ⟨t, rfl⟩ := (show ∃ t, u = Value.int i t from r); exact decide_eq_true rfl
  | text x =>
    obtain ⟨t, rfl⟩ := (show ∃ t, u = Value.str x t from r)
    show Value.isStrOf x (.str x t) = true
    simp [Value.isStrOf]
theorem leaves_are {P : Program} {w : World} : ∀ {ks : List Leaf} {us : List Value}, Vals (ks.map lV) us → ItemsAre (leafKind P w) ks us
  | [], _, r => by rw [List.map_nil] at r; cases r; exact .nil
  | k :: ks, _, r => by
    rw [List.map_cons] at r
    cases r with
    | cons h t => exact .cons (lV_is h) (leaves_are t)
theorem keyL_of {P : Program} {w : World} {H : Hp} {h : Heap} {b : Addr} {ks : List Leaf} (ok : HOk P w H h) (e : H b = some (.tup (ks.map lV))) : (tupleKind (leafKind P w)).is h ks b := by
  obtain ⟨_, its, r, o, h1, h2, n, h3⟩ := (show ObjOk P w H h b (.tup (ks.map lV)) from ok b _ e)
  exact ⟨o, its.toArray, n, h1, h2, h3, by simpa using leaves_are r⟩
/-- the dict at a by its own object: its entries -/
def MemO (P : Program) (w : World) (a : Addr) (xs : List (List Leaf × Addr × Value)) : HO := .ext fun h => ∃ o es ep, h.get? a = some o ∧ o.ExactDict ∧ o.data = .dict es ep ∧ es.toList = xs.map (entryOfKey (tupleKind (leafKind P w))) ∧ (xs.map (·.1)).Nodup
/-- what stands in it: R tells of each key's int; n entries at most -/
structure MemAt (P : Program) (w : World) (H : Hp) (a : Addr) (R : List Leaf → Int → Prop) (n : Nat) (xs : List (List Leaf × Addr × Value)) : Prop where
  ex : H a = some (MemO P w a xs)
  few : xs.length ≤ n
  key : ∀ x ∈ xs, H x.2.1 = some (.tup (x.1.map lV)) ∧ ∃ i t, x.2.2 = Value.int i t ∧ R x.1 i
  sys : (a == sysModules) = false
theorem MemAt.keep {P : Program} {w : World} {H H' : Hp} {a : Addr} {R : List Leaf → Int → Prop} {n : Nat} {xs : List (List Leaf × Addr × Value)} (M : MemAt P w H a R n xs) (k : ∀ q o, H q = some o → H' q = some o) : MemAt P w H' a R n xs :=
  ⟨k _ _ M.ex, M.few, fun x hx => ⟨k _ _ (M.key x hx).1, (M.key x hx).2⟩, M.sys⟩
theorem MemAt.more {P : Program} {w : World} {H : Hp} {a : Addr} {R : List Leaf → Int → Prop} {n m : Nat} {xs : List (List Leaf × Addr × Value)} (M : MemAt P w H a R n xs) (h : n ≤ m) : MemAt P w H a R m xs :=
  ⟨M.ex, Nat.le_trans M.few h, M.key, M.sys⟩
section
variable {X : Cx} {pins : List (Addr × Obj)} {σ : L2.St} {H : Hp} {s : Shared} {a : Addr} {R : List Leaf → Int → Prop} {n : Nat} {xs : List (List Leaf × Addr × Value)}
theorem mem_dict (I : Inv X pins σ H s) (M : MemAt X.prog X.w H a R n xs) : s.heap.DictOfH (tupleKind (leafKind X.prog X.w)) a xs := by
  obtain ⟨⟨o, es, ep, h1, h2, h3, h4, h5⟩, _, _⟩ := I.hok a _ M.ex
  exact ⟨o, es, ep, h1, h2, h3, h4, fun x hx => keyL_of I.hok (M.key x hx).1, h5⟩
theorem atKey_mem {K : Type} [DecidableEq K] : ∀ {xs : List (K × Addr × Value)} {k : K} {p : Addr × Value}, atKey xs k = some p → ∃ x ∈ xs, x.1 = k ∧ x.2 = p := by
  intro xs k p h
  unfold atKey at h
  obtain ⟨x, hx, e⟩ := Option.map_eq_some_iff.mp h
  have hm := List.mem_of_find?_eq_some hx
  have hp := List.find?_some hx
  exact ⟨x, hm, of_decide_eq_true hp, e⟩
def rMemNotIn (P : Program) (w : World) : R2 := fun x y H Q => ∃ (a b : Addr) (k : List Leaf) (R : List Leaf → Int → Prop) (n : Nat) (xs : List (List Leaf × Addr × Value)), x = .ref b ∧ y = .ref a ∧ H b = some (.tup (k.map lV)) ∧ MemAt P w H a R n xs ∧ Q (.bl (!(atKey xs k).isSome)) H
theorem op_memNotIn (hu : X.A.units + 1 < cLine) : OpR X (compareOp .NotIn) (rMemNotIn X.prog X.w) := by
  intro pins s σ H x y v u Q I rx ry h
  obtain ⟨a, b, k, R, n, xs, rfl, rfl, eb, M, q⟩ := h
  cases rx
  cases ry
  exact wpAny_notIn_heap (tupleKind_room_in1 hu) (keyL_of I.hok eb) M.sys (mem_dict I M) ⟨.bl (!(atKey xs k).isSome), H, I.tok _, rfl, q⟩
/-- d[key] of such a dict -/
def tMemGet (P : Program) (w : World) (td ty : TE) : TE := fun σ H Q => td σ H fun x H1 => ty σ H1 fun y H2 => ∃ (a b : Addr) (k : List Leaf) (R : List Leaf → Int → Prop) (n : Nat) (xs : List (List Leaf × Addr × Value)), x = .ref a ∧ y = .ref b ∧ H2 b = some (.tup (k.map lV)) ∧ MemAt P w H2 a R n xs ∧ (atKey xs k).isSome = true ∧
  ∀ i : Int, R k i → Q (.int i) H2
theorem pe_memget {o i : Expr} {td ty : TE} {pos : Pos} (hu : X.A.units + 1 < cLine) (ho : PE X o td) (hi : PE X i ty) (hs : NoSl i) : PE X (.Subscript o i pos) (tMemGet X.prog X.w td ty) := by
  refine ⟨fun pins s σ H Q I h => ?_⟩
  refine subD_of PySem.F.slot_dict_getitem.lookup hs (thn (ho.run pins s σ H _ I h) fun u s1 ⟨x, H1, I1, rx, q1⟩ => thn (hi.run pins s1 σ H1 _ I1 q1) fun iv s2 ⟨y, H2, I2, ry, a, b, k, R, n, xs, ex, ey, eb, M, sm, q2⟩ => ?_)
  subst ex ey
  obtain rfl : u = Value.ref a := rx
  obtain rfl : iv = Value.ref b := ry
  have dd := mem_dict I2 M
  obtain ⟨p, hp⟩ := Option.isSome_iff_exists.mp sm
  obtain ⟨x, hx, e1, e2⟩ := atKey_mem hp
  obtain ⟨_, i, t, e3, r⟩ := M.key x hx
  refine ⟨dd.typeIs, wpAny_getItem_heap (tupleKind_room_in1 hu) (keyL_of I2.hok eb) dd hp ⟨.int i, H2, I2.tok _, ?_, q2 i (e1 ▸ r)⟩⟩
  rw [← e2, e3]
  exact ⟨t, rfl⟩
/-- d[key] = i of such a dict, the key not yet in it -/
def rMemPut (P : Program) (w : World) : TSet := fun o y v H Q => ∃ (a b : Addr) (k : List Leaf) (R : List Leaf → Int → Prop) (n : Nat) (xs : List (List Leaf × Addr × Value)) (i : Int), o = .ref a ∧ y = .ref b ∧ v = .int i ∧ H b = some (.tup (k.map lV)) ∧ MemAt P w H a R n xs ∧ n < 1000000 ∧ R k i ∧
  ∀ (H' : Hp) (xs' : List (List Leaf × Addr × Value)), MemAt P w H' a R (n + 1) xs' → (∀ q u, q ≠ a → H q = some u → H' q = some u) → (atKey xs' k).isSome = true → Q H'
theorem atKey_put {K : Type} [DecidableEq K] (k : K) (v : Value) : ∀ {xs : List (K × Addr × Value)}, (atKey xs k).isSome = true → (atKey (xs.map (putAt k v)) k).isSome = true := by
  intro xs h
  obtain ⟨p, hp⟩ := Option.isSome_iff_exists.mp h
  obtain ⟨x, hx, e1, _⟩ := atKey_mem hp
  unfold atKey
  rw [Option.isSome_map, List.find?_isSome]
  refine ⟨putAt k v x, List.mem_map.mpr ⟨x, hx, rfl⟩, ?_⟩
  unfold putAt
  rw [if_pos e1]
  exact decide_eq_true e1
theorem set_mem (hu : X.A.units + 1 < cLine) : PSet X (rMemPut X.prog X.w) := by
  intro pins s σ H o y v ov iv u Q I ro ri rv h
  obtain ⟨a, b, k, R, n, xs, i, rfl, rfl, rfl, eb, M, hn, r, q⟩ := h
  cases ro
  cases ri
  obtain ⟨t, rfl⟩ := rv
  have dd := mem_dict I M
  have hz : xs.length ≤ sizeLine := by rw [sizeLine_eq]; have := M.few; omega
  refine wpAny_setItem_heap (hsz := hz) (tupleKind_room_in1 hu) (keyL_of I.hok eb) dd fun h' dd' hs => ?_
  obtain ⟨ob, es, ep, hq, h2, h3, h4, _, h5⟩ := dd'
  obtain ⟨_, _, _⟩ := I.hok a _ M.ex
  have new : ObjOk X.prog X.w (upd H a (MemO X.prog X.w a (storedH xs k b (.int i t)))) h' a (MemO X.prog X.w a (storedH xs k b (.int i t))) := by
    refine ⟨⟨ob, es, ep, hq, h2, h3, h4, h5⟩, ⟨ob, hq⟩, fun h1 h2' ⟨o1, es1, ep1, g1, g2⟩ kk => ⟨o1, es1, ep1, kk _ g1, g2⟩⟩
  have far : ∀ q u, q ≠ a → H q = some u → (upd H a (MemO X.prog X.w a (storedH xs k b (.int i t)))) q = some u := fun q u ne e => by rw [upd_ne ne]; exact e
  have tupNe : ∀ {c : Addr} {ys : List V}, H c = some (.tup ys) → c ≠ a := fun ec => ne_of ec M.ex (fun z => nomatch z)
  refine ⟨_, d_write I (by rw [M.ex]; exact True.intro) hs ⟨ob, hq⟩ new, ?_⟩
  by_cases there : (atKey xs k).isSome = true
  · obtain ⟨p, hp⟩ := Option.isSome_iff_exists.mp there
    have es' := storedH_old hp b (.int i t)
    refine q _ (xs.map (putAt k (.int i t))) ⟨by rw [← es']; exact upd_same, by rw [List.length_map]; have := M.few; omega, fun x hx => ?_, M.sys⟩ far (atKey_put k _ there)
    obtain ⟨x0, hx0, rfl⟩ := List.mem_map.mp hx
    obtain ⟨m1, i0, t0, m2, m3⟩ := M.key x0 hx0
    unfold putAt
    by_cases e : x0.1 = k
    · rw [if_pos e]
      exact ⟨far _ _ (tupNe m1) m1, i, t, rfl, e ▸ r⟩
    · rw [if_neg e]
      exact ⟨far _ _ (tupNe m1) m1, i0, t0, m2, m3⟩
  · have hno : atKey xs k = none := by
      cases e : atKey xs k with
      | none => rfl
      | some p => rw [e] at there; exact absurd rfl there
    have es' := storedH_new hno b (.int i t)
    refine q _ (xs ++ [(k, b, .int i t)]) ⟨by rw [← es']; exact upd_same, by rw [List.length_append, List.length_singleton]; have := M.few; omega, fun x hx => ?_, M.sys⟩ far ?_
    · rcases List.mem_append.mp hx with hx | hx
      · obtain ⟨m1, m2⟩ := M.key x hx
        exact ⟨far _ _ (tupNe m1) m1, m2⟩
      · obtain rfl := List.mem_singleton.mp hx
        exact ⟨far _ _ (tupNe eb) eb, i, t, rfl, r⟩
    · unfold atKey
      rw [Option.isSome_map, List.find?_isSome]
      exact ⟨(k, b, .int i t), List.mem_append_right _ (List.mem_singleton.mpr rfl), decide_eq_true rfl⟩
/-- {} as such a dict -/
def tMemNew (P : Program) (w : World) : TE := fun _ H Q => ∀ a, H a = none → (∀ R, MemAt P w (upd H a (MemO P w a [])) a R 0 []) → Q (.ref a) (upd H a (MemO P w a []))
theorem pe_memnew {pos : Pos} : PE X (.Dict [] [] pos) (tMemNew X.prog X.w) := ⟨fun pins s σ H Q I h => by
  have hb := I.big
  have hn := I.hok.fresh (Nat.le_refl s.heap.objs.size)
  have sys : (s.heap.objs.size == sysModules) = false := beq_eq_false_iff_ne.mpr (Ne.symm (Nat.ne_of_lt hb))
  have new : ObjOk X.prog X.w (upd H s.heap.objs.size (MemO X.prog X.w s.heap.objs.size [])) (s.heap.push { cls := .type "dict", data := .dict #[] }) s.heap.objs.size (MemO X.prog X.w s.heap.objs.size []) :=
    ⟨⟨_, #[], 0, Heap.get?_push_size _ rfl, ⟨rfl, rfl, rfl⟩, rfl, rfl, List.nodup_nil⟩, ⟨_, Heap.get?_push_size _ rfl⟩, fun h1 h2' ⟨o1, es1, ep1, g1, g2⟩ kk => ⟨o1, es1, ep1, kk _ g1, g2⟩⟩
  refine wpAny_Dict_empty ⟨.ref s.heap.objs.size, _, I.laid (a := s.heap.objs.size) (o := MemO X.prog X.w s.heap.objs.size []) (t' := s.toks) (fun _ _ q => Heap.get?_push_of_some _ q) (Nat.le_refl _) new, rfl, h _ hn fun R => ⟨upd_same, Nat.le_refl _, fun x hx => absurd hx List.not_mem_nil, sys⟩⟩⟩
end
end My
namespace My
open PySem PySem.Spec PyProof.Rows L2
/-- an exception of the class cls that was caught and is still held, its own dict at d -/
def KeptO (cls : Value) (d : Option Addr) (a : Addr) : HO := .ext fun h => ∃ oe vs, h.get? a = some oe ∧ Zc cls d oe ∧ oe.data = .fields vs
theorem kept_ok {P : Program} {w : World} {H : Hp} {h : Heap} {cls : Value} {d : Option Addr} {a : Addr} {oe : Obj} {vs : Array Value} (e : h.get? a = some oe) (z : Zc cls d oe) (f : oe.data = .fields vs) : ObjOk P w H h a (KeptO cls d a) :=
  ⟨⟨oe, vs, e, z, f⟩, ⟨oe, e⟩, fun _ _ ⟨o, v, q, r⟩ k => ⟨o, v, k o q, r⟩⟩
section
variable {X : Cx} {pins : List (Addr × Obj)} {σ : L2.St} {H : Hp} {s : Shared}
/-- an object of ours, made since the entry and not tracked so far, is tracked from now on -/
theorem track {a : Addr} {o : HO} (I : Inv X pins σ H s) (na : H a = none) (n0 : X.s_0.heap.get? a = none) (nL : a ≠ X.env.locals) (nC : ∀ x c, X.env.cells.lookup x = some c → c ≠ a) (nP : ∀ p ∈ X.pn ++ pins, p.1 ≠ a)
    (ok : ObjOk X.prog X.w (upd H a o) s.heap a o) : Inv X pins σ (upd H a o) s := by
  have far : ∀ {b : Addr} {u : HO}, H b = some u → b ≠ a := fun q z => by
    rw [z, na] at q
    cases q
  have up : ∀ {b : Addr} {u : HO}, H b = some u → (upd H a o) b = some u := fun q => by
    rw [upd_ne (far q)]
    exact q
  refine ⟨I.ok, I.os, I.bare, ⟨I.base.keep, I.base.slot, fun b u q n hx => ?_, I.base.there, fun b xs q => up (I.base.tups b xs q), fun b u xs q => up (I.base.frzs b u xs q), fun b ps q => ?_⟩, I.loc, I.cell, ?_, fun x c q => ?_, fun p hp => ?_, fun b u q => ?_, I.len⟩
  · have nb : b ≠ a := fun z => by
      rw [z, n0] at q
      cases q
    rw [upd_ne nb]
    exact I.base.free b u q n hx
  · obtain ⟨more, q1⟩ := I.base.tbls b ps q
    exact ⟨more, up q1⟩
  · rw [upd_ne (Ne.symm nL)]
    exact I.free
  · rw [upd_ne (nC x c q)]
    exact I.freeC x c q
  · obtain ⟨h1, h2, h3⟩ := I.pin p hp
    refine ⟨h1, ?_, h3⟩
    rw [upd_ne (nP p hp)]
    exact h2
  · by_cases hb : b = a
    · subst hb
      rw [upd_same] at q
      injection q with q
      subst q
      exact ok
    · rw [upd_ne hb] at q
      exact (I.hok b u q).stay (fun _ _ _ r => r) (fun _ r => up r) fun _ _ r => up r
end
/-- what `except x as n: suite` wishes of an exception of the body: slot i is n's; behind the suite the exception is held -/
def wKeep (K : PySem.W.Frag) (c : Value) (i : Nat) (ts : Addr → Value → Option Addr → TS) (D : Ends) : WX := fun cls d σ H =>
  PySem.W.exmOne K cls c = some true ∧ ∀ a, H a = none → ts a cls d { nx := fun σ' H' => D.nx (σ'.set i none) (upd H' a (KeptO cls d a)), rt := fun _ _ => False, bk := fun _ _ => False, ct := fun _ _ => False } (σ.set i (some (.ref a))) H
section
variable {X : Cx} {x n : Str} {c : Value} {i : Nat} {body suite : List Stmt} {b₀ : Stmt} {np pos pos' : Pos} {tb : WX → TS} {ts : Addr → Value → Option Addr → TS}
theorem ps_try_keep (hex : X.ex = []) (hs : X.stack = X.env :: X.outer) (hf : X.env.frame = some X.env.locals) (hN : X.N.Nodup) (hi : X.N[i]? = some n) (hln : X.env.kindOf n = some .local) (hc : Names X x c)
    (hb : ∀ (W : WX) (pn : List (Addr × Obj)) (xe : Value → Shared → Prop), Takes (X.tr pn xe) W → PassesOwn (model X.prog X.w) X.A X.env xe → PSs (X.tr pn xe) body (tb W))
    (hsu : ∀ (a : Addr) (oe : Obj) (cls : Value) (d : Option Addr) (pn : List (Addr × Obj)), Zc cls d oe → (∃ vs, oe.data = .fields vs) → PSs (X.suite a ((a, oe) :: pn)) (b₀ :: suite) (ts a cls d)) :
    PS X (.Try body [.ExceptHandler (some (.Name x np)) (some n) (b₀ :: suite) pos'] [] [] pos) (fun D σ H => tb (wKeep X.K c i ts D) D σ H) := by
  constructor
  intro pins s σ H D I h
  have ok := I.ok
  have hfr : X.A.frames = some (X.env :: X.outer) := by rw [ok.frames, hs]
  -- what the body's exceptions are told to
  have caught : Takes (X.tr (X.pn ++ pins) fun e s₁ => wpAny (model X.prog X.w) X.A (noteFrame e X.env) (fun _ s₂ => wpAny (model X.prog X.w) X.A (setFlight e none) (fun _ s₃ =>
      wpAny (model X.prog X.w) X.A (handleBy e X.env [.ExceptHandler (some (.Name x np)) (some n) (b₀ :: suite) pos']) (SP X pins D) X.xe s₃) X.xe s₂) X.xe s₁) (wKeep X.K c i ts D) := by
    intro u s' xx
    obtain ⟨a, B, sI, pins', σ', H', cls, d, rfl, J', nb, up, sky, na, os, ag, hm, go⟩ := xx
    have J : Inv X pins σ' H' sI := J'.ofTry ok
    rw [show (X.tr (X.pn ++ pins) _).stack = X.env :: X.outer from hs] at sky
    show wpAny (model X.prog X.w) X.A (noteFrame (.ref a) X.env) _ _ _
    refine Sky.land Zc.steady hfr hf sky fun h3 fl3 up3 => ?_
    have none_B : B.get? a = none := fl3.2.1
    obtain ⟨oe3, vs3, he3, hz3, hd3⟩ := fl3.there
    have J3 : Inv X pins σ' H' { s' with heap := h3 } := J.landed nb fl3.1 (up.trans up3) os ag
    have out : a ∉ frs (X.env :: X.outer) := by
      intro z
      obtain ⟨_, o, e1, e2⟩ := (fl3.2.2.1).mem z
      have e3 := he3.symm.trans e1
      injection e3 with e3
      exact e2 vs3 (e3 ▸ hd3)
    have nL : a ≠ X.env.locals := fun z => out (List.mem_filterMap.mpr ⟨X.env, List.mem_cons_self, by rw [hf, z]⟩)
    have nF : a ∉ X.fs := fun z => by
      obtain ⟨e, he, e1⟩ := List.mem_filterMap.mp z
      exact out (List.mem_filterMap.mpr ⟨e, List.mem_cons_of_mem _ he, e1⟩)
    have notI : ∀ o, sI.heap.get? a ≠ some o := fun o z => by
      have e1 := nb a o z (by rw [hs]; exact out)
      rw [none_B] at e1
      cases e1
    have n0 : X.s_0.heap.get? a = none := by
      cases z : X.s_0.heap.get? a with
      | none => rfl
      | some o =>
        obtain ⟨o', e1⟩ := J.base.there a o z (by rw [hex]; exact List.not_mem_nil)
        exact absurd e1 (notI o')
    have nP : ∀ p ∈ X.pn ++ pins, p.1 ≠ a := fun p hp z => notI p.2 (z ▸ (J.pin p hp).1)
    have nC : ∀ v cc, X.env.cells.lookup v = some cc → cc ≠ a := fun v cc q z => by
      obtain ⟨_, o, e1, e2⟩ := J3.cell v cc q
      have e3 : h3.get? cc = some o := e1
      rw [z, he3] at e3
      injection e3 with e3
      rw [← e3, hd3] at e2
      cases e2
    have S3 := J3.suite he3 hd3 na nL nF
    refine wpAny_handleBy_cons (codeAny_handlers_test ?_) (by intro q; cases q)
    have kind : PySem.W.Looks (model X.prog X.w) h3 (typeOf (.ref a)) cls := fun A Q E s k q => wpAny_typeOf_ref (k _ _ he3) (by rw [hz3.1]; exact q)
    have fits := PySem.W.exm_one (M := model X.prog X.w) J3.kIn kind hm
    have named : ∀ {Q : Value → Shared → Prop} {E : Value → Shared → Prop}, Q c { s' with heap := h3 } → wpAny (model X.prog X.w) (X.A.mark (some (.ref a))) (eval (.Name x np) X.env) Q E { s' with heap := h3 } := by
      intro Q E q
      obtain ⟨g, db, hx | ⟨hx, hv, hnn⟩⟩ := hc
      · exact ld_glob (X := X.suite a ((a, oe3) :: (X.pn ++ pins))) S3 g hx q db
      · exact ld_blt (X := X.suite a ((a, oe3) :: (X.pn ++ pins))) S3 g hx hv q hnn db
    refine named (fits.here (codeAny_handlers_suite_as (HandSPX.lands_againZ fl3 fun h4 fl4 up4 => ?_)))
    obtain ⟨oe4, vs4, he4, hz4, hd4⟩ := fl4.there
    have J4 : Inv X pins σ' H' { s' with heap := h4 } := J.landed nb fl4.1 ((up.trans up3).trans up4) os ag
    have S4 := J4.suite he4 hd4 na nL nF
    refine store_ok (X := X.suite a ((a, oe4) :: (X.pn ++ pins))) (v := .ref a) S4 hN hi (.inl hln) rfl (fun s5 S5 => ?_) (.inr hln)
    refine wpAny_mono ((hsu a oe4 cls d (X.pn ++ pins) hz4 ⟨_, hd4⟩).run [] s5 _ H' _ S5 (go a na)) (fun f s6 q => ?_) fun _ _ z => z.elim
    cases f with
    | brk => exact (let ⟨_, _, _, q⟩ := q; q).elim
    | cont => exact (let ⟨_, _, _, q⟩ := q; q).elim
    | ret u => exact (let ⟨_, _, _, _, _, q⟩ := q; q).elim
    | next =>
      obtain ⟨σ6, H6, S6, q6⟩ := q
      refine gone_ok (X := X.suite a ((a, oe4) :: (X.pn ++ pins))) S6 hN hi hln fun s7 S7 => ?_
      obtain ⟨e7, n7, _⟩ := S7.pin (a, oe4) (List.mem_append_left _ List.mem_cons_self)
      exact ⟨_, _, track (S7.unsuite ok) n7 n0 nL nC nP (kept_ok e7 hz4 hd4), q6⟩
  refine wpAny_Try_except (wpAny_mono ((hb (wKeep X.K c i ts D) (X.pn ++ pins) _ caught PassesOwn.looking).run [] s σ H D (I.toTry _) h) (fun f s1 q => ?_) fun e s1 q => q)
  cases f with
  | next => exact (let ⟨σ', H', J, q⟩ := q; wpAny_execs_nil ⟨σ', H', J.ofTry ok, q⟩)
  | brk => exact (let ⟨σ', H', J, q⟩ := q; ⟨σ', H', J.ofTry ok, q⟩)
  | cont => exact (let ⟨σ', H', J, q⟩ := q; ⟨σ', H', J.ofTry ok, q⟩)
  | ret u => exact (let ⟨v, σ', H', J, r, q⟩ := q; ⟨v, σ', H', J.ofTry ok, r, q⟩)
end
end My
namespace My
open PySem PySem.Spec PyProof.Rows L2
section
variable {X : Cx} {pins : List (Addr × Obj)} {σ : L2.St} {H : Hp} {s : Shared} {a C : Addr} {d : Option Addr}
/-- the held exception as the library's rules for instances want it; its own dict, if it has one, is tracked -/
theorem held_inst (I : Inv X pins σ H s) (h : H a = some (KeptO (.ref C) d a)) (hd : ∀ dd, d = some dd → ∃ fs, H dd = some (.xd fs)) : ∃ oe od, PySem.W.InstAt s.heap a oe C od := by
  obtain ⟨⟨oe, vs, e, z, f⟩, _, _⟩ := I.hok a _ h
  have plain : PySem.W.notCls oe = true := by
    unfold PySem.W.notCls
    rw [f] <;> rfl
  cases d with
  | none => exact ⟨oe, none, e, z.1, plain, by rw [z.2]; trivial⟩
  | some dd =>
    obtain ⟨fs, hx⟩ := hd dd rfl
    obtain ⟨mA, ns, _⟩ := (show ObjOk X.prog X.w H s.heap dd (.xd fs) from I.hok dd _ hx)
    obtain ⟨od, ho, _⟩ := lookIn_ns ns
    exact ⟨oe, some od, e, z.1, plain, by rw [z.2]; exact ho⟩
/-- isinstance(e, c), e an exception that is held, c an own class or a built-in one -/
def rHeldIs (K : PySem.W.Frag) : List V → Hp → VK → Prop := fun xs H Q => ∃ (a D : Addr) (d : Option Addr) (c : V) (u : Value) (b : Bool), xs = [.ref a, c] ∧ ClsV c u ∧ H a = some (KeptO (.ref D) d a) ∧ (∀ dd, d = some dd → ∃ fs, H dd = some (.xd fs)) ∧
  ExcC K D ∧ PySem.W.kitOne K (.ref D) u = some b ∧ Q (.bl b) H
theorem call_heldIs : CallR X (.builtin "isinstance") (rHeldIs X.K) := by
  intro pins s σ H xs us Q I r h
  obtain ⟨a, D, d, c, u, b, rfl, k, ha, hd, T, e, q⟩ := h
  obtain ⟨u1, u2, rfl, r1, r2⟩ := vals2 r
  cases r1
  have e2 := k.eq r2
  subst e2
  obtain ⟨oe, od, J⟩ := held_inst I ha hd
  have cls : (PySem.W.clsIn X.K D).isSome = true := by
    obtain ⟨cd, hc, _⟩ := PySem.W.any_some T.hd
    rw [hc] <;> rfl
  exact PySem.W.kia_one (PySem.W.kitx_exc cls T.hg T.hk T.hs T.ha T.hn T.ht T.hm) I.kIn J e (fun z => nomatch z) fun tk => ⟨.bl b, H, I.tok tk, rfl, q⟩
/-- e.f of a held exception -/
def tHeldF (K : PySem.W.Frag) (f : Str) (te : TE) : TE := fun σ H Q => te σ H fun x H1 => ∃ (a C dd : Addr) (fs : List (Str × V)) (v : V), x = .ref a ∧ H1 a = some (KeptO (.ref C) (some dd) a) ∧ H1 dd = some (.xd fs) ∧ XfC K C ∧ PySem.W.findIn K (.ref C) f = some none ∧ fs.lookup f = some v ∧ Q v H1
theorem pe_heldF {te : TE} {n : Str} {e : Expr} {pos : Pos} (he : PE X e te) (hb : attributeBase e n X.env (eval e X.env) = eval e X.env := by rfl) : PE X (.Attribute e n pos) (tHeldF X.K n te) := by
  constructor
  intro pins s σ H Q I h
  refine attr_of hb (thn (he.run pins s σ H _ I h) ?_)
  intro u s1 hu
  obtain ⟨x, H1, I1, rx, a, C, dd, fs, v, ex, ea, ed, T, hno, l, q⟩ := hu
  subst ex
  obtain rfl : u = Value.ref a := rx
  obtain ⟨⟨oe, vs, e1, z, f1⟩, _, _⟩ := I1.hok a _ ea
  obtain ⟨mA, ns, rel⟩ := (show ObjOk X.prog X.w H1 s1.heap dd (.xd fs) from I1.hok dd _ ed)
  obtain ⟨od, ho, hl⟩ := lookIn_ns ns
  obtain ⟨w, hw, rw'⟩ := RelO.some_of (v := v) (o := mA n) (by rw [← l]; exact rel n)
  have plain : PySem.W.notCls oe = true := by
    unfold PySem.W.notCls
    rw [f1] <;> rfl
  have J : PySem.W.InstAt s1.heap a oe C (some od) := ⟨e1, z.1, plain, by rw [z.2]; exact ho⟩
  exact HandSPX.exc_get I1.kIn J T.ga T.gg T.exC (PySem.W.findObj_own T.hdC hno rfl (by rw [hl, hw])) (handed_of rw') ⟨v, H1, I1.tok _, rw', q⟩
end
end My
namespace My
open PySem PySem.Spec PyProof.Rows L2
/-- a def's promise where it is known that no repr is under way -/
structure FnG (P : Program) (w : World) (K : PySem.W.Frag) (mg : Str → Option Value) (base : Heap) (CX : CXT) (k : Nat) (f : Addr) (fd : FuncData) (ps : List Str) (sp : Sp) : Prop where
  len : ∀ vs H Q E, sp vs H Q E → vs.length = ps.length
  run : ∀ (A : Around) (outer : List Env) (s : Shared) (H : Hp) (args : Args) (us : List Value) (vs : List V) (Q : VK) (E : XK), Room k A → A.guards = some [] → Env0 P w K mg base A outer s H → BindsTo s fd args (ps.zip us) → Vals vs us → sp vs H Q E →
    codeAny (model P w) A (.call (.ref f) args) (CR CX outer P w H s Q E) s
theorem toG {P : Program} {w : World} {K : PySem.W.Frag} {mg : Str → Option Value} {base : Heap} {CX : CXT} {k : Nat} {f : Addr} {fd : FuncData} {ps : List Str} {sp : Sp} (F : FnOk P w K mg base CX k f fd ps sp) : FnG P w K mg base CX k f fd ps sp :=
  ⟨F.len, fun A outer s H args us vs Q E r _ => F.run A outer s H args us vs Q E r⟩
section
variable {P : Program} {w : World} {K : PySem.W.Frag} {mg : Str → Option Value} {base : Heap}
/-- a def by its body, the guards known -/
theorem okG {CX : CXT} {x qual : Str} {st : Stmt} {f : Addr} {fd : FuncData} {N ps : List Str} {k : Nat} {sp : Sp} (F : Fun K x qual st f fd) (S : FnScope N ps (defScope st)) (len : ∀ vs H Q E, sp vs H Q E → vs.length = ps.length)
    (body : ∀ (cdv : Value) (A : Around) (outer : List Env) (s : Shared) (H : Hp) (vs : List V) (Q : VK) (E : XK), Room k (A.deeper (envOfC qual (defScope st) s.heap.objs.size f cdv)) → (A.deeper (envOfC qual (defScope st) s.heap.objs.size f cdv)).guards = some [] → sp vs H Q E →
      ∃ t, PSs (cxOf CX P w K mg base N qual (defScope st) f cdv A outer s H E) (defBody st) t ∧ t { nx := fun _ H' => Q .non H', rt := Q } (start N vs) H) : FnG P w K mg base CX (k + 1) f fd ps sp := by
  obtain ⟨oc, od, kV, doc, pm, an, cdv, ct, osl, rfl, lk, hcd⟩ := F.ex
  refine ⟨len, ?_⟩
  intro A outer s H args us vs Q E room guard e0 bind rel prom
  have stays : ∀ b o, base.get? b = some o → s.heap.get? b = some o := fun b o z => (e0.bs b o z).1
  have KS : K.In s.heap := e0.mod.kin.keeps stays
  have many := len _ _ _ _ prom
  have kinds : ∀ y ∈ ps.zip us, (defScope st).names.lookup y.1 = some .local ∨ ((defScope st).names.lookup y.1 = some .cell ∧ ((cellsFrom (s.heap.objs.size + 1) (defScope st).names []).lookup y.1).isSome = true) := by
    intro y hy
    cases S.par y.1 (List.of_mem_zip hy).1 with
    | inl q => exact .inl q
    | inr q => exact .inr ⟨q, PySem.W.cellsFrom_some _ _ _ (.inl q)⟩
  refine codeAny_call_function room.depth (KS _ _ lk) rfl S.co S.gen rfl (PySem.W.codeRec_of KS hcd) (bind _ _ _ _ ?_)
  refine wpAny_newFunctionEnv_cells S.kind kinds fun env he s2 ic => ?_
  subst he
  refine ⟨(e0.mod.nolimit.keeps stays).keeps ic.toInCall.keep, codeAny_func ?_⟩
  have guard' : (A.deeper (envOfC qual (defScope st) s.heap.objs.size f cdv)).guards = some [] := by
    obtain ⟨a1, a2, a3, a4, a5⟩ := A
    first | exact guard | simpa [Around.deeper, Code.guards, Code.isGuard, pushGuards, guardIds] using guard
  obtain ⟨t, ht, hq⟩ := body cdv A outer s H vs Q E (room.deeper _) guard' prom
  refine wpAny_mono (ht.run [] s2 (start N vs) H _ (inv_start S room.hd e0 many rel ic) hq) (fun fl s' hs => ?_) fun e s' hs => hs
  cases fl with
  | ret u => exact (let ⟨v, _, H', J, rv, q⟩ := hs; ⟨v, H', J.os, J.bare, J.base, J.hok, rv, q⟩)
  | next => exact (let ⟨_, H', J, q⟩ := hs; ⟨.non, H', J.os, J.bare, J.base, J.hok, rfl, q⟩)
  | brk => exact (let ⟨_, _, _, q⟩ := hs; q).elim
  | cont => exact (let ⟨_, _, _, q⟩ := hs; q).elim
end
section
variable {X : Cx} {CX : CXT} {k : Nat} {f : Addr} {fd : FuncData} {ps : List Str} {ds : List Value} {dvs : List V} {sp : Sp} {E : XK} {x : Str} {p pos : Pos} {e : Expr} {es : List Expr} {t : TA}
theorem runG {pins : List (Addr × Obj)} {σ : L2.St} {H : Hp} {s : Shared} {Q : VK} {us : List Value} {vs : List V} (F : FnG X.prog X.w X.K X.mg X.base CX k f fd ps sp) (hr : Room k X.A) (hg : X.A.guards = some []) (hb : Binds X.K fd ps ds) (hd : Vals dvs ds) (hx : Passes CX X E)
    (I : Inv X pins σ H s) (r : Vals vs us) (h : sp (vs ++ dvs) H Q E) : wpAny (model X.prog X.w) X.A (call (.ref f) us) (EP X pins σ Q) X.xe s := by
  have rel : Vals (vs ++ dvs) (us ++ ds) := r.append hd
  have many : (us ++ ds).length = ps.length := rel.length ▸ F.len _ _ _ _ h
  refine wpAny_call (codeAny_mono (F.run X.A X.stack s H ⟨us, []⟩ (us ++ ds) (vs ++ dvs) Q E hr hg I.env0 (hb s us I.kIn many) rel h) ?_)
  intro r s' hq
  match r, hq with
  | .error e, hq => exact hx pins σ H s e s' I hq
  | .ok (.ret u), hq => exact I.after hq
/-- f(e, ..) where it is known that no repr is under way -/
theorem pe_callG (F : FnG X.prog X.w X.K X.mg X.base CX k f fd ps sp) (hr : Room k X.A) (hgu : X.A.guards = some []) (hg : Gl X x) (hm : X.mg x = some (.ref f)) (hk : PySem.W.keepIn X.K (.ref f) = true) (hb : Binds X.K fd ps ds) (hd : Vals dvs ds) (hx : Passes CX X E)
    (ha : PA X (e :: es) t) (hdb : (x == ("__debug__" : Str)) = false := by decide) (he : starEach (e :: es) X.env = (false, eval e X.env) :: starEach es X.env := by rfl) (hpl : (backTo pos (starEach es X.env)).any (·.1) = false := by rfl) :
    PE X (.Call (.Name x p) (e :: es) [] pos) (tCall sp dvs E t) := by
  constructor
  intro pins s σ H Q I h
  refine wpAny_Call_Name_kw (ld_glob I hg hm (PySem.W.callWith_K (h₀ := X.base) I.ok.mod.kin hk (thn (ha.run pos pins s σ H _ I h) ?_) he hpl) hdb)
  intro us s1 hu
  obtain ⟨vs, H1, I1, r, q⟩ := hu
  exact ⟨I1.kIn, runG F hr hgu hb hd hx I1 r q⟩
/-- x == y where x is of an own class with an own __eq__ that answers True or False, y anything that is not of a class below x's -/
def rEqOwn (K : PySem.W.Frag) (C : Addr) (sp : Sp) (E : XK) : R2 := fun x y H Q => ∃ (a dx : Addr) (fs : List (Str × V)) (t : Value), x = .ref a ∧ H a = some (.ins C dx fs) ∧ TyX K H y t ∧ PySem.W.notFirst K C t = true ∧ sp [x, y] H (fun v H' => ∃ b, v = .bl b ∧ Q (.bl b) H') E
theorem op_eqOwn {C : Addr} (F : FnG X.prog X.w X.K X.mg X.base CX k f fd ps sp) (hr : Room k X.A) (hgu : X.A.guards = some []) (hs : PySem.W.findIn X.K (.ref C) "__eq__" = some (some (.ref f))) (hf : PySem.W.isFn X.K (.ref f) = true) (hb : Binds X.K fd ps []) (hx : Passes CX X E) :
    OpR X (compareOp .Eq) (rEqOwn X.K C sp E) := by
  intro pins s σ H x y v u Q I rx ry h
  obtain ⟨a, dx, fs, t, rfl, ha, ty, nf, q⟩ := h
  cases rx
  obtain ⟨mA, J, _⟩ := ins_get I.hok ha
  obtain ⟨od, J, _⟩ := J.look
  obtain ⟨m, hF⟩ := I.fr
  obtain ⟨Pp, Z, pz, _⟩ := kit_of I ry ty
  show wpAny (model X.prog X.w) X.A (richCompare .Eq (.ref a) u) (EP X pins σ Q) X.xe s
  refine PySem.W.cmp_K (op := .Eq) (tb := t) hr.units0 hF I.ok.mod.kin J (Z.ty _ _ I.kIn pz) nf hs hf ?_
  refine wpAny_mono (runG (vs := [.ref a, y]) (us := [.ref a, u]) (dvs := []) (ds := []) F hr hgu hb .nil hx I (.cons rfl (.cons ry .nil)) q) (fun r s' z => ?_) fun _ _ z => z
  obtain ⟨w1, H1, I1, r1, b, rfl, q1⟩ := z
  cases r1
  exact ⟨.bl b, H1, I1, rfl, q1⟩
end
end My
namespace My
open PySem PySem.Spec PyProof.Rows L2
section
variable {X : Cx} {CX : CXT} {k : Nat} {f : Addr} {fd : FuncData} {ps : List Str} {sp : Sp} {E : XK}
/-- a def called from within a built-in -/
theorem runAt {A : Around} {pins : List (Addr × Obj)} {σ : L2.St} {H : Hp} {s : Shared} {Q : VK} {us : List Value} {vs : List V} (F : FnG X.prog X.w X.K X.mg X.base CX k f fd ps sp) (hr : Room k A) (hg : A.guards = some []) (fr : A.frames = X.A.frames) (hb : Binds X.K fd ps []) (hx : Passes CX X E)
    (I : Inv X pins σ H s) (r : Vals vs us) (h : sp vs H Q E) : wpAny (model X.prog X.w) A (call (.ref f) us) (EP X pins σ Q) X.xe s := by
  have many : us.length = ps.length := r.length ▸ F.len _ _ _ _ h
  have e0 : Env0 X.prog X.w X.K X.mg X.base A X.stack s H := by
    obtain ⟨h1, h2, h3, h4, h5, h6, h7, h8⟩ := I.env0
    exact ⟨fr.trans h1, h2, h3, h4, h5, h6, h7, h8⟩
  have bind := hb s us I.kIn (by simpa using many)
  rw [List.append_nil] at bind
  refine wpAny_call (codeAny_mono (F.run A X.stack s H ⟨us, []⟩ us vs Q E hr hg e0 bind r h) ?_)
  intro r s' hq
  match r, hq with
  | .error e, hq => exact hx pins σ H s e s' I hq
  | .ok (.ret u), hq => exact I.after hq
/-- x != y where x is of an own class with an own __eq__ that answers True or False and without an own __ne__ -/
theorem op_neOwn {C : Addr} (F : FnG X.prog X.w X.K X.mg X.base CX k f fd ps sp) (hr : Room (k + 1) X.A) (hgu : X.A.guards = some []) (hs : PySem.W.findIn X.K (.ref C) "__eq__" = some (some (.ref f))) (hf : PySem.W.isFn X.K (.ref f) = true)
    (hn : PySem.W.findIn X.K (.ref C) "__ne__" = some (some (.builtin "object.__ne__"))) (hm : PySem.W.mroIn X.K C (.type "object") = some true) (hb : Binds X.K fd ps []) (hx : Passes CX X E) :
    OpR X (compareOp .NotEq) (fun x y H Q => rEqOwn X.K C sp E x y H fun v H' => ∃ b, v = .bl b ∧ Q (.bl (!b)) H') := by
  intro pins s σ H x y v u Q I rx ry h
  obtain ⟨a, dx, fs, t, rfl, ha, ty, nf, q⟩ := h
  cases rx
  obtain ⟨mA, J, _⟩ := ins_get I.hok ha
  obtain ⟨od, J, _⟩ := J.look
  obtain ⟨Pp, Z, pz, _⟩ := kit_of I ry ty
  have KS := I.kIn
  have own : wpAny (model X.prog X.w) X.A.in1 (callSpecialIfBound? (.ref a) "__eq__" [u]) (fun r s' => ∃ b, r = some (.bool b) ∧ EP X pins σ Q (.bool (!b)) s') X.xe s := by
    refine PySem.W.ifBound_K KS J hs hf (wpAny_mono (runAt (vs := [.ref a, y]) (us := [.ref a, u]) F hr.in1 hgu rfl hb hx I (.cons rfl (.cons ry .nil)) q) (fun r s' z => ?_) fun _ _ z => z)
    obtain ⟨w1, H1, I1, r1, b, rfl, b', e, q1⟩ := z
    cases r1
    cases e
    exact ⟨b, rfl, .bl (!b), H1, I1, rfl, q1⟩
  have entry : wpAny (model X.prog X.w) X.A.in1 (Builtin.«object.__ne__» ⟨[.ref a, u], []⟩) (fun r s' => ∃ b, r = .done (.ret (.bool (!b))) ∧ EP X pins σ Q (.bool (!b)) s') X.xe s := by
    unfold Builtin.«object.__ne__»
    refine wpAny_bind (wpAny_of_eq (a := ((Value.ref a : Value), [u])) (by first | rfl | (simp only [slotArgs]; rfl)) ?_)
    refine wpAny_bind (wpAny_cRoomFor hr.in1.units0 (wpAny_bind (wpAny_mono own (fun r s' z => ?_) fun _ _ z => z)))
    obtain ⟨b, rfl, ep⟩ := z
    exact wpAny_bind (wpAny_truthy_bool (wpAny_pure ⟨b, rfl, ep⟩))
  have slot : wpAny (model X.prog X.w) X.A (call (.builtin "object.__ne__") [.ref a, u]) (fun v s' => ∃ b, v = .bool b ∧ EP X pins σ Q (.bool b) s') X.xe s := by
    refine wpAny_call (codeAny_call_builtin PySem.F.cmp_object.ne.plain PySem.F.cmpEntry_ne (PySem.W.check_slot PySem.F.cmpKind_ne PySem.F.cmpSplit_ne (J.type.andThen (PySem.W.looks_mroIn KS hm)) (PySem.F.cmpArgs_ne _ _) (wpAny_mono entry (fun r s' z => ?_) fun _ _ z => z)))
    obtain ⟨b, rfl, ep⟩ := z
    exact ⟨!b, rfl, ep⟩
  have one : wpAny (model X.prog X.w) X.A (tryCompare (.ref a) "__ne__" u) (fun r s' => ∃ b, r = some (.bool b) ∧ EP X pins σ Q (.bool b) s') X.xe s := by
    unfold tryCompare
    have asked : wpAny (model X.prog X.w) X.A (callSpecialIfBound? (.ref a) "__ne__" [u]) (fun r s' => ∃ b, r = some (.bool b) ∧ EP X pins σ Q (.bool b) s') X.xe s := by
      have last : wpAny (model X.prog X.w) X.A (call (.builtin "object.__ne__") ([.ref a] ++ [u]) >>= fun v => pure (some v)) (fun r s' => ∃ b, r = some (.bool b) ∧ EP X pins σ Q (.bool b) s') X.xe s :=
        wpAny_bind (wpAny_mono slot (fun v s' z => wpAny_pure (let ⟨b, e, ep⟩ := z; ⟨b, congrArg some e, ep⟩)) fun _ _ z => z)
      unfold callSpecialIfBound? bindSpecialIfBound?
      refine wpAny_holding (wpAny_bind (wpAny_bind (wpAny_bind (J.type.here ((PySem.W.looks_findIn KS hn).here (wpAny_bind (wpAny_askSetting (wpAny_ite ?_))))))))
      split
      · exact wpAny_bind (wpAny_of_eq (PySem.F.cmp_object.ne.bind _) (wpAny_pure last))
      · exact wpAny_tryCatch (wpAny_bind (wpAny_of_eq (PySem.F.cmp_object.ne.bind _) (wpAny_pure last)))
    refine wpAny_bind (wpAny_mono asked (fun r s' z => ?_) fun _ _ z => z)
    obtain ⟨b, rfl, ep⟩ := z
    exact wpAny_pure ⟨b, rfl, ep⟩
  show wpAny (model X.prog X.w) X.A (richCompare .NotEq (.ref a) u) (EP X pins σ Q) X.xe s
  unfold richCompare
  simp only [oneThing_ref]
  refine wpAny_holding (wpAny_bind (wpAny_cRoomFor hr.units0 (wpAny_bind (J.type.here (wpAny_bind ((Z.ty _ _ KS pz).here ?_))))))
  have fin : ∀ (rest : Option Value → Sem Value), (∀ b, rest (some (.bool b)) = pure (.bool b)) → wpAny (model X.prog X.w) X.A (tryCompare (.ref a) (cmpInfo CmpOp.NotEq).2.1 u >>= rest) (EP X pins σ Q) X.xe s := fun rest hrest => by
    refine wpAny_bind (wpAny_mono one (fun r s' z => ?_) fun _ _ z => z)
    obtain ⟨b, rfl, ep⟩ := z
    rw [hrest]
    exact wpAny_pure ep
  unfold PySem.W.notFirst at nf
  split
  · rename_i ne
    have sub : PySem.W.subIn X.K t (.ref C) = some false := by
      cases e : (t == Value.ref C) with
      | true =>
        rw [eq_of_beq e] at ne
        simp at ne
      | false =>
        rw [e, Bool.false_or] at nf
        exact eq_of_beq nf
    refine wpAny_bind ((PySem.W.looks_subIn KS sub).here ?_)
    simp only [Bool.false_eq_true, if_false]
    exact fin _ fun b => rfl
  · refine wpAny_bind (wpAny_pure ?_)
    simp only [Bool.false_eq_true, if_false]
    exact fin _ fun b => rfl
end
end My
namespace My
open PySem PySem.Spec PyProof.Rows L2
section
variable {X : Cx} {CX : CXT} {k : Nat} {f : Addr} {fd : FuncData} {ps : List Str} {sp : Sp} {E : XK}
/-- str(x), x of an own class with an own __str__ -/
theorem call_strOwn {C : Addr} (F : FnG X.prog X.w X.K X.mg X.base CX k f fd ps sp) (hr : Room (k + 2) X.A) (hgu : X.A.guards = some []) (hs : PySem.W.findIn X.K (.ref C) "__str__" = some (some (.ref f))) (hf : PySem.W.isFn X.K (.ref f) = true) (hb : Binds X.K fd ps []) (hx : Passes CX X E) :
    CallR X (.type "str") (fun xs H Q => ∃ (a dx : Addr) (fs : List (Str × V)), xs = [.ref a] ∧ H a = some (.ins C dx fs) ∧ sp [.ref a] H (fun v H' => ∃ z : Str, v = .str z ∧ Q (.str z) H') E) := by
  intro pins s σ H xs us Q I r h
  obtain ⟨a, dx, fs, rfl, ha, q⟩ := h
  obtain ⟨u, rfl, ru⟩ := vals1 r
  cases ru
  obtain ⟨mA, J, _⟩ := ins_get I.hok ha
  obtain ⟨od, J, _⟩ := J.look
  refine PySem.W.kso_call (Room.units0 (hr.in1.in1)) I.kIn J hs hf (wpAny_mono (runAt (vs := [.ref a]) (us := [.ref a]) F hr.in1.in1 hgu rfl hb hx I (.cons rfl .nil) q) (fun r s' z => ?_) fun _ _ z => z)
  obtain ⟨w1, H1, I1, r1, y, rfl, q1⟩ := z
  obtain ⟨t, rfl⟩ := r1
  exact ⟨.str y, H1, I1, ⟨t, rfl⟩, q1⟩
end
/-- a value without parts, and what it is -/
inductive Fl : V → PyData → Prop
  | non : Fl .non .none
  | bl (b : Bool) : Fl (.bl b) (.bool b)
  | int (i : Int) : Fl (.int i) (.int i)
  | str (x : Str) : Fl (.str x) (.str x)
/-- values without parts, and what they are -/
abbrev Fls : List V → List PyData → Prop := Paired Fl
/-- what a value is: without parts, a list or tuple of such, the dict without entries -/
inductive Th (H : Hp) : V → PyData → Prop
  | flat {x : V} {d : PyData} (h : Fl x d) : Th H x d
  | lst {a : Addr} {xs : List V} {ds : List PyData} (h : H a = some (.lst xs)) (k : Fls xs ds) (n : xs.length ≤ 1000) : Th H (.ref a) (.list ds)
  | tup {a : Addr} {xs : List V} {ds : List PyData} (h : H a = some (.tup xs)) (k : Fls xs ds) (n : xs.length ≤ 1000) : Th H (.ref a) (.tuple ds)
  | dct {a : Addr} (h : H a = some (.dK [])) : Th H (.ref a) (.dict [])
theorem Th.keep {H H' : Hp} {x : V} {d : PyData} (h : Th H x d) (k : ∀ b o, H b = some o → H' b = some o) : Th H' x d := by
  cases h with
  | flat h => exact .flat h
  | lst h r n => exact .lst (k _ _ h) r n
  | tup h r n => exact .tup (k _ _ h) r n
  | dct h => exact .dct (k _ _ h)
theorem fl_dp {K : PySem.W.Frag} {H : Hp} {x : V} {d : PyData} (h : Fl x d) : Dp K H x d := by
  cases h with
  | non => exact .non
  | bl b => exact .bl b
  | int i => exact .int i
  | str x => exact .str x
theorem fls_dp {K : PySem.W.Frag} {H : Hp} : ∀ {xs : List V} {ds : List PyData}, Fls xs ds → DpAll K H xs ds
  | _, _, .nil => .nil
  | _, _, .cons h r => .cons (fl_dp h) (fls_dp r)
theorem fls_noDict : ∀ {xs : List V} {ds : List PyData}, Fls xs ds → PyData.hasDictAll ds = false
  | _, _, .nil => rfl
  | _, _, .cons h r => by
    unfold PyData.hasDictAll
    rw [fls_noDict r]
    cases h <;> rfl
/-- what can be shown in bounds -/
structure Fine (d : PyData) : Prop where
  show_ : d.showable = true
  deep : d.depth ≤ 8
  size : d.shown.length ≤ sizeLine
section
variable {X : Cx}
theorem call_reprT (hg : X.A.guards = some []) (hu : X.A.units + 64 < cLine) : CallR X (.builtin "repr") (fun xs H Q => ∃ x d, xs = [x] ∧ Th H x d ∧ Fine d ∧ Q (.str d.shown) H) := by
  intro pins s σ H xs us Q I r h
  obtain ⟨x, d, rfl, th, fine, q⟩ := h
  obtain ⟨u, rfl, ru⟩ := vals1 r
  have fin : ∀ t tk, EP X pins σ Q (.str d.shown t) { s with toks := tk } := fun t tk => ⟨.str d.shown, H, I.tok tk, ⟨t, rfl⟩, q⟩
  have obj : ∀ a (as : List Addr), Reads s.heap (.ref a) d as → (d.hasDict = true → sysModules ∉ as) → wpAny (model X.prog X.w) X.A (call (.builtin "repr") [.ref a]) (EP X pins σ Q) X.xe s := fun a as rd nd =>
    repr_of_reads' rd fine.show_ nd hg (by have := fine.deep; omega) (fun _ _ e => e) (fun h' u tk hk => ⟨.str d.shown, H, I.kept hk, ⟨u, rfl⟩, q⟩) fine.size
  cases th with
  | flat h =>
    cases h with
    | non =>
      cases ru
      exact PySem.P.repr_of_none (fin _ _)
    | bl b =>
      cases ru
      exact PySem.P.repr_of_bool (by
        have e : (PyData.bool b).shown = if b then ("True" : Str) else "False" := by unfold PyData.shown; rfl
        rw [e] at fin
        cases b <;> exact fin _ _)
    | int i =>
      obtain ⟨t, rfl⟩ := ru
      have sm : i.natAbs.log2 < 1920 := by
        have z := fine.show_
        unfold PyData.showable at z
        exact of_decide_eq_true z
      exact PySem.P.repr_of_int sm (by
        have e : (PyData.int i).shown = (toString i : Str) := by unfold PyData.shown; rfl
        rw [e] at fin
        exact fin _ _)
    | str z =>
      obtain ⟨t, rfl⟩ := ru
      have e : (PyData.str z).shown = reprText z := by unfold PyData.shown; rfl
      have sz := fine.size
      rw [e] at fin sz
      exact PySem.P.repr_of_str (fin _ _) sz
  | @lst a xs ds h k n =>
    cases ru
    obtain ⟨as, rd⟩ := Dp.reads I _ _ _ (Dp.lst (K := X.K) (SqL.of h) (fls_dp k)) rfl
    refine obj a as rd (fun z => ?_)
    unfold PyData.hasDict at z
    rw [fls_noDict k] at z
    cases z
  | @tup a xs ds h k n =>
    cases ru
    obtain ⟨as, rd⟩ := Dp.reads I _ _ _ (Dp.tup (K := X.K) (SqT.of h) (fls_dp k)) rfl
    refine obj a as rd (fun z => ?_)
    unfold PyData.hasDict at z
    rw [fls_noDict k] at z
    cases z
  | @dct a h =>
    cases ru
    obtain ⟨_, nsys, vs, kv, o, es, ep, ho, ex, hd, _, pr, _⟩ := dk_of I.hok h
    cases kv
    have es0 : es.toList = [] := by
      obtain ⟨l⟩ := es
      have pr' : PySem.Pairs _ l [] := pr
      cases l with
      | nil => rfl
      | cons _ _ => cases pr'
    refine obj a _ (Reads.dict (kvs := []) (as := []) (bs := []) ho ex.1 hd (by rw [es0]; exact .nil) (by rw [es0]; exact .nil)) (fun _ => ?_)
    simp only [List.append_nil, List.mem_singleton]
    intro z
    rw [z] at nsys
    simp at nsys
end
end My
namespace My
open PySem PySem.Spec PyProof.Rows L2
/-- what the walk of the law's body has to give, the guards being known -/
def LawBodyS (l : PySem.W.OpenLaw) (w : World) (K : PySem.W.Frag) (mg : Str → Option Value) (n : Nat) (N : List Str) (qual : Str) (st : Stmt) (fa : Addr) : Prop :=
  ∀ base : Heap, K.In base → base.Ns mainGlobals mg → (∃ m, base.Ns sysModules m) → ∀ (cdv : Value) (s : Shared) (H : Hp) (a : Addr) (ns : List Int), ns.length ≤ n → Only H → SqL K H a (ns.map V.int) →
    ∃ t, PSs (cxOf CX0 l.prog w K mg base N qual (defScope st) fa cdv callerA [] s H E0).nox (defBody st) t ∧
      t { nx := fun _ _ => False, rt := fun v _ => v = .bl true } (start N [.ref a]) H

/-- one call of the law from an abstract heap -/
theorem enterS {l : PySem.W.OpenLaw} {w : World} {K : PySem.W.Frag} {mg : Str → Option Value} {n : Nat} {N : List Str} {x nm qual : Str} {st : Stmt} {fa a : Addr} {fd : FuncData}
    {base : Heap} {s : Shared} {H : Hp} {ns : List Int}
    (F : Fun K nm qual st fa fd) (S : FnScope N [x] (defScope st)) (hb : ∀ (s : Shared) (u : Value), BindsTo s fd ⟨[u], []⟩ [(x, u)])
    (B : LawBodyS l w K mg n N qual st fa) (hKb : K.In base) (hNb : base.Ns mainGlobals mg) (hSb : ∃ m, base.Ns sysModules m) (hn : ns.length ≤ n) (hO : Only H) (hS : SqL K H a (ns.map V.int))
    (e0 : Env0 l.prog w K mg base callerA [] s H) :
    codeAny (model l.prog w) callerA (.call (.ref fa) ⟨[.ref a], []⟩)
      (fun r s' => r = .ok (.ret (.bool true)) ∧ ∃ H', s'.os = s.os ∧ AllBare s'.gens ∧ Un [] [] H H' s.heap s'.heap ∧ HOk l.prog w H' s'.heap) s := by
  obtain ⟨oc, od, kV, doc, pm, an, cdv, ct, osl, rfl, lk, hcd⟩ := F.ex
  have stays : ∀ b o, base.get? b = some o → s.heap.get? b = some o := fun b o z => (e0.bs b o z).1
  have KS : K.In s.heap := e0.mod.kin.keeps stays
  have NL : s.heap.NoLimit := e0.mod.nolimit.keeps stays
  have kinds : ∀ y ∈ [x].zip [Value.ref a], (defScope st).names.lookup y.1 = some .local ∨ ((defScope st).names.lookup y.1 = some .cell ∧ ((cellsFrom (s.heap.objs.size + 1) (defScope st).names []).lookup y.1).isSome = true) := by
    intro y hy
    obtain rfl : y = (x, Value.ref a) := List.mem_singleton.mp hy
    cases S.par x (List.mem_singleton.mpr rfl) with
    | inl q => exact .inl q
    | inr q => exact .inr ⟨q, PySem.W.cellsFrom_some _ _ _ (.inl q)⟩
  refine codeAny_call_function (by decide) (KS _ _ lk) rfl S.co S.gen rfl (PySem.W.codeRec_of KS hcd) (hb s (.ref a) _ _ _ _ ?_)
  refine wpAny_newFunctionEnv_cells S.kind kinds fun env he s2 ic => ?_
  subst he
  refine ⟨NL.keeps ic.toInCall.keep, codeAny_func ?_⟩
  obtain ⟨t, ht, hq⟩ := B base hKb hNb hSb cdv s H a ns hn hO hS
  have J0 := inv_start (E := E0) (CX := CX0) S (show callerA.handled = none from rfl) e0 (vs := [.ref a]) (us := [.ref a]) rfl (.cons rfl .nil) ic
  refine wpAny_mono (ht.run [] s2 (start N [.ref a]) H _ (J0.wish _) hq) (fun fl s' hs => ?_) fun e s' hs => hs.elim
  cases fl with
  | ret u =>
    obtain ⟨v, σ', H', J, rv, q⟩ := hs
    subst q
    obtain rfl : u = Value.bool true := rv
    exact ⟨rfl, H', J.os, J.bare, J.base, J.hok⟩
  | next => exact (let ⟨_, _, _, q⟩ := hs; q).elim
  | brk => exact (let ⟨_, _, _, q⟩ := hs; q).elim
  | cont => exact (let ⟨_, _, _, q⟩ := hs; q).elim

/-- from one call in an abstract heap to the call that is asked for -/
theorem settleS {l : PySem.W.OpenLaw} {w : World} {K : PySem.W.Frag} {mg mb : Str → Option Value} {n : Nat} {N : List Str} {x nm qual : Str} {st : Stmt} {fa a : Addr} {fd : FuncData} {s : Shared} {H : Hp} {ns : List Int} {vs : List Value}
    (KX : K.In s.heap) (hns : s.heap.Ns mainGlobals mg) (hb : s.heap.Ns builtinsNs mb) (hbb : ∀ x : Str, x ≠ "__name__" → mb x = bootBuiltins x) (hsy : ∃ m, s.heap.Ns sysModules m) (hlim : s.heap.NoLimit) (hg : s.gens = #[])
    (ha : s.heap.get? a = some { cls := .type "list", data := .seq vs.toArray }) (hn : ns.length ≤ n)
    (F : Fun K nm qual st fa fd) (S : FnScope N [x] (defScope st)) (hbi : ∀ (s : Shared) (u : Value), BindsTo s fd ⟨[u], []⟩ [(x, u)]) (B : LawBodyS l w K mg n N qual st fa)
    (hO : Only H) (hS : SqL K H a (ns.map V.int)) (hok : HOk l.prog w H s.heap) (one : ∀ b, H b ≠ none → b = a) (out : H a ≠ none → K.lookup a = none) :
    codeAny (model l.prog w) callerA (.call (.ref fa) ⟨[.ref a], []⟩) (fun r s' => r = .ok (.ret (.bool true)) ∧ OldK s.heap s'.heap ∧ s'.os = s.os ∧ AllBare s'.gens) s := by
  have seen : ∀ {b : Addr} {o : Obj}, H b = none → s.heap.get? b = some o → (hidT s.heap H).get? b = some o := fun q e => hidT_get e q
  have free : ∀ {b : Addr} {o : Obj}, s.heap.get? b = some o → (∀ xs k, o.data ≠ .seq xs k) → H b = none := by
    intro b o e nd
    by_cases z : H b = none
    · exact z
    · have eb := one b z
      rw [eb, ha] at e
      injection e with e
      exact absurd (by rw [← e]) (nd vs.toArray 0)
  have names : ∀ {b : Addr} {m : Str → Option Value}, s.heap.Ns b m → (hidT s.heap H).Ns b m := by
    intro b m nb
    obtain ⟨o, es, ep, e, d, rest⟩ := nb
    exact ⟨o, es, ep, seen (free e fun xs k z => by rw [d] at z; injection z) e, d, rest⟩
  have KB : K.In (hidT s.heap H) := by
    intro b o e
    refine seen ?_ (KX b o e)
    by_cases z : H b = none
    · exact z
    · have eb := one b z
      subst eb
      rw [out z] at e
      injection e
  have E0' : Env0 l.prog w K mg (hidT s.heap H) callerA [] s H := by
    refine ⟨rfl, ⟨KB, names hns, ⟨mb, names hb, hbb⟩, ?_⟩, fun b o e => of_hidT e, Nat.le_of_eq (hidT_size _ _), trivial, ?_, hok, .of_eq hg⟩
    · obtain ⟨mc, c1, c2⟩ := hlim
      exact ⟨mc, names c1, c2⟩
    · intro b z
      exact absurd (show b ∈ ([] : List Addr) from z) List.not_mem_nil
  refine codeAny_mono (enterS F S hbi B KB (names hns) (hsy.imp fun _ z => names z) hn hO hS E0') fun r s' h => ?_
  obtain ⟨e1, H', os, bare, un, hok'⟩ := h
  refine ⟨e1, OldK.of_keep fun b o e => ?_, os, bare⟩
  by_cases z : H b = none
  · exact un.keep b o e z (show b ∉ ([] : List Addr) from List.not_mem_nil) List.not_mem_nil
  · rcases hO b with y | ⟨ob, xs, y⟩
    · exact absurd y z
    · have g1 := (hok b _ y).1
      have g2 := (hok' b _ (un.frzs b ob _ y)).1
      rw [g1] at e
      injection e with e
      rw [← e]
      exact g2

/-- the goal that the head leaves, from the law's body walked with known guards -/
theorem lawS_top {l : PySem.W.OpenLaw} {n : Nat} {q : Program} {loose : List Str} {XP : (Str → Option Value) → Heap → Prop} {YP : World → Heap → Prop} {d : DefRec} {K : Params → PySem.W.Frag} {N : List Str} {x nm qual : Str} {st : Stmt}
    (hseer : importsNone q = true) (hn : l.most = some n) (hn2 : n ≤ sizeLine) (hdf : d.params.defaults = []) (hY : ∀ (w : World) (h : Heap), YP w h → (K w.params).In h)
    (Z : ∀ (w : World) (mg : Str → Option Value) (fa : Addr) (h : Heap), (K w.params).In h → h.Ns mainGlobals mg → mg d.name = some (.ref fa) →
      ∃ fd : FuncData, Fun (K w.params) nm qual st fa fd ∧ FnScope N [x] (defScope st) ∧ (∀ (s : Shared) (u : Value), BindsTo s fd ⟨[u], []⟩ [(x, u)]) ∧ LawBodyS l w (K w.params) mg n N qual st fa) :
    PySem.W.WalkO q loose XP YP l.row.toRowW d [] (fun f vs => PySem.call f vs) := by
  refine Att.attach_call hn hdf ?_
  intro w s₀ s mg mb fa o pm cd doc a vs ns G Y ho hd hcd hmg hobj hints hlen hg
  have KX : (K w.params).In s.heap := hY w _ Y
  obtain ⟨fd, F, S, hbi, B⟩ := Z w mg fa _ KX G.T.g hmg
  have rv : Vals (ns.map V.int) vs := vals_ints hints
  have top : ns.length ≤ sizeLine := Nat.le_trans hlen hn2
  have plain := @settleS l w (K w.params) mg mb n N x nm qual st fa a fd s
  cases hk : (K w.params).lookup a with
  | some u =>
    have e := KX a u hk
    rw [hobj] at e
    injection e with e
    subst e
    refine plain (H := fun _ => none) (ns := ns) (vs := vs) KX G.T.g G.T.b G.T.builtins ((G.T.seer hseer).mods.imp fun _ z => z.1) G.T.nolimit hg hobj hlen F S hbi B (fun _ => .inl rfl) (.inr ⟨_, vs.toArray, _, hk, rfl, rfl, rfl, ?_, ?_⟩) (fun b u z => ?_) (fun b z => absurd rfl z) (fun z => absurd rfl z)
    · rw [List.size_toArray, hints.length]
      exact top
    · simpa using rv
    · injection z
  | none =>
    refine plain (H := scriptHp a vs ns) (ns := ns) (vs := vs) KX G.T.g G.T.b G.T.builtins ((G.T.seer hseer).mods.imp fun _ z => z.1) G.T.nolimit hg hobj hlen F S hbi B (fun b => ?_) (.inl (.inr ⟨_, if_pos rfl⟩)) (fun b u z => ?_) (fun b z => ?_) (fun _ => hk)
    · by_cases eb : b = a
      · exact .inr ⟨_, _, if_pos eb⟩
      · exact .inl (if_neg eb)
    · by_cases eb : b = a
      · have y := (if_pos eb).symm.trans z
        injection y with y
        subst y
        subst eb
        exact ⟨hobj, by rw [List.length_map]; exact top, vs, _, rv, hobj⟩
      · have y := (if_neg eb).symm.trans z
        injection y
    · by_cases eb : b = a
      · exact eb
      · exact absurd (if_neg eb) z
end My
/-! == where a dict stands beside another kind -/
namespace MyQ
open PySem PySem.SeqAt PySem.Calls
open AutoSeq1 (wpAny_loadPart')
open MeetsSeq
section
variable {A : Around} {s : Shared}
/-- the object of a dict -/
structure IsD (s : Shared) (a : Addr) : Prop where
  ex : ∃ dd es ep sl, s.heap.get? a = some ({ cls := .type "dict", dict := dd, data := .dict es ep, slots := sl } : Obj)
theorem IsD.ty {a : Addr} (h : IsD s a) : s.TypeIs (.ref a) "dict" := by
  obtain ⟨dd, es, ep, sl, e⟩ := h.ex
  exact ⟨_, e, rfl⟩
theorem d_declines {prog : Program} {w : World} {E : Value → Shared → Prop} {Q : Value → Shared → Prop} {a : Addr} {u : Value} {T : String} (d : IsD s a) (ty : s.TypeIs u T) (no : isSubtype (.type T) (.type "dict") = pure false) (q : Q .notImplemented s) :
    wpAny (model prog w) A (call (.builtin "dict.__eq__") [.ref a, u]) Q E s := by
  refine wpAny_call_entry PySem.F.slot_dict_eq d.ty PySem.F.entry_dict_eq ?_ (PySem.F.args_dict_eq_2 _ _)
  show wpAny _ _ (Builtin.Dict.dictSlotArgs "__eq__" ⟨[.ref a, u], []⟩ >>= _) _ _ s
  refine wpAny_bind ?_
  unfold Builtin.Dict.dictSlotArgs
  refine wpAny_bind (wpAny_notOrdered_dict d.ty (wpAny_pure (wpAny_bind (wpAny_isInstance (T := T) ty no ?_))))
  rw [if_pos (by rfl)]
  wp_walk
  exact ⟨_, rfl, q⟩
theorem none_declines (l : Addr) : Gives (Builtin.«NoneType.__eq__» ⟨[.none, .ref l], []⟩) (.val (Value.notImplemented)) := NoneType___eq___none_ref_0 l
theorem bool_declines (b : Bool) (l : Addr) (es : Array DictEntry) (n : Nat) (dd : Option Addr) (sl : Array (Option Value)) :
    Meets (Builtin.«int.__eq__» ⟨[.bool b, .ref l], []⟩) (fun _ R s => s.heap.get? l = some { cls := .type "dict", dict := dd, data := .dict es n, slots := sl } ∧ R (.ok (.ret .notImplemented)) s) := by
  refine .of_wp fun prog w A R s h => ?_
  obtain ⟨hp, g, d, tk, os⟩ := s
  obtain ⟨hl, h⟩ := h
  wp_walk using wpAny_loadPart' hl, wpAny_load hl
  exact ⟨_, rfl, h⟩
theorem int_declines (b : Int) (u : Tok) (l : Addr) (es : Array DictEntry) (n : Nat) (dd : Option Addr) (sl : Array (Option Value)) :
    Meets (Builtin.«int.__eq__» ⟨[.int b u, .ref l], []⟩) (fun _ R s => s.heap.get? l = some { cls := .type "dict", dict := dd, data := .dict es n, slots := sl } ∧ R (.ok (.ret .notImplemented)) s) := by
  refine .of_wp fun prog w A R s h => ?_
  obtain ⟨hp, g, d, tk, os⟩ := s
  obtain ⟨hl, h⟩ := h
  wp_walk using wpAny_loadPart' hl, wpAny_load hl
  exact ⟨_, rfl, h⟩
theorem str_declines (b : Str) (u : Tok) (l : Addr) (es : Array DictEntry) (n : Nat) (dd : Option Addr) (sl : Array (Option Value)) :
    Meets (Builtin.«str.__eq__» ⟨[.str b u, .ref l], []⟩) (fun _ R s => s.heap.get? l = some { cls := .type "dict", dict := dd, data := .dict es n, slots := sl } ∧ R (.ok (.ret .notImplemented)) s) := by
  refine .of_wp fun prog w A R s h => ?_
  obtain ⟨hp, g, d, tk, os⟩ := s
  obtain ⟨hl, h⟩ := h
  wp_walk using wpAny_loadPart' hl, wpAny_load hl
  exact ⟨_, rfl, h⟩
theorem list_declines (a : Addr) (items : Array Value) (m : Nat) (dd : Option Addr) (sl : Array (Option Value)) (l : Addr) (es : Array DictEntry) (n : Nat) (dd2 : Option Addr) (sl2 : Array (Option Value)) :
    Meets (Builtin.«list.__eq__» ⟨[.ref a, .ref l], []⟩) (fun _ R s => s.heap.get? a = some { cls := .type "list", dict := dd, data := .seq items m, slots := sl } ∧ s.heap.get? l = some { cls := .type "dict", dict := dd2, data := .dict es n, slots := sl2 } ∧ R (.ok (.ret .notImplemented)) s) := by
  refine .of_wp fun prog w A R s h => ?_
  obtain ⟨hp, g, d, tk, os⟩ := s
  obtain ⟨ha, hl, h⟩ := h
  have f1 := PySem.F.sub_dict_list
  wp_walk using wpAny_loadPart' ha, wpAny_loadPart' hl, wpAny_load hl
  exact ⟨_, rfl, h⟩
theorem tuple_declines (a : Addr) (items : Array Value) (m : Nat) (dd : Option Addr) (sl : Array (Option Value)) (l : Addr) (es : Array DictEntry) (n : Nat) (dd2 : Option Addr) (sl2 : Array (Option Value)) :
    Meets (Builtin.«tuple.__eq__» ⟨[.ref a, .ref l], []⟩) (fun _ R s => s.heap.get? a = some { cls := .type "tuple", dict := dd, data := .seq items m, slots := sl } ∧ s.heap.get? l = some { cls := .type "dict", dict := dd2, data := .dict es n, slots := sl2 } ∧ R (.ok (.ret .notImplemented)) s) := by
  refine .of_wp fun prog w A R s h => ?_
  obtain ⟨hp, g, d, tk, os⟩ := s
  obtain ⟨ha, hl, h⟩ := h
  have f1 := PySem.F.sub_dict_tuple
  wp_walk using wpAny_loadPart' ha, wpAny_loadPart' hl, wpAny_load hl
  exact ⟨_, rfl, h⟩
/-- a value of another kind -/
inductive Oth (s : Shared) : Value → Prop
  | non : Oth s .none
  | bl (b : Bool) : Oth s (.bool b)
  | int (i : Int) (t : Tok) : Oth s (.int i t)
  | str (x : Str) (t : Tok) : Oth s (.str x t)
  | lst {l : Addr} {items : Array Value} (h : s.heap.IsList l items) : Oth s (.ref l)
  | tup {l : Addr} {items : Array Value} (h : s.heap.IsTuple l items) : Oth s (.ref l)
theorem rc_dict_oth {a : Addr} {u : Value} (d : IsD s a) (o : Oth s u) (hu : A.units < cLine) : RcAt A s (.ref a) u false := fun prog w E Q h => by
  obtain ⟨dd, es, ep, sl, e⟩ := d.ex
  cases o with
  | non =>
    exact rc_eq_decline_or (k := false) d.ty rfl (by decide) PySem.F.sub_NoneType_dict PySem.F.slot_dict_eq PySem.F.slot_NoneType_eq_refl (fun _ hq => d_declines d (T := "NoneType") rfl PySem.F.sub_NoneType_dict hq)
      (fun _ hq => call_gives PySem.F.slot_NoneType_eq_refl rfl PySem.F.entry_NoneType_eq (PySem.F.args_NoneType_eq_2 _ _) (none_declines a) hq) (fun _ hq => wpAny_of_eq (rfl : isSame (.ref a) .none = pure false) hq) (.inr hu) h
  | bl b =>
    exact rc_eq_decline_or (k := false) d.ty (typeIs_bool s b) (by decide) PySem.F.sub_bool_dict PySem.F.slot_dict_eq PySem.F.slot_bool_eq_refl (fun _ hq => d_declines d (typeIs_bool s b) PySem.F.sub_bool_dict hq)
      (fun _ hq => call_meets PySem.F.slot_bool_eq_refl (typeIs_bool s b) PySem.F.entry_int_eq (PySem.F.args_int_eq_2 _ _) (bool_declines b a es ep dd sl) ⟨e, hq⟩) (fun _ hq => wpAny_of_eq (rfl : isSame (.ref a) (.bool b) = pure false) hq) (.inr hu) h
  | int i t =>
    exact rc_eq_decline_or (k := false) d.ty (typeIs_int s i t) (by decide) PySem.F.sub_int_dict PySem.F.slot_dict_eq PySem.F.slot_int_eq_refl (fun _ hq => d_declines d (typeIs_int s i t) PySem.F.sub_int_dict hq)
      (fun _ hq => call_meets PySem.F.slot_int_eq_refl (typeIs_int s i t) PySem.F.entry_int_eq (PySem.F.args_int_eq_2 _ _) (int_declines i t a es ep dd sl) ⟨e, hq⟩) (fun _ hq => wpAny_of_eq (rfl : isSame (.ref a) (.int i t) = pure false) hq) (.inr hu) h
  | str x t =>
    exact rc_eq_decline_or (k := false) d.ty (typeIs_str s x t) (by decide) PySem.F.sub_str_dict PySem.F.slot_dict_eq PySem.F.slot_str_eq_refl (fun _ hq => d_declines d (typeIs_str s x t) PySem.F.sub_str_dict hq)
      (fun _ hq => call_meets PySem.F.slot_str_eq_refl (typeIs_str s x t) PySem.F.entry_str_eq (PySem.F.args_str_eq_2 _ _) (str_declines x t a es ep dd sl) ⟨e, hq⟩) (fun _ hq => wpAny_of_eq (rfl : isSame (.ref a) (.str x t) = pure false) hq) (.inr hu) h
  | @lst l items hl =>
    obtain ⟨⟨cls, d2, data, sl2⟩, ho, hc, n, hd⟩ := id hl
    simp only at hc hd
    subst hc hd
    have ne : a ≠ l := fun z => by
      rw [z, ho] at e
      simp at e
    have tl : s.TypeIs (.ref l) "list" := ⟨_, ho, rfl⟩
    exact rc_eq_decline_or (k := false) d.ty tl (by decide) PySem.F.sub_list_dict PySem.F.slot_dict_eq PySem.F.slot_list_eq_refl (fun _ hq => d_declines d tl PySem.F.sub_list_dict hq)
      (fun _ hq => call_meets PySem.F.slot_list_eq_refl tl PySem.F.entry_list_eq (PySem.F.args_list_eq_2 _ _) (list_declines l items n d2 sl2 a es ep dd sl) ⟨ho, e, hq⟩) (fun _ hq => wpAny_isSame_ref_other' ne e ho (by simp) hq) (.inr hu) h
  | @tup l items hl =>
    obtain ⟨⟨cls, d2, data, sl2⟩, ho, hc, n, hd⟩ := id hl
    simp only at hc hd
    subst hc hd
    have ne : a ≠ l := fun z => by
      rw [z, ho] at e
      simp at e
    have tl : s.TypeIs (.ref l) "tuple" := ⟨_, ho, rfl⟩
    refine rc_eq_decline_or (k := false) d.ty tl (by decide) PySem.F.sub_tuple_dict PySem.F.slot_dict_eq PySem.F.slot_tuple_eq_refl (fun _ hq => d_declines d tl PySem.F.sub_tuple_dict hq)
      (fun _ hq => call_meets PySem.F.slot_tuple_eq_refl tl PySem.F.entry_tuple_eq (PySem.F.args_tuple_eq_2 _ _) (tuple_declines l items n d2 sl2 a es ep dd sl) ⟨ho, e, hq⟩) (fun _ hq => wpAny_isSame_ref_other ne e ho (by simp) hq) (.inr hu) h
theorem rc_oth_dict {a : Addr} {u : Value} (d : IsD s a) (o : Oth s u) (hu : A.units < cLine) : RcAt A s u (.ref a) false := fun prog w E Q h => by
  obtain ⟨dd, es, ep, sl, e⟩ := d.ex
  cases o with
  | non =>
    exact rc_eq_decline_or (k := false) rfl d.ty (by decide) PySem.F.sub_dict_NoneType PySem.F.slot_NoneType_eq PySem.F.slot_dict_eq_refl
      (fun _ hq => call_gives PySem.F.slot_NoneType_eq rfl PySem.F.entry_NoneType_eq (PySem.F.args_NoneType_eq_2 _ _) (none_declines a) hq) (fun _ hq => d_declines d (T := "NoneType") rfl PySem.F.sub_NoneType_dict hq) (fun _ hq => wpAny_of_eq (rfl : isSame .none (.ref a) = pure false) hq) (.inr hu) h
  | bl b =>
    exact rc_eq_decline_or (k := false) (typeIs_bool s b) d.ty (by decide) PySem.F.sub_dict_bool PySem.F.slot_bool_eq PySem.F.slot_dict_eq_refl
      (fun _ hq => call_meets PySem.F.slot_bool_eq (typeIs_bool s b) PySem.F.entry_int_eq (PySem.F.args_int_eq_2 _ _) (bool_declines b a es ep dd sl) ⟨e, hq⟩) (fun _ hq => d_declines d (typeIs_bool s b) PySem.F.sub_bool_dict hq) (fun _ hq => wpAny_of_eq (rfl : isSame (.bool b) (.ref a) = pure false) hq) (.inr hu) h
  | int i t =>
    exact rc_eq_decline_or (k := false) (typeIs_int s i t) d.ty (by decide) PySem.F.sub_dict_int PySem.F.slot_int_eq PySem.F.slot_dict_eq_refl
      (fun _ hq => call_meets PySem.F.slot_int_eq (typeIs_int s i t) PySem.F.entry_int_eq (PySem.F.args_int_eq_2 _ _) (int_declines i t a es ep dd sl) ⟨e, hq⟩) (fun _ hq => d_declines d (typeIs_int s i t) PySem.F.sub_int_dict hq) (fun _ hq => wpAny_of_eq (rfl : isSame (.int i t) (.ref a) = pure false) hq) (.inr hu) h
  | str x t =>
    exact rc_eq_decline_or (k := false) (typeIs_str s x t) d.ty (by decide) PySem.F.sub_dict_str PySem.F.slot_str_eq PySem.F.slot_dict_eq_refl
      (fun _ hq => call_meets PySem.F.slot_str_eq (typeIs_str s x t) PySem.F.entry_str_eq (PySem.F.args_str_eq_2 _ _) (str_declines x t a es ep dd sl) ⟨e, hq⟩) (fun _ hq => d_declines d (typeIs_str s x t) PySem.F.sub_str_dict hq) (fun _ hq => wpAny_of_eq (rfl : isSame (.str x t) (.ref a) = pure false) hq) (.inr hu) h
  | @lst l items hl =>
    obtain ⟨⟨cls, d2, data, sl2⟩, ho, hc, n, hd⟩ := id hl
    simp only at hc hd
    subst hc hd
    have ne : l ≠ a := fun z => by
      rw [← z, ho] at e
      simp at e
    have tl : s.TypeIs (.ref l) "list" := ⟨_, ho, rfl⟩
    exact rc_eq_decline_or (k := false) tl d.ty (by decide) PySem.F.sub_dict_list PySem.F.slot_list_eq PySem.F.slot_dict_eq_refl
      (fun _ hq => call_meets PySem.F.slot_list_eq tl PySem.F.entry_list_eq (PySem.F.args_list_eq_2 _ _) (list_declines l items n d2 sl2 a es ep dd sl) ⟨ho, e, hq⟩) (fun _ hq => d_declines d tl PySem.F.sub_list_dict hq) (fun _ hq => wpAny_isSame_ref_other ne ho e (by simp) hq) (.inr hu) h
  | @tup l items hl =>
    obtain ⟨⟨cls, d2, data, sl2⟩, ho, hc, n, hd⟩ := id hl
    simp only at hc hd
    subst hc hd
    have ne : l ≠ a := fun z => by
      rw [← z, ho] at e
      simp at e
    have tl : s.TypeIs (.ref l) "tuple" := ⟨_, ho, rfl⟩
    exact rc_eq_decline_or (k := false) tl d.ty (by decide) PySem.F.sub_dict_tuple PySem.F.slot_tuple_eq PySem.F.slot_dict_eq_refl
      (fun _ hq => call_meets PySem.F.slot_tuple_eq tl PySem.F.entry_tuple_eq (PySem.F.args_tuple_eq_2 _ _) (tuple_declines l items n d2 sl2 a es ep dd sl) ⟨ho, e, hq⟩) (fun _ hq => d_declines d tl PySem.F.sub_tuple_dict hq) (fun _ hq => wpAny_isSame_ref_other' ne ho e (by simp) hq) (.inr hu) h
end
end MyQ
namespace My
open PySem PySem.Spec PyProof.Rows L2
def topS (i : Nat) : Stmt := PySem.Challenge.pw_layerseen_k15_handlers_that_meet.main.body.getD i (.Pass ⟨0, 0, 0, 0⟩)
abbrev sWhole : Stmt := topS 3
abbrev sCopied : Stmt := topS 4
abbrev sWord : Stmt := topS 14
abbrev sName : Stmt := topS 15
abbrev sCheck : Stmt := topS 16
abbrev sNext : Stmt := topS 28
abbrev sMeet1 : Stmt := topS 29
abbrev sPen : Stmt := topS 31
abbrev sDraw : Stmt := topS 32
abbrev sPick : Stmt := topS 33
abbrev sRow : Stmt := topS 34
abbrev sMade : Stmt := topS 35
abbrev sSort : Stmt := topS 36
abbrev sMeetR : Stmt := topS 37
abbrev sIsName : Stmt := topS 38
abbrev sDue : Stmt := topS 39
abbrev sHeard : Stmt := topS 40
abbrev sReadL : Stmt := topS 41
abbrev sBent : Stmt := topS 42
abbrev sReadR : Stmt := topS 43
abbrev sLaw : Stmt := topS 44
structure Txt (mg : Str → Option Value) : Prop where
  int : mg "int" = none
  bool : mg "bool" = none
  len : mg "len" = none
  abs : mg "abs" = none
  list : mg "list" = none
  tuple : mg "tuple" = none
  dict : mg "dict" = none
  range : mg "range" = none
  isi : mg "isinstance" = none
  str : mg "str" = none
  all : mg "all" = none
  repr : mg "repr" = none
  any : mg "any" = none
  enum : mg "enumerate" = none
  ve : mg "ValueError" = none
/-- no value without parts is a paper -/
structure NoPap (K : PySem.W.Frag) (mg : Str → Option Value) (C : Addr) : Prop where
  g : mg "Paper" = some (.ref C)
  kit : ∀ T ∈ ["NoneType", "bool", "int", "str"], PySem.W.kitOne K (.type T) (.ref C) = some false
theorem pe_never {X : Cx} {e : Expr} : PE X e (fun _ _ _ => False) := ⟨fun _ _ _ _ _ _ h => h.elim⟩
def Same' (H H' : Hp) : Prop := ∀ q o, H q = some o → H' q = some o
theorem Same'.trans {H1 H2 H3 : Hp} (h : Same' H1 H2) (k : Same' H2 H3) : Same' H1 H3 := fun b o e => k b o (h b o e)
theorem same_new {H : Hp} {p : Addr} {o : HO} (h : H p = none) : Same' H (upd H p o) := fun b x e => by
  rw [upd_ne (ne_of_none e h)]
  exact e
theorem same_over {H H1 : Hp} {p : Addr} {o : HO} (h : H p = none) (k : Same' H H1) : Same' H (upd H1 p o) := fun b x e => by
  rw [upd_ne (ne_of_none e h)]
  exact k _ _ e
theorem fl_not {K : PySem.W.Frag} {H : Hp} {x : V} {d : PyData} (h : Fl x d) (T : String) (hT : T = "list" ∨ T = "tuple" ∨ T = "dict") : ∃ S, TyX K H x (.type S) ∧ kitB S T = some false := by
  cases h with
  | non => exact ⟨"NoneType", .base .non, by rcases hT with rfl | rfl | rfl <;> decide +kernel⟩
  | bl b => exact ⟨"bool", .base (.bl b), by rcases hT with rfl | rfl | rfl <;> decide +kernel⟩
  | int i => exact ⟨"int", .base (.int i), by rcases hT with rfl | rfl | rfl <;> decide +kernel⟩
  | str z => exact ⟨"str", .base (.str z), by rcases hT with rfl | rfl | rfl <;> decide +kernel⟩
def spFlat : Sp := fun vs H Q _ => ∃ (x : V) (d : PyData), vs = [x] ∧ Fl x d ∧ Q x H
def spCopied : Sp := fun vs H Q _ => ∃ (x : V) (d : PyData), vs = [x] ∧ Th H x d ∧ ∀ y H', Same' H H' → Th H' y d → Q y H'
section
variable {P : Program} {w : World} {K : PySem.W.Frag} {mg : Str → Option Value} {base : Heap}
abbrev nCop : List Str := ["value", "item", "key"]
theorem scCop : FnScope nCop ["value"] (defScope sCopied) := ⟨rfl, rfl, rfl, by decide +kernel, rfl, by decide +kernel, by decide +kernel⟩
theorem fl_pap {C : Addr} {H : Hp} {x : V} {d : PyData} (N : NoPap K mg C) (h : Fl x d) : ∃ t, TyX K H x t ∧ PySem.W.kitOne K t (.ref C) = some false := by
  cases h with
  | non => exact ⟨_, .base .non, N.kit _ (by simp)⟩
  | bl b => exact ⟨_, .base (.bl b), N.kit _ (by simp)⟩
  | int i => exact ⟨_, .base (.int i), N.kit _ (by simp)⟩
  | str z => exact ⟨_, .base (.str z), N.kit _ (by simp)⟩
theorem ok_flat {f CP : Addr} {fd : FuncData} (F : Fun K "copied" "copied" sCopied f fd) (NP : NoPap K mg CP) (T : Txt mg) : FnOk P w K mg base CX0 1 f fd ["value"] spFlat := by
  refine F.ok scCop (fun vs H Q E h => ?_) (fun cdv A outer s H vs Q E hr h => ?_)
  · obtain ⟨x, d, rfl, _⟩ := h
    rfl
  · obtain ⟨x, d, rfl, fl, q⟩ := h
    refine ⟨_, pss_cons (ps_if (pt_val (pe_callB call_isi (by rfl) T.isi (by decide +kernel) (pa_cons (pv 0) (pa_cons (pe_bltn (by rfl) T.list (by decide +kernel) (show RelV (.ty "list") _ from rfl)) pa_nil)))) (pss_one ps_never) pss_nil)
      (pss_cons (ps_if (pt_val (pe_callB call_isi (by rfl) T.isi (by decide +kernel) (pa_cons (pv 0) (pa_cons (pe_bltn (by rfl) T.tuple (by decide +kernel) (show RelV (.ty "tuple") _ from rfl)) pa_nil)))) (pss_one ps_never) pss_nil)
      (pss_cons (ps_if (pt_val (pe_callB call_isi (by rfl) T.isi (by decide +kernel) (pa_cons (pv 0) (pa_cons (pe_bltn (by rfl) T.dict (by decide +kernel) (show RelV (.ty "dict") _ from rfl)) pa_nil)))) (pss_one ps_never) pss_nil)
      (pss_cons (ps_if (pt_val (pe_callB call_isi (by rfl) T.isi (by decide +kernel) (pa_cons (pv 0) (pa_cons (pe_glob (v := .ref CP) rfl NP.g rfl) pa_nil)))) (pss_one ps_never) pss_nil)
      (pss_one (ps_ret (pv 0)))))), ?_⟩
    obtain ⟨S1, t1, k1⟩ := fl_not (K := K) (H := H) fl "list" (by simp)
    obtain ⟨S2, t2, k2⟩ := fl_not (K := K) (H := H) fl "tuple" (by simp)
    obtain ⟨S3, t3, k3⟩ := fl_not (K := K) (H := H) fl "dict" (by simp)
    refine ⟨x, rfl, x, .ty "list", .type S1, .type "list", false, rfl, .ty "list", t1, kit_ty k1, false, rfl, iteF ?_⟩
    refine ⟨x, rfl, x, .ty "tuple", .type S2, .type "tuple", false, rfl, .ty "tuple", t2, kit_ty k2, false, rfl, iteF ?_⟩
    refine ⟨x, rfl, x, .ty "dict", .type S3, .type "dict", false, rfl, .ty "dict", t3, kit_ty k3, false, rfl, iteF ?_⟩
    obtain ⟨t4, ty4, k4⟩ := fl_pap (H := H) NP fl
    refine ⟨x, rfl, x, .ref CP, t4, .ref CP, false, rfl, .own _, ty4, k4, false, rfl, iteF ?_⟩
    exact ⟨x, rfl, q⟩
theorem fls_get : ∀ {xs : List V} {ds : List PyData} {i : Nat} {x : V}, Fls xs ds → xs[i]? = some x → ∃ d, Fl x d
  | _, _, _, _, .nil, h => by simp at h
  | _, _, 0, _, .cons h _, e => by
    simp at e
    subst e
    exact ⟨_, h⟩
  | _, _, i + 1, _, .cons _ r, e => fls_get (i := i) r (by simpa using e)
theorem ok_copied {f CP : Addr} {fd : FuncData} (F : Fun K "copied" "copied" sCopied f fd) (NP : NoPap K mg CP) (T : Txt mg) (b : Binds K fd ["value"] []) (g : mg "copied" = some (.ref f)) : FnOk P w K mg base CX0 2 f fd ["value"] spCopied := by
  have G : FnOk P w K mg base CX0 1 f fd ["value"] spFlat := ok_flat F NP T
  refine F.ok scCop (fun vs H Q E h => ?_) (fun cdv A outer s H vs Q E hr h => ?_)
  · obtain ⟨x, d, rfl, _⟩ := h
    rfl
  · obtain ⟨x, d, rfl, th, q⟩ := h
    refine ⟨_, pss_cons (ps_if (pt_val (pe_callB call_isi (by rfl) T.isi (by decide +kernel) (pa_cons (pv 0) (pa_cons (pe_bltn (by rfl) T.list (by decide +kernel) (show RelV (.ty "list") _ from rfl)) pa_nil))))
        (pss_one (ps_ret (pe_lc (own := [("item", 1)]) (g := gName 1) (tt := tYes) rfl scCop.nd (pi_list (pv 0)) (blkOk_by (N := nCop) (sc := defScope sCopied) (by decide +kernel)) (fun _ _ _ _ _ => pg_name (i := 1) scCop.nd rfl (Or.inl rfl)) (fun _ _ _ _ _ => pts_nil)
          (fun _ _ _ _ _ => pe_call G hr (by rfl) g F.kp b .nil pass0 (pa_cons (pv 1) pa_nil))))) pss_nil)
      (pss_cons (ps_if (pt_val (pe_callB call_isi (by rfl) T.isi (by decide +kernel) (pa_cons (pv 0) (pa_cons (pe_bltn (by rfl) T.tuple (by decide +kernel) (show RelV (.ty "tuple") _ from rfl)) pa_nil))))
        (pss_one (ps_ret (pe_callTy call_tuple_of (by rfl) T.tuple (by decide +kernel) (pa_cons (pe_lc (own := [("item", 1)]) (g := gName 1) (tt := tYes) rfl scCop.nd (pi_tup (pv 0)) (blkOk_by (N := nCop) (sc := defScope sCopied) (by decide +kernel)) (fun _ _ _ _ _ => pg_name (i := 1) scCop.nd rfl (Or.inl rfl)) (fun _ _ _ _ _ => pts_nil)
          (fun _ _ _ _ _ => pe_call G hr (by rfl) g F.kp b .nil pass0 (pa_cons (pv 1) pa_nil))) pa_nil)))) pss_nil)
      (pss_cons (ps_if (pt_val (pe_callB call_isi (by rfl) T.isi (by decide +kernel) (pa_cons (pv 0) (pa_cons (pe_bltn (by rfl) T.dict (by decide +kernel) (show RelV (.ty "dict") _ from rfl)) pa_nil))))
        (pss_one (ps_ret (pe_lock (pe_dc (own := [("key", 2)]) (g := gName 2) (tt := tYes) rfl scCop.nd (pi_keys (pv 0)) (blkOk_by (N := nCop) (sc := defScope sCopied) (by decide +kernel)) (fun _ _ _ _ _ => pg_name (i := 2) scCop.nd rfl (Or.inl rfl)) (fun _ _ _ _ _ => pts_nil)
          (fun _ _ _ _ _ => pe_never) (fun _ _ _ _ _ => pe_never))))) pss_nil)
      (pss_cons (ps_if (pt_val (pe_callB call_isi (by rfl) T.isi (by decide +kernel) (pa_cons (pv 0) (pa_cons (pe_glob (v := .ref CP) rfl NP.g rfl) pa_nil)))) (pss_one ps_never) pss_nil)
      (pss_one (ps_ret (pv 0)))))), ?_⟩
    cases th with
    | flat fl =>
      obtain ⟨S1, t1, k1⟩ := fl_not (K := K) (H := H) fl "list" (by simp)
      obtain ⟨S2, t2, k2⟩ := fl_not (K := K) (H := H) fl "tuple" (by simp)
      obtain ⟨S3, t3, k3⟩ := fl_not (K := K) (H := H) fl "dict" (by simp)
      refine ⟨x, rfl, x, .ty "list", .type S1, .type "list", false, rfl, .ty "list", t1, kit_ty k1, false, rfl, iteF ?_⟩
      refine ⟨x, rfl, x, .ty "tuple", .type S2, .type "tuple", false, rfl, .ty "tuple", t2, kit_ty k2, false, rfl, iteF ?_⟩
      refine ⟨x, rfl, x, .ty "dict", .type S3, .type "dict", false, rfl, .ty "dict", t3, kit_ty k3, false, rfl, iteF ?_⟩
      obtain ⟨t4, ty4, k4⟩ := fl_pap (H := H) NP fl
      refine ⟨x, rfl, x, .ref CP, t4, .ref CP, false, rfl, .own _, ty4, k4, false, rfl, iteF ?_⟩
      exact ⟨x, rfl, q x H (fun _ _ e => e) (.flat fl)⟩
    | @lst a xs ds h k n =>
      refine ⟨.ref a, rfl, .ref a, .ty "list", .type "list", .type "list", true, rfl, .ty "list", .base (.lst h), kit_ty (by decide +kernel), true, rfl, iteT ?_⟩
      refine ⟨.ref a, rfl, a, rfl, ⟨_, SqL.of h⟩, fun D hD => ?_⟩
      refine lc_list (K := K) (a := a) (xs := xs) (fun i H' => Same' H H' ∧ H' D = some (.lst (xs.take i))) ⟨same_new hD, upd_same⟩ (fun i H' _ hp => SqL.of (hp.1 _ _ h)) (fun i x H' hx hp => ?_) (fun H' hp => ?_)
      · obtain ⟨sm, ed⟩ := hp
        obtain ⟨d, fl⟩ := fls_get k hx
        refine ⟨rfl, ?_⟩
        refine ⟨x, rfl, x, d, rfl, fl, _, ed, ?_, same_over hD sm, ?_⟩
        · exact small1000 (by rw [List.length_take]; omega)
        · rw [upd_same, List.take_add_one, hx]
          rfl
      · obtain ⟨sm, ed⟩ := hp
        rw [List.take_length] at ed
        exact q _ _ sm (.lst ed k n)
    | @tup a xs ds h k n =>
      refine ⟨.ref a, rfl, .ref a, .ty "list", .type "tuple", .type "list", false, rfl, .ty "list", .base (.tup h), kit_ty (by decide +kernel), false, rfl, iteF ?_⟩
      refine ⟨.ref a, rfl, .ref a, .ty "tuple", .type "tuple", .type "tuple", true, rfl, .ty "tuple", .base (.tup h), kit_ty (by decide +kernel), true, rfl, iteT ?_⟩
      refine ⟨.ref a, rfl, a, rfl, ⟨_, SqT.of h⟩, fun D hD => ?_⟩
      refine lc_tup (K := K) (a := a) (xs := xs) (fun i H' => Same' H H' ∧ H' D = some (.lst (xs.take i))) ⟨same_new hD, upd_same⟩ (fun i H' _ hp => SqT.of (hp.1 _ _ h)) (fun i x H' hx hp => ?_) (fun H' hp => ?_)
      · obtain ⟨sm, ed⟩ := hp
        obtain ⟨d, fl⟩ := fls_get k hx
        refine ⟨rfl, ?_⟩
        refine ⟨x, rfl, x, d, rfl, fl, _, ed, ?_, same_over hD sm, ?_⟩
        · exact small1000 (by rw [List.length_take]; omega)
        · rw [upd_same, List.take_add_one, hx]
          rfl
      · obtain ⟨sm, ed⟩ := hp
        rw [List.take_length] at ed
        refine ⟨D, _, rfl, .inl ⟨SqL.of ed, fun l hl => ?_⟩⟩
        exact q _ _ (fun b o e => same_new hl b o (sm b o e)) (.tup upd_same k n)
    | @dct a h =>
      refine ⟨.ref a, rfl, .ref a, .ty "list", .type "dict", .type "list", false, rfl, .ty "list", .base (.dK h), kit_ty (by decide +kernel), false, rfl, iteF ?_⟩
      refine ⟨.ref a, rfl, .ref a, .ty "tuple", .type "dict", .type "tuple", false, rfl, .ty "tuple", .base (.dK h), kit_ty (by decide +kernel), false, rfl, iteF ?_⟩
      refine ⟨.ref a, rfl, .ref a, .ty "dict", .type "dict", .type "dict", true, rfl, .ty "dict", .base (.dK h), kit_ty (by decide +kernel), true, rfl, iteT ?_⟩
      refine ⟨a, .dK [], h, trivial, fun od => ⟨.ref a, rfl, a, od, rfl, .inl ⟨[], upd_same, fun D hD => ?_⟩⟩⟩
      have nDa : D ≠ a := fun z => by
        rw [z, upd_same] at hD
        cases hD
      have hD0 : H D = none := by
        rw [upd_ne nDa] at hD
        exact hD
      have atA : (upd (upd H a (.frz od (.dK []))) D (.dK [])) a = some (.frz od (.dK [])) := by rw [upd_ne (Ne.symm nDa), upd_same]
      refine ⟨fun i m H' => H' = upd (upd H a (.frz od (.dK []))) D (.dK []), ⟨0, rfl⟩, fun i m H' hw => .inl ?_⟩
      subst hw
      refine ⟨⟨atA, Nat.zero_le _⟩, atA, q _ _ (fun c o e => ?_) (.dct (by rw [upd_ne nDa, upd_same]))⟩
      by_cases hc : c = a
      · rw [hc, upd_same]
        rw [hc, h] at e
        exact e
      · rw [upd_ne hc, upd_ne (ne_of_none e hD0), upd_ne hc]
        exact e
end
end My
namespace My
open PySem PySem.Spec PyProof.Rows L2
/-! ### words and names, as they are said here -/
def low (c : Nat) : Bool := decide (97 ≤ c) && decide (c ≤ 122)
def wd (z : Str) : Bool := decide (1 ≤ z.length) && decide (z.length ≤ 8) && z.cps.toList.all low
def abc : Str := "abcdefghijklmnopqrstuvwxyz"
theorem low_abc (c : Nat) : decide (c ∈ abc.cps.toList) = low c := by
  have e : abc.cps.toList = [97, 98, 99, 100, 101, 102, 103, 104, 105, 106, 107, 108, 109, 110, 111, 112, 113, 114, 115, 116, 117, 118, 119, 120, 121, 122] := by decide +kernel
  rw [e]
  unfold low
  rw [← Bool.decide_and]
  apply decide_eq_decide.mpr
  simp only [List.mem_cons, List.not_mem_nil, or_false]
  omega
theorem sign_at {z : Str} {i : Nat} {c : Nat} (h : z.cps[i]? = some c) : z.cps.toList[i]? = some c := by simpa using h
/-- what is no text: None, a number, a truth, a tuple, a list, a dict -/
def NoText (K : PySem.W.Frag) (H : Hp) (x : V) : Prop := ∃ T : String, TyX K H x (.type T) ∧ kitB T "str" = some false
def spWord (K : PySem.W.Frag) (ans : Str → Bool) : Sp := fun vs H Q _ => ∃ x : V, vs = [x] ∧
  ((∃ z : Str, x = .str z ∧ z.length ≤ 1000 ∧ ∀ H', Same' H H' → Q (.bl (ans z)) H') ∨ (NoText K H x ∧ Q (.bl false) H))
def kept : List Str := ["put", "copy", "if", "else", "say", "fail", "catch", "choose", "or", "none", "stop", "skip", "cell", "log", "failure", "choice"]
def nm (z : Str) : Bool := wd z && !inV (.str z) (kept.map V.str)
section
variable {P : Program} {w : World} {K : PySem.W.Frag} {mg : Str → Option Value} {base : Heap}
abbrev nWord : List Str := ["value", "sign"]
theorem scWord : FnScope nWord ["value"] (defScope sWord) := ⟨rfl, rfl, rfl, by decide +kernel, rfl, by decide +kernel, by decide +kernel⟩
theorem ok_word {f : Addr} {fd : FuncData} {tl tn : Tok} (F : Fun K "is_word" "is_word" sWord f fd) (T : Txt mg) (mL : mg "LETTERS" = some (.str abc tl)) (mN : mg "LONGEST" = some (.int 8 tn)) : FnOk P w K mg base CX0 1 f fd ["value"] (spWord K wd) := by
  refine F.ok scWord (fun vs H Q E h => ?_) (fun cdv A outer s H vs Q E hr h => ?_)
  · obtain ⟨x, rfl, _⟩ := h
    rfl
  · obtain ⟨x, rfl, h⟩ := h
    refine ⟨_, pss_one (ps_ret (pe_and (pe_callB call_isi (by rfl) T.isi (by decide +kernel) (pa_cons (pv 0) (pa_cons (pe_bltn (by rfl) T.str (by decide +kernel) (show RelV (.ty "str") _ from rfl)) pa_nil)))
      (pe_and (pe_chain op_le op_le pe_int (pe_callB call_len_str (by rfl) T.len PySem.boot_len (pa_cons (pv 0) pa_nil)) (pe_glob (v := .int 8) rfl mN ⟨_, rfl⟩))
      (pe_one (pe_callB (cr_all rfl) (by rfl) T.all (by decide +kernel) (pa_cons
        (pe_lc (own := [("sign", 1)]) (g := gName 1) (tt := tYes) rfl scWord.nd (pi_str (pv 0)) (blkOk_by (N := nWord) (sc := defScope sWord) (by decide +kernel)) (fun _ _ _ _ _ => pg_name (i := 1) scWord.nd rfl (Or.inl rfl)) (fun _ _ _ _ _ => pts_nil)
          (fun _ _ _ _ _ => pe_cmpR op_in_sign (pv 1) (pe_glob (v := .str abc) rfl mL ⟨_, rfl⟩) rfl)) pa_nil)))))), ?_⟩
    refine ⟨x, rfl, ?_⟩
    rcases h with ⟨z, rfl, zl, q⟩ | ⟨⟨T, ty, kt⟩, q⟩
    · refine ⟨.str z, .ty "str", .type "str", .type "str", true, rfl, .ty "str", .base (.str z), kit_ty (by decide +kernel), true, rfl, iteT ?_⟩
      have zs : z.length < sizeLine := small1000 zl
      refine ⟨.str z, rfl, z, rfl, Nat.le_of_lt zs, 1, _, rfl, rfl, _, rfl, ite2 (fun e => ?_) (fun e => ?_)⟩
      · refine ⟨_, 8, rfl, rfl, _, rfl, ite2 (fun e2 => ?_) (fun e2 => ?_)⟩
        · have l1 := of_decide_eq_true e
          have l2 := of_decide_eq_true e2
          refine ⟨.str z, rfl, z, rfl, fun D hD => ?_⟩
          refine lc_it walk_str (fun i H' => Same' H H' ∧ H' D = some (.lst ((z.cps.toList.take i).map fun c => V.bl (low c)))) ⟨same_new hD, upd_same⟩ (fun _ _ _ _ => trivial) (fun i x H1 H2 hi hp hy => ?_) (fun H' hp => ?_)
          · obtain ⟨sm, ed⟩ := hp
            obtain ⟨rfl, c, hc, rfl⟩ := hy
            have hc' := sign_at hc
            refine ⟨rfl, ?_⟩
            refine ⟨_, rfl, c, abc, rfl, rfl, _, ed, ?_, same_over hD sm, ?_⟩
            · rw [List.length_map, List.length_take]
              exact Nat.lt_of_le_of_lt (Nat.min_le_right _ _) (by rw [Array.length_toList]; exact zs)
            · rw [upd_same, List.take_add_one, hc', low_abc, List.map_append]
              rfl
          · obtain ⟨sm, ed⟩ := hp
            refine ⟨D, z.cps.toList.map low, rfl, SqL.of ?_, ?_⟩
            · rw [ed, List.take_of_length_le (by rw [Array.length_toList]; exact Nat.le_refl _), List.map_map]
              rfl
            · have ez : (z.cps.toList.map low).all id = wd z := by
                unfold wd
                rw [decide_eq_true (show 1 ≤ z.length by omega), decide_eq_true (show z.length ≤ 8 by omega), List.all_map]
                rfl
              rw [ez]
              exact q _ sm
        · have ez : wd z = false := by
            have := of_decide_eq_false (Bool.eq_false_iff.mpr e2)
            unfold wd
            rw [decide_eq_false (show ¬ z.length ≤ 8 by omega), Bool.and_false, Bool.false_and]
          exact ez ▸ q H fun _ _ e => e
      · refine ⟨false, rfl, iteF ?_⟩
        have ez : wd z = false := by
          have := of_decide_eq_false (Bool.eq_false_iff.mpr e)
          unfold wd
          rw [decide_eq_false (show ¬ 1 ≤ z.length by omega), Bool.false_and, Bool.false_and]
        exact ez ▸ q H fun _ _ e => e
    · refine ⟨x, .ty "str", .type T, .type "str", false, rfl, .ty "str", ty, kit_ty kt, false, rfl, iteF q⟩
abbrev nName : List Str := ["value"]
theorem scName : FnScope nName ["value"] (defScope sName) := ⟨rfl, rfl, rfl, by decide +kernel, rfl, by decide +kernel, by decide +kernel⟩
theorem ok_name {f fW aK : Addr} {fd fdW : FuncData} (F : Fun K "is_name" "is_name" sName f fd) (FW : Fun K "is_word" "is_word" sWord fW fdW) (bW : Binds K fdW ["value"] []) (gW : mg "is_word" = some (.ref fW)) (G : FnOk P w K mg base CX0 1 fW fdW ["value"] (spWord K wd))
    (mK : mg "KEPT_WORDS" = some (.ref aK)) (hK : ∀ H, SqT K H aK (kept.map V.str)) : FnOk P w K mg base CX0 2 f fd ["value"] (spWord K nm) := by
  refine F.ok scName (fun vs H Q E h => ?_) (fun cdv A outer s H vs Q E hr h => ?_)
  · obtain ⟨x, rfl, _⟩ := h
    rfl
  · obtain ⟨x, rfl, h⟩ := h
    refine ⟨_, pss_one (ps_ret (pe_and (pe_call G hr (by rfl) gW FW.kp bW .nil pass0 (pa_cons (pv 0) pa_nil))
      (pe_one (pe_cmpR op_notIn_seq (pv 0) (pe_glob (v := .ref aK) rfl mK rfl) (by rfl))))), ?_⟩
    refine ⟨x, rfl, x, rfl, ?_⟩
    rcases h with ⟨z, rfl, zl, q⟩ | ⟨nt, q⟩
    · refine .inl ⟨z, rfl, zl, fun H' sm => ?_⟩
      cases hz : wd z with
      | true =>
        refine ⟨true, rfl, iteT ⟨.str z, rfl, aK, _, rfl, .inr (hK _), rfl, by decide +kernel, ?_⟩⟩
        have e : nm z = !inV (.str z) (kept.map V.str) := by
          unfold nm
          rw [hz, Bool.true_and]
        exact e ▸ q H' sm
      | false =>
        refine ⟨false, rfl, iteF ?_⟩
        have e : nm z = false := by
          unfold nm
          rw [hz, Bool.false_and]
        exact e ▸ q H' sm
    · exact .inr ⟨nt, false, rfl, iteF q⟩

end
end My
namespace My
open PySem PySem.Spec PyProof.Rows L2
abbrev sIniN : Stmt := inClass (topS 7) 0
abbrev sIniB : Stmt := inClass (topS 8) 0
/-- self.value = copied(value) -/
def spIni (K : PySem.W.Frag) (C : Addr) : Sp := fun vs H Q _ => ∃ (a : Addr) (x : V) (d : PyData), vs = [.ref a, x] ∧ H a = some (exo a C none) ∧ Th H x d ∧
  ∀ (y : V) (dx : Addr) (H' : Hp), (∀ b o, b ≠ a → H b = some o → H' b = some o) → H dx = none → H' a = some (exo a C (some dx)) → H' dx = some (exd dx [("value", y)]) → Th H' y d → Q .non H'
/-- an error class with the field value, as the top has made it -/
structure Err (K : PySem.W.Frag) (mg : Str → Option Value) (name : String) (C fI : Addr) : Prop where
  g : mg name = some (.ref C)
  ox : OexC K C
  ini : PySem.W.findIn K (.ref C) "__init__" = some (some (.ref fI))
  ty : PySem.W.typeIn K (.ref fI) = some (.type "function")
  no : PySem.W.findIn K (.ref C) "value" = some none
theorem th_exo {H : Hp} {x : V} {d : PyData} {a C : Addr} (h : Th H x d) (ha : H a = some (exo a C none)) {H' : Hp} (k : ∀ b o, b ≠ a → H b = some o → H' b = some o) : Th H' x d := by
  have ne : ∀ {b : Addr} {o : HO}, H b = some o → o ≠ exo a C none → b ≠ a := fun e n z => by
    rw [z, ha] at e
    injection e with e
    exact n e.symm
  cases h with
  | flat h => exact .flat h
  | lst h r n => exact .lst (k _ _ (ne h (by intro z; cases z)) h) r n
  | tup h r n => exact .tup (k _ _ (ne h (by intro z; cases z)) h) r n
  | dct h => exact .dct (k _ _ (ne h (by intro z; cases z)) h)
section
variable {P : Program} {w : World} {K : PySem.W.Frag} {mg : Str → Option Value} {base : Heap}
theorem scIniN : FnScope ["self", "value"] ["self", "value"] (defScope sIniN) := ⟨rfl, rfl, rfl, by decide +kernel, rfl, by decide +kernel, by decide +kernel⟩
theorem scIniB : FnScope ["self", "value"] ["self", "value"] (defScope sIniB) := ⟨rfl, rfl, rfl, by decide +kernel, rfl, by decide +kernel, by decide +kernel⟩
theorem ini_read {C : Addr} (ox : OexC K C) (no : PySem.W.findIn K (.ref C) "value" = some none) {vs : List V} {H : Hp} {Q : VK} {E E2 : XK} {N : List Str} (h : spIni K C vs H Q E) (hN : N = (["self", "value"] : List Str)) :
    tOst K "value" (tVar 0) (tCall spCopied [] E2 (tCons (tVar 1) tNil)) { nx := fun _ H' => Q .non H', rt := Q } (start N vs) H := by
  subst hN
  obtain ⟨a, x, d, rfl, ha, th, q⟩ := h
  refine ⟨x, rfl, x, d, rfl, th, fun y H1 sm th1 => ⟨.ref a, rfl, a, C, rfl, ox, no, .inl ⟨sm _ _ ha, fun dx hdx ne => ?_⟩⟩⟩
  have hd0 : H dx = none := by
    cases e : H dx with
    | none => rfl
    | some o =>
      rw [sm _ _ e] at hdx
      cases hdx
  have keep1 : ∀ b o, b ≠ a → H1 b = some o → (upd (upd H1 dx (exd dx [("value", y)])) a (exo a C (some dx))) b = some o := fun b o n e => by
    rw [upd_ne n, upd_ne (ne_of_none e hdx)]
    exact e
  refine q y dx _ (fun b o n e => keep1 b o n (sm b o e)) hd0 upd_same ?_ (th_exo th1 (sm _ _ ha) keep1)
  rw [upd_ne ne, upd_same]
theorem ok_iniN {f fC C : Addr} {fd fdC : FuncData} (F : Fun K "__init__" "BadName.__init__" sIniN f fd) (ox : OexC K C) (no : PySem.W.findIn K (.ref C) "value" = some none) (FC : Fun K "copied" "copied" sCopied fC fdC) (b : Binds K fdC ["value"] []) (g : mg "copied" = some (.ref fC))
    (G : FnOk P w K mg base CX0 2 fC fdC ["value"] spCopied) : FnOk P w K mg base CX0 3 f fd ["self", "value"] (spIni K C) := by
  refine F.ok scIniN (fun vs H Q E h => ?_) (fun cdv A outer s H vs Q E hr h => ?_)
  · obtain ⟨a, x, d, rfl, _⟩ := h
    rfl
  · exact ⟨_, pss_one (ps_ost (pv 0) (pe_call G hr (by rfl) g FC.kp b .nil pass0 (pa_cons (pv 1) pa_nil))), ini_read ox no h rfl⟩
theorem ok_iniB {f fC C : Addr} {fd fdC : FuncData} (F : Fun K "__init__" "BadNumber.__init__" sIniB f fd) (ox : OexC K C) (no : PySem.W.findIn K (.ref C) "value" = some none) (FC : Fun K "copied" "copied" sCopied fC fdC) (b : Binds K fdC ["value"] []) (g : mg "copied" = some (.ref fC))
    (G : FnOk P w K mg base CX0 2 fC fdC ["value"] spCopied) : FnOk P w K mg base CX0 3 f fd ["self", "value"] (spIni K C) := by
  refine F.ok scIniB (fun vs H Q E h => ?_) (fun cdv A outer s H vs Q E hr h => ?_)
  · obtain ⟨a, x, d, rfl, _⟩ := h
    rfl
  · exact ⟨_, pss_one (ps_ost (pv 0) (pe_call G hr (by rfl) g FC.kp b .nil pass0 (pa_cons (pv 1) pa_nil))), ini_read ox no h rfl⟩
/-- what is told of a raised error with the field value -/
def Told (E : XK) (C : Addr) (H : Hp) (d : PyData) : Prop := ∀ (y : V) (dd : Addr) (H' : Hp), Same' H H' → H' dd = some (.xd [("value", y)]) → Th H' y d → E (.ref C) (some dd) H'
/-- what is raised is told -/
theorem raised {C fI : Addr} {x : V} {d : PyData} {H : Hp} {E : XK} (th : Th H x d) (told : Told E C H d) : ∀ a, H a = none → spIni K C (.ref a :: ([x] ++ [])) (upd H a (exo a C none))
    (fun v H2 => v = .non ∧ ∃ (dd : Addr) (fs : List (Str × V)), H2 a = some (exo a C (some dd)) ∧ H2 dd = some (exd dd fs) ∧ H dd = none ∧ E (.ref C) (some dd) (upd (del H2 a) dd (.xd fs))) (fun _ _ _ => False) := by
  intro a ha
  refine ⟨a, x, d, rfl, upd_same, th.keep fun b o e => by rw [upd_ne (ne_of_none e ha)]; exact e, fun y dx H' keep hdx ea ed th' => ⟨rfl, dx, _, ea, ed, ?_, ?_⟩⟩
  · have n : dx ≠ a := fun z => by
      rw [z, upd_same] at hdx
      cases hdx
    rw [upd_ne n] at hdx
    exact hdx
  · have n : dx ≠ a := fun z => by
      rw [z, upd_same] at hdx
      cases hdx
    rw [upd_ne n] at hdx
    have up : ∀ b o, b ≠ a → b ≠ dx → H' b = some o → (upd (del H' a) dx (.xd [("value", y)])) b = some o := fun b o n1 n2 e => by
      rw [upd_ne n2, del_ne n1]
      exact e
    refine told y dx _ (fun b o e => ?_) upd_same ?_
    · have n1 : b ≠ a := ne_of_none e ha
      have n2 : b ≠ dx := ne_of_none e hdx
      exact up b o n1 n2 (keep b o n1 (by rw [upd_ne n1]; exact e))
    · cases th' with
      | flat h => exact .flat h
      | lst h r n => exact .lst (up _ _ (fun z => by rw [z, ea] at h; cases h) (fun z => by rw [z, ed] at h; cases h) h) r n
      | tup h r n => exact .tup (up _ _ (fun z => by rw [z, ea] at h; cases h) (fun z => by rw [z, ed] at h; cases h) h) r n
      | dct h => exact .dct (up _ _ (fun z => by rw [z, ea] at h; cases h) (fun z => by rw [z, ed] at h; cases h) h)
/-- a value that may be asked whether it is a name -/
def NameArg (K : PySem.W.Frag) (H : Hp) (x : V) : Prop := (∃ z : Str, x = .str z ∧ z.length ≤ 1000) ∨ NoText K H x
def isN (x : V) : Bool := match x with
  | .str z => nm z
  | _ => false
theorem noText_isN {H : Hp} {x : V} (h : NoText K H x) : isN x = false := by
  obtain ⟨T, ty, k⟩ := h
  cases x with
  | str z =>
    exfalso
    cases ty with
    | base b =>
      cases b
      exact absurd k (by decide +kernel)
  | _ => rfl
def spCheck (K : PySem.W.Frag) (C : Addr) : Sp := fun vs H Q E => ∃ (x : V) (d : PyData), vs = [x] ∧ NameArg K H x ∧ Th H x d ∧ (isN x = true → ∀ H', Same' H H' → Q .non H') ∧ (isN x = false → Told E C H d)
theorem scCheck : FnScope ["value"] ["value"] (defScope sCheck) := ⟨rfl, rfl, rfl, by decide +kernel, rfl, by decide +kernel, by decide +kernel⟩
theorem ok_check {f fN C fI : Addr} {fd fdN fdI : FuncData} (F : Fun K "check_name" "check_name" sCheck f fd) (FN : Fun K "is_name" "is_name" sName fN fdN) (bN : Binds K fdN ["value"] []) (gN : mg "is_name" = some (.ref fN)) (GN : FnOk P w K mg base CX0 2 fN fdN ["value"] (spWord K nm))
    (EN : Err K mg "BadName" C fI) (bI : Binds K fdI ["self", "value"] []) (GI : FnOk P w K mg base CX0 3 fI fdI ["self", "value"] (spIni K C)) : FnOk P w K mg base (L2.CX P w) 5 f fd ["value"] (spCheck K C) := by
  refine F.okX scCheck (fun vs H Q E h => ?_) (fun cdv A outer s H vs Q E hr h => ?_)
  · obtain ⟨x, d, rfl, _⟩ := h
    rfl
  · obtain ⟨x, d, rfl, na, th, yes, no⟩ := h
    refine ⟨_, pss_one (ps_if (pt_not (pt_val (pe_call GN (hr.mono (by decide)) (by rfl) gN FN.kp bN .nil pass0 (pa_cons (pv 0) pa_nil))))
      (pss_one (ps_raise rfl (takes_of rfl rfl rfl rfl) (pmk_oex EN.ox EN.ini EN.ty GI hr bI .nil pass0 (by rfl) EN.g (pa_cons (pv 0) pa_nil)))) pss_nil), ?_⟩
    refine ⟨x, rfl, x, rfl, ?_⟩
    rcases na with ⟨z, rfl, zl⟩ | nt
    · refine .inl ⟨z, rfl, zl, fun H1 sm => ⟨nm z, rfl, ?_⟩⟩
      cases hz : nm z with
      | true => exact iteF (yes hz H1 sm)
      | false =>
        refine iteT ⟨_, rfl, by show 1 ≤ 1000; decide, ?_⟩
        refine raised (fI := fI) (th.keep sm) fun y dd H' k1 k2 k3 => no hz y dd H' (sm.trans k1) k2 k3
    · refine .inr ⟨nt, false, rfl, iteT ⟨_, rfl, by show 1 ≤ 1000; decide, ?_⟩⟩
      exact raised (fI := fI) th (no (noText_isN nt))
end
end My
namespace My
open PySem PySem.Spec PyProof.Rows L2
abbrev sCellI : Stmt := inClass (topS 24) 3
abbrev sLogI : Stmt := inClass (topS 25) 1
abbrev sFailI : Stmt := inClass (topS 26) 1
abbrev sChoI : Stmt := inClass (topS 27) 1
def isW (x : V) : Bool := match x with
  | .int _ => true
  | _ => false
def isZ (x : V) : Bool := match x with
  | .int i => decide (2 ≤ i) && decide (i ≤ 4)
  | _ => false
def spWhole : Sp := fun vs H Q _ => ∃ (x : V) (d : PyData), vs = [x] ∧ Th H x d ∧ Q (.bl (isW x)) H
theorem th_kinds {K : PySem.W.Frag} {H : Hp} {x : V} {d : PyData} (h : Th H x d) : ∃ (S : String) (b : Bool), TyX K H x (.type S) ∧ kitB S "int" = some b ∧ (b = true → ∃ c, kitB S "bool" = some c ∧ isW x = !c) ∧ (b = false → isW x = false) := by
  cases h with
  | flat h =>
    cases h with
    | non => exact ⟨"NoneType", false, .base .non, by decide +kernel, (fun z => nomatch z), fun _ => rfl⟩
    | bl b => exact ⟨"bool", true, .base (.bl b), by decide +kernel, fun _ => ⟨true, by decide +kernel, rfl⟩, fun z => nomatch z⟩
    | int i => exact ⟨"int", true, .base (.int i), by decide +kernel, fun _ => ⟨false, by decide +kernel, rfl⟩, fun z => nomatch z⟩
    | str z => exact ⟨"str", false, .base (.str z), by decide +kernel, (fun z => nomatch z), fun _ => rfl⟩
  | lst h k n => exact ⟨"list", false, .base (.lst h), by decide +kernel, (fun z => nomatch z), fun _ => rfl⟩
  | tup h k n => exact ⟨"tuple", false, .base (.tup h), by decide +kernel, (fun z => nomatch z), fun _ => rfl⟩
  | dct h => exact ⟨"dict", false, .base (.dK h), by decide +kernel, (fun z => nomatch z), fun _ => rfl⟩
/-- a handler class -/
structure HCls (K : PySem.W.Frag) (mg : Str → Option Value) (name : String) (C : Addr) : Prop where
  g : mg name = some (.ref C)
  c : Cls K C
  nn : NoAttr K C "name"
  ns : NoAttr K C "size"
theorem told_more {E : XK} {C : Addr} {H H' : Hp} {d : PyData} (t : Told E C H d) (sm : Same' H H') : Told E C H' d := fun y dd H2 k => t y dd H2 (sm.trans k)
/-- all else is kept -/
def Keep1 (a : Addr) (H H' : Hp) : Prop := ∀ b o, b ≠ a → H b = some o → H' b = some o
section
variable {P : Program} {w : World} {K : PySem.W.Frag} {mg : Str → Option Value} {base : Heap}
theorem scWhole : FnScope ["value"] ["value"] (defScope sWhole) := ⟨rfl, rfl, rfl, by decide +kernel, rfl, by decide +kernel, by decide +kernel⟩
theorem ok_whole {f : Addr} {fd : FuncData} (F : Fun K "is_whole" "is_whole" sWhole f fd) (T : Txt mg) : FnOk P w K mg base CX0 1 f fd ["value"] spWhole := by
  refine F.ok scWhole (fun vs H Q E h => ?_) (fun cdv A outer s H vs Q E hr h => ?_)
  · obtain ⟨x, d, rfl, _⟩ := h
    rfl
  · obtain ⟨x, d, rfl, th, q⟩ := h
    refine ⟨_, pss_one (ps_ret (pe_and (pe_callB call_isi (by rfl) T.isi (by decide +kernel) (pa_cons (pv 0) (pa_cons (pe_bltn (by rfl) T.int (by decide +kernel) (show RelV (.ty "int") _ from rfl)) pa_nil)))
      (pe_one (pe_not (pe_callB call_isi (by rfl) T.isi (by decide +kernel) (pa_cons (pv 0) (pa_cons (pe_bltn (by rfl) T.bool (by decide +kernel) (show RelV (.ty "bool") _ from rfl)) pa_nil))))))), ?_⟩
    obtain ⟨S, b, ty, k, h1, h2⟩ := th_kinds (K := K) th
    refine ⟨x, rfl, x, .ty "int", .type S, .type "int", b, rfl, .ty "int", ty, kit_ty k, b, rfl, ?_⟩
    cases b with
    | true =>
      obtain ⟨c, kc, e⟩ := h1 rfl
      refine iteT ⟨x, rfl, x, .ty "bool", .type S, .type "bool", c, rfl, .ty "bool", ty, kit_ty kc, c, rfl, ?_⟩
      exact e ▸ q
    | false => exact iteF (h2 rfl ▸ q)
/-- Log(name), Failure(name) -/
def spNamed (K : PySem.W.Frag) (C CN : Addr) : Sp := fun vs H Q E => ∃ (a dx : Addr) (x : V) (d : PyData), vs = [.ref a, x] ∧ H a = some (.ins C dx []) ∧ NameArg K H x ∧ Th H x d ∧
  (isN x = true → ∀ H', Keep1 a H H' → H' a = some (.ins C dx [("name", x)]) → Q .non H') ∧ (isN x = false → Told E CN H d)
theorem scLogI : FnScope ["self", "name"] ["self", "name"] (defScope sLogI) := ⟨rfl, rfl, rfl, by decide +kernel, rfl, by decide +kernel, by decide +kernel⟩
theorem scFailI : FnScope ["self", "name"] ["self", "name"] (defScope sFailI) := ⟨rfl, rfl, rfl, by decide +kernel, rfl, by decide +kernel, by decide +kernel⟩
theorem named_body {C CN : Addr} {nm : String} (HC : HCls K mg nm C) {vs : List V} {H : Hp} {Q : VK} {E E2 : XK} (h : spNamed K C CN vs H Q E) (hE : E2 = E) :
    tDrop (tCall (spCheck K CN) [] E2 (tCons (tVar 1) tNil)) { nx := fun σ H1 => sFld K (tVar 0) (tVar 1) "name" { nx := fun _ H' => Q .non H', rt := Q } σ H1, rt := Q } (start ["self", "name"] vs) H := by
  subst hE
  obtain ⟨a, dx, x, d, rfl, ha, na, th, yes, no⟩ := h
  refine ⟨x, rfl, x, d, rfl, na, th, fun hx H1 sm => ?_, no⟩
  refine ⟨x, rfl, .ref a, rfl, a, C, dx, [], rfl, sm _ _ ha, HC.c, HC.nn, by decide, ?_⟩
  exact yes hx _ (fun b o n e => by rw [upd_ne n]; exact sm b o e) upd_same
theorem ok_logI {f fCh C CN : Addr} {fd fdCh : FuncData} {nm : String} (F : Fun K "__init__" "Log.__init__" sLogI f fd) (HC : HCls K mg nm C) (FC : Fun K "check_name" "check_name" sCheck fCh fdCh) (bC : Binds K fdCh ["value"] []) (gC : mg "check_name" = some (.ref fCh)) (G : FnOk P w K mg base (L2.CX P w) 5 fCh fdCh ["value"] (spCheck K CN)) :
    FnOk P w K mg base (L2.CX P w) 6 f fd ["self", "name"] (spNamed K C CN) := by
  refine F.okX scLogI (fun vs H Q E h => ?_) (fun cdv A outer s H vs Q E hr h => ?_)
  · obtain ⟨a, dx, x, d, rfl, _⟩ := h
    rfl
  · exact ⟨_, pss_cons (ps_expr (pe_call G hr (by rfl) gC FC.kp bC .nil (passes_call (takes_of rfl rfl rfl rfl) (fun _ _ _ _ h => h)) (pa_cons (pv 1) pa_nil))) (pss_one (ps_fld (pv 0) (pv 1) (by rfl))), named_body HC h rfl⟩
theorem ok_failI {f fCh C CN : Addr} {fd fdCh : FuncData} {nm : String} (F : Fun K "__init__" "Failure.__init__" sFailI f fd) (HC : HCls K mg nm C) (FC : Fun K "check_name" "check_name" sCheck fCh fdCh) (bC : Binds K fdCh ["value"] []) (gC : mg "check_name" = some (.ref fCh)) (G : FnOk P w K mg base (L2.CX P w) 5 fCh fdCh ["value"] (spCheck K CN)) :
    FnOk P w K mg base (L2.CX P w) 6 f fd ["self", "name"] (spNamed K C CN) := by
  refine F.okX scFailI (fun vs H Q E h => ?_) (fun cdv A outer s H vs Q E hr h => ?_)
  · obtain ⟨a, dx, x, d, rfl, _⟩ := h
    rfl
  · exact ⟨_, pss_cons (ps_expr (pe_call G hr (by rfl) gC FC.kp bC .nil (passes_call (takes_of rfl rfl rfl rfl) (fun _ _ _ _ h => h)) (pa_cons (pv 1) pa_nil))) (pss_one (ps_fld (pv 0) (pv 1) (by rfl))), named_body HC h rfl⟩
/-- Choice() -/
def spChoI (C : Addr) : Sp := fun vs H Q _ => ∃ (a dx : Addr), vs = [.ref a] ∧ H a = some (.ins C dx []) ∧ ∀ H', Keep1 a H H' → H' a = some (.ins C dx [("name", .str "choice")]) → Q .non H'
theorem scChoI : FnScope ["self"] ["self"] (defScope sChoI) := ⟨rfl, rfl, rfl, by decide +kernel, rfl, by decide +kernel, by decide +kernel⟩
theorem ok_choI {f C : Addr} {fd : FuncData} {nm : String} (F : Fun K "__init__" "Choice.__init__" sChoI f fd) (HC : HCls K mg nm C) : FnOk P w K mg base CX0 1 f fd ["self"] (spChoI C) := by
  refine F.ok scChoI (fun vs H Q E h => ?_) (fun cdv A outer s H vs Q E hr h => ?_)
  · obtain ⟨a, dx, rfl, _⟩ := h
    rfl
  · obtain ⟨a, dx, rfl, ha, q⟩ := h
    refine ⟨_, pss_one (ps_fld (pv 0) pe_str (by rfl)), .ref a, rfl, a, C, dx, [], rfl, ha, HC.c, HC.nn, by decide, ?_⟩
    exact q _ (fun b o n e => by rw [upd_ne n]; exact e) upd_same
/-- Cell(name, size) -/
def spCellI (K : PySem.W.Frag) (C CN CZ : Addr) : Sp := fun vs H Q E => ∃ (a dx : Addr) (x z : V) (d dz : PyData), vs = [.ref a, x, z] ∧ H a = some (.ins C dx []) ∧ NameArg K H x ∧ Th H x d ∧ Th H z dz ∧
  (isN x = true → isZ z = true → ∀ H', Keep1 a H H' → H' a = some (.ins C dx [("name", x), ("size", z)]) → Q .non H') ∧ (isN x = false → Told E CN H d) ∧ (isN x = true → isZ z = false → Told E CZ H dz)
theorem scCellI : FnScope ["self", "name", "size"] ["self", "name", "size"] (defScope sCellI) := ⟨rfl, rfl, rfl, by decide +kernel, rfl, by decide +kernel, by decide +kernel⟩
theorem ok_cellI {f fCh fW C CN CZ fI : Addr} {fd fdCh fdW fdI : FuncData} {mc : Value} {t2 t4 : Tok} (F : FunD K "__init__" "Cell.__init__" (defArgs sCellI) (defBody sCellI) (defScope sCellI) [.int 2] [] f fd) (HC : HCls K mg "Cell" C) (FC : Fun K "check_name" "check_name" sCheck fCh fdCh) (bC : Binds K fdCh ["value"] []) (gC : mg "check_name" = some (.ref fCh)) (G : FnOk P w K mg base (L2.CX P w) 5 fCh fdCh ["value"] (spCheck K CN))
    (FW : Fun K "is_whole" "is_whole" sWhole fW fdW) (bW : Binds K fdW ["value"] []) (gW : mg "is_whole" = some (.ref fW)) (GW : FnOk P w K mg base CX0 1 fW fdW ["value"] spWhole)
    (rd : ClX.CRead K C mc) (v2 : ClX.CVal K C mc "LEAST" (.int 2) (.int 2 t2)) (v4 : ClX.CVal K C mc "MOST" (.int 4) (.int 4 t4))
    (EN : Err K mg "BadNumber" CZ fI) (bI : Binds K fdI ["self", "value"] []) (GI : FnOk P w K mg base CX0 3 fI fdI ["self", "value"] (spIni K CZ)) :
    FnOk P w K mg base (L2.CX P w) 6 f fd ["self", "name", "size"] (spCellI K C CN CZ) := by
  refine F.ok scCellI (fun vs H Q E h => ?_) (fun cdv A outer s H vs Q E hr h => ?_)
  · obtain ⟨a, dx, x, z, d, dz, rfl, _⟩ := h
    rfl
  · obtain ⟨a, dx, x, z, d, dz, rfl, ha, na, th, tz, yes, no, noz⟩ := h
    refine ⟨_, pss_cons (ps_expr (pe_call G hr (by rfl) gC FC.kp bC .nil (passes_call (takes_of rfl rfl rfl rfl) (fun _ _ _ _ h => h)) (pa_cons (pv 1) pa_nil)))
      (pss_cons (ps_if (PW.pt (pw_or (pt_not (pt_val (pe_call GW (hr.mono (by decide)) (by rfl) gW FW.kp bW .nil pass0 (pa_cons (pv 2) pa_nil))))
          (pw_or1 (pt_not (pt_chain op_le op_le (ClX.pe_cval (pe_glob (v := .ref C) rfl HC.g rfl)) (pv 2) (ClX.pe_cval (pe_glob (v := .ref C) rfl HC.g rfl)))))))
        (pss_one (ps_raise rfl (takes_of rfl rfl rfl rfl) (pmk_oex EN.ox EN.ini EN.ty GI (hr.mono (by decide)) bI .nil pass0 (by rfl) EN.g (pa_cons (pv 2) pa_nil)))) pss_nil)
      (pss_cons (ps_fld (pv 0) (pv 1) (by rfl)) (pss_one (ps_fld (pv 0) (pv 2) (by rfl))))), ?_⟩
    refine ⟨x, rfl, x, d, rfl, na, th, fun hx H1 sm => ?_, no⟩
    have tz1 := tz.keep sm
    refine ⟨z, rfl, z, dz, rfl, tz1, isW z, rfl, ?_⟩
    have good : isZ z = true → tSeq (sFld K (tVar 0) (tVar 1) "name") (sFld K (tVar 0) (tVar 2) "size") { nx := fun _ H' => Q V.non H', rt := Q } (L2.start ["self", "name", "size"] [V.ref a, x, z]) H1 := fun hz => by
      refine ⟨x, rfl, .ref a, rfl, a, C, dx, [], rfl, sm _ _ ha, HC.c, HC.nn, by decide, ?_⟩
      refine ⟨z, rfl, .ref a, rfl, a, C, dx, [("name", x)], rfl, upd_same, HC.c, HC.ns, by show 1 < 1000; decide, ?_⟩
      exact yes hx hz _ (fun b o n e => by rw [upd_ne n, upd_ne n]; exact sm b o e) upd_same
    cases hw : isW z with
    | false =>
      have hz : isZ z = false := by
        cases z <;> first | rfl | cases hw
      refine iteT (iteT ⟨_, rfl, by show 1 ≤ 1000; decide, ?_⟩)
      exact raised (fI := fI) tz1 (told_more (noz hx hz) sm)
    | true =>
      obtain ⟨i, rfl⟩ : ∃ i, z = .int i := by
        cases z <;> first | exact ⟨_, rfl⟩ | cases hw
      refine iteF ⟨C, mc, .int 2, _, rfl, rd, v2, .int i, rfl, 2, i, rfl, rfl, _, rfl, ite2 (fun e => ?_) (fun e => ?_)⟩
      · refine ⟨C, mc, .int 4, _, rfl, rd, v4, i, 4, rfl, rfl, _, rfl, ite2 (fun e2 => ?_) (fun e2 => ?_)⟩
        · have hz : isZ (.int i) = false := by
            show (decide (2 ≤ i) && decide (i ≤ 4)) = false
            rw [Bool.not_eq_true'] at e2
            rw [e2, Bool.and_false]
          refine ⟨_, rfl, by show 1 ≤ 1000; decide, ?_⟩
          exact raised (fI := fI) tz1 (told_more (noz hx hz) sm)
        · have hz : isZ (.int i) = true := by
            show (decide (2 ≤ i) && decide (i ≤ 4)) = true
            have e3 : decide (i ≤ 4) = true := by
              cases q : decide (i ≤ 4) with
              | true => rfl
              | false => exact absurd (by rw [q]; rfl) e2
            rw [e, e3]
            rfl
          exact good hz
      · have hz : isZ (.int i) = false := by
          show (decide (2 ≤ i) && decide (i ≤ 4)) = false
          rw [Bool.eq_false_iff.mpr e, Bool.false_and]
        refine ⟨_, rfl, iteT ?_⟩
        refine ⟨_, rfl, by show 1 ≤ 1000; decide, ?_⟩
        exact raised (fI := fI) tz1 (told_more (noz hx hz) sm)
end
end My
namespace My
open PySem PySem.Spec PyProof.Rows L2
/-! ### handlers as they lie -/
theorem len_app (x y : Str) : (x ++ y).length = x.length + y.length := by
  show (x.cps ++ y.cps).size = x.cps.size + y.cps.size
  simp
structure A4 where
  c : Addr
  l : Addr
  f : Addr
  h : Addr
def A4.at (A : A4) : Nat → Addr
  | 0 => A.c
  | 1 => A.l
  | 2 => A.f
  | _ => A.h
inductive HD where
  | cell (n : Str) (z : Int)
  | log (n : Str)
  | fail (n : Str)
  | cho
  deriving DecidableEq
def HD.ix : HD → Nat
  | .cell _ _ => 0
  | .log _ => 1
  | .fail _ => 2
  | .cho => 3
def HD.nm : HD → Str
  | .cell n _ => n
  | .log n => n
  | .fail n => n
  | .cho => "choice"
def HD.wd : HD → Str
  | .cell _ _ => "cell"
  | .log _ => "log"
  | .fail _ => "failure"
  | .cho => "choice"
def HD.flds : HD → List (Str × V)
  | .cell n z => [("name", .str n), ("size", .int z)]
  | .log n => [("name", .str n)]
  | .fail n => [("name", .str n)]
  | .cho => [("name", .str "choice")]
def HD.text : HD → Str
  | .cell n z => (((Str.empty ++ "cell ") ++ n) ++ " ") ++ (toString z : Str)
  | .log n => (Str.empty ++ "log ") ++ n
  | .fail n => (Str.empty ++ "failure ") ++ n
  | .cho => "choice"
def IsH (A : A4) (H : Hp) (a : Addr) (k : HD) : Prop := ∃ dx, H a = some (.ins (A.at k.ix) dx k.flds)
/-- what is no handler -/
def NotH (K : PySem.W.Frag) (A : A4) (H : Hp) (y : V) : Prop := ∃ S : String, TyX K H y (.type S) ∧ ∀ i, i < 4 → PySem.W.kitOne K (.type S) (.ref (A.at i)) = some false ∧ PySem.W.notFirst K (A.at i) (.type S) = true
def Other (K : PySem.W.Frag) (A : A4) (H : Hp) (y : V) (k : HD) (r : Bool) : Prop := (∃ b k2, y = .ref b ∧ IsH A H b k2 ∧ r = decide (k = k2)) ∨ (NotH K A H y ∧ r = false)
structure Hand (K : PySem.W.Frag) (mg : Str → Option Value) (A : A4) : Prop where
  cC : HCls K mg "Cell" A.c
  cL : HCls K mg "Log" A.l
  cF : HCls K mg "Failure" A.f
  cH : HCls K mg "Choice" A.h
  dc : ∀ i, i < 4 → PySem.W.findIn K (.ref (A.at i)) "__class__" = some (some (.builtin "object.__class__"))
  mo : ∀ i, i < 4 → PySem.W.mroIn K (A.at i) (.type "object") = some true
  hn : PySem.W.specialIn K (.builtin "object.__class__") "__get__" = some (some (.builtin "getset_descriptor.__get__"))
  tk : PySem.W.takesIn K (.builtin "object.__class__") = some true
  kit : ∀ i j, i < 4 → j < 4 → PySem.W.kitOne K (.ref (A.at i)) (.ref (A.at j)) = some (decide (i = j))
theorem Hand.cls {K : PySem.W.Frag} {mg : Str → Option Value} {A : A4} (S : Hand K mg A) : ∀ k : HD, Cls K (A.at k.ix) ∧ NoAttr K (A.at k.ix) "name" ∧ NoAttr K (A.at k.ix) "size"
  | .cell _ _ => ⟨S.cC.c, S.cC.nn, S.cC.ns⟩
  | .log _ => ⟨S.cL.c, S.cL.nn, S.cL.ns⟩
  | .fail _ => ⟨S.cF.c, S.cF.nn, S.cF.ns⟩
  | .cho => ⟨S.cH.c, S.cH.nn, S.cH.ns⟩
theorem HD.ix_lt : ∀ k : HD, k.ix < 4
  | .cell _ _ => (by decide : 0 < 4)
  | .log _ => (by decide : 1 < 4)
  | .fail _ => (by decide : 2 < 4)
  | .cho => (by decide : 3 < 4)
theorem Hand.ty {K : PySem.W.Frag} {mg : Str → Option Value} {A : A4} (S : Hand K mg A) {H : Hp} {a : Addr} {k : HD} (h : IsH A H a k) : TyX K H (.ref a) (.ref (A.at k.ix)) := by
  obtain ⟨dx, e⟩ := h
  exact .base (.ins e (S.cls k).1 (S.dc _ k.ix_lt) S.hn S.tk (S.mo _ k.ix_lt))
theorem IsH.fun {A : A4} {H : Hp} {a : Addr} {k : HD} (h : IsH A H a k) {H' : Hp} (e : H' a = H a) : IsH A H' a k := by
  obtain ⟨dx, q⟩ := h
  exact ⟨dx, e.trans q⟩
theorem IsH.keep {A : A4} {H H' : Hp} {a : Addr} {k : HD} (h : IsH A H a k) (sm : Same' H H') : IsH A H' a k := by
  obtain ⟨dx, q⟩ := h
  exact ⟨dx, sm _ _ q⟩
abbrev sCellE : Stmt := inClass (topS 24) 4
abbrev sLogE : Stmt := inClass (topS 25) 2
abbrev sFailE : Stmt := inClass (topS 26) 2
abbrev sChoE : Stmt := inClass (topS 27) 2
abbrev sCellT : Stmt := inClass (topS 24) 5
abbrev sLogT : Stmt := inClass (topS 25) 3
abbrev sFailT : Stmt := inClass (topS 26) 3
abbrev sChoT : Stmt := inClass (topS 27) 3
def spEq (K : PySem.W.Frag) (A : A4) (i : Nat) : Sp := fun vs H Q _ => ∃ (a : Addr) (k : HD) (y : V) (r : Bool), vs = [.ref a, y] ∧ k.ix = i ∧ IsH A H a k ∧ Other K A H y k r ∧ Q (.bl r) H
def spStr (A : A4) (i : Nat) : Sp := fun vs H Q _ => ∃ (a : Addr) (k : HD), vs = [.ref a] ∧ k.ix = i ∧ IsH A H a k ∧ k.nm.length ≤ 1000 ∧ (∀ n z, k = .cell n z → z.natAbs.log2 < 1920 ∧ k.text.length ≤ 2000) ∧ Q (.str k.text) H
section
variable {P : Program} {w : World} {K : PySem.W.Frag} {mg : Str → Option Value} {base : Heap} {A4' : A4}
abbrev nEq : List Str := ["self", "other"]
theorem scCellE : FnScope nEq nEq (defScope sCellE) := ⟨rfl, rfl, rfl, by decide +kernel, rfl, by decide +kernel, by decide +kernel⟩
theorem scLogE : FnScope nEq nEq (defScope sLogE) := ⟨rfl, rfl, rfl, by decide +kernel, rfl, by decide +kernel, by decide +kernel⟩
theorem scFailE : FnScope nEq nEq (defScope sFailE) := ⟨rfl, rfl, rfl, by decide +kernel, rfl, by decide +kernel, by decide +kernel⟩
theorem scChoE : FnScope nEq nEq (defScope sChoE) := ⟨rfl, rfl, rfl, by decide +kernel, rfl, by decide +kernel, by decide +kernel⟩
theorem scCellT : FnScope ["self"] ["self"] (defScope sCellT) := ⟨rfl, rfl, rfl, by decide +kernel, rfl, by decide +kernel, by decide +kernel⟩
theorem scLogT : FnScope ["self"] ["self"] (defScope sLogT) := ⟨rfl, rfl, rfl, by decide +kernel, rfl, by decide +kernel, by decide +kernel⟩
theorem scFailT : FnScope ["self"] ["self"] (defScope sFailT) := ⟨rfl, rfl, rfl, by decide +kernel, rfl, by decide +kernel, by decide +kernel⟩
theorem scChoT : FnScope ["self"] ["self"] (defScope sChoT) := ⟨rfl, rfl, rfl, by decide +kernel, rfl, by decide +kernel, by decide +kernel⟩
/-- isinstance(other, C), C the class of self -/
theorem other_kit {A : A4} {H : Hp} {y : V} {k : HD} {r : Bool} (S : Hand K mg A) (h : Other K A H y k r) : ∃ (t : Value) (b : Bool), TyX K H y t ∧ PySem.W.kitOne K t (.ref (A.at k.ix)) = some b ∧ (b = true → ∃ c k2, y = .ref c ∧ IsH A H c k2 ∧ k2.ix = k.ix ∧ r = decide (k = k2)) ∧ (b = false → r = false) := by
  rcases h with ⟨c, k2, rfl, h2, e⟩ | ⟨⟨T, ty, kk⟩, e⟩
  · refine ⟨_, _, S.ty h2, S.kit _ _ k2.ix_lt k.ix_lt, fun z => ⟨c, k2, rfl, h2, of_decide_eq_true z, e⟩, fun z => ?_⟩
    rw [e, decide_eq_false]
    intro q
    exact absurd (by rw [q]) (of_decide_eq_false z)
  · exact ⟨_, _, ty, (kk _ k.ix_lt).1, (fun z => nomatch z), fun _ => e⟩
theorem ok_eqCell {A : A4} {f : Addr} {fd : FuncData} (F : Fun K "__eq__" "Cell.__eq__" sCellE f fd) (S : Hand K mg A) (T : Txt mg) : FnOk P w K mg base CX0 1 f fd nEq (spEq K A 0) := by
  refine F.ok scCellE (fun vs H Q E h => ?_) (fun cdv A0 outer s H vs Q E hr h => ?_)
  · obtain ⟨a, k, y, r, rfl, _⟩ := h
    rfl
  · obtain ⟨a, k, y, r, rfl, hk, ha, o, q⟩ := h
    refine ⟨_, pss_one (ps_ret (pe_and (pe_callB call_isi (by rfl) T.isi (by decide +kernel) (pa_cons (pv 1) (pa_cons (pe_glob (v := .ref A.c) rfl S.cC.g rfl) pa_nil)))
      (pe_and (pe_cmpR op_eq (pe_fld (pv 0) (by rfl)) (pe_fld (pv 1) (by rfl)) (nomark _)) (pe_one (pe_cmpR op_eq (pe_fld (pv 0) (by rfl)) (pe_fld (pv 1) (by rfl)) (nomark _)))))), ?_⟩
    obtain ⟨t, b, ty, kt, h1, h2⟩ := other_kit S o
    rw [hk] at kt
    refine ⟨y, rfl, y, .ref A.c, t, .ref A.c, b, rfl, .own _, ty, kt, b, rfl, ?_⟩
    cases b with
    | false => exact iteF (h2 rfl ▸ q)
    | true =>
      obtain ⟨c, k2, rfl, hc, e2, er⟩ := h1 rfl
      obtain ⟨c1, c2, c3⟩ := S.cls k
      cases k with
      | cell n z =>
        cases k2 with
        | cell n2 z2 =>
          obtain ⟨dx, ea⟩ := ha
          obtain ⟨dx2, ec⟩ := hc
          refine iteT ⟨.ref a, rfl, a, _, dx, _, .str n, rfl, ea, c1, c2, rfl, .ref c, rfl, c, _, dx2, _, .str n2, rfl, ec, c1, c2, rfl, rfl, decide (V.str n = V.str n2), rfl, ite2 (fun e => ?_) (fun e => ?_)⟩
          · refine ⟨.ref a, rfl, a, _, dx, _, .int z, rfl, ea, c1, c3, rfl, .ref c, rfl, c, _, dx2, _, .int z2, rfl, ec, c1, c3, rfl, rfl, ?_⟩
            have en : n = n2 := by simpa using e
            have er' : r = decide (V.int z = V.int z2) := by
              rw [er, en]
              simp
            exact er' ▸ q
          · have er' : r = false := by
              have en : n ≠ n2 := by simpa using e
              rw [er]
              simp [en]
            exact er' ▸ q
        | _ => cases e2
      | _ => cases hk
theorem ok_eqLog {A : A4} {f : Addr} {fd : FuncData} (F : Fun K "__eq__" "Log.__eq__" sLogE f fd) (S : Hand K mg A) (T : Txt mg) : FnOk P w K mg base CX0 1 f fd nEq (spEq K A 1) := by
  refine F.ok scLogE (fun vs H Q E h => ?_) (fun cdv A0 outer s H vs Q E hr h => ?_)
  · obtain ⟨a, k, y, r, rfl, _⟩ := h
    rfl
  · obtain ⟨a, k, y, r, rfl, hk, ha, o, q⟩ := h
    refine ⟨_, pss_one (ps_ret (pe_and (pe_callB call_isi (by rfl) T.isi (by decide +kernel) (pa_cons (pv 1) (pa_cons (pe_glob (v := .ref A.l) rfl S.cL.g rfl) pa_nil)))
      (pe_one (pe_cmpR op_eq (pe_fld (pv 0) (by rfl)) (pe_fld (pv 1) (by rfl)) (nomark _))))), ?_⟩
    obtain ⟨t, b, ty, kt, h1, h2⟩ := other_kit S o
    rw [hk] at kt
    refine ⟨y, rfl, y, .ref A.l, t, .ref A.l, b, rfl, .own _, ty, kt, b, rfl, ?_⟩
    cases b with
    | false => exact iteF (h2 rfl ▸ q)
    | true =>
      obtain ⟨c, k2, rfl, hc, e2, er⟩ := h1 rfl
      obtain ⟨c1, c2, c3⟩ := S.cls k
      cases k with
      | log n =>
        cases k2 with
        | log n2 =>
          obtain ⟨dx, ea⟩ := ha
          obtain ⟨dx2, ec⟩ := hc
          have er' : r = decide (V.str n = V.str n2) := by
            rw [er]
            simp
          exact iteT ⟨.ref a, rfl, a, _, dx, _, .str n, rfl, ea, c1, c2, rfl, .ref c, rfl, c, _, dx2, _, .str n2, rfl, ec, c1, c2, rfl, rfl, er' ▸ q⟩
        | _ => cases e2
      | _ => cases hk
theorem ok_eqFail {A : A4} {f : Addr} {fd : FuncData} (F : Fun K "__eq__" "Failure.__eq__" sFailE f fd) (S : Hand K mg A) (T : Txt mg) : FnOk P w K mg base CX0 1 f fd nEq (spEq K A 2) := by
  refine F.ok scFailE (fun vs H Q E h => ?_) (fun cdv A0 outer s H vs Q E hr h => ?_)
  · obtain ⟨a, k, y, r, rfl, _⟩ := h
    rfl
  · obtain ⟨a, k, y, r, rfl, hk, ha, o, q⟩ := h
    refine ⟨_, pss_one (ps_ret (pe_and (pe_callB call_isi (by rfl) T.isi (by decide +kernel) (pa_cons (pv 1) (pa_cons (pe_glob (v := .ref A.f) rfl S.cF.g rfl) pa_nil)))
      (pe_one (pe_cmpR op_eq (pe_fld (pv 0) (by rfl)) (pe_fld (pv 1) (by rfl)) (nomark _))))), ?_⟩
    obtain ⟨t, b, ty, kt, h1, h2⟩ := other_kit S o
    rw [hk] at kt
    refine ⟨y, rfl, y, .ref A.f, t, .ref A.f, b, rfl, .own _, ty, kt, b, rfl, ?_⟩
    cases b with
    | false => exact iteF (h2 rfl ▸ q)
    | true =>
      obtain ⟨c, k2, rfl, hc, e2, er⟩ := h1 rfl
      obtain ⟨c1, c2, c3⟩ := S.cls k
      cases k with
      | fail n =>
        cases k2 with
        | fail n2 =>
          obtain ⟨dx, ea⟩ := ha
          obtain ⟨dx2, ec⟩ := hc
          have er' : r = decide (V.str n = V.str n2) := by
            rw [er]
            simp
          exact iteT ⟨.ref a, rfl, a, _, dx, _, .str n, rfl, ea, c1, c2, rfl, .ref c, rfl, c, _, dx2, _, .str n2, rfl, ec, c1, c2, rfl, rfl, er' ▸ q⟩
        | _ => cases e2
      | _ => cases hk
theorem ok_eqCho {A : A4} {f : Addr} {fd : FuncData} (F : Fun K "__eq__" "Choice.__eq__" sChoE f fd) (S : Hand K mg A) (T : Txt mg) : FnOk P w K mg base CX0 1 f fd nEq (spEq K A 3) := by
  refine F.ok scChoE (fun vs H Q E h => ?_) (fun cdv A0 outer s H vs Q E hr h => ?_)
  · obtain ⟨a, k, y, r, rfl, _⟩ := h
    rfl
  · obtain ⟨a, k, y, r, rfl, hk, ha, o, q⟩ := h
    refine ⟨_, pss_one (ps_ret (pe_callB call_isi (by rfl) T.isi (by decide +kernel) (pa_cons (pv 1) (pa_cons (pe_glob (v := .ref A.h) rfl S.cH.g rfl) pa_nil)))), ?_⟩
    obtain ⟨t, b, ty, kt, h1, h2⟩ := other_kit S o
    rw [hk] at kt
    refine ⟨y, rfl, y, .ref A.h, t, .ref A.h, b, rfl, .own _, ty, kt, ?_⟩
    cases b with
    | false => exact h2 rfl ▸ q
    | true =>
      obtain ⟨c, k2, rfl, hc, e2, er⟩ := h1 rfl
      cases k with
      | cho =>
        cases k2 with
        | cho => exact (show r = true from by rw [er]; rfl) ▸ q
        | _ => cases e2
      | _ => cases hk
theorem fmt_fld {X : Cx} {C : Addr} {i : Nat} {σ : L2.St} {H : Hp} {f : Str} {Q : VK} {a dx : Addr} {fs : List (Str × V)} {v : V} (h0 : σ[i]? = some (some (.ref a))) (e : H a = some (.ins C dx fs)) (c : Cls X.K C) (n : NoAttr X.K C f) (l : fs.lookup f = some v)
    (q : (∃ y : Str, v = .str y ∧ y.length ≤ sizeLine ∧ Q (.str y) H) ∨ ∃ j : Int, v = .int j ∧ j.natAbs.log2 < 1920 ∧ Q (.str (toString j)) H) : tFmt (tFld X.K (tVar i) f) σ H Q := ⟨.ref a, h0, a, C, dx, fs, v, rfl, e, c, n, l, q⟩
theorem ok_strCell {A : A4} {f : Addr} {fd : FuncData} (F : Fun K "__str__" "Cell.__str__" sCellT f fd) (S : Hand K mg A) : FnOk P w K mg base CX0 1 f fd ["self"] (spStr A 0) := by
  refine F.ok scCellT (fun vs H Q E h => ?_) (fun cdv A0 outer s H vs Q E hr h => ?_)
  · obtain ⟨a, k, rfl, _⟩ := h
    rfl
  · obtain ⟨a, k, rfl, hk, ⟨dx, ea⟩, hl, hz, q⟩ := h
    refine ⟨_, pss_one (ps_ret (pe_joined (.cons pe_str (.cons (pe_fmt (pe_fld (pv 0) (by rfl))) (.cons pe_str (.cons (pe_fmt (pe_fld (pv 0) (by rfl))) .nil)))))), ?_⟩
    obtain ⟨c1, c2, c3⟩ := S.cls k
    cases k with
    | cell n z =>
      obtain ⟨z1, z2⟩ := hz n z rfl
      have hl' : n.length ≤ 1000 := hl
      have t2 : ((((Str.empty ++ "cell ") ++ n) ++ " ") ++ (toString z : Str)).length ≤ 2000 := z2
      have big : (2000 : Nat) ≤ sizeLine := by decide
      simp only [len_app] at t2
      refine ⟨_, rfl, by simp only [len_app]; omega, ?_⟩
      refine fmt_fld (σ := L2.start ["self"] [V.ref a]) rfl ea c1 c2 rfl (.inl ⟨n, rfl, by omega, ?_⟩)
      refine ⟨_, rfl, by simp only [len_app]; omega, ?_⟩
      refine ⟨_, rfl, by simp only [len_app]; omega, ?_⟩
      refine fmt_fld (σ := L2.start ["self"] [V.ref a]) rfl ea c1 c3 rfl (.inr ⟨z, rfl, z1, ?_⟩)
      refine ⟨_, rfl, by simp only [len_app]; omega, ?_⟩
      exact q
    | _ => cases hk
theorem ok_strLog {A : A4} {f : Addr} {fd : FuncData} (F : Fun K "__str__" "Log.__str__" sLogT f fd) (S : Hand K mg A) : FnOk P w K mg base CX0 1 f fd ["self"] (spStr A 1) := by
  refine F.ok scLogT (fun vs H Q E h => ?_) (fun cdv A0 outer s H vs Q E hr h => ?_)
  · obtain ⟨a, k, rfl, _⟩ := h
    rfl
  · obtain ⟨a, k, rfl, hk, ⟨dx, ea⟩, hl, hz, q⟩ := h
    refine ⟨_, pss_one (ps_ret (pe_joined (.cons pe_str (.cons (pe_fmt (pe_fld (pv 0) (by rfl))) .nil)))), ?_⟩
    obtain ⟨c1, c2, c3⟩ := S.cls k
    cases k with
    | log n =>
      have hl' : n.length ≤ 1000 := hl
      have big : (2000 : Nat) ≤ sizeLine := by decide
      have l1 : (Str.empty ++ ("log " : Str)).length = 4 := by decide +kernel
      refine ⟨_, rfl, by omega, ?_⟩
      refine fmt_fld (σ := L2.start ["self"] [V.ref a]) rfl ea c1 c2 rfl (.inl ⟨n, rfl, by omega, ?_⟩)
      refine ⟨_, rfl, by rw [len_app]; omega, ?_⟩
      exact q
    | _ => cases hk
theorem ok_strFail {A : A4} {f : Addr} {fd : FuncData} (F : Fun K "__str__" "Failure.__str__" sFailT f fd) (S : Hand K mg A) : FnOk P w K mg base CX0 1 f fd ["self"] (spStr A 2) := by
  refine F.ok scFailT (fun vs H Q E h => ?_) (fun cdv A0 outer s H vs Q E hr h => ?_)
  · obtain ⟨a, k, rfl, _⟩ := h
    rfl
  · obtain ⟨a, k, rfl, hk, ⟨dx, ea⟩, hl, hz, q⟩ := h
    refine ⟨_, pss_one (ps_ret (pe_joined (.cons pe_str (.cons (pe_fmt (pe_fld (pv 0) (by rfl))) .nil)))), ?_⟩
    obtain ⟨c1, c2, c3⟩ := S.cls k
    cases k with
    | fail n =>
      have hl' : n.length ≤ 1000 := hl
      have big : (2000 : Nat) ≤ sizeLine := by decide
      have l1 : (Str.empty ++ ("failure " : Str)).length = 8 := by decide +kernel
      refine ⟨_, rfl, by omega, ?_⟩
      refine fmt_fld (σ := L2.start ["self"] [V.ref a]) rfl ea c1 c2 rfl (.inl ⟨n, rfl, by omega, ?_⟩)
      refine ⟨_, rfl, by rw [len_app]; omega, ?_⟩
      exact q
    | _ => cases hk
theorem ok_strCho {A : A4} {f : Addr} {fd : FuncData} (F : Fun K "__str__" "Choice.__str__" sChoT f fd) : FnOk P w K mg base CX0 1 f fd ["self"] (spStr A 3) := by
  refine F.ok scChoT (fun vs H Q E h => ?_) (fun cdv A0 outer s H vs Q E hr h => ?_)
  · obtain ⟨a, k, rfl, _⟩ := h
    rfl
  · obtain ⟨a, k, rfl, hk, ⟨dx, ea⟩, hl, hz, q⟩ := h
    refine ⟨_, pss_one (ps_ret pe_str), ?_⟩
    cases k with
    | cho => exact q
    | _ => cases hk
end
end My
namespace My
open PySem PySem.Spec PyProof.Rows L2
/-! ### the pen: a list of a list of ints, of how many were taken, of what is left of a great one -/
structure PenAt (H : Hp) (p c : Addr) (ns : List Int) (B : Int) : Prop where
  pen : ∃ b g : Int, H p = some (.lst [.ref c, .int b, .int g]) ∧ 0 ≤ b ∧ b ≤ B ∧ 0 ≤ g
  cells : H c = some (.lst (ns.map V.int))
  few : ns.length ≤ 63
def Off (p : Addr) (H H' : Hp) : Prop := ∀ q o, q ≠ p → H q = some o → H' q = some o
theorem Off.trans {p : Addr} {H1 H2 H3 : Hp} (h : Off p H1 H2) (k : Off p H2 H3) : Off p H1 H3 := fun q o n e => k q o n (h q o n e)
theorem Off.rfl' {p : Addr} {H : Hp} : Off p H H := fun _ _ _ e => e
theorem Off.new {p a : Addr} {H : Hp} {o : HO} (h : H a = none) : Off p H (upd H a o) := fun q _ _ e => by
  rw [upd_ne (ne_of_none e h)]
  exact e
theorem PenAt.ne {H : Hp} {p c : Addr} {ns : List Int} {B : Int} (P : PenAt H p c ns B) : c ≠ p := by
  obtain ⟨b, g, e, _⟩ := P.pen
  intro z
  have y := P.cells
  rw [z, e] at y
  injection y with y
  injection y with y
  cases ns with
  | nil => cases y
  | cons x r => injection y with y1 y2; cases y1
theorem PenAt.more {H : Hp} {p c : Addr} {ns : List Int} {B C : Int} (P : PenAt H p c ns B) (h : B ≤ C) : PenAt H p c ns C := by
  obtain ⟨b, g, e, h1, h2, h3⟩ := P.pen
  exact ⟨⟨b, g, e, h1, by omega, h3⟩, P.cells, P.few⟩
theorem PenAt.keep {H H' : Hp} {p c : Addr} {ns : List Int} {B : Int} (P : PenAt H p c ns B) (h : ∀ q o, H q = some o → H' q = some o) : PenAt H' p c ns B := by
  obtain ⟨b, g, e, h1, h2, h3⟩ := P.pen
  exact ⟨⟨b, g, h _ _ e, h1, h2, h3⟩, h _ _ P.cells, P.few⟩

/-! ### numbers -/
theorem fm {x m : Int} (h : 0 < m) : 0 ≤ x.fmod m ∧ x.fmod m < m := by
  rw [Int.fmod_eq_emod_of_nonneg _ (by omega)]
  exact ⟨Int.emod_nonneg _ (by omega), Int.emod_lt_of_pos _ h⟩
theorem fd0 {x m : Int} (h : 0 < m) (hx : 0 ≤ x) : 0 ≤ x.fdiv m := by
  rw [Int.fdiv_eq_ediv_of_nonneg _ (by omega)]
  exact Int.ediv_nonneg hx (by omega)
theorem mulB {x y a b : Int} (h0 : 0 ≤ x) (h1 : x ≤ a) (k0 : 0 ≤ y) (k1 : y ≤ b) : 0 ≤ x * y ∧ x * y ≤ a * b :=
  ⟨Int.mul_nonneg h0 k0, Int.mul_le_mul h1 k1 k0 (by omega)⟩
theorem nz1 : (2147483549 : Int) ≠ 0 := by decide
theorem nz2 : (2147483629 : Int) ≠ 0 := by decide
theorem nz3 : (2147483587 : Int) ≠ 0 := by decide
theorem natAbs_lt {x : Int} (h0 : 0 ≤ x) (h1 : x < 18446744073709551616) : x.natAbs < 2 ^ 64 := by
  show x.natAbs < 18446744073709551616
  omega
theorem dpInts {K : PySem.W.Frag} {H : Hp} : ∀ ns : List Int, DpAll K H (ns.map V.int) (ns.map PyData.int)
  | [] => .nil
  | _ :: r => .cons (.int _) (dpInts r)
theorem shaped_ints : ∀ ns : List Int, SeqAt.shaped (.list (ns.map PyData.int)) = true
  | [] => rfl
  | _ :: r => shaped_ints r

theorem at_in {xs : List V} {j : Int} (h0 : 0 ≤ j) (h1 : j < (xs.length : Nat)) : ∃ v, v ∈ xs ∧ atI xs j = some v := by
  obtain ⟨k, rfl⟩ : ∃ k : Nat, j = (k : Int) := ⟨j.toNat, by omega⟩
  have hk : k < xs.length := by omega
  exact ⟨xs[k], List.getElem_mem hk, atI_nat (List.getElem?_eq_getElem hk)⟩
/-! ### the draw -/
def spDraw : Sp := fun vs H Q _ => ∃ (p c : Addr) (ns : List Int) (B m : Int), vs = [.ref p, .int m] ∧ PenAt H p c ns B ∧ B ≤ 1000 ∧ 1 ≤ m ∧ m ≤ 1000 ∧
  ∀ (d : Int) (H' : Hp), 0 ≤ d → d < m → PenAt H' p c ns (B + 1) → Off p H H' → Q (.int d) H'
section
variable {P : Program} {w : World} {K : PySem.W.Frag} {mg : Str → Option Value} {base : Heap}
abbrev nDraw : List Str := ["_law_pen_here", "_law_many", "_law_digit", "_law_spot", "_law_cell", "_law_great", "_law_mixed"]
theorem scDraw : FnScope nDraw ["_law_pen_here", "_law_many"] (defScope sDraw) := ⟨rfl, rfl, rfl, by decide +kernel, rfl, by decide +kernel, by decide +kernel⟩
theorem tail2 {f : Addr} {cdv : Value} {A : Around} {outer : List Env} {s : Shared} {H0 : Hp} {E : XK} (T : Txt mg) :
    ∃ t, PSs (cxOf CX0 P w K mg base nDraw "_law_draw" (defScope sDraw) f cdv A outer s H0 E).nox ((defBody sDraw).drop 6) t ∧
      ∀ (Q : VK) (nx : L2.St → Hp → Prop) (p : Addr) (m b raw : Int) (y2 y5 y6 : Option V) (H : Hp), 0 ≤ b → b ≤ 1000 → 1 ≤ m → (∀ d : Int, 0 ≤ d → d < m → Q (.int d) H) →
        t { nx := nx, rt := Q } [some (.ref p), some (.int m), y2, some (.int b), some (.int raw), y5, y6] H := by
  refine ⟨_, pss_cons (ps_set (i := 6) scDraw.nd rfl (.inl rfl) (pe_op op_modN (pe_callTy call_int1 (by rfl) T.int (by decide +kernel) (pa_cons (pe_op op_pow
          (pe_op op_add (pe_op op_add (pe_op op_modN (pe_callTy call_int1 (by rfl) T.int (by decide +kernel) (pa_cons (pv 4) pa_nil)) pe_int) (pe_op op_mul pe_int (pv 3))) pe_int) pe_int) pa_nil)) pe_int))
      (pss_cons (ps_set (i := 6) scDraw.nd rfl (.inl rfl) (pe_op op_modN (pe_callTy call_int1 (by rfl) T.int (by decide +kernel) (pa_cons (pe_op op_pow
          (pe_op op_add (pe_op op_add (pe_op op_mul (pv 6) (pe_op op_add (pe_op op_mul pe_int (pv 3)) pe_int)) (pe_op op_mul (pe_op op_mul pe_int (pv 3)) (pv 3))) pe_int) pe_int) pa_nil)) pe_int))
      (pss_one (ps_ret (pe_op op_modN (pe_callTy call_int1 (by rfl) T.int (by decide +kernel) (pa_cons (pe_op op_fdivN (pv 6) pe_int) pa_nil)) (pv 1))))), ?_⟩
  intro Q nx p m b raw y2 y5 y6 H b0 bB hm q
  have f1 := fm (x := raw) (m := 2147483549) (by decide)
  refine ⟨.int raw, rfl, .inl ⟨raw, rfl, raw, _, rfl, rfl, nz1, .int b, rfl, _, b, rfl, rfl, .inl ⟨by decide, by decide⟩, _, _, rfl, rfl, _, _, rfl, rfl, _, 5, rfl, rfl, ⟨by decide, by decide, natAbs_lt (by omega) (by omega)⟩, .inl ⟨_, rfl, _, _, rfl, rfl, nz2, ?_⟩⟩⟩
  obtain ⟨z, hz⟩ : ∃ z : Int, ((raw.fmod 2147483549 + 63955 * b + 5815) ^ (5 : Int).toNat).fmod 2147483629 = z := ⟨_, rfl⟩
  have f2 := fm (x := ((raw.fmod 2147483549 + 63955 * b + 5815) ^ (5 : Int).toNat)) (m := 2147483629) (by decide)
  rw [hz] at f2
  have f3 := mulB (x := z) (y := 2 * b + 731) (a := 2147483629) (b := 2000 + 731) f2.1 (by omega) (by omega) (by omega)
  have f4 := mulB (x := 60595 * b) (y := b) (a := 60595 * 1000) (b := 1000) (by omega) (by omega) b0 bB
  refine ⟨.int z, by rw [← hz]; rfl, .int b, rfl, 2, b, rfl, rfl, .inl ⟨by decide, by decide⟩, _, _, rfl, rfl, z, _, rfl, rfl, .inl ⟨by omega, by omega⟩, .int b, rfl, _, b, rfl, rfl, .inl ⟨by decide, by decide⟩, .int b, rfl, _, b, rfl, rfl, .inl ⟨by omega, by omega⟩, _, _, rfl, rfl, _, _, rfl, rfl, _, 3, rfl, rfl, ⟨by decide, by decide, natAbs_lt (by omega) (by omega)⟩, .inl ⟨_, rfl, _, _, rfl, rfl, nz3, ?_⟩⟩
  obtain ⟨v, hv⟩ : ∃ v : Int, ((z * (2 * b + 731) + 60595 * b * b + 63955) ^ (3 : Int).toNat).fmod 2147483587 = v := ⟨_, rfl⟩
  refine ⟨.int v, by rw [← hv]; rfl, v, 32, rfl, rfl, ⟨by decide, by decide⟩, .inl ⟨_, rfl, .int m, rfl, _, m, rfl, rfl, by omega, ?_⟩⟩
  exact q _ (fm (by omega)).1 (fm (by omega)).2
theorem tail1 {f : Addr} {cdv : Value} {A : Around} {outer : List Env} {s : Shared} {H0 : Hp} {E : XK} (T : Txt mg) :
    ∃ t, PSs (cxOf CX0 P w K mg base nDraw "_law_draw" (defScope sDraw) f cdv A outer s H0 E).nox ((defBody sDraw).drop 5) t ∧
      ∀ (Q : VK) (nx : L2.St → Hp → Prop) (p c : Addr) (ns : List Int) (m b b1 g raw : Int) (y2 y5 y6 : Option V) (H : Hp), H p = some (.lst [.ref c, .int b1, .int g]) → H c = some (.lst (ns.map V.int)) → 0 ≤ b → b ≤ 1000 → 0 ≤ g → 1 ≤ m → m ≤ 1000 →
        (∀ (d : Int) (H' : Hp), 0 ≤ d → d < m → (∃ g' : Int, 0 ≤ g' ∧ H' p = some (.lst [.ref c, .int b1, .int g'])) → Off p H H' → Q (.int d) H') →
        t { nx := nx, rt := Q } [some (.ref p), some (.int m), y2, some (.int b), some (.int raw), y5, y6] H := by
  obtain ⟨t2, h2, q2⟩ := tail2 (P := P) (w := w) (K := K) (base := base) (f := f) (cdv := cdv) (A := A) (outer := outer) (s := s) (H0 := H0) (E := E) T
  refine ⟨_, pss_cons (ps_if (PW.pt (pw_and (pt_cmpR op_lt (pv 3) (pe_callB call_len_seq (by rfl) T.len PySem.boot_len (pa_cons (pe_ix ix_list (pv 0) pe_int (fun _ _ => rfl)) pa_nil)) (nomark _))
            (pw_and1 (pt_cmpR op_ge (pe_callB call_abs (by rfl) T.abs (by decide +kernel) (pa_cons (pv 4) pa_nil)) (pe_op op_pow pe_int pe_int) (nomark _)))))
        (pss_cons (ps_set (i := 5) scDraw.nd rfl (.inl rfl) (pe_op op_add (pe_op op_mul pe_int (pe_op op_sub (pe_callB call_abs (by rfl) T.abs (by decide +kernel) (pa_cons (pv 4) pa_nil)) (pe_op op_pow pe_int pe_int)))
            (pe_callTy call_int1 (by rfl) T.int (by decide +kernel) (pa_cons (pe_cmpR op_lt (pv 4) pe_int (nomark _)) pa_nil))))
        (pss_cons (ps_asg (pe_op op_fdivN (pe_callTy call_int1 (by rfl) T.int (by decide +kernel) (pa_cons (pv 5) pa_nil)) (pv 1)) (pg_sub (pv 0) pe_int set_list))
        (pss_one (ps_ret (pe_op op_modN (pe_callTy call_int1 (by rfl) T.int (by decide +kernel) (pa_cons (pv 5) pa_nil)) (pv 1)))))) pss_nil) h2, ?_⟩
  intro Q nx p c ns m b b1 g raw y2 y5 y6 H hp hc b0 bB g0 hm hm2 q
  have last : t2 { nx := nx, rt := Q } [some (.ref p), some (.int m), y2, some (.int b), some (.int raw), y5, y6] H :=
    q2 Q nx p m b raw y2 y5 y6 H b0 bB hm fun d d0 d1 => q d H d0 d1 ⟨g, g0, hp⟩ Off.rfl'
  refine ⟨.int b, rfl, .ref p, rfl, p, _, 0, .ref c, rfl, rfl, SqL.of hp, rfl, c, _, rfl, .inl (SqL.of hc), _, _, rfl, rfl, _, rfl, ite2 (fun e => ?_) (fun e => iteF last)⟩
  refine ⟨.int raw, rfl, raw, rfl, 10, 18, rfl, rfl, ⟨by decide, by decide, by decide⟩, _, _, rfl, rfl, _, rfl, ite2 (fun e2 => ?_) (fun e2 => last)⟩
  have big := of_decide_eq_true e2
  obtain ⟨r, hr⟩ : ∃ r : Int, (if raw < 0 then -raw else raw) = r := ⟨_, rfl⟩
  obtain ⟨u, hu⟩ : ∃ u : Int, 2 * ((if raw < 0 then -raw else raw) - (10 : Int) ^ (18 : Int).toNat) + (if decide (raw < 0) = true then 1 else 0) = u := ⟨_, rfl⟩
  have u0 : 0 ≤ u := by
    rw [← hu]
    have k : (0 : Int) ≤ if decide (raw < 0) = true then 1 else 0 := by split <;> decide
    omega
  refine ⟨.int raw, rfl, raw, rfl, 10, 18, rfl, rfl, ⟨by decide, by decide, by decide⟩, _, _, rfl, rfl, 2, _, rfl, rfl, .inl ⟨by decide, by decide⟩, .int raw, rfl, raw, 0, rfl, rfl, .inr ⟨_, rfl, _, _, rfl, rfl, ?_⟩⟩
  refine ⟨.int u, by rw [← hu]; rfl, .inl ⟨u, rfl, .int m, rfl, u, m, rfl, rfl, ⟨by omega, by omega⟩, ?_⟩⟩
  refine ⟨.ref p, rfl, p, _, 2, 2, rfl, rfl, hp, rfl, ?_⟩
  refine ⟨.int u, by rw [← hu]; rfl, .inl ⟨u, rfl, .int m, rfl, u, m, rfl, rfl, by omega, ?_⟩⟩
  exact q _ _ (fm (by omega)).1 (fm (by omega)).2 ⟨u.fdiv m, fd0 (by omega) u0, upd_same⟩ fun a o n e => by rw [upd_ne n]; exact e
theorem ok_draw {f : Addr} {fd : FuncData} (F : Fun K "_law_draw" "_law_draw" sDraw f fd) (T : Txt mg) : FnOk P w K mg base CX0 1 f fd ["_law_pen_here", "_law_many"] spDraw := by
  refine F.ok scDraw (fun vs H Q E h => ?_) (fun cdv A outer s H vs Q E hr h => ?_)
  · obtain ⟨p, c, ns, B, m, rfl, _⟩ := h
    rfl
  · obtain ⟨p, c, ns, B, m, rfl, PA0, hB, hm, hm2, q⟩ := h
    obtain ⟨b, g, hp, b0, bB, g0⟩ := PA0.pen
    have hc := PA0.cells
    have few := PA0.few
    have ncp := PA0.ne
    obtain ⟨t1, h1, q1⟩ := tail1 (P := P) (w := w) (K := K) (base := base) (f := f) (cdv := cdv) (A := A) (outer := outer) (s := s) (H0 := H) (E := E) T
    refine ⟨_, pss_cons (ps_if (pt_cmpR op_gt (pe_ix ix_list (pv 0) pe_int (fun _ _ => rfl)) pe_int (nomark _))
        (pss_cons (ps_set (i := 2) scDraw.nd rfl (.inl rfl) (pe_op op_modN (pe_callTy call_int1 (by rfl) T.int (by decide +kernel) (pa_cons (pe_ix ix_list (pv 0) pe_int (fun _ _ => rfl)) pa_nil)) (pv 1)))
        (pss_cons (ps_asg (pe_op op_fdivN (pe_callTy call_int1 (by rfl) T.int (by decide +kernel) (pa_cons (pe_ix ix_list (pv 0) pe_int (fun _ _ => rfl)) pa_nil)) (pv 1)) (pg_sub (pv 0) pe_int set_list))
        (pss_one (ps_ret (pv 2))))) pss_nil)
      (pss_cons (ps_set (i := 3) scDraw.nd rfl (.inl rfl) (pe_ix ix_list (pv 0) pe_int (fun _ _ => rfl)))
      (pss_cons (ps_asg (pe_op op_add (pv 3) pe_int) (pg_sub (pv 0) pe_int set_list))
      (pss_cons (ps_set (i := 4) scDraw.nd rfl (.inl rfl) (pe_op op_add (pe_op op_mul pe_int (pv 3)) pe_int))
      (pss_cons (ps_if (pt_cmpR (op_neD hr.units) (pe_ix ix_list (pv 0) pe_int (fun _ _ => rfl)) (pe_lst pa_nil) (nomark _))
        (pss_one (ps_set (i := 4) scDraw.nd rfl (.inl rfl) (pe_ix ix_list (pe_ix ix_list (pv 0) pe_int (fun _ _ => rfl))
          (pe_op op_modN (pe_callTy call_int1 (by rfl) T.int (by decide +kernel) (pa_cons (pv 3) pa_nil)) (pe_callB call_len_seq (by rfl) T.len PySem.boot_len (pa_cons (pe_ix ix_list (pv 0) pe_int (fun _ _ => rfl)) pa_nil))) (fun _ _ => rfl)))) pss_nil) h1)))), ?_⟩
    -- if pen[2] > 0
    refine ⟨.ref p, rfl, p, _, 2, .int g, rfl, rfl, SqL.of hp, rfl, g, 0, rfl, rfl, _, rfl, ite2 (fun e => ?_) (fun e => ?_)⟩
    · refine ⟨.ref p, rfl, p, _, 2, .int g, rfl, rfl, SqL.of hp, rfl, .inl ⟨_, rfl, .int m, rfl, g, m, rfl, rfl, by omega, ?_⟩⟩
      refine ⟨.ref p, rfl, p, _, 2, .int g, rfl, rfl, SqL.of hp, rfl, .inl ⟨_, rfl, .int m, rfl, g, m, rfl, rfl, ⟨by omega, by omega⟩, ?_⟩⟩
      refine ⟨.ref p, rfl, p, _, 2, 2, rfl, rfl, hp, rfl, ?_⟩
      refine ⟨_, rfl, q (g.fmod m) _ (fm (by omega)).1 (fm (by omega)).2 ⟨⟨b, g.fdiv m, upd_same, b0, by omega, fd0 (by omega) g0⟩, by rw [upd_ne ncp]; exact hc, few⟩ fun a o n e => by rw [upd_ne n]; exact e⟩
    · -- begun = pen[1]; pen[1] = begun + 1; raw = ..
      refine ⟨.ref p, rfl, p, _, 1, .int b, rfl, rfl, SqL.of hp, rfl, ?_⟩
      refine ⟨_, rfl, b, 1, rfl, rfl, .ref p, rfl, p, _, 1, 1, rfl, rfl, hp, rfl, ?_⟩
      refine ⟨_, rfl, 44965, b, rfl, rfl, .inl ⟨by decide, by decide⟩, _, _, rfl, rfl, ?_⟩
      obtain ⟨H1, eH⟩ : ∃ H1 : Hp, upd H p (.lst [.ref c, .int (b + 1), .int g]) = H1 := ⟨_, rfl⟩
      have hp1 : H1 p = some (.lst [.ref c, .int (b + 1), .int g]) := by rw [← eH, upd_same]
      have hc1 : H1 c = some (.lst (ns.map V.int)) := by rw [← eH, upd_ne ncp]; exact hc
      have off1 : Off p H H1 := fun a o n e => by rw [← eH, upd_ne n]; exact e
      have eH' : upd H p (.lst (([.ref c, .int b, .int g] : List V).set 1 (.int (b + 1)))) = H1 := eH
      rw [eH']
      clear eH eH'
      -- if pen[0] != []
      refine ⟨.ref p, rfl, p, _, 0, .ref c, rfl, rfl, SqL.of hp1, rfl, Nat.zero_le _, fun l hl => ?_⟩
      have npl : p ≠ l := ne_of_none hp1 hl
      have ncl : c ≠ l := ne_of_none hc1 hl
      have hp2 : (upd H1 l (.lst [])) p = some (.lst [.ref c, .int (b + 1), .int g]) := by rw [upd_ne npl]; exact hp1
      have hc2 : (upd H1 l (.lst [])) c = some (.lst (ns.map V.int)) := by rw [upd_ne ncl]; exact hc1
      have off2 : Off p H (upd H1 l (.lst [])) := off1.trans (Off.new hl)
      refine ⟨.list (ns.map PyData.int), .list [], .lst (SqL.of hc2) (dpInts ns), .lst (SqL.of upd_same) .nil, shaped_ints ns, rfl, _, rfl, ?_⟩
      have last : ∀ (raw : Int) (y2 y5 y6 : Option V) (nx : L2.St → Hp → Prop), t1 { nx := nx, rt := Q } [some (.ref p), some (.int m), y2, some (.int b), some (.int raw), y5, y6] (upd H1 l (.lst [])) := by
        intro raw y2 y5 y6 nx
        refine q1 Q nx p c ns m b (b + 1) g raw y2 y5 y6 _ hp2 hc2 b0 (by omega) g0 hm hm2 fun d H' d0 d1 z off => ?_
        obtain ⟨g', z0, e1⟩ := z
        exact q d H' d0 d1 ⟨⟨b + 1, g', e1, by omega, by omega, z0⟩, off c _ ncp hc2, few⟩ (off2.trans off)
      cases ns with
      | nil => exact iteF (last _ _ _ _ _)
      | cons x r =>
        have lz : ((x :: r).map V.int).length = r.length + 1 := by rw [List.length_map]; rfl
        have lp : (0 : Int) < (((x :: r).map V.int).length : Nat) := by rw [lz]; omega
        obtain ⟨j, ej⟩ : ∃ j : Int, b.fmod (((x :: r).map V.int).length : Nat) = j := ⟨_, rfl⟩
        have j0 := (fm (x := b) lp).1
        have j1 := (fm (x := b) lp).2
        rw [ej] at j0 j1
        obtain ⟨v, hv, at1⟩ := at_in j0 j1
        obtain ⟨y, _, rfl⟩ := List.mem_map.mp hv
        refine iteT ⟨.ref p, rfl, p, _, 0, .ref c, rfl, rfl, SqL.of hp2, rfl, .int b, rfl, .inl ⟨b, rfl, .ref p, rfl, p, _, 0, .ref c, rfl, rfl, SqL.of hp2, rfl, c, _, rfl, .inl (SqL.of hc2), b, _, rfl, rfl, by omega, c, _, _, _, rfl, rfl, SqL.of hc2, (by rw [ej]; exact at1), ?_⟩⟩
        exact last _ _ _ _ _
end
/-! ### the pen is made -/
theorem cut63 {α : Type} (xs : List V) (h : xs.length ≤ 63) : cutV xs none (some 63) = xs := by
  unfold cutV
  rw [show HT.sIx xs.length 0 none = 0 from rfl, show HT.sIx xs.length xs.length (some 63) = min 63 xs.length from HT.sIx_nat xs.length xs.length 63, List.drop_zero, Nat.min_eq_right h, Nat.sub_zero]
  exact List.take_length
def spPen (K : PySem.W.Frag) : Sp := fun vs H Q _ => ∃ (a : Addr) (ns : List Int), vs = [.ref a] ∧ SqL K H a (ns.map V.int) ∧ ns.length ≤ 63 ∧ ∀ (p c : Addr) (H' : Hp), Same' H H' → PenAt H' p c ns 0 → Q (.ref p) H'
def Src (H : Hp) (p : Addr) (s : V) (src : List V) : Prop := (∃ l, s = .ref l ∧ l ≠ p ∧ H l = some (.lst src)) ∨ (∃ z : Str, s = .str z ∧ src = z.cps.toList.map (fun c => V.str ⟨#[c]⟩))
def spPick : Sp := fun vs H Q _ => ∃ (p c : Addr) (ns : List Int) (B : Int) (s : V) (src : List V), vs = [.ref p, s] ∧ PenAt H p c ns B ∧ B ≤ 1000 ∧ Src H p s src ∧ 1 ≤ src.length ∧ src.length ≤ 1000 ∧
  ∀ (v : V) (H' : Hp), v ∈ src → PenAt H' p c ns (B + 1) → Off p H H' → Q v H'
section
variable {P : Program} {w : World} {K : PySem.W.Frag} {mg : Str → Option Value} {base : Heap}
theorem scPen : FnScope ["_law_script"] ["_law_script"] (defScope sPen) := ⟨rfl, rfl, rfl, by decide +kernel, rfl, by decide +kernel, by decide +kernel⟩
theorem ok_pen {f : Addr} {fd : FuncData} (F : Fun K "_law_pen" "_law_pen" sPen f fd) (T : Txt mg) : FnOk P w K mg base CX0 1 f fd ["_law_script"] (spPen K) := by
  refine F.ok scPen (fun vs H Q E h => ?_) (fun cdv A outer s H vs Q E hr h => ?_)
  · obtain ⟨a, ns, rfl, _⟩ := h
    rfl
  · obtain ⟨a, ns, rfl, hS, few, q⟩ := h
    refine ⟨_, pss_one (ps_ret (pe_lst (pa_cons (pe_callTy call_list_of (by rfl) T.list (by decide +kernel) (pa_cons (pe_slice sl_list (pv 0) po_none (po_some pe_int)) pa_nil)) (pa_cons pe_int (pa_cons pe_int pa_nil))))), ?_⟩
    refine ⟨.ref a, rfl, 63, rfl, a, _, rfl, hS, fun u hu => ?_⟩
    rw [cut63 (α := Unit) _ (by rw [List.length_map]; exact few)]
    refine ⟨u, _, rfl, .inl (SqL.of upd_same), fun c hc => ⟨by show 3 ≤ sizeLine; decide, fun p hp => ?_⟩⟩
    have ncp : c ≠ p := fun z => by
      rw [← z, upd_same] at hp
      cases hp
    refine q p c _ (fun b o e => ?_) ⟨⟨0, 0, upd_same, Int.le_refl _, Int.le_refl _, Int.le_refl _⟩, by rw [upd_ne ncp, upd_same], few⟩
    have e1 : (upd H u (.lst (ns.map V.int))) b = some o := by
      rw [upd_ne (ne_of_none e hu)]
      exact e
    have e2 : (upd (upd H u (.lst (ns.map V.int))) c (.lst (ns.map V.int))) b = some o := by
      rw [upd_ne (ne_of_none e1 hc)]
      exact e1
    rw [upd_ne (ne_of_none e2 hp)]
    exact e2
theorem scPick : FnScope ["_law_pen_here", "_law_some"] ["_law_pen_here", "_law_some"] (defScope sPick) := ⟨rfl, rfl, rfl, by decide +kernel, rfl, by decide +kernel, by decide +kernel⟩
theorem ok_pick {f fD : Addr} {fd fdD : FuncData} (F : Fun K "_law_pick" "_law_pick" sPick f fd) (T : Txt mg) (FD : Fun K "_law_draw" "_law_draw" sDraw fD fdD) (bD : Binds K fdD ["_law_pen_here", "_law_many"] []) (gD : mg "_law_draw" = some (.ref fD))
    (G : FnOk P w K mg base CX0 1 fD fdD ["_law_pen_here", "_law_many"] spDraw) : FnOk P w K mg base CX0 2 f fd ["_law_pen_here", "_law_some"] spPick := by
  refine F.ok scPick (fun vs H Q E h => ?_) (fun cdv A outer s H vs Q E hr h => ?_)
  · obtain ⟨p, c, ns, B, s, src, rfl, _⟩ := h
    rfl
  · obtain ⟨p, c, ns, B, x, src, rfl, PA0, hB, hs, n1, n2, q⟩ := h
    refine ⟨_, pss_one (ps_ret (pe_ix ix_seq (pv 1) (pe_call G hr (by rfl) gD FD.kp bD .nil pass0 (pa_cons (pv 0) (pa_cons (pe_callB (CallR.or call_len_seq call_len_str) (by rfl) T.len PySem.boot_len (pa_cons (pv 1) pa_nil)) pa_nil))) (fun _ _ => rfl))), ?_⟩
    refine ⟨x, rfl, .ref p, rfl, x, rfl, ?_⟩
    have fin : ∀ (d : Int), 0 ≤ d → d < (src.length : Nat) → ∃ v, v ∈ src ∧ atI src d = some v := fun d h0 h1 => at_in h0 h1
    rcases hs with ⟨l, rfl, nlp, hl⟩ | ⟨z, rfl, rfl⟩
    · refine .inl ⟨l, src, rfl, .inl (SqL.of hl), ?_⟩
      refine ⟨p, c, ns, B, _, rfl, PA0, hB, by omega, by omega, fun d H' d0 d1 PA1 off => ?_⟩
      obtain ⟨v, hv, at1⟩ := fin d d0 d1
      exact .inl ⟨l, src, d, v, rfl, rfl, SqL.of (off l _ nlp hl), at1, q v H' hv PA1 off⟩
    · rw [List.length_map] at n1 n2
      have ez : z.cps.toList.length = z.length := Array.length_toList
      have zs : z.length < sizeLine := small1000 (by omega)
      refine .inr ⟨z, rfl, Nat.le_of_lt zs, ?_⟩
      refine ⟨p, c, ns, B, _, rfl, PA0, hB, by omega, by omega, fun d H' d0 d1 PA1 off => ?_⟩
      have d1' : d < (z.cps.toList.length : Nat) := by rw [ez]; exact d1
      obtain ⟨k, rfl⟩ : ∃ k : Nat, d = (k : Int) := ⟨d.toNat, by omega⟩
      have hk : k < z.cps.toList.length := by omega
      refine .inr (.inr ⟨z, _, z.cps.toList[k], rfl, rfl, Nat.le_of_lt zs, atI_nat (List.getElem?_eq_getElem hk), ?_⟩)
      exact q _ H' (List.mem_map.mpr ⟨_, List.getElem_mem hk, rfl⟩) PA1 off
end
end My
namespace My
open PySem PySem.Spec PyProof.Rows L2
abbrev sIniT : Stmt := inClass (topS 9) 0
def spIniT (C : Addr) : Sp := fun vs H Q _ => ∃ (a : Addr) (l k : Int), vs = [.ref a, .int l, .int k] ∧ H a = some (exo a C none) ∧
  ∀ (dx : Addr) (H' : Hp), (∀ b o, b ≠ a → H b = some o → H' b = some o) → H dx = none → H' a = some (exo a C (some dx)) → H' dx = some (exd dx [("word", .int k), ("line", .int l)]) → Q .non H'
/-- BadText as the top has made it -/
structure ErrT (K : PySem.W.Frag) (mg : Str → Option Value) (C fI : Addr) : Prop where
  g : mg "BadText" = some (.ref C)
  ox : OexC K C
  ini : PySem.W.findIn K (.ref C) "__init__" = some (some (.ref fI))
  ty : PySem.W.typeIn K (.ref fI) = some (.type "function")
  no1 : PySem.W.findIn K (.ref C) "line" = some none
  no2 : PySem.W.findIn K (.ref C) "word" = some none
section
variable {P : Program} {w : World} {K : PySem.W.Frag} {mg : Str → Option Value} {base : Heap}
theorem scIniT : FnScope ["self", "line", "word"] ["self", "line", "word"] (defScope sIniT) := ⟨rfl, rfl, rfl, by decide +kernel, rfl, by decide +kernel, by decide +kernel⟩
theorem ok_iniT {f fC C : Addr} {fd fdC : FuncData} (F : Fun K "__init__" "BadText.__init__" sIniT f fd) (ox : OexC K C) (no1 : PySem.W.findIn K (.ref C) "line" = some none) (no2 : PySem.W.findIn K (.ref C) "word" = some none) (FC : Fun K "copied" "copied" sCopied fC fdC) (b : Binds K fdC ["value"] []) (g : mg "copied" = some (.ref fC))
    (G : FnOk P w K mg base CX0 1 fC fdC ["value"] spFlat) : FnOk P w K mg base CX0 2 f fd ["self", "line", "word"] (spIniT C) := by
  refine F.ok scIniT (fun vs H Q E h => ?_) (fun cdv A outer s H vs Q E hr h => ?_)
  · obtain ⟨a, l, k, rfl, _⟩ := h
    rfl
  · obtain ⟨a, l, k, rfl, ha, q⟩ := h
    refine ⟨_, pss_cons (ps_ost (pv 0) (pe_call G hr (by rfl) g FC.kp b .nil pass0 (pa_cons (pv 1) pa_nil))) (pss_one (ps_ost (pv 0) (pe_call G hr (by rfl) g FC.kp b .nil pass0 (pa_cons (pv 2) pa_nil)))), ?_⟩
    refine ⟨.int l, rfl, .int l, .int l, rfl, .int l, ⟨.ref a, rfl, a, C, rfl, ox, no1, .inl ⟨ha, fun dx hdx ne => ?_⟩⟩⟩
    have a2 : (upd (upd H dx (exd dx [("line", .int l)])) a (exo a C (some dx))) a = some (exo a C (some dx)) := upd_same
    have d2 : (upd (upd H dx (exd dx [("line", .int l)])) a (exo a C (some dx))) dx = some (exd dx [("line", .int l)]) := by rw [upd_ne ne, upd_same]
    refine ⟨.int k, rfl, .int k, .int k, rfl, .int k, ⟨.ref a, rfl, a, C, rfl, ox, no2, .inr ⟨dx, [("line", .int l)], a2, d2, by show 1 ≤ 900; decide, ?_⟩⟩⟩
    refine q dx _ (fun b o n e => ?_) hdx ?_ ?_
    · have n2 : b ≠ dx := ne_of_none e hdx
      rw [upd_ne n2, upd_ne n, upd_ne n2]
      exact e
    · rw [upd_ne (Ne.symm ne), upd_same]
    · rw [upd_same]
/-- what is told of a raised BadText -/
def TellT (E : XK) (C : Addr) (H : Hp) (k : Int) : Prop := ∀ (dd : Addr) (H' : Hp), Same' H H' → H' dd = some (.xd [("word", .int k), ("line", .int 0)]) → E (.ref C) (some dd) H'
theorem raisedT {C : Addr} {k : Int} {H : Hp} {E : XK} (told : TellT E C H k) : ∀ a, H a = none → spIniT C (.ref a :: ([.int 0, .int k] ++ [])) (upd H a (exo a C none))
    (fun v H2 => v = .non ∧ ∃ (dd : Addr) (fs : List (Str × V)), H2 a = some (exo a C (some dd)) ∧ H2 dd = some (exd dd fs) ∧ H dd = none ∧ E (.ref C) (some dd) (upd (del H2 a) dd (.xd fs))) (fun _ _ _ => False) := by
  intro a ha
  refine ⟨a, 0, k, rfl, upd_same, fun dx H' keep hdx ea ed => ⟨rfl, dx, _, ea, ed, ?_, ?_⟩⟩
  · have n : dx ≠ a := fun z => by
      rw [z, upd_same] at hdx
      cases hdx
    rw [upd_ne n] at hdx
    exact hdx
  · have n : dx ≠ a := fun z => by
      rw [z, upd_same] at hdx
      cases hdx
    rw [upd_ne n] at hdx
    refine told dx _ (fun b o e => ?_) upd_same
    have n1 : b ≠ a := ne_of_none e ha
    have n2 : b ≠ dx := ne_of_none e hdx
    rw [upd_ne n2, del_ne n1]
    exact keep b o n1 (by rw [upd_ne n1]; exact e)
end
end My
namespace My
open PySem PySem.Spec PyProof.Rows L2
/-! ### a text's words, gone through one by one -/
structure WAt (C : Addr) (H : Hp) (a : Addr) (ws : List Str) (k : Nat) : Prop where
  ob : ∃ (dx pl : Addr) (as : List Addr), H a = some (.ins C dx [("pieces", .ref pl), ("at", .int (k : Int)), ("many", .int (ws.length : Int))]) ∧ H pl = some (.lst (as.map V.ref)) ∧ as.length = ws.length ∧ ∀ (i : Nat) (p : Addr), as[i]? = some p → ∃ z, ws[i]? = some z ∧ H p = some (.tup [.str z, .int (i : Int)])
  le : k ≤ ws.length
  few : ws.length ≤ 900
  len : ∀ z ∈ ws, z.length ≤ 1000
theorem WAt.keep {C : Addr} {H H' : Hp} {a : Addr} {ws : List Str} {k : Nat} (h : WAt C H a ws k) (s : Same' H H') : WAt C H' a ws k := by
  obtain ⟨dx, pl, as, h1, h2, h3, h4⟩ := h.ob
  exact ⟨⟨dx, pl, as, s _ _ h1, s _ _ h2, h3, fun i p e => by obtain ⟨z, z1, z2⟩ := h4 i p e; exact ⟨z, z1, s _ _ z2⟩⟩, h.le, h.few, h.len⟩
structure WCls (K : PySem.W.Frag) (C : Addr) : Prop where
  c : Cls K C
  np : NoAttr K C "pieces"
  na : NoAttr K C "at"
  nm : NoAttr K C "many"
/-- a method of it -/
structure MethK (P : Program) (w : World) (K : PySem.W.Frag) (mg : Str → Option Value) (base : Heap) (CX : CXT) (k : Nat) (C : Addr) (m : Str) (f : Addr) (fd : FuncData) (ps : List Str) (sp : Sp) : Prop where
  m : Meth K C m f
  b : Binds K fd ps []
  G : FnOk P w K mg base CX k f fd ps sp
def spMore (C : Addr) : Sp := fun vs H Q _ => ∃ (a : Addr) (ws : List Str) (k : Nat), vs = [.ref a] ∧ WAt C H a ws k ∧ Q (.bl (decide (k < ws.length))) H
def spSees (C : Addr) : Sp := fun vs H Q _ => ∃ (a : Addr) (ws : List Str) (k : Nat) (z : Str), vs = [.ref a, .str z] ∧ WAt C H a ws k ∧ Q (.bl (decide (ws[k]? = some z))) H
def sayW (f : Str → Bool) (ws : List Str) (k : Nat) : Bool := match ws[k]? with
  | some z => f z
  | none => false
def spSeesW (C : Addr) : Sp := fun vs H Q _ => ∃ (a : Addr) (ws : List Str) (k : Nat), vs = [.ref a] ∧ WAt C H a ws k ∧ ∀ H', Same' H H' → Q (.bl (sayW wd ws k)) H'
def spRefuse (C CT : Addr) : Sp := fun vs H Q E => ∃ (a : Addr) (ws : List Str) (k : Nat), vs = [.ref a] ∧ WAt C H a ws k ∧ TellT E CT H (k : Int)
abbrev sW (i : Nat) : Stmt := inClass (topS 18) i
section
variable {P : Program} {w : World} {K : PySem.W.Frag} {mg : Str → Option Value} {base : Heap} {C : Addr}
theorem ok_more {f : Addr} {fd : FuncData} (F : Fun K "has_more" "Words.has_more" (sW 2) f fd) (W : WCls K C) (T : Txt mg) : FnOk P w K mg base CX0 1 f fd ["self"] (spMore C) := by
  refine F.ok (N := ["self"]) ⟨rfl, rfl, rfl, by decide +kernel, rfl, by decide +kernel, by decide +kernel⟩ (fun vs H Q E h => ?_) (fun cdv A outer s H vs Q E hr h => ?_)
  · obtain ⟨a, ws, k, rfl, _⟩ := h
    rfl
  · obtain ⟨a, ws, k, rfl, wa, q⟩ := h
    refine ⟨_, pss_one (ps_ret (pe_cmpR op_lt (pe_fld (pv 0) (by rfl)) (pe_callB call_len_seq (by rfl) T.len PySem.boot_len (pa_cons (pe_fld (pv 0) (by rfl)) pa_nil)) (nomark _))), ?_⟩
    obtain ⟨dx, pl, as, h1, h2, h3, h4⟩ := wa.ob
    refine ⟨.ref a, rfl, a, C, dx, _, _, rfl, h1, W.c, W.na, rfl, .ref a, rfl, a, C, dx, _, _, rfl, h1, W.c, W.np, rfl, pl, _, rfl, .inl (SqL.of h2), _, _, rfl, rfl, ?_⟩
    have e : decide ((k : Int) < ((as.map V.ref).length : Int)) = decide (k < ws.length) := by
      rw [List.length_map, h3]
      exact decide_eq_decide.mpr (by omega)
    show Q (.bl (decide ((k : Int) < ((as.map V.ref).length : Int)))) H
    rw [e]
    exact q
/-- self.pieces[self.at][j] -/
theorem rd_piece {σ : L2.St} {i : Nat} {H : Hp} {Q : VK} {a : Addr} {ws : List Str} {k : Nat} {z : Str} (W : WCls K C) (e : σ[i]? = some (some (.ref a))) (wa : WAt C H a ws k) (hz : ws[k]? = some z) (q : Q (.str z) H) :
    tOp (rIxT K) (tOp (rIxL K) (tFld K (tVar i) "pieces") (tFld K (tVar i) "at")) (tC (.int 0)) σ H Q := by
  obtain ⟨dx, pl, as, h1, h2, h3, h4⟩ := wa.ob
  have hk : k < as.length := by
    rw [h3]
    exact (List.getElem?_eq_some_iff.mp hz).1
  obtain ⟨y, y1, y2⟩ := h4 k _ (List.getElem?_eq_getElem hk)
  rw [hz] at y1
  injection y1 with y1
  subst y1
  refine ⟨.ref a, e, a, C, dx, _, _, rfl, h1, W.c, W.np, rfl, .ref a, e, a, C, dx, _, _, rfl, h1, W.c, W.na, rfl, pl, _, k, .ref as[k], rfl, rfl, SqL.of h2, atI_nat (by rw [List.getElem?_map, List.getElem?_eq_getElem hk]; rfl), ?_⟩
  exact ⟨_, _, 0, .str z, rfl, rfl, SqT.of y2, rfl, q⟩
theorem rd_place {σ : L2.St} {i : Nat} {H : Hp} {Q : VK} {a : Addr} {ws : List Str} {k : Nat} {z : Str} (W : WCls K C) (e : σ[i]? = some (some (.ref a))) (wa : WAt C H a ws k) (hz : ws[k]? = some z) (q : Q (.int (k : Int)) H) :
    tOp (rIxT K) (tOp (rIxL K) (tFld K (tVar i) "pieces") (tFld K (tVar i) "at")) (tC (.int 1)) σ H Q := by
  obtain ⟨dx, pl, as, h1, h2, h3, h4⟩ := wa.ob
  have hk : k < as.length := by
    rw [h3]
    exact (List.getElem?_eq_some_iff.mp hz).1
  obtain ⟨y, y1, y2⟩ := h4 k _ (List.getElem?_eq_getElem hk)
  refine ⟨.ref a, e, a, C, dx, _, _, rfl, h1, W.c, W.np, rfl, .ref a, e, a, C, dx, _, _, rfl, h1, W.c, W.na, rfl, pl, _, k, .ref as[k], rfl, rfl, SqL.of h2, atI_nat (by rw [List.getElem?_map, List.getElem?_eq_getElem hk]; rfl), ?_⟩
  exact ⟨_, _, 1, .int (k : Int), rfl, rfl, SqT.of y2, rfl, q⟩
theorem WAt.look {H : Hp} {a : Addr} {ws : List Str} {k : Nat} (wa : WAt C H a ws k) (m : Str) (h : m ≠ "pieces" ∧ m ≠ "at" ∧ m ≠ "many") : ∃ dx fs, H a = some (.ins C dx fs) ∧ fs.lookup m = none := by
  obtain ⟨dx, pl, as, h1, h2, h3, h4⟩ := wa.ob
  refine ⟨dx, _, h1, ?_⟩
  unfold List.lookup
  rw [beq_eq_false_iff_ne.mpr h.1]
  unfold List.lookup
  rw [beq_eq_false_iff_ne.mpr h.2.1]
  unfold List.lookup
  rw [beq_eq_false_iff_ne.mpr h.2.2]
  rfl
/-- self.m(), m without arguments -/
theorem rd_m0 {sp : Sp} {dvs : List V} {E : XK} {σ : L2.St} {i : Nat} {m : Str} {H : Hp} {Q : VK} {a : Addr} {ws : List Str} {k : Nat} (wa : WAt C H a ws k) (e : σ[i]? = some (some (.ref a))) (h : m ≠ "pieces" ∧ m ≠ "at" ∧ m ≠ "many") (q : sp (.ref a :: ([] ++ dvs)) H Q E) : tMeth C m sp dvs E (tVar i) tNil σ H Q := by
  obtain ⟨dx, fs, h1, h2⟩ := wa.look m h
  exact ⟨.ref a, e, a, dx, fs, rfl, h1, h2, q⟩
theorem rd_m1 {sp : Sp} {dvs : List V} {E : XK} {σ : L2.St} {i : Nat} {m : Str} {H : Hp} {Q : VK} {a : Addr} {ws : List Str} {k : Nat} {te : TE} (wa : WAt C H a ws k) (e : σ[i]? = some (some (.ref a))) (h : m ≠ "pieces" ∧ m ≠ "at" ∧ m ≠ "many") (q : te σ H fun x H1 => sp (.ref a :: ([x] ++ dvs)) H1 Q E) : tMeth C m sp dvs E (tVar i) (tCons te tNil) σ H Q := by
  obtain ⟨dx, fs, h1, h2⟩ := wa.look m h
  exact ⟨.ref a, e, a, dx, fs, rfl, h1, h2, q⟩
theorem sees_eq {ws : List Str} {k : Nat} {z : Str} : decide (ws[k]? = some z) = (decide (k < ws.length) && match ws[k]? with | some y => decide (y = z) | none => false) := by
  by_cases h : k < ws.length
  · rw [List.getElem?_eq_getElem h, decide_eq_true h]
    simp
  · rw [List.getElem?_eq_none (by omega), decide_eq_false h]
    rfl
theorem ok_sees {f fM : Addr} {fd dM : FuncData} (F : Fun K "sees" "Words.sees" (sW 3) f fd) (W : WCls K C) (M : MethK P w K mg base CX0 1 C "has_more" fM dM ["self"] (spMore C)) : FnOk P w K mg base CX0 2 f fd ["self", "wanted"] (spSees C) := by
  refine F.ok (N := ["self", "wanted"]) ⟨rfl, rfl, rfl, by decide +kernel, rfl, by decide +kernel, by decide +kernel⟩ (fun vs H Q E h => ?_) (fun cdv A outer s H vs Q E hr h => ?_)
  · obtain ⟨a, ws, k, z, rfl, _⟩ := h
    rfl
  · obtain ⟨a, ws, k, z, rfl, wa, q⟩ := h
    refine ⟨_, pss_one (ps_ret (pe_and (pe_meth0 (pv 0) W.c M.m M.G hr M.b .nil pass0) (pe_one (pe_cmpR op_eq (pe_ix ix_tup (pe_ix ix_list (pe_fld (pv 0) (by rfl)) (pe_fld (pv 0) (by rfl)) (fun _ _ => rfl)) pe_int (fun _ _ => rfl)) (pv 1) (nomark _))))), ?_⟩
    rw [sees_eq] at q
    refine rd_m0 wa rfl (by decide +kernel) ⟨a, ws, k, rfl, wa, _, rfl, ?_⟩
    by_cases h : k < ws.length
    · rw [List.getElem?_eq_getElem h] at q
      rw [decide_eq_true h] at q ⊢
      refine iteT (rd_piece W rfl wa (List.getElem?_eq_getElem h) ⟨_, rfl, rfl, ?_⟩)
      have e : decide (V.str ws[k] = V.str z) = decide (ws[k] = z) := decide_eq_decide.mpr ⟨fun h => by injection h, fun h => by rw [h]⟩
      show Q (.bl (decide (V.str ws[k] = V.str z))) H
      rw [e]
      exact q
    · rw [decide_eq_false h] at q ⊢
      exact iteF q
theorem ok_refuse {f fM fI CT : Addr} {fd dM dI : FuncData} (F : Fun K "refuse" "Words.refuse" (sW 1) f fd) (W : WCls K C) (M : MethK P w K mg base CX0 1 C "has_more" fM dM ["self"] (spMore C)) (ET : ErrT K mg CT fI) (bI : Binds K dI ["self", "line", "word"] []) (GI : FnOk P w K mg base CX0 2 fI dI ["self", "line", "word"] (spIniT CT)) :
    FnOk P w K mg base (L2.CX P w) 4 f fd ["self"] (spRefuse C CT) := by
  refine F.okX (N := ["self"]) ⟨rfl, rfl, rfl, by decide +kernel, rfl, by decide +kernel, by decide +kernel⟩ (fun vs H Q E h => ?_) (fun cdv A outer s H vs Q E hr h => ?_)
  · obtain ⟨a, ws, k, rfl, _⟩ := h
    rfl
  · obtain ⟨a, ws, k, rfl, wa, told⟩ := h
    refine ⟨_, pss_cons (ps_if (pt_val (pe_meth0 (pv 0) W.c M.m M.G (hr.mono (by decide)) M.b .nil pass0))
        (pss_one (ps_raise rfl (takes_of rfl rfl rfl rfl) (pmk_oex ET.ox ET.ini ET.ty GI hr bI .nil pass0 (by rfl) ET.g (pa_cons pe_int (pa_cons (pe_ix ix_tup (pe_ix ix_list (pe_fld (pv 0) (by rfl)) (pe_fld (pv 0) (by rfl)) (fun _ _ => rfl)) pe_int (fun _ _ => rfl)) pa_nil))))) pss_nil)
      (pss_one (ps_raise rfl (takes_of rfl rfl rfl rfl) (pmk_oex ET.ox ET.ini ET.ty GI hr bI .nil pass0 (by rfl) ET.g (pa_cons pe_int (pa_cons (pe_fld (pv 0) (by rfl)) pa_nil))))), ?_⟩
    refine rd_m0 wa rfl (by decide +kernel) ⟨a, ws, k, rfl, wa, _, rfl, ?_⟩
    by_cases h : k < ws.length
    · rw [decide_eq_true h]
      refine iteT (rd_place W rfl wa (List.getElem?_eq_getElem h) ⟨by show 2 ≤ 1000; decide, ?_⟩)
      exact raisedT told
    · rw [decide_eq_false h]
      have e : (ws.length : Int) = (k : Int) := by
        have := wa.le
        omega
      obtain ⟨dx, pl, as, h1, h2, h3, h4⟩ := wa.ob
      refine iteF ⟨.ref a, rfl, a, C, dx, _, _, rfl, h1, W.c, W.nm, rfl, by show 2 ≤ 1000; decide, ?_⟩
      rw [e]
      exact raisedT told
end
end My
namespace My
open PySem PySem.Spec PyProof.Rows L2
theorem Keep1.of {a : Addr} {H H' : Hp} (s : Same' H H') : Keep1 a H H' := fun b o _ e => s b o e
theorem Keep1.trans {a : Addr} {H H' H2 : Hp} (s : Keep1 a H H') (t : Keep1 a H' H2) : Keep1 a H H2 := fun b o n e => t b o n (s b o n e)
/-- what is told of an error that is raised behind changes of a alone -/
def TellA (E : XK) (C a : Addr) (H : Hp) (k : Int) : Prop := ∀ (dd : Addr) (H' : Hp), Keep1 a H H' → H' dd = some (.xd [("word", .int k), ("line", .int 0)]) → E (.ref C) (some dd) H'
theorem TellA.t {E : XK} {C a : Addr} {H : Hp} {k : Int} (t : TellA E C a H k) : TellT E C H k := fun dd H' s e => t dd H' (.of s) e
theorem TellA.on {E : XK} {C a : Addr} {H H' : Hp} {k : Int} (t : TellA E C a H k) (s : Keep1 a H H') : TellA E C a H' k := fun dd H2 k2 e => t dd H2 (s.trans k2) e
theorem WAt.step {C : Addr} {H : Hp} {a : Addr} {ws : List Str} {k : Nat} (wa : WAt C H a ws k) (h : k < ws.length) : ∃ dx fs, H a = some (.ins C dx fs) ∧ fs.length < 1000 ∧ fs.lookup ("at" : Str) = some (V.int (k : Int)) ∧
    ∀ H', Same' H H' → Keep1 a H (upd H' a (.ins C dx (putF "at" (.int ((k : Int) + 1)) fs))) ∧ WAt C (upd H' a (.ins C dx (putF "at" (.int ((k : Int) + 1)) fs))) a ws (k + 1) := by
  obtain ⟨dx, pl, as, h1, h2, h3, h4⟩ := wa.ob
  refine ⟨dx, _, h1, by show 3 < 1000; decide, rfl, fun H' s => ?_⟩
  have kp : Keep1 a H (upd H' a (.ins C dx (putF "at" (.int ((k : Int) + 1)) [("pieces", .ref pl), ("at", .int (k : Int)), ("many", .int (ws.length : Int))]))) := fun b o n e => by
    rw [upd_ne n]
    exact s _ _ e
  have np : pl ≠ a := fun z => by
    rw [z, h1] at h2
    cases h2
  refine ⟨kp, ⟨dx, pl, as, ?_, kp _ _ np h2, h3, fun i p e => ?_⟩, h, wa.few, wa.len⟩
  · rw [upd_same]
    rfl
  · obtain ⟨z, z1, z2⟩ := h4 i p e
    refine ⟨z, z1, kp _ _ (fun y => ?_) z2⟩
    rw [y, h1] at z2
    cases z2
def spTake (C CT : Addr) : Sp := fun vs H Q E => ∃ (a : Addr) (ws : List Str) (k : Nat) (zs : List Str), vs = .ref a :: zs.map V.str ∧ zs.length ≤ 100 ∧ WAt C H a ws k ∧
  (∀ z, ws[k]? = some z → z ∈ zs → ∀ H', Keep1 a H H' → WAt C H' a ws (k + 1) → Q (.str z) H') ∧ ((∀ z, ws[k]? = some z → z ∉ zs) → TellA E CT a H (k : Int))
/-- the same with the words in a tuple -/
def spTakeT (C CT : Addr) : Sp := fun vs H Q E => ∃ (a t : Addr) (ws : List Str) (k : Nat) (zs : List Str), vs = [.ref a, .ref t] ∧ H t = some (.tup (zs.map V.str)) ∧ WAt C H a ws k ∧
  (∀ z, ws[k]? = some z → z ∈ zs → ∀ H', Keep1 a H H' → WAt C H' a ws (k + 1) → Q (.str z) H') ∧ ((∀ z, ws[k]? = some z → z ∉ zs) → TellA E CT a H (k : Int))
section
variable {P : Program} {w : World} {K : PySem.W.Frag} {mg : Str → Option Value} {base : Heap} {C : Addr}
abbrev nTake : List Str := ["self", "wanted", "piece"]
theorem scTake : FnScope nTake ["self", "wanted"] (defScope (sW 5)) := ⟨rfl, rfl, rfl, by decide +kernel, rfl, by decide +kernel, by decide +kernel⟩
theorem take_body {f fS fR CT : Addr} {dS dR : FuncData} {cdv : Value} {A : Around} {outer : List Env} {s : Shared} {H : Hp} {vs : List V} {Q : VK} {E : XK} (W : WCls K C) (S : MethK P w K mg base CX0 2 C "sees" fS dS ["self", "wanted"] (spSees C)) (R : MethK P w K mg base (L2.CX P w) 4 C "refuse" fR dR ["self"] (spRefuse C CT))
    (hr : Room 4 (cxOf (L2.CX P w) P w K mg base nTake "Words.take" (defScope (sW 5)) f cdv A outer s H E).A) (h : spTakeT C CT vs H Q E) :
    ∃ t, PSs (cxOf (L2.CX P w) P w K mg base nTake "Words.take" (defScope (sW 5)) f cdv A outer s H E) (defBody (sW 5)) t ∧ t { nx := fun _ H' => Q .non H', rt := Q } (L2.start nTake vs) H := by
  obtain ⟨a, t, ws, k, zs, rfl, ht, wa, yes, no⟩ := h
  refine ⟨_, pss_cons (ps_for (passes_of rfl) rfl (pi_tup (pv 1)) (pg_name (i := 2) scTake.nd rfl (.inl rfl))
      (pss_one (ps_if (pt_val (pe_meth (pv 0) W.c S.m S.G (hr.mono (by decide)) S.b .nil pass0 (pa_cons (pv 2) pa_nil)))
        (pss_cons (ps_fld (pv 0) (pe_op op_add (pe_fld (pv 0) (by rfl)) pe_int) (by rfl)) (pss_one (ps_ret (pv 2)))) pss_nil)))
    (pss_one (ps_expr (pe_meth0 (pv 0) W.c R.m R.G hr R.b .nil (passes_call (takes_of rfl rfl rfl rfl) (fun _ _ _ _ h => h))))), ?_⟩
  refine ⟨.ref t, rfl, t, rfl, ⟨_, SqT.of ht⟩, for_tup (xs := zs.map V.str) (fun i σ H' => H' = H ∧ (∃ z2, σ = [some (.ref a), some (.ref t), z2]) ∧ ∀ z ∈ zs.take i, ws[k]? ≠ some z) ⟨rfl, ⟨none, rfl⟩, fun z h => by simp at h⟩ (fun i σ H' _ hp => by rw [hp.1]; exact SqT.of ht) (fun i x σ H' hx hp => ?_) (fun σ H' hp => ?_)⟩
  · obtain ⟨rfl, ⟨z2, rfl⟩, nn⟩ := hp
    rw [List.getElem?_map] at hx
    cases e : zs[i]? with
    | none => rw [e] at hx; cases hx
    | some z =>
      rw [e] at hx
      injection hx with hx
      subst hx
      refine rd_m1 wa rfl (by decide +kernel) ⟨_, rfl, a, ws, k, z, rfl, wa, _, rfl, ?_⟩
      by_cases h : ws[k]? = some z
      · rw [decide_eq_true h]
        have hk : k < ws.length := (List.getElem?_eq_some_iff.mp h).1
        obtain ⟨dx, fs, h1, h2, h3, h4⟩ := wa.step hk
        refine iteT ?_
        refine ⟨.ref a, rfl, a, C, dx, fs, .int (k : Int), rfl, h1, W.c, W.na, h3, (k : Int), 1, rfl, rfl, ?_⟩
        refine ⟨.ref a, rfl, a, C, dx, fs, rfl, h1, W.c, W.na, h2, ?_⟩
        obtain ⟨k1, w1⟩ := h4 H' fun _ _ e => e
        exact ⟨_, rfl, yes z h (List.mem_of_getElem? e) _ k1 w1⟩
      · rw [decide_eq_false h]
        refine iteF ⟨rfl, ⟨_, rfl⟩, fun y hy => ?_⟩
        rw [List.take_add_one, e] at hy
        rcases List.mem_append.mp hy with hy | hy
        · exact nn y hy
        · obtain rfl : y = z := by simpa using hy
          exact h
  · obtain ⟨rfl, ⟨z2, rfl⟩, nn⟩ := hp
    rw [List.length_map, List.take_length] at nn
    exact rd_m0 wa rfl (by decide +kernel) ⟨a, ws, k, rfl, wa, (no fun z hz hm => nn z hm hz).t⟩
end
end My
/-! o.m( *e), e a list or a tuple -/
namespace My
open PySem PySem.Spec PyProof.Rows L2
def tMethSL (K : PySem.W.Frag) (C : Addr) (m : Str) (g : Addr) (sp : Sp) (E : XK) (to te : TE) : TE := fun σ H Q => to σ H fun x H1 => ∃ a dx fs, x = .ref a ∧ H1 a = some (.ins C dx fs) ∧ fs.lookup m = none ∧
  ∀ q, H1 q = none → te σ (upd H1 q (.met g a)) fun y H2 => ∃ b vs, y = .ref b ∧ (SqT K H2 b vs ∨ SqL K H2 b vs) ∧ H2 q = some (.met g a) ∧ sp (.ref a :: vs) H2 Q E
theorem pe_methSL {X : Cx} {CX : CXT} {k : Nat} {C g : Addr} {m : Str} {sp : Sp} {E : XK} {ob ar : Expr} {to te : TE} {p1 p2 p3 : Pos} (ho : PE X ob to) (hc : Cls X.K C) (hb : BMeth X.K C m g) (F : FnR X.prog X.w X.K X.mg X.base CX k g sp) (hr : Room k X.A)
    (hx : Passes CX X E) (he : PE X ar te) (base : attributeBase ob m X.env (eval ob X.env) = eval ob X.env := by rfl) : PE X (.Call (.Attribute ob m p2) [.Starred ar p1] [] p3) (tMethSL X.K C m g sp E to te) := by
  refine ⟨fun pins s σ H Q I h => starcall_of base (thn (ho.run pins s σ H _ I h) fun u s1 z => ?_)⟩
  obtain ⟨x, H1, I1, rx, a, dx, fs, rfl, ea, lo, q⟩ := z
  have eu : u = Value.ref a := rx
  subst eu
  refine getbound_ok I1 ea hc hb lo fun q1 s2 hq1 I2 => PySem.W.ks_call (P := PySem.W.MethP X.K q1 g (.ref a)) rfl (PySem.W.keeps_M hb.fi) (PySem.W.ks_lone ?_)
  refine thn (he.run pins s2 σ _ _ I2 (q q1 hq1)) fun v s3 z => ?_
  obtain ⟨y, H2, I3, ry, t, vs, rfl, ht, hm, hsp⟩ := z
  have ev : v = Value.ref t := ry
  subst ev
  refine StX.star_any I3 ht fun us s4 I4 rv => ⟨met_P I4 hm, wpAny_call (PySem.W.method_call (met_P I4 hm).1 ?_)⟩
  exact run_fnR (us := Value.ref a :: us) (vs := V.ref a :: vs) F hr hx I4 (.cons rfl rv) hsp
end My
namespace My
open PySem PySem.Spec PyProof.Rows L2
theorem takeT_of {C CT : Addr} {H : Hp} {Q : VK} {E : XK} {vs : List V} (h : spTake C CT vs H Q E) : ∃ ws rest, vs = ws ++ rest ∧ ws.length = (["self"] : List Str).length ∧ rest.length ≤ sizeLine ∧ ∀ p, H p = Option.none → spTakeT C CT (ws ++ [V.ref p]) (upd H p (.tup rest)) Q E := by
  obtain ⟨a, ws, k, zs, rfl, few, wa, yes, no⟩ := h
  refine ⟨[.ref a], zs.map V.str, rfl, rfl, Nat.le_of_lt (small1000 (by rw [List.length_map]; omega)), fun p hp => ?_⟩
  have s := same_new (o := .tup (zs.map V.str)) hp
  exact ⟨a, p, ws, k, zs, rfl, upd_same, wa.keep s, fun z e m H' k1 w1 => yes z e m H' (Keep1.trans (.of s) k1) w1, fun n => (no n).on (.of s)⟩
def spTakeIf (C CT fF : Addr) (ans : Str → Bool) : Sp := fun vs H Q E => ∃ (a : Addr) (ws : List Str) (k : Nat), vs = [.ref a, .ref fF] ∧ WAt C H a ws k ∧
  (∀ z, ws[k]? = some z → ans z = true → ∀ H', Keep1 a H H' → WAt C H' a ws (k + 1) → Q (.str z) H') ∧ ((∀ z, ws[k]? = some z → ans z = false) → TellA E CT a H (k : Int))
def spTakeW (C CT : Addr) : Sp := fun vs H Q E => ∃ (a : Addr) (ws : List Str) (k : Nat), vs = [.ref a] ∧ WAt C H a ws k ∧
  (∀ z, ws[k]? = some z → wd z = true → ∀ H', Keep1 a H H' → WAt C H' a ws (k + 1) → Q (.str z) H') ∧ ((∀ z, ws[k]? = some z → wd z = false) → TellA E CT a H (k : Int))
/-- a name that may stand -/
def nmOk (last : Str) (bs : List Str) (z : Str) : Bool := decide (last.cps.toList < z.cps.toList) && !decide (z ∈ bs) && nm z
def spTakeN (C CT : Addr) (sq : Hp → Addr → List Str → Prop) : Sp := fun vs H Q E => ∃ (a b : Addr) (last : Str) (bs ws : List Str) (k : Nat), vs = [.ref a, .str last, .ref b] ∧ sq H b bs ∧ (∀ H', Same' H H' → sq H' b bs) ∧ bs.length ≤ 900 ∧ WAt C H a ws k ∧
  (∀ z, ws[k]? = some z → nmOk last bs z = true → ∀ H', Keep1 a H H' → WAt C H' a ws (k + 1) → Q (.str z) H') ∧ ((∀ z, ws[k]? = some z → nmOk last bs z = false) → TellA E CT a H (k : Int))
def spFinish (C CT : Addr) : Sp := fun vs H Q E => ∃ (a : Addr) (ws : List Str) (k : Nat), vs = [.ref a] ∧ WAt C H a ws k ∧ (k = ws.length → Q .non H) ∧ (k < ws.length → TellA E CT a H (k : Int))
section
variable {P : Program} {w : World} {K : PySem.W.Frag} {mg : Str → Option Value} {base : Heap} {C : Addr}
theorem ok_take {f fS fR CT : Addr} {fd dS dR : FuncData} (F : Fun K "take" "Words.take" (sW 5) f fd) (W : WCls K C) (S : MethK P w K mg base CX0 2 C "sees" fS dS ["self", "wanted"] (spSees C)) (R : MethK P w K mg base (L2.CX P w) 4 C "refuse" fR dR ["self"] (spRefuse C CT)) : FnR P w K mg base (L2.CX P w) 5 f (spTake C CT) := by
  obtain ⟨oc, od, kV, doc, pm, an, cdv, ct, osl, rfl, lk, hcd⟩ := F.ex
  refine FnR.imp (StX.fn_star (ps := ["self"]) (pv := "wanted") (sp := spTakeT C CT) lk hcd scTake StX.cxUp (StX.bind_star1 (B := fun us => bindArgs (PySem.W.fnOf "take" "Words.take" (defArgs (sW 5)) (defBody (sW 5)) (defScope (sW 5)) .none kV doc pm an cdv ct) ⟨us, []⟩) (fun _ => rfl) (fun _ _ _ => rfl)) fun A outer s H vs Q E hr h => take_body W S R hr h) fun vs H Q E h => takeT_of h
theorem ok_takeIf {f fM fR fF CT : Addr} {fd dM dR dF : FuncData} {n : Nat} {ans : Str → Bool} (F : Fun K "_take_if" "Words._take_if" (sW 12) f fd) (W : WCls K C) (M : MethK P w K mg base CX0 1 C "has_more" fM dM ["self"] (spMore C)) (R : MethK P w K mg base (L2.CX P w) 4 C "refuse" fR dR ["self"] (spRefuse C CT))
    (kF : PySem.W.keepIn K (.ref fF) = true) (bF : Binds K dF ["value"] []) (GF : FnOk P w K mg base CX0 2 fF dF ["value"] (spWord K ans)) : FnOk P w K mg base (L2.CX P w) 5 f fd ["self", "fits"] (spTakeIf C CT fF ans) := by
  refine F.okX (N := ["self", "fits"]) ⟨rfl, rfl, rfl, by decide +kernel, rfl, by decide +kernel, by decide +kernel⟩ (fun vs H Q E h => ?_) (fun cdv A outer s H vs Q E hr h => ?_)
  · obtain ⟨a, ws, k, rfl, _⟩ := h
    rfl
  · obtain ⟨a, ws, k, rfl, wa, yes, no⟩ := h
    refine ⟨_, pss_cons (ps_if (PW.pt (pw_or (pt_not (pt_val (pe_meth0 (pv 0) W.c M.m M.G (hr.mono (by decide)) M.b .nil pass0)))
          (pw_or1 (pt_not (pt_val (pe_callL (i := 1) GF (hr.mono (by decide)) rfl (.inl rfl) kF bF .nil pass0 (pa_cons (pe_ix ix_tup (pe_ix ix_list (pe_fld (pv 0) (by rfl)) (pe_fld (pv 0) (by rfl)) (fun _ _ => rfl)) pe_int (fun _ _ => rfl)) pa_nil)))))))
        (pss_one (ps_expr (pe_meth0 (pv 0) W.c R.m R.G hr R.b .nil (passes_call (takes_of rfl rfl rfl rfl) (fun _ _ _ _ h => h))))) pss_nil)
      (pss_cons (ps_fld (pv 0) (pe_op op_add (pe_fld (pv 0) (by rfl)) pe_int) (by rfl))
      (pss_one (ps_ret (pe_ix ix_tup (pe_ix ix_list (pe_fld (pv 0) (by rfl)) (pe_op op_sub (pe_fld (pv 0) (by rfl)) pe_int) (fun _ _ => rfl)) pe_int (fun _ _ => rfl))))), ?_⟩
    refine rd_m0 wa rfl (by decide +kernel) ⟨a, ws, k, rfl, wa, _, rfl, ?_⟩
    by_cases h : k < ws.length
    · rw [decide_eq_true h]
      have e := List.getElem?_eq_getElem h
      refine iteF ?_
      refine ⟨rfl, rd_piece W rfl wa e ⟨_, rfl, .inl ⟨_, rfl, wa.len _ (List.getElem_mem h), fun H1 s1 => ⟨ans ws[k], rfl, ?_⟩⟩⟩⟩
      have wa1 := wa.keep s1
      cases ha : ans ws[k] with
      | true =>
        obtain ⟨dx, fs, h1, h2, h3, h4⟩ := wa1.step h
        refine iteF ?_
        refine ⟨.ref a, rfl, a, C, dx, fs, .int (k : Int), rfl, h1, W.c, W.na, h3, (k : Int), 1, rfl, rfl, ?_⟩
        refine ⟨.ref a, rfl, a, C, dx, fs, rfl, h1, W.c, W.na, h2, ?_⟩
        obtain ⟨k1, w1⟩ := h4 H1 fun _ _ e => e
        obtain ⟨H2, eH⟩ : ∃ H2, upd H1 a (.ins C dx (putF "at" (.int ((k : Int) + 1)) fs)) = H2 := ⟨_, rfl⟩
        rw [eH] at k1 w1 ⊢
        obtain ⟨dx2, pl, as, g1, g2, g3, g4⟩ := w1.ob
        have hk : k < as.length := by rw [g3]; exact h
        obtain ⟨y, y1, y2⟩ := g4 k _ (List.getElem?_eq_getElem hk)
        rw [e] at y1
        injection y1 with y1
        refine ⟨.ref a, rfl, a, C, dx2, _, _, rfl, g1, W.c, W.np, rfl, .ref a, rfl, a, C, dx2, _, _, rfl, g1, W.c, W.na, rfl, _, 1, rfl, rfl, ?_⟩
        refine ⟨pl, _, ((k + 1 : Nat) : Int) - 1, .ref as[k], rfl, rfl, SqL.of g2, ?_, ?_⟩
        · rw [show ((k + 1 : Nat) : Int) - 1 = (k : Int) by omega]
          exact atI_nat (by rw [List.getElem?_map, List.getElem?_eq_getElem hk]; rfl)
        · refine ⟨_, _, 0, .str y, rfl, rfl, SqT.of y2, rfl, ?_⟩
          rw [← y1]
          exact yes _ e ha _ (Keep1.trans (.of s1) k1) w1
      | false =>
        refine iteT ?_
        refine rd_m0 wa1 rfl (by decide +kernel) ⟨a, ws, k, rfl, wa1, ?_⟩
        refine ((no fun z hz => ?_).on (.of s1)).t
        rw [e] at hz
        injection hz with hz
        rw [← hz]
        exact ha
    · rw [decide_eq_false h]
      refine iteT (iteT ?_)
      refine rd_m0 wa rfl (by decide +kernel) ⟨a, ws, k, rfl, wa, ?_⟩
      refine (no fun z hz => ?_).t
      rw [List.getElem?_eq_none (by omega)] at hz
      cases hz
end
end My
namespace My
open PySem PySem.Spec PyProof.Rows L2
theorem and_one {A B : TT} {σ : L2.St} {H : Hp} {Q : Bool → Hp → Prop} {c d : Bool} (ha : ∀ R : Bool → Hp → Prop, R c H → A σ H R) (hb : c = true → ∀ R : Bool → Hp → Prop, R d H → B σ H R) (q : Q (c && d) H) : tAnd A B σ H Q := ha _ (by
  cases c with
  | true => exact iteT (hb rfl _ q)
  | false => exact iteF q)
def hits (ws : List Str) (k : Nat) (bs : List Str) : Bool := (bs.map fun b => decide (ws[k]? = some b)).any id
theorem hits_mem {ws : List Str} {k : Nat} {bs : List Str} {z : Str} (h : ws[k]? = some z) : hits ws k bs = decide (z ∈ bs) := by
  unfold hits
  rw [h, List.any_map]
  induction bs with
  | nil => rfl
  | cons b r ih =>
    rw [List.any_cons, ih]
    by_cases e : z = b
    · subst e
      simp
    · simp [e]
theorem hits_none {ws : List Str} {k : Nat} {bs : List Str} (h : ws[k]? = none) : hits ws k bs = false := by
  unfold hits
  rw [h, List.any_map]
  induction bs with
  | nil => rfl
  | cons b r ih =>
    rw [List.any_cons, ih]
    rfl
section
variable {P : Program} {w : World} {K : PySem.W.Frag} {mg : Str → Option Value} {base : Heap} {C : Addr}
theorem ok_finish {f fM fR CT : Addr} {fd dM dR : FuncData} (F : Fun K "finish" "Words.finish" (sW 11) f fd) (W : WCls K C) (M : MethK P w K mg base CX0 1 C "has_more" fM dM ["self"] (spMore C)) (R : MethK P w K mg base (L2.CX P w) 4 C "refuse" fR dR ["self"] (spRefuse C CT)) : FnOk P w K mg base (L2.CX P w) 5 f fd ["self"] (spFinish C CT) := by
  refine F.okX (N := ["self"]) ⟨rfl, rfl, rfl, by decide +kernel, rfl, by decide +kernel, by decide +kernel⟩ (fun vs H Q E h => ?_) (fun cdv A outer s H vs Q E hr h => ?_)
  · obtain ⟨a, ws, k, rfl, _⟩ := h
    rfl
  · obtain ⟨a, ws, k, rfl, wa, yes, no⟩ := h
    refine ⟨_, pss_one (ps_if (pt_val (pe_meth0 (pv 0) W.c M.m M.G (hr.mono (by decide)) M.b .nil pass0)) (pss_one (ps_expr (pe_meth0 (pv 0) W.c R.m R.G hr R.b .nil (passes_call (takes_of rfl rfl rfl rfl) (fun _ _ _ _ h => h))))) pss_nil), ?_⟩
    refine rd_m0 wa rfl (by decide +kernel) ⟨a, ws, k, rfl, wa, _, rfl, ?_⟩
    by_cases h : k < ws.length
    · rw [decide_eq_true h]
      exact iteT (rd_m0 wa rfl (by decide +kernel) ⟨a, ws, k, rfl, wa, (no h).t⟩)
    · rw [decide_eq_false h]
      exact iteF (yes (by have := wa.le; omega))
abbrev nTN : List Str := ["self", "last", "barred", "name"]
theorem scTN : FnScope nTN ["self", "last", "barred"] (defScope (sW 6)) := ⟨rfl, rfl, rfl, by decide +kernel, rfl, by decide +kernel, by decide +kernel⟩
theorem nameL_body {f fM fS fR fI fN CT : Addr} {dM dS dR dI : FuncData} {cdv : Value} {A : Around} {outer : List Env} {s : Shared} {H : Hp} {vs : List V} {Q : VK} {E : XK} (T : Txt mg) (W : WCls K C) (M : MethK P w K mg base CX0 1 C "has_more" fM dM ["self"] (spMore C)) (S : MethK P w K mg base CX0 2 C "sees" fS dS ["self", "wanted"] (spSees C)) (R : MethK P w K mg base (L2.CX P w) 4 C "refuse" fR dR ["self"] (spRefuse C CT)) (TI : MethK P w K mg base (L2.CX P w) 5 C "_take_if" fI dI ["self", "fits"] (spTakeIf C CT fN nm)) (gN : mg "is_name" = some (.ref fN))
    (hr : Room 5 (cxOf (L2.CX P w) P w K mg base nTN "Words.take_name" (defScope (sW 6)) f cdv A outer s H E).A) (h : spTakeN C CT (fun H b bs => H b = some (.lst (bs.map V.str))) vs H Q E) :
    ∃ t, PSs (cxOf (L2.CX P w) P w K mg base nTN "Words.take_name" (defScope (sW 6)) f cdv A outer s H E) (defBody (sW 6)) t ∧ t { nx := fun _ H' => Q .non H', rt := Q } (L2.start nTN vs) H := by
  obtain ⟨a, b, last, bs, ws, k, rfl, hb, kb, fb, wa, yes, no⟩ := h
  refine ⟨_, pss_cons (ps_if (PW.pt (pw_and (pt_val (pe_meth0 (pv 0) W.c M.m M.G (hr.mono (by decide)) M.b .nil pass0))
          (pw_and1 (pt_cmpR op_le_str (pe_ix ix_tup (pe_ix ix_list (pe_fld (pv 0) (by rfl)) (pe_fld (pv 0) (by rfl)) (fun _ _ => rfl)) pe_int (fun _ _ => rfl)) (pv 1) (nomark _)))))
        (pss_one (ps_expr (pe_meth0 (pv 0) W.c R.m R.G (hr.mono (by decide)) R.b .nil (passes_call (takes_of rfl rfl rfl rfl) (fun _ _ _ _ h => h))))) pss_nil)
      (pss_cons (ps_if (pt_val (pe_callB (cr_any rfl) (by rfl) T.any (by decide +kernel) (pa_cons (pe_lc (own := [("name", 3)]) (g := gName 3) (tt := tYes) rfl scTN.nd (pi_list (pv 2)) (blkOk_by (N := nTN) (sc := defScope (sW 6)) (by decide +kernel)) (fun _ _ _ _ _ => pg_name (i := 3) scTN.nd rfl (Or.inl rfl)) (fun _ _ _ _ _ => pts_nil)
            (fun s1 H1 C1 cl1 fp1 => pe_meth (X := (cxOf (L2.CX P w) P w K mg base nTN "Words.take_name" (defScope (sW 6)) f cdv A outer s H E).blk s1 H1 _ (compEnvC _ cl1 C1 (cxOf (L2.CX P w) P w K mg base nTN "Words.take_name" (defScope (sW 6)) f cdv A outer s H E).env) fp1) (pv 0) W.c S.m S.G (hr.mono (by decide)) S.b .nil pass0 (pa_cons (pv 3) pa_nil))) pa_nil)))
        (pss_one (ps_expr (pe_meth0 (pv 0) W.c R.m R.G (hr.mono (by decide)) R.b .nil (passes_call (takes_of rfl rfl rfl rfl) (fun _ _ _ _ h => h))))) pss_nil)
      (pss_one (ps_ret (pe_meth (pv 0) W.c TI.m TI.G hr TI.b .nil (passes_call (takes_of rfl rfl rfl rfl) (fun _ _ _ _ h => h)) (pa_cons (pe_glob (v := .ref fN) rfl gN rfl) pa_nil))))), ?_⟩
  refine and_one (c := decide (k < ws.length)) (d := sayW (fun z => !decide (last.cps.toList < z.cps.toList)) ws k) (fun R r => rd_m0 wa rfl (by decide +kernel) ⟨a, ws, k, rfl, wa, _, rfl, r⟩) (fun hc R r => ?_) ?_
  · have hk := of_decide_eq_true hc
    unfold sayW at r
    rw [List.getElem?_eq_getElem hk] at r
    exact rd_piece W rfl wa (List.getElem?_eq_getElem hk) ⟨_, rfl, _, _, rfl, rfl, _, rfl, r⟩
  · cases hb1 : (decide (k < ws.length) && sayW (fun z => !decide (last.cps.toList < z.cps.toList)) ws k) with
    | true =>
      refine iteT (rd_m0 wa rfl (by decide +kernel) ⟨a, ws, k, rfl, wa, (no fun z hz => ?_).t⟩)
      rw [Bool.and_eq_true] at hb1
      have := hb1.2
      unfold sayW at this
      rw [hz] at this
      unfold nmOk
      simp only [Bool.not_eq_true'] at this
      rw [this]
      rfl
    | false =>
      refine iteF ⟨.ref b, rfl, b, rfl, ⟨_, SqL.of hb⟩, fun D hD => ?_⟩
      refine lc_list (K := K) (a := b) (xs := bs.map V.str) (fun i H' => Same' H H' ∧ H' D = some (.lst ((bs.take i).map fun y => V.bl (decide (ws[k]? = some y))))) ⟨same_new hD, upd_same⟩ (fun i H' _ hp => SqL.of (kb _ hp.1)) (fun i x H' hx hp => ?_) (fun H' hp => ?_)
      · obtain ⟨sm, ed⟩ := hp
        rw [List.getElem?_map] at hx
        cases e : bs[i]? with
        | none => rw [e] at hx; cases hx
        | some y =>
          rw [e] at hx
          injection hx with hx
          subst hx
          refine ⟨rfl, rd_m1 (wa.keep sm) rfl (by decide +kernel) ⟨_, rfl, a, ws, k, y, rfl, wa.keep sm, _, ed, small1000 ?_, same_over hD sm, ?_⟩⟩
          · rw [List.length_map, List.length_take]
            omega
          · rw [upd_same]
            show some (HO.lst ((bs.take i).map (fun y => V.bl (decide (ws[k]? = some y))) ++ [V.bl (decide (ws[k]? = some y))])) = _
            rw [List.take_add_one, e, List.map_append]
            rfl
      · obtain ⟨sm, ed⟩ := hp
        rw [List.length_map, List.take_length] at ed
        have wa1 := wa.keep sm
        refine ⟨D, bs.map fun y => decide (ws[k]? = some y), rfl, SqL.of ?_, hits ws k bs, rfl, ?_⟩
        · rw [ed, List.map_map]
          rfl
        · cases hh : hits ws k bs with
          | true =>
            refine iteT (rd_m0 wa1 rfl (by decide +kernel) ⟨a, ws, k, rfl, wa1, ((no fun z hz => ?_).on (.of sm)).t⟩)
            rw [hits_mem hz] at hh
            unfold nmOk
            rw [hh]
            simp
          | false =>
            refine iteF (rd_m1 wa1 rfl (by decide +kernel) ⟨a, ws, k, rfl, wa1, fun z hz hn H2 k2 w2 => ?_, fun n => (no fun z hz => ?_).on (.of sm)⟩)
            · refine yes z hz ?_ H2 (Keep1.trans (.of sm) k2) w2
              have hk : k < ws.length := (List.getElem?_eq_some_iff.mp hz).1
              rw [decide_eq_true hk] at hb1
              unfold sayW at hb1
              rw [hz] at hb1
              simp only [Bool.true_and, Bool.not_eq_false'] at hb1
              rw [hits_mem hz] at hh
              unfold nmOk
              rw [hb1, hh, hn]
              rfl
            · unfold nmOk
              rw [n z hz]
              simp
end
end My
namespace My
open PySem PySem.Spec PyProof.Rows L2
section
variable {P : Program} {w : World} {K : PySem.W.Frag} {mg : Str → Option Value} {base : Heap} {C : Addr}
theorem nameT_body {f fM fS fR fI fN CT : Addr} {dM dS dR dI : FuncData} {cdv : Value} {A : Around} {outer : List Env} {s : Shared} {H : Hp} {vs : List V} {Q : VK} {E : XK} (T : Txt mg) (W : WCls K C) (M : MethK P w K mg base CX0 1 C "has_more" fM dM ["self"] (spMore C)) (S : MethK P w K mg base CX0 2 C "sees" fS dS ["self", "wanted"] (spSees C)) (R : MethK P w K mg base (L2.CX P w) 4 C "refuse" fR dR ["self"] (spRefuse C CT)) (TI : MethK P w K mg base (L2.CX P w) 5 C "_take_if" fI dI ["self", "fits"] (spTakeIf C CT fN nm)) (gN : mg "is_name" = some (.ref fN))
    (hr : Room 5 (cxOf (L2.CX P w) P w K mg base nTN "Words.take_name" (defScope (sW 6)) f cdv A outer s H E).A) (h : spTakeN C CT (fun H b bs => SqT K H b (bs.map V.str)) vs H Q E) :
    ∃ t, PSs (cxOf (L2.CX P w) P w K mg base nTN "Words.take_name" (defScope (sW 6)) f cdv A outer s H E) (defBody (sW 6)) t ∧ t { nx := fun _ H' => Q .non H', rt := Q } (L2.start nTN vs) H := by
  obtain ⟨a, b, last, bs, ws, k, rfl, hb, kb, fb, wa, yes, no⟩ := h
  refine ⟨_, pss_cons (ps_if (PW.pt (pw_and (pt_val (pe_meth0 (pv 0) W.c M.m M.G (hr.mono (by decide)) M.b .nil pass0))
          (pw_and1 (pt_cmpR op_le_str (pe_ix ix_tup (pe_ix ix_list (pe_fld (pv 0) (by rfl)) (pe_fld (pv 0) (by rfl)) (fun _ _ => rfl)) pe_int (fun _ _ => rfl)) (pv 1) (nomark _)))))
        (pss_one (ps_expr (pe_meth0 (pv 0) W.c R.m R.G (hr.mono (by decide)) R.b .nil (passes_call (takes_of rfl rfl rfl rfl) (fun _ _ _ _ h => h))))) pss_nil)
      (pss_cons (ps_if (pt_val (pe_callB (cr_any rfl) (by rfl) T.any (by decide +kernel) (pa_cons (pe_lc (own := [("name", 3)]) (g := gName 3) (tt := tYes) rfl scTN.nd (pi_tup (pv 2)) (blkOk_by (N := nTN) (sc := defScope (sW 6)) (by decide +kernel)) (fun _ _ _ _ _ => pg_name (i := 3) scTN.nd rfl (Or.inl rfl)) (fun _ _ _ _ _ => pts_nil)
            (fun s1 H1 C1 cl1 fp1 => pe_meth (X := (cxOf (L2.CX P w) P w K mg base nTN "Words.take_name" (defScope (sW 6)) f cdv A outer s H E).blk s1 H1 _ (compEnvC _ cl1 C1 (cxOf (L2.CX P w) P w K mg base nTN "Words.take_name" (defScope (sW 6)) f cdv A outer s H E).env) fp1) (pv 0) W.c S.m S.G (hr.mono (by decide)) S.b .nil pass0 (pa_cons (pv 3) pa_nil))) pa_nil)))
        (pss_one (ps_expr (pe_meth0 (pv 0) W.c R.m R.G (hr.mono (by decide)) R.b .nil (passes_call (takes_of rfl rfl rfl rfl) (fun _ _ _ _ h => h))))) pss_nil)
      (pss_one (ps_ret (pe_meth (pv 0) W.c TI.m TI.G hr TI.b .nil (passes_call (takes_of rfl rfl rfl rfl) (fun _ _ _ _ h => h)) (pa_cons (pe_glob (v := .ref fN) rfl gN rfl) pa_nil))))), ?_⟩
  refine and_one (c := decide (k < ws.length)) (d := sayW (fun z => !decide (last.cps.toList < z.cps.toList)) ws k) (fun R r => rd_m0 wa rfl (by decide +kernel) ⟨a, ws, k, rfl, wa, _, rfl, r⟩) (fun hc R r => ?_) ?_
  · have hk := of_decide_eq_true hc
    unfold sayW at r
    rw [List.getElem?_eq_getElem hk] at r
    exact rd_piece W rfl wa (List.getElem?_eq_getElem hk) ⟨_, rfl, _, _, rfl, rfl, _, rfl, r⟩
  · cases hb1 : (decide (k < ws.length) && sayW (fun z => !decide (last.cps.toList < z.cps.toList)) ws k) with
    | true =>
      refine iteT (rd_m0 wa rfl (by decide +kernel) ⟨a, ws, k, rfl, wa, (no fun z hz => ?_).t⟩)
      rw [Bool.and_eq_true] at hb1
      have := hb1.2
      unfold sayW at this
      rw [hz] at this
      unfold nmOk
      simp only [Bool.not_eq_true'] at this
      rw [this]
      rfl
    | false =>
      refine iteF ⟨.ref b, rfl, b, rfl, ⟨_, hb⟩, fun D hD => ?_⟩
      refine lc_tup (K := K) (a := b) (xs := bs.map V.str) (fun i H' => Same' H H' ∧ H' D = some (.lst ((bs.take i).map fun y => V.bl (decide (ws[k]? = some y))))) ⟨same_new hD, upd_same⟩ (fun i H' _ hp => kb _ hp.1) (fun i x H' hx hp => ?_) (fun H' hp => ?_)
      · obtain ⟨sm, ed⟩ := hp
        rw [List.getElem?_map] at hx
        cases e : bs[i]? with
        | none => rw [e] at hx; cases hx
        | some y =>
          rw [e] at hx
          injection hx with hx
          subst hx
          refine ⟨rfl, rd_m1 (wa.keep sm) rfl (by decide +kernel) ⟨_, rfl, a, ws, k, y, rfl, wa.keep sm, _, ed, small1000 ?_, same_over hD sm, ?_⟩⟩
          · rw [List.length_map, List.length_take]
            omega
          · rw [upd_same]
            show some (HO.lst ((bs.take i).map (fun y => V.bl (decide (ws[k]? = some y))) ++ [V.bl (decide (ws[k]? = some y))])) = _
            rw [List.take_add_one, e, List.map_append]
            rfl
      · obtain ⟨sm, ed⟩ := hp
        rw [List.length_map, List.take_length] at ed
        have wa1 := wa.keep sm
        refine ⟨D, bs.map fun y => decide (ws[k]? = some y), rfl, SqL.of ?_, hits ws k bs, rfl, ?_⟩
        · rw [ed, List.map_map]
          rfl
        · cases hh : hits ws k bs with
          | true =>
            refine iteT (rd_m0 wa1 rfl (by decide +kernel) ⟨a, ws, k, rfl, wa1, ((no fun z hz => ?_).on (.of sm)).t⟩)
            rw [hits_mem hz] at hh
            unfold nmOk
            rw [hh]
            simp
          | false =>
            refine iteF (rd_m1 wa1 rfl (by decide +kernel) ⟨a, ws, k, rfl, wa1, fun z hz hn H2 k2 w2 => ?_, fun n => (no fun z hz => ?_).on (.of sm)⟩)
            · refine yes z hz ?_ H2 (Keep1.trans (.of sm) k2) w2
              have hk : k < ws.length := (List.getElem?_eq_some_iff.mp hz).1
              rw [decide_eq_true hk] at hb1
              unfold sayW at hb1
              rw [hz] at hb1
              simp only [Bool.true_and, Bool.not_eq_false'] at hb1
              rw [hits_mem hz] at hh
              unfold nmOk
              rw [hb1, hh, hn]
              rfl
            · unfold nmOk
              rw [n z hz]
              simp

abbrev FTN (K : PySem.W.Frag) (e0 f : Addr) (fd : FuncData) : Prop := FunD K "take_name" "Words.take_name" (defArgs (sW 6)) (defBody (sW 6)) (defScope (sW 6)) [.str "", .ref e0] [] f fd
theorem ok_nameL {f fM fS fR fI fN CT e0 : Addr} {fd dM dS dR dI : FuncData} (F : FTN K e0 f fd) (T : Txt mg) (W : WCls K C) (M : MethK P w K mg base CX0 1 C "has_more" fM dM ["self"] (spMore C)) (S : MethK P w K mg base CX0 2 C "sees" fS dS ["self", "wanted"] (spSees C)) (R : MethK P w K mg base (L2.CX P w) 4 C "refuse" fR dR ["self"] (spRefuse C CT)) (TI : MethK P w K mg base (L2.CX P w) 5 C "_take_if" fI dI ["self", "fits"] (spTakeIf C CT fN nm)) (gN : mg "is_name" = some (.ref fN)) :
    FnOk P w K mg base (L2.CX P w) 6 f fd ["self", "last", "barred"] (spTakeN C CT fun H b bs => H b = some (.lst (bs.map V.str))) := by
  refine F.ok scTN (fun vs H Q E h => ?_) (fun cdv A outer s H vs Q E hr h => nameL_body T W M S R TI gN hr h)
  obtain ⟨a, b, last, bs, ws, k, rfl, _⟩ := h
  rfl
theorem ok_nameT {f fM fS fR fI fN CT e0 : Addr} {fd dM dS dR dI : FuncData} (F : FTN K e0 f fd) (T : Txt mg) (W : WCls K C) (M : MethK P w K mg base CX0 1 C "has_more" fM dM ["self"] (spMore C)) (S : MethK P w K mg base CX0 2 C "sees" fS dS ["self", "wanted"] (spSees C)) (R : MethK P w K mg base (L2.CX P w) 4 C "refuse" fR dR ["self"] (spRefuse C CT)) (TI : MethK P w K mg base (L2.CX P w) 5 C "_take_if" fI dI ["self", "fits"] (spTakeIf C CT fN nm)) (gN : mg "is_name" = some (.ref fN)) :
    FnOk P w K mg base (L2.CX P w) 6 f fd ["self", "last", "barred"] (spTakeN C CT fun H b bs => SqT K H b (bs.map V.str)) := by
  refine F.ok scTN (fun vs H Q E h => ?_) (fun cdv A outer s H vs Q E hr h => nameT_body T W M S R TI gN hr h)
  obtain ⟨a, b, last, bs, ws, k, rfl, _⟩ := h
  rfl
end
end My
namespace My
open PySem PySem.Spec PyProof.Rows L2
def fig (v : Nat) : Str := ((toString (v : Int) : String) : Str)
abbrev figs : List Str := [fig 2, fig 3, fig 4]
def isFig (z : Str) : Bool := decide (z ∈ figs)
def spTakeNum (C CT : Addr) : Sp := fun vs H Q E => ∃ (a : Addr) (ws : List Str) (k : Nat), vs = [.ref a, .int 2, .int 4] ∧ WAt C H a ws k ∧
  (∀ v : Nat, 2 ≤ v → v ≤ 4 → ws[k]? = some (fig v) → ∀ H', Keep1 a H H' → WAt C H' a ws (k + 1) → Q (.int (v : Int)) H') ∧ ((∀ z, ws[k]? = some z → z ∉ figs) → TellA E CT a H (k : Int))
theorem figs_at : ∀ i, i < 3 → figs[i]? = some (fig (i + 2)) := by decide +kernel
theorem fig_int : ∀ i, i < 5 → PySem.intText? (fig i) = some (i : Int) ∧ (fig i).length ≤ 640 := by decide +kernel
section
variable {P : Program} {w : World} {K : PySem.W.Frag} {mg : Str → Option Value} {base : Heap} {C : Addr}
abbrev nTNu : List Str := ["self", "least", "most", "figures", "number"]
theorem scTNu : FnScope nTNu ["self", "least", "most"] (defScope (sW 10)) := ⟨rfl, rfl, rfl, by decide +kernel, rfl, by decide +kernel, by decide +kernel⟩
theorem ok_takeNum {f fK CT : Addr} {fd : FuncData} (F : Fun K "take_number" "Words.take_number" (sW 10) f fd) (T : Txt mg) (W : WCls K C) (bK : BMeth K C "take" fK) (GK : FnR P w K mg base (L2.CX P w) 5 fK (spTake C CT)) : FnOk P w K mg base (L2.CX P w) 6 f fd ["self", "least", "most"] (spTakeNum C CT) := by
  refine F.okX scTNu (fun vs H Q E h => ?_) (fun cdv A outer s H vs Q E hr h => ?_)
  · obtain ⟨a, ws, k, rfl, _⟩ := h
    rfl
  · obtain ⟨a, ws, k, rfl, wa, yes, no⟩ := h
    refine ⟨_, pss_cons (ps_setLc (i := 3) (own := [("number", 4)]) (g := gName 4) (tt := tYes) rfl scTNu.nd rfl rfl (sw_true rfl rfl rfl (by decide +kernel)) (pi_range2 (by rfl) T.range (pa_cons (pv 1) (pa_cons (pe_op op_add (pv 2) pe_int) pa_nil))) (blkOk_by (N := nTNu) (sc := defScope (sW 10)) (by decide +kernel)) (fun _ _ _ _ _ => pg_name (i := 4) scTNu.nd rfl (Or.inl rfl)) (fun _ _ _ _ _ => pts_nil)
            (fun s1 H1 C1 cl1 fp1 => pe_callTy call_str_int (by rfl) T.str (by decide +kernel) (pa_cons (pv 4) pa_nil)))
      (pss_one (ps_ret (pe_callTy call_int_str (by rfl) T.int (by decide +kernel) (pa_cons (pe_methSL (pv 0) W.c bK GK hr (passes_call (takes_of rfl rfl rfl rfl) (fun _ _ _ _ h => h)) (pv 3)) pa_nil)))), ?_⟩
    refine ⟨_, rfl, _, rfl, _, _, rfl, rfl, 2, 5, rfl, ⟨by decide, by decide, by decide, by decide⟩, fun D hD => ?_⟩
    refine lc_it (walk_range (lo := 2) (n := 3)) (fun i H' => Same' H H' ∧ H' D = some (.lst ((figs.take i).map V.str))) ⟨same_new hD, upd_same⟩ (fun _ _ _ _ => trivial) (fun i x H1 H2 hi hp hy => ?_) (fun H' hp => ?_)
    · obtain ⟨sm, ed⟩ := hp
      obtain ⟨rfl, rfl⟩ := hy
      refine ⟨rfl, ⟨_, rfl, _, rfl, ?_, ?_⟩⟩
      · have e : ((2 : Int) + (i : Int)).natAbs = 2 + i := by omega
        rw [e]
        exact Nat.lt_of_le_of_lt (Nat.log2_le_self _) (by omega)
      · refine ⟨_, ed, small1000 ?_, same_over hD sm, ?_⟩
        · rw [List.length_map, List.length_take]
          omega
        · have e : (2 : Int) + (i : Int) = ((i + 2 : Nat) : Int) := by omega
          rw [upd_same, e]
          show some (HO.lst ((figs.take i).map V.str ++ [V.str (fig (i + 2))])) = _
          rw [List.take_add_one, figs_at i hi, List.map_append]
          rfl
    · obtain ⟨sm, ed⟩ := hp
      have wa1 := wa.keep sm
      obtain ⟨dx, fs, h1, h2⟩ := wa1.look "take" (by decide +kernel)
      refine ⟨.ref a, rfl, a, dx, fs, rfl, h1, h2, fun q hq => ?_⟩
      have sq := same_new (o := .met fK a) hq
      have wa2 := wa1.keep sq
      refine ⟨.ref D, rfl, D, figs.map V.str, rfl, .inr (SqL.of (sq _ _ ed)), upd_same, ?_⟩
      have k2 : Keep1 a H _ := .of (sm.trans sq)
      refine ⟨a, ws, k, figs, rfl, by decide, wa2, fun z hz hm H3 k3 w3 => ?_, fun n => (no n).on k2⟩
      obtain ⟨v, hv, hv4, e⟩ : ∃ v : Nat, 2 ≤ v ∧ v ≤ 4 ∧ z = fig v := by
        have m : z = fig 2 ∨ z = fig 3 ∨ z = fig 4 := by simpa [figs] using hm
        rcases m with m | m | m
        · exact ⟨2, by decide, by decide, m⟩
        · exact ⟨3, by decide, by decide, m⟩
        · exact ⟨4, by decide, by decide, m⟩
      subst e
      obtain ⟨i1, i2⟩ := fig_int v (by omega)
      exact ⟨_, _, rfl, i1, i2, yes v hv hv4 hz H3 (Keep1.trans k2 k3) w3⟩
end
end My
namespace My
open PySem PySem.Spec PyProof.Rows L2
abbrev spc : Str := " "
def spInitW (K : PySem.W.Frag) (C CT : Addr) : Sp := fun vs H Q E => ∃ (a dx : Addr) (x : V), vs = [.ref a, x, .non] ∧ H a = some (.ins C dx []) ∧
  ((∃ (z : Str) (ws : List Str), x = .str z ∧ Txt.split z spc = ws ∧ z.length ≤ 100000 ∧ ws.length ≤ 900 ∧ (∀ y ∈ ws, y.length ≤ 1000) ∧ ∀ H', Keep1 a H H' → WAt C H' a ws 0 → Q .non H') ∨ ((∃ t : Value, TyX K H x t ∧ PySem.W.kitOne K t (.type "str") = some false) ∧ TellA E CT a H 0))
/-- what is laid of the pieces -/
structure Lay (C : Addr) (H : Hp) (a dx pl wl : Addr) (ws : List Str) (i : Nat) : Prop where
  o : H a = some (.ins C dx [("pieces", .ref pl), ("at", .int 0), ("many", .int (ws.length : Int))])
  l : H wl = some (.lst (ws.map V.str))
  p : ∃ as : List Addr, H pl = some (.lst (as.map V.ref)) ∧ as.length = i ∧ ∀ (j : Nat) (p : Addr), as[j]? = some p → ∃ z, ws[j]? = some z ∧ H p = some (.tup [.str z, .int (j : Int)])
section
variable {P : Program} {w : World} {K : PySem.W.Frag} {mg : Str → Option Value} {base : Heap} {C : Addr}
abbrev nIW : List Str := ["self", "text", "sign", "words", "index", "word"]
theorem scIW : FnScope nIW ["self", "text", "sign"] (defScope (sW 0)) := ⟨rfl, rfl, rfl, by decide +kernel, rfl, by decide +kernel, by decide +kernel⟩
theorem ok_initW {f fI CT : Addr} {fd dI : FuncData} (F : FunD K "__init__" "Words.__init__" (defArgs (sW 0)) (defBody (sW 0)) (defScope (sW 0)) [.non] [] f fd) (T : Txt mg) (W : WCls K C) (ET : ErrT K mg CT fI) (bI : Binds K dI ["self", "line", "word"] []) (GI : FnOk P w K mg base CX0 2 fI dI ["self", "line", "word"] (spIniT CT)) :
    FnOk P w K mg base (L2.CX P w) 4 f fd ["self", "text", "sign"] (spInitW K C CT) := by
  refine F.ok scIW (fun vs H Q E h => ?_) (fun cdv A outer s H vs Q E hr h => ?_)
  · obtain ⟨a, dx, x, rfl, _⟩ := h
    rfl
  · obtain ⟨a, dx, x, rfl, ha, h⟩ := h
    refine ⟨_, pss_cons (ps_if (pt_not (pt_val (pe_callB call_isi (by rfl) T.isi (by decide +kernel) (pa_cons (pv 1) (pa_cons (pe_bltn (by rfl) T.str (by decide +kernel) (show RelV (.ty "str") _ from rfl)) pa_nil)))))
        (pss_one (ps_raise rfl (takes_of rfl rfl rfl rfl) (pmk_oex ET.ox ET.ini ET.ty GI hr bI .nil pass0 (by rfl) ET.g (pa_cons pe_int (pa_cons pe_int pa_nil))))) pss_nil)
      (pss_cons (ps_set (i := 3) scIW.nd rfl (.inl rfl) (pe_split (pv 1) pe_str))
      (pss_cons (ps_fld (pv 0) (pe_lst pa_nil) (by rfl))
      (pss_cons (ps_fld (pv 0) pe_int (by rfl))
      (pss_cons (ps_fld (pv 0) (pe_callB call_len_seq (by rfl) T.len PySem.boot_len (pa_cons (pv 3) pa_nil)) (by rfl))
      (pss_one (ps_for (passes_of rfl) rfl (pi_enum (by rfl) T.enum (pa_cons (pv 3) pa_nil)) (pg_tup (n := 2) rfl (pgs_cons (pg_name (i := 4) scIW.nd rfl (.inl rfl)) (pgs_cons (pg_name (i := 5) scIW.nd rfl (.inl rfl)) pgs_nil)))
        (pss_one (ps_if (PW.pt (pw_and (pt_cmp (pc_notN (pv 2))) (pw_and1 (pt_val pe_never)))) (pss_cons ps_never (pss_one ps_never))
          (pss_one (ps_expr (pe_bm PySem.F.plainAttrs_list PySem.F.slot_list_append PySem.F.type_list_append mt_append (pe_fld (pv 0) (by rfl)) (pa_cons (pe_tup (pa_cons (pv 5) (pa_cons (pv 4) pa_nil))) pa_nil)))))))))))), ?_⟩
    refine ⟨x, rfl, ?_⟩
    rcases h with ⟨z, ws, rfl, hw, zl, wl', wlen, q⟩ | ⟨⟨S, ty, kt⟩, told⟩
    · refine ⟨.str z, .ty "str", .type "str", .type "str", true, rfl, .ty "str", .base (.str z), kit_ty (by decide +kernel), true, rfl, iteF ?_⟩
      refine ⟨.str z, rfl, ⟨z, rfl⟩, z, spc, rfl, rfl, by decide +kernel, by rw [sizeLine_eq]; omega, fun wl hwl => ?_⟩
      rw [hw]
      have s1 := same_new (o := .lst (ws.map V.str)) hwl
      refine ⟨Nat.zero_le _, fun pl hpl => ?_⟩
      have s2 := s1.trans (same_new (o := .lst []) hpl)
      have npa : pl ≠ a := (ne_of_none (s1 _ _ ha) hpl).symm
      have nwa : wl ≠ a := (ne_of_none ha hwl).symm
      have nwp : wl ≠ pl := ne_of_none upd_same hpl
      refine ⟨.ref a, rfl, a, C, dx, [], rfl, s2 _ _ ha, W.c, W.np, by decide, ?_⟩
      refine ⟨.ref a, rfl, a, C, dx, [("pieces", .ref pl)], rfl, upd_same, W.c, W.na, by show 1 < 1000; decide, ?_⟩
      obtain ⟨H3, e3⟩ : ∃ H3 : Hp, upd (upd (upd (upd H wl (.lst (ws.map V.str))) pl (.lst [])) a (.ins C dx (putF "pieces" (.ref pl) []))) a (.ins C dx (putF "at" (.int 0) [("pieces", .ref pl)])) = H3 := ⟨_, rfl⟩
      have k3 : Keep1 a (upd (upd H wl (.lst (ws.map V.str))) pl (.lst [])) H3 := fun b o n e => by
        rw [← e3, upd_ne n, upd_ne n]
        exact e
      have a3 : H3 a = some (.ins C dx [("pieces", .ref pl), ("at", .int 0)]) := by
        rw [← e3, upd_same]
        rfl
      have w3 : H3 wl = some (.lst (ws.map V.str)) := k3 _ _ nwa (same_new hpl _ _ upd_same)
      have p3 : H3 pl = some (.lst []) := k3 _ _ npa upd_same
      rw [e3]
      refine ⟨.ref wl, rfl, wl, _, rfl, .inl (SqL.of w3), .ref a, rfl, a, C, dx, _, rfl, a3, W.c, W.nm, by show 2 < 1000; decide, ?_⟩
      obtain ⟨H4, e4⟩ : ∃ H4 : Hp, upd H3 a (.ins C dx (putF "many" (.int ((ws.map V.str).length : Int)) [("pieces", .ref pl), ("at", .int 0)])) = H4 := ⟨_, rfl⟩
      have k4 : Keep1 a H3 H4 := fun b o n e => by
        rw [← e4, upd_ne n]
        exact e
      have a4 : H4 a = some (.ins C dx [("pieces", .ref pl), ("at", .int 0), ("many", .int (ws.length : Int))]) := by
        rw [← e4, upd_same, List.length_map]
        rfl
      rw [e4]
      have w4 := k4 _ _ nwa w3
      have kk : Keep1 a H H4 := (Keep1.of s2).trans (k3.trans k4)
      refine ⟨.ref wl, rfl, wl, ws.map V.str, rfl, SqL.of w4, ?_⟩
      refine for_it (walk_enum (K := K) (a := wl) (xs := ws.map V.str)) (fun i σ H' => Lay C H' a dx pl wl ws i ∧ Keep1 a H H' ∧ ∃ z4 z5, σ = [some (.ref a), some (.str z), some .non, some (.ref wl), z4, z5]) ⟨⟨a4, w4, [], k4 _ _ npa p3, rfl, fun j p e => by simp at e⟩, kk, none, none, rfl⟩ (fun i σ H' _ hp => SqL.of hp.1.l) (fun i x σ H5 H6 hi hp hy => ?_) (fun σ H' hp => ?_)
      · obtain ⟨L, kp, z4, z5, rfl⟩ := hp
        obtain ⟨tt, v1, v2, rfl, htt, rfl, e1, e2⟩ := hy
        injection e1 with e1
        subst e1
        rw [List.length_map] at hi
        have e2' : (ws.map V.str)[i]? = some v2 := e2
        rw [List.getElem?_map, List.getElem?_eq_getElem hi] at e2'
        injection e2' with e2'
        subst e2'
        have st := same_new (o := .tup [V.int (i : Int), .str ws[i]]) htt
        refine ⟨tt, _, rfl, SqT.of upd_same, rfl, _, _, rfl, _, _, rfl, rfl, ?_⟩
        obtain ⟨H6, e6⟩ : ∃ H6 : Hp, upd H5 tt (.tup [V.int (i : Int), .str ws[i]]) = H6 := ⟨_, rfl⟩
        rw [e6] at st ⊢
        obtain ⟨as, h1, h2, h3⟩ := L.p
        refine ⟨.non, rfl, _, rfl, iteF (iteF ?_)⟩
        refine ⟨.ref a, rfl, a, C, dx, _, .ref pl, rfl, st _ _ L.o, W.c, W.np, rfl, .inl ⟨rfl, _, SqL.of (st _ _ h1)⟩, _, rfl, _, rfl, by show 2 ≤ sizeLine; decide, fun tq htq => ?_⟩
        have sq := same_new (o := .tup [V.str ws[i], .int (i : Int)]) htq
        have hpl7 := sq _ _ (st _ _ h1)
        refine ⟨pl, _, .ref tq, rfl, rfl, hpl7, small1000 (by rw [List.length_map]; omega), ?_⟩
        have ka : ∀ b o, b ≠ pl → H5 b = some o → (upd (upd H6 tq (.tup [V.str ws[i], .int (i : Int)])) pl (.lst (as.map V.ref ++ [.ref tq]))) b = some o := fun b o n e => by
          rw [upd_ne n]
          exact sq _ _ (st _ _ e)
        have ntq : tq ≠ pl := (ne_of_none (st _ _ h1) htq).symm
        refine ⟨⟨ka _ _ npa.symm L.o, ka _ _ nwp L.l, as ++ [tq], ?_, ?_, fun j p e => ?_⟩, fun b o n e => ?_, _, _, rfl⟩
        · rw [upd_same, List.map_append]
          rfl
        · rw [List.length_append, h2]
          rfl
        · by_cases hj : j < as.length
          · rw [List.getElem?_append_left hj] at e
            obtain ⟨y, y1, y2⟩ := h3 j p e
            refine ⟨y, y1, ka _ _ (fun z => ?_) y2⟩
            rw [z, h1] at y2
            cases y2
          · rw [List.getElem?_append_right (by omega)] at e
            have ej : j = as.length := by
              cases hjj : j - as.length with
              | zero => omega
              | succ m => rw [hjj] at e; cases e
            subst ej
            rw [Nat.sub_self] at e
            injection e with e
            subst e
            rw [h2]
            refine ⟨ws[i], List.getElem?_eq_getElem hi, ?_⟩
            rw [upd_ne ntq, upd_same]
        · have nb : b ≠ pl := ne_of_none (s1 _ _ e) hpl
          exact ka _ _ nb (kp _ _ n e)
      · obtain ⟨L, kp, z4, z5, rfl⟩ := hp
        rw [List.length_map] at L
        obtain ⟨as, h1, h2, h3⟩ := L.p
        exact q _ kp ⟨⟨dx, pl, as, L.o, h1, h2, h3⟩, Nat.zero_le _, wl', wlen⟩
    · refine ⟨x, .ty "str", S, .type "str", false, rfl, .ty "str", ty, kt, false, rfl, iteT ⟨by show 2 ≤ 1000; decide, ?_⟩⟩
      exact raisedT told.t
end
end My
namespace My
open PySem PySem.Spec PyProof.Rows L2
section
variable {X : Cx}
variable {CX : CXT} {k : Nat} {f : Addr} {fd : FuncData} {ps ks : List Str} {sp : Sp} {E : XK} {x : Str} {p pos : Pos} {kws : List Keyword} {tk : TA} {g : List Value → List Value → List Value} {gV : List V → List V → List V}
/-- f(k = v), keywords alone -/
theorem pe_callKw (F : FnOk X.prog X.w X.K X.mg X.base CX k f fd ps sp) (hr : Room k X.A) (hg : Gl X x) (hm : X.mg x = some (.ref f)) (hk : PySem.W.keepIn X.K (.ref f) = true) (hb : KBinds X.K fd ps ks g gV) (hx : Passes CX X E) (hkw : PK X kws tk)
    (hall : (backToKw pos (keywordEach kws X.env)).all (·.1.isSome) = true := by rfl) (hks : (backToKw pos (keywordEach kws X.env)).filterMap (·.1) = ks := by rfl) (hdb : (x == ("__debug__" : Str)) = false := by decide)
    (hpl : ((backTo pos (starEach [] X.env)).any (·.1) || (backToKw pos (keywordEach kws X.env)).any (·.1.isNone)) = false := by rfl) : PE X (.Call (.Name x p) [] kws pos) (tCallK sp gV E tNil tk) := by
  constructor
  intro pins s σ H Q I h
  refine wpAny_Call_Name_kw (ld_glob I hg hm (PySem.W.callWith_KW0 (h₀ := X.base) I.ok.mod.kin hk hall (thn (hkw.run pos pins s σ H _ I h) ?_) hpl) hdb)
  intro ws s2 hz
  obtain ⟨zs, H2, I2, rz, q2⟩ := hz
  refine ⟨I2.kIn, ?_⟩
  rw [hks]
  exact run_fnk (us := []) (vs := []) F hr hb hx I2 .nil rz q2
end
/-- one parameter, passed by its name -/
abbrev kwG {α : Type} (us ws : List α) : List α := us ++ us ++ ws
theorem kwRel {vs : List V} {us : List Value} {zs : List V} {ws : List Value} (h : Vals vs us) (k : Vals zs ws) : Vals (kwG vs zs) (kwG us ws) := by
  have app : ∀ {a : List V} {b : List Value} {c : List V} {d : List Value}, Vals a b → Vals c d → Vals (a ++ c) (b ++ d) := by
    intro a b c d h1 h2
    induction h1 with
    | nil => exact h2
    | cons r _ ih => exact .cons r ih
  exact app (app h h) k
theorem kwOne {K : PySem.W.Frag} {nm qual y : Str} {st : Stmt} {f : Addr} {fd : FuncData} (F : Fun K nm qual st f fd)
    (h : ∀ (kV doc pm : Value) (an : Option Addr) (cdv ct w : Value), bindArgs (PySem.W.fnOf nm qual (defArgs st) (defBody st) (defScope st) .none kV doc pm an cdv ct) ⟨[], [(y, w)]⟩ = pure [(y, w)]) : KBinds K fd [y] [y] kwG kwG := by
  obtain ⟨oc, od, kV, doc, pm, an, cdv, ct, osl, rfl, lk, hcd⟩ := F.ex
  refine ⟨fun s us ws _ hl => ?_, kwRel⟩
  match us, ws, hl with
  | [], [w], _ => exact .of_eq (h kV doc pm an cdv ct w)
  | [], [], hl => exact absurd hl (by simp)
  | [], _ :: _ :: _, hl => exact absurd hl (by simp)
  | _ :: _, _, hl =>
    simp at hl
end My
namespace My
open PySem PySem.Spec PyProof.Rows L2
/-! o.m(e, ..) and o.m(k = e), the class of o known where it is read; C.m(k = e), m a classmethod -/
def tMethA (m : Str) (f : Addr) (K : PySem.W.Frag) (sp : Sp) (dvs : List V) (E : XK) (ta : TE) (t : TA) : TE := fun σ H Q => ta σ H fun x H1 => ∃ a C dx fs, x = .ref a ∧ H1 a = some (.ins C dx fs) ∧ Cls K C ∧ Meth K C m f ∧ fs.lookup m = none ∧
  t σ H1 fun vs H2 => sp (x :: (vs ++ dvs)) H2 Q E
def tMethAK (m : Str) (f : Addr) (K : PySem.W.Frag) (sp : Sp) (gV : List V → List V → List V) (E : XK) (ta : TE) (tk : TA) : TE := fun σ H Q => ta σ H fun x H1 => ∃ a C dx fs, x = .ref a ∧ H1 a = some (.ins C dx fs) ∧ Cls K C ∧ Meth K C m f ∧ fs.lookup m = none ∧
  tk σ H1 fun zs H2 => sp (gV [x] zs) H2 Q E
def tCMethK (C : Addr) (sp : Sp) (gV : List V → List V → List V) (E : XK) (ta : TE) (tk : TA) : TE := fun σ H Q => ta σ H fun x H1 => x = .ref C ∧ tk σ H1 fun zs H2 => sp (gV [.ref C] zs) H2 Q E
section
variable {X : Cx} {CX : CXT} {k : Nat} {f C p q : Addr} {mc : Value} {fd : FuncData} {ps ks : List Str} {ds : List Value} {dvs : List V} {sp : Sp} {E : XK} {m : Str} {pos apos : Pos} {o e : Expr} {es : List Expr} {kws : List Keyword} {ta : TE} {t tk : TA} {g : List Value → List Value → List Value} {gV : List V → List V → List V}
theorem pe_methA {pl : Sem Bool} (he : PE X o ta) (F : FnOk X.prog X.w X.K X.mg X.base CX k f fd ps sp) (hr : Room k X.A) (hb : Binds X.K fd ps ds) (hd : Vals dvs ds) (hx : Passes CX X E) (ha : PA X (e :: es) t)
    (hst : starEach (e :: es) X.env = (false, eval e X.env) :: starEach es X.env := by rfl) (hpl : (backTo pos (starEach es X.env)).any (·.1) = false := by rfl)
    (ht : eval (.Call (.Attribute o m apos) (e :: es) [] pos) X.env = (do
      let ov ← eval o X.env
      standAt apos.atName
      let (f, first) ← holding [ov] (getMethod ov m pl)
      callWith pos f first (backTo pos (starEach (e :: es) X.env)) (backToKw pos (keywordEach [] X.env))) := by rfl) :
    PE X (.Call (.Attribute o m apos) (e :: es) [] pos) (tMethA m f X.K sp dvs E ta t) := by
  refine ⟨fun pins s σ H Q I h => ?_⟩
  refine PySem.W.methodCall_KW (pl := pl) (thn (he.run pins s σ H _ I h) fun u s1 ⟨x, H1, I1, rx, a, C, dx, fs, ex, ea, c, hm, l, q⟩ => ?_) ht
  subst ex
  obtain rfl : u = Value.ref a := rx
  refine getmeth_ok I1 ea c hm l ?_
  refine PySem.W.callWith_K (first := [.ref a]) (h₀ := X.base) I.ok.mod.kin hm.kp (thn (ha.run pos pins s1 σ H1 _ I1 q) fun us s2 ⟨vs, H2, I2, r, q2⟩ => ⟨I2.kIn, ?_⟩) hst hpl
  exact run_fn (us := .ref a :: us) (vs := .ref a :: vs) F hr hb hd hx I2 (.cons rfl r) q2
theorem pe_methAK {pl : Sem Bool} (he : PE X o ta) (F : FnOk X.prog X.w X.K X.mg X.base CX k f fd ps sp) (hr : Room k X.A) (hb : KBinds X.K fd ps ks g gV) (hx : Passes CX X E) (hkw : PK X kws tk)
    (hall : (backToKw pos (keywordEach kws X.env)).all (·.1.isSome) = true := by rfl) (hks : (backToKw pos (keywordEach kws X.env)).filterMap (·.1) = ks := by rfl)
    (hpl : ((backTo pos (starEach [] X.env)).any (·.1) || (backToKw pos (keywordEach kws X.env)).any (·.1.isNone)) = false := by rfl)
    (ht : eval (.Call (.Attribute o m apos) [] kws pos) X.env = (do
      let ov ← eval o X.env
      standAt apos.atName
      let (f, first) ← holding [ov] (getMethod ov m pl)
      callWith pos f first (backTo pos (starEach [] X.env)) (backToKw pos (keywordEach kws X.env))) := by rfl) :
    PE X (.Call (.Attribute o m apos) [] kws pos) (tMethAK m f X.K sp gV E ta tk) := by
  refine ⟨fun pins s σ H Q I h => ?_⟩
  refine PySem.W.methodCall_KW (pl := pl) (thn (he.run pins s σ H _ I h) fun u s1 ⟨x, H1, I1, rx, a, C, dx, fs, ex, ea, c, hm, l, q⟩ => ?_) ht
  subst ex
  obtain rfl : u = Value.ref a := rx
  refine getmeth_ok I1 ea c hm l ?_
  refine PySem.W.callWith_KW0 (first := [.ref a]) (h₀ := X.base) I.ok.mod.kin hm.kp hall (thn (hkw.run pos pins s1 σ H1 _ I1 q) ?_) hpl
  intro ws s2 hz
  obtain ⟨zs, H2, I2, rz, q2⟩ := hz
  refine ⟨I2.kIn, ?_⟩
  rw [hks]
  exact run_fnk (us := [.ref a]) (vs := [.ref a]) F hr hb hx I2 (.cons rfl .nil) rz q2
theorem pe_cmethK {pl : Sem Bool} (he : PE X o ta) (r : ClX.CRead X.K C mc) (c : ClX.CMet X.K C mc m p q) (F : FnOk X.prog X.w X.K X.mg X.base CX k q fd ps sp) (hr : Room k X.A) (hb : KBinds X.K fd ps ks g gV) (hx : Passes CX X E) (hkw : PK X kws tk)
    (hall : (backToKw pos (keywordEach kws X.env)).all (·.1.isSome) = true := by rfl) (hks : (backToKw pos (keywordEach kws X.env)).filterMap (·.1) = ks := by rfl)
    (hpl : ((backTo pos (starEach [] X.env)).any (·.1) || (backToKw pos (keywordEach kws X.env)).any (·.1.isNone)) = false := by rfl)
    (ht : eval (.Call (.Attribute o m apos) [] kws pos) X.env = (do
      let ov ← eval o X.env
      standAt apos.atName
      let (f, first) ← holding [ov] (getMethod ov m pl)
      callWith pos f first (backTo pos (starEach [] X.env)) (backToKw pos (keywordEach kws X.env))) := by rfl) :
    PE X (.Call (.Attribute o m apos) [] kws pos) (tCMethK C sp gV E ta tk) := by
  refine ⟨fun pins s σ H Q I h => ?_⟩
  refine PySem.W.methodCall_KW (pl := pl) (thn (he.run pins s σ H _ I h) fun u s1 ⟨x, H1, I1, rx, ex, z⟩ => ?_) ht
  subst ex
  obtain rfl : u = Value.ref C := rx
  refine ClX.getmethcm_ok I1 r c fun s2 I2 => ?_
  refine PySem.W.callWith_of hpl (PySem.W.keeps_M (K := X.K) (f := q) (self := .ref C) (q := s1.heap.objs.size) c.fi) (evalArgs_kw2_nil hall (thn (hkw.run pos _ s2 σ H1 _ I2 z) ?_))
  intro ws s3 hz
  obtain ⟨zs, H2, I3, rz, q2⟩ := hz
  refine ⟨⟨ClX.pin_at I3, I3.kIn⟩, ?_⟩
  rw [hks]
  have hl : (g [.ref C] ws).length = ps.length := by
    have r2 := hb.rel (vs := [.ref C]) (us := [.ref C]) (.cons rfl .nil) rz
    rw [← r2.length]
    exact F.len _ _ _ _ q2
  have z2 : wpAny (model X.prog X.w) X.A (call (.ref s1.heap.objs.size) [] (ks.zip ws)) (EP X ((s1.heap.objs.size, PySem.W.methodObj (.ref q) (.ref C)) :: pins) σ Q) X.xe s3 := by
    refine wpAny_call (PySem.W.method_call (ClX.pin_at I3) ?_)
    refine codeAny_mono (F.run X.A X.stack s3 H2 ⟨[.ref C], ks.zip ws⟩ (g [.ref C] ws) (gV [.ref C] zs) Q E hr I3.env0 (hb.to s3 [.ref C] ws I3.kIn hl) (hb.rel (.cons rfl .nil) rz) q2) fun r s' hq => ?_
    cases r with
    | error e => exact hx _ σ H2 s3 e s' I3 hq
    | ok fl =>
      cases fl with
      | ret u => exact I3.after hq
      | next => exact False.elim hq
      | brk => exact False.elim hq
      | cont => exact False.elim hq
  exact thn z2 fun _ _ y => ClX.unpinE y
end
end My
namespace My
open PySem PySem.Spec PyProof.Rows L2
/-! ### which meet -/
structure Bases (K : PySem.W.Frag) (mg : Str → Option Value) (A : A4) (bN bK bT bH : Addr) : Prop where
  gN : mg "Named" = some (.ref bN)
  gK : mg "Keeping" = some (.ref bK)
  gT : mg "Turning" = some (.ref bT)
  gH : mg "Handler" = some (.ref bH)
  kK : ∀ i, i < 4 → PySem.W.kitOne K (.ref (A.at i)) (.ref bK) = some (decide (i < 2))
  kT : ∀ i, i < 4 → PySem.W.kitOne K (.ref (A.at i)) (.ref bT) = some (decide (2 ≤ i))
  kH : ∀ i, i < 4 → PySem.W.kitOne K (.ref (A.at i)) (.ref bH) = some true
  oK : ∀ T ∈ ["NoneType", "bool", "int", "str", "list", "tuple", "dict"], PySem.W.kitOne K (.type T) (.ref bK) = some false
  oF : ∀ T ∈ ["NoneType", "bool", "int", "str", "list", "tuple", "dict"], PySem.W.kitOne K (.type T) (.ref A.f) = some false
  oT : ∀ T ∈ ["NoneType", "bool", "int", "str", "list", "tuple", "dict"], PySem.W.kitOne K (.type T) (.ref bT) = some false
  oC : ∀ T ∈ ["NoneType", "bool", "int", "str", "list", "tuple", "dict"], PySem.W.kitOne K (.type T) (.ref A.h) = some false
/-- of what kind a value is: 0 to 3 the handlers, 4 what is none -/
structure Knd (K : PySem.W.Frag) (A : A4) (bK bT : Addr) (H : Hp) (x : V) (i : Nat) : Prop where
  ex : ∃ t, TyX K H x t ∧ PySem.W.kitOne K t (.ref bK) = some (decide (i < 2)) ∧ PySem.W.kitOne K t (.ref bT) = some (decide (i = 2) || decide (i = 3)) ∧ PySem.W.kitOne K t (.ref A.f) = some (decide (i = 2)) ∧ PySem.W.kitOne K t (.ref A.h) = some (decide (i = 3))
def oneWay (i j : Nat) : Bool := if decide (i < 2) = true then (decide (j = 2) || decide (j = 3)) else (decide (i = 2) && decide (j = 3))
def meetB (i j : Nat) : Bool := oneWay i j || oneWay j i
def sortN (i : Nat) : Nat := if i = 3 then 2 else if i = 2 then 1 else 0
theorem meet_sort : ∀ i, i < 4 → ∀ j, j < 4 → meetB i j = decide (sortN i ≠ sortN j) := by decide +kernel
theorem meet_odd : ∀ i, i < 4 → meetB i 4 = false := by decide +kernel
theorem meet_self : ∀ i, i < 4 → meetB i i = false := by decide +kernel
theorem knd_h {K : PySem.W.Frag} {mg : Str → Option Value} {A : A4} {bN bK bT bH : Addr} (S : Hand K mg A) (Ba : Bases K mg A bN bK bT bH) {H : Hp} {a : Addr} {k : HD} (h : IsH A H a k) : Knd K A bK bT H (.ref a) k.ix := by
  have il := k.ix_lt
  refine ⟨_, S.ty h, Ba.kK _ il, ?_, S.kit _ 2 il (by decide), S.kit _ 3 il (by decide)⟩
  rw [Ba.kT _ il]
  generalize k.ix = i at il
  revert i
  decide
theorem knd_o {K : PySem.W.Frag} {mg : Str → Option Value} {A : A4} {bN bK bT bH : Addr} (Ba : Bases K mg A bN bK bT bH) {H : Hp} {x : V} {T : String} (h : TyX K H x (.type T)) (m : T ∈ ["NoneType", "bool", "int", "str", "list", "tuple", "dict"]) : Knd K A bK bT H x 4 :=
  ⟨_, h, Ba.oK T m, Ba.oT T m, Ba.oF T m, Ba.oC T m⟩
def spOneWay (K : PySem.W.Frag) (A : A4) (bK bT : Addr) : Sp := fun vs H Q _ => ∃ (x y : V) (i j : Nat), vs = [x, y] ∧ Knd K A bK bT H x i ∧ Knd K A bK bT H y j ∧ Q (.bl (oneWay i j)) H
def spMeets (K : PySem.W.Frag) (A : A4) (bK bT : Addr) : Sp := fun vs H Q _ => ∃ (x y : V) (i j : Nat), vs = [x, y] ∧ Knd K A bK bT H x i ∧ Knd K A bK bT H y j ∧ Q (.bl (meetB i j)) H
abbrev sMeets : Stmt := inClass (topS 20) 1
section
variable {P : Program} {w : World} {K : PySem.W.Frag} {mg : Str → Option Value} {base : Heap}
theorem scOneWay : FnScope ["one", "other"] ["one", "other"] (defScope sMeet1) := ⟨rfl, rfl, rfl, by decide +kernel, rfl, by decide +kernel, by decide +kernel⟩
theorem scMeets : FnScope ["self", "other"] ["self", "other"] (defScope sMeets) := ⟨rfl, rfl, rfl, by decide +kernel, rfl, by decide +kernel, by decide +kernel⟩
theorem ok_oneWay {A : A4} {f bN bK bT bH : Addr} {fd : FuncData} (F : Fun K "_meet_one_way" "_meet_one_way" sMeet1 f fd) (S : Hand K mg A) (T : Txt mg) (Ba : Bases K mg A bN bK bT bH) : FnOk P w K mg base CX0 1 f fd ["one", "other"] (spOneWay K A bK bT) := by
  refine F.ok scOneWay (fun vs H Q E h => ?_) (fun cdv A0 outer s H vs Q E hr h => ?_)
  · obtain ⟨x, y, i, j, rfl, _⟩ := h
    rfl
  · obtain ⟨x, y, i, j, rfl, ⟨tx, tyx, xK, xT, xF, xC⟩, ⟨u, tyy, yK, yT, yF, yC⟩, q⟩ := h
    refine ⟨_, pss_cons (ps_if (pt_val (pe_callB call_isi (by rfl) T.isi (by decide +kernel) (pa_cons (pv 0) (pa_cons (pe_glob (v := .ref bK) rfl Ba.gK rfl) pa_nil)))) (pss_one (ps_ret (pe_callB call_isi (by rfl) T.isi (by decide +kernel) (pa_cons (pv 1) (pa_cons (pe_glob (v := .ref bT) rfl Ba.gT rfl) pa_nil))))) pss_nil)
      (pss_one (ps_ret (pe_and (pe_callB call_isi (by rfl) T.isi (by decide +kernel) (pa_cons (pv 0) (pa_cons (pe_glob (v := .ref A.f) rfl S.cF.g rfl) pa_nil))) (pe_one (pe_callB call_isi (by rfl) T.isi (by decide +kernel) (pa_cons (pv 1) (pa_cons (pe_glob (v := .ref A.h) rfl S.cH.g rfl) pa_nil))))))), ?_⟩
    unfold oneWay at q
    refine ⟨x, rfl, x, .ref bK, tx, .ref bK, _, rfl, .own _, tyx, xK, _, rfl, ite2 (fun e => ?_) (fun e => ?_)⟩
    · rw [if_pos e] at q
      exact ⟨y, rfl, y, .ref bT, u, .ref bT, _, rfl, .own _, tyy, yT, q⟩
    · rw [if_neg e] at q
      refine ⟨x, rfl, x, .ref A.f, tx, .ref A.f, _, rfl, .own _, tyx, xF, _, rfl, ite2 (fun e2 => ?_) (fun e2 => ?_)⟩
      · rw [e2, Bool.true_and] at q
        exact ⟨y, rfl, y, .ref A.h, u, .ref A.h, _, rfl, .own _, tyy, yC, q⟩
      · rw [Bool.eq_false_iff.mpr e2, Bool.false_and] at q
        exact q
theorem ok_meets {A : A4} {f f1 bK bT : Addr} {fd d1 : FuncData} (F : Fun K "meets" "Handler.meets" sMeets f fd) (F1 : Fun K "_meet_one_way" "_meet_one_way" sMeet1 f1 d1) (b1 : Binds K d1 ["one", "other"] []) (g1 : mg "_meet_one_way" = some (.ref f1)) (G1 : FnOk P w K mg base CX0 1 f1 d1 ["one", "other"] (spOneWay K A bK bT)) :
    FnOk P w K mg base CX0 2 f fd ["self", "other"] (spMeets K A bK bT) := by
  refine F.ok scMeets (fun vs H Q E h => ?_) (fun cdv A0 outer s H vs Q E hr h => ?_)
  · obtain ⟨x, y, i, j, rfl, _⟩ := h
    rfl
  · obtain ⟨x, y, i, j, rfl, hx, hy, q⟩ := h
    refine ⟨_, pss_one (ps_ret (pe_or (pe_call G1 hr (by rfl) g1 F1.kp b1 .nil pass0 (pa_cons (pv 0) (pa_cons (pv 1) pa_nil))) (pe_one (pe_call G1 hr (by rfl) g1 F1.kp b1 .nil pass0 (pa_cons (pv 1) (pa_cons (pv 0) pa_nil)))))), ?_⟩
    unfold meetB at q
    refine ⟨x, rfl, y, rfl, x, y, i, j, rfl, hx, hy, _, rfl, ite2 (fun e => ?_) (fun e => ?_)⟩
    · rw [e, Bool.true_or] at q
      exact q
    · rw [Bool.eq_false_iff.mpr e, Bool.false_or] at q
      exact ⟨y, rfl, x, rfl, y, x, j, i, rfl, hy, hx, q⟩
end
end My
namespace My
open PySem PySem.Spec PyProof.Rows L2
def HD.row : HD → List V
  | .cell n z => [.str "cell", .str n, .int z]
  | .log n => [.str "log", .str n]
  | .fail n => [.str "failure", .str n]
  | .cho => [.str "choice", .str "choice"]
def names : List Str := ["x", "y", "l", "f", "zzzzzzzz", "self"]
def rows : List HD := .cho :: (names.map HD.log ++ names.map HD.fail ++ names.map (fun n => HD.cell n 2) ++ names.map (fun n => HD.cell n 3) ++ names.map (fun n => HD.cell n 4))
theorem in_log {n : Str} (h : n ∈ names) : HD.log n ∈ rows := by
  unfold rows
  simp only [List.mem_cons, List.mem_append, List.mem_map]
  exact .inr (.inl (.inl (.inl (.inl ⟨n, h, rfl⟩))))
theorem in_fail {n : Str} (h : n ∈ names) : HD.fail n ∈ rows := by
  unfold rows
  simp only [List.mem_cons, List.mem_append, List.mem_map]
  exact .inr (.inl (.inl (.inl (.inr ⟨n, h, rfl⟩))))
theorem in_cell {n : Str} {z : Int} (h : n ∈ names) (h0 : 2 ≤ z) (h1 : z ≤ 4) : HD.cell n z ∈ rows := by
  unfold rows
  simp only [List.mem_cons, List.mem_append, List.mem_map]
  rcases (by omega : z = 2 ∨ z = 3 ∨ z = 4) with rfl | rfl | rfl
  · exact .inr (.inl (.inl (.inr ⟨n, h, rfl⟩)))
  · exact .inr (.inl (.inr ⟨n, h, rfl⟩))
  · exact .inr (.inr ⟨n, h, rfl⟩)
def spRow : Sp := fun vs H Q _ => ∃ (p c : Addr) (ns : List Int) (B : Int), vs = [.ref p] ∧ PenAt H p c ns B ∧ B + 10 ≤ 1000 ∧
  ∀ (t : Addr) (k : HD) (H' : Hp), k ∈ rows → H' t = some (.tup k.row) → PenAt H' p c ns (B + 3) → Off p H H' → Q (.ref t) H'
abbrev nRow : List Str := ["_law_pen_here", "_law_name", "_law_way"]
section
variable {P : Program} {w : World} {K : PySem.W.Frag} {mg : Str → Option Value} {base : Heap}
theorem scRow : FnScope nRow ["_law_pen_here"] (defScope sRow) := ⟨rfl, rfl, rfl, by decide +kernel, rfl, by decide +kernel, by decide +kernel⟩
theorem PenAt.new {H : Hp} {p c a : Addr} {ns : List Int} {B : Int} {o : HO} (P : PenAt H p c ns B) (h : H a = none) : PenAt (upd H a o) p c ns B := P.keep fun q x e => by
  rw [upd_ne (ne_of_none e h)]
  exact e
theorem ok_row {f fD fP : Addr} {fd fdD fdP : FuncData} (F : Fun K "_law_row" "_law_row" sRow f fd)
    (FD : Fun K "_law_draw" "_law_draw" sDraw fD fdD) (bD : Binds K fdD ["_law_pen_here", "_law_many"] []) (gD : mg "_law_draw" = some (.ref fD)) (GD : FnOk P w K mg base CX0 1 fD fdD ["_law_pen_here", "_law_many"] spDraw)
    (FP : Fun K "_law_pick" "_law_pick" sPick fP fdP) (bP : Binds K fdP ["_law_pen_here", "_law_some"] []) (gP : mg "_law_pick" = some (.ref fP)) (GP : FnOk P w K mg base CX0 2 fP fdP ["_law_pen_here", "_law_some"] spPick) : FnOk P w K mg base CX0 3 f fd ["_law_pen_here"] spRow := by
  refine F.ok scRow (fun vs H Q E h => ?_) (fun cdv A outer s H vs Q E hr h => ?_)
  · obtain ⟨p, c, ns, B, rfl, _⟩ := h
    rfl
  · obtain ⟨p, c, ns, B, rfl, PA0, hB, q⟩ := h
    refine ⟨_, pss_cons (ps_par (i := 1) (j := 2) rfl scRow.nd rfl rfl (by decide) rfl rfl
        (pa_cons (pe_call GP hr (by rfl) gP FP.kp bP .nil pass0 (pa_cons (pv 0) (pa_cons (pe_lst (pa_cons pe_str (pa_cons pe_str (pa_cons pe_str (pa_cons pe_str (pa_cons pe_str (pa_cons pe_str pa_nil))))))) pa_nil)))
          (pa_cons (pe_call GD (hr.mono (by decide)) (by rfl) gD FD.kp bD .nil pass0 (pa_cons (pv 0) (pa_cons pe_int pa_nil))) pa_nil)) (by rfl))
      (pss_cons (ps_if (pt_cmpR op_eq (pv 2) pe_int (nomark _)) (pss_one (ps_ret (pe_tup (pa_cons pe_str (pa_cons (pv 1) (pa_cons (pe_op op_add pe_int (pe_call GD (hr.mono (by decide)) (by rfl) gD FD.kp bD .nil pass0 (pa_cons (pv 0) (pa_cons pe_int pa_nil)))) pa_nil)))))) pss_nil)
      (pss_one (ps_ret (pe_ifExp (pt_cmpR op_eq (pv 2) pe_int (nomark _)) (pe_tup (pa_cons pe_str (pa_cons pe_str pa_nil))) (pe_tup (pa_cons (pe_ifExp (pt_cmpR op_eq (pv 2) pe_int (nomark _)) pe_str pe_str) (pa_cons (pv 1) pa_nil))))))), ?_⟩
    refine ⟨.ref p, rfl, by show 6 ≤ sizeLine; decide, fun l hl => ?_⟩
    obtain ⟨b, g, hp, _⟩ := PA0.pen
    have nlp : l ≠ p := (ne_of_none hp hl).symm
    refine ⟨p, c, ns, B, .ref l, names.map V.str, rfl, PA0.new hl, by omega, .inl ⟨l, rfl, nlp, upd_same⟩, by decide, by decide, fun v H1 hv PA1 off1 => ?_⟩
    obtain ⟨n, hn, rfl⟩ := List.mem_map.mp hv
    refine ⟨.ref p, rfl, p, c, ns, B + 1, 4, rfl, PA1, by omega, by decide, by decide, fun d H2 d0 d1 PA2 off2 => ⟨_, _, rfl, ?_⟩⟩
    have off : Off p H H2 := ((Off.new hl).trans off1).trans off2
    refine ⟨.int d, rfl, rfl, _, rfl, ite2 (fun e => ?_) (fun e => ?_)⟩
    · refine ⟨.str n, rfl, .ref p, rfl, p, c, ns, B + 2, 3, rfl, PA2.more (by omega), by omega, by decide, by decide, fun e3 H3 k0 k1 PA3 off3 => ?_⟩
      refine ⟨2, e3, rfl, rfl, by show 3 ≤ sizeLine; decide, fun t ht => ?_⟩
      exact q t (.cell n (2 + e3)) _ (in_cell hn (by omega) (by omega)) upd_same ((PA3.new ht).more (by omega)) ((off.trans off3).trans (Off.new ht))
    · refine ⟨.int d, rfl, rfl, _, rfl, ite2 (fun e2 => ?_) (fun e2 => ?_)⟩
      · refine ⟨by show 2 ≤ sizeLine; decide, fun t ht => ?_⟩
        exact q t .cho _ (.head _) upd_same ((PA2.new ht).more (by omega)) (off.trans (Off.new ht))
      · have fin : ∀ (k : HD), k ∈ rows → (∀ t, H2 t = none → Q (.ref t) (upd H2 t (.tup k.row))) := fun k hk t ht => q t k _ hk upd_same ((PA2.new ht).more (by omega)) (off.trans (Off.new ht))
        refine ⟨.int d, rfl, rfl, _, rfl, ite2 (fun e3 => ?_) (fun e3 => ?_)⟩
        · exact ⟨.str n, rfl, by show 2 ≤ sizeLine; decide, fin (.log n) (in_log hn)⟩
        · exact ⟨.str n, rfl, by show 2 ≤ sizeLine; decide, fin (.fail n) (in_fail hn)⟩
/-- a call that might raise, but doesn't -/
theorem passF {X : Cx} : Passes (L2.CX X.prog X.w) X (fun _ _ _ => False) := fun _ _ _ _ _ _ _ h => by
  obtain ⟨_, _, _, _, _, _, _, _, _, _, _, _, z⟩ := h
  exact z.elim
theorem made_same {H H' : Hp} {x dx : Addr} {o : HO} (hx : H x = none) (hdx : H dx = none) (k : Keep1 x (upd (upd H dx (.own x)) x o) H') : Same' H H' := fun b u e => k b u (ne_of_none e hx) (by rw [upd_ne (ne_of_none e hx), upd_ne (ne_of_none e hdx)]; exact e)
def spMade (A : A4) : Sp := fun vs H Q _ => ∃ (t : Addr) (k : HD), vs = [.ref t] ∧ k ∈ rows ∧ H t = some (.tup k.row) ∧ ∀ (a : Addr) (H' : Hp), Same' H H' → IsH A H' a k → Q (.ref a) H'
theorem scMade : FnScope ["_law_row_here"] ["_law_row_here"] (defScope sMade) := ⟨rfl, rfl, rfl, by decide +kernel, rfl, by decide +kernel, by decide +kernel⟩
theorem rows_isN : ∀ k ∈ rows, k.ix ≠ 3 → isN (.str k.nm) = true := by decide +kernel
theorem rows_len : ∀ k ∈ rows, k.nm.length ≤ 8 := by decide +kernel
theorem rows_isZ : ∀ k ∈ rows, ∀ n z, k = .cell n z → 2 ≤ z ∧ z ≤ 4 := by
  intro k hk n z e
  subst e
  have h : ∀ k ∈ rows, (match k with | .cell _ z => decide (2 ≤ z) && decide (z ≤ 4) | _ => true) = true := by decide +kernel
  have q := h _ hk
  simp only [Bool.and_eq_true, decide_eq_true_eq] at q
  exact q
theorem ok_made {A : A4} {f fI0 fI1 fI2 fI3 CN CZ : Addr} {fd d0 d1 d2 d3 : FuncData} (F : Fun K "_law_made" "_law_made" sMade f fd) (S : Hand K mg A)
    (M0 : Mk K A.c fI0) (b0 : Binds K d0 ["self", "name", "size"] []) (G0 : FnOk P w K mg base (L2.CX P w) 6 fI0 d0 ["self", "name", "size"] (spCellI K A.c CN CZ))
    (M1 : Mk K A.l fI1) (b1 : Binds K d1 ["self", "name"] []) (G1 : FnOk P w K mg base (L2.CX P w) 6 fI1 d1 ["self", "name"] (spNamed K A.l CN))
    (M2 : Mk K A.f fI2) (b2 : Binds K d2 ["self", "name"] []) (G2 : FnOk P w K mg base (L2.CX P w) 6 fI2 d2 ["self", "name"] (spNamed K A.f CN))
    (M3 : Mk K A.h fI3) (b3 : Binds K d3 ["self"] []) (G3 : FnOk P w K mg base CX0 1 fI3 d3 ["self"] (spChoI A.h)) : FnOk P w K mg base CX0 8 f fd ["_law_row_here"] (spMade A) := by
  refine F.ok scMade (fun vs H Q E h => ?_) (fun cdv A0 outer s H vs Q E hr h => ?_)
  · obtain ⟨t, k, rfl, _⟩ := h
    rfl
  · obtain ⟨t, k, rfl, hk, ht, q⟩ := h
    refine ⟨_, pss_cons (ps_if (pt_cmpR op_eq (pe_ix ix_tup (pv 0) pe_int (fun _ _ => rfl)) pe_str (nomark _))
        (pss_one (ps_ret (pe_make M0 G0 hr (by rfl) S.cC.g b0 .nil passF (pa_cons (pe_ix ix_tup (pv 0) pe_int (fun _ _ => rfl)) (pa_cons (pe_ix ix_tup (pv 0) pe_int (fun _ _ => rfl)) pa_nil))))) pss_nil)
      (pss_cons (ps_if (pt_cmpR op_eq (pe_ix ix_tup (pv 0) pe_int (fun _ _ => rfl)) pe_str (nomark _))
        (pss_one (ps_ret (pe_make0 M3 G3 (hr.mono (by decide)) (by rfl) S.cH.g b3 .nil pass0))) pss_nil)
      (pss_one (ps_ret (pe_ifExp (pt_cmpR op_eq (pe_ix ix_tup (pv 0) pe_int (fun _ _ => rfl)) pe_str (nomark _))
        (pe_make M1 G1 hr (by rfl) S.cL.g b1 .nil passF (pa_cons (pe_ix ix_tup (pv 0) pe_int (fun _ _ => rfl)) pa_nil))
        (pe_make M2 G2 hr (by rfl) S.cF.g b2 .nil passF (pa_cons (pe_ix ix_tup (pv 0) pe_int (fun _ _ => rfl)) pa_nil)))))), ?_⟩
    have hN := rows_isN k hk
    have hL := rows_len k hk
    have hZ := rows_isZ k hk
    have tS := SqT.of (K := K) ht
    cases k with
    | cell n z =>
      obtain ⟨z2, z4⟩ := hZ n z rfl
      refine ⟨.ref t, rfl, t, _, 0, .str "cell", rfl, rfl, tS, rfl, rfl, true, rfl, iteT ?_⟩
      refine ⟨.ref t, rfl, t, _, 1, .str n, rfl, rfl, tS, rfl, .ref t, rfl, t, _, 2, .int z, rfl, rfl, tS, rfl, fun x dx hx hdx nxd => ?_⟩
      refine ⟨x, dx, .str n, .int z, .str n, .int z, rfl, upd_same, .inl ⟨n, rfl, by show n.length ≤ 1000; exact Nat.le_trans hL (by decide)⟩, .flat (.str n), .flat (.int z), fun _ _ H' k1 e1 => ⟨rfl, q x H' (made_same hx hdx k1) ⟨dx, e1⟩⟩, fun e => ?_, fun _ e => ?_⟩
      · have hn1 : isN (.str n) = true := hN (show (0 : Nat) ≠ 3 by decide)
        rw [hn1] at e
        cases e
      · have : isZ (.int z) = true := by
          show (decide (2 ≤ z) && decide (z ≤ 4)) = true
          rw [decide_eq_true z2, decide_eq_true z4]
          rfl
        rw [this] at e
        cases e
    | log n =>
      refine ⟨.ref t, rfl, t, _, 0, .str "log", rfl, rfl, tS, rfl, rfl, false, rfl, iteF ?_⟩
      refine ⟨.ref t, rfl, t, _, 0, .str "log", rfl, rfl, tS, rfl, rfl, false, rfl, iteF ?_⟩
      refine ⟨.ref t, rfl, t, _, 0, .str "log", rfl, rfl, tS, rfl, rfl, true, rfl, iteT ?_⟩
      refine ⟨.ref t, rfl, t, _, 1, .str n, rfl, rfl, tS, rfl, fun x dx hx hdx nxd => ?_⟩
      refine ⟨x, dx, .str n, .str n, rfl, upd_same, .inl ⟨n, rfl, by show n.length ≤ 1000; exact Nat.le_trans hL (by decide)⟩, .flat (.str n), fun _ H' k1 e1 => ⟨rfl, q x H' (made_same hx hdx k1) ⟨dx, e1⟩⟩, fun e => ?_⟩
      have hn1 : isN (.str n) = true := hN (show (1 : Nat) ≠ 3 by decide)
      rw [hn1] at e
      cases e
    | fail n =>
      refine ⟨.ref t, rfl, t, _, 0, .str "failure", rfl, rfl, tS, rfl, rfl, false, rfl, iteF ?_⟩
      refine ⟨.ref t, rfl, t, _, 0, .str "failure", rfl, rfl, tS, rfl, rfl, false, rfl, iteF ?_⟩
      refine ⟨.ref t, rfl, t, _, 0, .str "failure", rfl, rfl, tS, rfl, rfl, false, rfl, iteF ?_⟩
      refine ⟨.ref t, rfl, t, _, 1, .str n, rfl, rfl, tS, rfl, fun x dx hx hdx nxd => ?_⟩
      refine ⟨x, dx, .str n, .str n, rfl, upd_same, .inl ⟨n, rfl, by show n.length ≤ 1000; exact Nat.le_trans hL (by decide)⟩, .flat (.str n), fun _ H' k1 e1 => ⟨rfl, q x H' (made_same hx hdx k1) ⟨dx, e1⟩⟩, fun e => ?_⟩
      have hn1 : isN (.str n) = true := hN (show (2 : Nat) ≠ 3 by decide)
      rw [hn1] at e
      cases e
    | cho =>
      refine ⟨.ref t, rfl, t, _, 0, .str "choice", rfl, rfl, tS, rfl, rfl, false, rfl, iteF ?_⟩
      refine ⟨.ref t, rfl, t, _, 0, .str "choice", rfl, rfl, tS, rfl, rfl, true, rfl, iteT ?_⟩
      intro x dx hx hdx nxd
      exact ⟨x, dx, rfl, upd_same, fun H' k1 e1 => ⟨rfl, q x H' (made_same hx hdx k1) ⟨dx, e1⟩⟩⟩
/-- a call of a class that makes a handler -/
theorem cell_made {K : PySem.W.Frag} {A : A4} {CN CZ : Addr} {H : Hp} {Q : Addr → Hp → Prop} {n : Str} {z : Int} (hn : isN (.str n) = true) (hz : isZ (.int z) = true) (hl : n.length ≤ 1000) (q : ∀ a H', Same' H H' → IsH A H' a (.cell n z) → Q a H') :
    ∀ x dx, H x = none → H dx = none → dx ≠ x → spCellI K A.c CN CZ [.ref x, .str n, .int z] (upd (upd H dx (.own x)) x (.ins A.c dx [])) (fun v H2 => v = .non ∧ Q x H2) (fun _ _ _ => False) := by
  intro x dx hx hdx nxd
  refine ⟨x, dx, .str n, .int z, .str n, .int z, rfl, upd_same, .inl ⟨n, rfl, hl⟩, .flat (.str n), .flat (.int z), fun _ _ H' k1 e1 => ⟨rfl, q x H' (made_same hx hdx k1) ⟨dx, e1⟩⟩, fun e => ?_, fun _ e => ?_⟩
  · rw [hn] at e
    cases e
  · rw [hz] at e
    cases e
theorem named_made {K : PySem.W.Frag} {A : A4} {CN : Addr} {H : Hp} {Q : Addr → Hp → Prop} {n : Str} {k : HD} (hk : k.flds = ([(Str.ofString "name", V.str n)] : List (Str × V))) (hn : isN (.str n) = true) (hl : n.length ≤ 1000) (q : ∀ a H', Same' H H' → IsH A H' a k → Q a H') :
    ∀ x dx, H x = none → H dx = none → dx ≠ x → spNamed K (A.at k.ix) CN [.ref x, .str n] (upd (upd H dx (.own x)) x (.ins (A.at k.ix) dx [])) (fun v H2 => v = .non ∧ Q x H2) (fun _ _ _ => False) := by
  intro x dx hx hdx nxd
  refine ⟨x, dx, .str n, .str n, rfl, upd_same, .inl ⟨n, rfl, hl⟩, .flat (.str n), fun _ H' k1 e1 => ⟨rfl, q x H' (made_same hx hdx k1) ⟨dx, hk ▸ e1⟩⟩, fun e => ?_⟩
  rw [hn] at e
  cases e
/-! ### the sort of a row -/
def spSort : Sp := fun vs H Q _ => ∃ (t : Addr) (k : HD), vs = [.ref t] ∧ H t = some (.tup k.row) ∧ Q (.int (sortN k.ix : Nat)) H
theorem scSort : FnScope ["_law_row_here"] ["_law_row_here"] (defScope sSort) := ⟨rfl, rfl, rfl, by decide +kernel, rfl, by decide +kernel, by decide +kernel⟩
theorem ok_sort {f : Addr} {fd : FuncData} (F : Fun K "_law_sort" "_law_sort" sSort f fd) (T : Txt mg) : FnOk P w K mg base CX0 1 f fd ["_law_row_here"] spSort := by
  refine F.ok scSort (fun vs H Q E h => ?_) (fun cdv A0 outer s H vs Q E hr h => ?_)
  · obtain ⟨t, k, rfl, _⟩ := h
    rfl
  · obtain ⟨t, k, rfl, ht, q⟩ := h
    refine ⟨_, pss_one (ps_ret (pe_ifExp (pt_cmpR op_eq (pe_ix ix_tup (pv 0) pe_int (fun _ _ => rfl)) pe_str (nomark _)) pe_int (pe_callTy call_int1 (by rfl) T.int (by decide +kernel) (pa_cons (pe_cmpR op_eq (pe_ix ix_tup (pv 0) pe_int (fun _ _ => rfl)) pe_str (nomark _)) pa_nil)))), ?_⟩
    have tS := SqT.of (K := K) ht
    cases k with
    | cell n z => exact ⟨.ref t, rfl, t, _, 0, .str "cell", rfl, rfl, tS, rfl, rfl, false, rfl, iteF ⟨.ref t, rfl, t, _, 0, .str "cell", rfl, rfl, tS, rfl, rfl, .inr ⟨_, rfl, q⟩⟩⟩
    | log n => exact ⟨.ref t, rfl, t, _, 0, .str "log", rfl, rfl, tS, rfl, rfl, false, rfl, iteF ⟨.ref t, rfl, t, _, 0, .str "log", rfl, rfl, tS, rfl, rfl, .inr ⟨_, rfl, q⟩⟩⟩
    | fail n => exact ⟨.ref t, rfl, t, _, 0, .str "failure", rfl, rfl, tS, rfl, rfl, false, rfl, iteF ⟨.ref t, rfl, t, _, 0, .str "failure", rfl, rfl, tS, rfl, rfl, .inr ⟨_, rfl, q⟩⟩⟩
    | cho => exact ⟨.ref t, rfl, t, _, 0, .str "choice", rfl, rfl, tS, rfl, rfl, true, rfl, iteT q⟩
end
end My
namespace My
open PySem PySem.Spec PyProof.Rows L2
/-! ### the reader of a handler, as a function of the words -/
def nameR (ws : List Str) (k : Nat) : Option Str := match ws[k]? with
  | some z => if nm z = true then some z else none
  | none => none
def figR (ws : List Str) (k : Nat) : Option Nat := match ws[k]? with
  | some z => if z = fig 2 then some 2 else if z = fig 3 then some 3 else if z = fig 4 then some 4 else none
  | none => none
/-- what is read from k on: a handler and the next place, or the place of the fault -/
def nextF (ws : List Str) (k : Nat) : Except Nat (HD × Nat) :=
  if ws[k]? = some ("cell" : Str) then (match nameR ws (k + 1) with
    | none => .error (k + 1)
    | some n => match figR ws (k + 2) with
      | none => .error (k + 2)
      | some v => .ok (.cell n v, k + 3))
  else if ws[k]? = some ("log" : Str) then (match nameR ws (k + 1) with
    | none => .error (k + 1)
    | some n => .ok (.log n, k + 2))
  else if ws[k]? = some ("failure" : Str) then (match nameR ws (k + 1) with
    | none => .error (k + 1)
    | some n => .ok (.fail n, k + 2))
  else if ws[k]? = some ("choice" : Str) then .ok (.cho, k + 1) else .error k
theorem nextF_bad {ws : List Str} {k : Nat} (h : ∀ z, ws[k]? = some z → z ∉ (["cell", "log", "failure", "choice"] : List Str)) : nextF ws k = .error k := by
  have n : ∀ z : Str, z ∈ (["cell", "log", "failure", "choice"] : List Str) → ¬ ws[k]? = some z := fun z m e => h z e m
  unfold nextF
  rw [if_neg (n _ (by decide +kernel)), if_neg (n _ (by decide +kernel)), if_neg (n _ (by decide +kernel)), if_neg (n _ (by decide +kernel))]
theorem nextF_noName {ws : List Str} {k : Nat} {z : Str} (e : ws[k]? = some z) (m : z = "cell" ∨ z = "log" ∨ z = "failure") (h : nameR ws (k + 1) = none) : nextF ws k = .error (k + 1) := by
  unfold nextF
  rw [h, e]
  rcases m with rfl | rfl | rfl
  · rw [if_pos rfl]
  · rw [if_neg (by decide +kernel), if_pos rfl]
  · rw [if_neg (by decide +kernel), if_neg (by decide +kernel), if_pos rfl]
theorem nextF_noFig {ws : List Str} {k : Nat} {n : Str} (e : ws[k]? = some ("cell" : Str)) (h : nameR ws (k + 1) = some n) (h2 : figR ws (k + 2) = none) : nextF ws k = .error (k + 2) := by
  unfold nextF
  rw [h, h2, if_pos e]
theorem nextF_cell {ws : List Str} {k v : Nat} {n : Str} (e : ws[k]? = some ("cell" : Str)) (h : nameR ws (k + 1) = some n) (h2 : figR ws (k + 2) = some v) : nextF ws k = .ok (.cell n v, k + 3) := by
  unfold nextF
  rw [h, h2, if_pos e]
theorem nextF_log {ws : List Str} {k : Nat} {n : Str} (e : ws[k]? = some ("log" : Str)) (h : nameR ws (k + 1) = some n) : nextF ws k = .ok (.log n, k + 2) := by
  unfold nextF
  rw [h, e, if_neg (by decide +kernel), if_pos rfl]
theorem nextF_fail {ws : List Str} {k : Nat} {n : Str} (e : ws[k]? = some ("failure" : Str)) (h : nameR ws (k + 1) = some n) : nextF ws k = .ok (.fail n, k + 2) := by
  unfold nextF
  rw [h, e, if_neg (by decide +kernel), if_neg (by decide +kernel), if_pos rfl]
theorem nextF_cho {ws : List Str} {k : Nat} (e : ws[k]? = some ("choice" : Str)) : nextF ws k = .ok (.cho, k + 1) := by
  unfold nextF
  rw [e, if_neg (by decide +kernel), if_neg (by decide +kernel), if_neg (by decide +kernel), if_pos rfl]
theorem nameR_some {ws : List Str} {k : Nat} {n : Str} (h : nameR ws k = some n) : ws[k]? = some n ∧ nm n = true := by
  unfold nameR at h
  cases e : ws[k]? with
  | none => rw [e] at h; cases h
  | some z =>
    rw [e] at h
    dsimp only at h
    by_cases q : nm z = true
    · rw [if_pos q] at h
      injection h with h
      subst h
      exact ⟨rfl, q⟩
    · rw [if_neg q] at h
      cases h
theorem nameR_none {ws : List Str} {k : Nat} (h : nameR ws k = none) : ∀ z, ws[k]? = some z → nm z = false := by
  intro z e
  unfold nameR at h
  rw [e] at h
  dsimp only at h
  cases q : nm z with
  | false => rfl
  | true => rw [if_pos q] at h; cases h
theorem figR_some {ws : List Str} {k v : Nat} (h : figR ws k = some v) : ws[k]? = some (fig v) ∧ 2 ≤ v ∧ v ≤ 4 := by
  unfold figR at h
  cases e : ws[k]? with
  | none => rw [e] at h; cases h
  | some z =>
    rw [e] at h
    dsimp only at h
    split at h
    · next q => injection h with h; subst h q; exact ⟨rfl, by decide, by decide⟩
    · split at h
      · next q => injection h with h; subst h q; exact ⟨rfl, by decide, by decide⟩
      · split at h
        · next q => injection h with h; subst h q; exact ⟨rfl, by decide, by decide⟩
        · cases h
theorem figR_none {ws : List Str} {k : Nat} (h : figR ws k = none) : ∀ z, ws[k]? = some z → z ∉ figs := by
  intro z e m
  unfold figR at h
  rw [e] at h
  have m' : z = fig 2 ∨ z = fig 3 ∨ z = fig 4 := by simpa [figs] using m
  dsimp only at h
  rcases m' with q | q | q
  · rw [q] at h
    exact absurd h (by decide +kernel)
  · rw [q] at h
    exact absurd h (by decide +kernel)
  · rw [q] at h
    exact absurd h (by decide +kernel)
theorem nm_first {z : Str} (h : nm z = true) : decide (("" : Str).cps.toList < z.cps.toList) = true := by
  have hw : wd z = true := by
    unfold nm at h
    simp only [Bool.and_eq_true] at h
    exact h.1
  unfold wd at hw
  simp only [Bool.and_eq_true, decide_eq_true_eq] at hw
  obtain ⟨⟨h1, _⟩, _⟩ := hw
  cases e : z.cps.toList with
  | nil =>
    have : z.length = 0 := by
      show z.cps.size = 0
      rw [← Array.length_toList, e]
      rfl
    omega
  | cons c r =>
    rw [decide_eq_true_eq]
    show ([] : List Nat) < c :: r
    exact List.nil_lt_cons c r
theorem nmOk_nil {z : Str} : nmOk "" [] z = nm z := by
  unfold nmOk
  cases h : nm z with
  | false => rw [Bool.and_false]
  | true =>
    rw [nm_first h]
    simp
/-- the class constants that are read -/
structure CW (K : PySem.W.Frag) (A : A4) (mc : Value) : Prop where
  rd : ∀ i, i < 4 → ClX.CRead K (A.at i) mc
  w0 : ∃ u, ClX.CVal K A.c mc "WORD" (.str "cell") u
  w1 : ∃ u, ClX.CVal K A.l mc "WORD" (.str "log") u
  w2 : ∃ u, ClX.CVal K A.f mc "WORD" (.str "failure") u
  w3 : ∃ u, ClX.CVal K A.h mc "WORD" (.str "choice") u
  v2 : ∃ u, ClX.CVal K A.c mc "LEAST" (.int 2) u
  v4 : ∃ u, ClX.CVal K A.c mc "MOST" (.int 4) u
/-- the making of the four -/
structure MkH (P : Program) (w : World) (K : PySem.W.Frag) (mg : Str → Option Value) (base : Heap) (A : A4) (CN CZ : Addr) (fI : Nat → Addr) (dI : Nat → FuncData) : Prop where
  m0 : Mk K A.c (fI 0)
  b0 : Binds K (dI 0) ["self", "name", "size"] []
  G0 : FnOk P w K mg base (L2.CX P w) 6 (fI 0) (dI 0) ["self", "name", "size"] (spCellI K A.c CN CZ)
  m1 : Mk K A.l (fI 1)
  b1 : Binds K (dI 1) ["self", "name"] []
  G1 : FnOk P w K mg base (L2.CX P w) 6 (fI 1) (dI 1) ["self", "name"] (spNamed K A.l CN)
  m2 : Mk K A.f (fI 2)
  b2 : Binds K (dI 2) ["self", "name"] []
  G2 : FnOk P w K mg base (L2.CX P w) 6 (fI 2) (dI 2) ["self", "name"] (spNamed K A.f CN)
  m3 : Mk K A.h (fI 3)
  b3 : Binds K (dI 3) ["self"] []
  G3 : FnOk P w K mg base CX0 1 (fI 3) (dI 3) ["self"] (spChoI A.h)
/-- the methods of Words that are called -/
structure WK (P : Program) (w : World) (K : PySem.W.Frag) (mg : Str → Option Value) (base : Heap) (C CT e0 : Addr) (fA : Nat → Addr) (dA : Nat → FuncData) (ds0 : List Value) : Prop where
  W : WCls K C
  tm : Meth K C "take" (fA 4)
  take : FnR P w K mg base (L2.CX P w) 5 (fA 4) (spTake C CT)
  nm : Meth K C "take_name" (fA 6)
  nameT : FnOk P w K mg base (L2.CX P w) 6 (fA 6) (dA 6) ["self", "last", "barred"] (spTakeN C CT fun H b bs => SqT K H b (bs.map V.str))
  b0 : Binds K (dA 6) ["self", "last", "barred"] ds0
  v0 : Vals [V.str "", .ref e0] ds0
  t0 : ∀ H, SqT K H e0 []
  takeN : MethK P w K mg base (L2.CX P w) 6 C "take_number" (fA 7) (dA 7) ["self", "least", "most"] (spTakeNum C CT)
  fin : MethK P w K mg base (L2.CX P w) 5 C "finish" (fA 8) (dA 8) ["self"] (spFinish C CT)
def spNext (A : A4) (C CT : Addr) : Sp := fun vs H Q E => ∃ (a : Addr) (ws : List Str) (k : Nat), vs = [.ref a] ∧ WAt C H a ws k ∧ match nextF ws k with
  | .ok c => ∀ (p : Addr) (H' : Hp), Keep1 a H H' → IsH A H' p c.1 → WAt C H' a ws c.2 → Q (.ref p) H'
  | .error j => TellA E CT a H (j : Int)
theorem WAt.newI {C : Addr} {H : Hp} {a : Addr} {ws : List Str} {k : Nat} (wa : WAt C H a ws k) {H' : Hp} (s : Same' H H') : WAt C H' a ws k := wa.keep s
section
variable {P : Program} {w : World} {K : PySem.W.Frag} {mg : Str → Option Value} {base : Heap} {C CT e0 : Addr} {fA : Nat → Addr} {dA : Nat → FuncData} {ds0 : List Value}
theorem rd_mt {sp : Sp} {dvs : List V} {E : XK} {σ : L2.St} {i : Nat} {m : Str} {C : Addr} {H : Hp} {Q : VK} {a : Addr} {ws : List Str} {k : Nat} {t : TA} (wa : WAt C H a ws k) (e : σ[i]? = some (some (.ref a))) (h : m ≠ "pieces" ∧ m ≠ "at" ∧ m ≠ "many") (q : t σ H fun vs H1 => sp (.ref a :: (vs ++ dvs)) H1 Q E) : tMeth C m sp dvs E (tVar i) t σ H Q := by
  obtain ⟨dx, fs, h1, h2⟩ := wa.look m h
  exact ⟨.ref a, e, a, dx, fs, rfl, h1, h2, q⟩
theorem rd_mR {sp : Sp} {E : XK} {σ : L2.St} {i : Nat} {m : Str} {C : Addr} {H : Hp} {Q : VK} {a : Addr} {ws : List Str} {k : Nat} {t : TA} (wa : WAt C H a ws k) (e : σ[i]? = some (some (.ref a))) (h : m ≠ "pieces" ∧ m ≠ "at" ∧ m ≠ "many") (q : t σ H fun vs H1 => sp (.ref a :: vs) H1 Q E) : tMethR C m sp E (tVar i) t σ H Q := by
  obtain ⟨dx, fs, h1, h2⟩ := wa.look m h
  exact ⟨.ref a, e, a, dx, fs, rfl, h1, h2, q⟩
abbrev nNX : List Str := ["words", "word", "name"]
theorem scNX : FnScope nNX ["words"] (defScope sNext) := ⟨rfl, rfl, rfl, by decide +kernel, rfl, by decide +kernel, by decide +kernel⟩
theorem ok_next {A : A4} {mc : Value} {f CN CZ : Addr} {fd : FuncData} {fI : Nat → Addr} {dI : Nat → FuncData} (F : Fun K "next_handler" "next_handler" sNext f fd) (S : Hand K mg A) (Vc : CW K A mc) (M : MkH P w K mg base A CN CZ fI dI) (Y : WK P w K mg base C CT e0 fA dA ds0) :
    FnOk P w K mg base (L2.CX P w) 8 f fd ["words"] (spNext A C CT) := by
  refine F.okX scNX (fun vs H Q E h => ?_) (fun cdv A0 outer s H vs Q E hr h => ?_)
  · obtain ⟨a, ws, k, rfl, _⟩ := h
    rfl
  · obtain ⟨a, ws, k, rfl, wa, h⟩ := h
    obtain ⟨u0, k0⟩ := Vc.w0
    obtain ⟨u1, k1⟩ := Vc.w1
    obtain ⟨u2, k2⟩ := Vc.w2
    obtain ⟨u3, k3⟩ := Vc.w3
    obtain ⟨l2, j2⟩ := Vc.v2
    obtain ⟨l4, j4⟩ := Vc.v4
    have cC := Vc.rd 0 (by decide)
    have cL := Vc.rd 1 (by decide)
    have cF := Vc.rd 2 (by decide)
    have cH := Vc.rd 3 (by decide)
    refine ⟨_, pss_cons (ps_set (i := 1) scNX.nd rfl (.inl rfl) (pe_methR (pv 0) Y.W.c Y.tm Y.take (hr.mono (by decide)) (passes_call (takes_of rfl rfl rfl rfl) (fun _ _ _ _ h => h)) (pa_cons (ClX.pe_cval (pe_glob (v := .ref A.c) rfl S.cC.g rfl)) (pa_cons (ClX.pe_cval (pe_glob (v := .ref A.l) rfl S.cL.g rfl)) (pa_cons (ClX.pe_cval (pe_glob (v := .ref A.f) rfl S.cF.g rfl)) (pa_cons (ClX.pe_cval (pe_glob (v := .ref A.h) rfl S.cH.g rfl)) pa_nil))))))
      (pss_cons (ps_if (pt_cmpR op_eq (pv 1) (ClX.pe_cval (pe_glob (v := .ref A.c) rfl S.cC.g rfl)) (nomark _))
        (pss_cons (ps_set (i := 2) scNX.nd rfl (.inl rfl) (pe_meth0 (pv 0) Y.W.c Y.nm Y.nameT (hr.mono (by decide)) Y.b0 Y.v0 (passes_call (takes_of rfl rfl rfl rfl) (fun _ _ _ _ h => h))))
        (pss_one (ps_ret (pe_make M.m0 M.G0 (hr.mono (by decide)) (by rfl) S.cC.g M.b0 .nil passF (pa_cons (pv 2) (pa_cons (pe_meth (pv 0) Y.W.c Y.takeN.m Y.takeN.G (hr.mono (by decide)) Y.takeN.b .nil (passes_call (takes_of rfl rfl rfl rfl) (fun _ _ _ _ h => h)) (pa_cons (ClX.pe_cval (pe_glob (v := .ref A.c) rfl S.cC.g rfl)) (pa_cons (ClX.pe_cval (pe_glob (v := .ref A.c) rfl S.cC.g rfl)) pa_nil))) pa_nil)))))) pss_nil)
      (pss_cons (ps_if (pt_cmpR op_eq (pv 1) (ClX.pe_cval (pe_glob (v := .ref A.l) rfl S.cL.g rfl)) (nomark _))
        (pss_one (ps_ret (pe_make M.m1 M.G1 (hr.mono (by decide)) (by rfl) S.cL.g M.b1 .nil passF (pa_cons (pe_meth0 (pv 0) Y.W.c Y.nm Y.nameT (hr.mono (by decide)) Y.b0 Y.v0 (passes_call (takes_of rfl rfl rfl rfl) (fun _ _ _ _ h => h))) pa_nil)))) pss_nil)
      (pss_cons (ps_if (pt_cmpR op_eq (pv 1) (ClX.pe_cval (pe_glob (v := .ref A.f) rfl S.cF.g rfl)) (nomark _))
        (pss_one (ps_ret (pe_make M.m2 M.G2 (hr.mono (by decide)) (by rfl) S.cF.g M.b2 .nil passF (pa_cons (pe_meth0 (pv 0) Y.W.c Y.nm Y.nameT (hr.mono (by decide)) Y.b0 Y.v0 (passes_call (takes_of rfl rfl rfl rfl) (fun _ _ _ _ h => h))) pa_nil)))) pss_nil)
      (pss_one (ps_ret (pe_make0 M.m3 M.G3 (hr.mono (by decide)) (by rfl) S.cH.g M.b3 .nil pass0)))))), ?_⟩
    refine rd_mR wa rfl (by decide +kernel) ?_
    refine ⟨A.c, mc, _, u0, rfl, cC, k0, A.l, mc, _, u1, rfl, cL, k1, A.f, mc, _, u2, rfl, cF, k2, A.h, mc, _, u3, rfl, cH, k3, ?_⟩
    refine ⟨a, ws, k, ["cell", "log", "failure", "choice"], rfl, by decide, wa, fun z hz hm H1 kp1 w1 => ?_, fun no => ?_⟩
    · -- the name
      have nme : ∀ (σ : L2.St) (Q' : VK), σ[0]? = some (some (.ref a)) → (∀ n H2, nameR ws (k + 1) = some n → n.length ≤ 1000 → nm n = true → Keep1 a H H2 → WAt C H2 a ws (k + 2) → Q' (.str n) H2) → (nameR ws (k + 1) = none → TellA E CT a H ((k + 1 : Nat) : Int)) →
          tMeth C "take_name" (spTakeN C CT fun H b bs => SqT K H b (bs.map V.str)) [V.str "", .ref e0] E (tVar 0) tNil σ H1 Q' := by
        intro σ Q' e yes no
        refine rd_mt w1 e (by decide +kernel) ⟨a, e0, "", [], ws, k + 1, rfl, Y.t0 _, fun H' _ => Y.t0 _, by decide, w1, fun y hy hn H2 kp2 w2 => ?_, fun n => ?_⟩
        · rw [nmOk_nil] at hn
          refine yes y H2 ?_ (wa.len y (List.mem_of_getElem? hy)) hn (kp1.trans kp2) w2
          unfold nameR
          rw [hy]
          exact if_pos hn
        · refine (no ?_).on kp1
          unfold nameR
          cases e : ws[k + 1]? with
          | none => rfl
          | some y =>
            have := n y e
            rw [nmOk_nil] at this
            show (if nm y = true then some y else none) = none
            rw [this]
            rfl
      refine ⟨.str z, rfl, A.c, mc, _, u0, rfl, cC, k0, rfl, _, rfl, ite2 (fun e => ?_) (fun e => ?_)⟩
      · obtain rfl : z = "cell" := by simpa using e
        refine nme _ _ (by rfl) (fun n H2 hn nl nn kp2 w2 => ?_) (fun hn => ?_)
        · refine ⟨.str n, rfl, rd_mt w2 rfl (by decide +kernel) ⟨A.c, mc, _, l2, rfl, cC, j2, A.c, mc, _, l4, rfl, cC, j4, ?_⟩⟩
          refine ⟨a, ws, k + 2, rfl, w2, fun v v2 v4 hv H3 kp3 w3 => ?_, fun no => ?_⟩
          · have hf : figR ws (k + 2) = some v := by
              unfold figR
              rw [hv]
              rcases (by omega : v = 2 ∨ v = 3 ∨ v = 4) with rfl | rfl | rfl <;> decide +kernel
            rw [nextF_cell hz hn hf] at h
            have zz : isZ (.int (v : Int)) = true := by
              show (decide ((2 : Int) ≤ (v : Int)) && decide ((v : Int) ≤ 4)) = true
              rw [decide_eq_true (by omega : (2 : Int) ≤ (v : Int)), decide_eq_true (by omega : (v : Int) ≤ 4)]
              rfl
            exact cell_made (Q := fun x H' => Q (.ref x) H') nn zz nl fun p H' s' ih => h p H' ((kp2.trans kp3).trans (.of s')) ih (w3.keep s')
          · have hf : figR ws (k + 2) = none := by
              cases e2 : figR ws (k + 2) with
              | none => rfl
              | some v =>
                obtain ⟨q1, q2, q3⟩ := figR_some e2
                refine absurd ?_ (no _ q1)
                rcases (by omega : v = 2 ∨ v = 3 ∨ v = 4) with rfl | rfl | rfl <;> decide +kernel
            rw [nextF_noFig hz hn hf] at h
            exact TellA.on h kp2
        · rw [nextF_noName hz (.inl rfl) hn] at h
          exact h
      · refine ⟨.str z, rfl, A.l, mc, _, u1, rfl, cL, k1, rfl, _, rfl, ite2 (fun e1 => ?_) (fun e1 => ?_)⟩
        · obtain rfl : z = "log" := by simpa using e1
          refine nme _ _ (by rfl) (fun n H2 hn nl nn kp2 w2 => ?_) (fun hn => ?_)
          · rw [nextF_log hz hn] at h
            exact named_made (k := .log n) (Q := fun x H' => Q (.ref x) H') rfl nn nl fun p H' s' ih => h p H' (kp2.trans (.of s')) ih (w2.keep s')
          · rw [nextF_noName hz (.inr (.inl rfl)) hn] at h
            exact h
        · refine ⟨.str z, rfl, A.f, mc, _, u2, rfl, cF, k2, rfl, _, rfl, ite2 (fun e2 => ?_) (fun e2 => ?_)⟩
          · obtain rfl : z = "failure" := by simpa using e2
            refine nme _ _ (by rfl) (fun n H2 hn nl nn kp2 w2 => ?_) (fun hn => ?_)
            · rw [nextF_fail hz hn] at h
              exact named_made (k := .fail n) (Q := fun x H' => Q (.ref x) H') rfl nn nl fun p H' s' ih => h p H' (kp2.trans (.of s')) ih (w2.keep s')
            · rw [nextF_noName hz (.inr (.inr rfl)) hn] at h
              exact h
          · obtain rfl : z = "choice" := by
              have a1 : z ≠ "cell" := by simpa using e
              have a2 : z ≠ "log" := by simpa using e1
              have a3 : z ≠ "failure" := by simpa using e2
              simp only [List.mem_cons, List.not_mem_nil, or_false] at hm
              rcases hm with m | m | m | m
              · exact absurd m a1
              · exact absurd m a2
              · exact absurd m a3
              · exact m
            rw [nextF_cho hz] at h
            intro x dx hx hdx nxd
            exact ⟨x, dx, rfl, upd_same, fun H' kk e1 => ⟨rfl, h x H' (kp1.trans (.of (made_same hx hdx kk))) ⟨dx, e1⟩ (w1.keep (made_same hx hdx kk))⟩⟩
    · rw [nextF_bad no] at h
      exact h
end
end My
namespace My
open PySem PySem.Spec PyProof.Rows L2
def readF (ws : List Str) : Except Nat HD := match nextF ws 0 with
  | .ok c => if c.2 = ws.length then .ok c.1 else .error c.2
  | .error j => .error j
/-- a text that may be read -/
structure LineOk (z : Str) (ws : List Str) : Prop where
  sp : Txt.split z spc = ws
  zl : z.length ≤ 100000
  wl : ws.length ≤ 900
  yl : ∀ y ∈ ws, y.length ≤ 1000
def NoStr (K : PySem.W.Frag) (H : Hp) (x : V) : Prop := ∀ H', Same' H H' → ∃ t : Value, TyX K H' x t ∧ PySem.W.kitOne K t (.type "str") = some false
/-- what may be passed to read, and what is told of it -/
def ReadA (K : PySem.W.Frag) (H : Hp) (x : V) (r : Except Nat HD) : Prop := (∃ z ws, x = .str z ∧ LineOk z ws ∧ r = readF ws) ∨ (NoStr K H x ∧ r = .error 0)
def spRead (K : PySem.W.Frag) (A : A4) (CT : Addr) : Sp := fun vs H Q E => ∃ (c x : V) (r : Except Nat HD), vs = [c, x] ∧ ReadA K H x r ∧
  (∀ kd, r = .ok kd → ∀ (p : Addr) (H' : Hp), Same' H H' → IsH A H' p kd → Q (.ref p) H') ∧ (∀ j, r = .error j → TellT E CT H (j : Int))
/-- self by its place, one more by its name -/
abbrev kwS {α : Type} (us ws : List α) : List α := us ++ (ws ++ ws.drop 1)
theorem kwRelS {vs : List V} {us : List Value} {zs : List V} {ws : List Value} (h : Vals vs us) (k : Vals zs ws) : Vals (kwS vs zs) (kwS us ws) := by
  refine h.append (k.append ?_)
  cases k with
  | nil => exact .nil
  | cons r q => exact q
theorem kwTwo {K : PySem.W.Frag} {nm qual x y : Str} {st : Stmt} {f : Addr} {fd : FuncData} (F : Fun K nm qual st f fd)
    (h : ∀ (kV doc pm : Value) (an : Option Addr) (cdv ct u w : Value), bindArgs (PySem.W.fnOf nm qual (defArgs st) (defBody st) (defScope st) .none kV doc pm an cdv ct) ⟨[u], [(y, w)]⟩ = pure [(x, u), (y, w)])
    (h0 : ∀ (kV doc pm : Value) (an : Option Addr) (cdv ct u v : Value), bindArgs (PySem.W.fnOf nm qual (defArgs st) (defBody st) (defScope st) .none kV doc pm an cdv ct) ⟨[u, v], []⟩ = pure [(x, u), (y, v)]) : KBinds K fd [x, y] [y] kwS kwS := by
  obtain ⟨oc, od, kV, doc, pm, an, cdv, ct, osl, rfl, lk, hcd⟩ := F.ex
  refine ⟨fun s us ws _ hl => ?_, kwRelS⟩
  match us, ws, hl with
  | [u], [w], _ => exact .of_eq (h kV doc pm an cdv ct u w)
  | [u, v], [], _ => exact .of_eq (h0 kV doc pm an cdv ct u v)
  | [], ws, hl =>
    exfalso
    simp [kwS] at hl
    omega
  | [u], [], hl => simp [kwS] at hl
  | [u], w :: z :: r, hl =>
    exfalso
    simp [kwS] at hl
  | u :: v :: r, w :: q, hl =>
    exfalso
    simp [kwS] at hl
  | u :: v :: z :: r, [], hl => simp [kwS] at hl
abbrev sHRead : Stmt := inClass (topS 20) 0
theorem made_sameC {C : Addr} {H H' : Hp} {x dx : Addr} (hx : H x = none) (hdx : H dx = none) (k : Keep1 x (upd (upd H dx (.own x)) x (.ins C dx [])) H') : Same' H H' := made_same hx hdx k
theorem tellT_of {E : XK} {CT a : Addr} {H H1 : Hp} {k : Int} (t : TellT E CT H k) (s : Same' H H1) (ha : H a = none) : TellA E CT a H1 k := fun dd H' kp e => t dd H' (fun b o q => kp b o (ne_of_none q ha) (s b o q)) e
section
variable {P : Program} {w : World} {K : PySem.W.Frag} {mg : Str → Option Value} {base : Heap} {C CT e0 : Addr} {fA : Nat → Addr} {dA : Nat → FuncData} {ds0 : List Value}
abbrev nHR : List Str := ["cls", "text", "words", "handler"]
theorem scHR : FnScope nHR ["cls", "text"] (defScope sHRead) := ⟨rfl, rfl, rfl, by decide +kernel, rfl, by decide +kernel, by decide +kernel⟩
theorem ok_hread {A : A4} {f fN fW : Addr} {fd dN dW : FuncData} {dsW : List Value} (F : Fun K "read" "Handler.read" sHRead f fd) (Y : WK P w K mg base C CT e0 fA dA ds0)
    (FN : Fun K "next_handler" "next_handler" sNext fN dN) (bN : Binds K dN ["words"] []) (gN : mg "next_handler" = some (.ref fN)) (GN : FnOk P w K mg base (L2.CX P w) 8 fN dN ["words"] (spNext A C CT))
    (gW : mg "Words" = some (.ref C)) (mW : Mk K C fW) (bW : Binds K dW ["self", "text", "sign"] dsW) (vW : Vals [V.non] dsW) (GW : FnOk P w K mg base (L2.CX P w) 4 fW dW ["self", "text", "sign"] (spInitW K C CT)) :
    FnOk P w K mg base (L2.CX P w) 9 f fd ["cls", "text"] (spRead K A CT) := by
  refine F.okX scHR (fun vs H Q E h => ?_) (fun cdv A0 outer s H vs Q E hr h => ?_)
  · obtain ⟨c, x, r, rfl, _⟩ := h
    rfl
  · obtain ⟨c, x, r, rfl, ra, yes, no⟩ := h
    refine ⟨_, pss_cons (ps_set (i := 2) scHR.nd rfl (.inl rfl) (pe_make mW GW (hr.mono (by decide)) (by rfl) gW bW vW (passes_call (takes_of rfl rfl rfl rfl) (fun _ _ _ _ h => h)) (pa_cons (pv 1) pa_nil)))
      (pss_cons (ps_set (i := 3) scHR.nd rfl (.inl rfl) (pe_call GN (hr.mono (by decide)) (by rfl) gN FN.kp bN .nil (passes_call (takes_of rfl rfl rfl rfl) (fun _ _ _ _ h => h)) (pa_cons (pv 2) pa_nil)))
      (pss_cons (ps_expr (pe_meth0 (pv 2) Y.W.c Y.fin.m Y.fin.G (hr.mono (by decide)) Y.fin.b .nil (passes_call (takes_of rfl rfl rfl rfl) (fun _ _ _ _ h => h))))
      (pss_one (ps_ret (pv 3))))), ?_⟩
    refine ⟨x, rfl, fun a dx ha hdx nxd => ?_⟩
    have s0 : Same' H (upd (upd H dx (.own a)) a (.ins C dx [])) := made_same ha hdx (fun _ _ _ e => e)
    rcases ra with ⟨z, ws, rfl, L, rfl⟩ | ⟨nt, rfl⟩
    · refine ⟨a, dx, .str z, rfl, upd_same, .inl ⟨z, ws, rfl, L.sp, L.zl, L.wl, L.yl, fun H1 k1 w1 => ⟨rfl, ?_⟩⟩⟩
      have s1 : Same' H H1 := made_same ha hdx k1
      refine ⟨.ref a, rfl, a, ws, 0, rfl, w1, ?_⟩
      have hF : readF ws = (match nextF ws 0 with
        | .ok c => if c.2 = ws.length then .ok c.1 else .error c.2
        | .error j => .error j) := rfl
      cases hn : nextF ws 0 with
      | error j =>
        rw [hn] at hF
        exact tellT_of (no j hF) s1 ha
      | ok c =>
        rw [hn] at hF
        intro p H2 k2 ih w2
        have s2 : Same' H H2 := fun b o q => k2 b o (ne_of_none q ha) (s1 b o q)
        refine rd_mt w2 rfl (by decide +kernel) ⟨a, ws, c.2, rfl, w2, fun e => ?_, fun l => ?_⟩
        · refine ⟨.ref p, rfl, ?_⟩
          dsimp only at hF
          rw [if_pos e] at hF
          exact yes c.1 hF p H2 s2 ih
        · dsimp only at hF
          rw [if_neg (by omega)] at hF
          exact tellT_of (no _ hF) s2 ha
    · refine ⟨a, dx, x, rfl, upd_same, 
      .inr ⟨nt _ s0, ?_⟩⟩
      exact tellT_of (no 0 rfl) s0 ha
/-- C.read(text) of the classes below it -/
structure ReadC (P : Program) (w : World) (K : PySem.W.Frag) (mg : Str → Option Value) (base : Heap) (A : A4) (CT : Addr) (mc : Value) (name : String) (B p g : Addr) (d : FuncData) (n : Nat) : Prop where
  gl : mg name = some (.ref B)
  rd : ClX.CRead K B mc
  cm : ClX.CMet K B mc "read" p g
  b : Binds K d ["cls", "text"] []
  kb : KBinds K d ["cls", "text"] ["text"] kwS kwS
  G : FnOk P w K mg base (L2.CX P w) n g d ["cls", "text"] (spRead K A CT)
theorem ReadC.raw {A : A4} {mc : Value} {name : String} {B p g : Addr} {d : FuncData} {n : Nat} (R : ReadC P w K mg base A CT mc name B p g d n) : FnR P w K mg base (L2.CX P w) n g (spRead K A CT) :=
  (R.G.raw R.b .nil).imp fun vs H Q E h => by rw [List.append_nil]; exact h
theorem sub_read {A : A4} {mc : Value} {f B p g : Addr} {fd d : FuncData} {st : Stmt} {q : String} (F : Fun K "read" q st f fd) (sc : FnScope ["cls", "text"] ["cls", "text"] (defScope st))
    (R : ReadC P w K mg base A CT mc "Handler" B p g d 9)
    (hw : ∀ (cdv : Value) (A0 : Around) (outer : List Env) (s : Shared) (H : Hp) (E : XK), Room 9 (cxOf (L2.CX P w) P w K mg base ["cls", "text"] q (defScope st) f cdv A0 outer s H E).A →
      PSs (cxOf (L2.CX P w) P w K mg base ["cls", "text"] q (defScope st) f cdv A0 outer s H E) (defBody st) (tRet (ClX.tCMeth B (spRead K A CT) E (tC (.ref B)) (tCons (tVar 1) tNil)))) :
    FnOk P w K mg base (L2.CX P w) 10 f fd ["cls", "text"] (spRead K A CT) := by
  refine F.okX sc (fun vs H Q E h => ?_) (fun cdv A0 outer s H vs Q E hr h => ?_)
  · obtain ⟨c, x, r, rfl, _⟩ := h
    rfl
  · obtain ⟨c, x, r, rfl, ra, yes, no⟩ := h
    exact ⟨_, hw cdv A0 outer s H E hr, rfl, x, rfl, .ref B, x, r, rfl, ra, yes, no⟩
end
end My
namespace My
open PySem PySem.Spec PyProof.Rows L2
abbrev nRD : List Str := ["cls", "text"]
section
variable {P : Program} {w : World} {K : PySem.W.Frag} {mg : Str → Option Value} {base : Heap} {CT : Addr}
abbrev sRdNamed : Stmt := inClass (topS 21) 0
theorem scRdNamed : FnScope nRD nRD (defScope sRdNamed) := ⟨rfl, rfl, rfl, by decide +kernel, rfl, by decide +kernel, by decide +kernel⟩
theorem ok_rdNamed {A : A4} {mc : Value} {f B p g : Addr} {fd d : FuncData} (F : Fun K "read" "Named.read" sRdNamed f fd) (R : ReadC P w K mg base A CT mc "Handler" B p g d 9) : FnOk P w K mg base (L2.CX P w) 10 f fd ["cls", "text"] (spRead K A CT) :=
  sub_read F scRdNamed R fun cdv A0 outer s H E hr => pss_one (ps_ret (ClX.pe_cmeth (pe_glob (v := .ref B) rfl R.gl rfl) R.rd R.cm R.raw hr (passes_call (takes_of rfl rfl rfl rfl) (fun _ _ _ _ h => h)) (pa_cons (pv 1) pa_nil)))
theorem kbNamed {f : Addr} {fd : FuncData} (F : Fun K "read" "Named.read" sRdNamed f fd) : KBinds K fd ["cls", "text"] ["text"] kwS kwS := kwTwo F (fun _ _ _ _ _ _ _ _ => rfl) (fun _ _ _ _ _ _ _ _ => rfl)
abbrev sRdKeeping : Stmt := inClass (topS 22) 0
theorem scRdKeeping : FnScope nRD nRD (defScope sRdKeeping) := ⟨rfl, rfl, rfl, by decide +kernel, rfl, by decide +kernel, by decide +kernel⟩
theorem ok_rdKeeping {A : A4} {mc : Value} {f B p g : Addr} {fd d : FuncData} (F : Fun K "read" "Keeping.read" sRdKeeping f fd) (R : ReadC P w K mg base A CT mc "Handler" B p g d 9) : FnOk P w K mg base (L2.CX P w) 10 f fd ["cls", "text"] (spRead K A CT) :=
  sub_read F scRdKeeping R fun cdv A0 outer s H E hr => pss_one (ps_ret (ClX.pe_cmeth (pe_glob (v := .ref B) rfl R.gl rfl) R.rd R.cm R.raw hr (passes_call (takes_of rfl rfl rfl rfl) (fun _ _ _ _ h => h)) (pa_cons (pv 1) pa_nil)))
theorem kbKeeping {f : Addr} {fd : FuncData} (F : Fun K "read" "Keeping.read" sRdKeeping f fd) : KBinds K fd ["cls", "text"] ["text"] kwS kwS := kwTwo F (fun _ _ _ _ _ _ _ _ => rfl) (fun _ _ _ _ _ _ _ _ => rfl)
abbrev sRdTurning : Stmt := inClass (topS 23) 0
theorem scRdTurning : FnScope nRD nRD (defScope sRdTurning) := ⟨rfl, rfl, rfl, by decide +kernel, rfl, by decide +kernel, by decide +kernel⟩
theorem ok_rdTurning {A : A4} {mc : Value} {f B p g : Addr} {fd d : FuncData} (F : Fun K "read" "Turning.read" sRdTurning f fd) (R : ReadC P w K mg base A CT mc "Handler" B p g d 9) : FnOk P w K mg base (L2.CX P w) 10 f fd ["cls", "text"] (spRead K A CT) :=
  sub_read F scRdTurning R fun cdv A0 outer s H E hr => pss_one (ps_ret (ClX.pe_cmeth (pe_glob (v := .ref B) rfl R.gl rfl) R.rd R.cm R.raw hr (passes_call (takes_of rfl rfl rfl rfl) (fun _ _ _ _ h => h)) (pa_cons (pv 1) pa_nil)))
theorem kbTurning {f : Addr} {fd : FuncData} (F : Fun K "read" "Turning.read" sRdTurning f fd) : KBinds K fd ["cls", "text"] ["text"] kwS kwS := kwTwo F (fun _ _ _ _ _ _ _ _ => rfl) (fun _ _ _ _ _ _ _ _ => rfl)
abbrev sRdCell : Stmt := inClass (topS 24) 6
theorem scRdCell : FnScope nRD nRD (defScope sRdCell) := ⟨rfl, rfl, rfl, by decide +kernel, rfl, by decide +kernel, by decide +kernel⟩
theorem ok_rdCell {A : A4} {mc : Value} {f B p g : Addr} {fd d : FuncData} (F : Fun K "read" "Cell.read" sRdCell f fd) (R : ReadC P w K mg base A CT mc "Handler" B p g d 9) : FnOk P w K mg base (L2.CX P w) 10 f fd ["cls", "text"] (spRead K A CT) :=
  sub_read F scRdCell R fun cdv A0 outer s H E hr => pss_one (ps_ret (ClX.pe_cmeth (pe_glob (v := .ref B) rfl R.gl rfl) R.rd R.cm R.raw hr (passes_call (takes_of rfl rfl rfl rfl) (fun _ _ _ _ h => h)) (pa_cons (pv 1) pa_nil)))
theorem kbCell {f : Addr} {fd : FuncData} (F : Fun K "read" "Cell.read" sRdCell f fd) : KBinds K fd ["cls", "text"] ["text"] kwS kwS := kwTwo F (fun _ _ _ _ _ _ _ _ => rfl) (fun _ _ _ _ _ _ _ _ => rfl)
abbrev sRdLog : Stmt := inClass (topS 25) 4
theorem scRdLog : FnScope nRD nRD (defScope sRdLog) := ⟨rfl, rfl, rfl, by decide +kernel, rfl, by decide +kernel, by decide +kernel⟩
theorem ok_rdLog {A : A4} {mc : Value} {f B p g : Addr} {fd d : FuncData} (F : Fun K "read" "Log.read" sRdLog f fd) (R : ReadC P w K mg base A CT mc "Handler" B p g d 9) : FnOk P w K mg base (L2.CX P w) 10 f fd ["cls", "text"] (spRead K A CT) :=
  sub_read F scRdLog R fun cdv A0 outer s H E hr => pss_one (ps_ret (ClX.pe_cmeth (pe_glob (v := .ref B) rfl R.gl rfl) R.rd R.cm R.raw hr (passes_call (takes_of rfl rfl rfl rfl) (fun _ _ _ _ h => h)) (pa_cons (pv 1) pa_nil)))
theorem kbLog {f : Addr} {fd : FuncData} (F : Fun K "read" "Log.read" sRdLog f fd) : KBinds K fd ["cls", "text"] ["text"] kwS kwS := kwTwo F (fun _ _ _ _ _ _ _ _ => rfl) (fun _ _ _ _ _ _ _ _ => rfl)
abbrev sRdFailure : Stmt := inClass (topS 26) 4
theorem scRdFailure : FnScope nRD nRD (defScope sRdFailure) := ⟨rfl, rfl, rfl, by decide +kernel, rfl, by decide +kernel, by decide +kernel⟩
theorem ok_rdFailure {A : A4} {mc : Value} {f B p g : Addr} {fd d : FuncData} (F : Fun K "read" "Failure.read" sRdFailure f fd) (R : ReadC P w K mg base A CT mc "Handler" B p g d 9) : FnOk P w K mg base (L2.CX P w) 10 f fd ["cls", "text"] (spRead K A CT) :=
  sub_read F scRdFailure R fun cdv A0 outer s H E hr => pss_one (ps_ret (ClX.pe_cmeth (pe_glob (v := .ref B) rfl R.gl rfl) R.rd R.cm R.raw hr (passes_call (takes_of rfl rfl rfl rfl) (fun _ _ _ _ h => h)) (pa_cons (pv 1) pa_nil)))
theorem kbFailure {f : Addr} {fd : FuncData} (F : Fun K "read" "Failure.read" sRdFailure f fd) : KBinds K fd ["cls", "text"] ["text"] kwS kwS := kwTwo F (fun _ _ _ _ _ _ _ _ => rfl) (fun _ _ _ _ _ _ _ _ => rfl)
abbrev sRdChoice : Stmt := inClass (topS 27) 4
theorem scRdChoice : FnScope nRD nRD (defScope sRdChoice) := ⟨rfl, rfl, rfl, by decide +kernel, rfl, by decide +kernel, by decide +kernel⟩
theorem ok_rdChoice {A : A4} {mc : Value} {f B p g : Addr} {fd d : FuncData} (F : Fun K "read" "Choice.read" sRdChoice f fd) (R : ReadC P w K mg base A CT mc "Handler" B p g d 9) : FnOk P w K mg base (L2.CX P w) 10 f fd ["cls", "text"] (spRead K A CT) :=
  sub_read F scRdChoice R fun cdv A0 outer s H E hr => pss_one (ps_ret (ClX.pe_cmeth (pe_glob (v := .ref B) rfl R.gl rfl) R.rd R.cm R.raw hr (passes_call (takes_of rfl rfl rfl rfl) (fun _ _ _ _ h => h)) (pa_cons (pv 1) pa_nil)))
theorem kbChoice {f : Addr} {fd : FuncData} (F : Fun K "read" "Choice.read" sRdChoice f fd) : KBinds K fd ["cls", "text"] ["text"] kwS kwS := kwTwo F (fun _ _ _ _ _ _ _ _ => rfl) (fun _ _ _ _ _ _ _ _ => rfl)
theorem kbHandler {f : Addr} {fd : FuncData} (F : Fun K "read" "Handler.read" sHRead f fd) : KBinds K fd ["cls", "text"] ["text"] kwS kwS := kwTwo F (fun _ _ _ _ _ _ _ _ => rfl) (fun _ _ _ _ _ _ _ _ => rfl)
theorem kbMeets {f : Addr} {fd : FuncData} (F : Fun K "meets" "Handler.meets" sMeets f fd) : KBinds K fd ["self", "other"] ["other"] kwS kwS := kwTwo F (fun _ _ _ _ _ _ _ _ => rfl) (fun _ _ _ _ _ _ _ _ => rfl)
end
end My
namespace My
open PySem PySem.Spec PyProof.Rows L2
/-- a handler class's own methods -/
structure Own (P : Program) (w : World) (K : PySem.W.Frag) (mg : Str → Option Value) (base : Heap) (A : A4) (i : Nat) (fE fT : Addr) (dE dT : FuncData) : Prop where
  eq : PySem.W.findIn K (.ref (A.at i)) "__eq__" = some (some (.ref fE))
  ef : PySem.W.isFn K (.ref fE) = true
  ne : PySem.W.findIn K (.ref (A.at i)) "__ne__" = some (some (.builtin "object.__ne__"))
  bE : Binds K dE ["self", "other"] []
  gE : FnOk P w K mg base CX0 1 fE dE ["self", "other"] (spEq K A i)
  st : PySem.W.findIn K (.ref (A.at i)) "__str__" = some (some (.ref fT))
  tf : PySem.W.isFn K (.ref fT) = true
  bT : Binds K dT ["self"] []
  gT : FnOk P w K mg base CX0 1 fT dT ["self"] (spStr A i)
  nf : ∀ j, j < 4 → PySem.W.notFirst K (A.at i) (.ref (A.at j)) = true
def Owns (P : Program) (w : World) (K : PySem.W.Frag) (mg : Str → Option Value) (base : Heap) (A : A4) : Prop := ∀ i, i < 4 → ∃ fE fT dE dT, Own P w K mg base A i fE fT dE dT
section
variable {X : Cx} {A : A4}
theorem other_ty {K : PySem.W.Frag} {mg : Str → Option Value} {P : Program} {w : World} {base : Heap} {fE fT : Addr} {dE dT : FuncData} {H : Hp} {y : V} {k : HD} {r : Bool} (S : Hand K mg A) (O : Own P w K mg base A k.ix fE fT dE dT) (h : Other K A H y k r) : ∃ t, TyX K H y t ∧ PySem.W.notFirst K (A.at k.ix) t = true := by
  rcases h with ⟨b, k2, rfl, h2, _⟩ | ⟨⟨T, ty, kk⟩, _⟩
  · exact ⟨_, S.ty h2, O.nf _ k2.ix_lt⟩
  · exact ⟨_, ty, (kk _ k.ix_lt).2⟩
def rEqH (K : PySem.W.Frag) (A : A4) (neg : Bool) : R2 := fun x y H Q => ∃ (a : Addr) (k : HD) (r : Bool), x = .ref a ∧ IsH A H a k ∧ Other K A H y k r ∧ Q (.bl (if neg then !r else r)) H
theorem op_eqH (S : Hand X.K X.mg A) (O : Owns X.prog X.w X.K X.mg X.base A) (hr : Room 1 X.A) (hgu : X.A.guards = some []) : OpR X (compareOp .Eq) (rEqH X.K A false) := by
  intro pins s σ H x y v u Q I rx ry h
  obtain ⟨a, k, r, rfl, ha, ot, q⟩ := h
  obtain ⟨fE, fT, dE, dT, o⟩ := O k.ix k.ix_lt
  obtain ⟨t, ty, nf⟩ := other_ty S o ot
  obtain ⟨dx, ea⟩ := id ha
  exact op_eqOwn (C := A.at k.ix) (E := fun _ _ _ => False) (toG o.gE) hr hgu o.eq o.ef o.bE pass0 pins s σ H _ y v u Q I rx ry ⟨a, dx, _, t, rfl, ea, ty, nf, a, k, y, r, rfl, rfl, ha, ot, r, rfl, q⟩
theorem op_neH (S : Hand X.K X.mg A) (O : Owns X.prog X.w X.K X.mg X.base A) (hr : Room 2 X.A) (hgu : X.A.guards = some []) : OpR X (compareOp .NotEq) (rEqH X.K A true) := by
  intro pins s σ H x y v u Q I rx ry h
  obtain ⟨a, k, r, rfl, ha, ot, q⟩ := h
  obtain ⟨fE, fT, dE, dT, o⟩ := O k.ix k.ix_lt
  obtain ⟨t, ty, nf⟩ := other_ty S o ot
  obtain ⟨dx, ea⟩ := id ha
  exact op_neOwn (C := A.at k.ix) (E := fun _ _ _ => False) (toG o.gE) hr hgu o.eq o.ef o.ne (S.mo _ k.ix_lt) o.bE pass0 pins s σ H _ y v u Q I rx ry ⟨a, dx, _, t, rfl, ea, ty, nf, a, k, y, r, rfl, rfl, ha, ot, r, rfl, r, rfl, q⟩
def rStrH (A : A4) : List V → Hp → VK → Prop := fun xs H Q => ∃ (a : Addr) (k : HD), xs = [.ref a] ∧ IsH A H a k ∧ k ∈ rows ∧ Q (.str k.text) H
theorem rows_text : ∀ k ∈ rows, ∀ n z, k = .cell n z → z.natAbs.log2 < 1920 ∧ k.text.length ≤ 2000 := by
  intro k hk n z e
  have h : ∀ k ∈ rows, (match k with | .cell _ z => decide (z.natAbs.log2 < 1920) | _ => true) = true ∧ k.text.length ≤ 2000 := by decide +kernel
  have q := h _ hk
  subst e
  exact ⟨of_decide_eq_true q.1, q.2⟩
theorem call_strH (O : Owns X.prog X.w X.K X.mg X.base A) (hr : Room 3 X.A) (hgu : X.A.guards = some []) : CallR X (.type "str") (rStrH A) := by
  intro pins s σ H xs us Q I r h
  obtain ⟨a, k, rfl, ha, hk, q⟩ := h
  obtain ⟨fE, fT, dE, dT, o⟩ := O k.ix k.ix_lt
  obtain ⟨dx, ea⟩ := id ha
  exact call_strOwn (C := A.at k.ix) (E := fun _ _ _ => False) (toG o.gT) hr hgu o.st o.tf o.bT pass0 pins s σ H _ us Q I r ⟨a, dx, _, rfl, ea, a, k, rfl, rfl, ha, Nat.le_trans (rows_len k hk) (by decide), rows_text k hk, _, rfl, q⟩
end
/-! ### _law_meet_right -/
abbrev nMR : List Str := ["_law_pen_here", "_law_row_here", "_law_other", "_law_one", "_law_two", "_law_due_here", "_law_odd"]
theorem scMR : FnScope nMR ["_law_pen_here", "_law_row_here", "_law_other"] (defScope sMeetR) := ⟨rfl, rfl, rfl, by decide +kernel, rfl, by decide +kernel, by decide +kernel⟩
theorem IsH.off {A : A4} {H H' : Hp} {a p c : Addr} {k : HD} {ns : List Int} {B : Int} (h : IsH A H a k) (P : PenAt H p c ns B) (o : Off p H H') : IsH A H' a k := by
  obtain ⟨dx, e⟩ := h
  obtain ⟨b, g, hp, _⟩ := P.pen
  exact ⟨dx, o a _ (fun z => by rw [z, hp] at e; cases e) e⟩
theorem Off.tup {H H' : Hp} {a p c : Addr} {xs : List V} {ns : List Int} {B : Int} (P : PenAt H p c ns B) (o : Off p H H') (e : H a = some (.tup xs)) : H' a = some (.tup xs) := by
  obtain ⟨b, g, hp, _⟩ := P.pen
  exact o a _ (fun z => by rw [z, hp] at e; cases e) e
theorem two_fine (b c : Bool) : Fine (.list [.bool b, .bool c]) := by cases b <;> cases c <;> exact ⟨by decide +kernel, by decide +kernel, by decide +kernel⟩
theorem same_off {p : Addr} {H H' : Hp} (s : Same' H H') : Off p H H' := fun q o _ e => s q o e
/-- what is asked of meets -/
structure MeetK (P : Program) (w : World) (K : PySem.W.Frag) (mg : Str → Option Value) (base : Heap) (A : A4) (bK bT fM : Addr) (dM : FuncData) : Prop where
  m : ∀ i, i < 4 → Meth K (A.at i) "meets" fM
  b : Binds K dM ["self", "other"] []
  kb : KBinds K dM ["self", "other"] ["other"] kwS kwS
  G : FnOk P w K mg base CX0 2 fM dM ["self", "other"] (spMeets K A bK bT)
theorem no_meets (k : HD) : k.flds.lookup ("meets" : Str) = none := by cases k <;> rfl
section
variable {P : Program} {w : World} {K : PySem.W.Frag} {mg : Str → Option Value} {base : Heap} {A : A4}
theorem rd_meets {fM bK bT : Addr} {dM : FuncData} (S : Hand K mg A) (M : MeetK P w K mg base A bK bT fM dM) {σ : L2.St} {i : Nat} {H : Hp} {Q : VK} {a : Addr} {k : HD} {t : TA} {E : XK} (e : σ[i]? = some (some (.ref a))) (ih : IsH A H a k) (q : t σ H fun vs H1 => spMeets K A bK bT (.ref a :: (vs ++ [])) H1 Q E) :
    tMethA "meets" fM K (spMeets K A bK bT) [] E (tVar i) t σ H Q := by
  obtain ⟨dx, ea⟩ := ih
  exact ⟨.ref a, e, a, _, dx, _, rfl, ea, (S.cls k).1, M.m _ k.ix_lt, no_meets k, q⟩
theorem rd_meetsK {fM bK bT : Addr} {dM : FuncData} (S : Hand K mg A) (M : MeetK P w K mg base A bK bT fM dM) {σ : L2.St} {i : Nat} {H : Hp} {Q : VK} {a : Addr} {k : HD} {t : TA} {E : XK} (e : σ[i]? = some (some (.ref a))) (ih : IsH A H a k) (q : t σ H fun zs H1 => spMeets K A bK bT (kwS [.ref a] zs) H1 Q E) :
    tMethAK "meets" fM K (spMeets K A bK bT) kwS E (tVar i) t σ H Q := by
  obtain ⟨dx, ea⟩ := ih
  exact ⟨.ref a, e, a, _, dx, _, rfl, ea, (S.cls k).1, M.m _ k.ix_lt, no_meets k, q⟩
def spMeetR : Sp := fun vs H Q _ => ∃ (p cc tr to : Addr) (ns : List Int) (B : Int) (k k2 : HD), vs = [.ref p, .ref tr, .ref to] ∧ PenAt H p cc ns B ∧ B + 2 ≤ 1000 ∧ H tr = some (.tup k.row) ∧ k ∈ rows ∧ H to = some (.tup k2.row) ∧ k2 ∈ rows ∧
  ∀ H', PenAt H' p cc ns (B + 1) → Off p H H' → Q (.bl true) H'
theorem ok_meetR {f fP fMd fS fM bN bK bT bH : Addr} {fd dP dMd dS dM : FuncData} (F : Fun K "_law_meet_right" "_law_meet_right" sMeetR f fd) (T : Txt mg) (S : Hand K mg A) (O : Owns P w K mg base A) (Ba : Bases K mg A bN bK bT bH) (M : MeetK P w K mg base A bK bT fM dM)
    (FP : Fun K "_law_pick" "_law_pick" sPick fP dP) (bP : Binds K dP ["_law_pen_here", "_law_some"] []) (gP : mg "_law_pick" = some (.ref fP)) (GP : FnOk P w K mg base CX0 2 fP dP ["_law_pen_here", "_law_some"] spPick)
    (FM : Fun K "_law_made" "_law_made" sMade fMd dMd) (bMd : Binds K dMd ["_law_row_here"] []) (gMd : mg "_law_made" = some (.ref fMd)) (GMd : FnOk P w K mg base CX0 8 fMd dMd ["_law_row_here"] (spMade A))
    (FS : Fun K "_law_sort" "_law_sort" sSort fS dS) (bS : Binds K dS ["_law_row_here"] []) (gS : mg "_law_sort" = some (.ref fS)) (GS : FnOk P w K mg base CX0 1 fS dS ["_law_row_here"] spSort) :
    FnG P w K mg base CX0 10 f fd ["_law_pen_here", "_law_row_here", "_law_other"] spMeetR := by
  refine okG F scMR (fun vs H Q E h => ?_) (fun cdv A0 outer s H vs Q E hr hg h => ?_)
  · obtain ⟨p, cc, tr, to, ns, B, k, k2, rfl, _⟩ := h
    rfl
  · obtain ⟨p, cc, tr, to, ns, B, k, k2, rfl, PA, hB, ht, hk, ht2, hk2, q⟩ := h
    have hu : (cxOf CX0 P w K mg base nMR "_law_meet_right" (defScope sMeetR) f cdv A0 outer s H E).A.units + 64 < cLine := hr.units
    refine ⟨_, pss_cons (ps_par (i := 3) (j := 4) rfl scMR.nd rfl rfl (by decide) rfl rfl
        (pa_cons (pe_call GMd (hr.mono (by decide)) (by rfl) gMd FM.kp bMd .nil pass0 (pa_cons (pv 1) pa_nil)) (pa_cons (pe_call GMd (hr.mono (by decide)) (by rfl) gMd FM.kp bMd .nil pass0 (pa_cons (pv 2) pa_nil)) pa_nil)) (by rfl))
      (pss_cons (ps_set (i := 5) scMR.nd rfl (.inl rfl) (pe_cmpR op_ne (pe_call GS (hr.mono (by decide)) (by rfl) gS FS.kp bS .nil pass0 (pa_cons (pv 1) pa_nil)) (pe_call GS (hr.mono (by decide)) (by rfl) gS FS.kp bS .nil pass0 (pa_cons (pv 2) pa_nil)) (nomark _)))
      (pss_cons (ps_if (pt_cmpR op_ne (pe_callB (call_reprT hg hu) (by rfl) T.repr (by decide +kernel) (pa_cons (pe_lst (pa_cons (pe_methA (pv 3) M.G (hr.mono (by decide)) M.b .nil pass0 (pa_cons (pv 4) pa_nil)) (pa_cons (pe_methAK (pv 4) M.G (hr.mono (by decide)) M.kb pass0 (pk_cons (pv 3) pk_nil)) pa_nil))) pa_nil))
          (pe_callB (call_reprT hg hu) (by rfl) T.repr (by decide +kernel) (pa_cons (pe_lst (pa_cons (pv 5) (pa_cons (pv 5) pa_nil))) pa_nil)) (nomark _)) (pss_one (ps_ret pe_bl)) pss_nil)
      (pss_cons (ps_set (i := 6) scMR.nd rfl (.inl rfl) (pe_call GP (hr.mono (by decide)) (by rfl) gP FP.kp bP .nil pass0 (pa_cons (pv 0) (pa_cons (pe_lst (pa_cons pe_non (pa_cons pe_int (pa_cons pe_str (pa_cons (pv 1) (pa_cons (pe_lst (pa_cons (pv 4) pa_nil)) (pa_cons pe_dnewK (pa_cons pe_bl
          (pa_cons (pe_callTy (call_strH O (hr.mono (by decide)) hg) (by rfl) T.str (by decide +kernel) (pa_cons (pv 4) pa_nil)) pa_nil))))))))) pa_nil))))
      (pss_one (ps_ret (pe_and (pe_cmpR op_is_bl (pe_methA (pv 3) M.G (hr.mono (by decide)) M.b .nil pass0 (pa_cons (pv 6) pa_nil)) pe_bl (nomark _)) (pe_one (pe_cmpR op_is_bl (pe_methA (pv 3) M.G (hr.mono (by decide)) M.b .nil pass0 (pa_cons (pv 3) pa_nil)) pe_bl (nomark _))))))))), ?_⟩
    refine ⟨.ref tr, rfl, tr, k, rfl, hk, ht, fun a H1 s1 ia => ?_⟩
    refine ⟨.ref to, rfl, to, k2, rfl, hk2, s1 _ _ ht2, fun b H2 s2 ib => ⟨_, _, rfl, ?_⟩⟩
    have s12 := s1.trans s2
    have ia2 := ia.keep s2
    refine ⟨.ref tr, rfl, tr, k, rfl, s12 _ _ ht, .ref to, rfl, to, k2, rfl, s12 _ _ ht2, rfl, ?_⟩
    have kn1 : Knd K A bK bT H2 (.ref a) k.ix := knd_h S Ba ia2
    have kn2 : Knd K A bK bT H2 (.ref b) k2.ix := knd_h S Ba ib
    have due : (!decide (V.int (sortN k.ix : Nat) = V.int (sortN k2.ix : Nat))) = meetB k.ix k2.ix := by
      rw [meet_sort _ k.ix_lt _ k2.ix_lt, Bool.eq_iff_iff]
      simp
      omega
    have due2 : meetB k2.ix k.ix = meetB k.ix k2.ix := by
      unfold meetB
      rw [Bool.or_comm]
    rw [due]
    refine rd_meets S M rfl ia2 ⟨.ref b, rfl, .ref a, .ref b, k.ix, k2.ix, rfl, kn1, kn2, ?_⟩
    refine rd_meetsK S M rfl ib ⟨.ref a, rfl, .ref b, .ref a, k2.ix, k.ix, rfl, kn2, kn1, ?_⟩
    rw [due2]
    refine ⟨by show 2 ≤ sizeLine; decide, fun l hl => ?_⟩
    have s3 := same_new (o := .lst [.bl (meetB k.ix k2.ix), .bl (meetB k.ix k2.ix)]) hl
    refine ⟨.ref l, .list [.bool (meetB k.ix k2.ix), .bool (meetB k.ix k2.ix)], rfl, .lst upd_same (.cons (.bl _) (.cons (.bl _) .nil)) (by show 2 ≤ 1000; decide), two_fine _ _, ?_⟩
    refine ⟨_, rfl, _, rfl, by show 2 ≤ sizeLine; decide, fun l2 hl2 => ?_⟩
    have s4 := same_new (o := .lst [.bl (meetB k.ix k2.ix), .bl (meetB k.ix k2.ix)]) hl2
    refine ⟨.ref l2, .list [.bool (meetB k.ix k2.ix), .bool (meetB k.ix k2.ix)], rfl, .lst upd_same (.cons (.bl _) (.cons (.bl _) .nil)) (by show 2 ≤ 1000; decide), two_fine _ _, ?_⟩
    refine ⟨rfl, false, by simp, iteF ?_⟩
    obtain ⟨Hb, eb⟩ : ∃ Hb : Hp, upd (upd H2 l (.lst [.bl (meetB k.ix k2.ix), .bl (meetB k.ix k2.ix)])) l2 (.lst [.bl (meetB k.ix k2.ix), .bl (meetB k.ix k2.ix)]) = Hb := ⟨_, rfl⟩
    have sb : Same' H Hb := by
      rw [← eb]
      exact (s12.trans s3).trans s4
    have ia3 : IsH A Hb a k := by
      rw [← eb]
      exact (ia2.keep s3).keep s4
    have ib3 : IsH A Hb b k2 := by
      rw [← eb]
      exact (ib.keep s3).keep s4
    rw [eb]
    clear eb s3 s4 hl hl2
    refine ⟨.ref p, rfl, .ref tr, rfl, .ref b, rfl, by show 1 ≤ sizeLine; decide, fun l1 hl1 => ?_⟩
    have t1 := same_new (o := .lst [V.ref b]) hl1
    intro d hd
    have t2 := same_new (o := .dK []) hd
    refine ⟨.ref b, rfl, b, k2, rfl, (ib3.keep t1).keep t2, hk2, ?_⟩
    refine ⟨by show 8 ≤ sizeLine; decide, fun lo hlo => ?_⟩
    have t3 := same_new (o := .lst [.non, .int 0, .str "choice", .ref tr, .ref l1, .ref d, .bl true, .str k2.text]) hlo
    have st : Same' Hb _ := (t1.trans t2).trans t3
    have P3 := PA.keep (fun q o e => st _ _ (sb q o e))
    obtain ⟨b0, g0, hp0, _⟩ := PA.pen
    have nlo : lo ≠ p := (ne_of_none (t2 _ _ (t1 _ _ (sb _ _ hp0))) hlo).symm
    have e1 : (upd (upd (upd Hb l1 (.lst [V.ref b])) d (.dK [])) lo (.lst [.non, .int 0, .str "choice", .ref tr, .ref l1, .ref d, .bl true, .str k2.text])) l1 = some (.lst [V.ref b]) := t3 _ _ (t2 _ _ upd_same)
    have e2 : (upd (upd (upd Hb l1 (.lst [V.ref b])) d (.dK [])) lo (.lst [.non, .int 0, .str "choice", .ref tr, .ref l1, .ref d, .bl true, .str k2.text])) d = some (.dK []) := t3 _ _ upd_same
    have n1 : l1 ≠ p := (ne_of_none (sb _ _ hp0) hl1).symm
    have n2 : d ≠ p := (ne_of_none (t1 _ _ (sb _ _ hp0)) hd).symm
    refine ⟨p, cc, ns, B, .ref lo, [.non, .int 0, .str "choice", .ref tr, .ref l1, .ref d, .bl true, .str k2.text], rfl, P3, by omega, .inl ⟨lo, rfl, nlo, upd_same⟩, by show 1 ≤ 8; decide, by show 8 ≤ 1000; decide, fun v H3 hv P4 off => ?_⟩
    have ia4 := (((ia3.keep t1).keep t2).keep t3).off P3 off
    have ty : ∃ S, TyX K H3 v (.type S) ∧ S ∈ ["NoneType", "bool", "int", "str", "list", "tuple", "dict"] := by
      simp only [List.mem_cons, List.not_mem_nil, or_false] at hv
      rcases hv with rfl | rfl | rfl | rfl | rfl | rfl | rfl | rfl
      · exact ⟨_, .base .non, by simp⟩
      · exact ⟨_, .base (.int _), by simp⟩
      · exact ⟨_, .base (.str _), by simp⟩
      · exact ⟨_, .base (.tup (off.tup P3 (st _ _ (sb _ _ ht)))), by simp⟩
      · exact ⟨_, .base (.lst (off _ _ n1 e1)), by simp⟩
      · exact ⟨_, .base (.dK (off _ _ n2 e2)), by simp⟩
      · exact ⟨_, .base (.bl _), by simp⟩
      · exact ⟨_, .base (.str _), by simp⟩
    obtain ⟨Sv, tyv, mv⟩ := ty
    refine rd_meets S M rfl ia4 ⟨v, rfl, .ref a, v, k.ix, 4, rfl, knd_h S Ba ia4, knd_o Ba tyv mv, ?_⟩
    rw [meet_odd _ k.ix_lt]
    refine ⟨false, false, rfl, rfl, true, rfl, iteT ?_⟩
    refine rd_meets S M rfl ia4 ⟨.ref a, rfl, .ref a, .ref a, k.ix, k.ix, rfl, knd_h S Ba ia4, knd_h S Ba ia4, ?_⟩
    rw [meet_self _ k.ix_lt]
    exact ⟨false, false, rfl, rfl, q H3 P4 ((same_off (sb.trans st)).trans off)⟩
end
end My
/-! the law's own looks at words -/
namespace My
open PySem PySem.Spec PyProof.Rows L2
theorem canLay_strs : ∀ zs : List Str, (∀ z ∈ zs, PyData.strOk z = true) → PyData.canLayAll0 (zs.map PyData.str) = true
  | [], _ => by simp [PyData.canLayAll0]
  | x :: r, h => by
    have := canLay_strs r fun z hz => h z (List.mem_cons_of_mem _ hz)
    simp [PyData.canLayAll0, PyData.canLay0] at this ⊢
    exact ⟨h x List.mem_cons_self, this⟩
theorem depth_strs : ∀ zs : List Str, PyData.depthAll (zs.map PyData.str) = 0
  | [] => by simp [PyData.depthAll]
  | x :: r => by
    have := depth_strs r
    simp [PyData.depthAll, PyData.depth, this]
theorem shapedL_strs (zs : List Str) (h : ∀ z ∈ zs, PyData.strOk z = true) : SeqAt.shaped (.list (zs.map PyData.str)) = true := by
  have a := canLay_strs zs h
  have b := depth_strs zs
  simp [SeqAt.shaped, PyData.canLay0, PyData.depth, a, b]
theorem shaped_str {z : Str} (h : PyData.strOk z = true) : SeqAt.shaped (.str z) = true := by simp [SeqAt.shaped, PyData.canLay0, PyData.depth, h]
theorem eqvAll_strs : ∀ zs : List Str, PyData.eqvAll (zs.map PyData.str) (zs.map PyData.str) = true
  | [] => by simp [PyData.eqvAll]
  | z :: r => by
    have := eqvAll_strs r
    simp [PyData.eqvAll, PyData.eqv, this]
def bad (l : List Nat) : List V := (l.filter fun c => !low c).map fun c => V.str ⟨#[c]⟩
theorem bad_add {l : List Nat} {c : Nat} : bad (l ++ [c]) = if low c = true then bad l else bad l ++ [V.str ⟨#[c]⟩] := by
  unfold bad
  rw [List.filter_append, List.map_append]
  cases h : low c <;> simp [h]
theorem bad_all : ∀ l : List Nat, l.all low = (bad l).isEmpty
  | [] => rfl
  | c :: r => by
    have ih := bad_all r
    unfold bad at ih ⊢
    rw [List.all_cons, ih]
    cases h : low c <;> simp [h]
theorem bad_len (l : List Nat) : (bad l).length ≤ l.length := by
  unfold bad
  rw [List.length_map]
  exact List.length_filter_le _ _
theorem dpStrs {K : PySem.W.Frag} {H : Hp} : ∀ l : List Str, DpAll K H (l.map V.str) (l.map PyData.str)
  | [] => .nil
  | _ :: r => .cons (.str _) (dpStrs r)
theorem ok_sign {z : Str} (h : PyData.strOk z = true) {c : Nat} (hc : c ∈ z.cps.toList) : PyData.strOk ⟨#[c]⟩ = true := by
  have k := Array.all_eq_true'.mp h c (by simpa using hc)
  show (#[c] : Array Nat).all _ = true
  simpa using k
theorem ok_bad {z : Str} (h : PyData.strOk z = true) : ∀ y ∈ ((z.cps.toList.filter fun c => !low c).map fun c => (⟨#[c]⟩ : Str)), PyData.strOk y = true := by
  intro y hy
  obtain ⟨c, hc, rfl⟩ := List.mem_map.mp hy
  exact ok_sign h (List.mem_filter.mp hc).1
theorem bad_strs (l : List Nat) : bad l = ((l.filter fun c => !low c).map fun c => (⟨#[c]⟩ : Str)).map V.str := by
  unfold bad
  rw [List.map_map]
  rfl
theorem eqv_nilS (l : List Str) : PyData.eqv (.list (l.map PyData.str)) (.list []) = (l.map V.str).isEmpty := by
  cases l <;> rfl
/-! truths of the law -/
def BV (t : TE) (σ : L2.St) (H : Hp) (b : Bool) : Prop := ∀ Q : VK, (∀ H', Same' H H' → Q (.bl b) H') → t σ H Q
theorem BV.and {ta tb : TE} {σ : L2.St} {H : Hp} {a b : Bool} (ha : BV ta σ H a) (hb : a = true → ∀ H', Same' H H' → BV tb σ H' b) : BV (tAndV ta tb) σ H (a && b) := fun Q q => ha _ fun H1 s1 => by
  cases a with
  | true => exact ⟨true, rfl, iteT (hb rfl H1 s1 Q fun H2 s2 => q H2 (s1.trans s2))⟩
  | false => exact ⟨false, rfl, iteF (q H1 s1)⟩
theorem BV.or {ta tb : TE} {σ : L2.St} {H : Hp} {a b : Bool} (ha : BV ta σ H a) (hb : a = false → ∀ H', Same' H H' → BV tb σ H' b) : BV (tOrV ta tb) σ H (a || b) := fun Q q => ha _ fun H1 s1 => by
  cases a with
  | false => exact ⟨false, rfl, iteF (hb rfl H1 s1 Q fun H2 s2 => q H2 (s1.trans s2))⟩
  | true => exact ⟨true, rfl, iteT (q H1 s1)⟩

def spIsN : Sp := fun vs H Q _ => ∃ z : Str, vs = [.str z] ∧ z.length ≤ 1000 ∧ PyData.strOk z = true ∧ ∀ H', Same' H H' → Q (.bl (nm z)) H'
abbrev keptA : List Str := ["put", "copy", "if", "else", "say", "fail", "catch", "choose", "or", "none", "stop", "skip"]
abbrev keptB : List Str := ["cell", "log", "failure", "choice"]
theorem kept_two : keptA.map V.str ++ keptB.map V.str = kept.map V.str := by decide +kernel
section
variable {P : Program} {w : World} {K : PySem.W.Frag} {mg : Str → Option Value} {base : Heap}
abbrev nIsN : List Str := ["_law_word", "_law_barred", "_law_sign"]
theorem scIsN : FnScope nIsN ["_law_word"] (defScope sIsName) := ⟨rfl, rfl, rfl, by decide +kernel, rfl, by decide +kernel, by decide +kernel⟩
theorem ok_isN {f : Addr} {fd : FuncData} (F : Fun K "_law_is_name" "_law_is_name" sIsName f fd) (T : Txt mg) : FnOk P w K mg base CX0 1 f fd ["_law_word"] spIsN := by
  refine F.ok scIsN (fun vs H Q E h => ?_) (fun cdv A outer s H vs Q E hr h => ?_)
  · obtain ⟨x, rfl, _⟩ := h
    rfl
  · obtain ⟨z, rfl, zl, zok, q⟩ := h
    have zs : z.length < sizeLine := small1000 zl
    refine ⟨_, pss_cons (ps_set (i := 1) scIsN.nd rfl (.inl rfl) (pe_lst (pa_cons pe_str (pa_cons pe_str (pa_cons pe_str (pa_cons pe_str (pa_cons pe_str (pa_cons pe_str (pa_cons pe_str (pa_cons pe_str (pa_cons pe_str (pa_cons pe_str (pa_cons pe_str (pa_cons pe_str pa_nil))))))))))))))
      (pss_cons (ps_if (PW.pt (pw_or (pt_cmpR op_in_seq (pv 0) (pe_op op_cat (pv 1) (pe_lst (pa_cons pe_str (pa_cons pe_str (pa_cons pe_str (pa_cons pe_str pa_nil)))))) (by rfl))
          (pw_or1 (pt_not (pt_chain op_le op_le pe_int (pe_callB call_len_str (by rfl) T.len PySem.boot_len (pa_cons (pv 0) pa_nil)) pe_int))))) (pss_one (ps_ret pe_bl)) pss_nil)
      (pss_one (ps_ret (pe_cmpR (op_eqD hr.units) (pe_lc (own := [("_law_sign", 2)]) (g := gName 2) rfl scIsN.nd (pi_str (pv 0)) (blkOk_by (N := nIsN) (sc := defScope sIsName) (by decide +kernel)) (fun _ _ _ _ _ => pg_name (i := 2) scIsN.nd rfl (Or.inl rfl))
          (fun _ _ _ _ _ => pts_one (pt_cmpR op_notIn_sign (pv 2) pe_str (by rfl))) (fun _ _ _ _ _ => pv 2)) (pe_lst pa_nil) (nomark _))))), ?_⟩
    refine ⟨by show 12 ≤ sizeLine; decide, fun l1 h1 => ?_⟩
    refine ⟨_, rfl, .ref l1, rfl, by show 4 ≤ sizeLine; decide, fun l2 h2 => ?_⟩
    have s1 := same_new (o := .lst (keptA.map V.str)) h1
    have s2 := same_new (o := .lst (keptB.map V.str)) h2
    refine ⟨l1, l2, keptA.map V.str, keptB.map V.str, rfl, rfl, s2 _ _ upd_same, upd_same, by show 16 ≤ sizeLine; decide, fun l3 h3 => ?_⟩
    have s3 := same_new (o := .lst (keptA.map V.str ++ keptB.map V.str)) h3
    have st := (s1.trans s2).trans s3
    refine ⟨l3, keptA.map V.str ++ keptB.map V.str, rfl, .inl (SqL.of upd_same), rfl, by decide +kernel, _, rfl, ?_⟩
    have nmE : nm z = (wd z && !inV (.str z) (keptA.map V.str ++ keptB.map V.str)) := by
      rw [kept_two]
      rfl
    refine ite2 (fun e => ?_) (fun e => ?_)
    · have e0 : nm z = false := by
        rw [nmE]
        rw [show inV (.str z) (keptA.map V.str ++ keptB.map V.str) = true from e]
        simp
      exact e0 ▸ q _ st
    · have nin : inV (.str z) (keptA.map V.str ++ keptB.map V.str) = false := Bool.eq_false_iff.mpr e
      rw [nin, Bool.not_false, Bool.and_true] at nmE
      rw [nmE] at q
      refine ⟨.str z, rfl, z, rfl, Nat.le_of_lt zs, 1, _, rfl, rfl, _, rfl, ite2 (fun e1 => ?_) (fun e1 => ?_)⟩
      · refine ⟨_, 8, rfl, rfl, _, rfl, ite2 (fun e2 => ?_) (fun e2 => ?_)⟩
        · have ez : wd z = false := by
            rw [Bool.not_eq_true'] at e2
            have := of_decide_eq_false e2
            unfold wd
            rw [decide_eq_false (show ¬ z.length ≤ 8 by omega), Bool.and_false, Bool.false_and]
          exact ez ▸ q _ st
        · have e2' : decide (((z.length : Nat) : Int) ≤ 8) = true := by
            cases h : decide (((z.length : Nat) : Int) ≤ 8) with
            | true => rfl
            | false => exact absurd (by rw [h]; rfl) e2
          have l1 := of_decide_eq_true e1
          have l2 := of_decide_eq_true e2'
          refine ⟨.str z, rfl, z, rfl, fun D hD => ?_⟩
          refine lc_it walk_str (fun i H' => Same' _ H' ∧ H' D = some (.lst (bad (z.cps.toList.take i)))) ⟨same_new hD, upd_same⟩ (fun _ _ _ _ => trivial) (fun i x H1 H2 hi hp hy => ?_) (fun H' hp => ?_)
          · obtain ⟨sm, ed⟩ := hp
            obtain ⟨rfl, c, hc, rfl⟩ := hy
            have hc' := sign_at hc
            have et : z.cps.toList.take (i + 1) = z.cps.toList.take i ++ [c] := by
              rw [List.take_add_one, hc']
              rfl
            have small : (bad (z.cps.toList.take i)).length < sizeLine := by
              have := bad_len (z.cps.toList.take i)
              have h2 := List.length_take_le' i z.cps.toList
              have h3 : z.cps.toList.length = z.length := Array.length_toList
              omega
            refine ⟨rfl, _, rfl, c, abc, rfl, rfl, _, rfl, ?_⟩
            rw [low_abc]
            cases hl : low c with
            | false =>
              refine iteT ⟨_, rfl, _, ed, small, same_over hD sm, ?_⟩
              rw [upd_same, et, bad_add, hl]
              rfl
            | true =>
              refine iteF ⟨sm, ?_⟩
              rw [ed, et, bad_add, hl]
              rfl
          · obtain ⟨sm, ed⟩ := hp
            rw [List.take_of_length_le (by rw [Array.length_toList]; exact Nat.le_refl _), bad_strs] at ed
            refine ⟨Nat.zero_le _, fun l hl => ?_⟩
            have nDl : D ≠ l := ne_of_none ed hl
            refine ⟨_, _, .lst (SqL.of (by rw [upd_ne nDl]; exact ed)) (dpStrs _), .lst (SqL.of upd_same) .nil, shapedL_strs _ (ok_bad zok), rfl, ?_⟩
            rw [eqv_nilS, ← bad_strs, ← bad_all]
            have ez : z.cps.toList.all low = wd z := by
              unfold wd
              rw [decide_eq_true (show 1 ≤ z.length by omega), decide_eq_true (show z.length ≤ 8 by omega)]
              rfl
            rw [ez]
            exact q _ ((st.trans sm).trans (same_new hl))
      · refine ⟨false, rfl, iteT ?_⟩
        have ez : wd z = false := by
          have := of_decide_eq_false (Bool.eq_false_iff.mpr e1)
          unfold wd
          rw [decide_eq_false (show ¬ 1 ≤ z.length by omega), Bool.false_and, Bool.false_and]
        exact ez ▸ q _ st
end
end My
/-! the law's own reading of a line -/
namespace My
open PySem PySem.Spec PyProof.Rows L2
theorem readF_bad {ws : List Str} (h : ∀ z, ws[0]? = some z → z ∉ (["cell", "log", "failure", "choice"] : List Str)) : readF ws = .error 0 := by
  unfold readF
  rw [nextF_bad h]
theorem readF_noName {ws : List Str} {z : Str} (e : ws[0]? = some z) (m : z = "cell" ∨ z = "log" ∨ z = "failure") (h : nameR ws 1 = none) : readF ws = .error 1 := by
  unfold readF
  rw [nextF_noName e m h]
theorem readF_noFig {ws : List Str} {n : Str} (e : ws[0]? = some ("cell" : Str)) (h : nameR ws 1 = some n) (h2 : figR ws 2 = none) : readF ws = .error 2 := by
  unfold readF
  rw [nextF_noFig e h h2]
theorem readF_cell {ws : List Str} {v : Nat} {n : Str} (e : ws[0]? = some ("cell" : Str)) (h : nameR ws 1 = some n) (h2 : figR ws 2 = some v) : readF ws = if 3 = ws.length then .ok (.cell n v) else .error 3 := by
  unfold readF
  rw [nextF_cell e h h2]
theorem readF_log {ws : List Str} {n : Str} (e : ws[0]? = some ("log" : Str)) (h : nameR ws 1 = some n) : readF ws = if 2 = ws.length then .ok (.log n) else .error 2 := by
  unfold readF
  rw [nextF_log e h]
theorem readF_fail {ws : List Str} {n : Str} (e : ws[0]? = some ("failure" : Str)) (h : nameR ws 1 = some n) : readF ws = if 2 = ws.length then .ok (.fail n) else .error 2 := by
  unfold readF
  rw [nextF_fail e h]
theorem readF_cho {ws : List Str} (e : ws[0]? = some ("choice" : Str)) : readF ws = if 1 = ws.length then .ok .cho else .error 1 := by
  unfold readF
  rw [nextF_cho e]
def dueV (r : Except Nat HD) : V := match r with
  | .ok _ => .non
  | .error j => .int (j : Int)
/-- a line of the law -/
structure LineL (z : Str) (ws : List Str) : Prop where
  sp : Txt.split z spc = ws
  zl : z.length ≤ 100000
  ne : ws ≠ []
  wl : ws.length ≤ 900
  yl : ∀ y ∈ ws, y.length ≤ 1000
  ok : ∀ y ∈ ws, PyData.strOk y = true
def spDue : Sp := fun vs H Q _ => ∃ (z : Str) (ws : List Str), vs = [.str z] ∧ LineL z ws ∧ ∀ H', Same' H H' → Q (dueV (readF ws)) H'
theorem at_str {ws : List Str} {k : Nat} {z : Str} (h : ws[k]? = some z) : atI (ws.map V.str) (k : Int) = some (.str z) := atI_nat (by rw [List.getElem?_map, h]; rfl)
theorem lenT {ws : List Str} {n : Nat} (h : decide (V.int ((ws.map V.str).length : Nat) = V.int (n : Int)) = true) : ws.length = n := by
  have := of_decide_eq_true h
  injection this with this
  rw [List.length_map] at this
  omega
theorem lenF {ws : List Str} {n : Nat} (h : ¬ decide (V.int ((ws.map V.str).length : Nat) = V.int (n : Int)) = true) : ws.length ≠ n := fun e => h (by
  rw [decide_eq_true_eq, List.length_map, e])
theorem nameR_one {ws : List Str} {k : Nat} {z : Str} (h : ws[k]? = some z) : nameR ws k = if nm z = true then some z else none := by
  unfold nameR
  rw [h]
theorem figs_is : fig 2 = "2" ∧ fig 3 = "3" ∧ fig 4 = "4" := by decide +kernel
theorem figR_in {ws : List Str} {k : Nat} {z : Str} (h : ws[k]? = some z) : (if true = true then !inV (.str z) [.str "2", .str "3", .str "4"] else inV (.str z) [.str "2", .str "3", .str "4"]) = !(figR ws k).isSome := by
  obtain ⟨f2, f3, f4⟩ := figs_is
  unfold figR
  rw [h, if_pos rfl, f2, f3, f4]
  dsimp only
  by_cases c1 : z = "2"
  · rw [c1]
    decide +kernel
  · by_cases c2 : z = "3"
    · rw [c2]
      decide +kernel
    · by_cases c3 : z = "4"
      · rw [c3]
        decide +kernel
      · rw [if_neg c1, if_neg c2, if_neg c3]
        simp [inV, eqV, Ne.symm c1, Ne.symm c2, Ne.symm c3]
section
variable {P : Program} {w : World} {K : PySem.W.Frag} {mg : Str → Option Value} {base : Heap}
abbrev nDue : List Str := ["_law_line", "_law_words", "_law_most"]
theorem scDue : FnScope nDue ["_law_line"] (defScope sDue) := ⟨rfl, rfl, rfl, by decide +kernel, rfl, by decide +kernel, by decide +kernel⟩
theorem ok_due {f fN : Addr} {fd dN : FuncData} (F : Fun K "_law_due" "_law_due" sDue f fd) (T : Txt mg) (FN : Fun K "_law_is_name" "_law_is_name" sIsName fN dN) (bN : Binds K dN ["_law_word"] []) (gN : mg "_law_is_name" = some (.ref fN)) (GN : FnOk P w K mg base CX0 1 fN dN ["_law_word"] spIsN) : FnOk P w K mg base CX0 2 f fd ["_law_line"] spDue := by
  refine F.ok scDue (fun vs H Q E h => ?_) (fun cdv A outer s H vs Q E hr h => ?_)
  · obtain ⟨z, ws, rfl, _⟩ := h
    rfl
  · obtain ⟨z, ws, rfl, L, q⟩ := h
    refine ⟨_, pss_cons (ps_set (i := 1) scDue.nd rfl (.inl rfl) (pe_split (pv 0) pe_str))
      (pss_cons (ps_if (pt_cmpR op_eq (pe_ix ix_list (pv 1) pe_int (fun _ _ => rfl)) pe_str (nomark _)) (pss_one (ps_ret (pe_ifExp (pt_cmpR op_eq (pe_callB call_len_seq (by rfl) T.len PySem.boot_len (pa_cons (pv 1) pa_nil)) pe_int (nomark _)) pe_non pe_int))) pss_nil)
      (pss_cons (ps_if (pt_cmpR op_notIn_seq (pe_ix ix_list (pv 1) pe_int (fun _ _ => rfl)) (pe_tup (pa_cons pe_str (pa_cons pe_str (pa_cons pe_str pa_nil)))) (by rfl)) (pss_one (ps_ret pe_int)) pss_nil)
      (pss_cons (ps_if (PW.pt (pw_or (pt_cmpR op_eq (pe_callB call_len_seq (by rfl) T.len PySem.boot_len (pa_cons (pv 1) pa_nil)) pe_int (nomark _)) (pw_or1 (pt_not (pt_val (pe_call GN hr (by rfl) gN FN.kp bN .nil pass0 (pa_cons (pe_ix ix_list (pv 1) pe_int (fun _ _ => rfl)) pa_nil))))))) (pss_one (ps_ret pe_int)) pss_nil)
      (pss_cons (ps_if (PW.pt (pw_and (pt_cmpR op_eq (pe_ix ix_list (pv 1) pe_int (fun _ _ => rfl)) pe_str (nomark _)) (pw_and1 (PW.pt (pw_or (pt_cmpR op_eq (pe_callB call_len_seq (by rfl) T.len PySem.boot_len (pa_cons (pv 1) pa_nil)) pe_int (nomark _)) (pw_or1 (pt_cmpR op_notIn_seq (pe_ix ix_list (pv 1) pe_int (fun _ _ => rfl)) (pe_tup (pa_cons pe_str (pa_cons pe_str (pa_cons pe_str pa_nil)))) (by rfl)))))))) (pss_one (ps_ret pe_int)) pss_nil)
      (pss_cons (ps_set (i := 2) scDue.nd rfl (.inl rfl) (pe_ifExp (pt_cmpR op_eq (pe_ix ix_list (pv 1) pe_int (fun _ _ => rfl)) pe_str (nomark _)) pe_int pe_int))
      (pss_one (ps_ret (pe_ifExp (pt_cmpR op_eq (pe_callB call_len_seq (by rfl) T.len PySem.boot_len (pa_cons (pv 1) pa_nil)) (pv 2) (nomark _)) pe_non (pv 2))))))))), ?_⟩
    have zl := L.zl
    refine ⟨.str z, rfl, ⟨z, rfl⟩, z, spc, rfl, rfl, by decide +kernel, by rw [sizeLine_eq]; omega, fun wl hwl => ?_⟩
    rw [L.sp]
    have s1 := same_new (o := .lst (ws.map V.str)) hwl
    obtain ⟨H1, e1⟩ : ∃ H1 : Hp, upd H wl (.lst (ws.map V.str)) = H1 := ⟨_, rfl⟩
    have w1 : H1 wl = some (.lst (ws.map V.str)) := by rw [← e1, upd_same]
    rw [e1] at s1 ⊢
    clear e1 hwl
    obtain ⟨z0, r0, rfl⟩ : ∃ z0 r0, ws = z0 :: r0 := by
      cases ws with
      | nil => exact absurd rfl L.ne
      | cons a r => exact ⟨a, r, rfl⟩
    have a0 := at_str (ws := z0 :: r0) (k := 0) rfl
    refine ⟨.ref wl, rfl, wl, _, 0, .str z0, rfl, rfl, SqL.of w1, a0, rfl, _, rfl, ite2 (fun e => ?_) (fun e => ?_)⟩
    · obtain rfl : z0 = "choice" := by simpa using e
      rw [readF_cho rfl] at q
      refine ⟨.ref wl, rfl, wl, _, rfl, .inl (SqL.of w1), rfl, _, rfl, ite2 (fun e2 => ?_) (fun e2 => ?_)⟩
      · rw [if_pos (lenT (n := 1) e2).symm] at q
        exact q _ s1
      · rw [if_neg (fun x => lenF (n := 1) e2 x.symm)] at q
        exact q _ s1
    · have nc : z0 ≠ "choice" := by simpa using e
      refine ⟨.ref wl, rfl, wl, _, 0, .str z0, rfl, rfl, SqL.of w1, a0, by show 3 ≤ sizeLine; decide, fun p1 h1 => ⟨p1, [.str "cell", .str "log", .str "failure"], rfl, .inr (SqT.of upd_same), rfl, by decide +kernel, _, rfl, ?_⟩⟩
      have s2 := s1.trans (same_new (o := .tup [.str "cell", .str "log", .str "failure"]) h1)
      have w2 := same_new (o := .tup [.str "cell", .str "log", .str "failure"]) h1 _ _ w1
      refine ite2 (fun e2 => ?_) (fun e2 => ?_)
      · have bad0 : ∀ y, (z0 :: r0)[0]? = some y → y ∉ (["cell", "log", "failure", "choice"] : List Str) := by
          intro y hy m
          injection hy with hy
          subst hy
          simp only [List.mem_cons, List.not_mem_nil, or_false] at m
          rcases m with rfl | rfl | rfl | rfl
          · exact absurd e2 (by decide +kernel)
          · exact absurd e2 (by decide +kernel)
          · exact absurd e2 (by decide +kernel)
          · exact nc rfl
        rw [readF_bad bad0] at q
        exact q _ s2
      · have three : z0 = "cell" ∨ z0 = "log" ∨ z0 = "failure" := by
          by_cases c1 : z0 = "cell"
          · exact .inl c1
          · by_cases c2 : z0 = "log"
            · exact .inr (.inl c2)
            · by_cases c3 : z0 = "failure"
              · exact .inr (.inr c3)
              · refine absurd ?_ e2
                simp [inV, eqV, Ne.symm c1, Ne.symm c2, Ne.symm c3]
        refine ⟨.ref wl, rfl, wl, _, rfl, .inl (SqL.of w2), rfl, _, rfl, ite2 (fun e3 => ?_) (fun e3 => ?_)⟩
        · have l1 := lenT (n := 1) e3
          have hn : nameR (z0 :: r0) 1 = none := by
            unfold nameR
            rw [List.getElem?_eq_none (by omega)]
          rw [readF_noName rfl three hn] at q
          exact q _ s2
        · have l1 := lenF (n := 1) e3
          obtain ⟨z1, r1, rfl⟩ : ∃ z1 r1, r0 = z1 :: r1 := by
            cases r0 with
            | nil => exact absurd rfl l1
            | cons a r => exact ⟨a, r, rfl⟩
          have a1 := at_str (ws := z0 :: z1 :: r1) (k := 1) rfl
          refine ⟨.ref wl, rfl, wl, _, 1, .str z1, rfl, rfl, SqL.of w2, a1, z1, rfl, L.yl z1 (by simp), L.ok z1 (by simp), fun H3 s3 => ⟨nm z1, rfl, ?_⟩⟩
          have w3 := s3 _ _ w2
          have s4 := s2.trans s3
          have nr := nameR_one (ws := z0 :: z1 :: r1) (k := 1) rfl
          cases hz1 : nm z1 with
          | false =>
            rw [hz1, if_neg (by decide)] at nr
            rw [readF_noName rfl three nr] at q
            exact iteT (q _ s4)
          | true =>
            rw [hz1, if_pos rfl] at nr
            refine iteF ?_
            -- if words[0] == 'cell' and ..
            refine ⟨.ref wl, rfl, wl, _, 0, .str z0, rfl, rfl, SqL.of w3, at_str (k := 0) rfl, rfl, _, rfl, ite2 (fun e4 => ?_) (fun e4 => ?_)⟩
            · obtain rfl : z0 = "cell" := by simpa using e4
              refine ⟨.ref wl, rfl, wl, _, rfl, .inl (SqL.of w3), rfl, _, rfl, ite2 (fun e5 => ?_) (fun e5 => ?_)⟩
              · have l2 := lenT (n := 2) e5
                have hf : figR ("cell" :: z1 :: r1) 2 = none := by
                  unfold figR
                  rw [List.getElem?_eq_none (by omega)]
                rw [readF_noFig rfl nr hf] at q
                exact q _ s4
              · have l2 := lenF (n := 2) e5
                obtain ⟨z2, r2, rfl⟩ : ∃ z2 r2, r1 = z2 :: r2 := by
                  cases r1 with
                  | nil => exact absurd rfl l2
                  | cons a r => exact ⟨a, r, rfl⟩
                refine ⟨.ref wl, rfl, wl, _, 2, .str z2, rfl, rfl, SqL.of w3, at_str (k := 2) rfl, by show 3 ≤ sizeLine; decide, fun p2 h2 => ⟨p2, [.str "2", .str "3", .str "4"], rfl, .inr (SqT.of upd_same), rfl, by decide +kernel, _, rfl, ?_⟩⟩
                have w5 := same_new (o := .tup [.str "2", .str "3", .str "4"]) h2 _ _ w3
                have s5 := s4.trans (same_new (o := .tup [.str "2", .str "3", .str "4"]) h2)
                rw [figR_in (ws := "cell" :: z1 :: z2 :: r2) (k := 2) rfl]
                cases hf : figR ("cell" :: z1 :: z2 :: r2) 2 with
                | none =>
                  rw [readF_noFig rfl nr hf] at q
                  exact iteT (q _ s5)
                | some v =>
                  rw [readF_cell rfl nr hf] at q
                  refine iteF ⟨.ref wl, rfl, wl, _, 0, .str "cell", rfl, rfl, SqL.of w5, at_str (k := 0) rfl, rfl, true, rfl, iteT ?_⟩
                  refine ⟨.ref wl, rfl, wl, _, rfl, .inl (SqL.of w5), .int 3, rfl, rfl, _, rfl, ite2 (fun e6 => ?_) (fun e6 => ?_)⟩
                  · rw [if_pos (lenT (n := 3) e6).symm] at q
                    exact q _ s5
                  · rw [if_neg (fun x => lenF (n := 3) e6 x.symm)] at q
                    exact ⟨.int 3, rfl, q _ s5⟩
            · have nq : z0 ≠ "cell" := by simpa using e4
              refine ⟨.ref wl, rfl, wl, _, 0, .str z0, rfl, rfl, SqL.of w3, at_str (k := 0) rfl, rfl, _, rfl, ?_⟩
              refine ite2 (fun e5 => absurd e5 e4) (fun _ => ?_)
              rcases three with rfl | rfl | rfl
              · exact absurd rfl nq
              · rw [readF_log rfl nr] at q
                refine ⟨.ref wl, rfl, wl, _, rfl, .inl (SqL.of w3), .int 2, rfl, rfl, _, rfl, ite2 (fun e6 => ?_) (fun e6 => ?_)⟩
                · rw [if_pos (lenT (n := 2) e6).symm] at q
                  exact q _ s4
                · rw [if_neg (fun x => lenF (n := 2) e6 x.symm)] at q
                  exact ⟨.int 2, rfl, q _ s4⟩
              · rw [readF_fail rfl nr] at q
                refine ⟨.ref wl, rfl, wl, _, rfl, .inl (SqL.of w3), .int 2, rfl, rfl, _, rfl, ite2 (fun e6 => ?_) (fun e6 => ?_)⟩
                · rw [if_pos (lenT (n := 2) e6).symm] at q
                  exact q _ s4
                · rw [if_neg (fun x => lenF (n := 2) e6 x.symm)] at q
                  exact ⟨.int 2, rfl, q _ s4⟩
end
end My
namespace My
open PySem PySem.Spec PyProof.Rows L2
/-- BadText as it is caught here -/
structure EK (K : PySem.W.Frag) (CL C : Addr) : Prop where
  ec : ExcC K C
  xf : XfC K C
  no1 : PySem.W.findIn K (.ref C) "line" = some none
  no2 : PySem.W.findIn K (.ref C) "word" = some none
  ex : PySem.W.exmOne K (.ref C) (.ref CL) = some true
  kT : PySem.W.kitOne K (.ref C) (.ref C) = some true
  kV : PySem.W.kitOne K (.ref C) (.type "ValueError") = some true
/-- what the lambda's body may end in -/
def EH (K : PySem.W.Frag) (CT CL : Addr) (Q : VK) : XK := fun cls d H' => ∃ (dd : Addr) (k : Int), cls = .ref CT ∧ d = some dd ∧ EK K CL CT ∧ H' dd = some (.xd [("word", .int k), ("line", .int 0)]) ∧
  ∀ t u H2, Same' H' H2 → H2 u = some (.tup [.int 0, .int k]) → H2 t = some (.tup [.str "text", .ref u]) → Q (.ref t) H2
def TH (K : PySem.W.Frag) (CT CL : Addr) : (XK → Hp → VK → Prop) → Hp → VK → Prop := fun tl H Q => ∀ H1, Same' H H1 → ∀ Q' : VK, (∀ v H2, (∀ l H3, Same' H2 H3 → H3 l = some (.lst [v]) → Q (.ref l) H3) → Q' v H2) → tl (EH K CT CL Q) H1 Q'
theorem takes_len {X : Cx} {W : WX} {n : Nat} (h : X.N.length = n) (tk : Takes X W) : Takes X (fun cls d σ H => σ.length = n → W cls d σ H) := fun u s' ⟨a, B, sI, pins, σ, H, cls, d, e, I, nb, up, sky, na, os, ag, w⟩ =>
  tk u s' ⟨a, B, sI, pins, σ, H, cls, d, e, I, nb, up, sky, na, os, ag, w (I.len.trans h)⟩
abbrev nHeard : List Str := ["_law_ask", "_law_caught", "_law_answer", "error", "_law_some"]
theorem scHeard : FnScope nHeard ["_law_ask"] (defScope sHeard) := ⟨rfl, rfl, rfl, by decide +kernel, rfl, by decide +kernel, by decide +kernel⟩
theorem len5 {σ : L2.St} (h : σ.length = 5) : ∃ a b c d e, σ = [a, b, c, d, e] := by
  match σ, h with
  | [a, b, c, d, e], _ => exact ⟨a, b, c, d, e, rfl⟩
abbrev YH (X : Cx) (g : Addr) (cdg : Value) (s : Shared) (H : Hp) : Cx := cxOf C8.CX0 X.prog X.w X.K X.mg X.base nHeard "_law_heard" (defScope sHeard) g cdg X.A X.stack s H C8.E0
theorem heard_gives {X : Cx} {g CT CL : Addr} {cdg : Value} {q : Str} (hr : Room 2 X.A) (hg : X.A.guards = some []) (T : Txt X.mg) (gT : X.mg "BadText" = some (.ref CT)) (gL : X.mg "LayerError" = some (.ref CL)) :
    LamX.GivesTo X nHeard "_law_heard" (defScope sHeard) g cdg (defBody sHeard) "_law_ask" q (TH X.K CT CL) := by
  intro f c' s H Q tl act hc h
  have hu : (YH X g cdg s H).nox.A.units + 64 < cLine := by
    have := (hr.deeper (YH X g cdg s H).env).units
    exact this
  have hg' : (YH X g cdg s H).nox.A.guards = some [] := hg
  refine ⟨_, pss_cons (ps_asg (pe_tup (pa_cons pe_non (pa_cons pe_non pa_nil))) (pg_tup (n := 2) rfl (pgs_cons (pg_name (i := 1) scHeard.nd rfl (.inl rfl)) (pgs_cons (pg_name (i := 2) scHeard.nd rfl (.inl rfl)) pgs_nil))))
    (pss_cons (ps_try_keep (X := (YH X g cdg s H).nox) (c := .ref CL) (i := 3) (n := "error")
        (tb := fun W D σ H => ∃ Ech : XK, (∀ cls d σ' H', Ech cls d H' → σ'.length = 5 → W cls d σ' H') ∧ σ[0]? = some (some (.ref f)) ∧ H c' = some (LamX.CodeO c' q) ∧ tl Ech H (fun v H1 => D.nx (σ.set 2 (some v)) H1))
        rfl rfl rfl scHeard.nd rfl rfl ⟨rfl, by decide, .inl gL⟩ (fun W pn xe tk _ => ?body) (fun a oe cls d pn _ _ => pss_one (ps_set (i := 1) scHeard.nd rfl (.inl rfl) (pv 3))))
    (pss_cons (ps_if (pt_cmpR op_isN (pv 1) pe_non (nomark _)) (pss_one (ps_ret (pe_lst (pa_cons (pv 2) pa_nil)))) pss_nil)
    (pss_cons (ps_set (i := 4) scHeard.nd rfl (.inl rfl) (pe_lst pa_nil))
    (pss_cons (ps_if (pt_val (pe_callB call_heldIs (by rfl) T.isi (by decide +kernel) (pa_cons (pv 1) (pa_cons (pe_glob (v := .ref CT) rfl gT rfl) pa_nil))))
      (pss_one (ps_expr (pe_bm PySem.F.plainAttrs_list PySem.F.slot_list_append PySem.F.type_list_append mt_append (pv 4) (pa_cons (pe_tup (pa_cons pe_str (pa_cons (pe_tup (pa_cons (pe_heldF (pv 1)) (pa_cons (pe_heldF (pv 1)) pa_nil))) pa_nil))) pa_nil)))) pss_nil)
    (pss_one (ps_ret (pe_ifExp (PW.pt (pw_and (pt_cmpR op_eq (pe_callB call_len_seq (by rfl) T.len PySem.boot_len (pa_cons (pv 4) pa_nil)) pe_int (nomark _))
        (pw_and1 (pt_val (pe_callB call_heldIs (by rfl) T.isi (by decide +kernel) (pa_cons (pv 1) (pa_cons (pe_bltn (by rfl) T.ve (by decide +kernel) (show RelV (.ty "ValueError") _ from rfl)) pa_nil)))))))
      (pe_ix ix_list (pv 4) pe_int (fun _ _ => rfl)) pe_never))))))), ?_⟩
  case body =>
    refine ⟨fun pins s' σ H' D I h' => ?_⟩
    obtain ⟨Ech, hW, h1, h2, h3⟩ := h'
    have hp := fun p1 p2 => act (fun cls d σ H => σ.length = 5 → W cls d σ H) pn xe Ech p1 p2 (takes_len rfl tk) (fun cls d σ' H' e l => hW cls d σ' H' e l)
    exact (pss_one (ps_set (i := 2) scHeard.nd rfl (.inl rfl) (hp _ _))).run pins s' σ H' D I ⟨h1, h2, h3⟩
  refine ⟨by show 2 ≤ sizeLine; decide, fun p hp => ?_⟩
  refine ⟨p, _, rfl, SqT.of upd_same, rfl, _, _, rfl, _, _, rfl, rfl, ?_⟩
  have sm0 := same_new (o := .tup [.non, .non]) hp
  refine ⟨EH X.K CT CL Q, fun cls d σ' H' e l5 => ?_, rfl, sm0 _ _ hc, h _ sm0 _ (fun v H2 hv => ?_)⟩
  rotate_left
  · -- it answers
    refine ⟨.non, rfl, rfl, _, rfl, iteT ⟨v, rfl, by show 1 ≤ sizeLine; decide, fun l hl => ?_⟩⟩
    exact hv l _ (same_new hl) upd_same
  obtain ⟨z0, z1, z2, z3, z4, rfl⟩ := len5 l5
  obtain ⟨dd, k, rfl, rfl, ek, hd, fin⟩ := e
  refine ⟨ek.ex, fun a ha => ⟨.ref a, rfl, ?_⟩⟩
  have sm1 := same_new (o := KeptO (.ref CT) (some dd) a) ha
  refine ⟨.ref a, rfl, rfl, _, rfl, ite2 (fun e => (by simp at e)) (fun _ => ?_)⟩
  refine ⟨Nat.zero_le _, fun l hl => ?_⟩
  have sm2 := sm1.trans (same_new (o := .lst []) hl)
  have ea0 := same_new (o := .lst []) hl _ _ (upd_same (H := H') (a := a) (o := KeptO (.ref CT) (some dd) a))
  have ed0 := sm2 _ _ hd
  have hl0 : (upd (upd H' a (KeptO (.ref CT) (some dd) a)) l (.lst [])) l = some (.lst []) := upd_same
  obtain ⟨H3, e3⟩ : ∃ H3 : Hp, upd (upd H' a (KeptO (.ref CT) (some dd) a)) l (.lst []) = H3 := ⟨_, rfl⟩
  rw [e3] at ea0 ed0 sm2 hl0 ⊢
  have nla : a ≠ l := fun z => by
    rw [z, hl0] at ea0
    injection ea0 with ea0
    unfold KeptO at ea0
    cases ea0
  have nld : dd ≠ l := fun z => by
    rw [z, hl0] at ed0
    cases ed0
  have dh : ∀ {H4 : Hp}, H4 dd = some (.xd [("word", .int k), ("line", .int 0)]) → ∀ d', some dd = some d' → ∃ fs, H4 d' = some (.xd fs) := fun e d' q => by
    injection q with q
    subst q
    exact ⟨_, e⟩
  refine ⟨.ref a, rfl, a, CT, some dd, .ref CT, .ref CT, true, rfl, .own _, ea0, dh ed0, ek.ec, ek.kT, true, rfl, iteT ?_⟩
  refine ⟨.ref l, rfl, .inl ⟨rfl, _, SqL.of hl0⟩, ?_⟩
  refine ⟨.ref a, rfl, a, CT, dd, _, .int 0, rfl, ea0, ed0, ek.xf, ek.no1, rfl, .ref a, rfl, a, CT, dd, _, .int k, rfl, ea0, ed0, ek.xf, ek.no2, rfl, by show 2 ≤ sizeLine; decide, fun u hu => ?_⟩
  have su := same_new (o := .tup [V.int 0, .int k]) hu
  refine ⟨by show 2 ≤ sizeLine; decide, fun t ht => ?_⟩
  have st := su.trans (same_new (o := .tup [V.str "text", .ref u]) ht)
  refine ⟨l, [], .ref t, rfl, rfl, st _ _ hl0, by decide, ?_⟩
  have nlt : t ≠ l := (ne_of_none (su _ _ hl0) ht).symm
  have nlu : u ≠ l := (ne_of_none hl0 hu).symm
  obtain ⟨H5, e5⟩ : ∃ H5 : Hp, upd (upd (upd H3 u (.tup [V.int 0, .int k])) t (.tup [V.str "text", .ref u])) l (.lst ([] ++ [V.ref t])) = H5 := ⟨_, rfl⟩
  rw [e5]
  have fl : H5 l = some (.lst [.ref t]) := by
    rw [← e5, upd_same]
    rfl
  have keep5 : ∀ {b : Addr} {o : HO}, b ≠ l → H3 b = some o → H5 b = some o := fun {b o} n e => by
    rw [← e5, upd_ne n]
    exact st _ _ e
  have s5 : Same' H' H5 := fun c o e => by
    have h1 : c ≠ l := fun z => by
      rw [z] at e
      have := sm1 _ _ e
      rw [hl] at this
      cases this
    exact keep5 h1 (sm2 _ _ e)
  have fu : H5 u = some (.tup [.int 0, .int k]) := by
    rw [← e5, upd_ne nlu]
    exact same_new ht _ _ upd_same
  have ft : H5 t = some (.tup [.str "text", .ref u]) := by
    rw [← e5, upd_ne nlt, upd_same]
  refine ⟨.ref l, rfl, l, _, rfl, .inl (SqL.of fl), rfl, _, rfl, iteT ?_⟩
  refine ⟨.ref a, rfl, a, CT, some dd, .ty "ValueError", .type "ValueError", true, rfl, .ty _, keep5 nla ea0, dh (keep5 nld ed0), ek.ec, ek.kV, true, rfl, iteT ?_⟩
  exact ⟨.ref l, rfl, l, _, 0, .ref t, rfl, rfl, SqL.of fl, rfl, fin t u H5 s5 fu ft⟩
end My
namespace My
open PySem PySem.Spec PyProof.Rows L2
open LamX (ExtN Tabs TabS TabB lamSB lamS_by tLam lamCx)
/-- a def by its body, the guards and the code object known -/
theorem okGc {P : Program} {w : World} {K : PySem.W.Frag} {mg : Str → Option Value} {base : Heap} {CX : CXT} {x qual : Str} {st : Stmt} {f : Addr} {N ps : List Str} {k : Nat} {sp : Sp} {oc kV doc pm cdv ct : Value} {od an : Option Addr} {osl : Array (Option Value)}
    (lk : K.lookup f = some ⟨oc, od, .func (PySem.W.fnOf x qual (defArgs st) (defBody st) (defScope st) .none kV doc pm an cdv ct), osl⟩) (hcd : PySem.W.codeIn K cdv qual = true) (S : FnScope N ps (defScope st)) (len : ∀ vs H Q E, sp vs H Q E → vs.length = ps.length)
    (body : ∀ (A : Around) (outer : List Env) (s : Shared) (H : Hp) (vs : List V) (Q : VK) (E : XK), Room k (A.deeper (envOfC qual (defScope st) s.heap.objs.size f cdv)) → (A.deeper (envOfC qual (defScope st) s.heap.objs.size f cdv)).guards = some [] → sp vs H Q E →
      ∃ t, PSs (cxOf CX P w K mg base N qual (defScope st) f cdv A outer s H E) (defBody st) t ∧ t { nx := fun _ H' => Q .non H', rt := Q } (start N vs) H) : FnG P w K mg base CX (k + 1) f (PySem.W.fnOf x qual (defArgs st) (defBody st) (defScope st) .none kV doc pm an cdv ct) ps sp := by
  refine ⟨len, fun A outer s H args us vs Q E room guard e0 bind rel prom => ?_⟩
  have guard' : (A.deeper (envOfC qual (defScope st) s.heap.objs.size f cdv)).guards = some [] := by
    cases A
    exact guard
  exact LamX.run_ofS lk hcd S room e0 bind rel (len _ _ _ _ prom) fun hr' => body A outer s H vs Q E hr' guard' prom
def T1 (P : Addr) : List (Addr × Str) := [(P, (envOfC "_law_read" (defScope sReadL) 0 0 .none).qual ++ "<lambda>")]
theorem tabs_off {P p : Addr} {H H' : Hp} {xs : List V} (h : Tabs (T1 P) H) (hp : H p = some (.lst xs)) (o : Off p H H') : Tabs (T1 P) H' := fun q hq => by
  obtain ⟨ps, h1, h2, h3⟩ := h q hq
  refine ⟨ps, o _ _ (fun z => ?_) h1, h2, fun pos cv e => ?_⟩
  · rw [z, hp] at h1
    cases h1
  · obtain ⟨c, e1, e2⟩ := h3 pos cv e
    refine ⟨c, e1, o _ _ (fun z => ?_) e2⟩
    rw [z, hp] at e2
    unfold LamX.CodeO at e2
    cases e2
theorem PenAt.ext {H H' : Hp} {p c : Addr} {ns : List Int} {B : Int} (h : PenAt H p c ns B) (e : ExtN H H') : PenAt H' p c ns B := by
  obtain ⟨b, g, hp, h1, h2, h3⟩ := h.pen
  exact ⟨⟨b, g, e _ _ hp (fun _ z => by cases z), h1, h2, h3⟩, e _ _ h.cells (fun _ z => by cases z), h.few⟩
/-- all but the pen and the tables stay -/
def OffT (p : Addr) (H H' : Hp) : Prop := ∀ q o, q ≠ p → (∀ ps, o ≠ .tbl ps) → H q = some o → H' q = some o
theorem OffT.trans {p : Addr} {H1 H2 H3 : Hp} (h : OffT p H1 H2) (k : OffT p H2 H3) : OffT p H1 H3 := fun q o n t e => k q o n t (h q o n t e)
theorem OffT.off {p : Addr} {H H' : Hp} (h : Off p H H') : OffT p H H' := fun q o n _ e => h q o n e
theorem OffT.ext {p : Addr} {H H' : Hp} (h : ExtN H H') : OffT p H H' := fun q o _ t e => h q o e t
theorem OffT.same {p : Addr} {H H' : Hp} (h : Same' H H') : OffT p H H' := fun q o _ _ e => h q o e
theorem pe_ask {X : Cx} {P c g CT CL : Addr} {fdg : FuncData} (FH : Fun X.K "_law_heard" "_law_heard" sHeard g fdg) (gH : X.mg "_law_heard" = some (.ref g)) (hgl : Gl X "_law_heard") (T : Txt X.mg) (gT : X.mg "BadText" = some (.ref CT)) (gL : X.mg "LayerError" = some (.ref CL))
    (hr : Room 12 X.A) (hg : X.A.guards = some []) (TB : TabB X.base X.mg c P) (hcode : X.env.code = .ref c) {TT : List (Addr × Str)} (hT : TT = [(P, X.env.qual ++ "<lambda>")]) {params : Arguments} {body : Expr} {scope : Scope} {t : XK → TE} {p lpos pos : Pos}
    (L : lamSB X.env.scope scope = true) (hdef : defaultsOf params X.env = ([], [])) (hbind : ∀ (q : Str) (cl : List (Str × Addr)) (pm cv ctv : Value), bindArgs (PySem.W.kla_fn "<lambda>" q params body scope cl pm cv ctv) ⟨[], []⟩ = pure [])
    (hbody : ∀ (A : Around) (outer : List Env) (s : Shared) (H : Hp) (E : XK) (f c' : Addr), Room 10 (A.deeper (LamX.lamEnv X scope s.heap.objs.size f c')) → PE (lamCx X A outer s H E scope f c') body (t E)) :
    PE X (.Call (.Name "_law_heard" p) [.Lambda params body scope lpos] [] pos) (tLam TT (TH X.K CT CL) t) := by
  obtain ⟨oc, od, kV, doc, pm, an, cdv, ct, osl, rfl, lk, hcd⟩ := FH.ex
  subst hT
  exact LamX.pe_lamcall (a := "_law_ask") (Ng := nHeard) hgl gH FH.kp lk hcd (FH.binds (ps := ["_law_ask"]) fun _ _ _ _ _ _ us hl => match us, hl with | [_], _ => rfl) scHeard rfl (.inl rfl) (heard_gives (hr.mono (by decide)) hg T gT gL) TB hcode (List.mem_singleton.mpr rfl)
    (fun q hq _ => by rw [List.mem_singleton.mp hq]) hr (lamS_by L) hdef hbind hbody
section
variable {K : PySem.W.Frag} {CT CL : Addr} {A : A4} {T : List (Addr × Str)} {σ : L2.St} {H : Hp} {Q : VK} {x : V} {r : Except Nat HD} {B : Addr}
/-- what is told of what is read -/
structure Asks (K : PySem.W.Frag) (A : A4) (T : List (Addr × Str)) (H : Hp) (x : V) (r : Except Nat HD) (Q : VK) : Prop where
  tb : Tabs T H
  ra : ∀ H', ExtN H H' → ReadA K H' x r
  yes : ∀ kd, r = .ok kd → ∀ l a H', ExtN H H' → Tabs T H' → IsH A H' a kd → H' l = some (.lst [.ref a]) → Q (.ref l) H'
  no : ∀ j : Nat, r = .error j → ∀ t u H', ExtN H H' → Tabs T H' → H' u = some (.tup [.int 0, .int (j : Int)]) → H' t = some (.tup [.str "text", .ref u]) → Q (.ref t) H'
theorem asks_sp (ek : EK K CL CT) (h : Asks K A T H x r Q) {H1 H2 : Hp} (e1 : ExtN H H1) (tb1 : Tabs T H1) (sm2 : Same' H1 H2) {Q' : VK} (hQ : ∀ v H2, (∀ l H3, Same' H2 H3 → H3 l = some (.lst [v]) → Q (.ref l) H3) → Q' v H2) {c : V} :
    spRead K A CT [c, x] H2 Q' (EH K CT CL Q) := by
  refine ⟨c, x, r, rfl, h.ra H2 (e1.trans (ExtN.of sm2)), fun kd e p H3 s3 ih => hQ _ _ fun l H4 s4 hl => ?_, fun j e dd H3 s3 hd => ⟨dd, j, rfl, rfl, ek, hd, fun t u H4 s4 hu ht => ?_⟩⟩
  · exact h.yes kd e l p H4 (e1.trans (ExtN.of ((sm2.trans s3).trans s4))) (tb1.ext ((sm2.trans s3).trans s4)) (ih.keep s4) hl
  · exact h.no j e t u H4 (e1.trans (ExtN.of ((sm2.trans s3).trans s4))) (tb1.ext ((sm2.trans s3).trans s4)) hu ht
theorem rd_ask (ek : EK K CL CT) (h1 : σ[1]? = some (some x)) (h : Asks K A T H x r Q) : tLam T (TH K CT CL) (fun E => ClX.tCMeth B (spRead K A CT) E (tC (.ref B)) (tCons (tVar 1) tNil)) σ H Q :=
  ⟨h.tb, fun H1 e1 tb1 H2 sm2 Q' hQ => ⟨rfl, x, h1, asks_sp ek h e1 tb1 sm2 hQ⟩⟩
theorem rd_askK (ek : EK K CL CT) (h1 : σ[1]? = some (some x)) (h : Asks K A T H x r Q) : tLam T (TH K CT CL) (fun E => tCMethK B (spRead K A CT) kwS E (tC (.ref B)) (tCons (tVar 1) tNil)) σ H Q :=
  ⟨h.tb, fun H1 e1 tb1 H2 sm2 Q' hQ => ⟨rfl, x, h1, asks_sp ek h e1 tb1 sm2 hQ⟩⟩
end
abbrev nRL : List Str := ["_law_pen_here", "_law_line", "_law_way"]
theorem scRL : FnScope nRL ["_law_pen_here", "_law_line"] (defScope sReadL) := ⟨rfl, rfl, rfl, by decide +kernel, rfl, by decide +kernel, by decide +kernel⟩
def spReadL (K : PySem.W.Frag) (A : A4) (P0 : Addr) : Sp := fun vs H Q _ => ∃ (p cc : Addr) (ns : List Int) (B : Int) (x : V) (r : Except Nat HD), vs = [.ref p, x] ∧ PenAt H p cc ns B ∧ B + 2 ≤ 1000 ∧ Tabs (T1 P0) H ∧ (∀ H', OffT p H H' → ReadA K H' x r) ∧
  (∀ kd, r = .ok kd → ∀ l a H', PenAt H' p cc ns (B + 1) → OffT p H H' → Tabs (T1 P0) H' → IsH A H' a kd → H' l = some (.lst [.ref a]) → Q (.ref l) H') ∧
  (∀ j : Nat, r = .error j → ∀ t u H', PenAt H' p cc ns (B + 1) → OffT p H H' → Tabs (T1 P0) H' → H' u = some (.tup [.int 0, .int (j : Int)]) → H' t = some (.tup [.str "text", .ref u]) → Q (.ref t) H')
def inRL (i : Nat) : Stmt := (defBody sReadL).getD i (.Pass ⟨0, 0, 0, 0⟩)
def retE (s : Stmt) : Expr := match s with
  | .If _ (.Return (some e) _ :: _) _ _ => e
  | .Return (some e) _ => e
  | _ => .Name "x" ⟨0, 0, 0, 0⟩
abbrev XRL (P : Program) (w : World) (K : PySem.W.Frag) (mg : Str → Option Value) (base : Heap) (f c : Addr) (A : Around) (outer : List Env) (s : Shared) (H : Hp) (E : XK) : Cx := cxOf CX0 P w K mg base nRL "_law_read" (defScope sReadL) f (.ref c) A outer s H E
section
variable {P : Program} {w : World} {K : PySem.W.Frag} {mg : Str → Option Value} {base : Heap} {f c : Addr} {A0 : Around} {outer : List Env} {s : Shared} {H0 : Hp} {E0' : XK} {mc : Value} {fH P0 CT CL B g p0 : Addr} {dH d : FuncData} {A : A4}
theorem ra1 (T : Txt mg) (hr : Room 12 (XRL P w K mg base f c A0 outer s H0 E0').A) (hg : (XRL P w K mg base f c A0 outer s H0 E0').A.guards = some [])
    (TB : TabB base mg c P0) (FH : Fun K "_law_heard" "_law_heard" sHeard fH dH) (gH : mg "_law_heard" = some (.ref fH)) (gT : mg "BadText" = some (.ref CT)) (gL : mg "LayerError" = some (.ref CL))
    (R : ReadC P w K mg base A CT mc "Cell" B p0 g d 10) : PE (XRL P w K mg base f c A0 outer s H0 E0') (retE (inRL 1)) (tLam (T1 P0) (TH K CT CL) (fun E => ClX.tCMeth B (spRead K A CT) E (tC (.ref B)) (tCons (tVar 1) tNil))) :=
  pe_ask (t := fun E => ClX.tCMeth B (spRead K A CT) E (tC (.ref B)) (tCons (tVar 1) tNil)) FH gH (by rfl) T gT gL hr hg TB rfl (TT := T1 P0) rfl (by show lamSB (defScope sReadL) _ = true; decide +kernel) rfl (fun _ _ _ _ _ => rfl) (fun A1 outer1 s1 H1 E f1 c1 hr2 => ClX.pe_cmeth (pe_glob (v := .ref B) rfl R.gl rfl) R.rd R.cm R.raw hr2 (passes_call (takes_of rfl rfl rfl rfl) (fun _ _ _ _ h => h)) (pa_cons (pv 1) pa_nil))
theorem ra2 (T : Txt mg) (hr : Room 12 (XRL P w K mg base f c A0 outer s H0 E0').A) (hg : (XRL P w K mg base f c A0 outer s H0 E0').A.guards = some [])
    (TB : TabB base mg c P0) (FH : Fun K "_law_heard" "_law_heard" sHeard fH dH) (gH : mg "_law_heard" = some (.ref fH)) (gT : mg "BadText" = some (.ref CT)) (gL : mg "LayerError" = some (.ref CL))
    (R : ReadC P w K mg base A CT mc "Log" B p0 g d 10) : PE (XRL P w K mg base f c A0 outer s H0 E0') (retE (inRL 2)) (tLam (T1 P0) (TH K CT CL) (fun E => ClX.tCMeth B (spRead K A CT) E (tC (.ref B)) (tCons (tVar 1) tNil))) :=
  pe_ask (t := fun E => ClX.tCMeth B (spRead K A CT) E (tC (.ref B)) (tCons (tVar 1) tNil)) FH gH (by rfl) T gT gL hr hg TB rfl (TT := T1 P0) rfl (by show lamSB (defScope sReadL) _ = true; decide +kernel) rfl (fun _ _ _ _ _ => rfl) (fun A1 outer1 s1 H1 E f1 c1 hr2 => ClX.pe_cmeth (pe_glob (v := .ref B) rfl R.gl rfl) R.rd R.cm R.raw hr2 (passes_call (takes_of rfl rfl rfl rfl) (fun _ _ _ _ h => h)) (pa_cons (pv 1) pa_nil))
theorem ra3 (T : Txt mg) (hr : Room 12 (XRL P w K mg base f c A0 outer s H0 E0').A) (hg : (XRL P w K mg base f c A0 outer s H0 E0').A.guards = some [])
    (TB : TabB base mg c P0) (FH : Fun K "_law_heard" "_law_heard" sHeard fH dH) (gH : mg "_law_heard" = some (.ref fH)) (gT : mg "BadText" = some (.ref CT)) (gL : mg "LayerError" = some (.ref CL))
    (R : ReadC P w K mg base A CT mc "Failure" B p0 g d 10) : PE (XRL P w K mg base f c A0 outer s H0 E0') (retE (inRL 3)) (tLam (T1 P0) (TH K CT CL) (fun E => tCMethK B (spRead K A CT) kwS E (tC (.ref B)) (tCons (tVar 1) tNil))) :=
  pe_ask (t := fun E => tCMethK B (spRead K A CT) kwS E (tC (.ref B)) (tCons (tVar 1) tNil)) FH gH (by rfl) T gT gL hr hg TB rfl (TT := T1 P0) rfl (by show lamSB (defScope sReadL) _ = true; decide +kernel) rfl (fun _ _ _ _ _ => rfl) (fun A1 outer1 s1 H1 E f1 c1 hr2 => pe_cmethK (pe_glob (v := .ref B) rfl R.gl rfl) R.rd R.cm R.G hr2 R.kb (passes_call (takes_of rfl rfl rfl rfl) (fun _ _ _ _ h => h)) (pk_cons (pv 1) pk_nil))
theorem ra4 (T : Txt mg) (hr : Room 12 (XRL P w K mg base f c A0 outer s H0 E0').A) (hg : (XRL P w K mg base f c A0 outer s H0 E0').A.guards = some [])
    (TB : TabB base mg c P0) (FH : Fun K "_law_heard" "_law_heard" sHeard fH dH) (gH : mg "_law_heard" = some (.ref fH)) (gT : mg "BadText" = some (.ref CT)) (gL : mg "LayerError" = some (.ref CL))
    (R : ReadC P w K mg base A CT mc "Choice" B p0 g d 10) : PE (XRL P w K mg base f c A0 outer s H0 E0') (retE (inRL 4)) (tLam (T1 P0) (TH K CT CL) (fun E => ClX.tCMeth B (spRead K A CT) E (tC (.ref B)) (tCons (tVar 1) tNil))) :=
  pe_ask (t := fun E => ClX.tCMeth B (spRead K A CT) E (tC (.ref B)) (tCons (tVar 1) tNil)) FH gH (by rfl) T gT gL hr hg TB rfl (TT := T1 P0) rfl (by show lamSB (defScope sReadL) _ = true; decide +kernel) rfl (fun _ _ _ _ _ => rfl) (fun A1 outer1 s1 H1 E f1 c1 hr2 => ClX.pe_cmeth (pe_glob (v := .ref B) rfl R.gl rfl) R.rd R.cm R.raw hr2 (passes_call (takes_of rfl rfl rfl rfl) (fun _ _ _ _ h => h)) (pa_cons (pv 1) pa_nil))
theorem ra5 (T : Txt mg) (hr : Room 12 (XRL P w K mg base f c A0 outer s H0 E0').A) (hg : (XRL P w K mg base f c A0 outer s H0 E0').A.guards = some [])
    (TB : TabB base mg c P0) (FH : Fun K "_law_heard" "_law_heard" sHeard fH dH) (gH : mg "_law_heard" = some (.ref fH)) (gT : mg "BadText" = some (.ref CT)) (gL : mg "LayerError" = some (.ref CL))
    (R : ReadC P w K mg base A CT mc "Named" B p0 g d 10) : PE (XRL P w K mg base f c A0 outer s H0 E0') (retE (inRL 5)) (tLam (T1 P0) (TH K CT CL) (fun E => ClX.tCMeth B (spRead K A CT) E (tC (.ref B)) (tCons (tVar 1) tNil))) :=
  pe_ask (t := fun E => ClX.tCMeth B (spRead K A CT) E (tC (.ref B)) (tCons (tVar 1) tNil)) FH gH (by rfl) T gT gL hr hg TB rfl (TT := T1 P0) rfl (by show lamSB (defScope sReadL) _ = true; decide +kernel) rfl (fun _ _ _ _ _ => rfl) (fun A1 outer1 s1 H1 E f1 c1 hr2 => ClX.pe_cmeth (pe_glob (v := .ref B) rfl R.gl rfl) R.rd R.cm R.raw hr2 (passes_call (takes_of rfl rfl rfl rfl) (fun _ _ _ _ h => h)) (pa_cons (pv 1) pa_nil))
theorem ra6 (T : Txt mg) (hr : Room 12 (XRL P w K mg base f c A0 outer s H0 E0').A) (hg : (XRL P w K mg base f c A0 outer s H0 E0').A.guards = some [])
    (TB : TabB base mg c P0) (FH : Fun K "_law_heard" "_law_heard" sHeard fH dH) (gH : mg "_law_heard" = some (.ref fH)) (gT : mg "BadText" = some (.ref CT)) (gL : mg "LayerError" = some (.ref CL))
    (R : ReadC P w K mg base A CT mc "Handler" B p0 g d 9) : PE (XRL P w K mg base f c A0 outer s H0 E0') (retE (inRL 6)) (tLam (T1 P0) (TH K CT CL) (fun E => tCMethK B (spRead K A CT) kwS E (tC (.ref B)) (tCons (tVar 1) tNil))) :=
  pe_ask (t := fun E => tCMethK B (spRead K A CT) kwS E (tC (.ref B)) (tCons (tVar 1) tNil)) FH gH (by rfl) T gT gL hr hg TB rfl (TT := T1 P0) rfl (by show lamSB (defScope sReadL) _ = true; decide +kernel) rfl (fun _ _ _ _ _ => rfl) (fun A1 outer1 s1 H1 E f1 c1 hr2 => pe_cmethK (pe_glob (v := .ref B) rfl R.gl rfl) R.rd R.cm R.G (hr2.mono (by decide)) R.kb (passes_call (takes_of rfl rfl rfl rfl) (fun _ _ _ _ h => h)) (pk_cons (pv 1) pk_nil))
end
section
variable {P : Program} {w : World} {K : PySem.W.Frag} {mg : Str → Option Value} {base : Heap} {f c : Addr}
theorem ok_readL {oc kV doc pm ct mc : Value} {od an : Option Addr} {osl : Array (Option Value)} {fH fD P0 CT CL : Addr} {dH dD : FuncData} {A : A4} {Bc gc pc : Nat → Addr} {dc : Nat → FuncData} (T : Txt mg)
    (TB : TabB base mg c P0) (FH : Fun K "_law_heard" "_law_heard" sHeard fH dH) (gH : mg "_law_heard" = some (.ref fH)) (gT : mg "BadText" = some (.ref CT)) (gL : mg "LayerError" = some (.ref CL)) (ek : EK K CL CT)
    (R0 : ReadC P w K mg base A CT mc "Cell" (Bc 0) (pc 0) (gc 0) (dc 0) 10) (R1 : ReadC P w K mg base A CT mc "Log" (Bc 1) (pc 1) (gc 1) (dc 1) 10) (R2 : ReadC P w K mg base A CT mc "Failure" (Bc 2) (pc 2) (gc 2) (dc 2) 10)
    (R3 : ReadC P w K mg base A CT mc "Choice" (Bc 3) (pc 3) (gc 3) (dc 3) 10) (R4 : ReadC P w K mg base A CT mc "Named" (Bc 4) (pc 4) (gc 4) (dc 4) 10) (R5 : ReadC P w K mg base A CT mc "Handler" (Bc 5) (pc 5) (gc 5) (dc 5) 9)
    (lk : K.lookup f = some ⟨oc, od, .func (PySem.W.fnOf "_law_read" "_law_read" (defArgs sReadL) (defBody sReadL) (defScope sReadL) .none kV doc pm an (.ref c) ct), osl⟩) (hcd : PySem.W.codeIn K (.ref c) "_law_read" = true)
    (FD : Fun K "_law_draw" "_law_draw" sDraw fD dD) (bD : Binds K dD ["_law_pen_here", "_law_many"] []) (gD : mg "_law_draw" = some (.ref fD)) (GD : FnOk P w K mg base CX0 1 fD dD ["_law_pen_here", "_law_many"] spDraw) :
    FnG P w K mg base CX0 13 f (PySem.W.fnOf "_law_read" "_law_read" (defArgs sReadL) (defBody sReadL) (defScope sReadL) .none kV doc pm an (.ref c) ct) ["_law_pen_here", "_law_line"] (spReadL K A P0) := by
  refine okGc lk hcd scRL (fun vs H Q E h => ?_) (fun A1 outer s H vs Q E hr hg h => ?_)
  · obtain ⟨p, cc, ns, B, x, r, rfl, _⟩ := h
    rfl
  · obtain ⟨p, cc, ns, B, x, r, rfl, PA, hB, tb, ra, yes, no⟩ := h
    refine ⟨_, pss_cons (ps_set (i := 2) scRL.nd rfl (.inl rfl) (pe_call GD (hr.mono (by decide)) (by rfl) gD FD.kp bD .nil pass0 (pa_cons (pv 0) (pa_cons pe_int pa_nil))))
      (pss_cons (ps_if (pt_cmpR op_eq (pv 2) pe_int (nomark _)) (pss_one (ps_ret (ra1 (f := f) (c := c) (A0 := A1) (outer := outer) (s := s) (H0 := H) (E0' := E) T hr hg TB FH gH gT gL R0))) pss_nil)
      (pss_cons (ps_if (pt_cmpR op_eq (pv 2) pe_int (nomark _)) (pss_one (ps_ret (ra2 (f := f) (c := c) (A0 := A1) (outer := outer) (s := s) (H0 := H) (E0' := E) T hr hg TB FH gH gT gL R1))) pss_nil)
      (pss_cons (ps_if (pt_cmpR op_eq (pv 2) pe_int (nomark _)) (pss_one (ps_ret (ra3 (f := f) (c := c) (A0 := A1) (outer := outer) (s := s) (H0 := H) (E0' := E) T hr hg TB FH gH gT gL R2))) pss_nil)
      (pss_cons (ps_if (pt_cmpR op_eq (pv 2) pe_int (nomark _)) (pss_one (ps_ret (ra4 (f := f) (c := c) (A0 := A1) (outer := outer) (s := s) (H0 := H) (E0' := E) T hr hg TB FH gH gT gL R3))) pss_nil)
      (pss_cons (ps_if (pt_cmpR op_eq (pv 2) pe_int (nomark _)) (pss_one (ps_ret (ra5 (f := f) (c := c) (A0 := A1) (outer := outer) (s := s) (H0 := H) (E0' := E) T hr hg TB FH gH gT gL R4))) pss_nil)
      (pss_one (ps_ret (ra6 (f := f) (c := c) (A0 := A1) (outer := outer) (s := s) (H0 := H) (E0' := E) T hr hg TB FH gH gT gL R5)))))))), ?_⟩
    refine ⟨.ref p, rfl, p, cc, ns, B, 6, rfl, PA, by omega, by decide, by decide, fun d H1 d0 d1 P1 off => ?_⟩
    obtain ⟨bb, gg, hp, _⟩ := PA.pen
    have tb1 := tabs_off tb hp off
    have o1 : OffT p H H1 := OffT.off off
    have asks : Asks K A (T1 P0) H1 x r Q := ⟨tb1, fun H' e => ra H' (o1.trans (OffT.ext e)), fun kd er l a H' e t ih hl => yes kd er l a H' (P1.ext e) (o1.trans (OffT.ext e)) t ih hl, fun j er t u H' e tt hu ht => no j er t u H' (P1.ext e) (o1.trans (OffT.ext e)) tt hu ht⟩
    refine ⟨.int d, rfl, rfl, _, rfl, ite2 (fun _ => rd_ask ek rfl asks) (fun _ => ?_)⟩
    refine ⟨.int d, rfl, rfl, _, rfl, ite2 (fun _ => rd_ask ek rfl asks) (fun _ => ?_)⟩
    refine ⟨.int d, rfl, rfl, _, rfl, ite2 (fun _ => rd_askK ek rfl asks) (fun _ => ?_)⟩
    refine ⟨.int d, rfl, rfl, _, rfl, ite2 (fun _ => rd_ask ek rfl asks) (fun _ => ?_)⟩
    refine ⟨.int d, rfl, rfl, _, rfl, ite2 (fun _ => rd_ask ek rfl asks) (fun _ => ?_)⟩
    exact rd_askK ek rfl asks
end
end My
/-! words with something otherwise -/
namespace My
open PySem PySem.Spec PyProof.Rows L2
abbrev vsS (l : List Str) : List V := l.map V.str
theorem sum_len {B : Nat} : ∀ {zs : List Str}, (∀ z ∈ zs, z.length ≤ B) → (zs.map (·.length)).sum ≤ zs.length * B
  | [], _ => by simp
  | z :: r, h => by
    have := sum_len fun y hy => h y (List.mem_cons_of_mem _ hy)
    have := h z List.mem_cons_self
    rw [List.map_cons, List.sum_cons, List.length_cons, Nat.succ_mul]
    omega
theorem join_len (y : Str) : ∀ zs : List Str, (Str.join y zs).length ≤ (zs.map (·.length)).sum + zs.length * y.length
  | [] => by show (0 : Nat) ≤ _; exact Nat.zero_le _
  | [z] => by
    show z.length ≤ _
    simp
  | x :: z :: r => by
    have := join_len y (z :: r)
    show (x ++ y ++ Str.join y (z :: r)).length ≤ _
    rw [len_app, len_app]
    simp only [List.map_cons, List.sum_cons, List.length_cons] at this ⊢
    have e : (r.length + 1 + 1) * y.length = (r.length + 1) * y.length + y.length := by rw [Nat.succ_mul]
    omega
theorem le_big {n : Nat} (h : n ≤ 100000) : n ≤ sizeLine := by rw [sizeLine_eq]; omega
theorem one_space : (" " : Str).length = 1 := by decide +kernel
theorem pen_strs {H : Hp} {p c q : Addr} {ns : List Int} {B : Int} {as : List Str} (P : PenAt H p c ns B) (h : H q = some (.lst (vsS as))) : q ≠ p := fun z => by
  obtain ⟨b, g, hp, _⟩ := P.pen
  rw [z, hp] at h
  injection h with h
  injection h with h
  cases as with
  | nil => cases h
  | cons x r => injection h with h1 h2; cases h1
theorem pen_new {H : Hp} {p c q : Addr} {ns : List Int} {B : Int} (P : PenAt H p c ns B) (h : H q = none) : q ≠ p ∧ c ≠ q := by
  obtain ⟨b, g, hp, _⟩ := P.pen
  exact ⟨(fun z => by rw [z, hp] at h; cases h), (fun z => by rw [← z, P.cells] at h; cases h)⟩
def LE (t : TE) (σ : L2.St) (H : Hp) (zs : List Str) : Prop := ∀ Q : VK, (∀ (p : Addr) (H' : Hp), Same' H H' → H' p = some (.lst (vsS zs)) → Q (.ref p) H') → t σ H Q
theorem LE.var {i : Nat} {σ : L2.St} {H : Hp} {p : Addr} {zs : List Str} (e : σ[i]? = some (some (.ref p))) (h : H p = some (.lst (vsS zs))) : LE (tVar i) σ H zs := fun Q q => ⟨_, e, q p H (fun _ _ e => e) h⟩
theorem LE.cat {A B : TE} {σ : L2.St} {H : Hp} {xs ys : List Str} (ha : LE A σ H xs) (hb : ∀ H', Same' H H' → LE B σ H' ys) (n : xs.length + ys.length ≤ 100000) : LE (tOp rCat A B) σ H (xs ++ ys) := fun Q q => ha _ fun p H1 s1 e1 => hb H1 s1 _ fun r H2 s2 e2 =>
  ⟨p, r, _, _, rfl, rfl, s2 _ _ e1, e2, by rw [List.length_map, List.length_map]; exact le_big n, fun u hu => q u _ ((s1.trans s2).trans (same_new hu)) (by rw [upd_same]; show some (HO.lst (List.map V.str xs ++ List.map V.str ys)) = some (HO.lst (List.map V.str (xs ++ ys))); rw [List.map_append])⟩
theorem LE.one {i : Nat} {σ : L2.St} {H : Hp} {z : Str} (e : σ[i]? = some (some (.str z))) : LE (tLst (tCons (tVar i) tNil)) σ H [z] := fun Q q => ⟨_, e, by show 1 ≤ sizeLine; decide, fun u hu => q u _ (same_new hu) upd_same⟩
theorem LE.sl {K : PySem.W.Frag} {te : TE} {tl th : TO} {σ : L2.St} {H : Hp} {xs zs : List Str} {lo hi : Option Int} (he : LE te σ H xs) (hl : ∀ H' (R : Option Int → Hp → Prop), R lo H' → tl σ H' R) (hh : ∀ H' (R : Option Int → Hp → Prop), R hi H' → th σ H' R) (c : cutV (vsS xs) lo hi = vsS zs) : LE (tSl (rSlL K) te tl th) σ H zs :=
  fun Q q => he _ fun p H1 s1 e1 => hl H1 _ (hh H1 _ ⟨p, _, rfl, SqL.of e1, fun u hu => q u _ (s1.trans (same_new hu)) (by rw [c]; exact upd_same)⟩)
theorem LE.rev {K : PySem.W.Frag} {te : TE} {σ : L2.St} {H : Hp} {xs : List Str} (he : LE te σ H xs) : LE (tRevL K te) σ H xs.reverse := fun Q q => he _ fun p H1 s1 e1 => ⟨p, _, rfl, SqL.of e1, fun u hu => q u _ (s1.trans (same_new hu)) (by rw [upd_same]; show some (HO.lst (List.map V.str xs).reverse) = some (HO.lst (List.map V.str xs.reverse)); rw [List.map_reverse])⟩
theorem cut_to {ws : List Str} {s : Nat} : cutV (vsS ws) none (some (s : Int)) = vsS (ws.take s) := by
  unfold cutV
  rw [HT.sIx_nat, show HT.sIx (vsS ws).length 0 none = 0 from rfl, List.drop_zero, Nat.sub_zero]
  show (List.map V.str ws).take (min s (List.map V.str ws).length) = List.map V.str (ws.take s)
  rw [← List.map_take, List.length_map]
  congr 1
  rcases Nat.le_total s ws.length with h | h
  · rw [Nat.min_eq_left h]
  · rw [Nat.min_eq_right h, List.take_length, List.take_of_length_le h]
theorem cut_from {ws : List Str} {s : Nat} : cutV (vsS ws) (some (s : Int)) none = vsS (ws.drop s) := by
  unfold cutV
  rw [HT.sIx_nat, show HT.sIx (vsS ws).length (vsS ws).length none = (vsS ws).length from rfl]
  show ((List.map V.str ws).drop (min s (List.map V.str ws).length)).take ((List.map V.str ws).length - min s (List.map V.str ws).length) = List.map V.str (ws.drop s)
  rw [← List.map_drop, ← List.map_take, List.length_map]
  congr 1
  rcases Nat.le_total s ws.length with h | h
  · rw [Nat.min_eq_left h, List.take_of_length_le (by rw [List.length_drop]; omega)]
  · rw [Nat.min_eq_right h, List.drop_length, List.drop_of_length_le h]
    simp
theorem cut_mid {ws : List Str} {s k : Nat} : cutV (vsS ws) (some (s : Int)) (some ((s + k : Nat) : Int)) = vsS ((ws.drop s).take k) := by
  unfold cutV
  rw [HT.sIx_nat, HT.sIx_nat]
  show ((List.map V.str ws).drop (min s (List.map V.str ws).length)).take (min (s + k) (List.map V.str ws).length - min s (List.map V.str ws).length) = List.map V.str ((ws.drop s).take k)
  rw [← List.map_drop, ← List.map_take, List.length_map]
  congr 1
  rcases Nat.le_total s ws.length with h | h
  · rw [Nat.min_eq_left h]
    rcases Nat.le_total (s + k) ws.length with h2 | h2
    · rw [Nat.min_eq_left h2, Nat.add_sub_cancel_left]
    · rw [Nat.min_eq_right h2, List.take_of_length_le (by rw [List.length_drop]; omega), List.take_of_length_le (by rw [List.length_drop]; omega)]
  · rw [Nat.min_eq_right h, List.drop_length, List.drop_of_length_le h]
    simp
theorem wd_ok {z : Str} (h : wd z = true) : PyData.strOk z = true ∧ 1 ≤ z.length ∧ z.length ≤ 8 ∧ ∀ c ∈ z.cps.toList, 97 ≤ c ∧ c ≤ 122 := by
  unfold wd at h
  simp only [Bool.and_eq_true, decide_eq_true_eq, List.all_eq_true] at h
  obtain ⟨⟨h1, h2⟩, h3⟩ := h
  have k : ∀ c ∈ z.cps.toList, 97 ≤ c ∧ c ≤ 122 := fun c hc => by
    have := h3 c hc
    unfold low at this
    simpa using this
  refine ⟨?_, h1, h2, k⟩
  unfold PyData.strOk
  rw [Array.all_eq_true']
  intro c hc
  have := k c (by simpa using hc)
  simp
  omega
structure Tkn (z : Str) : Prop where
  sp : 32 ∉ TL.tl z
  ok : PyData.strOk z = true
  len : z.length ≤ 9
theorem tok_wd {z : Str} (h : wd z = true) : Tkn z := by
  obtain ⟨a, b, c, d⟩ := wd_ok h
  refine ⟨fun m => ?_, a, by omega⟩
  have := d 32 m
  omega
abbrev toks : List Str := ["cell", "log", "failure", "choice", "x", "y", "l", "f", "zzzzzzzz", "self", "2", "3", "4", "", "3,", "5", "1", "02", "choice,", "X", "put", "abcdefghi", "x\n", "-"]
abbrev odds : List Str := ["", "cell", "log", "failure", "choice", "x", "2", "3,", "5", "1", "02", "choice,", "X", "put", "abcdefghi", "x\n", "-"]
theorem odds_toks : ∀ z ∈ odds, z ∈ toks := by decide +kernel
theorem tok_list : ∀ z ∈ toks, 32 ∉ TL.tl z ∧ PyData.strOk z = true ∧ z.length ≤ 9 := by decide +kernel
theorem tok_in {z : Str} (h : z ∈ toks) : Tkn z := by
  obtain ⟨a, b, c⟩ := tok_list z h
  exact ⟨a, b, c⟩
/-- words that the law may have -/
structure Lw (ws : List Str) (n : Nat) : Prop where
  ne : ws ≠ []
  few : ws.length ≤ n
  tok : ∀ z ∈ ws, Tkn z
theorem blank_tl : TL.tl (" " : Str) = 32 :: [] := by decide +kernel
theorem Lw.split {ws : List Str} {n : Nat} (L : Lw ws n) : Txt.split (Str.join " " ws) spc = ws := by
  have := TL.split_join (y := " ") blank_tl (by decide +kernel) L.ne fun p hp => (L.tok p hp).sp
  rw [TL.join_eq] at this
  exact this
theorem Lw.joinLen {ws : List Str} {n : Nat} (L : Lw ws n) : (Str.join " " ws).length ≤ ws.length * 10 := by
  have a := sum_len (B := 9) fun z hz => (L.tok z hz).len
  have b := join_len " " ws
  rw [one_space] at b
  omega
theorem ok_app {x y : Str} (h : PyData.strOk x = true) (k : PyData.strOk y = true) : PyData.strOk (x ++ y) = true := by
  show (x.cps ++ y.cps).all _ = true
  unfold PyData.strOk at h k
  simp only [Array.all_append, h, k, Bool.and_self]
theorem ok_join {y : Str} (hy : PyData.strOk y = true) : ∀ {zs : List Str}, (∀ z ∈ zs, PyData.strOk z = true) → PyData.strOk (Str.join y zs) = true
  | [], _ => by
    show PyData.strOk Str.empty = true
    decide +kernel
  | [z], h => h z List.mem_cons_self
  | x :: z :: r, h => ok_app (ok_app (h x List.mem_cons_self) hy) (ok_join hy fun w hw => h w (List.mem_cons_of_mem _ hw))
theorem Lw.sok {ws : List Str} {n : Nat} (L : Lw ws n) : PyData.strOk (Str.join " " ws) = true := ok_join (by decide +kernel) fun z hz => (L.tok z hz).ok
structure Bent (ws ws' : List Str) : Prop where
  few : ws'.length ≤ ws.length + 1
  mem : ∀ z ∈ ws', z ∈ ws ∨ z ∈ odds
def fixW (ws : List Str) : List Str := if ws.isEmpty then [""] else ws
theorem Lw.bent {ws ws' : List Str} {n : Nat} (L : Lw ws n) (b : Bent ws ws') : Lw (fixW ws') (n + 1) := by
  unfold fixW
  cases ws' with
  | nil => exact ⟨by simp, by simp, fun z hz => by rw [List.mem_singleton.mp (show z ∈ ([""] : List Str) from hz)]; exact tok_in (by simp)⟩
  | cons x r =>
    refine ⟨by simp, ?_, fun z hz => ?_⟩
    · have := b.few
      have := L.few
      show (x :: r).length ≤ n + 1
      omega
    · rcases b.mem z hz with h | h
      · exact L.tok z h
      · exact tok_in (odds_toks z h)
theorem fix_join (ws : List Str) : Str.join " " (fixW ws) = Str.join " " ws := by
  cases ws with
  | nil => decide +kernel
  | cons a r => rfl
theorem Lw.sumOk {ws : List Str} {n : Nat} (L : Lw ws n) (h : n ≤ 120) : (ws.map (·.length)).sum + ws.length * (" " : Str).length ≤ 16777216 := by
  have a := sum_len (B := 9) fun z hz => (L.tok z hz).len
  have := L.few
  rw [one_space]
  omega

theorem Lw.more {ws : List Str} {n m : Nat} (L : Lw ws n) (h : n ≤ m) : Lw ws m := ⟨L.ne, Nat.le_trans L.few h, L.tok⟩
theorem Lw.line {ws : List Str} {n : Nat} (L : Lw ws n) (h : n ≤ 100) : LineL (Str.join " " ws) ws := by
  have := L.joinLen
  have := L.few
  exact ⟨L.split, by omega, L.ne, by omega, fun y hy => by have := (L.tok y hy).len; omega, fun y hy => (L.tok y hy).ok⟩
abbrev rJoin (K : PySem.W.Frag) : V → List V → Hp → VK → Prop := fun x xs H Q => ∃ a p, ∃ ys : List Str, x = .str a ∧ xs = [.ref p] ∧ (SqL K H p (ys.map V.str) ∨ SqT K H p (ys.map V.str)) ∧ (ys.map (·.length)).sum + ys.length * a.length ≤ 16777216 ∧ Q (.str (Txt.join a ys)) H
def spBent : Sp := fun vs H Q _ => ∃ (p cc : Addr) (ns : List Int) (B : Int) (ws : List Str) (n : Nat), vs = [.ref p, .str (Str.join " " ws)] ∧ PenAt H p cc ns B ∧ B + 4 ≤ 1000 ∧ Lw ws n ∧ n ≤ 90 ∧
  ∀ (ws' : List Str) (H' : Hp), Lw ws' (n + 1) → PenAt H' p cc ns (B + 3) → Off p H H' → Q (.str (Str.join " " ws')) H'
section
variable {P : Program} {w : World} {K : PySem.W.Frag} {mg : Str → Option Value} {base : Heap} {fD fP : Addr} {dD dP : FuncData}
abbrev nBe : List Str := ["_law_pen_here", "_law_line", "_law_words", "_law_here", "_law_way", "_law_odd"]
theorem scBe : FnScope nBe ["_law_pen_here", "_law_line"] (defScope sBent) := ⟨rfl, rfl, rfl, by decide +kernel, rfl, by decide +kernel, by decide +kernel⟩
theorem ok_bent {f : Addr} {fd : FuncData} (F : Fun K "_law_bent" "_law_bent" sBent f fd) (T : Txt mg)
    (FD : Fun K "_law_draw" "_law_draw" sDraw fD dD) (bD : Binds K dD ["_law_pen_here", "_law_many"] []) (gD : mg "_law_draw" = some (.ref fD)) (GD : FnOk P w K mg base CX0 1 fD dD ["_law_pen_here", "_law_many"] spDraw)
    (FP : Fun K "_law_pick" "_law_pick" sPick fP dP) (bP : Binds K dP ["_law_pen_here", "_law_some"] []) (gP : mg "_law_pick" = some (.ref fP)) (GP : FnOk P w K mg base CX0 2 fP dP ["_law_pen_here", "_law_some"] spPick) : FnOk P w K mg base CX0 3 f fd ["_law_pen_here", "_law_line"] spBent := by
  refine F.ok scBe (fun vs H Q E h => ?_) (fun cdv A outer s H vs Q E hr h => ?_)
  · obtain ⟨p, cc, ns, B, ws, n, rfl, _⟩ := h
    rfl
  · obtain ⟨p, cc, ns, B, ws, n, rfl, PA, hB, L, hn, q⟩ := h
    refine ⟨_, pss_cons (ps_set (i := 2) scBe.nd rfl (.inl rfl) (pe_split (pv 1) pe_str))
      (pss_cons (ps_par (i := 3) (j := 4) rfl scBe.nd rfl rfl (by decide) rfl rfl (pa_cons (pe_call GD (hr.mono (by decide)) (by rfl) gD FD.kp bD .nil pass0 (pa_cons (pv 0) (pa_cons (pe_op op_add (pe_callB call_len_seq (by rfl) T.len PySem.boot_len (pa_cons (pv 2) pa_nil)) pe_int) pa_nil)))
          (pa_cons (pe_call GD (hr.mono (by decide)) (by rfl) gD FD.kp bD .nil pass0 (pa_cons (pv 0) (pa_cons pe_int pa_nil))) pa_nil)) (by rfl))
      (pss_cons (ps_set (i := 5) scBe.nd rfl (.inl rfl) (pe_lst (pa_cons pe_str (pa_cons pe_str (pa_cons pe_str (pa_cons pe_str (pa_cons pe_str (pa_cons pe_str (pa_cons pe_str (pa_cons pe_str (pa_cons pe_str (pa_cons pe_str (pa_cons pe_str (pa_cons pe_str (pa_cons pe_str (pa_cons pe_str (pa_cons pe_str (pa_cons pe_str (pa_cons pe_str pa_nil)))))))))))))))))))
      (pss_cons (ps_if (pt_cmpR op_eq (pv 4) pe_int (nomark _)) (pss_one (ps_ret (pe_join pe_str (pe_op op_cat (pe_slice sl_list (pv 2) po_none (po_some (pv 3))) (pe_slice sl_list (pv 2) (po_some (pe_op op_add (pv 3) pe_int)) po_none))))) pss_nil)
      (pss_cons (ps_if (pt_cmpR op_eq (pv 4) pe_int (nomark _)) (pss_one (ps_ret (pe_join pe_str (pe_op op_cat (pe_slice sl_list (pv 2) po_none (po_some (pe_op op_add (pv 3) pe_int))) (pe_slice sl_list (pv 2) (po_some (pv 3)) po_none))))) pss_nil)
      (pss_cons (ps_if (pt_cmpR op_eq (pv 4) pe_int (nomark _)) (pss_one (ps_ret (pe_join pe_str (pe_op op_cat (pe_op op_cat (pe_slice sl_list (pv 2) po_none (po_some (pv 3))) (pe_lst (pa_cons (pe_call GP hr (by rfl) gP FP.kp bP .nil pass0 (pa_cons (pv 0) (pa_cons (pv 5) pa_nil))) pa_nil))) (pe_slice sl_list (pv 2) (po_some (pv 3)) po_none))))) pss_nil)
      (pss_one (ps_ret (pe_join pe_str (pe_op op_cat (pe_op op_cat (pe_slice sl_list (pv 2) po_none (po_some (pv 3))) (pe_lst (pa_cons (pe_call GP hr (by rfl) gP FP.kp bP .nil pass0 (pa_cons (pv 0) (pa_cons (pv 5) pa_nil))) pa_nil))) (pe_slice sl_list (pv 2) (po_some (pe_op op_add (pv 3) pe_int)) po_none)))))))))), ?_⟩
    have LL := L.line (by omega)
    have zl := LL.zl
    have few := L.few
    refine ⟨_, rfl, ⟨_, rfl⟩, _, spc, rfl, rfl, by decide +kernel, by rw [sizeLine_eq]; omega, fun wl hwl => ?_⟩
    rw [LL.sp]
    have k1 := same_new (o := .lst (vsS ws)) hwl
    have P1 := PA.keep k1
    have nw := (pen_new PA hwl).1
    refine ⟨_, rfl, _, rfl, wl, _, rfl, .inl (SqL.of upd_same), _, _, rfl, rfl, p, cc, ns, B, _, rfl, P1, by omega, by rw [List.length_map]; omega, by rw [List.length_map]; omega, fun d1 H1 d10 d11 P2 o1 => ?_⟩
    rw [List.length_map] at d11
    refine ⟨_, rfl, p, cc, ns, B + 1, 5, rfl, P2, by omega, by decide, by decide, fun d2 H2 d20 d21 P3 o2 => ⟨_, _, rfl, ?_⟩⟩
    have hw2 := o2 _ _ nw (o1 _ _ nw (show (upd H wl (.lst (vsS ws))) wl = some (.lst (vsS ws)) from upd_same))
    refine ⟨by show 17 ≤ sizeLine; decide, fun l hl => ?_⟩
    have k3 := same_new (o := .lst (vsS odds)) hl
    obtain ⟨H3, e3⟩ : ∃ H3 : Hp, upd H2 l (.lst (vsS odds)) = H3 := ⟨_, rfl⟩
    have nl := (pen_new P3 hl).1
    have hl3 : H3 l = some (.lst (vsS odds)) := by rw [← e3, upd_same]
    have e3' : (upd H2 l (HO.lst [V.str "", V.str "cell", V.str "log", V.str "failure", V.str "choice", V.str "x", V.str "2", V.str "3,", V.str "5", V.str "1", V.str "02", V.str "choice,", V.str "X", V.str "put", V.str "abcdefghi", V.str "x\n", V.str "-"])) = H3 := e3
    rw [e3'] at *
    rw [e3] at k3
    have hw3 := k3 _ _ hw2
    have P4 : PenAt H3 p cc ns (B + 1 + 1) := P3.keep k3
    have off : Off p H H3 := fun b o nb e => k3 _ _ (o2 _ _ nb (o1 _ _ nb (k1 _ _ e)))
    obtain ⟨s, rfl⟩ : ∃ s : Nat, d1 = (s : Int) := ⟨d1.toNat, by omega⟩
    have hs : s ≤ ws.length := by omega
    have fin : ∀ ws', Bent ws ws' → ∀ (H' : Hp), PenAt H' p cc ns (B + 3) → Off p H3 H' → ∀ (r : Addr), H' r = some (.lst (vsS ws')) → rJoin K (.str " ") [.ref r] H' Q := by
      intro ws' hb H' P' o' r hr'
      have Lf := L.bent hb
      refine ⟨" ", r, ws', rfl, rfl, .inl (SqL.of hr'), ?_, ?_⟩
      · have h9 : ∀ z ∈ ws', z.length ≤ 9 := fun z hz => by
          rcases hb.mem z hz with h | h
          · exact (L.tok z h).len
          · exact (tok_in (odds_toks z h)).len
        have a := sum_len (B := 9) h9
        have := hb.few
        rw [one_space]
        omega
      · rw [TL.join_eq, ← fix_join]
        exact q (fixW ws') H' Lf P' (off.trans o')
    have vw : ∀ {H'}, Same' H3 H' → LE (tVar 2) [some (.ref p), some (.str (Str.join " " ws)), some (.ref wl), some (.int (s : Int)), some (.int d2), some (.ref l)] H' ws := fun s' => LE.var rfl (s' _ _ hw3)
    have memT : ∀ {z : Str} {k : Nat}, z ∈ ws.take k → z ∈ ws := fun h => List.mem_of_mem_take h
    have memD : ∀ {z : Str} {k : Nat}, z ∈ ws.drop k → z ∈ ws := fun h => List.mem_of_mem_drop h
    have stay : ∀ {H'}, Same' H3 H' → PenAt H' p cc ns (B + 3) := fun s' => (P4.keep s').more (by omega)
    refine ⟨_, rfl, rfl, _, rfl, ite2 (fun e1 => ?_) (fun e1 => ?_)⟩
    · have b : Bent ws (ws.take s ++ ws.drop (s + 1)) := by
        refine ⟨?_, fun z hz => ?_⟩
        · rw [List.length_append, List.length_take, List.length_drop]
          omega
        · rcases List.mem_append.mp hz with hz | hz
          · exact .inl (memT hz)
          · exact .inl (memD hz)
      dsimp only [tRet]
      refine ⟨⟨_, rfl⟩, LE.cat (LE.sl (vw fun _ _ e => e) (fun _ _ r => r) (fun H' R r => ⟨_, rfl, (s : Int), rfl, r⟩) cut_to)
          (fun H' s' => LE.sl (lo := some ((s + 1 : Nat) : Int)) (hi := none) (vw s') (fun H'' R r => ⟨_, rfl, (s : Int), 1, rfl, rfl, _, rfl, r⟩) (fun _ _ r => r) cut_from) (by simp only [List.length_take, List.length_drop]; omega) _ (fun r H' s' e' => fin _ b H' (stay s') (same_off s') r e')⟩
    · refine ⟨_, rfl, rfl, _, rfl, ite2 (fun e2 => ?_) (fun e2 => ?_)⟩
      · have b : Bent ws (ws.take (s + 1) ++ ws.drop s) := by
          refine ⟨?_, fun z hz => ?_⟩
          · rw [List.length_append, List.length_take, List.length_drop]
            omega
          · rcases List.mem_append.mp hz with hz | hz
            · exact .inl (memT hz)
            · exact .inl (memD hz)
        dsimp only [tRet]
        refine ⟨⟨_, rfl⟩, LE.cat (LE.sl (hi := some ((s + 1 : Nat) : Int)) (vw fun _ _ e => e) (fun _ _ r => r) (fun H' R r => ⟨_, rfl, (s : Int), 1, rfl, rfl, _, rfl, r⟩) cut_to)
            (fun H' s' => LE.sl (lo := some (s : Int)) (hi := none) (vw s') (fun H'' R r => ⟨_, rfl, (s : Int), rfl, r⟩) (fun _ _ r => r) cut_from) (by simp only [List.length_take, List.length_drop]; omega) _ (fun r H' s' e' => fin _ b H' (stay s') (same_off s') r e')⟩
      · -- with a word that is picked
        have bt : ∀ od ∈ odds, ∀ k, s ≤ k → Bent ws ((ws.take s ++ [od]) ++ ws.drop k) := by
          intro od hod k hk
          refine ⟨?_, fun z hz => ?_⟩
          · rw [List.length_append, List.length_append, List.length_take, List.length_drop, List.length_singleton]
            omega
          · rcases List.mem_append.mp hz with hz | hz
            · rcases List.mem_append.mp hz with hz | hz
              · exact .inl (memT hz)
              · exact .inr (by rw [List.mem_singleton.mp hz]; exact hod)
            · exact .inl (memD hz)
        have step : ∀ (H4 : Hp) (p1 : Addr), Same' H3 H4 → H4 p1 = some (.lst (vsS (ws.take s))) → ∀ (R : VK),
            (∀ od ∈ odds, ∀ p3 H6, PenAt H6 p cc ns (B + 3) → Off p H3 H6 → H6 wl = some (.lst (vsS ws)) → H6 p3 = some (.lst (vsS (ws.take s ++ [od]))) → R (.ref p3) H6) →
            (∀ v H5, v ∈ vsS odds → PenAt H5 p cc ns (B + 1 + 1 + 1) → Off p H4 H5 → 1 ≤ sizeLine ∧ ∀ p2, H5 p2 = none → rCat (.ref p1) (.ref p2) (upd H5 p2 (.lst [v])) R) := by
          intro H4 p1 s4 e4 R hR v H5 hv P5 o5
          refine ⟨by show 1 ≤ sizeLine; decide, fun p2 hp2 => ?_⟩
          obtain ⟨od, hod, rfl⟩ := List.mem_map.mp hv
          have P4' : PenAt H4 p cc ns (B + 1 + 1) := P4.keep s4
          have n1 := pen_strs P4' e4
          have k2 := same_new (o := .lst [V.str od]) hp2
          refine ⟨p1, p2, vsS (ws.take s), [V.str od], rfl, rfl, k2 _ _ (o5 _ _ n1 e4), upd_same, by rw [List.length_map, List.length_take, List.length_singleton]; exact le_big (by omega), fun p3 hp3 => ?_⟩
          have k3' := same_new (o := .lst (vsS (ws.take s) ++ [V.str od])) hp3
          refine hR od hod p3 _ ((((P5.keep k2).keep k3')).more (by omega)) (fun b o nb e => k3' _ _ (k2 _ _ (o5 _ _ nb (s4 _ _ e)))) (k3' _ _ (k2 _ _ (o5 _ _ nw (s4 _ _ hw3)))) ?_
          rw [upd_same]
          show some (HO.lst (List.map V.str (ws.take s) ++ [V.str od])) = some (HO.lst (List.map V.str (ws.take s ++ [od])))
          rw [List.map_append]
          rfl
        have vw6 : ∀ {H6}, H6 wl = some (.lst (vsS ws)) → LE (tVar 2) [some (.ref p), some (.str (Str.join " " ws)), some (.ref wl), some (.int (s : Int)), some (.int d2), some (.ref l)] H6 ws := fun e => LE.var rfl e
        have pickA : ∀ {H4 : Hp} {R : VK}, Same' H3 H4 → (∀ v H5, v ∈ vsS odds → PenAt H5 p cc ns (B + 1 + 1 + 1) → Off p H4 H5 → R v H5) → spPick [.ref p, .ref l] H4 R (fun _ _ _ => False) := fun {H4 R} s4 hR =>
          ⟨p, cc, ns, B + 1 + 1, .ref l, vsS odds, rfl, P4.keep s4, by omega, .inl ⟨l, rfl, nl, s4 _ _ hl3⟩, by decide, by decide, hR⟩
        refine ⟨_, rfl, rfl, _, rfl, ite2 (fun e3 => ?_) (fun e3 => ?_)⟩
        · dsimp only [tRet]
          refine ⟨⟨_, rfl⟩, LE.sl (vw fun _ _ e => e) (fun _ _ r => r) (fun H' R r => ⟨_, rfl, (s : Int), rfl, r⟩) cut_to _ (fun p1 H4 s4 e4 => ⟨_, rfl, _, rfl, pickA s4 (step H4 p1 s4 e4 _ (fun od hod p3 H6 P6 o6 w6 e6 => ?_))⟩)⟩
          refine LE.sl (lo := some (s : Int)) (hi := none) (vw6 w6) (fun H'' R r => ⟨_, rfl, (s : Int), rfl, r⟩) (fun _ _ r => r) cut_from _ (fun p4 H7 s7 e7 => ?_)
          refine ⟨p3, p4, _, _, rfl, rfl, s7 _ _ e6, e7, by rw [List.length_map, List.length_map]; exact le_big (by simp only [List.length_append, List.length_take, List.length_drop, List.length_singleton]; omega), fun p5 hp5 => ?_⟩
          have k5 := same_new (o := .lst (vsS (ws.take s ++ [od]) ++ vsS (ws.drop s))) hp5
          refine fin _ (bt od hod s (Nat.le_refl _)) _ ((P6.keep s7).keep k5) (fun b o nb e => k5 _ _ (s7 _ _ (o6 _ _ nb e))) p5 ?_
          rw [upd_same]
          show some (HO.lst (List.map V.str (ws.take s ++ [od]) ++ List.map V.str (ws.drop s))) = some (HO.lst (List.map V.str (ws.take s ++ [od] ++ ws.drop s)))
          rw [← List.map_append]
        · dsimp only [tRet]
          refine ⟨⟨_, rfl⟩, LE.sl (vw fun _ _ e => e) (fun _ _ r => r) (fun H' R r => ⟨_, rfl, (s : Int), rfl, r⟩) cut_to _ (fun p1 H4 s4 e4 => ⟨_, rfl, _, rfl, pickA s4 (step H4 p1 s4 e4 _ (fun od hod p3 H6 P6 o6 w6 e6 => ?_))⟩)⟩
          refine LE.sl (lo := some ((s + 1 : Nat) : Int)) (hi := none) (vw6 w6) (fun H'' R r => ⟨_, rfl, (s : Int), 1, rfl, rfl, _, rfl, r⟩) (fun _ _ r => r) cut_from _ (fun p4 H7 s7 e7 => ?_)
          refine ⟨p3, p4, _, _, rfl, rfl, s7 _ _ e6, e7, by rw [List.length_map, List.length_map]; exact le_big (by simp only [List.length_append, List.length_take, List.length_drop, List.length_singleton]; omega), fun p5 hp5 => ?_⟩
          have k5 := same_new (o := .lst (vsS (ws.take s ++ [od]) ++ vsS (ws.drop (s + 1)))) hp5
          refine fin _ (bt od hod (s + 1) (Nat.le_succ _)) _ ((P6.keep s7).keep k5) (fun b o nb e => k5 _ _ (s7 _ _ (o6 _ _ nb e))) p5 ?_
          rw [upd_same]
          show some (HO.lst (List.map V.str (ws.take s ++ [od]) ++ List.map V.str (ws.drop (s + 1)))) = some (HO.lst (List.map V.str (ws.take s ++ [od] ++ ws.drop (s + 1))))
          rw [← List.map_append]
end
end My
/-! x != y, two lists whose items are equal (own == included): False -/
namespace MyL
open PySem PySem.SeqAt
open AutoSeq1 (wpAny_loadPart')
open MeetsSeq MeetsSeq2 MeetsSeq3 SeqRoads2
section
variable {prog : Program} {w : World} {A : Around} {R : Result → Shared → Prop}
theorem ne_turns (p q : Addr) (m : Nat) (I : Nat → Shared → Prop) (laid : GQ.ListI prog w A (fun e s' => R (.error e) s') p q m I) (stop : ∀ s, I m s → R (.ok (.ret (.bool false))) s) (left : Nat) :
    ∀ j : Nat, m - j = left → j ≤ m → ∀ s, I j s → wpAny (model prog w) A.in1 (Builtin.«list.__eq__.loop» ⟨[.ref p, .ref q, rawInt j, rawInt 3], []⟩) (GQ.FinOf prog w A R) (fun e s' => R (.error e) s') s := by
  induction left with
  | zero =>
    intro j hj le s h
    obtain ⟨us, vs, c, c2, pl, ql, zu, zv, _⟩ := laid _ _ h
    obtain rfl : j = m := by omega
    have out : R (.ok (.ret (.bool false))) s := stop s h
    obtain ⟨hh, gg, dd, tt, oo⟩ := s
    wp_walk using wpAny_loadPart' pl, wpAny_loadPart' ql
    have n1 : us[((j : Nat) : Int).toNat]? = none := by simp; omega
    have n2 : vs[((j : Nat) : Int).toNat]? = none := by simp; omega
    rw [n1, n2]
    wp_walk using wpAny_loadPart' pl, wpAny_loadPart' ql
    show R (.ok (.ret (.bool (us.size != vs.size)))) _
    rw [zu, zv]
    simpa using out
  | succ left ih =>
    intro j hj le s h
    obtain ⟨us, vs, c, c2, pl, ql, zu, zv, one⟩ := laid _ _ h
    have lu : j < us.size := by omega
    have lv : j < vs.size := by omega
    have step := one lu lv
    obtain ⟨hh, gg, dd, tt, oo⟩ := s
    wp_walk using wpAny_loadPart' pl, wpAny_loadPart' ql
    have n1 : us[((j : Nat) : Int).toNat]? = some us[j] := by simp [lu]
    have n2 : vs[((j : Nat) : Int).toNat]? = some vs[j] := by simp [lv]
    have up : ((j : Int) + 1) = ((j + 1 : Nat) : Int) := by omega
    rw [n1, n2]
    refine wpAny_bind (wpAny_mono step (fun r s2 z => ?_) fun _ _ x => x)
    obtain ⟨rfl, z⟩ := z
    have next := ih (j + 1) (by omega) (by omega) s2 z
    obtain ⟨hh2, gg2, dd2, tt2, oo2⟩ := s2
    wp_walk
    rw [up]
    refine ⟨plainId_quiet plain_eq_loop _, codeAny_builtin entry_eq_loop ?_⟩
    rw [Around.under_plainId plain_eq_loop _]
    exact next
theorem ne_all (p q : Addr) (m : Nat) (I : Nat → Shared → Prop) (laid : GQ.ListI prog w A (fun e s' => R (.error e) s') p q m I) (stop : ∀ s, I m s → R (.ok (.ret (.bool false))) s) {s : Shared} (h : I 0 s) :
    wpAny (model prog w) A.in1 (Builtin.«list.__ne__» ⟨[.ref p, .ref q], []⟩) (GQ.FinOf prog w A R) (fun e s' => R (.error e) s') s := by
  obtain ⟨us, vs, c, c2, pl, ql, zu, zv, _⟩ := laid _ _ h
  have run := ne_turns (A := A) (R := R) p q m I laid stop _ 0 rfl (Nat.zero_le _) s h
  obtain ⟨hh, gg, dd, tt, oo⟩ := s
  have below := AutoSeq1.sub_list_list
  have alike : ¬ (us.size != vs.size) = true := by simp [zu, zv]
  wp_walk using wpAny_loadPart' pl, wpAny_loadPart' ql
  refine ⟨plainId_quiet plain_eq_loop _, codeAny_builtin entry_eq_loop ?_⟩
  rw [Around.under_plainId plain_eq_loop _]
  exact run
end
section
variable {prog : Program} {w : World} {A : Around} {E : Value → Shared → Prop} {s : Shared}
theorem rc_ne {p q : Addr} {m : Nat} {Q : Value → Shared → Prop} (hu : A.units < cLine) (I : Nat → Shared → Prop) (laid : GQ.ListI prog w A E p q m I) (stop : ∀ s, I m s → Q (.bool false) s) (h : I 0 s) :
    wpAny (model prog w) A (richCompare .NotEq (.ref p) (.ref q)) Q E s := by
  obtain ⟨us, vs, c, c2, pl, ql, _, _, _⟩ := laid _ _ h
  refine wpAny_richCompare_same_room (op := .NotEq) ⟨_, pl, rfl⟩ ⟨_, ql, rfl⟩ F.slot_list_ne (GQ.call_here F.slot_list_ne ⟨_, pl, rfl⟩ F.entry_list_ne (F.args_list_ne_2 _ _) ?_) hu
  exact ne_all (R := wants (fun v s' => v ≠ .notImplemented ∧ Q v s') E) p q m I laid (fun s' z => ⟨(fun x => nomatch x), stop s' z⟩) h
end
end MyL
namespace My
open PySem PySem.Spec PyProof.Rows L2
def rNeGL (D : Eqv) : R2 := fun x y H Q => D x y H ∧ ∀ H', Ext H H' → Q (.bl false) H'
theorem op_neLst {X : Cx} {n : Nat} {D : Eqv} (hD : Mon D) (h : EqG X n D) (hr : Room (n + 1) X.A) : OpR X (compareOp .NotEq) (rNeGL (DList D)) := by
  intro pins s σ H x y u v Q I rx ry hq
  obtain ⟨d, q⟩ := hq
  have sb : Sub X (n + 1) X.A := ⟨hr, rfl⟩
  obtain ⟨a, b, xs, ys, rfl, rfl, ha, hb, pr⟩ := d
  cases rx
  cases ry
  show wpAny (model X.prog X.w) X.A (richCompare .NotEq (.ref a) (.ref b)) (EP X pins σ Q) X.xe s
  refine MyL.rc_ne (m := xs.length) sb.room.units0 (fun _ s' => LoopI X pins σ H s') (fun i s' l => ?_) (fun s' l => ?_) ⟨H, I, Ext.rfl'⟩
  · obtain ⟨H1, I1, ex⟩ := id l
    obtain ⟨z, its, k, r, e⟩ := I1.hok a _ (ex _ _ ha)
    obtain ⟨z2, its2, k2, r2, e2⟩ := I1.hok b _ (ex _ _ hb)
    refine ⟨its.toArray, its2.toArray, k, k2, e, e2, by rw [List.size_toArray, ← r.length], by rw [List.size_toArray, ← r2.length, ← pr.1], fun h1 h2 => ?_⟩
    exact turnG hD h sb pr r r2 i h1 h2 s' l
  · obtain ⟨H', I', ex⟩ := l
    exact ⟨.bl false, H', I', rfl, q H' ex⟩
end My
namespace My
open PySem PySem.Spec PyProof.Rows L2
open LamX (ExtN Tabs TabS TabB lamSB lamS_by tLam lamCx)
/-! ### what is read is written so -/
theorem str_ext {x y : Str} (h : x.cps = y.cps) : x = y := by
  cases x
  cases y
  exact congrArg _ h
theorem app_assoc (x y z : Str) : x ++ y ++ z = x ++ (y ++ z) := str_ext (by simp only [PySem.Str.cps_append, Array.append_assoc])
theorem nextF_ok {ws : List Str} {k : Nat} {c : HD × Nat} (h : nextF ws k = .ok c) :
    (∃ n v, ws[k]? = some ("cell" : Str) ∧ nameR ws (k + 1) = some n ∧ figR ws (k + 2) = some v ∧ c = (.cell n (v : Nat), k + 3)) ∨ (∃ n, ws[k]? = some ("log" : Str) ∧ nameR ws (k + 1) = some n ∧ c = (.log n, k + 2)) ∨
    (∃ n, ws[k]? = some ("failure" : Str) ∧ nameR ws (k + 1) = some n ∧ c = (.fail n, k + 2)) ∨ (ws[k]? = some ("choice" : Str) ∧ c = (.cho, k + 1)) := by
  unfold nextF at h
  by_cases h1 : ws[k]? = some ("cell" : Str)
  · rw [if_pos h1] at h
    cases hn : nameR ws (k + 1) with
    | none => rw [hn] at h; cases h
    | some n =>
      rw [hn] at h
      dsimp only at h
      cases hf : figR ws (k + 2) with
      | none => rw [hf] at h; cases h
      | some v =>
        rw [hf] at h
        injection h with h
        exact .inl ⟨n, v, h1, rfl, rfl, h.symm⟩
  · rw [if_neg h1] at h
    by_cases h2 : ws[k]? = some ("log" : Str)
    · rw [if_pos h2] at h
      cases hn : nameR ws (k + 1) with
      | none => rw [hn] at h; cases h
      | some n =>
        rw [hn] at h
        injection h with h
        exact .inr (.inl ⟨n, h2, rfl, h.symm⟩)
    · rw [if_neg h2] at h
      by_cases h3 : ws[k]? = some ("failure" : Str)
      · rw [if_pos h3] at h
        cases hn : nameR ws (k + 1) with
        | none => rw [hn] at h; cases h
        | some n =>
          rw [hn] at h
          injection h with h
          exact .inr (.inr (.inl ⟨n, h3, rfl, h.symm⟩))
      · rw [if_neg h3] at h
        by_cases h4 : ws[k]? = some ("choice" : Str)
        · rw [if_pos h4] at h
          injection h with h
          exact .inr (.inr (.inr ⟨h4, h.symm⟩))
        · rw [if_neg h4] at h
          cases h
theorem list3 {ws : List Str} {x y z : Str} (h0 : ws[0]? = some x) (h1 : ws[1]? = some y) (h2 : ws[2]? = some z) (hl : ws.length = 3) : ws = [x, y, z] := by
  match ws, hl with
  | [a, b, c], _ =>
    injection h0 with h0
    injection h1 with h1
    injection h2 with h2
    rw [h0, h1, h2]
theorem list2 {ws : List Str} {x y : Str} (h0 : ws[0]? = some x) (h1 : ws[1]? = some y) (hl : ws.length = 2) : ws = [x, y] := by
  match ws, hl with
  | [a, b], _ =>
    injection h0 with h0
    injection h1 with h1
    rw [h0, h1]
theorem list1 {ws : List Str} {x : Str} (h0 : ws[0]? = some x) (hl : ws.length = 1) : ws = [x] := by
  match ws, hl with
  | [a], _ =>
    injection h0 with h0
    rw [h0]
theorem lead : (Str.empty ++ "cell ") = ("cell" ++ " " : Str) ∧ (Str.empty ++ "log ") = ("log" ++ " " : Str) ∧ (Str.empty ++ "failure ") = ("failure" ++ " " : Str) := by decide +kernel
/-- what may be read is small -/
structure ReadOk (kd : HD) : Prop where
  nl : kd.nm.length ≤ 1000
  tl : ∀ n z, kd = .cell n z → z.natAbs.log2 < 1920 ∧ kd.text.length ≤ 2000
theorem fig_len : ∀ v, v < 5 → (fig v).length ≤ 1 := by decide +kernel
theorem nm_len {z : Str} (h : nm z = true) : z.length ≤ 8 := by
  unfold nm at h
  simp only [Bool.and_eq_true] at h
  have := h.1
  unfold wd at this
  simp only [Bool.and_eq_true, decide_eq_true_eq] at this
  exact this.1.2
theorem readF_text {ws : List Str} {kd : HD} (h : readF ws = .ok kd) : kd.text = Str.join " " ws ∧ ReadOk kd := by
  obtain ⟨l1, l2, l3⟩ := lead
  unfold readF at h
  cases hn : nextF ws 0 with
  | error j => rw [hn] at h; cases h
  | ok c =>
    rw [hn] at h
    dsimp only at h
    by_cases e : c.2 = ws.length
    · rw [if_pos e] at h
      injection h with h
      subst h
      rcases nextF_ok hn with ⟨n, v, w0, w1, w2, rfl⟩ | ⟨n, w0, w1, rfl⟩ | ⟨n, w0, w1, rfl⟩ | ⟨w0, rfl⟩
      · obtain ⟨a1, a2⟩ := nameR_some w1
        obtain ⟨b1, b2, b3⟩ := figR_some w2
        rw [list3 w0 a1 b1 e.symm]
        have tx : (HD.cell n (v : Nat)).text = (((Str.empty ++ "cell ") ++ n) ++ " ") ++ fig v := rfl
        have ll : (Str.empty ++ "cell " : Str).length = 5 := by decide +kernel
        have one : (" " : Str).length = 1 := by decide +kernel
        have fl := fig_len v (by omega)
        have nl := nm_len a2
        refine ⟨?_, ⟨by show n.length ≤ 1000; omega, fun n' z e2 => ?_⟩⟩
        · rw [tx, l1]
          show _ = "cell" ++ " " ++ (n ++ " " ++ fig v)
          simp only [app_assoc]
        · injection e2 with _ e2
          subst e2
          refine ⟨?_, ?_⟩
          · rw [Int.natAbs_natCast]
            exact Nat.lt_of_le_of_lt (Nat.log2_le_self _) (by omega)
          · rw [tx, len_app, len_app, len_app, ll, one]
            omega
      · obtain ⟨a1, a2⟩ := nameR_some w1
        rw [list2 w0 a1 e.symm]
        have nl := nm_len a2
        refine ⟨?_, ⟨by show n.length ≤ 1000; omega, fun n' z e2 => by cases e2⟩⟩
        show (Str.empty ++ "log ") ++ n = "log" ++ " " ++ n
        rw [l2]
      · obtain ⟨a1, a2⟩ := nameR_some w1
        rw [list2 w0 a1 e.symm]
        have nl := nm_len a2
        refine ⟨?_, ⟨by show n.length ≤ 1000; omega, fun n' z e2 => by cases e2⟩⟩
        show (Str.empty ++ "failure ") ++ n = "failure" ++ " " ++ n
        rw [l3]
      · rw [list1 w0 e.symm]
        exact ⟨rfl, ⟨by show ("choice" : Str).length ≤ 1000; decide +kernel, fun n' z e2 => by cases e2⟩⟩
    · rw [if_neg e] at h
      cases h
/-! ### the words of a row -/
def wordsH : HD → List Str
  | .cell n z => ["cell", n, (toString z : Str)]
  | .log n => ["log", n]
  | .fail n => ["failure", n]
  | .cho => ["choice"]
def okB (r : Except Nat HD) (k : HD) : Bool := match r with
  | .ok kd => decide (kd = k)
  | .error _ => false
theorem rows_words : ∀ k ∈ rows, k.text = Str.join " " (wordsH k) ∧ okB (readF (wordsH k)) k = true ∧ (wordsH k).length ≤ 3 ∧ ∀ z ∈ wordsH k, z ∈ toks := by decide +kernel
theorem rows_lw {k : HD} (h : k ∈ rows) : Lw (wordsH k) 3 ∧ k.text = Str.join " " (wordsH k) ∧ readF (wordsH k) = .ok k := by
  obtain ⟨a, b, c, d⟩ := rows_words k h
  refine ⟨⟨by cases k <;> simp [wordsH], c, fun z hz => tok_in (d z hz)⟩, a, ?_⟩
  cases e : readF (wordsH k) with
  | error j => rw [e] at b; cases b
  | ok kd =>
    rw [e] at b
    rw [of_decide_eq_true b]
theorem Lw.lineOk {ws : List Str} {n : Nat} (L : Lw ws n) (h : n ≤ 100) : LineOk (Str.join " " ws) ws := by
  have l := L.line h
  exact ⟨l.sp, l.zl, l.wl, l.yl⟩
/-! ### the parts -/
structure FnB (P : Program) (w : World) (K : PySem.W.Frag) (mg : Str → Option Value) (base : Heap) (k : Nat) (x : Str) (st : Stmt) (f : Addr) (fd : FuncData) (ps : List Str) (sp : Sp) : Prop where
  F : Fun K x x st f fd
  b : Binds K fd ps []
  g : mg x = some (.ref f)
  G : FnOk P w K mg base CX0 k f fd ps sp
structure FnBG (P : Program) (w : World) (K : PySem.W.Frag) (mg : Str → Option Value) (base : Heap) (k : Nat) (x : Str) (f : Addr) (fd : FuncData) (ps : List Str) (sp : Sp) : Prop where
  kp : PySem.W.keepIn K (.ref f) = true
  b : Binds K fd ps []
  g : mg x = some (.ref f)
  G : FnG P w K mg base CX0 k f fd ps sp
structure RR (P : Program) (w : World) (K : PySem.W.Frag) (mg : Str → Option Value) (base : Heap) (A : A4) (P0 bN bK bT bH fI3 : Addr) (dI3 : FuncData) (fX : Nat → Addr) (dX : Nat → FuncData) : Prop where
  T : Txt mg
  S : Hand K mg A
  O : Owns P w K mg base A
  Ba : Bases K mg A bN bK bT bH
  made : FnB P w K mg base 8 "_law_made" sMade (fX 0) (dX 0) ["_law_row_here"] (spMade A)
  pick : FnB P w K mg base 2 "_law_pick" sPick (fX 1) (dX 1) ["_law_pen_here", "_law_some"] spPick
  due : FnB P w K mg base 2 "_law_due" sDue (fX 2) (dX 2) ["_law_line"] spDue
  bent : FnB P w K mg base 3 "_law_bent" sBent (fX 3) (dX 3) ["_law_pen_here", "_law_line"] spBent
  read : FnBG P w K mg base 13 "_law_read" (fX 4) (dX 4) ["_law_pen_here", "_law_line"] (spReadL K A P0)
  m3 : Mk K A.h fI3
  b3 : Binds K dI3 ["self"] []
  G3 : FnOk P w K mg base CX0 1 fI3 dI3 ["self"] (spChoI A.h)
  kS : PySem.W.kitOne K (.ref A.h) (.type "str") = some false
abbrev nRR : List Str := ["_law_pen_here", "_law_row_here", "_law_line", "_law_again", "_law_due_here", "_law_heard_here", "_law_odd"]
theorem scRR : FnScope nRR ["_law_pen_here", "_law_row_here"] (defScope sReadR) := ⟨rfl, rfl, rfl, by decide +kernel, rfl, by decide +kernel, by decide +kernel⟩
def inRR (i : Nat) : Stmt := (defBody sReadR).getD i (.Pass ⟨0, 0, 0, 0⟩)
def testIf (s : Stmt) : Expr := match s with
  | .If t _ _ _ => t
  | _ => .Name "x" ⟨0, 0, 0, 0⟩
def forBody (s : Stmt) : List Stmt := match s with
  | .For _ _ b _ _ => b
  | _ => []
abbrev inLp (i : Nat) : Stmt := (forBody (inRR 2)).getD i (.Pass ⟨0, 0, 0, 0⟩)
abbrev XRR (P : Program) (w : World) (K : PySem.W.Frag) (mg : Str → Option Value) (base : Heap) (f : Addr) (cdv : Value) (A : Around) (outer : List Env) (s : Shared) (H : Hp) (E : XK) : Cx := cxOf CX0 P w K mg base nRR "_law_read_right" (defScope sReadR) f cdv A outer s H E
end My
namespace My
open PySem PySem.Spec PyProof.Rows L2
open LamX (ExtN Tabs TabS TabB lamSB lamS_by tLam lamCx)
/-! ### a lap of _law_read_right -/
def rStrR (A : A4) : List V → Hp → VK → Prop := fun xs H Q => ∃ (a : Addr) (k : HD), xs = [.ref a] ∧ IsH A H a k ∧ ReadOk k ∧ Q (.str k.text) H
theorem call_strR {X : Cx} {A : A4} (O : Owns X.prog X.w X.K X.mg X.base A) (hr : Room 3 X.A) (hgu : X.A.guards = some []) : CallR X (.type "str") (rStrR A) := by
  intro pins s σ H xs us Q I r h
  obtain ⟨a, k, rfl, ha, hk, q⟩ := h
  obtain ⟨fE, fT, dE, dT, o⟩ := O k.ix k.ix_lt
  obtain ⟨dx, ea⟩ := id ha
  exact call_strOwn (C := A.at k.ix) (E := fun _ _ _ => False) (toG o.gT) hr hgu o.st o.tf o.bT pass0 pins s σ H _ us Q I r ⟨a, dx, _, rfl, ea, a, k, rfl, rfl, ha, hk.nl, hk.tl, _, rfl, q⟩
/-- what was heard -/
def Hd (A : A4) (H : Hp) (v : V) (r : Except Nat HD) : Prop := match r with
  | .ok kd => ∃ l a, v = .ref l ∧ H l = some (.lst [.ref a]) ∧ IsH A H a kd
  | .error j => ∃ t u, v = .ref t ∧ H u = some (.tup [.int 0, .int (j : Int)]) ∧ H t = some (.tup [.str "text", .ref u])
theorem text_dp {K : PySem.W.Frag} {H : Hp} {t u : Addr} {j : Int} (hu : H u = some (.tup [.int 0, .int j])) (ht : H t = some (.tup [.str "text", .ref u])) : Dp K H (.ref t) (.tuple [.str "text", .tuple [.int 0, .int j]]) :=
  .tup (SqT.of ht) (.cons (.str _) (.cons (.tup (SqT.of hu) (.cons (.int _) (.cons (.int _) .nil))) .nil))
theorem text_ok : PyData.strOk ("text" : Str) = true := by decide +kernel
theorem text_shaped (j : Int) : SeqAt.shaped (.tuple [.str "text", .tuple [.int 0, .int j]]) = true := by
  have h := text_ok
  simp [SeqAt.shaped, PyData.canLay0, PyData.canLayAll0, PyData.depth, PyData.depthAll, h]
theorem text_eqv (j : Int) : PyData.eqv (.tuple [.str "text", .tuple [.int 0, .int j]]) (.tuple [.str "text", .tuple [.int 0, .int j]]) = true := by simp [PyData.eqv, PyData.eqvAll]
section
variable {P : Program} {w : World} {K : PySem.W.Frag} {mg : Str → Option Value} {base : Heap} {A : A4} {P0 bN bK bT bH fI3 : Addr} {dI3 : FuncData} {fX : Nat → Addr} {dX : Nat → FuncData} {f : Addr} {cdv : Value} {A0 : Around} {outer : List Env} {s : Shared} {H0 : Hp} {E : XK}
theorem g0 (Y : RR P w K mg base A P0 bN bK bT bH fI3 dI3 fX dX) (hr : Room 14 (XRR P w K mg base f cdv A0 outer s H0 E).A) : ∃ t, PS (XRR P w K mg base f cdv A0 outer s H0 E) (inLp 0) t ∧ ∀ (p cc : Addr) (ns : List Int) (B : Int) (ws : List Str) (n : Nat) (z1 z3 z4 z5 z6 : Option V) (H : Hp) (D : Ends), PenAt H p cc ns B → B + 4 ≤ 1000 → Lw ws n → n ≤ 90 →
    (∀ ws' H', Lw ws' (n + 1) → PenAt H' p cc ns (B + 3) → Off p H H' → D.nx [some (.ref p), z1, some (.str (Str.join " " ws')), z3, z4, z5, z6] H') → t D [some (.ref p), z1, some (.str (Str.join " " ws)), z3, z4, z5, z6] H := by
  refine ⟨_, ps_set (i := 2) scRR.nd rfl (.inl rfl) (pe_call Y.bent.G (hr.mono (by decide)) (by rfl) Y.bent.g Y.bent.F.kp Y.bent.b .nil pass0 (pa_cons (pv 0) (pa_cons (pv 2) pa_nil))), ?_⟩
  intro p cc ns B ws n z1 z3 z4 z5 z6 H D PA hB L hn q
  exact ⟨_, rfl, _, rfl, p, cc, ns, B, ws, n, rfl, PA, hB, L, hn, fun ws' H' L' P' o => q ws' H' L' P' o⟩
theorem g1 (Y : RR P w K mg base A P0 bN bK bT bH fI3 dI3 fX dX) (hr : Room 14 (XRR P w K mg base f cdv A0 outer s H0 E).A) (hg : (XRR P w K mg base f cdv A0 outer s H0 E).A.guards = some []) : ∃ t, PS (XRR P w K mg base f cdv A0 outer s H0 E) (inLp 1) t ∧
    ∀ (p cc : Addr) (ns : List Int) (B : Int) (ws : List Str) (n : Nat) (z1 z3 z4 z5 z6 : Option V) (H : Hp) (D : Ends), PenAt H p cc ns B → B + 2 ≤ 1000 → Lw ws n → n ≤ 100 → Tabs (T1 P0) H →
    (∀ v H', Hd A H' v (readF ws) → PenAt H' p cc ns (B + 1) → OffT p H H' → Tabs (T1 P0) H' → D.nx [some (.ref p), z1, some (.str (Str.join " " ws)), z3, some (dueV (readF ws)), some v, z6] H') → t D [some (.ref p), z1, some (.str (Str.join " " ws)), z3, z4, z5, z6] H := by
  refine ⟨_, ps_par (i := 4) (j := 5) rfl scRR.nd rfl rfl (by decide) rfl rfl (pa_cons (pe_call Y.due.G (hr.mono (by decide)) (by rfl) Y.due.g Y.due.F.kp Y.due.b .nil pass0 (pa_cons (pv 2) pa_nil)) (pa_cons (pe_callG Y.read.G (hr.mono (by decide)) hg (by rfl) Y.read.g Y.read.kp Y.read.b .nil pass0 (pa_cons (pv 0) (pa_cons (pv 2) pa_nil))) pa_nil)) (by rfl), ?_⟩
  intro p cc ns B ws n z1 z3 z4 z5 z6 H D PA hB L hn tb q
  refine ⟨_, rfl, _, ws, rfl, L.line hn, fun H1 s1 => ?_⟩
  refine ⟨_, rfl, _, rfl, p, cc, ns, B, .str (Str.join " " ws), readF ws, rfl, PA.keep s1, hB, tb.ext s1, fun H' _ => .inl ⟨_, ws, rfl, L.lineOk hn, rfl⟩, fun kd er l a H2 P2 o2 t2 ih hl => ⟨_, _, rfl, ?_⟩, fun j er t u H2 P2 o2 t2 hu ht => ⟨_, _, rfl, ?_⟩⟩
  · refine q (.ref l) H2 ?_ P2 ((OffT.same s1).trans o2) t2
    rw [er]
    exact ⟨l, a, rfl, hl, ih⟩
  · refine q (.ref t) H2 ?_ P2 ((OffT.same s1).trans o2) t2
    rw [er]
    exact ⟨t, u, rfl, hu, ht⟩
theorem g2 (hr : Room 14 (XRR P w K mg base f cdv A0 outer s H0 E).A) : ∃ t, PT (XRR P w K mg base f cdv A0 outer s H0 E) (testIf (inLp 2)) t ∧
    ∀ (r : Except Nat HD) (v : V) (z0 z1 z2 z3 z6 : Option V) (H : Hp) (Q : Bool → Hp → Prop), Hd A H v r → (∀ H', Same' H H' → Q false H') → t [z0, z1, z2, z3, some (dueV r), some v, z6] H Q := by
  have hu : (XRR P w K mg base f cdv A0 outer s H0 E).A.units + 64 < cLine := hr.units
  refine ⟨_, PW.pt (pw_and (pt_cmp (pc_notN (pv 4))) (pw_and1 (pt_cmpR (op_neD hu) (pv 5) (pe_tup (pa_cons pe_str (pa_cons (pe_tup (pa_cons pe_int (pa_cons (pv 4) pa_nil))) pa_nil))) (nomark _)))), ?_⟩
  intro r v z0 z1 z2 z3 z6 H Q hd q
  cases r with
  | ok kd => exact ⟨.non, rfl, _, rfl, iteF (q H fun _ _ e => e)⟩
  | error j =>
    obtain ⟨t, u, rfl, hu', ht⟩ := hd
    refine ⟨.int (j : Int), rfl, _, rfl, iteT ⟨.ref t, rfl, .int (j : Int), rfl, by show 2 ≤ sizeLine; decide, fun u2 hu2 => ?_⟩⟩
    have k1 := same_new (o := .tup [V.int 0, .int (j : Int)]) hu2
    refine ⟨by show 2 ≤ sizeLine; decide, fun t2 ht2 => ?_⟩
    have k2 := same_new (o := .tup [V.str "text", .ref u2]) ht2
    refine ⟨_, _, text_dp (j := (j : Int)) (k2 _ _ (k1 _ _ hu')) (k2 _ _ (k1 _ _ ht)), text_dp (j := (j : Int)) (k2 _ _ upd_same) upd_same, text_shaped _, text_shaped _, _, rfl, ?_⟩
    rw [text_eqv]
    exact q _ (k1.trans k2)
theorem g3 (Y : RR P w K mg base A P0 bN bK bT bH fI3 dI3 fX dX) (hr : Room 14 (XRR P w K mg base f cdv A0 outer s H0 E).A) (hg : (XRR P w K mg base f cdv A0 outer s H0 E).A.guards = some []) : ∃ t, PT (XRR P w K mg base f cdv A0 outer s H0 E) (testIf (inLp 3)) t ∧
    ∀ (ws : List Str) (v : V) (z0 z1 z3 z6 : Option V) (H : Hp) (Q : Bool → Hp → Prop), Hd A H v (readF ws) → Q false H → t [z0, z1, some (.str (Str.join " " ws)), z3, some (dueV (readF ws)), some v, z6] H Q := by
  refine ⟨_, PW.pt (pw_and (pt_cmp (pc_isN (pv 4))) (pw_and1 (PW.pt (pw_or (pt_not (pt_val (pe_callB call_isi (by rfl) Y.T.isi (by decide +kernel) (pa_cons (pv 5) (pa_cons (pe_bltn (by rfl) Y.T.list (by decide +kernel) (show RelV (.ty "list") _ from rfl)) pa_nil)))))
    (pw_or (pt_cmpR op_ne (pe_callTy (call_strR Y.O (hr.mono (by decide)) hg) (by rfl) Y.T.str (by decide +kernel) (pa_cons (pe_ix ix_list (pv 5) pe_int (fun _ _ => rfl)) pa_nil)) (pv 2) (nomark _))
      (pw_or1 (pt_not (pt_val (pe_callB call_isi (by rfl) Y.T.isi (by decide +kernel) (pa_cons (pe_ix ix_list (pv 5) pe_int (fun _ _ => rfl)) (pa_cons (pe_glob (v := .ref bH) rfl Y.Ba.gH rfl) pa_nil))))))))))), ?_⟩
  intro ws v z0 z1 z3 z6 H Q hd q
  cases hr' : readF ws with
  | error j => exact ⟨.int (j : Int), rfl, _, rfl, iteF q⟩
  | ok kd =>
    rw [hr'] at hd
    obtain ⟨l, a, rfl, hl, ih⟩ := hd
    obtain ⟨tx, ro⟩ := readF_text hr'
    refine ⟨.non, rfl, _, rfl, iteT ?_⟩
    refine ⟨.ref l, rfl, .ref l, .ty "list", .type "list", .type "list", true, rfl, .ty "list", .base (.lst hl), kit_ty (by decide +kernel), true, rfl, iteF ?_⟩
    refine ⟨.ref l, rfl, l, _, 0, .ref a, rfl, rfl, SqL.of hl, rfl, a, kd, rfl, ih, ro, .str (Str.join " " ws), rfl, rfl, _, rfl, ?_⟩
    rw [tx]
    refine ite2 (fun e => absurd e (by simp)) (fun _ => ?_)
    exact ⟨.ref l, rfl, l, _, 0, .ref a, rfl, rfl, SqL.of hl, rfl, .ref a, .ref bH, _, .ref bH, true, rfl, .own _, Y.S.ty ih, Y.Ba.kH _ kd.ix_lt, true, rfl, q⟩
end
end My
namespace My
open PySem PySem.Spec PyProof.Rows L2
open LamX (ExtN Tabs TabS TabB lamSB lamS_by tLam lamCx)
/-! ### _law_read_right -/
/-- two handlers that are equal -/
def DH (A : A4) : Eqv := fun x y H => ∃ a b k, x = .ref a ∧ y = .ref b ∧ IsH A H a k ∧ IsH A H b k
theorem mon_dh {A : A4} : Mon (DH A) := fun x y H H' e d => by
  obtain ⟨a, b, k, hx, hy, h1, h2⟩ := d
  exact ⟨a, b, k, hx, hy, h1.keep e, h2.keep e⟩
def SamH (A : A4) (i : Nat) : Addr → Addr → Hp → Prop := fun a b H => ∃ k : HD, k.ix = i ∧ IsH A H a k ∧ IsH A H b k
theorem eqG_dh {X : Cx} {A : A4} (O : Owns X.prog X.w X.K X.mg X.base A) : EqG X 1 (DH A) := by
  intro A1 pins s σ H x y u v sb I rx ry d
  obtain ⟨a, b, k, rfl, rfl, h1, h2⟩ := d
  obtain ⟨fE, fT, dE, dT, o⟩ := O k.ix k.ix_lt
  have imp : ∀ vs H Q E, L2.spEq (SamH A k.ix) vs H Q E → spEq X.K A k.ix vs H Q E := fun vs H Q E h => by
    obtain ⟨a, b, rfl, ⟨k', hk, i1, i2⟩, q⟩ := h
    exact ⟨a, k', .ref b, decide (k' = k'), rfl, hk, i1, .inl ⟨b, k', rfl, i2, rfl⟩, by rw [decide_eq_true (p := k' = k') rfl]; exact q H Ext.rfl'⟩
  have G : FnOk X.prog X.w X.K X.mg X.base CX0 1 fE dE ["self", "other"] (L2.spEq (SamH A k.ix)) := ⟨fun vs H Q E h => o.gE.len _ _ _ _ (imp vs H Q E h), fun A outer s H args us vs Q E r e0 bi re h => o.gE.run A outer s H args us vs Q E r e0 bi re (imp vs H Q E h)⟩
  obtain ⟨dx, e1⟩ := id h1
  obtain ⟨dy, e2⟩ := id h2
  exact eqG_ins (C := A.at k.ix) (E := fun _ _ _ => False) G o.eq o.ef o.bE pass0 A1 pins s σ H (.ref a) (.ref b) u v sb I rx ry ⟨a, b, dx, dy, _, _, rfl, rfl, e1, e2, k, rfl, h1, h2⟩
section
variable {P : Program} {w : World} {K : PySem.W.Frag} {mg : Str → Option Value} {base : Heap} {A : A4} {P0 bN bK bT bH fI3 : Addr} {dI3 : FuncData} {fX : Nat → Addr} {dX : Nat → FuncData} {f : Addr} {cdv : Value} {A0 : Around} {outer : List Env} {s : Shared} {H0 : Hp} {E : XK}
theorem rr0 (Y : RR P w K mg base A P0 bN bK bT bH fI3 dI3 fX dX) (hr : Room 14 (XRR P w K mg base f cdv A0 outer s H0 E).A) (hg : (XRR P w K mg base f cdv A0 outer s H0 E).A.guards = some []) : ∃ t, PS (XRR P w K mg base f cdv A0 outer s H0 E) (inRR 0) t ∧
    ∀ (tr : Addr) (k : HD) (z0 z2 z3 z4 z5 z6 : Option V) (H : Hp) (D : Ends), H tr = some (.tup k.row) → k ∈ rows → (∀ H', Same' H H' → D.nx [z0, some (.ref tr), some (.str k.text), z3, z4, z5, z6] H') → t D [z0, some (.ref tr), z2, z3, z4, z5, z6] H := by
  refine ⟨_, ps_set (i := 2) scRR.nd rfl (.inl rfl) (pe_callTy (call_strH Y.O (hr.mono (by decide)) hg) (by rfl) Y.T.str (by decide +kernel) (pa_cons (pe_call Y.made.G (hr.mono (by decide)) (by rfl) Y.made.g Y.made.F.kp Y.made.b .nil pass0 (pa_cons (pv 1) pa_nil)) pa_nil)), ?_⟩
  intro tr k z0 z2 z3 z4 z5 z6 H D ht hk q
  exact ⟨.ref tr, rfl, tr, k, rfl, hk, ht, fun a H1 s1 ih => ⟨a, k, rfl, ih, hk, q H1 s1⟩⟩
theorem rr1 (Y : RR P w K mg base A P0 bN bK bT bH fI3 dI3 fX dX) (hr : Room 14 (XRR P w K mg base f cdv A0 outer s H0 E).A) (hg : (XRR P w K mg base f cdv A0 outer s H0 E).A.guards = some []) : ∃ t, PT (XRR P w K mg base f cdv A0 outer s H0 E) (testIf (inRR 1)) t ∧
    ∀ (p cc tr : Addr) (ns : List Int) (B : Int) (k : HD) (z3 z4 z5 z6 : Option V) (H : Hp) (Q : Bool → Hp → Prop), PenAt H p cc ns B → B + 2 ≤ 1000 → H tr = some (.tup k.row) → k ∈ rows → Tabs (T1 P0) H →
    (∀ H', PenAt H' p cc ns (B + 1) → OffT p H H' → Tabs (T1 P0) H' → Q false H') → t [some (.ref p), some (.ref tr), some (.str k.text), z3, z4, z5, z6] H Q := by
  refine ⟨_, pt_cmpR (op_neLst mon_dh (eqG_dh Y.O) (hr.mono (by decide))) (pe_callG Y.read.G (hr.mono (by decide)) hg (by rfl) Y.read.g Y.read.kp Y.read.b .nil pass0 (pa_cons (pv 0) (pa_cons (pv 2) pa_nil))) (pe_lst (pa_cons (pe_call Y.made.G (hr.mono (by decide)) (by rfl) Y.made.g Y.made.F.kp Y.made.b .nil pass0 (pa_cons (pv 1) pa_nil)) pa_nil)) (nomark _), ?_⟩
  intro p cc tr ns B k z3 z4 z5 z6 H Q PA hB ht hk tb q
  obtain ⟨L, tx, rd⟩ := rows_lw hk
  obtain ⟨b0, g0, hp, _⟩ := PA.pen
  have ntr : tr ≠ p := fun z => by rw [z, hp] at ht; cases ht
  refine ⟨_, rfl, _, rfl, p, cc, ns, B, .str k.text, .ok k, rfl, PA, hB, tb, fun H' _ => .inl ⟨_, wordsH k, rfl, tx ▸ L.lineOk (by decide), rd.symm⟩, fun kd er l a H2 P2 o2 t2 ih hl => ?_, fun j er => (by cases er)⟩
  injection er with er
  subst er
  refine ⟨.ref tr, rfl, tr, k, rfl, hk, o2 _ _ ntr (fun ps z => by cases z) ht, fun b H3 s3 ib => ⟨by show 1 ≤ sizeLine; decide, fun l2 hl2 => ?_⟩⟩
  have k4 := same_new (o := .lst [V.ref b]) hl2
  have s34 := s3.trans k4
  refine ⟨⟨l, l2, [.ref a], [.ref b], rfl, rfl, s34 _ _ hl, upd_same, Prs.cons ⟨a, b, k, rfl, rfl, ih.keep s34, ib.keep k4⟩ Prs.nil⟩, fun H5 s5 => ⟨_, rfl, ?_⟩⟩
  have st := s34.trans s5
  exact q H5 (P2.keep st) (o2.trans (OffT.same st)) (t2.ext st)
theorem rr3 (Y : RR P w K mg base A P0 bN bK bT bH fI3 dI3 fX dX) (hr : Room 14 (XRR P w K mg base f cdv A0 outer s H0 E).A) : ∃ t, PS (XRR P w K mg base f cdv A0 outer s H0 E) (inRR 3) t ∧
    ∀ (p cc : Addr) (ns : List Int) (B : Int) (z1 z2 z3 z4 z5 z6 : Option V) (H : Hp) (D : Ends), PenAt H p cc ns B → B + 2 ≤ 1000 → Tabs (T1 P0) H →
    (∀ v H', PenAt H' p cc ns (B + 1) → OffT p H H' → Tabs (T1 P0) H' → (∀ H2, OffT p H' H2 → ReadA K H2 v (.error 0)) → D.nx [some (.ref p), z1, z2, z3, z4, z5, some v] H') → t D [some (.ref p), z1, z2, z3, z4, z5, z6] H := by
  refine ⟨_, ps_set (i := 6) scRR.nd rfl (.inl rfl) (pe_call Y.pick.G (hr.mono (by decide)) (by rfl) Y.pick.g Y.pick.F.kp Y.pick.b .nil pass0 (pa_cons (pv 0) (pa_cons (pe_lst (pa_cons pe_non (pa_cons pe_int (pa_cons pe_bl (pa_cons (pe_lst (pa_cons pe_str pa_nil)) (pa_cons (pe_tup (pa_cons pe_str (pa_cons pe_str pa_nil))) (pa_cons pe_dnewK (pa_cons (pe_make0 Y.m3 Y.G3 (hr.mono (by decide)) (by rfl) Y.S.cH.g Y.b3 .nil pass0) pa_nil)))))))) pa_nil))), ?_⟩
  intro p cc ns B z1 z2 z3 z4 z5 z6 H D PA hB tb q
  obtain ⟨b0, g0, hp, _⟩ := PA.pen
  refine ⟨_, rfl, by show 1 ≤ sizeLine; decide, fun l1 h1 => ?_⟩
  have k1 := same_new (o := .lst [V.str "choice"]) h1
  refine ⟨by show 2 ≤ sizeLine; decide, fun t1 ht1 => ?_⟩
  have k2 := k1.trans (same_new (o := .tup [V.str "log", .str "l"]) ht1)
  intro d hd
  have k3 := k2.trans (same_new (o := .dK []) hd)
  intro x dx hx hdx nxd
  refine ⟨x, dx, rfl, upd_same, fun H4 kk ex => ⟨rfl, ?_⟩⟩
  have k4' := made_same hx hdx kk
  have k4 := k3.trans k4'
  have ih : IsH A H4 x .cho := ⟨dx, ex⟩
  refine ⟨by show 7 ≤ sizeLine; decide, fun lo hlo => ?_⟩
  have k5 := same_new (o := .lst [.non, .int 0, .bl true, .ref l1, .ref t1, .ref d, .ref x]) hlo
  have st := k4.trans k5
  have nlo : lo ≠ p := (ne_of_none (k4 _ _ hp) hlo).symm
  have n1 : l1 ≠ p := (ne_of_none hp h1).symm
  have n2 : t1 ≠ p := (ne_of_none (k1 _ _ hp) ht1).symm
  have n3 : d ≠ p := (ne_of_none (k2 _ _ hp) hd).symm
  have n4 : x ≠ p := (ne_of_none (k3 _ _ hp) hx).symm
  have e1 := k5 _ _ (k4' _ _ (same_new (o := .dK []) hd _ _ (same_new (o := .tup [V.str "log", .str "l"]) ht1 _ _ (upd_same (H := H) (a := l1) (o := .lst [V.str "choice"])))))
  have e2 := k5 _ _ (k4' _ _ (same_new (o := .dK []) hd _ _ (upd_same (H := upd H l1 (.lst [V.str "choice"])) (a := t1) (o := .tup [V.str "log", .str "l"]))))
  have e3 := k5 _ _ (k4' _ _ (upd_same (H := upd (upd H l1 (.lst [V.str "choice"])) t1 (.tup [V.str "log", .str "l"])) (a := d) (o := .dK [])))
  have e4 := k5 _ _ ex
  refine ⟨p, cc, ns, B, .ref lo, [.non, .int 0, .bl true, .ref l1, .ref t1, .ref d, .ref x], rfl, PA.keep st, by omega, .inl ⟨lo, rfl, nlo, upd_same⟩, by show 1 ≤ 7; decide, by show 7 ≤ 1000; decide, fun v H6 hv P6 o6 => ?_⟩
  have tb6 := tabs_off (tb.ext st) (st _ _ hp) o6
  refine q v H6 P6 ((OffT.same st).trans (OffT.off o6)) tb6 fun H7 o7 => .inr ⟨fun H8 s8 => ?_, rfl⟩
  have go : ∀ {a : Addr} {o : HO}, a ≠ p → (∀ ps, o ≠ .tbl ps) → (upd H4 lo (.lst [.non, .int 0, .bl true, .ref l1, .ref t1, .ref d, .ref x])) a = some o → H8 a = some o := fun n t e => s8 _ _ (o7 _ _ n t (o6 _ _ n e))
  simp only [List.mem_cons, List.not_mem_nil, or_false] at hv
  rcases hv with rfl | rfl | rfl | rfl | rfl | rfl | rfl
  · exact ⟨_, .base .non, kit_ty (by decide +kernel)⟩
  · exact ⟨_, .base (.int _), kit_ty (by decide +kernel)⟩
  · exact ⟨_, .base (.bl _), kit_ty (by decide +kernel)⟩
  · exact ⟨_, .base (.lst (go n1 (fun _ z => by cases z) e1)), kit_ty (by decide +kernel)⟩
  · exact ⟨_, .base (.tup (go n2 (fun _ z => by cases z) e2)), kit_ty (by decide +kernel)⟩
  · exact ⟨_, .base (.dK (go n3 (fun _ z => by cases z) e3)), kit_ty (by decide +kernel)⟩
  · exact ⟨_, Y.S.ty (k := .cho) ⟨dx, go n4 (fun _ z => by cases z) e4⟩, Y.kS⟩
theorem rr4 (Y : RR P w K mg base A P0 bN bK bT bH fI3 dI3 fX dX) (hr : Room 14 (XRR P w K mg base f cdv A0 outer s H0 E).A) (hg : (XRR P w K mg base f cdv A0 outer s H0 E).A.guards = some []) : ∃ t, PS (XRR P w K mg base f cdv A0 outer s H0 E) (inRR 4) t ∧
    ∀ (p cc : Addr) (ns : List Int) (B : Int) (v : V) (z1 z2 z3 z4 z5 : Option V) (H : Hp) (D : Ends), PenAt H p cc ns B → B + 2 ≤ 1000 → Tabs (T1 P0) H → (∀ H2, OffT p H H2 → ReadA K H2 v (.error 0)) →
    (∀ H', PenAt H' p cc ns (B + 1) → OffT p H H' → Tabs (T1 P0) H' → D.rt (.bl true) H') → t D [some (.ref p), z1, z2, z3, z4, z5, some v] H := by
  have hu : (XRR P w K mg base f cdv A0 outer s H0 E).A.units + 64 < cLine := hr.units
  refine ⟨_, ps_ret (pe_cmpR (op_eqD hu) (pe_callG Y.read.G (hr.mono (by decide)) hg (by rfl) Y.read.g Y.read.kp Y.read.b .nil pass0 (pa_cons (pv 0) (pa_cons (pv 6) pa_nil))) (pe_tup (pa_cons pe_str (pa_cons (pe_tup (pa_cons pe_int (pa_cons pe_int pa_nil))) pa_nil))) (nomark _)), ?_⟩
  intro p cc ns B v z1 z2 z3 z4 z5 H D PA hB tb ra q
  refine ⟨_, rfl, _, rfl, p, cc, ns, B, v, .error 0, rfl, PA, hB, tb, ra, fun kd er => (by cases er), fun j er t u H2 P2 o2 t2 hu' ht => ?_⟩
  injection er with er
  subst er
  refine ⟨by show 2 ≤ sizeLine; decide, fun u2 hu2 => ?_⟩
  have k1 := same_new (o := .tup [V.int 0, .int 0]) hu2
  refine ⟨by show 2 ≤ sizeLine; decide, fun t3 ht3 => ?_⟩
  have k2 := same_new (o := .tup [V.str "text", .ref u2]) ht3
  have kk := k1.trans k2
  refine ⟨_, _, text_dp (j := 0) (kk _ _ hu') (kk _ _ ht), text_dp (j := 0) (k2 _ _ upd_same) upd_same, text_shaped _, text_shaped _, ?_⟩
  rw [text_eqv]
  exact q _ (P2.keep kk) (o2.trans (OffT.same kk)) (t2.ext kk)
end
end My
namespace My
open PySem PySem.Spec PyProof.Rows L2
open LamX (ExtN Tabs TabS TabB lamSB lamS_by tLam lamCx)
def spReadR (P0 : Addr) : Sp := fun vs H Q _ => ∃ (p cc tr : Addr) (ns : List Int) (B : Int) (k : HD), vs = [.ref p, .ref tr] ∧ PenAt H p cc ns B ∧ B + 20 ≤ 1000 ∧ H tr = some (.tup k.row) ∧ k ∈ rows ∧ Tabs (T1 P0) H ∧
  ∀ H', PenAt H' p cc ns (B + 15) → OffT p H H' → Tabs (T1 P0) H' → Q (.bl true) H'
theorem ok_readR {P : Program} {w : World} {K : PySem.W.Frag} {mg : Str → Option Value} {base : Heap} {A : A4} {P0 bN bK bT bH fI3 f : Addr} {dI3 fd : FuncData} {fX : Nat → Addr} {dX : Nat → FuncData} (F : Fun K "_law_read_right" "_law_read_right" sReadR f fd)
    (Y : RR P w K mg base A P0 bN bK bT bH fI3 dI3 fX dX) : FnG P w K mg base CX0 15 f fd ["_law_pen_here", "_law_row_here"] (spReadR P0) := by
  refine okG F scRR (fun vs H Q E h => ?_) (fun cdv A0 outer s H vs Q E hr hg h => ?_)
  · obtain ⟨p, cc, tr, ns, B, k, rfl, _⟩ := h
    rfl
  · obtain ⟨p, cc, tr, ns, B, k, rfl, PA, hB, ht, hk, tb, q⟩ := h
    obtain ⟨t0, h0, q0⟩ := rr0 (f := f) (cdv := cdv) (A0 := A0) (outer := outer) (s := s) (H0 := H) (E := E) Y hr hg
    obtain ⟨t1, h1, q1⟩ := rr1 (f := f) (cdv := cdv) (A0 := A0) (outer := outer) (s := s) (H0 := H) (E := E) Y hr hg
    obtain ⟨u0, i0, r0⟩ := g0 (f := f) (cdv := cdv) (A0 := A0) (outer := outer) (s := s) (H0 := H) (E := E) Y hr
    obtain ⟨u1, i1, r1⟩ := g1 (f := f) (cdv := cdv) (A0 := A0) (outer := outer) (s := s) (H0 := H) (E := E) Y hr hg
    obtain ⟨u2, i2, r2⟩ := g2 (P := P) (w := w) (K := K) (mg := mg) (base := base) (A := A) (f := f) (cdv := cdv) (A0 := A0) (outer := outer) (s := s) (H0 := H) (E := E) hr
    obtain ⟨u3, i3, r3⟩ := g3 (f := f) (cdv := cdv) (A0 := A0) (outer := outer) (s := s) (H0 := H) (E := E) Y hr hg
    obtain ⟨t3, h3, q3⟩ := rr3 (f := f) (cdv := cdv) (A0 := A0) (outer := outer) (s := s) (H0 := H) (E := E) Y hr
    obtain ⟨t4, h4, q4⟩ := rr4 (f := f) (cdv := cdv) (A0 := A0) (outer := outer) (s := s) (H0 := H) (E := E) Y hr hg
    refine ⟨_, pss_cons h0 (pss_cons (ps_if h1 (pss_one (ps_ret pe_bl)) pss_nil) (pss_cons (ps_for (passes_of rfl) rfl (pi_range1 (by rfl) Y.T.range (pa_cons pe_int pa_nil)) (pg_name (i := 3) scRR.nd rfl (.inl rfl))
      (pss_cons i0 (pss_cons i1 (pss_cons (ps_if i2 (pss_one (ps_ret pe_bl)) pss_nil) (pss_one (ps_if i3 (pss_one (ps_ret pe_bl)) pss_nil)))))) (pss_cons h3 (pss_one h4)))), ?_⟩
    obtain ⟨L, tx, rd⟩ := rows_lw hk
    obtain ⟨b0, gg0, hp, _⟩ := PA.pen
    have ntr : tr ≠ p := fun z => by rw [z, hp] at ht; cases ht
    refine q0 tr k _ _ _ _ _ _ H _ ht hk fun H1 s1 => ?_
    refine q1 p cc tr ns B k _ _ _ _ H1 _ (PA.keep s1) (by omega) (s1 _ _ ht) hk (tb.ext s1) fun H2 P2 o2 t2 => iteF ?_
    have o12 := (OffT.same s1).trans o2
    refine ⟨3, rfl, by decide, by decide, for_range (n := 3) (fun i σ H' => PenAt H' p cc ns (B + 1 + 4 * (i : Int)) ∧ OffT p H H' ∧ Tabs (T1 P0) H' ∧ ∃ ws z3 z4 z5, Lw ws (3 + i) ∧ σ = [some (.ref p), some (.ref tr), some (.str (Str.join " " ws)), z3, z4, z5, none])
      ⟨P2.more (by simp), o12, t2, wordsH k, _, _, _, L, by rw [← tx]⟩ (fun i σ H' hi hp => ?_) (fun σ H' hp => ?_)⟩
    · obtain ⟨P3, o3, t3', ws, z3, z4, z5, L3, rfl⟩ := hp
      obtain ⟨b3, gg3, hp3, _⟩ := P3.pen
      refine r0 p cc ns _ ws (3 + i) _ _ _ _ _ H' _ P3 (by omega) L3 (by omega) fun ws' H4 L4 P4 o4 => ?_
      refine r1 p cc ns _ ws' (3 + i + 1) _ _ _ _ _ H4 _ P4 (by omega) L4 (by omega) (tabs_off t3' hp3 o4) fun v H5 hd P5 o5 t5 => ?_
      refine r2 (readF ws') v _ _ _ _ _ H5 _ hd fun H6 s6 => iteF ?_
      have hd6 : Hd A H6 v (readF ws') := by
        cases e : readF ws' with
        | ok kd =>
          rw [e] at hd
          obtain ⟨l, a, e1, e2, e3⟩ := hd
          exact ⟨l, a, e1, s6 _ _ e2, e3.keep s6⟩
        | error j =>
          rw [e] at hd
          obtain ⟨t, u, e1, e2, e3⟩ := hd
          exact ⟨t, u, e1, s6 _ _ e2, s6 _ _ e3⟩
      refine r3 ws' v _ _ _ _ H6 _ hd6 (iteF ?_)
      exact ⟨(P5.keep s6).more (by omega), ((o3.trans (OffT.off o4)).trans o5).trans (OffT.same s6), t5.ext s6, ws', _, _, _, L4, rfl⟩
    · obtain ⟨P3, o3, t3', ws, z3, z4, z5, L3, rfl⟩ := hp
      refine q3 p cc ns _ _ _ _ _ _ _ H' _ P3 (by omega) t3' fun v H7 P7 o7 t7 ra => ?_
      refine q4 p cc ns _ v _ _ _ _ _ H7 _ P7 (by omega) t7 ra fun H8 P8 o8 t8 => ?_
      exact q H8 (P8.more (by omega)) ((o3.trans o7).trans o8) t8
end My
namespace My
open PySem PySem.Spec PyProof.Rows L2
open LamX (ExtN Tabs TabS TabB lamSB lamS_by tLam lamCx)
/-! ### the law -/
abbrev PR : Program := PySem.Challenge.rw_layerseen_k15_handlers_that_meet.prog
abbrev nLaw : List Str := ["_law_script", "_law_pen_here", "_law_turn", "_law_row_here", "_law_other", "_law_some", "_law_told", "_law_due_here", "_law_one", "_law_two"]
theorem scLaw : FnScope nLaw ["_law_script"] (defScope sLaw) := ⟨rfl, rfl, rfl, by decide +kernel, rfl, by decide +kernel, by decide +kernel⟩
abbrev XL (w : World) (K : PySem.W.Frag) (mg : Str → Option Value) (base : Heap) (fa : Addr) (cdv : Value) (s : Shared) (H0 : Hp) : Cx := (cxOf CX0 PR w K mg base nLaw "law" (defScope sLaw) fa cdv callerA [] s H0 E0).nox
structure Parts (w : World) (K : PySem.W.Frag) (mg : Str → Option Value) (base : Heap) (A : A4) (P0 bN bK bT bH CT CN CZ : Addr) (dI : Nat → FuncData) (fI : Nat → Addr) (fX : Nat → Addr) (dX : Nat → FuncData) (ds2 : List Value) (mc : Value) (pc gc : Nat → Addr) (dc : Nat → FuncData) : Prop where
  R : RR PR w K mg base A P0 bN bK bT bH (fI 3) (dI 3) fX dX
  pen : FnB PR w K mg base 1 "_law_pen" sPen (fX 5) (dX 5) ["_law_script"] (spPen K)
  row : FnB PR w K mg base 3 "_law_row" sRow (fX 6) (dX 6) ["_law_pen_here"] spRow
  meetR : FnBG PR w K mg base 10 "_law_meet_right" (fX 7) (dX 7) ["_law_pen_here", "_law_row_here", "_law_other"] spMeetR
  readR : FnBG PR w K mg base 15 "_law_read_right" (fX 8) (dX 8) ["_law_pen_here", "_law_row_here"] (spReadR P0)
  meet : MeetK PR w K mg base A bK bT (fX 9) (dX 9)
  mkh : MkH PR w K mg base A CN CZ fI dI
  b01 : Binds K (dI 0) ["self", "name", "size"] ds2
  dv : Vals [V.int 2] ds2
  rK : ReadC PR w K mg base A CT mc "Keeping" bK (pc 0) (gc 0) (dc 0) 10
  rT : ReadC PR w K mg base A CT mc "Turning" bT (pc 1) (gc 1) (dc 1) 10
section
variable {w : World} {K : PySem.W.Frag} {mg : Str → Option Value} {base : Heap} {A : A4} {P0 bN bK bT bH CT CN CZ : Addr} {dI : Nat → FuncData} {fI : Nat → Addr} {fX : Nat → Addr} {dX : Nat → FuncData} {ds2 : List Value} {mc : Value} {pc gc : Nat → Addr} {dc : Nat → FuncData} {fa : Addr} {cdv : Value} {s : Shared} {H0 : Hp}
theorem hrX : Room 15 (XL w K mg base fa cdv s H0).A := ⟨rfl, by show 1 + claimMargin + 1 + 3 * 15 + 5 < recursionLimit; decide +kernel, by show 4 + 3 + 16 * 15 + 200 < cLine; decide +kernel⟩
theorem hgX : (XL w K mg base fa cdv s H0).A.guards = some [] := rfl
def inL (i : Nat) : Stmt := (defBody sLaw).getD i (.Pass ⟨0, 0, 0, 0⟩)
abbrev scOut : Scope := { kind := .function, names := [(Str.ofString ".0", .local), (Str.ofString "_law_one", .cell), (Str.ofString "_law_some", .cell)], isGenerator := false, isCoroutine := false }
abbrev scR1 : Scope := { kind := .function, names := [(Str.ofString ".0", .local), (Str.ofString "_law_one", .cell), (Str.ofString "_law_some", .free)], isGenerator := false, isCoroutine := false }
abbrev scR2 : Scope := { kind := .function, names := [(Str.ofString ".0", .local), (Str.ofString "_law_two", .local), (Str.ofString "_law_one", .free)], isGenerator := false, isCoroutine := false }
abbrev X1 (w : World) (K : PySem.W.Frag) (mg : Str → Option Value) (base : Heap) (fa : Addr) (cdv : Value) (s : Shared) (H0 : Hp) (s1 : Shared) (H1 : Hp) (C1 : Addr) (cl1 : List (Str × Addr)) (fp1 : List Addr) : Cx := (XL w K mg base fa cdv s H0).blk s1 H1 scR1 (compEnvC scR1 cl1 C1 (XL w K mg base fa cdv s H0).env) fp1
abbrev X2 (w : World) (K : PySem.W.Frag) (mg : Str → Option Value) (base : Heap) (fa : Addr) (cdv : Value) (s : Shared) (H0 : Hp) (s1 : Shared) (H1 : Hp) (C1 : Addr) (cl1 : List (Str × Addr)) (fp1 : List Addr) (s2 : Shared) (H2 : Hp) (C2 : Addr) (cl2 : List (Str × Addr)) (fp2 : List Addr) : Cx := (X1 w K mg base fa cdv s H0 s1 H1 C1 cl1 fp1).blk s2 H2 scR2 (compEnvC scR2 cl2 C2 (X1 w K mg base fa cdv s H0 s1 H1 C1 cl1 fp1).env) fp2
def fourK : List HD := [.cell "x" 2, .log "l", .fail "f", .cho]
/-- the four at their places -/
structure Four (A : A4) (H : Hp) (l a b c d : Addr) : Prop where
  hl : H l = some (.lst [.ref a, .ref b, .ref c, .ref d])
  ia : IsH A H a (.cell "x" 2)
  ib : IsH A H b (.log "l")
  ic : IsH A H c (.fail "f")
  id : IsH A H d .cho
theorem Four.keep {H H' : Hp} {l a b c d : Addr} (h : Four A H l a b c d) (s : Same' H H') : Four A H' l a b c d := ⟨s _ _ h.hl, h.ia.keep s, h.ib.keep s, h.ic.keep s, h.id.keep s⟩
theorem Four.at {H : Hp} {l a b c d : Addr} (F : Four A H l a b c d) {i : Nat} {x : V} (h : ([.ref a, .ref b, .ref c, .ref d] : List V)[i]? = some x) : ∃ (p : Addr) (k : HD), x = .ref p ∧ k.ix = i ∧ i < 4 ∧ IsH A H p k := by
  match i, h with
  | 0, h => injection h with h; exact ⟨a, _, h.symm, rfl, by decide, F.ia⟩
  | 1, h => injection h with h; exact ⟨b, _, h.symm, rfl, by decide, F.ib⟩
  | 2, h => injection h with h; exact ⟨c, _, h.symm, rfl, by decide, F.ic⟩
  | 3, h => injection h with h; exact ⟨d, _, h.symm, rfl, by decide, F.id⟩
def rowB (i : Nat) : List Bool := [meetB i 0, meetB i 1, meetB i 2, meetB i 3]
theorem rowB_at (i : Nat) : ∀ j, j < 4 → (rowB i)[j]? = some (meetB i j)
  | 0, _ => rfl
  | 1, _ => rfl
  | 2, _ => rfl
  | 3, _ => rfl
/-- the rows that are laid -/
structure Rows (H : Hp) (L : Addr) (n : Nat) : Prop where
  ex : ∃ ps : List Addr, H L = some (.lst (ps.map V.ref)) ∧ ps.length = n ∧ ∀ j p, ps[j]? = some p → H p = some (.lst ((rowB j).map V.bl))
theorem isN_four : isN (.str "x") = true ∧ isN (.str "l") = true ∧ isN (.str "f") = true ∧ isZ (.int 2) = true := by decide +kernel
theorem l2s (Y : Parts w K mg base A P0 bN bK bT bH CT CN CZ dI fI fX dX ds2 mc pc gc dc) : ∃ t, PS (XL w K mg base fa cdv s H0) (inL 2) t ∧ ∀ (z0 z1 z2 z3 z4 z5 z6 z7 z8 z9 : Option V) (H : Hp) (D : Ends),
    (∀ l a b c d H', Same' H H' → Four A H' l a b c d → D.nx [z0, z1, z2, z3, z4, some (.ref l), z6, z7, z8, z9] H') → t D [z0, z1, z2, z3, z4, z5, z6, z7, z8, z9] H := by
  have hr : Room 15 (XL w K mg base fa cdv s H0).A := hrX
  refine ⟨_, ps_set (i := 5) scLaw.nd rfl (.inr rfl) (pe_lst (pa_cons (pe_make (E := fun _ _ _ => False) Y.mkh.m0 Y.mkh.G0 (hr.mono (by decide)) (by rfl) Y.R.S.cC.g Y.b01 Y.dv passF (pa_cons pe_str pa_nil)) (pa_cons (pe_make (E := fun _ _ _ => False) Y.mkh.m1 Y.mkh.G1 (hr.mono (by decide)) (by rfl) Y.R.S.cL.g Y.mkh.b1 .nil passF (pa_cons pe_str pa_nil))
    (pa_cons (pe_make (E := fun _ _ _ => False) Y.mkh.m2 Y.mkh.G2 (hr.mono (by decide)) (by rfl) Y.R.S.cF.g Y.mkh.b2 .nil passF (pa_cons pe_str pa_nil)) (pa_cons (pe_make0 Y.mkh.m3 Y.mkh.G3 (hr.mono (by decide)) (by rfl) Y.R.S.cH.g Y.mkh.b3 .nil pass0) pa_nil))))), ?_⟩
  intro z0 z1 z2 z3 z4 z5 z6 z7 z8 z9 H D q
  obtain ⟨n1, n2, n3, zz⟩ := isN_four
  refine cell_made (n := "x") (z := 2) n1 zz (by decide +kernel) fun a H1 s1 ia => ?_
  refine named_made (k := .log "l") (n := "l") rfl n2 (by decide +kernel) fun b H2 s2 ib => ?_
  refine named_made (k := .fail "f") (n := "f") rfl n3 (by decide +kernel) fun c H3 s3 ic => ?_
  intro d dx hd hdx nxd
  refine ⟨d, dx, rfl, upd_same, fun H4 kk e1 => ⟨rfl, by show 4 ≤ sizeLine; decide, fun l hl => ?_⟩⟩
  have s4 := made_same hd hdx kk
  have k5 := same_new (o := .lst [V.ref a, .ref b, .ref c, .ref d]) hl
  exact q l a b c d _ ((((s1.trans s2).trans s3).trans s4).trans k5) ⟨upd_same, (((ia.keep s2).keep s3).keep s4).keep k5, ((ib.keep s3).keep s4).keep k5, (ic.keep s4).keep k5, IsH.keep ⟨dx, e1⟩ k5⟩
theorem l3s (Y : Parts w K mg base A P0 bN bK bT bH CT CN CZ dI fI fX dX ds2 mc pc gc dc) : ∃ t, PS (XL w K mg base fa cdv s H0) (inL 3) t ∧ ∀ (l a b c d : Addr) (z0 z1 z2 z3 z4 z6 z7 z8 z9 : Option V) (H : Hp) (D : Ends), Four A H l a b c d →
    (∀ (L : Addr) (H' : Hp), Same' H H' → Rows H' L 4 → D.nx [z0, z1, z2, z3, z4, some (.ref l), some (.ref L), z7, z8, z9] H') → t D [z0, z1, z2, z3, z4, some (.ref l), z6, z7, z8, z9] H := by
  have hr : Room 15 (XL w K mg base fa cdv s H0).A := hrX
  refine ⟨_, ps_setLc (i := 6) (own := [("_law_one", 8)]) (g := gName 8) (tt := tYes) rfl scLaw.nd rfl rfl (sw_true rfl rfl rfl (by decide +kernel)) (pi_list (pv 5)) (blkOk_by (N := nLaw) (sc := defScope sLaw) (by decide +kernel)) (fun _ _ _ _ _ => pg_name (i := 8) scLaw.nd rfl (Or.inr rfl)) (fun _ _ _ _ _ => pts_nil)
      (fun s1 H1 C1 cl1 fp1 => pe_lc (X := X1 w K mg base fa cdv s H0 s1 H1 C1 cl1 fp1) (own := [("_law_two", 9)]) (g := gName 9) (tt := tYes) rfl scLaw.nd (show PI (X1 w K mg base fa cdv s H0 s1 H1 C1 cl1 fp1) _ _ (iList K (tVar 5)) from pi_list (pv 5)) (blkOk_by (N := nLaw) (sc := scOut) (by decide +kernel)) (fun _ _ _ _ _ => pg_name (i := 9) scLaw.nd rfl (Or.inl rfl)) (fun _ _ _ _ _ => pts_nil)
        (fun s2 H2 C2 cl2 fp2 => show PE (X2 w K mg base fa cdv s H0 s1 H1 C1 cl1 fp1 s2 H2 C2 cl2 fp2) _ (tMethA "meets" (fX 9) K (spMeets K A bK bT) [] E0 (tVar 8) (tCons (tVar 9) tNil)) from pe_methA (m := "meets") (X := X2 w K mg base fa cdv s H0 s1 H1 C1 cl1 fp1 s2 H2 C2 cl2 fp2) (pv (X := X2 w K mg base fa cdv s H0 s1 H1 C1 cl1 fp1 s2 H2 C2 cl2 fp2) 8) Y.meet.G (hr.mono (by decide)) Y.meet.b .nil pass0 (pa_cons (pv (X := X2 w K mg base fa cdv s H0 s1 H1 C1 cl1 fp1 s2 H2 C2 cl2 fp2) 9) pa_nil))), ?_⟩
  intro l a b c d z0 z1 z2 z3 z4 z6 z7 z8 z9 H D F q
  refine ⟨.ref l, rfl, l, rfl, ⟨_, SqL.of F.hl⟩, fun D1 hD => ?_⟩
  refine lc_list (K := K) (a := l) (xs := [.ref a, .ref b, .ref c, .ref d]) (fun i H' => Same' H H' ∧ Rows H' D1 i) ⟨same_new hD, ⟨[], upd_same, rfl, fun j p e => by simp at e⟩⟩ (fun i H' _ hp => SqL.of (hp.1 _ _ F.hl)) (fun i x H' hx hp => ?_) (fun H' hp => ?_)
  · obtain ⟨sm, ⟨ps, e1, e2, e3⟩⟩ := hp
    obtain ⟨pa, k, rfl, hk, hi, ih⟩ := F.at hx
    refine ⟨rfl, ?_⟩
    refine ⟨.ref l, rfl, l, rfl, ⟨_, SqL.of (sm _ _ F.hl)⟩, fun D2 hD2 => ?_⟩
    refine lc_list (K := K) (a := l) (xs := [.ref a, .ref b, .ref c, .ref d]) (fun j H2 => Same' H' H2 ∧ H2 D2 = some (.lst (((rowB i).take j).map V.bl))) ⟨same_new hD2, upd_same⟩ (fun j H2 _ hp => SqL.of (hp.1 _ _ (sm _ _ F.hl))) (fun j y H2 hy hp => ?_) (fun H2 hp => ?_)
    · obtain ⟨sm2, ed⟩ := hp
      obtain ⟨pb, k2, rfl, hk2, hj, ih2⟩ := F.at hy
      refine ⟨rfl, ?_⟩
      have s2 := sm.trans sm2
      refine rd_meets Y.R.S Y.meet rfl (ih.keep s2) ⟨.ref pb, rfl, .ref pa, .ref pb, k.ix, k2.ix, rfl, knd_h Y.R.S Y.R.Ba (ih.keep s2), knd_h Y.R.S Y.R.Ba (ih2.keep s2), ?_⟩
      rw [hk, hk2]
      refine ⟨_, ed, small1000 (by rw [List.length_map, List.length_take]; have : (rowB i).length = 4 := rfl; omega), same_over hD2 sm2, ?_⟩
      rw [upd_same, List.take_add_one, rowB_at i j hj, List.map_append]
      rfl
    · obtain ⟨sm2, ed⟩ := hp
      have full : (rowB i).take ([V.ref a, .ref b, .ref c, .ref d] : List V).length = rowB i := rfl
      rw [full] at ed
      have nd : D2 ≠ D1 := (ne_of_none e1 hD2).symm
      refine ⟨_, sm2 _ _ e1, small1000 (by rw [List.length_map]; omega), same_over hD (sm.trans sm2), ⟨ps ++ [D2], ?_, ?_, fun j p e => ?_⟩⟩
      · rw [upd_same, List.map_append]
        rfl
      · rw [List.length_append, e2]
        rfl
      · by_cases hj : j < ps.length
        · rw [List.getElem?_append_left hj] at e
          have := e3 j p e
          rw [upd_ne (fun z => by rw [z, e1] at this; injection this with this; injection this with this; revert this; cases ps <;> simp [rowB])]
          exact sm2 _ _ this
        · rw [List.getElem?_append_right (by omega)] at e
          have ej : j = ps.length := by
            cases hjj : j - ps.length with
            | zero => omega
            | succ m => rw [hjj] at e; cases e
          subst ej
          rw [Nat.sub_self] at e
          injection e with e
          subst e
          rw [upd_ne nd, e2]
          exact ed
  · obtain ⟨sm, r⟩ := hp
    exact q D1 H' sm r
end
end My
namespace My
open PySem PySem.Spec PyProof.Rows L2
open LamX (ExtN Tabs TabS TabB lamSB lamS_by tLam lamCx)
def rowD (i : Nat) : PyData := .list ((rowB i).map PyData.bool)
theorem dpBools {K : PySem.W.Frag} {H : Hp} : ∀ bs : List Bool, DpAll K H (bs.map V.bl) (bs.map PyData.bool)
  | [] => .nil
  | _ :: r => .cons (.bl _) (dpBools r)
theorem row_dp {K : PySem.W.Frag} {H : Hp} {p : Addr} {i : Nat} (h : H p = some (.lst ((rowB i).map V.bl))) : Dp K H (.ref p) (rowD i) := .lst (SqL.of h) (dpBools _)
abbrev tabD : PyData := .list [rowD 0, rowD 1, rowD 2, rowD 3]
theorem tab_shaped : SeqAt.shaped tabD = true ∧ PyData.eqv tabD tabD = true := by decide +kernel
theorem rows_dp {K : PySem.W.Frag} {H : Hp} {L : Addr} (r : Rows H L 4) : Dp K H (.ref L) tabD := by
  obtain ⟨ps, e1, e2, e3⟩ := r
  match ps, e2 with
  | [a, b, c, d], _ => exact .lst (SqL.of e1) (.cons (row_dp (e3 0 a rfl)) (.cons (row_dp (e3 1 b rfl)) (.cons (row_dp (e3 2 c rfl)) (.cons (row_dp (e3 3 d rfl)) .nil))))
theorem rowB_is : rowB 0 = [false, false, true, true] ∧ rowB 1 = [false, false, true, true] ∧ rowB 2 = [true, true, false, true] ∧ rowB 3 = [true, true, true, false] := by decide +kernel
abbrev lnL : Str := "log l"
abbrev lnC : Str := "cell x 4"
theorem lines_ok : (Txt.split lnL spc = (["log", "l"] : List Str) ∧ okB (readF ["log", "l"]) (.log "l") = true ∧ lnL.length ≤ 100) ∧ (Txt.split lnC spc = (["cell", "x", "4"] : List Str) ∧ okB (readF ["cell", "x", "4"]) (.cell "x" 4) = true ∧ lnC.length ≤ 100) ∧ (∀ y ∈ (["log", "l", "cell", "x", "4"] : List Str), y.length ≤ 100) := by decide +kernel
theorem okB_eq {r : Except Nat HD} {k : HD} (h : okB r k = true) : r = .ok k := by
  cases r with
  | error j => cases h
  | ok kd => rw [of_decide_eq_true h]
theorem tab_nil {P0 : Addr} {H : Hp} (h : H P0 = some (.tbl #[])) : Tabs (T1 P0) H := fun p hp => by
  rw [List.mem_singleton.mp hp]
  exact TabS.nil h
section
variable {w : World} {K : PySem.W.Frag} {mg : Str → Option Value} {A : A4} {P0 bN bK bT bH CT CN CZ : Addr} {dI : Nat → FuncData} {fI : Nat → Addr} {fX : Nat → Addr} {dX : Nat → FuncData} {ds2 : List Value} {mc : Value} {pc gc : Nat → Addr} {dc : Nat → FuncData} {fa : Addr}
theorem law_body {c : Addr} (Z : ∀ base : Heap, K.In base → base.Ns mainGlobals mg → TabB base mg c P0 → Parts w K mg base A P0 bN bK bT bH CT CN CZ dI fI fX dX ds2 mc pc gc dc) :
    LawBodyT PySem.Challenge.rw_layerseen_k15_handlers_that_meet w K mg 63 nLaw "law" sLaw fa c P0 := by
  intro base hKb hNb TB cdv s H a ns hn hP hS
  have Y := Z base hKb hNb TB
  have hr : Room 15 (XL w K mg base fa cdv s H).A := hrX
  have hg : (XL w K mg base fa cdv s H).A.guards = some [] := hgX
  have hu : (XL w K mg base fa cdv s H).A.units + 64 < cLine := hr.units
  obtain ⟨t2, h2, q2⟩ := l2s (fa := fa) (cdv := cdv) (s := s) (H0 := H) Y
  obtain ⟨t3, h3, q3⟩ := l3s (fa := fa) (cdv := cdv) (s := s) (H0 := H) Y
  refine ⟨_, pss_cons (ps_set (i := 1) scLaw.nd rfl (.inl rfl) (pe_call Y.pen.G (hr.mono (by decide)) (by rfl) Y.pen.g Y.pen.F.kp Y.pen.b .nil pass0 (pa_cons (pv 0) pa_nil)))
    (pss_cons (ps_for PassesOwn.never rfl (pi_range1 (by rfl) Y.R.T.range (pa_cons pe_int pa_nil)) (pg_name (i := 2) scLaw.nd rfl (.inl rfl))
      (pss_cons (ps_par (i := 3) (j := 4) rfl scLaw.nd rfl rfl (by decide) rfl rfl (pa_cons (pe_call Y.row.G (hr.mono (by decide)) (by rfl) Y.row.g Y.row.F.kp Y.row.b .nil pass0 (pa_cons (pv 1) pa_nil)) (pa_cons (pe_call Y.row.G (hr.mono (by decide)) (by rfl) Y.row.g Y.row.F.kp Y.row.b .nil pass0 (pa_cons (pv 1) pa_nil)) pa_nil)) (by rfl))
      (pss_one (ps_if (PW.pt (pw_or (pt_not (pt_val (pe_callG Y.meetR.G (hr.mono (by decide)) hg (by rfl) Y.meetR.g Y.meetR.kp Y.meetR.b .nil pass0 (pa_cons (pv 1) (pa_cons (pv 3) (pa_cons (pv 4) pa_nil))))))
        (pw_or1 (pt_not (pt_val (pe_callG Y.readR.G hr hg (by rfl) Y.readR.g Y.readR.kp Y.readR.b .nil pass0 (pa_cons (pv 1) (pa_cons (pv 3) pa_nil)))))))) (pss_one (ps_ret pe_bl)) pss_nil))))
    (pss_cons h2 (pss_cons h3
    (pss_cons (ps_set (i := 7) scLaw.nd rfl (.inl rfl) (pe_lst (pa_cons (pe_lst (pa_cons pe_bl (pa_cons pe_bl (pa_cons pe_bl (pa_cons pe_bl pa_nil))))) (pa_cons (pe_lst (pa_cons pe_bl (pa_cons pe_bl (pa_cons pe_bl (pa_cons pe_bl pa_nil))))) (pa_cons (pe_lst (pa_cons pe_bl (pa_cons pe_bl (pa_cons pe_bl (pa_cons pe_bl pa_nil))))) (pa_cons (pe_lst (pa_cons pe_bl (pa_cons pe_bl (pa_cons pe_bl (pa_cons pe_bl pa_nil))))) pa_nil))))))
    (pss_one (ps_ret (pe_and (pe_cmpR (op_eqD hu) (pv 6) (pv 7) (nomark _))
      (pe_and (pe_callB call_isi (by rfl) Y.R.T.isi (by decide +kernel) (pa_cons (ClX.pe_cmeth (E := fun _ _ _ => False) (pe_glob (v := .ref bK) rfl Y.rK.gl rfl) Y.rK.rd Y.rK.cm Y.rK.raw (hr.mono (by decide)) passF (pa_cons pe_str pa_nil)) (pa_cons (pe_glob (v := .ref A.l) rfl Y.R.S.cL.g rfl) pa_nil)))
      (pe_one (pe_callB call_isi (by rfl) Y.R.T.isi (by decide +kernel) (pa_cons (ClX.pe_cmeth (E := fun _ _ _ => False) (pe_glob (v := .ref bT) rfl Y.rT.gl rfl) Y.rT.rd Y.rT.cm Y.rT.raw (hr.mono (by decide)) passF (pa_cons pe_str pa_nil)) (pa_cons (pe_glob (v := .ref A.c) rfl Y.R.S.cC.g rfl) pa_nil)))))))))))), ?_⟩
  refine ⟨.ref a, rfl, a, ns, rfl, hS, hn, fun p cc H1 sm1 PA1 => ?_⟩
  have tb1 : Tabs (T1 P0) H1 := (tab_nil hP).ext sm1
  refine ⟨9, rfl, by decide, by decide, for_range (lo := 0) (n := 9) (fun i σ H' => ∃ y2 y3 y4 : Option V, σ = [some (.ref a), some (.ref p), y2, y3, y4, none, none, none, none, none] ∧ PenAt H' p cc ns (22 * (i : Int)) ∧ Tabs (T1 P0) H') ⟨none, none, none, rfl, PA1.more (by decide), tb1⟩ (fun i σ H2 hi hp => ?_) (fun σ H2 hp => ?_)⟩
  · obtain ⟨y2, y3, y4, rfl, PA2, tb2⟩ := hp
    obtain ⟨b2, g2, e2, _⟩ := PA2.pen
    refine ⟨.ref p, rfl, p, cc, ns, 22 * (i : Int), rfl, PA2, by omega, fun t k H3 hk ht PA3 off3 => ?_⟩
    obtain ⟨b3, g3, e3, _⟩ := PA3.pen
    refine ⟨.ref p, rfl, p, cc, ns, 22 * (i : Int) + 3, rfl, PA3, by omega, fun t2 k2 H4 hk2 ht2 PA4 off4 => ⟨_, _, rfl, ?_⟩⟩
    obtain ⟨b4, g4, e4, _⟩ := PA4.pen
    have ntp : t ≠ p := fun z => by
      rw [z, e3] at ht
      cases ht
    have ht4 := off4 _ _ ntp ht
    have tb4 := tabs_off (tabs_off tb2 e2 off3) e3 off4
    refine ⟨.ref p, rfl, .ref t, rfl, .ref t2, rfl, p, cc, t, t2, ns, 22 * (i : Int) + 3 + 3, k, k2, rfl, PA4, by omega, ht4, hk, ht2, hk2, fun H5 PA5 off5 => ⟨true, rfl, iteF ?_⟩⟩
    have tb5 := tabs_off tb4 e4 off5
    refine ⟨.ref p, rfl, .ref t, rfl, p, cc, t, ns, 22 * (i : Int) + 3 + 3 + 1, k, rfl, PA5, by omega, off5.tup PA4 ht4, hk, tb5, fun H6 PA6 off6 tb6 => ⟨true, rfl, iteF ?_⟩⟩
    exact ⟨_, _, _, rfl, PA6.more (by omega), tb6⟩
  · obtain ⟨y2, y3, y4, rfl, PA2, tb2⟩ := hp
    refine q2 _ _ _ _ _ _ _ _ _ _ H2 _ fun l a1 b1 c1 d1 H3 s3 F => ?_
    refine q3 l a1 b1 c1 d1 _ _ _ _ _ _ _ _ _ H3 _ F fun L H4 s4 R => ?_
    refine ⟨by show 4 ≤ sizeLine; decide, fun r0 hr0 => ⟨by show 4 ≤ sizeLine; decide, fun r1 hr1 => ⟨by show 4 ≤ sizeLine; decide, fun r2 hr2 => ⟨by show 4 ≤ sizeLine; decide, fun r3 hr3 => ⟨by show 4 ≤ sizeLine; decide, fun r4 hr4 => ?_⟩⟩⟩⟩⟩
    have k0 := same_new (o := .lst [V.bl false, .bl false, .bl true, .bl true]) hr0
    have k1 := same_new (o := .lst [V.bl false, .bl false, .bl true, .bl true]) hr1
    have k2 := same_new (o := .lst [V.bl true, .bl true, .bl false, .bl true]) hr2
    have k3 := same_new (o := .lst [V.bl true, .bl true, .bl true, .bl false]) hr3
    have k4 := same_new (o := .lst [V.ref r0, .ref r1, .ref r2, .ref r3]) hr4
    obtain ⟨i0, i1, i2, i3⟩ := rowB_is
    have R2 : Rows (upd (upd (upd (upd (upd H4 r0 (.lst [V.bl false, .bl false, .bl true, .bl true])) r1 (.lst [V.bl false, .bl false, .bl true, .bl true])) r2 (.lst [V.bl true, .bl true, .bl false, .bl true])) r3 (.lst [V.bl true, .bl true, .bl true, .bl false])) r4 (.lst [V.ref r0, .ref r1, .ref r2, .ref r3])) r4 4 := by
      refine ⟨[r0, r1, r2, r3], upd_same, rfl, fun j p e => ?_⟩
      match j, e with
      | 0, e => injection e with e; subst e; rw [i0]; exact k4 _ _ (k3 _ _ (k2 _ _ (k1 _ _ upd_same)))
      | 1, e => injection e with e; subst e; rw [i1]; exact k4 _ _ (k3 _ _ (k2 _ _ upd_same))
      | 2, e => injection e with e; subst e; rw [i2]; exact k4 _ _ (k3 _ _ upd_same)
      | 3, e => injection e with e; subst e; rw [i3]; exact k4 _ _ upd_same
    have kk := (((k0.trans k1).trans k2).trans k3).trans k4
    obtain ⟨ps, x1, x2, x3⟩ := R
    have R1 : Rows _ L 4 := ⟨ps, kk _ _ x1, x2, fun j p e => kk _ _ (x3 j p e)⟩
    obtain ⟨⟨w1, w2, w3⟩, ⟨v1, v2, v3⟩, yl⟩ := lines_ok
    refine ⟨.ref L, rfl, .ref r4, rfl, tabD, tabD, rows_dp R1, rows_dp R2, tab_shaped.1, tab_shaped.1, _, rfl, ?_⟩
    rw [tab_shaped.2]
    refine iteT ⟨rfl, .ref bK, .str lnL, .ok (.log "l"), rfl, .inl ⟨_, ["log", "l"], rfl, ⟨w1, by omega, by decide, fun y hy => by have := yl y (by simp only [List.mem_cons, List.not_mem_nil, or_false] at hy ⊢; rcases hy with rfl | rfl <;> simp); omega⟩, (okB_eq w2).symm⟩, fun kd e x H6 s6 ih => ?_, fun j e => (by cases e)⟩
    injection e with e
    subst e
    refine ⟨.ref x, .ref A.l, _, .ref A.l, true, rfl, .own _, Y.R.S.ty ih, Y.R.S.kit 1 1 (by decide) (by decide), true, rfl, iteT ?_⟩
    refine ⟨rfl, .ref bT, .str lnC, .ok (.cell "x" 4), rfl, .inl ⟨_, ["cell", "x", "4"], rfl, ⟨v1, by omega, by decide, fun y hy => by have := yl y (by simp only [List.mem_cons, List.not_mem_nil, or_false] at hy ⊢; rcases hy with rfl | rfl | rfl <;> simp); omega⟩, (okB_eq v2).symm⟩, fun kd e x H6 s6 ih => ?_, fun j e => (by cases e)⟩
    injection e with e
    subst e
    exact ⟨.ref x, .ref A.c, _, .ref A.c, true, rfl, .own _, Y.R.S.ty ih, Y.R.S.kit 0 0 (by decide) (by decide), rfl⟩
end
end My
namespace My
open PySem PySem.Spec PyProof.Rows L2
open LamX (ExtN Tabs TabS TabB)
def sayB : List Str → List Value → Bool
  | [], [] => true
  | k :: ks, .str x _ :: vs => decide (x = k) && sayB ks vs
  | _, _ => false
theorem say_of : ∀ (ks : List Str) (vs : List Value), sayB ks vs = true → Vals (ks.map V.str) vs
  | [], [], _ => .nil
  | k :: ks, .str x t :: vs, h => by
    unfold sayB at h
    rw [Bool.and_eq_true] at h
    have e : x = k := of_decide_eq_true h.1
    subst e
    exact .cons ⟨t, rfl⟩ (say_of ks vs h.2)
abbrev t4 {α : Type} (a0 a1 a2 a3 : α) : Nat → α
  | 0 => a0 | 1 => a1 | 2 => a2 | _ => a3
abbrev q6 {α : Type} (a0 a1 a2 a3 a4 a5 : α) : Nat → α
  | 0 => a0 | 1 => a1 | 2 => a2 | 3 => a3 | 4 => a4 | _ => a5
abbrev tw {α : Type} (a4 a6 a7 a8 : α) : Nat → α
  | 4 => a4 | 6 => a6 | 7 => a7 | _ => a8
abbrev t10 {α : Type} (a0 a1 a2 a3 a4 a5 a6 a7 a8 a9 : α) : Nat → α
  | 0 => a0 | 1 => a1 | 2 => a2 | 3 => a3 | 4 => a4 | 5 => a5 | 6 => a6 | 7 => a7 | 8 => a8 | _ => a9
/-! ### what is asked of the written part, decided at once -/
def papB (K : PySem.W.Frag) (C : Addr) : Bool := ["NoneType", "bool", "int", "str"].all fun T => decide (PySem.W.kitOne K (.type T) (.ref C) = some false)
def objB (K : PySem.W.Frag) : Bool := decide (PySem.W.specialIn K (.builtin "object.__class__") "__get__" = some (some (.builtin "getset_descriptor.__get__"))) && decide (PySem.W.takesIn K (.builtin "object.__class__") = some true)
def rdB (K : PySem.W.Frag) (C : Addr) : Bool := PySem.W.readsIn K C (.type "type") && decide (PySem.W.specialIn K (.ref C) "__getattribute__" = some (some (.builtin "type.__getattribute__")))
theorem rd_mk {K : PySem.W.Frag} {C : Addr} (h : rdB K C = true) : ClX.CRead K C (.type "type") := by
  unfold rdB at h
  simp only [Bool.and_eq_true, decide_eq_true_eq] at h
  exact ⟨h.1, h.2⟩
def clsB (K : PySem.W.Frag) (C : Addr) (fs : List Str) : Bool := PySem.W.plainGet K C Str.empty && (PySem.W.hasDictIn K C && (PySem.W.plainOver K C && (decide (PySem.W.findIn K (.ref C) "__setattr__" = some (some (.builtin "object.__setattr__"))) && ((fs.all fun f => decide (PySem.W.findIn K (.ref C) f = some none))
  && (decide (PySem.W.findIn K (.ref C) "__class__" = some (some (.builtin "object.__class__"))) && (decide (PySem.W.mroIn K C (.type "object") = some true) && (PySem.W.makesIn K C && PySem.W.keepIn K (.ref C))))))))
structure ClsF (K : PySem.W.Frag) (C : Addr) (fs : List Str) : Prop where
  c : Cls K C
  no : ∀ f ∈ fs, NoAttr K C f
  dc : PySem.W.findIn K (.ref C) "__class__" = some (some (.builtin "object.__class__"))
  mo : PySem.W.mroIn K C (.type "object") = some true
  ms : PySem.W.makesIn K C = true
  kp : PySem.W.keepIn K (.ref C) = true
theorem cls_mk {K : PySem.W.Frag} {C : Addr} {fs : List Str} (h : clsB K C fs = true) : ClsF K C fs := by
  unfold clsB at h
  simp only [Bool.and_eq_true, decide_eq_true_eq, List.all_eq_true] at h
  obtain ⟨h1, h2, h3, h4, h5, h6, h7, h8, h9⟩ := h
  exact ⟨⟨h1, h2, h3, h4⟩, h5, h6, h7, h8, h9⟩
def excB (K : PySem.W.Frag) (CL C : Addr) (fs : List Str) : Bool := decide (PySem.W.findIn K (.ref C) "__getattribute__" = some (some (.builtin "BaseException.__getattribute__"))) && (decide (PySem.W.findIn K (.ref C) "__getattr__" = some none) && (decide (PySem.W.subIn K (.ref C) (.type "BaseException") = some true) && (PySem.W.hasDictIn K C
  && (decide (PySem.W.findIn K (.ref C) "__class__" = some (some (.builtin "object.__class__"))) && (decide (PySem.W.mroIn K C (.type "object") = some true) && ((fs.all fun f => decide (PySem.W.findIn K (.ref C) f = some none)) && (decide (PySem.W.exmOne K (.ref C) (.ref CL) = some true) && (decide (PySem.W.kitOne K (.ref C) (.ref C) = some true)
  && (decide (PySem.W.kitOne K (.ref C) (.type "ValueError") = some true) && (decide (PySem.W.findIn K (.ref C) "__setattr__" = some (some (.builtin "object.__setattr__"))) && (decide (PySem.W.typeIn K (.ref C) = some (.type "type")) && PySem.W.keepIn K (.ref C))))))))))))
structure ExcF (K : PySem.W.Frag) (CL C : Addr) (fs : List Str) : Prop where
  ec : ExcC K C
  xf : XfC K C
  no : ∀ f ∈ fs, PySem.W.findIn K (.ref C) f = some none
  ex : PySem.W.exmOne K (.ref C) (.ref CL) = some true
  kT : PySem.W.kitOne K (.ref C) (.ref C) = some true
  kV : PySem.W.kitOne K (.ref C) (.type "ValueError") = some true
  sa : PySem.W.findIn K (.ref C) "__setattr__" = some (some (.builtin "object.__setattr__"))
  ty : PySem.W.typeIn K (.ref C) = some (.type "type")
  kp : PySem.W.keepIn K (.ref C) = true
theorem exc_mk {K : PySem.W.Frag} {CL C : Addr} {fs : List Str} (hO : objB K = true) (h : excB K CL C fs = true) : ExcF K CL C fs := by
  unfold objB at hO
  unfold excB at h
  simp only [Bool.and_eq_true, decide_eq_true_eq, List.all_eq_true] at hO h
  obtain ⟨o1, o2⟩ := hO
  obtain ⟨h1, h2, h3, h4, h5, h6, h7, h8, h9, h10, h11, h12, h13⟩ := h
  exact ⟨⟨h1, h2, h3, h4, h5, o1, o2, h6⟩, ⟨h1, h2, h3, h4⟩, h7, h8, h9, h10, h11, h12, h13⟩
theorem pap_mk {K : PySem.W.Frag} {C : Addr} (h : papB K C = true) : ∀ T ∈ ["NoneType", "bool", "int", "str"], PySem.W.kitOne K (.type T) (.ref C) = some false := by
  unfold papB at h
  simp only [List.all_eq_true, decide_eq_true_eq] at h
  exact h
abbrev tys : List String := ["NoneType", "bool", "int", "str", "list", "tuple", "dict"]
def pairB (K : PySem.W.Frag) (A : A4) (bK bT bH : Addr) : Bool := ((List.range 4).all fun i => ((List.range 4).all fun j => decide (PySem.W.kitOne K (.ref (A.at i)) (.ref (A.at j)) = some (decide (i = j))) && PySem.W.notFirst K (A.at i) (.ref (A.at j)))
  && (decide (PySem.W.kitOne K (.ref (A.at i)) (.ref bK) = some (decide (i < 2))) && (decide (PySem.W.kitOne K (.ref (A.at i)) (.ref bT) = some (decide (2 ≤ i))) && decide (PySem.W.kitOne K (.ref (A.at i)) (.ref bH) = some true))))
  && (tys.all fun T => decide (PySem.W.kitOne K (.type T) (.ref bK) = some false) && (decide (PySem.W.kitOne K (.type T) (.ref A.f) = some false) && (decide (PySem.W.kitOne K (.type T) (.ref bT) = some false) && decide (PySem.W.kitOne K (.type T) (.ref A.h) = some false))))
theorem pair_mk {K : PySem.W.Frag} {A : A4} {bK bT bH : Addr} (h : pairB K A bK bT bH = true) : (∀ i j, i < 4 → j < 4 → PySem.W.kitOne K (.ref (A.at i)) (.ref (A.at j)) = some (decide (i = j))) ∧ (∀ i j, i < 4 → j < 4 → PySem.W.notFirst K (A.at i) (.ref (A.at j)) = true) ∧
    (∀ i, i < 4 → PySem.W.kitOne K (.ref (A.at i)) (.ref bK) = some (decide (i < 2))) ∧ (∀ i, i < 4 → PySem.W.kitOne K (.ref (A.at i)) (.ref bT) = some (decide (2 ≤ i))) ∧ (∀ i, i < 4 → PySem.W.kitOne K (.ref (A.at i)) (.ref bH) = some true) ∧
    (∀ T ∈ tys, PySem.W.kitOne K (.type T) (.ref bK) = some false) ∧ (∀ T ∈ tys, PySem.W.kitOne K (.type T) (.ref A.f) = some false) ∧ (∀ T ∈ tys, PySem.W.kitOne K (.type T) (.ref bT) = some false) ∧ (∀ T ∈ tys, PySem.W.kitOne K (.type T) (.ref A.h) = some false) := by
  unfold pairB at h
  simp only [List.all_eq_true, List.mem_range, Bool.and_eq_true, decide_eq_true_eq] at h
  obtain ⟨h, g⟩ := h
  exact ⟨fun i j hi hj => ((h i hi).1 j hj).1, fun i j hi hj => ((h i hi).1 j hj).2, fun i hi => (h i hi).2.1, fun i hi => (h i hi).2.2.1, fun i hi => (h i hi).2.2.2, fun T hT => (g T hT).1, fun T hT => (g T hT).2.1, fun T hT => (g T hT).2.2.1, fun T hT => (g T hT).2.2.2⟩
abbrev fdOf {K : PySem.W.Frag} {x q : Str} {st : Stmt} {f : Addr} {fd : FuncData} (_ : Fun K x q st f fd) : FuncData := fd
abbrev fdD {K : PySem.W.Frag} {x q : Str} {params : Arguments} {body : List Stmt} {scope : Scope} {dvs : List V} {kws : List (Str × V)} {f : Addr} {fd : FuncData} (_ : FunD K x q params body scope dvs kws f fd) : FuncData := fd
theorem all_mk {w : World} {K : PySem.W.Frag} {h : Heap} {mg : Str → Option Value} {fa : Addr} (X : K.In h) (G : h.Ns mainGlobals mg) (hfa : mg "law" = some (.ref fa)) {TT : List Addr} (hT : ∀ P, P ∈ TT → h.get? P = some tab0)
    {f_W : Addr} {od_W an_W : Option Addr} {sl_W : Array (Option Value)} {oc_W kV_W dc_W pm_W cd_W ct_W : Value}
    {f_Y : Addr} {od_Y an_Y : Option Addr} {sl_Y : Array (Option Value)} {oc_Y kV_Y dc_Y pm_Y cd_Y ct_Y : Value}
    {f_D : Addr} {od_D an_D : Option Addr} {sl_D : Array (Option Value)} {oc_D kV_D dc_D pm_D cd_D ct_D : Value}
    {f_N : Addr} {od_N an_N : Option Addr} {sl_N : Array (Option Value)} {oc_N kV_N dc_N pm_N cd_N ct_N : Value}
    {f_C : Addr} {od_C an_C : Option Addr} {sl_C : Array (Option Value)} {oc_C kV_C dc_C pm_C cd_C ct_C : Value}
    {f_nh : Addr} {od_nh an_nh : Option Addr} {sl_nh : Array (Option Value)} {oc_nh kV_nh dc_nh pm_nh cd_nh ct_nh : Value}
    {f_mo : Addr} {od_mo an_mo : Option Addr} {sl_mo : Array (Option Value)} {oc_mo kV_mo dc_mo pm_mo cd_mo ct_mo : Value}
    {f_pe : Addr} {od_pe an_pe : Option Addr} {sl_pe : Array (Option Value)} {oc_pe kV_pe dc_pe pm_pe cd_pe ct_pe : Value}
    {f_dr : Addr} {od_dr an_dr : Option Addr} {sl_dr : Array (Option Value)} {oc_dr kV_dr dc_dr pm_dr cd_dr ct_dr : Value}
    {f_pi : Addr} {od_pi an_pi : Option Addr} {sl_pi : Array (Option Value)} {oc_pi kV_pi dc_pi pm_pi cd_pi ct_pi : Value}
    {f_ro : Addr} {od_ro an_ro : Option Addr} {sl_ro : Array (Option Value)} {oc_ro kV_ro dc_ro pm_ro cd_ro ct_ro : Value}
    {f_ma : Addr} {od_ma an_ma : Option Addr} {sl_ma : Array (Option Value)} {oc_ma kV_ma dc_ma pm_ma cd_ma ct_ma : Value}
    {f_so : Addr} {od_so an_so : Option Addr} {sl_so : Array (Option Value)} {oc_so kV_so dc_so pm_so cd_so ct_so : Value}
    {f_mr : Addr} {od_mr an_mr : Option Addr} {sl_mr : Array (Option Value)} {oc_mr kV_mr dc_mr pm_mr cd_mr ct_mr : Value}
    {f_in : Addr} {od_in an_in : Option Addr} {sl_in : Array (Option Value)} {oc_in kV_in dc_in pm_in cd_in ct_in : Value}
    {f_du : Addr} {od_du an_du : Option Addr} {sl_du : Array (Option Value)} {oc_du kV_du dc_du pm_du cd_du ct_du : Value}
    {f_he : Addr} {od_he an_he : Option Addr} {sl_he : Array (Option Value)} {oc_he kV_he dc_he pm_he cd_he ct_he : Value}
    {f_re : Addr} {od_re an_re : Option Addr} {sl_re : Array (Option Value)} {oc_re kV_re dc_re pm_re  ct_re : Value}
    {f_be : Addr} {od_be an_be : Option Addr} {sl_be : Array (Option Value)} {oc_be kV_be dc_be pm_be cd_be ct_be : Value}
    {f_rr : Addr} {od_rr an_rr : Option Addr} {sl_rr : Array (Option Value)} {oc_rr kV_rr dc_rr pm_rr cd_rr ct_rr : Value}
    {f_la : Addr} {od_la an_la : Option Addr} {sl_la : Array (Option Value)} {oc_la kV_la dc_la pm_la cd_la ct_la : Value}
    {c0 : Addr}
    {c1 : Addr}
    {c2 : Addr}
    {c3 : Addr}
    {bN : Addr}
    {bK : Addr}
    {bT : Addr}
    {bH : Addr}
    {xN : Addr}
    {xZ : Addr}
    {xT : Addr}
    {xL : Addr}
    {xW : Addr}
    {bP : Addr}
    {f_iN : Addr} {od_iN an_iN : Option Addr} {sl_iN : Array (Option Value)} {oc_iN kV_iN dc_iN pm_iN cd_iN ct_iN : Value}
    {f_iZ : Addr} {od_iZ an_iZ : Option Addr} {sl_iZ : Array (Option Value)} {oc_iZ kV_iZ dc_iZ pm_iZ cd_iZ ct_iZ : Value}
    {f_iT : Addr} {od_iT an_iT : Option Addr} {sl_iT : Array (Option Value)} {oc_iT kV_iT dc_iT pm_iT cd_iT ct_iT : Value}
    {f_w0 : Addr} {od_w0 an_w0 : Option Addr} {sl_w0 : Array (Option Value)} {oc_w0 kV_w0 dc_w0 pm_w0 cd_w0 ct_w0 : Value}
    {f_w1 : Addr} {od_w1 an_w1 : Option Addr} {sl_w1 : Array (Option Value)} {oc_w1 kV_w1 dc_w1 pm_w1 cd_w1 ct_w1 : Value}
    {f_w2 : Addr} {od_w2 an_w2 : Option Addr} {sl_w2 : Array (Option Value)} {oc_w2 kV_w2 dc_w2 pm_w2 cd_w2 ct_w2 : Value}
    {f_w3 : Addr} {od_w3 an_w3 : Option Addr} {sl_w3 : Array (Option Value)} {oc_w3 kV_w3 dc_w3 pm_w3 cd_w3 ct_w3 : Value}
    {f_w5 : Addr} {od_w5 an_w5 : Option Addr} {sl_w5 : Array (Option Value)} {oc_w5 kV_w5 dc_w5 pm_w5 cd_w5 ct_w5 : Value}
    {f_w6 : Addr} {od_w6 an_w6 : Option Addr} {sl_w6 : Array (Option Value)} {oc_w6 kV_w6 dc_w6 pm_w6 cd_w6 ct_w6 : Value}
    {f_w10 : Addr} {od_w10 an_w10 : Option Addr} {sl_w10 : Array (Option Value)} {oc_w10 kV_w10 dc_w10 pm_w10 cd_w10 ct_w10 : Value}
    {f_w11 : Addr} {od_w11 an_w11 : Option Addr} {sl_w11 : Array (Option Value)} {oc_w11 kV_w11 dc_w11 pm_w11 cd_w11 ct_w11 : Value}
    {f_w12 : Addr} {od_w12 an_w12 : Option Addr} {sl_w12 : Array (Option Value)} {oc_w12 kV_w12 dc_w12 pm_w12 cd_w12 ct_w12 : Value}
    {f_i0 : Addr} {od_i0 an_i0 : Option Addr} {sl_i0 : Array (Option Value)} {oc_i0 kV_i0 dc_i0 pm_i0 cd_i0 ct_i0 : Value}
    {f_i1 : Addr} {od_i1 an_i1 : Option Addr} {sl_i1 : Array (Option Value)} {oc_i1 kV_i1 dc_i1 pm_i1 cd_i1 ct_i1 : Value}
    {f_i2 : Addr} {od_i2 an_i2 : Option Addr} {sl_i2 : Array (Option Value)} {oc_i2 kV_i2 dc_i2 pm_i2 cd_i2 ct_i2 : Value}
    {f_i3 : Addr} {od_i3 an_i3 : Option Addr} {sl_i3 : Array (Option Value)} {oc_i3 kV_i3 dc_i3 pm_i3 cd_i3 ct_i3 : Value}
    {f_e0 : Addr} {od_e0 an_e0 : Option Addr} {sl_e0 : Array (Option Value)} {oc_e0 kV_e0 dc_e0 pm_e0 cd_e0 ct_e0 : Value}
    {f_e1 : Addr} {od_e1 an_e1 : Option Addr} {sl_e1 : Array (Option Value)} {oc_e1 kV_e1 dc_e1 pm_e1 cd_e1 ct_e1 : Value}
    {f_e2 : Addr} {od_e2 an_e2 : Option Addr} {sl_e2 : Array (Option Value)} {oc_e2 kV_e2 dc_e2 pm_e2 cd_e2 ct_e2 : Value}
    {f_e3 : Addr} {od_e3 an_e3 : Option Addr} {sl_e3 : Array (Option Value)} {oc_e3 kV_e3 dc_e3 pm_e3 cd_e3 ct_e3 : Value}
    {f_t0 : Addr} {od_t0 an_t0 : Option Addr} {sl_t0 : Array (Option Value)} {oc_t0 kV_t0 dc_t0 pm_t0 cd_t0 ct_t0 : Value}
    {f_t1 : Addr} {od_t1 an_t1 : Option Addr} {sl_t1 : Array (Option Value)} {oc_t1 kV_t1 dc_t1 pm_t1 cd_t1 ct_t1 : Value}
    {f_t2 : Addr} {od_t2 an_t2 : Option Addr} {sl_t2 : Array (Option Value)} {oc_t2 kV_t2 dc_t2 pm_t2 cd_t2 ct_t2 : Value}
    {f_t3 : Addr} {od_t3 an_t3 : Option Addr} {sl_t3 : Array (Option Value)} {oc_t3 kV_t3 dc_t3 pm_t3 cd_t3 ct_t3 : Value}
    {f_mt : Addr} {od_mt an_mt : Option Addr} {sl_mt : Array (Option Value)} {oc_mt kV_mt dc_mt pm_mt cd_mt ct_mt : Value}
    {p_rc : Addr} {rs_rc : List Value}
    {f_rc : Addr} {od_rc an_rc : Option Addr} {sl_rc : Array (Option Value)} {oc_rc kV_rc dc_rc pm_rc cd_rc ct_rc : Value}
    {p_rl : Addr} {rs_rl : List Value}
    {f_rl : Addr} {od_rl an_rl : Option Addr} {sl_rl : Array (Option Value)} {oc_rl kV_rl dc_rl pm_rl cd_rl ct_rl : Value}
    {p_rf : Addr} {rs_rf : List Value}
    {f_rf : Addr} {od_rf an_rf : Option Addr} {sl_rf : Array (Option Value)} {oc_rf kV_rf dc_rf pm_rf cd_rf ct_rf : Value}
    {p_rh : Addr} {rs_rh : List Value}
    {f_rh : Addr} {od_rh an_rh : Option Addr} {sl_rh : Array (Option Value)} {oc_rh kV_rh dc_rh pm_rh cd_rh ct_rh : Value}
    {p_rn : Addr} {rs_rn : List Value}
    {f_rn : Addr} {od_rn an_rn : Option Addr} {sl_rn : Array (Option Value)} {oc_rn kV_rn dc_rn pm_rn cd_rn ct_rn : Value}
    {p_rk : Addr} {rs_rk : List Value}
    {f_rk : Addr} {od_rk an_rk : Option Addr} {sl_rk : Array (Option Value)} {oc_rk kV_rk dc_rk pm_rk cd_rk ct_rk : Value}
    {p_rt : Addr} {rs_rt : List Value}
    {f_rt : Addr} {od_rt an_rt : Option Addr} {sl_rt : Array (Option Value)} {oc_rt kV_rt dc_rt pm_rt cd_rt ct_rt : Value}
    {p_rH : Addr} {rs_rH : List Value}
    {f_rH : Addr} {od_rH an_rH : Option Addr} {sl_rH : Array (Option Value)} {oc_rH kV_rH dc_rH pm_rH cd_rH ct_rH : Value}
    {T0 T6 T7 e0 aK cQ P0 : Addr} {LT : Str} {tl tn t2d t6 : Tok} {dK0 dT0 d6 d7 d8 odQ : Option Addr} {itsK vsQ : Array Value} {nTu nT0 n6 n7 n8 : Nat} {slTu slT0 sl6 sl7 sl8 slQ : Array (Option Value)} {o6 o7 oT0 oQ : Value}
    {nm_xN q_xN : Str} {N_xN : Addr} {bs_xN bm_xN sub_xN : List Value} {sn_xN : List Str} {ab_xN : Bool} {col_xN : Option Bool} {dd_xN : Option Addr} {k0_xN k1_xN k2_xN k3_xN k5_xN : Option Value}
    {nm_xZ q_xZ : Str} {N_xZ : Addr} {bs_xZ bm_xZ sub_xZ : List Value} {sn_xZ : List Str} {ab_xZ : Bool} {col_xZ : Option Bool} {dd_xZ : Option Addr} {k0_xZ k1_xZ k2_xZ k3_xZ k5_xZ : Option Value}
    {nm_xT q_xT : Str} {N_xT : Addr} {bs_xT bm_xT sub_xT : List Value} {sn_xT : List Str} {ab_xT : Bool} {col_xT : Option Bool} {dd_xT : Option Addr} {k0_xT k1_xT k2_xT k3_xT k5_xT : Option Value}
    {tv0 : Tok}
    {tv1 : Tok}
    {tv2 : Tok}
    {tv3 : Tok}
    {tle tmo : Tok}
    (a_W : PySem.W.nsIn K mainGlobals "is_whole" = some (some (.ref f_W)))
    (l_W : K.lookup f_W = some ⟨oc_W, od_W, .func (PySem.W.fnOf "is_whole" "is_whole" (defArgs sWhole) (defBody sWhole) (defScope sWhole) .none kV_W dc_W pm_W an_W cd_W ct_W), sl_W⟩)
    (c_W : PySem.W.codeIn K cd_W "is_whole" = true)
    (k_W : PySem.W.keepIn K (.ref f_W) = true)
    (a_Y : PySem.W.nsIn K mainGlobals "copied" = some (some (.ref f_Y)))
    (l_Y : K.lookup f_Y = some ⟨oc_Y, od_Y, .func (PySem.W.fnOf "copied" "copied" (defArgs sCopied) (defBody sCopied) (defScope sCopied) .none kV_Y dc_Y pm_Y an_Y cd_Y ct_Y), sl_Y⟩)
    (c_Y : PySem.W.codeIn K cd_Y "copied" = true)
    (k_Y : PySem.W.keepIn K (.ref f_Y) = true)
    (a_D : PySem.W.nsIn K mainGlobals "is_word" = some (some (.ref f_D)))
    (l_D : K.lookup f_D = some ⟨oc_D, od_D, .func (PySem.W.fnOf "is_word" "is_word" (defArgs sWord) (defBody sWord) (defScope sWord) .none kV_D dc_D pm_D an_D cd_D ct_D), sl_D⟩)
    (c_D : PySem.W.codeIn K cd_D "is_word" = true)
    (k_D : PySem.W.keepIn K (.ref f_D) = true)
    (a_N : PySem.W.nsIn K mainGlobals "is_name" = some (some (.ref f_N)))
    (l_N : K.lookup f_N = some ⟨oc_N, od_N, .func (PySem.W.fnOf "is_name" "is_name" (defArgs sName) (defBody sName) (defScope sName) .none kV_N dc_N pm_N an_N cd_N ct_N), sl_N⟩)
    (c_N : PySem.W.codeIn K cd_N "is_name" = true)
    (k_N : PySem.W.keepIn K (.ref f_N) = true)
    (a_C : PySem.W.nsIn K mainGlobals "check_name" = some (some (.ref f_C)))
    (l_C : K.lookup f_C = some ⟨oc_C, od_C, .func (PySem.W.fnOf "check_name" "check_name" (defArgs sCheck) (defBody sCheck) (defScope sCheck) .none kV_C dc_C pm_C an_C cd_C ct_C), sl_C⟩)
    (c_C : PySem.W.codeIn K cd_C "check_name" = true)
    (k_C : PySem.W.keepIn K (.ref f_C) = true)
    (a_nh : PySem.W.nsIn K mainGlobals "next_handler" = some (some (.ref f_nh)))
    (l_nh : K.lookup f_nh = some ⟨oc_nh, od_nh, .func (PySem.W.fnOf "next_handler" "next_handler" (defArgs sNext) (defBody sNext) (defScope sNext) .none kV_nh dc_nh pm_nh an_nh cd_nh ct_nh), sl_nh⟩)
    (c_nh : PySem.W.codeIn K cd_nh "next_handler" = true)
    (k_nh : PySem.W.keepIn K (.ref f_nh) = true)
    (a_mo : PySem.W.nsIn K mainGlobals "_meet_one_way" = some (some (.ref f_mo)))
    (l_mo : K.lookup f_mo = some ⟨oc_mo, od_mo, .func (PySem.W.fnOf "_meet_one_way" "_meet_one_way" (defArgs sMeet1) (defBody sMeet1) (defScope sMeet1) .none kV_mo dc_mo pm_mo an_mo cd_mo ct_mo), sl_mo⟩)
    (c_mo : PySem.W.codeIn K cd_mo "_meet_one_way" = true)
    (k_mo : PySem.W.keepIn K (.ref f_mo) = true)
    (a_pe : PySem.W.nsIn K mainGlobals "_law_pen" = some (some (.ref f_pe)))
    (l_pe : K.lookup f_pe = some ⟨oc_pe, od_pe, .func (PySem.W.fnOf "_law_pen" "_law_pen" (defArgs sPen) (defBody sPen) (defScope sPen) .none kV_pe dc_pe pm_pe an_pe cd_pe ct_pe), sl_pe⟩)
    (c_pe : PySem.W.codeIn K cd_pe "_law_pen" = true)
    (k_pe : PySem.W.keepIn K (.ref f_pe) = true)
    (a_dr : PySem.W.nsIn K mainGlobals "_law_draw" = some (some (.ref f_dr)))
    (l_dr : K.lookup f_dr = some ⟨oc_dr, od_dr, .func (PySem.W.fnOf "_law_draw" "_law_draw" (defArgs sDraw) (defBody sDraw) (defScope sDraw) .none kV_dr dc_dr pm_dr an_dr cd_dr ct_dr), sl_dr⟩)
    (c_dr : PySem.W.codeIn K cd_dr "_law_draw" = true)
    (k_dr : PySem.W.keepIn K (.ref f_dr) = true)
    (a_pi : PySem.W.nsIn K mainGlobals "_law_pick" = some (some (.ref f_pi)))
    (l_pi : K.lookup f_pi = some ⟨oc_pi, od_pi, .func (PySem.W.fnOf "_law_pick" "_law_pick" (defArgs sPick) (defBody sPick) (defScope sPick) .none kV_pi dc_pi pm_pi an_pi cd_pi ct_pi), sl_pi⟩)
    (c_pi : PySem.W.codeIn K cd_pi "_law_pick" = true)
    (k_pi : PySem.W.keepIn K (.ref f_pi) = true)
    (a_ro : PySem.W.nsIn K mainGlobals "_law_row" = some (some (.ref f_ro)))
    (l_ro : K.lookup f_ro = some ⟨oc_ro, od_ro, .func (PySem.W.fnOf "_law_row" "_law_row" (defArgs sRow) (defBody sRow) (defScope sRow) .none kV_ro dc_ro pm_ro an_ro cd_ro ct_ro), sl_ro⟩)
    (c_ro : PySem.W.codeIn K cd_ro "_law_row" = true)
    (k_ro : PySem.W.keepIn K (.ref f_ro) = true)
    (a_ma : PySem.W.nsIn K mainGlobals "_law_made" = some (some (.ref f_ma)))
    (l_ma : K.lookup f_ma = some ⟨oc_ma, od_ma, .func (PySem.W.fnOf "_law_made" "_law_made" (defArgs sMade) (defBody sMade) (defScope sMade) .none kV_ma dc_ma pm_ma an_ma cd_ma ct_ma), sl_ma⟩)
    (c_ma : PySem.W.codeIn K cd_ma "_law_made" = true)
    (k_ma : PySem.W.keepIn K (.ref f_ma) = true)
    (a_so : PySem.W.nsIn K mainGlobals "_law_sort" = some (some (.ref f_so)))
    (l_so : K.lookup f_so = some ⟨oc_so, od_so, .func (PySem.W.fnOf "_law_sort" "_law_sort" (defArgs sSort) (defBody sSort) (defScope sSort) .none kV_so dc_so pm_so an_so cd_so ct_so), sl_so⟩)
    (c_so : PySem.W.codeIn K cd_so "_law_sort" = true)
    (k_so : PySem.W.keepIn K (.ref f_so) = true)
    (a_mr : PySem.W.nsIn K mainGlobals "_law_meet_right" = some (some (.ref f_mr)))
    (l_mr : K.lookup f_mr = some ⟨oc_mr, od_mr, .func (PySem.W.fnOf "_law_meet_right" "_law_meet_right" (defArgs sMeetR) (defBody sMeetR) (defScope sMeetR) .none kV_mr dc_mr pm_mr an_mr cd_mr ct_mr), sl_mr⟩)
    (c_mr : PySem.W.codeIn K cd_mr "_law_meet_right" = true)
    (k_mr : PySem.W.keepIn K (.ref f_mr) = true)
    (a_in : PySem.W.nsIn K mainGlobals "_law_is_name" = some (some (.ref f_in)))
    (l_in : K.lookup f_in = some ⟨oc_in, od_in, .func (PySem.W.fnOf "_law_is_name" "_law_is_name" (defArgs sIsName) (defBody sIsName) (defScope sIsName) .none kV_in dc_in pm_in an_in cd_in ct_in), sl_in⟩)
    (c_in : PySem.W.codeIn K cd_in "_law_is_name" = true)
    (k_in : PySem.W.keepIn K (.ref f_in) = true)
    (a_du : PySem.W.nsIn K mainGlobals "_law_due" = some (some (.ref f_du)))
    (l_du : K.lookup f_du = some ⟨oc_du, od_du, .func (PySem.W.fnOf "_law_due" "_law_due" (defArgs sDue) (defBody sDue) (defScope sDue) .none kV_du dc_du pm_du an_du cd_du ct_du), sl_du⟩)
    (c_du : PySem.W.codeIn K cd_du "_law_due" = true)
    (k_du : PySem.W.keepIn K (.ref f_du) = true)
    (a_he : PySem.W.nsIn K mainGlobals "_law_heard" = some (some (.ref f_he)))
    (l_he : K.lookup f_he = some ⟨oc_he, od_he, .func (PySem.W.fnOf "_law_heard" "_law_heard" (defArgs sHeard) (defBody sHeard) (defScope sHeard) .none kV_he dc_he pm_he an_he cd_he ct_he), sl_he⟩)
    (c_he : PySem.W.codeIn K cd_he "_law_heard" = true)
    (k_he : PySem.W.keepIn K (.ref f_he) = true)
    (a_re : PySem.W.nsIn K mainGlobals "_law_read" = some (some (.ref f_re)))
    (l_re : K.lookup f_re = some ⟨oc_re, od_re, .func (PySem.W.fnOf "_law_read" "_law_read" (defArgs sReadL) (defBody sReadL) (defScope sReadL) .none kV_re dc_re pm_re an_re (.ref cQ) ct_re), sl_re⟩)
    (c_re : PySem.W.codeIn K (.ref cQ) "_law_read" = true)
    (k_re : PySem.W.keepIn K (.ref f_re) = true)
    (a_be : PySem.W.nsIn K mainGlobals "_law_bent" = some (some (.ref f_be)))
    (l_be : K.lookup f_be = some ⟨oc_be, od_be, .func (PySem.W.fnOf "_law_bent" "_law_bent" (defArgs sBent) (defBody sBent) (defScope sBent) .none kV_be dc_be pm_be an_be cd_be ct_be), sl_be⟩)
    (c_be : PySem.W.codeIn K cd_be "_law_bent" = true)
    (k_be : PySem.W.keepIn K (.ref f_be) = true)
    (a_rr : PySem.W.nsIn K mainGlobals "_law_read_right" = some (some (.ref f_rr)))
    (l_rr : K.lookup f_rr = some ⟨oc_rr, od_rr, .func (PySem.W.fnOf "_law_read_right" "_law_read_right" (defArgs sReadR) (defBody sReadR) (defScope sReadR) .none kV_rr dc_rr pm_rr an_rr cd_rr ct_rr), sl_rr⟩)
    (c_rr : PySem.W.codeIn K cd_rr "_law_read_right" = true)
    (k_rr : PySem.W.keepIn K (.ref f_rr) = true)
    (a_la : PySem.W.nsIn K mainGlobals "law" = some (some (.ref f_la)))
    (l_la : K.lookup f_la = some ⟨oc_la, od_la, .func (PySem.W.fnOf "law" "law" (defArgs sLaw) (defBody sLaw) (defScope sLaw) .none kV_la dc_la pm_la an_la cd_la ct_la), sl_la⟩)
    (c_la : PySem.W.codeIn K cd_la "law" = true)
    (k_la : PySem.W.keepIn K (.ref f_la) = true)
    (g_c0 : PySem.W.nsIn K mainGlobals "Cell" = some (some (.ref c0)))
    (g_c1 : PySem.W.nsIn K mainGlobals "Log" = some (some (.ref c1)))
    (g_c2 : PySem.W.nsIn K mainGlobals "Failure" = some (some (.ref c2)))
    (g_c3 : PySem.W.nsIn K mainGlobals "Choice" = some (some (.ref c3)))
    (g_bN : PySem.W.nsIn K mainGlobals "Named" = some (some (.ref bN)))
    (g_bK : PySem.W.nsIn K mainGlobals "Keeping" = some (some (.ref bK)))
    (g_bT : PySem.W.nsIn K mainGlobals "Turning" = some (some (.ref bT)))
    (g_bH : PySem.W.nsIn K mainGlobals "Handler" = some (some (.ref bH)))
    (g_xN : PySem.W.nsIn K mainGlobals "BadName" = some (some (.ref xN)))
    (g_xZ : PySem.W.nsIn K mainGlobals "BadNumber" = some (some (.ref xZ)))
    (g_xT : PySem.W.nsIn K mainGlobals "BadText" = some (some (.ref xT)))
    (g_xL : PySem.W.nsIn K mainGlobals "LayerError" = some (some (.ref xL)))
    (g_xW : PySem.W.nsIn K mainGlobals "Words" = some (some (.ref xW)))
    (g_bP : PySem.W.nsIn K mainGlobals "Paper" = some (some (.ref bP)))
    (m_iN : PySem.W.findIn K (.ref xN) "__init__" = some (some (.ref f_iN)))
    (l_iN : K.lookup f_iN = some ⟨oc_iN, od_iN, .func (PySem.W.fnOf "__init__" "BadName.__init__" (defArgs sIniN) (defBody sIniN) (defScope sIniN) .none kV_iN dc_iN pm_iN an_iN cd_iN ct_iN), sl_iN⟩)
    (c_iN : PySem.W.codeIn K cd_iN "BadName.__init__" = true)
    (k_iN : PySem.W.keepIn K (.ref f_iN) = true)
    (n_iN : PySem.W.isFn K (.ref f_iN) = true)
    (y_iN : PySem.W.typeIn K (.ref f_iN) = some (.type "function"))
    (m_iZ : PySem.W.findIn K (.ref xZ) "__init__" = some (some (.ref f_iZ)))
    (l_iZ : K.lookup f_iZ = some ⟨oc_iZ, od_iZ, .func (PySem.W.fnOf "__init__" "BadNumber.__init__" (defArgs sIniB) (defBody sIniB) (defScope sIniB) .none kV_iZ dc_iZ pm_iZ an_iZ cd_iZ ct_iZ), sl_iZ⟩)
    (c_iZ : PySem.W.codeIn K cd_iZ "BadNumber.__init__" = true)
    (k_iZ : PySem.W.keepIn K (.ref f_iZ) = true)
    (n_iZ : PySem.W.isFn K (.ref f_iZ) = true)
    (y_iZ : PySem.W.typeIn K (.ref f_iZ) = some (.type "function"))
    (m_iT : PySem.W.findIn K (.ref xT) "__init__" = some (some (.ref f_iT)))
    (l_iT : K.lookup f_iT = some ⟨oc_iT, od_iT, .func (PySem.W.fnOf "__init__" "BadText.__init__" (defArgs sIniT) (defBody sIniT) (defScope sIniT) .none kV_iT dc_iT pm_iT an_iT cd_iT ct_iT), sl_iT⟩)
    (c_iT : PySem.W.codeIn K cd_iT "BadText.__init__" = true)
    (k_iT : PySem.W.keepIn K (.ref f_iT) = true)
    (n_iT : PySem.W.isFn K (.ref f_iT) = true)
    (y_iT : PySem.W.typeIn K (.ref f_iT) = some (.type "function"))
    (m_w0 : PySem.W.findIn K (.ref xW) "__init__" = some (some (.ref f_w0)))
    (l_w0 : K.lookup f_w0 = some ⟨oc_w0, od_w0, .func (PySem.W.fnOf "__init__" "Words.__init__" (defArgs (sW 0)) (defBody (sW 0)) (defScope (sW 0)) (.ref T7) kV_w0 dc_w0 pm_w0 an_w0 cd_w0 ct_w0), sl_w0⟩)
    (c_w0 : PySem.W.codeIn K cd_w0 "Words.__init__" = true)
    (k_w0 : PySem.W.keepIn K (.ref f_w0) = true)
    (n_w0 : PySem.W.isFn K (.ref f_w0) = true)
    (m_w1 : PySem.W.findIn K (.ref xW) "refuse" = some (some (.ref f_w1)))
    (l_w1 : K.lookup f_w1 = some ⟨oc_w1, od_w1, .func (PySem.W.fnOf "refuse" "Words.refuse" (defArgs (sW 1)) (defBody (sW 1)) (defScope (sW 1)) .none kV_w1 dc_w1 pm_w1 an_w1 cd_w1 ct_w1), sl_w1⟩)
    (c_w1 : PySem.W.codeIn K cd_w1 "Words.refuse" = true)
    (k_w1 : PySem.W.keepIn K (.ref f_w1) = true)
    (n_w1 : PySem.W.isFn K (.ref f_w1) = true)
    (m_w2 : PySem.W.findIn K (.ref xW) "has_more" = some (some (.ref f_w2)))
    (l_w2 : K.lookup f_w2 = some ⟨oc_w2, od_w2, .func (PySem.W.fnOf "has_more" "Words.has_more" (defArgs (sW 2)) (defBody (sW 2)) (defScope (sW 2)) .none kV_w2 dc_w2 pm_w2 an_w2 cd_w2 ct_w2), sl_w2⟩)
    (c_w2 : PySem.W.codeIn K cd_w2 "Words.has_more" = true)
    (k_w2 : PySem.W.keepIn K (.ref f_w2) = true)
    (n_w2 : PySem.W.isFn K (.ref f_w2) = true)
    (m_w3 : PySem.W.findIn K (.ref xW) "sees" = some (some (.ref f_w3)))
    (l_w3 : K.lookup f_w3 = some ⟨oc_w3, od_w3, .func (PySem.W.fnOf "sees" "Words.sees" (defArgs (sW 3)) (defBody (sW 3)) (defScope (sW 3)) .none kV_w3 dc_w3 pm_w3 an_w3 cd_w3 ct_w3), sl_w3⟩)
    (c_w3 : PySem.W.codeIn K cd_w3 "Words.sees" = true)
    (k_w3 : PySem.W.keepIn K (.ref f_w3) = true)
    (n_w3 : PySem.W.isFn K (.ref f_w3) = true)
    (m_w5 : PySem.W.findIn K (.ref xW) "take" = some (some (.ref f_w5)))
    (l_w5 : K.lookup f_w5 = some ⟨oc_w5, od_w5, .func (PySem.W.fnOf "take" "Words.take" (defArgs (sW 5)) (defBody (sW 5)) (defScope (sW 5)) .none kV_w5 dc_w5 pm_w5 an_w5 cd_w5 ct_w5), sl_w5⟩)
    (c_w5 : PySem.W.codeIn K cd_w5 "Words.take" = true)
    (k_w5 : PySem.W.keepIn K (.ref f_w5) = true)
    (n_w5 : PySem.W.isFn K (.ref f_w5) = true)
    (m_w6 : PySem.W.findIn K (.ref xW) "take_name" = some (some (.ref f_w6)))
    (l_w6 : K.lookup f_w6 = some ⟨oc_w6, od_w6, .func (PySem.W.fnOf "take_name" "Words.take_name" (defArgs (sW 6)) (defBody (sW 6)) (defScope (sW 6)) (.ref T6) kV_w6 dc_w6 pm_w6 an_w6 cd_w6 ct_w6), sl_w6⟩)
    (c_w6 : PySem.W.codeIn K cd_w6 "Words.take_name" = true)
    (k_w6 : PySem.W.keepIn K (.ref f_w6) = true)
    (n_w6 : PySem.W.isFn K (.ref f_w6) = true)
    (m_w10 : PySem.W.findIn K (.ref xW) "take_number" = some (some (.ref f_w10)))
    (l_w10 : K.lookup f_w10 = some ⟨oc_w10, od_w10, .func (PySem.W.fnOf "take_number" "Words.take_number" (defArgs (sW 10)) (defBody (sW 10)) (defScope (sW 10)) .none kV_w10 dc_w10 pm_w10 an_w10 cd_w10 ct_w10), sl_w10⟩)
    (c_w10 : PySem.W.codeIn K cd_w10 "Words.take_number" = true)
    (k_w10 : PySem.W.keepIn K (.ref f_w10) = true)
    (n_w10 : PySem.W.isFn K (.ref f_w10) = true)
    (m_w11 : PySem.W.findIn K (.ref xW) "finish" = some (some (.ref f_w11)))
    (l_w11 : K.lookup f_w11 = some ⟨oc_w11, od_w11, .func (PySem.W.fnOf "finish" "Words.finish" (defArgs (sW 11)) (defBody (sW 11)) (defScope (sW 11)) .none kV_w11 dc_w11 pm_w11 an_w11 cd_w11 ct_w11), sl_w11⟩)
    (c_w11 : PySem.W.codeIn K cd_w11 "Words.finish" = true)
    (k_w11 : PySem.W.keepIn K (.ref f_w11) = true)
    (n_w11 : PySem.W.isFn K (.ref f_w11) = true)
    (m_w12 : PySem.W.findIn K (.ref xW) "_take_if" = some (some (.ref f_w12)))
    (l_w12 : K.lookup f_w12 = some ⟨oc_w12, od_w12, .func (PySem.W.fnOf "_take_if" "Words._take_if" (defArgs (sW 12)) (defBody (sW 12)) (defScope (sW 12)) .none kV_w12 dc_w12 pm_w12 an_w12 cd_w12 ct_w12), sl_w12⟩)
    (c_w12 : PySem.W.codeIn K cd_w12 "Words._take_if" = true)
    (k_w12 : PySem.W.keepIn K (.ref f_w12) = true)
    (n_w12 : PySem.W.isFn K (.ref f_w12) = true)
    (m_i0 : PySem.W.findIn K (.ref c0) "__init__" = some (some (.ref f_i0)))
    (l_i0 : K.lookup f_i0 = some ⟨oc_i0, od_i0, .func (PySem.W.fnOf "__init__" "Cell.__init__" (defArgs sCellI) (defBody sCellI) (defScope sCellI) (.ref T0) kV_i0 dc_i0 pm_i0 an_i0 cd_i0 ct_i0), sl_i0⟩)
    (c_i0 : PySem.W.codeIn K cd_i0 "Cell.__init__" = true)
    (k_i0 : PySem.W.keepIn K (.ref f_i0) = true)
    (n_i0 : PySem.W.isFn K (.ref f_i0) = true)
    (m_i1 : PySem.W.findIn K (.ref c1) "__init__" = some (some (.ref f_i1)))
    (l_i1 : K.lookup f_i1 = some ⟨oc_i1, od_i1, .func (PySem.W.fnOf "__init__" "Log.__init__" (defArgs sLogI) (defBody sLogI) (defScope sLogI) .none kV_i1 dc_i1 pm_i1 an_i1 cd_i1 ct_i1), sl_i1⟩)
    (c_i1 : PySem.W.codeIn K cd_i1 "Log.__init__" = true)
    (k_i1 : PySem.W.keepIn K (.ref f_i1) = true)
    (n_i1 : PySem.W.isFn K (.ref f_i1) = true)
    (m_i2 : PySem.W.findIn K (.ref c2) "__init__" = some (some (.ref f_i2)))
    (l_i2 : K.lookup f_i2 = some ⟨oc_i2, od_i2, .func (PySem.W.fnOf "__init__" "Failure.__init__" (defArgs sFailI) (defBody sFailI) (defScope sFailI) .none kV_i2 dc_i2 pm_i2 an_i2 cd_i2 ct_i2), sl_i2⟩)
    (c_i2 : PySem.W.codeIn K cd_i2 "Failure.__init__" = true)
    (k_i2 : PySem.W.keepIn K (.ref f_i2) = true)
    (n_i2 : PySem.W.isFn K (.ref f_i2) = true)
    (m_i3 : PySem.W.findIn K (.ref c3) "__init__" = some (some (.ref f_i3)))
    (l_i3 : K.lookup f_i3 = some ⟨oc_i3, od_i3, .func (PySem.W.fnOf "__init__" "Choice.__init__" (defArgs sChoI) (defBody sChoI) (defScope sChoI) .none kV_i3 dc_i3 pm_i3 an_i3 cd_i3 ct_i3), sl_i3⟩)
    (c_i3 : PySem.W.codeIn K cd_i3 "Choice.__init__" = true)
    (k_i3 : PySem.W.keepIn K (.ref f_i3) = true)
    (n_i3 : PySem.W.isFn K (.ref f_i3) = true)
    (m_e0 : PySem.W.findIn K (.ref c0) "__eq__" = some (some (.ref f_e0)))
    (l_e0 : K.lookup f_e0 = some ⟨oc_e0, od_e0, .func (PySem.W.fnOf "__eq__" "Cell.__eq__" (defArgs sCellE) (defBody sCellE) (defScope sCellE) .none kV_e0 dc_e0 pm_e0 an_e0 cd_e0 ct_e0), sl_e0⟩)
    (c_e0 : PySem.W.codeIn K cd_e0 "Cell.__eq__" = true)
    (k_e0 : PySem.W.keepIn K (.ref f_e0) = true)
    (n_e0 : PySem.W.isFn K (.ref f_e0) = true)
    (m_e1 : PySem.W.findIn K (.ref c1) "__eq__" = some (some (.ref f_e1)))
    (l_e1 : K.lookup f_e1 = some ⟨oc_e1, od_e1, .func (PySem.W.fnOf "__eq__" "Log.__eq__" (defArgs sLogE) (defBody sLogE) (defScope sLogE) .none kV_e1 dc_e1 pm_e1 an_e1 cd_e1 ct_e1), sl_e1⟩)
    (c_e1 : PySem.W.codeIn K cd_e1 "Log.__eq__" = true)
    (k_e1 : PySem.W.keepIn K (.ref f_e1) = true)
    (n_e1 : PySem.W.isFn K (.ref f_e1) = true)
    (m_e2 : PySem.W.findIn K (.ref c2) "__eq__" = some (some (.ref f_e2)))
    (l_e2 : K.lookup f_e2 = some ⟨oc_e2, od_e2, .func (PySem.W.fnOf "__eq__" "Failure.__eq__" (defArgs sFailE) (defBody sFailE) (defScope sFailE) .none kV_e2 dc_e2 pm_e2 an_e2 cd_e2 ct_e2), sl_e2⟩)
    (c_e2 : PySem.W.codeIn K cd_e2 "Failure.__eq__" = true)
    (k_e2 : PySem.W.keepIn K (.ref f_e2) = true)
    (n_e2 : PySem.W.isFn K (.ref f_e2) = true)
    (m_e3 : PySem.W.findIn K (.ref c3) "__eq__" = some (some (.ref f_e3)))
    (l_e3 : K.lookup f_e3 = some ⟨oc_e3, od_e3, .func (PySem.W.fnOf "__eq__" "Choice.__eq__" (defArgs sChoE) (defBody sChoE) (defScope sChoE) .none kV_e3 dc_e3 pm_e3 an_e3 cd_e3 ct_e3), sl_e3⟩)
    (c_e3 : PySem.W.codeIn K cd_e3 "Choice.__eq__" = true)
    (k_e3 : PySem.W.keepIn K (.ref f_e3) = true)
    (n_e3 : PySem.W.isFn K (.ref f_e3) = true)
    (m_t0 : PySem.W.findIn K (.ref c0) "__str__" = some (some (.ref f_t0)))
    (l_t0 : K.lookup f_t0 = some ⟨oc_t0, od_t0, .func (PySem.W.fnOf "__str__" "Cell.__str__" (defArgs sCellT) (defBody sCellT) (defScope sCellT) .none kV_t0 dc_t0 pm_t0 an_t0 cd_t0 ct_t0), sl_t0⟩)
    (c_t0 : PySem.W.codeIn K cd_t0 "Cell.__str__" = true)
    (k_t0 : PySem.W.keepIn K (.ref f_t0) = true)
    (n_t0 : PySem.W.isFn K (.ref f_t0) = true)
    (m_t1 : PySem.W.findIn K (.ref c1) "__str__" = some (some (.ref f_t1)))
    (l_t1 : K.lookup f_t1 = some ⟨oc_t1, od_t1, .func (PySem.W.fnOf "__str__" "Log.__str__" (defArgs sLogT) (defBody sLogT) (defScope sLogT) .none kV_t1 dc_t1 pm_t1 an_t1 cd_t1 ct_t1), sl_t1⟩)
    (c_t1 : PySem.W.codeIn K cd_t1 "Log.__str__" = true)
    (k_t1 : PySem.W.keepIn K (.ref f_t1) = true)
    (n_t1 : PySem.W.isFn K (.ref f_t1) = true)
    (m_t2 : PySem.W.findIn K (.ref c2) "__str__" = some (some (.ref f_t2)))
    (l_t2 : K.lookup f_t2 = some ⟨oc_t2, od_t2, .func (PySem.W.fnOf "__str__" "Failure.__str__" (defArgs sFailT) (defBody sFailT) (defScope sFailT) .none kV_t2 dc_t2 pm_t2 an_t2 cd_t2 ct_t2), sl_t2⟩)
    (c_t2 : PySem.W.codeIn K cd_t2 "Failure.__str__" = true)
    (k_t2 : PySem.W.keepIn K (.ref f_t2) = true)
    (n_t2 : PySem.W.isFn K (.ref f_t2) = true)
    (m_t3 : PySem.W.findIn K (.ref c3) "__str__" = some (some (.ref f_t3)))
    (l_t3 : K.lookup f_t3 = some ⟨oc_t3, od_t3, .func (PySem.W.fnOf "__str__" "Choice.__str__" (defArgs sChoT) (defBody sChoT) (defScope sChoT) .none kV_t3 dc_t3 pm_t3 an_t3 cd_t3 ct_t3), sl_t3⟩)
    (c_t3 : PySem.W.codeIn K cd_t3 "Choice.__str__" = true)
    (k_t3 : PySem.W.keepIn K (.ref f_t3) = true)
    (n_t3 : PySem.W.isFn K (.ref f_t3) = true)
    (m_mt : PySem.W.findIn K (.ref c0) "meets" = some (some (.ref f_mt)))
    (l_mt : K.lookup f_mt = some ⟨oc_mt, od_mt, .func (PySem.W.fnOf "meets" "Handler.meets" (defArgs sMeets) (defBody sMeets) (defScope sMeets) .none kV_mt dc_mt pm_mt an_mt cd_mt ct_mt), sl_mt⟩)
    (c_mt : PySem.W.codeIn K cd_mt "Handler.meets" = true)
    (k_mt : PySem.W.keepIn K (.ref f_mt) = true)
    (n_mt : PySem.W.isFn K (.ref f_mt) = true)
    (mt1 : PySem.W.findIn K (.ref c1) "meets" = some (some (.ref f_mt)))
    (mt2 : PySem.W.findIn K (.ref c2) "meets" = some (some (.ref f_mt)))
    (mt3 : PySem.W.findIn K (.ref c3) "meets" = some (some (.ref f_mt)))
    (cm_rc : PySem.W.findCls K (.ref c0) (.type "type") "read" = some (.get (.builtin "classmethod.__get__") (.ref p_rc) .none (.ref c0)))
    (rc_rc : PySem.W.recIn K p_rc "classmethod" = some (.ref f_rc :: rs_rc))
    (l_rc : K.lookup f_rc = some ⟨oc_rc, od_rc, .func (PySem.W.fnOf "read" "Cell.read" (defArgs sRdCell) (defBody sRdCell) (defScope sRdCell) .none kV_rc dc_rc pm_rc an_rc cd_rc ct_rc), sl_rc⟩)
    (fi_rc : PySem.W.fnIn K f_rc = true)
    (c_rc : PySem.W.codeIn K cd_rc "Cell.read" = true)
    (k_rc : PySem.W.keepIn K (.ref f_rc) = true)
    (cm_rl : PySem.W.findCls K (.ref c1) (.type "type") "read" = some (.get (.builtin "classmethod.__get__") (.ref p_rl) .none (.ref c1)))
    (rc_rl : PySem.W.recIn K p_rl "classmethod" = some (.ref f_rl :: rs_rl))
    (l_rl : K.lookup f_rl = some ⟨oc_rl, od_rl, .func (PySem.W.fnOf "read" "Log.read" (defArgs sRdLog) (defBody sRdLog) (defScope sRdLog) .none kV_rl dc_rl pm_rl an_rl cd_rl ct_rl), sl_rl⟩)
    (fi_rl : PySem.W.fnIn K f_rl = true)
    (c_rl : PySem.W.codeIn K cd_rl "Log.read" = true)
    (k_rl : PySem.W.keepIn K (.ref f_rl) = true)
    (cm_rf : PySem.W.findCls K (.ref c2) (.type "type") "read" = some (.get (.builtin "classmethod.__get__") (.ref p_rf) .none (.ref c2)))
    (rc_rf : PySem.W.recIn K p_rf "classmethod" = some (.ref f_rf :: rs_rf))
    (l_rf : K.lookup f_rf = some ⟨oc_rf, od_rf, .func (PySem.W.fnOf "read" "Failure.read" (defArgs sRdFailure) (defBody sRdFailure) (defScope sRdFailure) .none kV_rf dc_rf pm_rf an_rf cd_rf ct_rf), sl_rf⟩)
    (fi_rf : PySem.W.fnIn K f_rf = true)
    (c_rf : PySem.W.codeIn K cd_rf "Failure.read" = true)
    (k_rf : PySem.W.keepIn K (.ref f_rf) = true)
    (cm_rh : PySem.W.findCls K (.ref c3) (.type "type") "read" = some (.get (.builtin "classmethod.__get__") (.ref p_rh) .none (.ref c3)))
    (rc_rh : PySem.W.recIn K p_rh "classmethod" = some (.ref f_rh :: rs_rh))
    (l_rh : K.lookup f_rh = some ⟨oc_rh, od_rh, .func (PySem.W.fnOf "read" "Choice.read" (defArgs sRdChoice) (defBody sRdChoice) (defScope sRdChoice) .none kV_rh dc_rh pm_rh an_rh cd_rh ct_rh), sl_rh⟩)
    (fi_rh : PySem.W.fnIn K f_rh = true)
    (c_rh : PySem.W.codeIn K cd_rh "Choice.read" = true)
    (k_rh : PySem.W.keepIn K (.ref f_rh) = true)
    (cm_rn : PySem.W.findCls K (.ref bN) (.type "type") "read" = some (.get (.builtin "classmethod.__get__") (.ref p_rn) .none (.ref bN)))
    (rc_rn : PySem.W.recIn K p_rn "classmethod" = some (.ref f_rn :: rs_rn))
    (l_rn : K.lookup f_rn = some ⟨oc_rn, od_rn, .func (PySem.W.fnOf "read" "Named.read" (defArgs sRdNamed) (defBody sRdNamed) (defScope sRdNamed) .none kV_rn dc_rn pm_rn an_rn cd_rn ct_rn), sl_rn⟩)
    (fi_rn : PySem.W.fnIn K f_rn = true)
    (c_rn : PySem.W.codeIn K cd_rn "Named.read" = true)
    (k_rn : PySem.W.keepIn K (.ref f_rn) = true)
    (cm_rk : PySem.W.findCls K (.ref bK) (.type "type") "read" = some (.get (.builtin "classmethod.__get__") (.ref p_rk) .none (.ref bK)))
    (rc_rk : PySem.W.recIn K p_rk "classmethod" = some (.ref f_rk :: rs_rk))
    (l_rk : K.lookup f_rk = some ⟨oc_rk, od_rk, .func (PySem.W.fnOf "read" "Keeping.read" (defArgs sRdKeeping) (defBody sRdKeeping) (defScope sRdKeeping) .none kV_rk dc_rk pm_rk an_rk cd_rk ct_rk), sl_rk⟩)
    (fi_rk : PySem.W.fnIn K f_rk = true)
    (c_rk : PySem.W.codeIn K cd_rk "Keeping.read" = true)
    (k_rk : PySem.W.keepIn K (.ref f_rk) = true)
    (cm_rt : PySem.W.findCls K (.ref bT) (.type "type") "read" = some (.get (.builtin "classmethod.__get__") (.ref p_rt) .none (.ref bT)))
    (rc_rt : PySem.W.recIn K p_rt "classmethod" = some (.ref f_rt :: rs_rt))
    (l_rt : K.lookup f_rt = some ⟨oc_rt, od_rt, .func (PySem.W.fnOf "read" "Turning.read" (defArgs sRdTurning) (defBody sRdTurning) (defScope sRdTurning) .none kV_rt dc_rt pm_rt an_rt cd_rt ct_rt), sl_rt⟩)
    (fi_rt : PySem.W.fnIn K f_rt = true)
    (c_rt : PySem.W.codeIn K cd_rt "Turning.read" = true)
    (k_rt : PySem.W.keepIn K (.ref f_rt) = true)
    (cm_rH : PySem.W.findCls K (.ref bH) (.type "type") "read" = some (.get (.builtin "classmethod.__get__") (.ref p_rH) .none (.ref bH)))
    (rc_rH : PySem.W.recIn K p_rH "classmethod" = some (.ref f_rH :: rs_rH))
    (l_rH : K.lookup f_rH = some ⟨oc_rH, od_rH, .func (PySem.W.fnOf "read" "Handler.read" (defArgs sHRead) (defBody sHRead) (defScope sHRead) .none kV_rH dc_rH pm_rH an_rH cd_rH ct_rH), sl_rH⟩)
    (fi_rH : PySem.W.fnIn K f_rH = true)
    (c_rH : PySem.W.codeIn K cd_rH "Handler.read" = true)
    (k_rH : PySem.W.keepIn K (.ref f_rH) = true)
    (lT0 : K.lookup T0 = some ⟨oT0, dT0, .seq #[.int 2 t2d] nT0, slT0⟩)
    (lT6 : K.lookup T6 = some ⟨o6, d6, .seq #[.str "" t6, .ref e0] n6, sl6⟩)
    (lT7 : K.lookup T7 = some ⟨o7, d7, .seq #[.none] n7, sl7⟩)
    (le0 : K.lookup e0 = some ⟨.type "tuple", d8, .seq #[] n8, sl8⟩)
    (bg1 : PySem.W.specialIn K (.ref f_w5) "__get__" = some (some (.builtin "function.__get__")))
    (bg2 : PySem.W.takesIn K (.ref f_w5) = some false)
    (bg3 : PySem.W.fnIn K f_w5 = true)
    (lQ : K.lookup cQ = some ⟨oQ, odQ, .fields vsQ, slQ⟩)
    (pQ : vsQ[11]? = some (.ref P0))
    (hQ : PySem.W.codeHdIn K cQ P0 = true)
    (nQ : K.lookup P0 = none)
    (gL : PySem.W.nsIn K mainGlobals "LETTERS" = some (some (.str LT tl)))
    (eL : decide (LT = abc) = true)
    (gLo : PySem.W.nsIn K mainGlobals "LONGEST" = some (some (.int 8 tn)))
    (gK : PySem.W.nsIn K mainGlobals "KEPT_WORDS" = some (some (.ref aK)))
    (lK0 : K.lookup aK = some ⟨.type "tuple", dK0, .seq itsK nTu, slTu⟩)
    (vK : sayB kept itsK.toList = true)
    (zK : decide (itsK.size ≤ sizeLine) = true)
    (z_int : PySem.W.nsIn K mainGlobals "int" = some none)
    (z_bool : PySem.W.nsIn K mainGlobals "bool" = some none)
    (z_len : PySem.W.nsIn K mainGlobals "len" = some none)
    (z_abs : PySem.W.nsIn K mainGlobals "abs" = some none)
    (z_list : PySem.W.nsIn K mainGlobals "list" = some none)
    (z_tuple : PySem.W.nsIn K mainGlobals "tuple" = some none)
    (z_dict : PySem.W.nsIn K mainGlobals "dict" = some none)
    (z_range : PySem.W.nsIn K mainGlobals "range" = some none)
    (z_isinstance : PySem.W.nsIn K mainGlobals "isinstance" = some none)
    (z_str : PySem.W.nsIn K mainGlobals "str" = some none)
    (z_all : PySem.W.nsIn K mainGlobals "all" = some none)
    (z_repr : PySem.W.nsIn K mainGlobals "repr" = some none)
    (z_any : PySem.W.nsIn K mainGlobals "any" = some none)
    (z_enumerate : PySem.W.nsIn K mainGlobals "enumerate" = some none)
    (z_ValueError : PySem.W.nsIn K mainGlobals "ValueError" = some none)
    (lo_xN : K.lookup xN = some (PySem.excClassObj nm_xN q_xN xN N_xN bs_xN bm_xN true sn_xN sub_xN ab_xN col_xN dd_xN k0_xN k1_xN k2_xN k3_xN k5_xN "ValueError.__new__"))
    (ve_xN : PySem.HandSPX.refsVE bm_xN = true)
    (lo_xZ : K.lookup xZ = some (PySem.excClassObj nm_xZ q_xZ xZ N_xZ bs_xZ bm_xZ true sn_xZ sub_xZ ab_xZ col_xZ dd_xZ k0_xZ k1_xZ k2_xZ k3_xZ k5_xZ "ValueError.__new__"))
    (ve_xZ : PySem.HandSPX.refsVE bm_xZ = true)
    (lo_xT : K.lookup xT = some (PySem.excClassObj nm_xT q_xT xT N_xT bs_xT bm_xT true sn_xT sub_xT ab_xT col_xT dd_xT k0_xT k1_xT k2_xT k3_xT k5_xT "ValueError.__new__"))
    (ve_xT : PySem.HandSPX.refsVE bm_xT = true)
    (v0 : PySem.W.findCls K (.ref c0) (.type "type") "WORD" = some (.val (.str "cell" tv0)))
    (v1 : PySem.W.findCls K (.ref c1) (.type "type") "WORD" = some (.val (.str "log" tv1)))
    (v2 : PySem.W.findCls K (.ref c2) (.type "type") "WORD" = some (.val (.str "failure" tv2)))
    (v3 : PySem.W.findCls K (.ref c3) (.type "type") "WORD" = some (.val (.str "choice" tv3)))
    (vle : PySem.W.findCls K (.ref c0) (.type "type") "LEAST" = some (.val (.int 2 tle)))
    (vmo : PySem.W.findCls K (.ref c0) (.type "type") "MOST" = some (.val (.int 4 tmo)))
    (hB0 : clsB K c0 ["name", "size"] = true)
    (hB1 : clsB K c1 ["name", "size"] = true)
    (hB2 : clsB K c2 ["name", "size"] = true)
    (hB3 : clsB K c3 ["name", "size"] = true)
    (ne0 : PySem.W.findIn K (.ref c0) "__ne__" = some (some (.builtin "object.__ne__")))
    (ne1 : PySem.W.findIn K (.ref c1) "__ne__" = some (some (.builtin "object.__ne__")))
    (ne2 : PySem.W.findIn K (.ref c2) "__ne__" = some (some (.builtin "object.__ne__")))
    (ne3 : PySem.W.findIn K (.ref c3) "__ne__" = some (some (.builtin "object.__ne__")))
    (hBW : clsB K xW ["pieces", "at", "many"] = true)
    (rd_c0 : rdB K c0 = true)
    (rd_c1 : rdB K c1 = true)
    (rd_c2 : rdB K c2 = true)
    (rd_c3 : rdB K c3 = true)
    (rd_bN : rdB K bN = true)
    (rd_bK : rdB K bK = true)
    (rd_bT : rdB K bT = true)
    (rd_bH : rdB K bH = true)
    (hP : pairB K ⟨c0, c1, c2, c3⟩ bK bT bH = true)
    (kS : PySem.W.kitOne K (.ref c3) (.type "str") = some false)
    (hXN : excB K xL xN ["value"] = true)
    (hXZ : excB K xL xZ ["value"] = true)
    (hXT : excB K xL xT ["line", "word"] = true)
    (hPap : papB K bP = true)
    (hO : objB K = true)
    (mQ : P0 ∈ TT) :
    ∃ (fd : FuncData) (c P : Addr), h.get? P = some tab0 ∧ K.lookup P = none ∧ PySem.W.CodeHd h c P ∧ Fun K "law" "law" sLaw fa fd ∧ FnScope nLaw ["_law_script"] (defScope sLaw) ∧ (∀ (s : Shared) (u : Value), BindsTo s fd ⟨[u], []⟩ [("_law_script", u)]) ∧ LawBodyT PySem.Challenge.rw_layerseen_k15_handlers_that_meet w K mg 63 nLaw "law" sLaw fa c P := by
  have e := hfa.symm.trans (PySem.W.mg_of X G a_la)
  cases e
  have eL' : LT = abc := of_decide_eq_true eL
  subst eL'
  have F_W := fun_mk (st := sWhole) l_W c_W k_W
  have F_Y := fun_mk (st := sCopied) l_Y c_Y k_Y
  have F_D := fun_mk (st := sWord) l_D c_D k_D
  have F_N := fun_mk (st := sName) l_N c_N k_N
  have F_C := fun_mk (st := sCheck) l_C c_C k_C
  have F_nh := fun_mk (st := sNext) l_nh c_nh k_nh
  have F_mo := fun_mk (st := sMeet1) l_mo c_mo k_mo
  have F_pe := fun_mk (st := sPen) l_pe c_pe k_pe
  have F_dr := fun_mk (st := sDraw) l_dr c_dr k_dr
  have F_pi := fun_mk (st := sPick) l_pi c_pi k_pi
  have F_ro := fun_mk (st := sRow) l_ro c_ro k_ro
  have F_ma := fun_mk (st := sMade) l_ma c_ma k_ma
  have F_so := fun_mk (st := sSort) l_so c_so k_so
  have F_mr := fun_mk (st := sMeetR) l_mr c_mr k_mr
  have F_in := fun_mk (st := sIsName) l_in c_in k_in
  have F_du := fun_mk (st := sDue) l_du c_du k_du
  have F_he := fun_mk (st := sHeard) l_he c_he k_he
  have F_re := fun_mk (st := sReadL) l_re c_re k_re
  have F_be := fun_mk (st := sBent) l_be c_be k_be
  have F_rr := fun_mk (st := sReadR) l_rr c_rr k_rr
  have F_la := fun_mk (st := sLaw) l_la c_la k_la
  have F_iN := fun_mk (st := sIniN) l_iN c_iN k_iN
  have F_iZ := fun_mk (st := sIniB) l_iZ c_iZ k_iZ
  have F_iT := fun_mk (st := sIniT) l_iT c_iT k_iT
  have F_w1 := fun_mk (st := (sW 1)) l_w1 c_w1 k_w1
  have F_w2 := fun_mk (st := (sW 2)) l_w2 c_w2 k_w2
  have F_w3 := fun_mk (st := (sW 3)) l_w3 c_w3 k_w3
  have F_w5 := fun_mk (st := (sW 5)) l_w5 c_w5 k_w5
  have F_w10 := fun_mk (st := (sW 10)) l_w10 c_w10 k_w10
  have F_w11 := fun_mk (st := (sW 11)) l_w11 c_w11 k_w11
  have F_w12 := fun_mk (st := (sW 12)) l_w12 c_w12 k_w12
  have F_i1 := fun_mk (st := sLogI) l_i1 c_i1 k_i1
  have F_i2 := fun_mk (st := sFailI) l_i2 c_i2 k_i2
  have F_i3 := fun_mk (st := sChoI) l_i3 c_i3 k_i3
  have F_e0 := fun_mk (st := sCellE) l_e0 c_e0 k_e0
  have F_e1 := fun_mk (st := sLogE) l_e1 c_e1 k_e1
  have F_e2 := fun_mk (st := sFailE) l_e2 c_e2 k_e2
  have F_e3 := fun_mk (st := sChoE) l_e3 c_e3 k_e3
  have F_t0 := fun_mk (st := sCellT) l_t0 c_t0 k_t0
  have F_t1 := fun_mk (st := sLogT) l_t1 c_t1 k_t1
  have F_t2 := fun_mk (st := sFailT) l_t2 c_t2 k_t2
  have F_t3 := fun_mk (st := sChoT) l_t3 c_t3 k_t3
  have F_mt := fun_mk (st := sMeets) l_mt c_mt k_mt
  have F_rc := fun_mk (st := sRdCell) l_rc c_rc k_rc
  have F_rl := fun_mk (st := sRdLog) l_rl c_rl k_rl
  have F_rf := fun_mk (st := sRdFailure) l_rf c_rf k_rf
  have F_rh := fun_mk (st := sRdChoice) l_rh c_rh k_rh
  have F_rn := fun_mk (st := sRdNamed) l_rn c_rn k_rn
  have F_rk := fun_mk (st := sRdKeeping) l_rk c_rk k_rk
  have F_rt := fun_mk (st := sRdTurning) l_rt c_rt k_rt
  have F_rH := fun_mk (st := sHRead) l_rH c_rH k_rH
  have B_W := F_W.binds (ps := ["value"]) fun _ _ _ _ _ _ us hl => match us, hl with | [_], _ => rfl
  have B_Y := F_Y.binds (ps := ["value"]) fun _ _ _ _ _ _ us hl => match us, hl with | [_], _ => rfl
  have B_D := F_D.binds (ps := ["value"]) fun _ _ _ _ _ _ us hl => match us, hl with | [_], _ => rfl
  have B_N := F_N.binds (ps := ["value"]) fun _ _ _ _ _ _ us hl => match us, hl with | [_], _ => rfl
  have B_C := F_C.binds (ps := ["value"]) fun _ _ _ _ _ _ us hl => match us, hl with | [_], _ => rfl
  have B_nh := F_nh.binds (ps := ["words"]) fun _ _ _ _ _ _ us hl => match us, hl with | [_], _ => rfl
  have B_mo := F_mo.binds (ps := ["one", "other"]) fun _ _ _ _ _ _ us hl => match us, hl with | [_, _], _ => rfl
  have B_pe := F_pe.binds (ps := ["_law_script"]) fun _ _ _ _ _ _ us hl => match us, hl with | [_], _ => rfl
  have B_dr := F_dr.binds (ps := ["_law_pen_here", "_law_many"]) fun _ _ _ _ _ _ us hl => match us, hl with | [_, _], _ => rfl
  have B_pi := F_pi.binds (ps := ["_law_pen_here", "_law_some"]) fun _ _ _ _ _ _ us hl => match us, hl with | [_, _], _ => rfl
  have B_ro := F_ro.binds (ps := ["_law_pen_here"]) fun _ _ _ _ _ _ us hl => match us, hl with | [_], _ => rfl
  have B_ma := F_ma.binds (ps := ["_law_row_here"]) fun _ _ _ _ _ _ us hl => match us, hl with | [_], _ => rfl
  have B_so := F_so.binds (ps := ["_law_row_here"]) fun _ _ _ _ _ _ us hl => match us, hl with | [_], _ => rfl
  have B_mr := F_mr.binds (ps := ["_law_pen_here", "_law_row_here", "_law_other"]) fun _ _ _ _ _ _ us hl => match us, hl with | [_, _, _], _ => rfl
  have B_in := F_in.binds (ps := ["_law_word"]) fun _ _ _ _ _ _ us hl => match us, hl with | [_], _ => rfl
  have B_du := F_du.binds (ps := ["_law_line"]) fun _ _ _ _ _ _ us hl => match us, hl with | [_], _ => rfl
  have B_he := F_he.binds (ps := ["_law_ask"]) fun _ _ _ _ _ _ us hl => match us, hl with | [_], _ => rfl
  have B_re := F_re.binds (ps := ["_law_pen_here", "_law_line"]) fun _ _ _ _ _ _ us hl => match us, hl with | [_, _], _ => rfl
  have B_be := F_be.binds (ps := ["_law_pen_here", "_law_line"]) fun _ _ _ _ _ _ us hl => match us, hl with | [_, _], _ => rfl
  have B_rr := F_rr.binds (ps := ["_law_pen_here", "_law_row_here"]) fun _ _ _ _ _ _ us hl => match us, hl with | [_, _], _ => rfl
  have B_iN := F_iN.binds (ps := ["self", "value"]) fun _ _ _ _ _ _ us hl => match us, hl with | [_, _], _ => rfl
  have B_iZ := F_iZ.binds (ps := ["self", "value"]) fun _ _ _ _ _ _ us hl => match us, hl with | [_, _], _ => rfl
  have B_iT := F_iT.binds (ps := ["self", "line", "word"]) fun _ _ _ _ _ _ us hl => match us, hl with | [_, _, _], _ => rfl
  have B_w1 := F_w1.binds (ps := ["self"]) fun _ _ _ _ _ _ us hl => match us, hl with | [_], _ => rfl
  have B_w2 := F_w2.binds (ps := ["self"]) fun _ _ _ _ _ _ us hl => match us, hl with | [_], _ => rfl
  have B_w3 := F_w3.binds (ps := ["self", "wanted"]) fun _ _ _ _ _ _ us hl => match us, hl with | [_, _], _ => rfl
  have B_w10 := F_w10.binds (ps := ["self", "least", "most"]) fun _ _ _ _ _ _ us hl => match us, hl with | [_, _, _], _ => rfl
  have B_w11 := F_w11.binds (ps := ["self"]) fun _ _ _ _ _ _ us hl => match us, hl with | [_], _ => rfl
  have B_w12 := F_w12.binds (ps := ["self", "fits"]) fun _ _ _ _ _ _ us hl => match us, hl with | [_, _], _ => rfl
  have B_i1 := F_i1.binds (ps := ["self", "name"]) fun _ _ _ _ _ _ us hl => match us, hl with | [_, _], _ => rfl
  have B_i2 := F_i2.binds (ps := ["self", "name"]) fun _ _ _ _ _ _ us hl => match us, hl with | [_, _], _ => rfl
  have B_i3 := F_i3.binds (ps := ["self"]) fun _ _ _ _ _ _ us hl => match us, hl with | [_], _ => rfl
  have B_e0 := F_e0.binds (ps := ["self", "other"]) fun _ _ _ _ _ _ us hl => match us, hl with | [_, _], _ => rfl
  have B_e1 := F_e1.binds (ps := ["self", "other"]) fun _ _ _ _ _ _ us hl => match us, hl with | [_, _], _ => rfl
  have B_e2 := F_e2.binds (ps := ["self", "other"]) fun _ _ _ _ _ _ us hl => match us, hl with | [_, _], _ => rfl
  have B_e3 := F_e3.binds (ps := ["self", "other"]) fun _ _ _ _ _ _ us hl => match us, hl with | [_, _], _ => rfl
  have B_t0 := F_t0.binds (ps := ["self"]) fun _ _ _ _ _ _ us hl => match us, hl with | [_], _ => rfl
  have B_t1 := F_t1.binds (ps := ["self"]) fun _ _ _ _ _ _ us hl => match us, hl with | [_], _ => rfl
  have B_t2 := F_t2.binds (ps := ["self"]) fun _ _ _ _ _ _ us hl => match us, hl with | [_], _ => rfl
  have B_t3 := F_t3.binds (ps := ["self"]) fun _ _ _ _ _ _ us hl => match us, hl with | [_], _ => rfl
  have B_mt := F_mt.binds (ps := ["self", "other"]) fun _ _ _ _ _ _ us hl => match us, hl with | [_, _], _ => rfl
  have B_rc := F_rc.binds (ps := ["cls", "text"]) fun _ _ _ _ _ _ us hl => match us, hl with | [_, _], _ => rfl
  have B_rl := F_rl.binds (ps := ["cls", "text"]) fun _ _ _ _ _ _ us hl => match us, hl with | [_, _], _ => rfl
  have B_rf := F_rf.binds (ps := ["cls", "text"]) fun _ _ _ _ _ _ us hl => match us, hl with | [_, _], _ => rfl
  have B_rh := F_rh.binds (ps := ["cls", "text"]) fun _ _ _ _ _ _ us hl => match us, hl with | [_, _], _ => rfl
  have B_rn := F_rn.binds (ps := ["cls", "text"]) fun _ _ _ _ _ _ us hl => match us, hl with | [_, _], _ => rfl
  have B_rk := F_rk.binds (ps := ["cls", "text"]) fun _ _ _ _ _ _ us hl => match us, hl with | [_, _], _ => rfl
  have B_rt := F_rt.binds (ps := ["cls", "text"]) fun _ _ _ _ _ _ us hl => match us, hl with | [_, _], _ => rfl
  have B_rH := F_rH.binds (ps := ["cls", "text"]) fun _ _ _ _ _ _ us hl => match us, hl with | [_, _], _ => rfl
  have T : Txt mg := ⟨PySem.W.mg_none_of X G z_int, PySem.W.mg_none_of X G z_bool, PySem.W.mg_none_of X G z_len, PySem.W.mg_none_of X G z_abs, PySem.W.mg_none_of X G z_list, PySem.W.mg_none_of X G z_tuple, PySem.W.mg_none_of X G z_dict, PySem.W.mg_none_of X G z_range, PySem.W.mg_none_of X G z_isinstance, PySem.W.mg_none_of X G z_str, PySem.W.mg_none_of X G z_all, PySem.W.mg_none_of X G z_repr, PySem.W.mg_none_of X G z_any, PySem.W.mg_none_of X G z_enumerate, PySem.W.mg_none_of X G z_ValueError⟩
  have NP : NoPap K mg bP := ⟨PySem.W.mg_of X G g_bP, pap_mk hPap⟩
  have FD0 : FunD K "__init__" "Cell.__init__" (defArgs sCellI) (defBody sCellI) (defScope sCellI) [.int 2] [] f_i0 _ := ⟨⟨oc_i0, od_i0, .ref T0, kV_i0, dc_i0, pm_i0, an_i0, cd_i0, ct_i0, sl_i0, rfl, l_i0, c_i0, .inr ⟨by simp, T0, _, [.int 2 t2d], nT0, rfl, lT0, rfl, .cons ⟨t2d, rfl⟩ .nil⟩, .inl rfl⟩, k_i0⟩
  have FD6 : FTN K e0 f_w6 _ := ⟨⟨oc_w6, od_w6, .ref T6, kV_w6, dc_w6, pm_w6, an_w6, cd_w6, ct_w6, sl_w6, rfl, l_w6, c_w6, .inr ⟨by simp, T6, _, [.str "" t6, .ref e0], n6, rfl, lT6, rfl, .cons ⟨t6, rfl⟩ (.cons rfl .nil)⟩, .inl rfl⟩, k_w6⟩
  have FD7 : FunD K "__init__" "Words.__init__" (defArgs (sW 0)) (defBody (sW 0)) (defScope (sW 0)) [.non] [] f_w0 _ := ⟨⟨oc_w0, od_w0, .ref T7, kV_w0, dc_w0, pm_w0, an_w0, cd_w0, ct_w0, sl_w0, rfl, l_w0, c_w0, .inr ⟨by simp, T7, _, [.none], n7, rfl, lT7, rfl, .cons rfl .nil⟩, .inl rfl⟩, k_w0⟩
  have tK : ∀ H, SqT K H aK (kept.map V.str) := fun H => .inr ⟨_, itsK, nTu, lK0, rfl, rfl, of_decide_eq_true zK, say_of _ _ vK⟩
  have tE : ∀ H, SqT K H e0 [] := fun H => .inr ⟨_, #[], n8, le0, rfl, rfl, Nat.zero_le _, .nil⟩
  obtain ⟨dsA, vA, B_i0⟩ := FD0.binds1 (ps := ["self", "name", "size"]) 3 1 (by simp) rfl (fun T kV doc pm an cdv ct us its e1 e2 => match us, its, e1, e2 with | [_, _, _], [_], _, _ => ⟨_, rfl, rfl⟩)
  obtain rfl : dsA = [] := by cases vA; rfl
  obtain ⟨ds2, dv, B_i01⟩ := FD0.binds1 (ps := ["self", "name", "size"]) 2 0 (by simp) rfl (fun T kV doc pm an cdv ct us its e1 e2 => match us, its, e1, e2 with | [_, _], [_], _, _ => ⟨_, rfl, rfl⟩)
  obtain ⟨ds0, v0', B_w60⟩ := FD6.binds1 (ps := ["self", "last", "barred"]) 1 0 (by simp) rfl (fun T kV doc pm an cdv ct us its e1 e2 => match us, its, e1, e2 with | [_], [_, _], _, _ => ⟨_, rfl, rfl⟩)
  obtain ⟨dn, vn, B_w0⟩ := FD7.binds1 (ps := ["self", "text", "sign"]) 2 0 (by simp) rfl (fun T kV doc pm an cdv ct us its e1 e2 => match us, its, e1, e2 with | [_, _], [_], _, _ => ⟨_, rfl, rfl⟩)
  obtain ⟨p1, p2, p3, p4, p5, p6, p7, p8, p9⟩ := pair_mk hP
  have C0 := cls_mk hB0
  have C1 := cls_mk hB1
  have C2 := cls_mk hB2
  have C3 := cls_mk hB3
  have cW := cls_mk hBW
  have xN' := exc_mk hO hXN
  have xZ' := exc_mk hO hXZ
  have xT' := exc_mk hO hXT
  have hO' := hO
  unfold objB at hO'
  simp only [Bool.and_eq_true, decide_eq_true_eq] at hO'
  have H0' : HCls K mg "Cell" c0 := ⟨PySem.W.mg_of X G g_c0, C0.c, C0.no _ (by simp), C0.no _ (by simp)⟩
  have H1' : HCls K mg "Log" c1 := ⟨PySem.W.mg_of X G g_c1, C1.c, C1.no _ (by simp), C1.no _ (by simp)⟩
  have H2' : HCls K mg "Failure" c2 := ⟨PySem.W.mg_of X G g_c2, C2.c, C2.no _ (by simp), C2.no _ (by simp)⟩
  have H3' : HCls K mg "Choice" c3 := ⟨PySem.W.mg_of X G g_c3, C3.c, C3.no _ (by simp), C3.no _ (by simp)⟩
  have S : Hand K mg ⟨c0, c1, c2, c3⟩ := ⟨H0', H1', H2', H3', fun i hi => match i, hi with | 0, _ => C0.dc | 1, _ => C1.dc | 2, _ => C2.dc | 3, _ => C3.dc, fun i hi => match i, hi with | 0, _ => C0.mo | 1, _ => C1.mo | 2, _ => C2.mo | 3, _ => C3.mo, hO'.1, hO'.2, p1⟩
  have Ba : Bases K mg ⟨c0, c1, c2, c3⟩ bN bK bT bH := ⟨PySem.W.mg_of X G g_bN, PySem.W.mg_of X G g_bK, PySem.W.mg_of X G g_bT, PySem.W.mg_of X G g_bH, p3, p4, p5, p6, p7, p8, p9⟩
  have W : WCls K xW := ⟨cW.c, cW.no _ (by simp), cW.no _ (by simp), cW.no _ (by simp)⟩
  have EN : Err K mg "BadName" xN f_iN := ⟨PySem.W.mg_of X G g_xN, ⟨⟨_, _, _, _, _, _, _, _, _, _, _, _, _, _, _, lo_xN, ve_xN⟩, xN'.sa, xN'.ec.hs, xN'.ty, xN'.kp⟩, m_iN, y_iN, xN'.no _ (by simp)⟩
  have EZ : Err K mg "BadNumber" xZ f_iZ := ⟨PySem.W.mg_of X G g_xZ, ⟨⟨_, _, _, _, _, _, _, _, _, _, _, _, _, _, _, lo_xZ, ve_xZ⟩, xZ'.sa, xZ'.ec.hs, xZ'.ty, xZ'.kp⟩, m_iZ, y_iZ, xZ'.no _ (by simp)⟩
  have ET : ErrT K mg xT f_iT := ⟨PySem.W.mg_of X G g_xT, ⟨⟨_, _, _, _, _, _, _, _, _, _, _, _, _, _, _, lo_xT, ve_xT⟩, xT'.sa, xT'.ec.hs, xT'.ty, xT'.kp⟩, m_iT, y_iT, xT'.no _ (by simp), xT'.no _ (by simp)⟩
  have ek : EK K xL xT := ⟨xT'.ec, xT'.xf, xT'.no _ (by simp), xT'.no _ (by simp), xT'.ex, xT'.kT, xT'.kV⟩
  have Vc : CW K ⟨c0, c1, c2, c3⟩ (.type "type") := ⟨fun i hi => match i, hi with | 0, _ => rd_mk rd_c0 | 1, _ => rd_mk rd_c1 | 2, _ => rd_mk rd_c2 | 3, _ => rd_mk rd_c3, ⟨_, v0, ⟨_, rfl⟩⟩, ⟨_, v1, ⟨_, rfl⟩⟩, ⟨_, v2, ⟨_, rfl⟩⟩, ⟨_, v3, ⟨_, rfl⟩⟩, ⟨_, vle, ⟨_, rfl⟩⟩, ⟨_, vmo, ⟨_, rfl⟩⟩⟩
  refine ⟨_, cQ, P0, hT _ mQ, nQ, PySem.W.codeHd_of_K X hQ, F_la, scLaw, fun s v => .of_eq rfl, ?_⟩
  refine law_body (A := ⟨c0, c1, c2, c3⟩) (bN := bN) (bK := bK) (bT := bT) (bH := bH) (CT := xT) (CN := xN) (CZ := xZ) (fI := (t4 f_i0 f_i1 f_i2 f_i3)) (dI := (t4 (fdD FD0) (fdOf F_i1) (fdOf F_i2) (fdOf F_i3))) (fX := (t10 f_ma f_pi f_du f_be f_re f_pe f_ro f_mr f_rr f_mt)) (dX := (t10 (fdOf F_ma) (fdOf F_pi) (fdOf F_du) (fdOf F_be) (fdOf F_re) (fdOf F_pe) (fdOf F_ro) (fdOf F_mr) (fdOf F_rr) (fdOf F_mt))) (ds2 := ds2) (mc := .type "type") (pc := t4 p_rk p_rt p_rt p_rt) (gc := t4 f_rk f_rt f_rt f_rt) (dc := t4 (fdOf F_rk) (fdOf F_rt) (fdOf F_rt) (fdOf F_rt)) fun base hKb hNb TB => ?_
  have Gflat : FnOk PR w K mg base CX0 1 f_Y (fdOf F_Y) ["value"] spFlat := ok_flat F_Y NP T
  have G_Y : FnOk PR w K mg base CX0 2 f_Y (fdOf F_Y) ["value"] spCopied := ok_copied F_Y NP T B_Y (PySem.W.mg_of X G a_Y)
  have G_iN : FnOk PR w K mg base CX0 3 f_iN (fdOf F_iN) ["self", "value"] (spIni K xN) := ok_iniN F_iN EN.ox EN.no F_Y B_Y (PySem.W.mg_of X G a_Y) G_Y
  have G_iZ : FnOk PR w K mg base CX0 3 f_iZ (fdOf F_iZ) ["self", "value"] (spIni K xZ) := ok_iniB F_iZ EZ.ox EZ.no F_Y B_Y (PySem.W.mg_of X G a_Y) G_Y
  have G_iT : FnOk PR w K mg base CX0 2 f_iT (fdOf F_iT) ["self", "line", "word"] (spIniT xT) := ok_iniT F_iT ET.ox ET.no1 ET.no2 F_Y B_Y (PySem.W.mg_of X G a_Y) Gflat
  have G_D : FnOk PR w K mg base CX0 1 f_D (fdOf F_D) ["value"] (spWord K wd) := ok_word F_D T (PySem.W.mg_of X G gL) (PySem.W.mg_of X G gLo)
  have G_N : FnOk PR w K mg base CX0 2 f_N (fdOf F_N) ["value"] (spWord K nm) := ok_name F_N F_D B_D (PySem.W.mg_of X G a_D) G_D (PySem.W.mg_of X G gK) tK
  have G_C : FnOk PR w K mg base (L2.CX PR w) 5 f_C (fdOf F_C) ["value"] (spCheck K xN) := ok_check F_C F_N B_N (PySem.W.mg_of X G a_N) G_N EN B_iN G_iN
  have G_W : FnOk PR w K mg base CX0 1 f_W (fdOf F_W) ["value"] spWhole := ok_whole F_W T
  have G_i0 : FnOk PR w K mg base (L2.CX PR w) 6 f_i0 (fdD FD0) ["self", "name", "size"] (spCellI K c0 xN xZ) := ok_cellI FD0 H0' F_C B_C (PySem.W.mg_of X G a_C) G_C F_W B_W (PySem.W.mg_of X G a_W) G_W (rd_mk rd_c0) ⟨vle, ⟨_, rfl⟩⟩ ⟨vmo, ⟨_, rfl⟩⟩ EZ B_iZ G_iZ
  have G_i1 : FnOk PR w K mg base (L2.CX PR w) 6 f_i1 (fdOf F_i1) ["self", "name"] (spNamed K c1 xN) := ok_logI F_i1 H1' F_C B_C (PySem.W.mg_of X G a_C) G_C
  have G_i2 : FnOk PR w K mg base (L2.CX PR w) 6 f_i2 (fdOf F_i2) ["self", "name"] (spNamed K c2 xN) := ok_failI F_i2 H2' F_C B_C (PySem.W.mg_of X G a_C) G_C
  have G_i3 : FnOk PR w K mg base CX0 1 f_i3 (fdOf F_i3) ["self"] (spChoI c3) := ok_choI F_i3 H3'
  have M_w2 : MethK PR w K mg base CX0 1 xW "has_more" f_w2 (fdOf F_w2) ["self"] (spMore xW) := ⟨⟨m_w2, n_w2, k_w2⟩, B_w2, ok_more F_w2 W T⟩
  have M_w3 : MethK PR w K mg base CX0 2 xW "sees" f_w3 (fdOf F_w3) ["self", "wanted"] (spSees xW) := ⟨⟨m_w3, n_w3, k_w3⟩, B_w3, ok_sees F_w3 W M_w2⟩
  have M_w1 : MethK PR w K mg base (L2.CX PR w) 4 xW "refuse" f_w1 (fdOf F_w1) ["self"] (spRefuse xW xT) := ⟨⟨m_w1, n_w1, k_w1⟩, B_w1, ok_refuse F_w1 W M_w2 ET B_iT G_iT⟩
  have Gtake : FnR PR w K mg base (L2.CX PR w) 5 f_w5 (spTake xW xT) := ok_take F_w5 W M_w3 M_w1
  have bTk : BMeth K xW "take" f_w5 := ⟨⟨m_w5, n_w5, k_w5⟩, bg1, bg2, by decide +kernel, bg3⟩
  have M_n : MethK PR w K mg base (L2.CX PR w) 5 xW "_take_if" f_w12 (fdOf F_w12) ["self", "fits"] (spTakeIf xW xT f_N nm) := ⟨⟨m_w12, n_w12, k_w12⟩, B_w12, ok_takeIf (n := 0) F_w12 W M_w2 M_w1 k_N B_N G_N⟩
  have M_w11 : MethK PR w K mg base (L2.CX PR w) 5 xW "finish" f_w11 (fdOf F_w11) ["self"] (spFinish xW xT) := ⟨⟨m_w11, n_w11, k_w11⟩, B_w11, ok_finish F_w11 W M_w2 M_w1⟩
  have M_w10 : MethK PR w K mg base (L2.CX PR w) 6 xW "take_number" f_w10 (fdOf F_w10) ["self", "least", "most"] (spTakeNum xW xT) := ⟨⟨m_w10, n_w10, k_w10⟩, B_w10, ok_takeNum F_w10 T W bTk Gtake⟩
  have GnT : FnOk PR w K mg base (L2.CX PR w) 6 f_w6 (fdD FD6) ["self", "last", "barred"] (spTakeN xW xT fun H b bs => SqT K H b (bs.map V.str)) := ok_nameT FD6 T W M_w2 M_w3 M_w1 M_n (PySem.W.mg_of X G a_N)
  have Gw0 : FnOk PR w K mg base (L2.CX PR w) 4 f_w0 (fdD FD7) ["self", "text", "sign"] (spInitW K xW xT) := ok_initW FD7 T W ET B_iT G_iT
  have Y : WK PR w K mg base xW xT e0 (tw f_w5 f_w6 f_w10 f_w11) (tw (fdOf F_w5) (fdD FD6) (fdOf F_w10) (fdOf F_w11)) ds0 := ⟨W, ⟨m_w5, n_w5, k_w5⟩, Gtake, ⟨m_w6, n_w6, k_w6⟩, GnT, B_w60, v0', tE, M_w10, M_w11⟩
  have MH : MkH PR w K mg base (⟨c0, c1, c2, c3⟩ : A4) xN xZ (t4 f_i0 f_i1 f_i2 f_i3) (t4 (fdD FD0) (fdOf F_i1) (fdOf F_i2) (fdOf F_i3)) := ⟨⟨C0.ms, m_i0, n_i0, C0.kp⟩, B_i0, G_i0, ⟨C1.ms, m_i1, n_i1, C1.kp⟩, B_i1, G_i1, ⟨C2.ms, m_i2, n_i2, C2.kp⟩, B_i2, G_i2, ⟨C3.ms, m_i3, n_i3, C3.kp⟩, B_i3, G_i3⟩
  have G_nh : FnOk PR w K mg base (L2.CX PR w) 8 f_nh (fdOf F_nh) ["words"] (spNext (⟨c0, c1, c2, c3⟩ : A4) xW xT) := ok_next F_nh S Vc MH Y
  have G_rH : FnOk PR w K mg base (L2.CX PR w) 9 f_rH (fdOf F_rH) ["cls", "text"] (spRead K (⟨c0, c1, c2, c3⟩ : A4) xT) := ok_hread F_rH Y F_nh B_nh (PySem.W.mg_of X G a_nh) G_nh (PySem.W.mg_of X G g_xW) ⟨cW.ms, m_w0, n_w0, cW.kp⟩ B_w0 vn Gw0
  have R_rH : ReadC PR w K mg base (⟨c0, c1, c2, c3⟩ : A4) xT (.type "type") "Handler" bH p_rH f_rH (fdOf F_rH) 9 := ⟨(PySem.W.mg_of X G g_bH), rd_mk rd_bH, ⟨cm_rH, ⟨_, rc_rH⟩, fi_rH⟩, B_rH, kbHandler F_rH, G_rH⟩
  have G_rc : FnOk PR w K mg base (L2.CX PR w) 10 f_rc (fdOf F_rc) ["cls", "text"] (spRead K (⟨c0, c1, c2, c3⟩ : A4) xT) := ok_rdCell F_rc R_rH
  have R_rc : ReadC PR w K mg base (⟨c0, c1, c2, c3⟩ : A4) xT (.type "type") "Cell" c0 p_rc f_rc (fdOf F_rc) 10 := ⟨(PySem.W.mg_of X G g_c0), rd_mk rd_c0, ⟨cm_rc, ⟨_, rc_rc⟩, fi_rc⟩, B_rc, kbCell F_rc, G_rc⟩
  have G_rl : FnOk PR w K mg base (L2.CX PR w) 10 f_rl (fdOf F_rl) ["cls", "text"] (spRead K (⟨c0, c1, c2, c3⟩ : A4) xT) := ok_rdLog F_rl R_rH
  have R_rl : ReadC PR w K mg base (⟨c0, c1, c2, c3⟩ : A4) xT (.type "type") "Log" c1 p_rl f_rl (fdOf F_rl) 10 := ⟨(PySem.W.mg_of X G g_c1), rd_mk rd_c1, ⟨cm_rl, ⟨_, rc_rl⟩, fi_rl⟩, B_rl, kbLog F_rl, G_rl⟩
  have G_rf : FnOk PR w K mg base (L2.CX PR w) 10 f_rf (fdOf F_rf) ["cls", "text"] (spRead K (⟨c0, c1, c2, c3⟩ : A4) xT) := ok_rdFailure F_rf R_rH
  have R_rf : ReadC PR w K mg base (⟨c0, c1, c2, c3⟩ : A4) xT (.type "type") "Failure" c2 p_rf f_rf (fdOf F_rf) 10 := ⟨(PySem.W.mg_of X G g_c2), rd_mk rd_c2, ⟨cm_rf, ⟨_, rc_rf⟩, fi_rf⟩, B_rf, kbFailure F_rf, G_rf⟩
  have G_rh : FnOk PR w K mg base (L2.CX PR w) 10 f_rh (fdOf F_rh) ["cls", "text"] (spRead K (⟨c0, c1, c2, c3⟩ : A4) xT) := ok_rdChoice F_rh R_rH
  have R_rh : ReadC PR w K mg base (⟨c0, c1, c2, c3⟩ : A4) xT (.type "type") "Choice" c3 p_rh f_rh (fdOf F_rh) 10 := ⟨(PySem.W.mg_of X G g_c3), rd_mk rd_c3, ⟨cm_rh, ⟨_, rc_rh⟩, fi_rh⟩, B_rh, kbChoice F_rh, G_rh⟩
  have G_rn : FnOk PR w K mg base (L2.CX PR w) 10 f_rn (fdOf F_rn) ["cls", "text"] (spRead K (⟨c0, c1, c2, c3⟩ : A4) xT) := ok_rdNamed F_rn R_rH
  have R_rn : ReadC PR w K mg base (⟨c0, c1, c2, c3⟩ : A4) xT (.type "type") "Named" bN p_rn f_rn (fdOf F_rn) 10 := ⟨(PySem.W.mg_of X G g_bN), rd_mk rd_bN, ⟨cm_rn, ⟨_, rc_rn⟩, fi_rn⟩, B_rn, kbNamed F_rn, G_rn⟩
  have G_rk : FnOk PR w K mg base (L2.CX PR w) 10 f_rk (fdOf F_rk) ["cls", "text"] (spRead K (⟨c0, c1, c2, c3⟩ : A4) xT) := ok_rdKeeping F_rk R_rH
  have R_rk : ReadC PR w K mg base (⟨c0, c1, c2, c3⟩ : A4) xT (.type "type") "Keeping" bK p_rk f_rk (fdOf F_rk) 10 := ⟨(PySem.W.mg_of X G g_bK), rd_mk rd_bK, ⟨cm_rk, ⟨_, rc_rk⟩, fi_rk⟩, B_rk, kbKeeping F_rk, G_rk⟩
  have G_rt : FnOk PR w K mg base (L2.CX PR w) 10 f_rt (fdOf F_rt) ["cls", "text"] (spRead K (⟨c0, c1, c2, c3⟩ : A4) xT) := ok_rdTurning F_rt R_rH
  have R_rt : ReadC PR w K mg base (⟨c0, c1, c2, c3⟩ : A4) xT (.type "type") "Turning" bT p_rt f_rt (fdOf F_rt) 10 := ⟨(PySem.W.mg_of X G g_bT), rd_mk rd_bT, ⟨cm_rt, ⟨_, rc_rt⟩, fi_rt⟩, B_rt, kbTurning F_rt, G_rt⟩
  have G_mo : FnOk PR w K mg base CX0 1 f_mo (fdOf F_mo) ["one", "other"] (spOneWay K (⟨c0, c1, c2, c3⟩ : A4) bK bT) := ok_oneWay F_mo S T Ba
  have G_mt : FnOk PR w K mg base CX0 2 f_mt (fdOf F_mt) ["self", "other"] (spMeets K (⟨c0, c1, c2, c3⟩ : A4) bK bT) := ok_meets F_mt F_mo B_mo (PySem.W.mg_of X G a_mo) G_mo
  have MM : MeetK PR w K mg base (⟨c0, c1, c2, c3⟩ : A4) bK bT f_mt (fdOf F_mt) := ⟨fun i hi => match i, hi with | 0, _ => ⟨m_mt, n_mt, k_mt⟩ | 1, _ => ⟨mt1, n_mt, k_mt⟩ | 2, _ => ⟨mt2, n_mt, k_mt⟩ | 3, _ => ⟨mt3, n_mt, k_mt⟩, B_mt, kbMeets F_mt, G_mt⟩
  have G_pe : FnOk PR w K mg base CX0 1 f_pe (fdOf F_pe) ["_law_script"] (spPen K) := ok_pen F_pe T
  have G_dr : FnOk PR w K mg base CX0 1 f_dr (fdOf F_dr) ["_law_pen_here", "_law_many"] spDraw := ok_draw F_dr T
  have G_pi : FnOk PR w K mg base CX0 2 f_pi (fdOf F_pi) ["_law_pen_here", "_law_some"] spPick := ok_pick F_pi T F_dr B_dr (PySem.W.mg_of X G a_dr) G_dr
  have G_ro : FnOk PR w K mg base CX0 3 f_ro (fdOf F_ro) ["_law_pen_here"] spRow := ok_row F_ro F_dr B_dr (PySem.W.mg_of X G a_dr) G_dr F_pi B_pi (PySem.W.mg_of X G a_pi) G_pi
  have G_ma : FnOk PR w K mg base CX0 8 f_ma (fdOf F_ma) ["_law_row_here"] (spMade (⟨c0, c1, c2, c3⟩ : A4)) := ok_made F_ma S ⟨C0.ms, m_i0, n_i0, C0.kp⟩ B_i0 G_i0 ⟨C1.ms, m_i1, n_i1, C1.kp⟩ B_i1 G_i1 ⟨C2.ms, m_i2, n_i2, C2.kp⟩ B_i2 G_i2 ⟨C3.ms, m_i3, n_i3, C3.kp⟩ B_i3 G_i3
  have G_so : FnOk PR w K mg base CX0 1 f_so (fdOf F_so) ["_law_row_here"] spSort := ok_sort F_so T
  have Ow : Owns PR w K mg base ⟨c0, c1, c2, c3⟩ := fun i hi => match i, hi with
    | 0, _ => ⟨f_e0, f_t0, _, _, m_e0, n_e0, ne0, B_e0, ok_eqCell F_e0 S T, m_t0, n_t0, B_t0, ok_strCell F_t0 S, fun j hj => p2 0 j (by decide) hj⟩
    | 1, _ => ⟨f_e1, f_t1, _, _, m_e1, n_e1, ne1, B_e1, ok_eqLog F_e1 S T, m_t1, n_t1, B_t1, ok_strLog F_t1 S, fun j hj => p2 1 j (by decide) hj⟩
    | 2, _ => ⟨f_e2, f_t2, _, _, m_e2, n_e2, ne2, B_e2, ok_eqFail F_e2 S T, m_t2, n_t2, B_t2, ok_strFail F_t2 S, fun j hj => p2 2 j (by decide) hj⟩
    | 3, _ => ⟨f_e3, f_t3, _, _, m_e3, n_e3, ne3, B_e3, ok_eqCho F_e3 S T, m_t3, n_t3, B_t3, ok_strCho F_t3, fun j hj => p2 3 j (by decide) hj⟩
  have G_mr : FnG PR w K mg base CX0 10 f_mr (fdOf F_mr) ["_law_pen_here", "_law_row_here", "_law_other"] spMeetR := ok_meetR F_mr T S Ow Ba MM F_pi B_pi (PySem.W.mg_of X G a_pi) G_pi F_ma B_ma (PySem.W.mg_of X G a_ma) G_ma F_so B_so (PySem.W.mg_of X G a_so) G_so
  have G_in : FnOk PR w K mg base CX0 1 f_in (fdOf F_in) ["_law_word"] spIsN := ok_isN F_in T
  have G_du : FnOk PR w K mg base CX0 2 f_du (fdOf F_du) ["_law_line"] spDue := ok_due F_du T F_in B_in (PySem.W.mg_of X G a_in) G_in
  have G_be : FnOk PR w K mg base CX0 3 f_be (fdOf F_be) ["_law_pen_here", "_law_line"] spBent := ok_bent F_be T F_dr B_dr (PySem.W.mg_of X G a_dr) G_dr F_pi B_pi (PySem.W.mg_of X G a_pi) G_pi
  have G_re : FnG PR w K mg base CX0 13 f_re (fdOf F_re) ["_law_pen_here", "_law_line"] (spReadL K (⟨c0, c1, c2, c3⟩ : A4) P0) := ok_readL (A := ⟨c0, c1, c2, c3⟩) (mc := .type "type") (Bc := (q6 c0 c1 c2 c3 bN bH)) (pc := (q6 p_rc p_rl p_rf p_rh p_rn p_rH)) (gc := (q6 f_rc f_rl f_rf f_rh f_rn f_rH)) (dc := (q6 (fdOf F_rc) (fdOf F_rl) (fdOf F_rf) (fdOf F_rh) (fdOf F_rn) (fdOf F_rH))) T TB F_he (PySem.W.mg_of X G a_he) (PySem.W.mg_of X G g_xT) (PySem.W.mg_of X G g_xL) ek R_rc R_rl R_rf R_rh R_rn R_rH l_re c_re F_dr B_dr (PySem.W.mg_of X G a_dr) G_dr
  have RRp : RR PR w K mg base (⟨c0, c1, c2, c3⟩ : A4) P0 bN bK bT bH f_i3 (fdOf F_i3) (t10 f_ma f_pi f_du f_be f_re f_pe f_ro f_mr f_rr f_mt) (t10 (fdOf F_ma) (fdOf F_pi) (fdOf F_du) (fdOf F_be) (fdOf F_re) (fdOf F_pe) (fdOf F_ro) (fdOf F_mr) (fdOf F_rr) (fdOf F_mt)) := { T := T, S := S, O := Ow, Ba := Ba, made := ⟨F_ma, B_ma, (PySem.W.mg_of X G a_ma), G_ma⟩, pick := ⟨F_pi, B_pi, (PySem.W.mg_of X G a_pi), G_pi⟩, due := ⟨F_du, B_du, (PySem.W.mg_of X G a_du), G_du⟩, bent := ⟨F_be, B_be, (PySem.W.mg_of X G a_be), G_be⟩, read := ⟨k_re, B_re, (PySem.W.mg_of X G a_re), G_re⟩, m3 := ⟨C3.ms, m_i3, n_i3, C3.kp⟩, b3 := B_i3, G3 := G_i3, kS := kS }
  have G_rr : FnG PR w K mg base CX0 15 f_rr (fdOf F_rr) ["_law_pen_here", "_law_row_here"] (spReadR P0) := ok_readR F_rr RRp
  exact { R := RRp, pen := ⟨F_pe, B_pe, (PySem.W.mg_of X G a_pe), G_pe⟩, row := ⟨F_ro, B_ro, (PySem.W.mg_of X G a_ro), G_ro⟩, meetR := ⟨k_mr, B_mr, (PySem.W.mg_of X G a_mr), G_mr⟩, readR := ⟨k_rr, B_rr, (PySem.W.mg_of X G a_rr), G_rr⟩, meet := MM, mkh := MH, b01 := B_i01, dv := dv, rK := R_rk, rT := R_rt }
end My
open PySem PySem.W PyProof.Rows
set_option maxHeartbeats 0 in
theorem PySem.Challenge.cw_layerseen_k15_handlers_that_meet_holds : PySem.Challenge.rw_layerseen_k15_handlers_that_meet.Holds := by
  w_on; o_law; k_head; (case hw => w_witness2)
  k_fill
  refine My.law_topT (l := PySem.Challenge.rw_layerseen_k15_handlers_that_meet) (n := 63) (N := My.nLaw) (x := "_law_script") (nm := "law") (qual := "law") (st := My.sLaw) rfl (by decide) rfl (fun w h Y => PySem.W.km_in_of Y) ?Z
  case Z =>
    intro w mg fa h Y KX G hmg
    have hT8 := PySem.W.km_tabs_of Y
    refine' My.all_mk KX G hmg hT8 ?a_W ?l_W ?c_W ?k_W ?a_Y ?l_Y ?c_Y ?k_Y ?a_D ?l_D ?c_D ?k_D ?a_N ?l_N ?c_N ?k_N ?a_C ?l_C ?c_C ?k_C ?a_nh ?l_nh ?c_nh ?k_nh ?a_mo ?l_mo ?c_mo ?k_mo ?a_pe ?l_pe ?c_pe ?k_pe ?a_dr ?l_dr ?c_dr ?k_dr ?a_pi ?l_pi ?c_pi ?k_pi ?a_ro ?l_ro ?c_ro ?k_ro ?a_ma ?l_ma ?c_ma ?k_ma ?a_so ?l_so ?c_so ?k_so ?a_mr ?l_mr ?c_mr ?k_mr ?a_in ?l_in ?c_in ?k_in ?a_du ?l_du ?c_du ?k_du ?a_he ?l_he ?c_he ?k_he ?a_re ?l_re ?c_re ?k_re ?a_be ?l_be ?c_be ?k_be ?a_rr ?l_rr ?c_rr ?k_rr ?a_la ?l_la ?c_la ?k_la ?g_c0 ?g_c1 ?g_c2 ?g_c3 ?g_bN ?g_bK ?g_bT ?g_bH ?g_xN ?g_xZ ?g_xT ?g_xL ?g_xW ?g_bP ?m_iN ?l_iN ?c_iN ?k_iN ?n_iN ?y_iN ?m_iZ ?l_iZ ?c_iZ ?k_iZ ?n_iZ ?y_iZ ?m_iT ?l_iT ?c_iT ?k_iT ?n_iT ?y_iT ?m_w0 ?l_w0 ?c_w0 ?k_w0 ?n_w0 ?m_w1 ?l_w1 ?c_w1 ?k_w1 ?n_w1 ?m_w2 ?l_w2 ?c_w2 ?k_w2 ?n_w2 ?m_w3 ?l_w3 ?c_w3 ?k_w3 ?n_w3 ?m_w5 ?l_w5 ?c_w5 ?k_w5 ?n_w5 ?m_w6 ?l_w6 ?c_w6 ?k_w6 ?n_w6 ?m_w10 ?l_w10 ?c_w10 ?k_w10 ?n_w10 ?m_w11 ?l_w11 ?c_w11 ?k_w11 ?n_w11 ?m_w12 ?l_w12 ?c_w12 ?k_w12 ?n_w12 ?m_i0 ?l_i0 ?c_i0 ?k_i0 ?n_i0 ?m_i1 ?l_i1 ?c_i1 ?k_i1 ?n_i1 ?m_i2 ?l_i2 ?c_i2 ?k_i2 ?n_i2 ?m_i3 ?l_i3 ?c_i3 ?k_i3 ?n_i3 ?m_e0 ?l_e0 ?c_e0 ?k_e0 ?n_e0 ?m_e1 ?l_e1 ?c_e1 ?k_e1 ?n_e1 ?m_e2 ?l_e2 ?c_e2 ?k_e2 ?n_e2 ?m_e3 ?l_e3 ?c_e3 ?k_e3 ?n_e3 ?m_t0 ?l_t0 ?c_t0 ?k_t0 ?n_t0 ?m_t1 ?l_t1 ?c_t1 ?k_t1 ?n_t1 ?m_t2 ?l_t2 ?c_t2 ?k_t2 ?n_t2 ?m_t3 ?l_t3 ?c_t3 ?k_t3 ?n_t3 ?m_mt ?l_mt ?c_mt ?k_mt ?n_mt ?mt1 ?mt2 ?mt3 ?cm_rc ?rc_rc ?l_rc ?fi_rc ?c_rc ?k_rc ?cm_rl ?rc_rl ?l_rl ?fi_rl ?c_rl ?k_rl ?cm_rf ?rc_rf ?l_rf ?fi_rf ?c_rf ?k_rf ?cm_rh ?rc_rh ?l_rh ?fi_rh ?c_rh ?k_rh ?cm_rn ?rc_rn ?l_rn ?fi_rn ?c_rn ?k_rn ?cm_rk ?rc_rk ?l_rk ?fi_rk ?c_rk ?k_rk ?cm_rt ?rc_rt ?l_rt ?fi_rt ?c_rt ?k_rt ?cm_rH ?rc_rH ?l_rH ?fi_rH ?c_rH ?k_rH ?lT0 ?lT6 ?lT7 ?le0 ?bg1 ?bg2 ?bg3 ?lQ ?pQ ?hQ ?nQ ?gL ?eL ?gLo ?gK ?lK0 ?vK ?zK ?z_int ?z_bool ?z_len ?z_abs ?z_list ?z_tuple ?z_dict ?z_range ?z_isinstance ?z_str ?z_all ?z_repr ?z_any ?z_enumerate ?z_ValueError ?lo_xN ?ve_xN ?lo_xZ ?ve_xZ ?lo_xT ?ve_xT ?v0 ?v1 ?v2 ?v3 ?vle ?vmo ?hB0 ?hB1 ?hB2 ?hB3 ?ne0 ?ne1 ?ne2 ?ne3 ?hBW ?rd_c0 ?rd_c1 ?rd_c2 ?rd_c3 ?rd_bN ?rd_bK ?rd_bT ?rd_bH ?hP ?kS ?hXN ?hXZ ?hXT ?hPap ?hO ?mQ
    (case a_W => k_is)
    (case l_W => k_is)
    (case c_W => k_is)
    (case k_W => k_is)
    (case a_Y => k_is)
    (case l_Y => k_is)
    (case c_Y => k_is)
    (case k_Y => k_is)
    (case a_D => k_is)
    (case l_D => k_is)
    (case c_D => k_is)
    (case k_D => k_is)
    (case a_N => k_is)
    (case l_N => k_is)
    (case c_N => k_is)
    (case k_N => k_is)
    (case a_C => k_is)
    (case l_C => k_is)
    (case c_C => k_is)
    (case k_C => k_is)
    (case a_nh => k_is)
    (case l_nh => k_is)
    (case c_nh => k_is)
    (case k_nh => k_is)
    (case a_mo => k_is)
    (case l_mo => k_is)
    (case c_mo => k_is)
    (case k_mo => k_is)
    (case a_pe => k_is)
    (case l_pe => k_is)
    (case c_pe => k_is)
    (case k_pe => k_is)
    (case a_dr => k_is)
    (case l_dr => k_is)
    (case c_dr => k_is)
    (case k_dr => k_is)
    (case a_pi => k_is)
    (case l_pi => k_is)
    (case c_pi => k_is)
    (case k_pi => k_is)
    (case a_ro => k_is)
    (case l_ro => k_is)
    (case c_ro => k_is)
    (case k_ro => k_is)
    (case a_ma => k_is)
    (case l_ma => k_is)
    (case c_ma => k_is)
    (case k_ma => k_is)
    (case a_so => k_is)
    (case l_so => k_is)
    (case c_so => k_is)
    (case k_so => k_is)
    (case a_mr => k_is)
    (case l_mr => k_is)
    (case c_mr => k_is)
    (case k_mr => k_is)
    (case a_in => k_is)
    (case l_in => k_is)
    (case c_in => k_is)
    (case k_in => k_is)
    (case a_du => k_is)
    (case l_du => k_is)
    (case c_du => k_is)
    (case k_du => k_is)
    (case a_he => k_is)
    (case l_he => k_is)
    (case c_he => k_is)
    (case k_he => k_is)
    (case a_re => k_is)
    (case l_re => k_is)
    (case c_re => k_is)
    (case k_re => k_is)
    (case a_be => k_is)
    (case l_be => k_is)
    (case c_be => k_is)
    (case k_be => k_is)
    (case a_rr => k_is)
    (case l_rr => k_is)
    (case c_rr => k_is)
    (case k_rr => k_is)
    (case a_la => k_is)
    (case l_la => k_is)
    (case c_la => k_is)
    (case k_la => k_is)
    (case g_c0 => k_is)
    (case g_c1 => k_is)
    (case g_c2 => k_is)
    (case g_c3 => k_is)
    (case g_bN => k_is)
    (case g_bK => k_is)
    (case g_bT => k_is)
    (case g_bH => k_is)
    (case g_xN => k_is)
    (case g_xZ => k_is)
    (case g_xT => k_is)
    (case g_xL => k_is)
    (case g_xW => k_is)
    (case g_bP => k_is)
    (case m_iN => k_is)
    (case l_iN => k_is)
    (case c_iN => k_is)
    (case k_iN => k_is)
    (case n_iN => k_is)
    (case y_iN => k_is)
    (case m_iZ => k_is)
    (case l_iZ => k_is)
    (case c_iZ => k_is)
    (case k_iZ => k_is)
    (case n_iZ => k_is)
    (case y_iZ => k_is)
    (case m_iT => k_is)
    (case l_iT => k_is)
    (case c_iT => k_is)
    (case k_iT => k_is)
    (case n_iT => k_is)
    (case y_iT => k_is)
    (case m_w0 => k_is)
    (case l_w0 => k_is)
    (case c_w0 => k_is)
    (case k_w0 => k_is)
    (case n_w0 => k_is)
    (case m_w1 => k_is)
    (case l_w1 => k_is)
    (case c_w1 => k_is)
    (case k_w1 => k_is)
    (case n_w1 => k_is)
    (case m_w2 => k_is)
    (case l_w2 => k_is)
    (case c_w2 => k_is)
    (case k_w2 => k_is)
    (case n_w2 => k_is)
    (case m_w3 => k_is)
    (case l_w3 => k_is)
    (case c_w3 => k_is)
    (case k_w3 => k_is)
    (case n_w3 => k_is)
    (case m_w5 => k_is)
    (case l_w5 => k_is)
    (case c_w5 => k_is)
    (case k_w5 => k_is)
    (case n_w5 => k_is)
    (case m_w6 => k_is)
    (case l_w6 => k_is)
    (case c_w6 => k_is)
    (case k_w6 => k_is)
    (case n_w6 => k_is)
    (case m_w10 => k_is)
    (case l_w10 => k_is)
    (case c_w10 => k_is)
    (case k_w10 => k_is)
    (case n_w10 => k_is)
    (case m_w11 => k_is)
    (case l_w11 => k_is)
    (case c_w11 => k_is)
    (case k_w11 => k_is)
    (case n_w11 => k_is)
    (case m_w12 => k_is)
    (case l_w12 => k_is)
    (case c_w12 => k_is)
    (case k_w12 => k_is)
    (case n_w12 => k_is)
    (case m_i0 => k_is)
    (case l_i0 => k_is)
    (case c_i0 => k_is)
    (case k_i0 => k_is)
    (case n_i0 => k_is)
    (case m_i1 => k_is)
    (case l_i1 => k_is)
    (case c_i1 => k_is)
    (case k_i1 => k_is)
    (case n_i1 => k_is)
    (case m_i2 => k_is)
    (case l_i2 => k_is)
    (case c_i2 => k_is)
    (case k_i2 => k_is)
    (case n_i2 => k_is)
    (case m_i3 => k_is)
    (case l_i3 => k_is)
    (case c_i3 => k_is)
    (case k_i3 => k_is)
    (case n_i3 => k_is)
    (case m_e0 => k_is)
    (case l_e0 => k_is)
    (case c_e0 => k_is)
    (case k_e0 => k_is)
    (case n_e0 => k_is)
    (case m_e1 => k_is)
    (case l_e1 => k_is)
    (case c_e1 => k_is)
    (case k_e1 => k_is)
    (case n_e1 => k_is)
    (case m_e2 => k_is)
    (case l_e2 => k_is)
    (case c_e2 => k_is)
    (case k_e2 => k_is)
    (case n_e2 => k_is)
    (case m_e3 => k_is)
    (case l_e3 => k_is)
    (case c_e3 => k_is)
    (case k_e3 => k_is)
    (case n_e3 => k_is)
    (case m_t0 => k_is)
    (case l_t0 => k_is)
    (case c_t0 => k_is)
    (case k_t0 => k_is)
    (case n_t0 => k_is)
    (case m_t1 => k_is)
    (case l_t1 => k_is)
    (case c_t1 => k_is)
    (case k_t1 => k_is)
    (case n_t1 => k_is)
    (case m_t2 => k_is)
    (case l_t2 => k_is)
    (case c_t2 => k_is)
    (case k_t2 => k_is)
    (case n_t2 => k_is)
    (case m_t3 => k_is)
    (case l_t3 => k_is)
    (case c_t3 => k_is)
    (case k_t3 => k_is)
    (case n_t3 => k_is)
    (case m_mt => k_is)
    (case l_mt => k_is)
    (case c_mt => k_is)
    (case k_mt => k_is)
    (case n_mt => k_is)
    (case mt1 => k_is)
    (case mt2 => k_is)
    (case mt3 => k_is)
    (case cm_rc => k_is)
    (case rc_rc => k_is)
    (case l_rc => k_is)
    (case fi_rc => k_is)
    (case c_rc => k_is)
    (case k_rc => k_is)
    (case cm_rl => k_is)
    (case rc_rl => k_is)
    (case l_rl => k_is)
    (case fi_rl => k_is)
    (case c_rl => k_is)
    (case k_rl => k_is)
    (case cm_rf => k_is)
    (case rc_rf => k_is)
    (case l_rf => k_is)
    (case fi_rf => k_is)
    (case c_rf => k_is)
    (case k_rf => k_is)
    (case cm_rh => k_is)
    (case rc_rh => k_is)
    (case l_rh => k_is)
    (case fi_rh => k_is)
    (case c_rh => k_is)
    (case k_rh => k_is)
    (case cm_rn => k_is)
    (case rc_rn => k_is)
    (case l_rn => k_is)
    (case fi_rn => k_is)
    (case c_rn => k_is)
    (case k_rn => k_is)
    (case cm_rk => k_is)
    (case rc_rk => k_is)
    (case l_rk => k_is)
    (case fi_rk => k_is)
    (case c_rk => k_is)
    (case k_rk => k_is)
    (case cm_rt => k_is)
    (case rc_rt => k_is)
    (case l_rt => k_is)
    (case fi_rt => k_is)
    (case c_rt => k_is)
    (case k_rt => k_is)
    (case cm_rH => k_is)
    (case rc_rH => k_is)
    (case l_rH => k_is)
    (case fi_rH => k_is)
    (case c_rH => k_is)
    (case k_rH => k_is)
    (case lT0 => k_is)
    (case lT6 => k_is)
    (case lT7 => k_is)
    (case le0 => k_is)
    (case bg1 => k_is)
    (case bg2 => k_is)
    (case bg3 => k_is)
    (case lQ => k_is)
    (case pQ => rfl)
    (case hQ => kernel_rfl)
    (case nQ => kernel_rfl)
    (case gL => k_is)
    (case eL => decide +kernel)
    (case gLo => k_is)
    (case gK => k_is)
    (case lK0 => k_is)
    (case vK => decide +kernel)
    (case zK => decide +kernel)
    (case z_int => k_is)
    (case z_bool => k_is)
    (case z_len => k_is)
    (case z_abs => k_is)
    (case z_list => k_is)
    (case z_tuple => k_is)
    (case z_dict => k_is)
    (case z_range => k_is)
    (case z_isinstance => k_is)
    (case z_str => k_is)
    (case z_all => k_is)
    (case z_repr => k_is)
    (case z_any => k_is)
    (case z_enumerate => k_is)
    (case z_ValueError => k_is)
    (case lo_xN => k_is)
    (case ve_xN => decide +kernel)
    (case lo_xZ => k_is)
    (case ve_xZ => decide +kernel)
    (case lo_xT => k_is)
    (case ve_xT => decide +kernel)
    (case v0 => k_is)
    (case v1 => k_is)
    (case v2 => k_is)
    (case v3 => k_is)
    (case vle => k_is)
    (case vmo => k_is)
    (case hB0 => kernel_rfl)
    (case hB1 => kernel_rfl)
    (case hB2 => kernel_rfl)
    (case hB3 => kernel_rfl)
    (case ne0 => k_is)
    (case ne1 => k_is)
    (case ne2 => k_is)
    (case ne3 => k_is)
    (case hBW => kernel_rfl)
    (case rd_c0 => kernel_rfl)
    (case rd_c1 => kernel_rfl)
    (case rd_c2 => kernel_rfl)
    (case rd_c3 => kernel_rfl)
    (case rd_bN => kernel_rfl)
    (case rd_bK => kernel_rfl)
    (case rd_bT => kernel_rfl)
    (case rd_bH => kernel_rfl)
    (case hP => kernel_rfl)
    (case kS => kernel_rfl)
    (case hXN => kernel_rfl)
    (case hXZ => kernel_rfl)
    (case hXT => kernel_rfl)
    (case hPap => kernel_rfl)
    (case hO => kernel_rfl)
    (case mQ => first | exact List.Mem.head _ | decide)
