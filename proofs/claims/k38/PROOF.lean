import PyProof.Rows.All
import Wide.All
import OpenK.AllK
import Wide.FinOn
import HandS.ForMost
import HandS.Lambda
import HandS.EndTab
import KE.KDictCopyH
import HandS.ForExc
import HandS.ExcIs
import HandS.ExcField
import KE.KExcIs
import HandS.IsInst
import KE.KCallOwn
import PyProof.InstNe
import HandS.RaiseMore
import HandS.DictEq
import HandS.DeepEq
import HandS.Strs
import HandS.SetFor
import HandS.SetTxt0
import HandS.OwnEq
import HandS.Deep
import HandS.Star
import HandS.ClsMeth
import HandS.DictComp
import HandS.Walk
import HandS.Iter
import HandS.Comp
import HandS.Text
import HandS.ExcInit
import HandS.ExcValue
import HandS.Gcd
import HandS.Wide
import HandS.MakeKw
import HandS.MakeKwOnly
import HandS.Defaults
import HandS.Dict
import HandS.MethStar
import HandS.CallLocal
import HandS.IterVal
import HandS.ListItems
import HandS.FStr
import HandS.Flow
import HandS.AnyAll
import HandS.TupAny
import HandS.Style
import KE.GoesMore
import PyProof.Draws
import HandS.IterNext
import HandS.OwnIter
import KE.KOwnIter
import KE.KMathGC
import PyProof.NeKinds
import PyProof.CompMap
import PySem.Challenge.RW_layerseen_k38_runs_and_normal_stacks
set_option Elab.async false
set_option linter.all false
set_option maxRecDepth 100000
set_option maxHeartbeats 4000000

namespace My
open PySem PySem.Spec PyProof.Rows L2

/-- what the walk of the law's body has to give, the guards being known -/
def LawBody (l : PySem.W.OpenLaw) (w : World) (K : PySem.W.Frag) (mg : Str → Option Value) (n : Nat) (N : List Str) (qual : Str) (st : Stmt) (fa : Addr) : Prop :=
  ∀ base : Heap, K.In base → base.Ns mainGlobals mg → ∀ (cdv : Value) (s : Shared) (H : Hp) (a : Addr) (ns : List Int), ns.length ≤ n → Only H → SqL K H a (ns.map V.int) →
    ∃ t, PSs (cxOf CX0 l.prog w K mg base N qual (defScope st) fa cdv callerA [] s H E0).nox (defBody st) t ∧
      t { nx := fun _ _ => False, rt := fun v _ => v = .bl true } (start N [.ref a]) H

/-- one call of the law from an abstract heap -/
theorem enter {l : PySem.W.OpenLaw} {w : World} {K : PySem.W.Frag} {mg : Str → Option Value} {n : Nat} {N : List Str} {x nm qual : Str} {st : Stmt} {fa a : Addr} {fd : FuncData}
    {base : Heap} {s : Shared} {H : Hp} {ns : List Int}
    (F : Fun K nm qual st fa fd) (S : FnScope N [x] (defScope st)) (hb : ∀ (s : Shared) (u : Value), BindsTo s fd ⟨[u], []⟩ [(x, u)])
    (B : LawBody l w K mg n N qual st fa) (hKb : K.In base) (hNb : base.Ns mainGlobals mg) (hn : ns.length ≤ n) (hO : Only H) (hS : SqL K H a (ns.map V.int))
    (e0 : Env0 l.prog w K mg base callerA [] s H) :
    codeAny (model l.prog w) callerA (.call (.ref fa) ⟨[.ref a], []⟩)
      (fun r s' => r = .ok (.ret (.bool true)) ∧ ∃ H', s'.os = s.os ∧ AllBare s'.gens ∧ Un [] [] H H' s.heap s'.heap ∧ HOk l.prog w H' s'.heap) s := by
  obtain ⟨oc, od, kV, doc, pm, an, cdv, ct, osl, rfl, lk, hcd⟩ := F.ex
  have stays : ∀ b o, base.get? b = some o → s.heap.get? b = some o := fun b o z => (e0.bs b o z).1
  have KS : K.In s.heap := e0.mod.kin.keeps stays
  have NL : s.heap.NoLimit := e0.mod.nolimit.keeps stays
  have kinds : ∀ y ∈ [x].zip [Value.ref a], (defScope st).names.lookup y.1 = some .local ∨ ((defScope st).names.lookup y.1 = some .cell ∧ ((cellsFrom (s.heap.objs.size + 1) (defScope st).names []).lookup y.1).isSome = true) := by
    intro y hy
    obtain rfl : y = (x, Value.ref a) := List.mem_singleton.mp hy
    cases S.par x (List.mem_singleton.mpr rfl) with
    | inl q => exact .inl q
    | inr q => exact .inr ⟨q, PySem.W.cellsFrom_some _ _ _ (.inl q)⟩
  refine codeAny_call_function (by decide) (KS _ _ lk) rfl S.co S.gen rfl (PySem.W.codeRec_of KS hcd) (hb s (.ref a) _ _ _ _ ?_)
  refine wpAny_newFunctionEnv_cells S.kind kinds fun env he s2 ic => ?_
  subst he
  refine ⟨NL.keeps ic.toInCall.keep, codeAny_func ?_⟩
  obtain ⟨t, ht, hq⟩ := B base hKb hNb cdv s H a ns hn hO hS
  have J0 := inv_start (E := E0) (CX := CX0) S (show callerA.handled = none from rfl) e0 (vs := [.ref a]) (us := [.ref a]) rfl (.cons rfl .nil) ic
  refine wpAny_mono (ht.run [] s2 (start N [.ref a]) H _ (J0.wish _) hq) (fun fl s' hs => ?_) fun e s' hs => hs.elim
  cases fl with
  | ret u =>
    obtain ⟨v, σ', H', J, rv, q⟩ := hs
    subst q
    obtain rfl : u = Value.bool true := rv
    exact ⟨rfl, H', J.os, J.bare, J.base, J.hok⟩
  | next => exact (let ⟨_, _, _, q⟩ := hs; q).elim
  | brk => exact (let ⟨_, _, _, q⟩ := hs; q).elim
  | cont => exact (let ⟨_, _, _, q⟩ := hs; q).elim

/-- the object of the script, looked at through its abstract heap -/
def scriptHp (a : Addr) (vs : List Value) (ns : List Int) : Hp := fun b => if b = a then some (.frz { cls := .type "list", data := .seq vs.toArray } (.lst (ns.map V.int))) else none

/-- from one call in an abstract heap to the call that is asked for -/
theorem settle {l : PySem.W.OpenLaw} {w : World} {K : PySem.W.Frag} {mg mb : Str → Option Value} {n : Nat} {N : List Str} {x nm qual : Str} {st : Stmt} {fa a : Addr} {fd : FuncData} {s : Shared} {H : Hp} {ns : List Int} {vs : List Value}
    (KX : K.In s.heap) (hns : s.heap.Ns mainGlobals mg) (hb : s.heap.Ns builtinsNs mb) (hbb : ∀ x : Str, x ≠ "__name__" → mb x = bootBuiltins x) (hlim : s.heap.NoLimit) (hg : s.gens = #[])
    (ha : s.heap.get? a = some { cls := .type "list", data := .seq vs.toArray }) (hn : ns.length ≤ n)
    (F : Fun K nm qual st fa fd) (S : FnScope N [x] (defScope st)) (hbi : ∀ (s : Shared) (u : Value), BindsTo s fd ⟨[u], []⟩ [(x, u)]) (B : LawBody l w K mg n N qual st fa)
    (hO : Only H) (hS : SqL K H a (ns.map V.int)) (hok : HOk l.prog w H s.heap) (one : ∀ b, H b ≠ none → b = a) (out : H a ≠ none → K.lookup a = none) :
    codeAny (model l.prog w) callerA (.call (.ref fa) ⟨[.ref a], []⟩) (fun r s' => r = .ok (.ret (.bool true)) ∧ OldK s.heap s'.heap ∧ s'.os = s.os ∧ AllBare s'.gens) s := by
  have seen : ∀ {b : Addr} {o : Obj}, H b = none → s.heap.get? b = some o → (hidT s.heap H).get? b = some o := fun q e => hidT_get e q
  have free : ∀ {b : Addr} {o : Obj}, s.heap.get? b = some o → (∀ xs k, o.data ≠ .seq xs k) → H b = none := by
    intro b o e nd
    by_cases z : H b = none
    · exact z
    · have eb := one b z
      rw [eb, ha] at e
      injection e with e
      exact absurd (by rw [← e]) (nd vs.toArray 0)
  have names : ∀ {b : Addr} {m : Str → Option Value}, s.heap.Ns b m → (hidT s.heap H).Ns b m := by
    intro b m nb
    obtain ⟨o, es, ep, e, d, rest⟩ := nb
    exact ⟨o, es, ep, seen (free e fun xs k z => by rw [d] at z; injection z) e, d, rest⟩
  have KB : K.In (hidT s.heap H) := by
    intro b o e
    refine seen ?_ (KX b o e)
    by_cases z : H b = none
    · exact z
    · have eb := one b z
      subst eb
      rw [out z] at e
      injection e
  have E0' : Env0 l.prog w K mg (hidT s.heap H) callerA [] s H := by
    refine ⟨rfl, ⟨KB, names hns, ⟨mb, names hb, hbb⟩, ?_⟩, fun b o e => of_hidT e, Nat.le_of_eq (hidT_size _ _), trivial, ?_, hok, .of_eq hg⟩
    · obtain ⟨mc, c1, c2⟩ := hlim
      exact ⟨mc, names c1, c2⟩
    · intro b z
      exact absurd (show b ∈ ([] : List Addr) from z) List.not_mem_nil
  refine codeAny_mono (enter F S hbi B KB (names hns) hn hO hS E0') fun r s' h => ?_
  obtain ⟨e1, H', os, bare, un, hok'⟩ := h
  refine ⟨e1, OldK.of_keep fun b o e => ?_, os, bare⟩
  by_cases z : H b = none
  · exact un.keep b o e z (show b ∉ ([] : List Addr) from List.not_mem_nil) List.not_mem_nil
  · rcases hO b with y | ⟨ob, xs, y⟩
    · exact absurd y z
    · have g1 := (hok b _ y).1
      have g2 := (hok' b _ (un.frzs b ob _ y)).1
      rw [g1] at e
      injection e with e
      rw [← e]
      exact g2

/-- the goal that the head leaves, from the law's body walked with known guards -/
theorem law_top {l : PySem.W.OpenLaw} {n : Nat} {q : Program} {loose : List Str} {XP : (Str → Option Value) → Heap → Prop} {YP : World → Heap → Prop} {d : DefRec} {K : Params → PySem.W.Frag} {N : List Str} {x nm qual : Str} {st : Stmt}
    (hn : l.most = some n) (hn2 : n ≤ sizeLine) (hdf : d.params.defaults = []) (hY : ∀ (w : World) (h : Heap), YP w h → (K w.params).In h)
    (Z : ∀ (w : World) (mg : Str → Option Value) (fa : Addr) (h : Heap), (K w.params).In h → h.Ns mainGlobals mg → mg d.name = some (.ref fa) →
      ∃ fd : FuncData, Fun (K w.params) nm qual st fa fd ∧ FnScope N [x] (defScope st) ∧ (∀ (s : Shared) (u : Value), BindsTo s fd ⟨[u], []⟩ [(x, u)]) ∧ LawBody l w (K w.params) mg n N qual st fa) :
    PySem.W.WalkO q loose XP YP l.row.toRowW d [] (fun f vs => PySem.call f vs) := by
  refine Att.attach_call hn hdf ?_
  intro w s₀ s mg mb fa o pm cd doc a vs ns G Y ho hd hcd hmg hobj hints hlen hg
  have KX : (K w.params).In s.heap := hY w _ Y
  obtain ⟨fd, F, S, hbi, B⟩ := Z w mg fa _ KX G.T.g hmg
  have rv : Vals (ns.map V.int) vs := vals_ints hints
  have top : ns.length ≤ sizeLine := Nat.le_trans hlen hn2
  have plain := @settle l w (K w.params) mg mb n N x nm qual st fa a fd s
  cases hk : (K w.params).lookup a with
  | some u =>
    have e := KX a u hk
    rw [hobj] at e
    injection e with e
    subst e
    refine plain (H := fun _ => none) (ns := ns) (vs := vs) KX G.T.g G.T.b G.T.builtins G.T.nolimit hg hobj hlen F S hbi B (fun _ => .inl rfl) (.inr ⟨_, vs.toArray, _, hk, rfl, rfl, rfl, ?_, ?_⟩) (fun b u z => ?_) (fun b z => absurd rfl z) (fun z => absurd rfl z)
    · rw [List.size_toArray, hints.length]
      exact top
    · simpa using rv
    · injection z
  | none =>
    refine plain (H := scriptHp a vs ns) (ns := ns) (vs := vs) KX G.T.g G.T.b G.T.builtins G.T.nolimit hg hobj hlen F S hbi B (fun b => ?_) (.inl (.inr ⟨_, if_pos rfl⟩)) (fun b u z => ?_) (fun b z => ?_) (fun _ => hk)
    · by_cases eb : b = a
      · exact .inr ⟨_, _, if_pos eb⟩
      · exact .inl (if_neg eb)
    · by_cases eb : b = a
      · have y := (if_pos eb).symm.trans z
        injection y with y
        subst y
        subst eb
        exact ⟨hobj, by rw [List.length_map]; exact top, vs, _, rv, hobj⟩
      · have y := (if_neg eb).symm.trans z
        injection y
    · by_cases eb : b = a
      · exact eb
      · exact absurd (if_neg eb) z
end My
namespace My
open PySem PySem.Spec PyProof.Rows L2
/-- what the walk of the law's body has to give where one def of the text makes lambdas: its code object at c, the table of that one at P, empty so far -/
def LawBodyT (l : PySem.W.OpenLaw) (w : World) (K : PySem.W.Frag) (mg : Str → Option Value) (n : Nat) (N : List Str) (qual : Str) (st : Stmt) (fa c P : Addr) : Prop :=
  ∀ base : Heap, K.In base → base.Ns mainGlobals mg → LamX.TabB base mg c P → ∀ (cdv : Value) (s : Shared) (H : Hp) (a : Addr) (ns : List Int), ns.length ≤ n → H P = some (.tbl #[]) → SqL K H a (ns.map V.int) →
    ∃ t, PSs (cxOf CX0 l.prog w K mg base N qual (defScope st) fa cdv callerA [] s H E0).nox (defBody st) t ∧
      t { nx := fun _ _ => False, rt := fun v _ => v = .bl true } (start N [.ref a]) H
theorem enterB {l : PySem.W.OpenLaw} {w : World} {K : PySem.W.Frag} {mg : Str → Option Value} {N : List Str} {x nm qual : Str} {st : Stmt} {fa a : Addr} {fd : FuncData}
    {base : Heap} {s : Shared} {H : Hp} (F : Fun K nm qual st fa fd) (S : FnScope N [x] (defScope st)) (hb : ∀ (s : Shared) (u : Value), BindsTo s fd ⟨[u], []⟩ [(x, u)])
    (B : ∀ cdv : Value, ∃ t, PSs (cxOf CX0 l.prog w K mg base N qual (defScope st) fa cdv callerA [] s H E0).nox (defBody st) t ∧ t { nx := fun _ _ => False, rt := fun v _ => v = .bl true } (start N [.ref a]) H)
    (e0 : Env0 l.prog w K mg base callerA [] s H) :
    codeAny (model l.prog w) callerA (.call (.ref fa) ⟨[.ref a], []⟩)
      (fun r s' => r = .ok (.ret (.bool true)) ∧ ∃ H', s'.os = s.os ∧ AllBare s'.gens ∧ Un [] [] H H' s.heap s'.heap ∧ HOk l.prog w H' s'.heap) s := by
  obtain ⟨oc, od, kV, doc, pm, an, cdv, ct, osl, rfl, lk, hcd⟩ := F.ex
  have stays : ∀ b o, base.get? b = some o → s.heap.get? b = some o := fun b o z => (e0.bs b o z).1
  have KS : K.In s.heap := e0.mod.kin.keeps stays
  have NL : s.heap.NoLimit := e0.mod.nolimit.keeps stays
  have kinds : ∀ y ∈ [x].zip [Value.ref a], (defScope st).names.lookup y.1 = some .local ∨ ((defScope st).names.lookup y.1 = some .cell ∧ ((cellsFrom (s.heap.objs.size + 1) (defScope st).names []).lookup y.1).isSome = true) := by
    intro y hy
    obtain rfl : y = (x, Value.ref a) := List.mem_singleton.mp hy
    cases S.par x (List.mem_singleton.mpr rfl) with
    | inl q => exact .inl q
    | inr q => exact .inr ⟨q, PySem.W.cellsFrom_some _ _ _ (.inl q)⟩
  refine codeAny_call_function (by decide) (KS _ _ lk) rfl S.co S.gen rfl (PySem.W.codeRec_of KS hcd) (hb s (.ref a) _ _ _ _ ?_)
  refine wpAny_newFunctionEnv_cells S.kind kinds fun env he s2 ic => ?_
  subst he
  refine ⟨NL.keeps ic.toInCall.keep, codeAny_func ?_⟩
  obtain ⟨t, ht, hq⟩ := B cdv
  have J0 := inv_start (E := E0) (CX := CX0) S (show callerA.handled = none from rfl) e0 (vs := [.ref a]) (us := [.ref a]) rfl (.cons rfl .nil) ic
  refine wpAny_mono (ht.run [] s2 (start N [.ref a]) H _ (J0.wish _) hq) (fun fl s' hs => ?_) fun e s' hs => hs.elim
  cases fl with
  | ret u =>
    obtain ⟨v, σ', H', J, rv, q⟩ := hs
    subst q
    obtain rfl : u = Value.bool true := rv
    exact ⟨rfl, H', J.os, J.bare, J.base, J.hok⟩
  | next => exact (let ⟨_, _, _, q⟩ := hs; q).elim
  | brk => exact (let ⟨_, _, _, q⟩ := hs; q).elim
  | cont => exact (let ⟨_, _, _, q⟩ := hs; q).elim
/-- a table that is empty so far -/
abbrev tab0 : Obj := { cls := .none, data := .fields #[] }
theorem settleT {l : PySem.W.OpenLaw} {w : World} {K : PySem.W.Frag} {mg mb : Str → Option Value} {n : Nat} {N : List Str} {x nm qual : Str} {st : Stmt} {fa a c P : Addr} {fd : FuncData} {s : Shared} {H : Hp} {ns : List Int} {vs : List Value}
    (KX : K.In s.heap) (hns : s.heap.Ns mainGlobals mg) (hb : s.heap.Ns builtinsNs mb) (hbb : ∀ x : Str, x ≠ "__name__" → mb x = bootBuiltins x) (hlim : s.heap.NoLimit) (hg : s.gens = #[])
    (ha : s.heap.get? a = some { cls := .type "list", data := .seq vs.toArray }) (hn : ns.length ≤ n)
    (hT : s.heap.get? P = some tab0) (nT : K.lookup P = none) (C : PySem.W.CodeHd s.heap c P) (bm : s.heap.BuiltinsAt mg P)
    (F : Fun K nm qual st fa fd) (S : FnScope N [x] (defScope st)) (hbi : ∀ (s : Shared) (u : Value), BindsTo s fd ⟨[u], []⟩ [(x, u)]) (B : LawBodyT l w K mg n N qual st fa c P)
    (hP : H P = some (.tbl #[])) (hO : ∀ b, b ≠ P → H b = none ∨ ∃ o xs, H b = some (.frz o (.lst xs))) (hS : SqL K H a (ns.map V.int)) (hok : HOk l.prog w H s.heap) (one : ∀ b, H b ≠ none → b = a ∨ b = P) (out : H a ≠ none → K.lookup a = none) :
    codeAny (model l.prog w) callerA (.call (.ref fa) ⟨[.ref a], []⟩) (fun r s' => r = .ok (.ret (.bool true)) ∧ OldK s.heap s'.heap ∧ s'.os = s.os ∧ AllBare s'.gens) s := by
  -- what is neither the script nor the table is not tracked
  have free : ∀ {b : Addr} {o : Obj}, s.heap.get? b = some o → (∀ xs k, o.data ≠ .seq xs k) → o.data ≠ .fields #[] → H b = none := by
    intro b o e nd nf
    by_cases z : H b = none
    · exact z
    · rcases one b z with eb | eb
      · rw [eb, ha] at e
        injection e with e
        exact absurd (by rw [← e]) (nd vs.toArray 0)
      · rw [eb, hT] at e
        injection e with e
        exact absurd (by rw [← e]) nf
  have seen : ∀ {b : Addr} {o : Obj}, s.heap.get? b = some o → (∀ xs k, o.data ≠ .seq xs k) → o.data ≠ .fields #[] → (hidT s.heap H).get? b = some o := fun e h1 h2 => hidT_get e (free e h1 h2)
  have names : ∀ {b : Addr} {m : Str → Option Value}, s.heap.Ns b m → (hidT s.heap H).Ns b m := by
    intro b m nb
    obtain ⟨o, es, ep, e, d, rest⟩ := nb
    exact ⟨o, es, ep, seen e (fun xs k z => by rw [d] at z; injection z) (fun z => by rw [d] at z; injection z), d, rest⟩
  have KB : K.In (hidT s.heap H) := by
    intro b o e
    refine hidT_get (KX b o e) ?_
    by_cases z : H b = none
    · exact z
    · rcases one b z with eb | eb
      · subst eb
        rw [out z] at e
        injection e
      · subst eb
        rw [nT] at e
        injection e
  have E0' : Env0 l.prog w K mg (hidT s.heap H) callerA [] s H := by
    refine ⟨rfl, ⟨KB, names hns, ⟨mb, names hb, hbb⟩, ?_⟩, fun b o e => of_hidT e, Nat.le_of_eq (hidT_size _ _), trivial, ?_, hok, .of_eq hg⟩
    · obtain ⟨mc, c1, c2⟩ := hlim
      exact ⟨mc, names c1, c2⟩
    · intro b z
      exact absurd (show b ∈ ([] : List Addr) from z) List.not_mem_nil
  have TB : LamX.TabB (hidT s.heap H) mg c P := by
    refine ⟨?_, ?_, fun z => ?_⟩
    · obtain ⟨o, us, file, tf, flags, tg, inF, text, tt, e1, r1, r2, r3, rest⟩ := C
      refine ⟨o, us, file, tf, flags, tg, inF, text, tt, seen e1 (fun xs k z => by rw [r2] at z; injection z) (fun z => ?_), r1, r2, r3, rest⟩
      rw [r2] at z
      injection z with z
      rw [z] at r3
      simp at r3
    · obtain ⟨b, ob, b1, b2, b3, b4, b5, b6, b7, b8⟩ := bm
      exact ⟨b, ob, b1, b2, b3, b4, seen b5 (fun xs k z => by rw [b8] at z; injection z) (fun z => by rw [b8] at z; injection z), b6, b7, b8⟩
    · obtain ⟨o, es, ep, e, d, _⟩ := hns
      rw [z, hT] at e
      injection e with e
      rw [← e] at d
      injection d
  refine codeAny_mono (enterB F S hbi (fun cdv => B _ KB (names hns) TB cdv s H a ns hn hP hS) E0') fun r s' h => ?_
  obtain ⟨e1, H', os, bare, un, hok'⟩ := h
  obtain ⟨more, eP⟩ := un.tbls P #[] hP
  have grown : s'.heap.get? P = some { cls := .none, data := .fields (#[] ++ more) } := hok' P _ eP
  have kept : ∀ b o, b ≠ P → s.heap.get? b = some o → s'.heap.get? b = some o := by
    intro b o nb e
    by_cases z : H b = none
    · exact un.keep b o e z (show b ∉ ([] : List Addr) from List.not_mem_nil) List.not_mem_nil
    · rcases hO b nb with y | ⟨ob, xs, y⟩
      · exact absurd y z
      · have g1 := (hok b _ y).1
        have g2 := (hok' b _ (un.frzs b ob _ y)).1
        rw [g1] at e
        injection e with e
        rw [← e]
        exact g2
  refine ⟨e1, ⟨fun b o e => ?_, fun b o e => ?_⟩, os, bare⟩
  · by_cases nb : b = P
    · subst nb
      rw [hT] at e
      injection e with e
      subst e
      exact .inr (.inl ⟨(C.tab hT).isCodeTable, rfl, #[], more, rfl, grown⟩)
    · exact .inl (kept b o nb e)
  · by_cases nb : b = P
    · subst nb
      exact ⟨_, grown⟩
    · exact ⟨o, kept b o nb e⟩
/-- the goal that the head leaves, from the law's body walked with known guards and one table -/
theorem law_topT {l : PySem.W.OpenLaw} {n : Nat} {q : Program} {loose : List Str} {XP : (Str → Option Value) → Heap → Prop} {YP : World → Heap → Prop} {d : DefRec} {K : Params → PySem.W.Frag} {N : List Str} {x nm qual : Str} {st : Stmt}
    (hn : l.most = some n) (hn2 : n ≤ sizeLine) (hdf : d.params.defaults = []) (hY : ∀ (w : World) (h : Heap), YP w h → (K w.params).In h)
    (Z : ∀ (w : World) (mg : Str → Option Value) (fa : Addr) (h : Heap), YP w h → (K w.params).In h → h.Ns mainGlobals mg → mg d.name = some (.ref fa) →
      ∃ (fd : FuncData) (c P : Addr), h.get? P = some tab0 ∧ (K w.params).lookup P = none ∧ PySem.W.CodeHd h c P ∧ Fun (K w.params) nm qual st fa fd ∧ FnScope N [x] (defScope st) ∧ (∀ (s : Shared) (u : Value), BindsTo s fd ⟨[u], []⟩ [(x, u)]) ∧ LawBodyT l w (K w.params) mg n N qual st fa c P) :
    PySem.W.WalkO q loose XP YP l.row.toRowW d [] (fun f vs => PySem.call f vs) := by
  refine Att.attach_call hn hdf ?_
  intro w s₀ s mg mb fa o pm cd doc a vs ns G Y ho hd hcd hmg hobj hints hlen hg
  have KX : (K w.params).In s.heap := hY w _ Y
  obtain ⟨fd, c, P, hT, nT, C, F, S, hbi, B⟩ := Z w mg fa _ Y KX G.T.g hmg
  have bmP : s.heap.BuiltinsAt mg P := by
    obtain ⟨bm, ob, b1, b2, b3, b4, b5, b6⟩ := G.T.bmain
    refine ⟨bm, ob, b1, b2, fun z => ?_, fun z => ?_, b3, b4, b5, b6⟩
    · obtain ⟨o', es, ep, e, hd', _⟩ := G.T.g
      rw [z, e] at b3
      injection b3 with b3
      rw [b3, b6] at hd'
      injection hd'
    · rw [z, hT] at b3
      injection b3 with b3
      rw [← b3] at b6
      injection b6
  have rv : Vals (ns.map V.int) vs := vals_ints hints
  have top : ns.length ≤ sizeLine := Nat.le_trans hlen hn2
  have naP : a ≠ P := fun z => by
    rw [z, hT] at hobj
    injection hobj with hobj
    have := congrArg Obj.data hobj
    injection this
  have plain := @settleT l w (K w.params) mg mb n N x nm qual st fa a c P fd s
  cases hk : (K w.params).lookup a with
  | some u =>
    have e := KX a u hk
    rw [hobj] at e
    injection e with e
    subst e
    refine plain (H := fun b => if b = P then some (.tbl #[]) else none) (ns := ns) (vs := vs) KX G.T.g G.T.b G.T.builtins G.T.nolimit hg hobj hlen hT nT C bmP F S hbi B (if_pos rfl) (fun b nb => .inl (if_neg nb)) (.inr ⟨_, vs.toArray, _, hk, rfl, rfl, rfl, ?_, ?_⟩) (fun b u z => ?_) (fun b z => ?_) (fun z => absurd (if_neg naP) z)
    · rw [List.size_toArray, hints.length]
      exact top
    · simpa using rv
    · by_cases hb : b = P
      · have y := (if_pos hb).symm.trans z
        injection y with y
        subst y
        subst hb
        exact hT
      · have y := (if_neg hb).symm.trans z
        injection y
    · by_cases hb : b = P
      · exact .inr hb
      · exact absurd (if_neg hb) z
  | none =>
    refine plain (H := fun b => if b = P then some (.tbl #[]) else scriptHp a vs ns b) (ns := ns) (vs := vs) KX G.T.g G.T.b G.T.builtins G.T.nolimit hg hobj hlen hT nT C bmP F S hbi B (if_pos rfl) (fun b nb => ?_) (.inl (.inr ⟨_, (if_neg naP).trans (if_pos rfl)⟩)) (fun b u z => ?_) (fun b z => ?_) (fun _ => hk)
    · by_cases eb : b = a
      · exact .inr ⟨_, _, (if_neg nb).trans (if_pos eb)⟩
      · exact .inl ((if_neg nb).trans (if_neg eb))
    · by_cases hb : b = P
      · have y := (if_pos hb).symm.trans z
        injection y with y
        subst y
        subst hb
        exact hT
      · have z1 := (if_neg hb).symm.trans z
        by_cases eb : b = a
        · have y := (if_pos eb).symm.trans z1
          injection y with y
          subst y
          subst eb
          exact ⟨hobj, by rw [List.length_map]; exact top, vs, _, rv, hobj⟩
        · have y := (if_neg eb).symm.trans z1
          injection y
    · by_cases hb : b = P
      · exact .inr hb
      · by_cases eb : b = a
        · exact .inl eb
        · exact absurd ((if_neg hb).trans (if_neg eb)) z
end My
namespace My
open PySem PySem.Spec PyProof.Rows L2
/-! ### a dict that remembers ints, its keys tuples of ints, texts and None -/
def lV : Leaf → V
  | .none => .non
  | .num i => .int i
  | .text z => .str z
theorem lV_is {P : Program} {w : World} {k : Leaf} {u : Value} (r : RelV (lV k) u) : (leafKind P w).is k u = true := by
  cases k with
  | none => obtain rfl : u = Value.none := r; rfl
  | num i => obtain ⟨t, rfl⟩ := (show ∃ t, u = Value.int i t from r); exact decide_eq_true rfl
  | text x =>
    obtain ⟨t, rfl⟩ := (show ∃ t, u = Value.str x t from r)
    show Value.isStrOf x (.str x t) = true
    simp [Value.isStrOf]
theorem leaves_are {P : Program} {w : World} : ∀ {ks : List Leaf} {us : List Value}, Vals (ks.map lV) us → ItemsAre (leafKind P w) ks us
  | [], _, r => by rw [List.map_nil] at r; cases r; exact .nil
  | k :: ks, _, r => by
    rw [List.map_cons] at r
    cases r with
    | cons h t => exact .cons (lV_is h) (leaves_are t)
theorem keyL_of {P : Program} {w : World} {H : Hp} {h : Heap} {b : Addr} {ks : List Leaf} (ok : HOk P w H h) (e : H b = some (.tup (ks.map lV))) : (tupleKind (leafKind P w)).is h ks b := by
  obtain ⟨_, its, r, o, h1, h2, n, h3⟩ := (show ObjOk P w H h b (.tup (ks.map lV)) from ok b _ e)
  exact ⟨o, its.toArray, n, h1, h2, h3, by simpa using leaves_are r⟩
/-- the dict at a by its own object: its entries -/
def MemO (P : Program) (w : World) (a : Addr) (xs : List (List Leaf × Addr × Value)) : HO := .ext fun h => ∃ o es ep, h.get? a = some o ∧ o.ExactDict ∧ o.data = .dict es ep ∧ es.toList = xs.map (entryOfKey (tupleKind (leafKind P w))) ∧ (xs.map (·.1)).Nodup
/-- what stands in it: R tells of each key's int; n entries at most -/
structure MemAt (P : Program) (w : World) (H : Hp) (a : Addr) (R : List Leaf → Int → Prop) (n : Nat) (xs : List (List Leaf × Addr × Value)) : Prop where
  ex : H a = some (MemO P w a xs)
  few : xs.length ≤ n
  key : ∀ x ∈ xs, H x.2.1 = some (.tup (x.1.map lV)) ∧ ∃ i t, x.2.2 = Value.int i t ∧ R x.1 i
  sys : (a == sysModules) = false
theorem MemAt.keep {P : Program} {w : World} {H H' : Hp} {a : Addr} {R : List Leaf → Int → Prop} {n : Nat} {xs : List (List Leaf × Addr × Value)} (M : MemAt P w H a R n xs) (k : ∀ q o, H q = some o → H' q = some o) : MemAt P w H' a R n xs :=
  ⟨k _ _ M.ex, M.few, fun x hx => ⟨k _ _ (M.key x hx).1, (M.key x hx).2⟩, M.sys⟩
theorem MemAt.more {P : Program} {w : World} {H : Hp} {a : Addr} {R : List Leaf → Int → Prop} {n m : Nat} {xs : List (List Leaf × Addr × Value)} (M : MemAt P w H a R n xs) (h : n ≤ m) : MemAt P w H a R m xs :=
  ⟨M.ex, Nat.le_trans M.few h, M.key, M.sys⟩
section
variable {X : Cx} {pins : List (Addr × Obj)} {σ : L2.St} {H : Hp} {s : Shared} {a : Addr} {R : List Leaf → Int → Prop} {n : Nat} {xs : List (List Leaf × Addr × Value)}
theorem mem_dict (I : Inv X pins σ H s) (M : MemAt X.prog X.w H a R n xs) : s.heap.DictOfH (tupleKind (leafKind X.prog X.w)) a xs := by
  obtain ⟨⟨o, es, ep, h1, h2, h3, h4, h5⟩, _, _⟩ := I.hok a _ M.ex
  exact ⟨o, es, ep, h1, h2, h3, h4, fun x hx => keyL_of I.hok (M.key x hx).1, h5⟩
theorem atKey_mem {K : Type} [DecidableEq K] : ∀ {xs : List (K × Addr × Value)} {k : K} {p : Addr × Value}, atKey xs k = some p → ∃ x ∈ xs, x.1 = k ∧ x.2 = p := by
  intro xs k p h
  unfold atKey at h
  obtain ⟨x, hx, e⟩ := Option.map_eq_some_iff.mp h
  have hm := List.mem_of_find?_eq_some hx
  have hp := List.find?_some hx
  exact ⟨x, hm, of_decide_eq_true hp, e⟩
def rMemNotIn (P : Program) (w : World) : R2 := fun x y H Q => ∃ (a b : Addr) (k : List Leaf) (R : List Leaf → Int → Prop) (n : Nat) (xs : List (List Leaf × Addr × Value)), x = .ref b ∧ y = .ref a ∧ H b = some (.tup (k.map lV)) ∧ MemAt P w H a R n xs ∧ Q (.bl (!(atKey xs k).isSome)) H
theorem op_memNotIn (hu : X.A.units + 1 < cLine) : OpR X (compareOp .NotIn) (rMemNotIn X.prog X.w) := by
  intro pins s σ H x y v u Q I rx ry h
  obtain ⟨a, b, k, R, n, xs, rfl, rfl, eb, M, q⟩ := h
  cases rx
  cases ry
  exact wpAny_notIn_heap (tupleKind_room_in1 hu) (keyL_of I.hok eb) M.sys (mem_dict I M) ⟨.bl (!(atKey xs k).isSome), H, I.tok _, rfl, q⟩
/-- d[key] of such a dict -/
def tMemGet (P : Program) (w : World) (td ty : TE) : TE := fun σ H Q => td σ H fun x H1 => ty σ H1 fun y H2 => ∃ (a b : Addr) (k : List Leaf) (R : List Leaf → Int → Prop) (n : Nat) (xs : List (List Leaf × Addr × Value)), x = .ref a ∧ y = .ref b ∧ H2 b = some (.tup (k.map lV)) ∧ MemAt P w H2 a R n xs ∧ (atKey xs k).isSome = true ∧
  ∀ i : Int, R k i → Q (.int i) H2
theorem pe_memget {o i : Expr} {td ty : TE} {pos : Pos} (hu : X.A.units + 1 < cLine) (ho : PE X o td) (hi : PE X i ty) (hs : NoSl i) : PE X (.Subscript o i pos) (tMemGet X.prog X.w td ty) := by
  refine ⟨fun pins s σ H Q I h => ?_⟩
  refine subD_of PySem.F.slot_dict_getitem.lookup hs (thn (ho.run pins s σ H _ I h) fun u s1 ⟨x, H1, I1, rx, q1⟩ => thn (hi.run pins s1 σ H1 _ I1 q1) fun iv s2 ⟨y, H2, I2, ry, a, b, k, R, n, xs, ex, ey, eb, M, sm, q2⟩ => ?_)
  subst ex ey
  obtain rfl : u = Value.ref a := rx
  obtain rfl : iv = Value.ref b := ry
  have dd := mem_dict I2 M
  obtain ⟨p, hp⟩ := Option.isSome_iff_exists.mp sm
  obtain ⟨x, hx, e1, e2⟩ := atKey_mem hp
  obtain ⟨_, i, t, e3, r⟩ := M.key x hx
  refine ⟨dd.typeIs, wpAny_getItem_heap (tupleKind_room_in1 hu) (keyL_of I2.hok eb) dd hp ⟨.int i, H2, I2.tok _, ?_, q2 i (e1 ▸ r)⟩⟩
  rw [← e2, e3]
  exact ⟨t, rfl⟩
/-- d[key] = i of such a dict, the key not yet in it -/
def rMemPut (P : Program) (w : World) : TSet := fun o y v H Q => ∃ (a b : Addr) (k : List Leaf) (R : List Leaf → Int → Prop) (n : Nat) (xs : List (List Leaf × Addr × Value)) (i : Int), o = .ref a ∧ y = .ref b ∧ v = .int i ∧ H b = some (.tup (k.map lV)) ∧ MemAt P w H a R n xs ∧ n < 1000000 ∧ R k i ∧
  ∀ (H' : Hp) (xs' : List (List Leaf × Addr × Value)), MemAt P w H' a R (n + 1) xs' → (∀ q u, q ≠ a → H q = some u → H' q = some u) → (atKey xs' k).isSome = true → Q H'
theorem atKey_put {K : Type} [DecidableEq K] (k : K) (v : Value) : ∀ {xs : List (K × Addr × Value)}, (atKey xs k).isSome = true → (atKey (xs.map (putAt k v)) k).isSome = true := by
  intro xs h
  obtain ⟨p, hp⟩ := Option.isSome_iff_exists.mp h
  obtain ⟨x, hx, e1, _⟩ := atKey_mem hp
  unfold atKey
  rw [Option.isSome_map, List.find?_isSome]
  refine ⟨putAt k v x, List.mem_map.mpr ⟨x, hx, rfl⟩, ?_⟩
  unfold putAt
  rw [if_pos e1]
  exact decide_eq_true e1
theorem set_mem (hu : X.A.units + 1 < cLine) : PSet X (rMemPut X.prog X.w) := by
  intro pins s σ H o y v ov iv u Q I ro ri rv h
  obtain ⟨a, b, k, R, n, xs, i, rfl, rfl, rfl, eb, M, hn, r, q⟩ := h
  cases ro
  cases ri
  obtain ⟨t, rfl⟩ := rv
  have dd := mem_dict I M
  have hz : xs.length ≤ sizeLine := by rw [sizeLine_eq]; have := M.few; omega
  refine wpAny_setItem_heap (hsz := hz) (tupleKind_room_in1 hu) (keyL_of I.hok eb) dd fun h' dd' hs => ?_
  obtain ⟨ob, es, ep, hq, h2, h3, h4, _, h5⟩ := dd'
  obtain ⟨_, _, _⟩ := I.hok a _ M.ex
  have new : ObjOk X.prog X.w (upd H a (MemO X.prog X.w a (storedH xs k b (.int i t)))) h' a (MemO X.prog X.w a (storedH xs k b (.int i t))) := by
    refine ⟨⟨ob, es, ep, hq, h2, h3, h4, h5⟩, ⟨ob, hq⟩, fun h1 h2' ⟨o1, es1, ep1, g1, g2⟩ kk => ⟨o1, es1, ep1, kk _ g1, g2⟩⟩
  have far : ∀ q u, q ≠ a → H q = some u → (upd H a (MemO X.prog X.w a (storedH xs k b (.int i t)))) q = some u := fun q u ne e => by rw [upd_ne ne]; exact e
  have tupNe : ∀ {c : Addr} {ys : List V}, H c = some (.tup ys) → c ≠ a := fun ec => ne_of ec M.ex (fun z => nomatch z)
  refine ⟨_, d_write I (by rw [M.ex]; exact True.intro) hs ⟨ob, hq⟩ new, ?_⟩
  by_cases there : (atKey xs k).isSome = true
  · obtain ⟨p, hp⟩ := Option.isSome_iff_exists.mp there
    have es' := storedH_old hp b (.int i t)
    refine q _ (xs.map (putAt k (.int i t))) ⟨by rw [← es']; exact upd_same, by rw [List.length_map]; have := M.few; omega, fun x hx => ?_, M.sys⟩ far (atKey_put k _ there)
    obtain ⟨x0, hx0, rfl⟩ := List.mem_map.mp hx
    obtain ⟨m1, i0, t0, m2, m3⟩ := M.key x0 hx0
    unfold putAt
    by_cases e : x0.1 = k
    · rw [if_pos e]
      exact ⟨far _ _ (tupNe m1) m1, i, t, rfl, e ▸ r⟩
    · rw [if_neg e]
      exact ⟨far _ _ (tupNe m1) m1, i0, t0, m2, m3⟩
  · have hno : atKey xs k = none := by
      cases e : atKey xs k with
      | none => rfl
      | some p => rw [e] at there; exact absurd rfl there
    have es' := storedH_new hno b (.int i t)
    refine q _ (xs ++ [(k, b, .int i t)]) ⟨by rw [← es']; exact upd_same, by rw [List.length_append, List.length_singleton]; have := M.few; omega, fun x hx => ?_, M.sys⟩ far ?_
    · rcases List.mem_append.mp hx with hx | hx
      · obtain ⟨m1, m2⟩ := M.key x hx
        exact ⟨far _ _ (tupNe m1) m1, m2⟩
      · obtain rfl := List.mem_singleton.mp hx
        exact ⟨far _ _ (tupNe eb) eb, i, t, rfl, r⟩
    · unfold atKey
      rw [Option.isSome_map, List.find?_isSome]
      exact ⟨(k, b, .int i t), List.mem_append_right _ (List.mem_singleton.mpr rfl), decide_eq_true rfl⟩
/-- {} as such a dict -/
def tMemNew (P : Program) (w : World) : TE := fun _ H Q => ∀ a, H a = none → (∀ R, MemAt P w (upd H a (MemO P w a [])) a R 0 []) → Q (.ref a) (upd H a (MemO P w a []))
theorem pe_memnew {pos : Pos} : PE X (.Dict [] [] pos) (tMemNew X.prog X.w) := ⟨fun pins s σ H Q I h => by
  have hb := I.big
  have hn := I.hok.fresh (Nat.le_refl s.heap.objs.size)
  have sys : (s.heap.objs.size == sysModules) = false := beq_eq_false_iff_ne.mpr (Ne.symm (Nat.ne_of_lt hb))
  have new : ObjOk X.prog X.w (upd H s.heap.objs.size (MemO X.prog X.w s.heap.objs.size [])) (s.heap.push { cls := .type "dict", data := .dict #[] }) s.heap.objs.size (MemO X.prog X.w s.heap.objs.size []) :=
    ⟨⟨_, #[], 0, Heap.get?_push_size _ rfl, ⟨rfl, rfl, rfl⟩, rfl, rfl, List.nodup_nil⟩, ⟨_, Heap.get?_push_size _ rfl⟩, fun h1 h2' ⟨o1, es1, ep1, g1, g2⟩ kk => ⟨o1, es1, ep1, kk _ g1, g2⟩⟩
  refine wpAny_Dict_empty ⟨.ref s.heap.objs.size, _, I.laid (a := s.heap.objs.size) (o := MemO X.prog X.w s.heap.objs.size []) (t' := s.toks) (fun _ _ q => Heap.get?_push_of_some _ q) (Nat.le_refl _) new, rfl, h _ hn fun R => ⟨upd_same, Nat.le_refl _, fun x hx => absurd hx List.not_mem_nil, sys⟩⟩⟩
end
end My
namespace My
open PySem PySem.Spec PyProof.Rows L2
/-- an exception of the class cls that was caught and is still held, its own dict at d -/
def KeptO (cls : Value) (d : Option Addr) (a : Addr) : HO := .ext fun h => ∃ oe vs, h.get? a = some oe ∧ Zc cls d oe ∧ oe.data = .fields vs
theorem kept_ok {P : Program} {w : World} {H : Hp} {h : Heap} {cls : Value} {d : Option Addr} {a : Addr} {oe : Obj} {vs : Array Value} (e : h.get? a = some oe) (z : Zc cls d oe) (f : oe.data = .fields vs) : ObjOk P w H h a (KeptO cls d a) :=
  ⟨⟨oe, vs, e, z, f⟩, ⟨oe, e⟩, fun _ _ ⟨o, v, q, r⟩ k => ⟨o, v, k o q, r⟩⟩
section
variable {X : Cx} {pins : List (Addr × Obj)} {σ : L2.St} {H : Hp} {s : Shared}
/-- an object of ours, made since the entry and not tracked so far, is tracked from now on -/
theorem track {a : Addr} {o : HO} (I : Inv X pins σ H s) (na : H a = none) (n0 : X.s_0.heap.get? a = none) (nL : a ≠ X.env.locals) (nC : ∀ x c, X.env.cells.lookup x = some c → c ≠ a) (nP : ∀ p ∈ X.pn ++ pins, p.1 ≠ a)
    (ok : ObjOk X.prog X.w (upd H a o) s.heap a o) : Inv X pins σ (upd H a o) s := by
  have far : ∀ {b : Addr} {u : HO}, H b = some u → b ≠ a := fun q z => by
    rw [z, na] at q
    cases q
  have up : ∀ {b : Addr} {u : HO}, H b = some u → (upd H a o) b = some u := fun q => by
    rw [upd_ne (far q)]
    exact q
  refine ⟨I.ok, I.os, I.bare, ⟨I.base.keep, I.base.slot, fun b u q n hx => ?_, I.base.there, fun b xs q => up (I.base.tups b xs q), fun b u xs q => up (I.base.frzs b u xs q), fun b ps q => ?_⟩, I.loc, I.cell, ?_, fun x c q => ?_, fun p hp => ?_, fun b u q => ?_, I.len⟩
  · have nb : b ≠ a := fun z => by
      rw [z, n0] at q
      cases q
    rw [upd_ne nb]
    exact I.base.free b u q n hx
  · obtain ⟨more, q1⟩ := I.base.tbls b ps q
    exact ⟨more, up q1⟩
  · rw [upd_ne (Ne.symm nL)]
    exact I.free
  · rw [upd_ne (nC x c q)]
    exact I.freeC x c q
  · obtain ⟨h1, h2, h3⟩ := I.pin p hp
    refine ⟨h1, ?_, h3⟩
    rw [upd_ne (nP p hp)]
    exact h2
  · by_cases hb : b = a
    · subst hb
      rw [upd_same] at q
      injection q with q
      subst q
      exact ok
    · rw [upd_ne hb] at q
      exact (I.hok b u q).stay (fun _ _ _ r => r) (fun _ r => up r) fun _ _ r => up r
end
/-- what `except x as n: suite` wishes of an exception of the body: slot i is n's; behind the suite the exception is held -/
def wKeep (K : PySem.W.Frag) (c : Value) (i : Nat) (ts : Addr → Value → Option Addr → TS) (D : Ends) : WX := fun cls d σ H =>
  PySem.W.exmOne K cls c = some true ∧ ∀ a, H a = none → ts a cls d { nx := fun σ' H' => D.nx (σ'.set i none) (upd H' a (KeptO cls d a)), rt := fun _ _ => False, bk := fun _ _ => False, ct := fun _ _ => False } (σ.set i (some (.ref a))) H
section
variable {X : Cx} {x n : Str} {c : Value} {i : Nat} {body suite : List Stmt} {b₀ : Stmt} {np pos pos' : Pos} {tb : WX → TS} {ts : Addr → Value → Option Addr → TS}
theorem ps_try_keep (hex : X.ex = []) (hs : X.stack = X.env :: X.outer) (hf : X.env.frame = some X.env.locals) (hN : X.N.Nodup) (hi : X.N[i]? = some n) (hln : X.env.kindOf n = some .local) (hc : Names X x c)
    (hb : ∀ (W : WX) (pn : List (Addr × Obj)) (xe : Value → Shared → Prop), Takes (X.tr pn xe) W → PassesOwn (model X.prog X.w) X.A X.env xe → PSs (X.tr pn xe) body (tb W))
    (hsu : ∀ (a : Addr) (oe : Obj) (cls : Value) (d : Option Addr) (pn : List (Addr × Obj)), Zc cls d oe → (∃ vs, oe.data = .fields vs) → PSs (X.suite a ((a, oe) :: pn)) (b₀ :: suite) (ts a cls d)) :
    PS X (.Try body [.ExceptHandler (some (.Name x np)) (some n) (b₀ :: suite) pos'] [] [] pos) (fun D σ H => tb (wKeep X.K c i ts D) D σ H) := by
  constructor
  intro pins s σ H D I h
  have ok := I.ok
  have hfr : X.A.frames = some (X.env :: X.outer) := by rw [ok.frames, hs]
  -- what the body's exceptions are told to
  have caught : Takes (X.tr (X.pn ++ pins) fun e s₁ => wpAny (model X.prog X.w) X.A (noteFrame e X.env) (fun _ s₂ => wpAny (model X.prog X.w) X.A (setFlight e none) (fun _ s₃ =>
      wpAny (model X.prog X.w) X.A (handleBy e X.env [.ExceptHandler (some (.Name x np)) (some n) (b₀ :: suite) pos']) (SP X pins D) X.xe s₃) X.xe s₂) X.xe s₁) (wKeep X.K c i ts D) := by
    intro u s' xx
    obtain ⟨a, B, sI, pins', σ', H', cls, d, rfl, J', nb, up, sky, na, os, ag, hm, go⟩ := xx
    have J : Inv X pins σ' H' sI := J'.ofTry ok
    rw [show (X.tr (X.pn ++ pins) _).stack = X.env :: X.outer from hs] at sky
    show wpAny (model X.prog X.w) X.A (noteFrame (.ref a) X.env) _ _ _
    refine Sky.land Zc.steady hfr hf sky fun h3 fl3 up3 => ?_
    have none_B : B.get? a = none := fl3.2.1
    obtain ⟨oe3, vs3, he3, hz3, hd3⟩ := fl3.there
    have J3 : Inv X pins σ' H' { s' with heap := h3 } := J.landed nb fl3.1 (up.trans up3) os ag
    have out : a ∉ frs (X.env :: X.outer) := by
      intro z
      obtain ⟨_, o, e1, e2⟩ := (fl3.2.2.1).mem z
      have e3 := he3.symm.trans e1
      injection e3 with e3
      exact e2 vs3 (e3 ▸ hd3)
    have nL : a ≠ X.env.locals := fun z => out (List.mem_filterMap.mpr ⟨X.env, List.mem_cons_self, by rw [hf, z]⟩)
    have nF : a ∉ X.fs := fun z => by
      obtain ⟨e, he, e1⟩ := List.mem_filterMap.mp z
      exact out (List.mem_filterMap.mpr ⟨e, List.mem_cons_of_mem _ he, e1⟩)
    have notI : ∀ o, sI.heap.get? a ≠ some o := fun o z => by
      have e1 := nb a o z (by rw [hs]; exact out)
      rw [none_B] at e1
      cases e1
    have n0 : X.s_0.heap.get? a = none := by
      cases z : X.s_0.heap.get? a with
      | none => rfl
      | some o =>
        obtain ⟨o', e1⟩ := J.base.there a o z (by rw [hex]; exact List.not_mem_nil)
        exact absurd e1 (notI o')
    have nP : ∀ p ∈ X.pn ++ pins, p.1 ≠ a := fun p hp z => notI p.2 (z ▸ (J.pin p hp).1)
    have nC : ∀ v cc, X.env.cells.lookup v = some cc → cc ≠ a := fun v cc q z => by
      obtain ⟨_, o, e1, e2⟩ := J3.cell v cc q
      have e3 : h3.get? cc = some o := e1
      rw [z, he3] at e3
      injection e3 with e3
      rw [← e3, hd3] at e2
      cases e2
    have S3 := J3.suite he3 hd3 na nL nF
    refine wpAny_handleBy_cons (codeAny_handlers_test ?_) (by intro q; cases q)
    have kind : PySem.W.Looks (model X.prog X.w) h3 (typeOf (.ref a)) cls := fun A Q E s k q => wpAny_typeOf_ref (k _ _ he3) (by rw [hz3.1]; exact q)
    have fits := PySem.W.exm_one (M := model X.prog X.w) J3.kIn kind hm
    have named : ∀ {Q : Value → Shared → Prop} {E : Value → Shared → Prop}, Q c { s' with heap := h3 } → wpAny (model X.prog X.w) (X.A.mark (some (.ref a))) (eval (.Name x np) X.env) Q E { s' with heap := h3 } := by
      intro Q E q
      obtain ⟨g, db, hx | ⟨hx, hv, hnn⟩⟩ := hc
      · exact ld_glob (X := X.suite a ((a, oe3) :: (X.pn ++ pins))) S3 g hx q db
      · exact ld_blt (X := X.suite a ((a, oe3) :: (X.pn ++ pins))) S3 g hx hv q hnn db
    refine named (fits.here (codeAny_handlers_suite_as (HandSPX.lands_againZ fl3 fun h4 fl4 up4 => ?_)))
    obtain ⟨oe4, vs4, he4, hz4, hd4⟩ := fl4.there
    have J4 : Inv X pins σ' H' { s' with heap := h4 } := J.landed nb fl4.1 ((up.trans up3).trans up4) os ag
    have S4 := J4.suite he4 hd4 na nL nF
    refine store_ok (X := X.suite a ((a, oe4) :: (X.pn ++ pins))) (v := .ref a) S4 hN hi (.inl hln) rfl (fun s5 S5 => ?_) (.inr hln)
    refine wpAny_mono ((hsu a oe4 cls d (X.pn ++ pins) hz4 ⟨_, hd4⟩).run [] s5 _ H' _ S5 (go a na)) (fun f s6 q => ?_) fun _ _ z => z.elim
    cases f with
    | brk => exact (let ⟨_, _, _, q⟩ := q; q).elim
    | cont => exact (let ⟨_, _, _, q⟩ := q; q).elim
    | ret u => exact (let ⟨_, _, _, _, _, q⟩ := q; q).elim
    | next =>
      obtain ⟨σ6, H6, S6, q6⟩ := q
      refine gone_ok (X := X.suite a ((a, oe4) :: (X.pn ++ pins))) S6 hN hi hln fun s7 S7 => ?_
      obtain ⟨e7, n7, _⟩ := S7.pin (a, oe4) (List.mem_append_left _ List.mem_cons_self)
      exact ⟨_, _, track (S7.unsuite ok) n7 n0 nL nC nP (kept_ok e7 hz4 hd4), q6⟩
  refine wpAny_Try_except (wpAny_mono ((hb (wKeep X.K c i ts D) (X.pn ++ pins) _ caught PassesOwn.looking).run [] s σ H D (I.toTry _) h) (fun f s1 q => ?_) fun e s1 q => q)
  cases f with
  | next => exact (let ⟨σ', H', J, q⟩ := q; wpAny_execs_nil ⟨σ', H', J.ofTry ok, q⟩)
  | brk => exact (let ⟨σ', H', J, q⟩ := q; ⟨σ', H', J.ofTry ok, q⟩)
  | cont => exact (let ⟨σ', H', J, q⟩ := q; ⟨σ', H', J.ofTry ok, q⟩)
  | ret u => exact (let ⟨v, σ', H', J, r, q⟩ := q; ⟨v, σ', H', J.ofTry ok, r, q⟩)
end
end My
namespace My
open PySem PySem.Spec PyProof.Rows L2
section
variable {X : Cx} {pins : List (Addr × Obj)} {σ : L2.St} {H : Hp} {s : Shared} {a C : Addr} {d : Option Addr}
/-- the held exception as the library's rules for instances want it; its own dict, if it has one, is tracked -/
theorem held_inst (I : Inv X pins σ H s) (h : H a = some (KeptO (.ref C) d a)) (hd : ∀ dd, d = some dd → ∃ fs, H dd = some (.xd fs)) : ∃ oe od, PySem.W.InstAt s.heap a oe C od := by
  obtain ⟨⟨oe, vs, e, z, f⟩, _, _⟩ := I.hok a _ h
  have plain : PySem.W.notCls oe = true := by
    unfold PySem.W.notCls
    rw [f] <;> rfl
  cases d with
  | none => exact ⟨oe, none, e, z.1, plain, by rw [z.2]; trivial⟩
  | some dd =>
    obtain ⟨fs, hx⟩ := hd dd rfl
    obtain ⟨mA, ns, _⟩ := (show ObjOk X.prog X.w H s.heap dd (.xd fs) from I.hok dd _ hx)
    obtain ⟨od, ho, _⟩ := lookIn_ns ns
    exact ⟨oe, some od, e, z.1, plain, by rw [z.2]; exact ho⟩
/-- isinstance(e, c), e an exception that is held, c an own class or a built-in one -/
def rHeldIs (K : PySem.W.Frag) : List V → Hp → VK → Prop := fun xs H Q => ∃ (a D : Addr) (d : Option Addr) (c : V) (u : Value) (b : Bool), xs = [.ref a, c] ∧ ClsV c u ∧ H a = some (KeptO (.ref D) d a) ∧ (∀ dd, d = some dd → ∃ fs, H dd = some (.xd fs)) ∧
  ExcC K D ∧ PySem.W.kitOne K (.ref D) u = some b ∧ Q (.bl b) H
theorem call_heldIs : CallR X (.builtin "isinstance") (rHeldIs X.K) := by
  intro pins s σ H xs us Q I r h
  obtain ⟨a, D, d, c, u, b, rfl, k, ha, hd, T, e, q⟩ := h
  obtain ⟨u1, u2, rfl, r1, r2⟩ := vals2 r
  cases r1
  have e2 := k.eq r2
  subst e2
  obtain ⟨oe, od, J⟩ := held_inst I ha hd
  have cls : (PySem.W.clsIn X.K D).isSome = true := by
    obtain ⟨cd, hc, _⟩ := PySem.W.any_some T.hd
    rw [hc] <;> rfl
  exact PySem.W.kia_one (PySem.W.kitx_exc cls T.hg T.hk T.hs T.ha T.hn T.ht T.hm) I.kIn J e (fun z => nomatch z) fun tk => ⟨.bl b, H, I.tok tk, rfl, q⟩
/-- e.f of a held exception -/
def tHeldF (K : PySem.W.Frag) (f : Str) (te : TE) : TE := fun σ H Q => te σ H fun x H1 => ∃ (a C dd : Addr) (fs : List (Str × V)) (v : V), x = .ref a ∧ H1 a = some (KeptO (.ref C) (some dd) a) ∧ H1 dd = some (.xd fs) ∧ XfC K C ∧ PySem.W.findIn K (.ref C) f = some none ∧ fs.lookup f = some v ∧ Q v H1
theorem pe_heldF {te : TE} {n : Str} {e : Expr} {pos : Pos} (he : PE X e te) (hb : attributeBase e n X.env (eval e X.env) = eval e X.env := by rfl) : PE X (.Attribute e n pos) (tHeldF X.K n te) := by
  constructor
  intro pins s σ H Q I h
  refine attr_of hb (thn (he.run pins s σ H _ I h) ?_)
  intro u s1 hu
  obtain ⟨x, H1, I1, rx, a, C, dd, fs, v, ex, ea, ed, T, hno, l, q⟩ := hu
  subst ex
  obtain rfl : u = Value.ref a := rx
  obtain ⟨⟨oe, vs, e1, z, f1⟩, _, _⟩ := I1.hok a _ ea
  obtain ⟨mA, ns, rel⟩ := (show ObjOk X.prog X.w H1 s1.heap dd (.xd fs) from I1.hok dd _ ed)
  obtain ⟨od, ho, hl⟩ := lookIn_ns ns
  obtain ⟨w, hw, rw'⟩ := RelO.some_of (v := v) (o := mA n) (by rw [← l]; exact rel n)
  have plain : PySem.W.notCls oe = true := by
    unfold PySem.W.notCls
    rw [f1] <;> rfl
  have J : PySem.W.InstAt s1.heap a oe C (some od) := ⟨e1, z.1, plain, by rw [z.2]; exact ho⟩
  exact HandSPX.exc_get I1.kIn J T.ga T.gg T.exC (PySem.W.findObj_own T.hdC hno rfl (by rw [hl, hw])) (handed_of rw') ⟨v, H1, I1.tok _, rw', q⟩
end
end My
namespace My
open PySem PySem.Spec PyProof.Rows L2
/-- a def's promise where it is known that no repr is under way -/
structure FnG (P : Program) (w : World) (K : PySem.W.Frag) (mg : Str → Option Value) (base : Heap) (CX : CXT) (k : Nat) (f : Addr) (fd : FuncData) (ps : List Str) (sp : Sp) : Prop where
  len : ∀ vs H Q E, sp vs H Q E → vs.length = ps.length
  run : ∀ (A : Around) (outer : List Env) (s : Shared) (H : Hp) (args : Args) (us : List Value) (vs : List V) (Q : VK) (E : XK), Room k A → A.guards = some [] → Env0 P w K mg base A outer s H → BindsTo s fd args (ps.zip us) → Vals vs us → sp vs H Q E →
    codeAny (model P w) A (.call (.ref f) args) (CR CX outer P w H s Q E) s
theorem toG {P : Program} {w : World} {K : PySem.W.Frag} {mg : Str → Option Value} {base : Heap} {CX : CXT} {k : Nat} {f : Addr} {fd : FuncData} {ps : List Str} {sp : Sp} (F : FnOk P w K mg base CX k f fd ps sp) : FnG P w K mg base CX k f fd ps sp :=
  ⟨F.len, fun A outer s H args us vs Q E r _ => F.run A outer s H args us vs Q E r⟩
section
variable {P : Program} {w : World} {K : PySem.W.Frag} {mg : Str → Option Value} {base : Heap}
/-- a def by its body, the guards known -/
theorem okG {CX : CXT} {x qual : Str} {st : Stmt} {f : Addr} {fd : FuncData} {N ps : List Str} {k : Nat} {sp : Sp} (F : Fun K x qual st f fd) (S : FnScope N ps (defScope st)) (len : ∀ vs H Q E, sp vs H Q E → vs.length = ps.length)
    (body : ∀ (cdv : Value) (A : Around) (outer : List Env) (s : Shared) (H : Hp) (vs : List V) (Q : VK) (E : XK), Room k (A.deeper (envOfC qual (defScope st) s.heap.objs.size f cdv)) → (A.deeper (envOfC qual (defScope st) s.heap.objs.size f cdv)).guards = some [] → sp vs H Q E →
      ∃ t, PSs (cxOf CX P w K mg base N qual (defScope st) f cdv A outer s H E) (defBody st) t ∧ t { nx := fun _ H' => Q .non H', rt := Q } (start N vs) H) : FnG P w K mg base CX (k + 1) f fd ps sp := by
  obtain ⟨oc, od, kV, doc, pm, an, cdv, ct, osl, rfl, lk, hcd⟩ := F.ex
  refine ⟨len, ?_⟩
  intro A outer s H args us vs Q E room guard e0 bind rel prom
  have stays : ∀ b o, base.get? b = some o → s.heap.get? b = some o := fun b o z => (e0.bs b o z).1
  have KS : K.In s.heap := e0.mod.kin.keeps stays
  have many := len _ _ _ _ prom
  have kinds : ∀ y ∈ ps.zip us, (defScope st).names.lookup y.1 = some .local ∨ ((defScope st).names.lookup y.1 = some .cell ∧ ((cellsFrom (s.heap.objs.size + 1) (defScope st).names []).lookup y.1).isSome = true) := by
    intro y hy
    cases S.par y.1 (List.of_mem_zip hy).1 with
    | inl q => exact .inl q
    | inr q => exact .inr ⟨q, PySem.W.cellsFrom_some _ _ _ (.inl q)⟩
  refine codeAny_call_function room.depth (KS _ _ lk) rfl S.co S.gen rfl (PySem.W.codeRec_of KS hcd) (bind _ _ _ _ ?_)
  refine wpAny_newFunctionEnv_cells S.kind kinds fun env he s2 ic => ?_
  subst he
  refine ⟨(e0.mod.nolimit.keeps stays).keeps ic.toInCall.keep, codeAny_func ?_⟩
  have guard' : (A.deeper (envOfC qual (defScope st) s.heap.objs.size f cdv)).guards = some [] := by
    obtain ⟨a1, a2, a3, a4, a5⟩ := A
    first | exact guard | simpa [Around.deeper, Code.guards, Code.isGuard, pushGuards, guardIds] using guard
  obtain ⟨t, ht, hq⟩ := body cdv A outer s H vs Q E (room.deeper _) guard' prom
  refine wpAny_mono (ht.run [] s2 (start N vs) H _ (inv_start S room.hd e0 many rel ic) hq) (fun fl s' hs => ?_) fun e s' hs => hs
  cases fl with
  | ret u => exact (let ⟨v, _, H', J, rv, q⟩ := hs; ⟨v, H', J.os, J.bare, J.base, J.hok, rv, q⟩)
  | next => exact (let ⟨_, H', J, q⟩ := hs; ⟨.non, H', J.os, J.bare, J.base, J.hok, rfl, q⟩)
  | brk => exact (let ⟨_, _, _, q⟩ := hs; q).elim
  | cont => exact (let ⟨_, _, _, q⟩ := hs; q).elim
end
section
variable {X : Cx} {CX : CXT} {k : Nat} {f : Addr} {fd : FuncData} {ps : List Str} {ds : List Value} {dvs : List V} {sp : Sp} {E : XK} {x : Str} {p pos : Pos} {e : Expr} {es : List Expr} {t : TA}
theorem runG {pins : List (Addr × Obj)} {σ : L2.St} {H : Hp} {s : Shared} {Q : VK} {us : List Value} {vs : List V} (F : FnG X.prog X.w X.K X.mg X.base CX k f fd ps sp) (hr : Room k X.A) (hg : X.A.guards = some []) (hb : Binds X.K fd ps ds) (hd : Vals dvs ds) (hx : Passes CX X E)
    (I : Inv X pins σ H s) (r : Vals vs us) (h : sp (vs ++ dvs) H Q E) : wpAny (model X.prog X.w) X.A (call (.ref f) us) (EP X pins σ Q) X.xe s := by
  have rel : Vals (vs ++ dvs) (us ++ ds) := r.append hd
  have many : (us ++ ds).length = ps.length := rel.length ▸ F.len _ _ _ _ h
  refine wpAny_call (codeAny_mono (F.run X.A X.stack s H ⟨us, []⟩ (us ++ ds) (vs ++ dvs) Q E hr hg I.env0 (hb s us I.kIn many) rel h) ?_)
  intro r s' hq
  match r, hq with
  | .error e, hq => exact hx pins σ H s e s' I hq
  | .ok (.ret u), hq => exact I.after hq
/-- f(e, ..) where it is known that no repr is under way -/
theorem pe_callG (F : FnG X.prog X.w X.K X.mg X.base CX k f fd ps sp) (hr : Room k X.A) (hgu : X.A.guards = some []) (hg : Gl X x) (hm : X.mg x = some (.ref f)) (hk : PySem.W.keepIn X.K (.ref f) = true) (hb : Binds X.K fd ps ds) (hd : Vals dvs ds) (hx : Passes CX X E)
    (ha : PA X (e :: es) t) (hdb : (x == ("__debug__" : Str)) = false := by decide) (he : starEach (e :: es) X.env = (false, eval e X.env) :: starEach es X.env := by rfl) (hpl : (backTo pos (starEach es X.env)).any (·.1) = false := by rfl) :
    PE X (.Call (.Name x p) (e :: es) [] pos) (tCall sp dvs E t) := by
  constructor
  intro pins s σ H Q I h
  refine wpAny_Call_Name_kw (ld_glob I hg hm (PySem.W.callWith_K (h₀ := X.base) I.ok.mod.kin hk (thn (ha.run pos pins s σ H _ I h) ?_) he hpl) hdb)
  intro us s1 hu
  obtain ⟨vs, H1, I1, r, q⟩ := hu
  exact ⟨I1.kIn, runG F hr hgu hb hd hx I1 r q⟩
/-- x == y where x is of an own class with an own __eq__ that answers True or False, y anything that is not of a class below x's -/
def rEqOwn (K : PySem.W.Frag) (C : Addr) (sp : Sp) (E : XK) : R2 := fun x y H Q => ∃ (a dx : Addr) (fs : List (Str × V)) (t : Value), x = .ref a ∧ H a = some (.ins C dx fs) ∧ TyX K H y t ∧ PySem.W.notFirst K C t = true ∧ sp [x, y] H (fun v H' => ∃ b, v = .bl b ∧ Q (.bl b) H') E
theorem op_eqOwn {C : Addr} (F : FnG X.prog X.w X.K X.mg X.base CX k f fd ps sp) (hr : Room k X.A) (hgu : X.A.guards = some []) (hs : PySem.W.findIn X.K (.ref C) "__eq__" = some (some (.ref f))) (hf : PySem.W.isFn X.K (.ref f) = true) (hb : Binds X.K fd ps []) (hx : Passes CX X E) :
    OpR X (compareOp .Eq) (rEqOwn X.K C sp E) := by
  intro pins s σ H x y v u Q I rx ry h
  obtain ⟨a, dx, fs, t, rfl, ha, ty, nf, q⟩ := h
  cases rx
  obtain ⟨mA, J, _⟩ := ins_get I.hok ha
  obtain ⟨od, J, _⟩ := J.look
  obtain ⟨m, hF⟩ := I.fr
  obtain ⟨Pp, Z, pz, _⟩ := kit_of I ry ty
  show wpAny (model X.prog X.w) X.A (richCompare .Eq (.ref a) u) (EP X pins σ Q) X.xe s
  refine PySem.W.cmp_K (op := .Eq) (tb := t) hr.units0 hF I.ok.mod.kin J (Z.ty _ _ I.kIn pz) nf hs hf ?_
  refine wpAny_mono (runG (vs := [.ref a, y]) (us := [.ref a, u]) (dvs := []) (ds := []) F hr hgu hb .nil hx I (.cons rfl (.cons ry .nil)) q) (fun r s' z => ?_) fun _ _ z => z
  obtain ⟨w1, H1, I1, r1, b, rfl, q1⟩ := z
  cases r1
  exact ⟨.bl b, H1, I1, rfl, q1⟩
end
end My
namespace My
open PySem PySem.Spec PyProof.Rows L2
section
variable {X : Cx} {CX : CXT} {k : Nat} {f : Addr} {fd : FuncData} {ps : List Str} {sp : Sp} {E : XK}
/-- a def called from within a built-in -/
theorem runAt {A : Around} {pins : List (Addr × Obj)} {σ : L2.St} {H : Hp} {s : Shared} {Q : VK} {us : List Value} {vs : List V} (F : FnG X.prog X.w X.K X.mg X.base CX k f fd ps sp) (hr : Room k A) (hg : A.guards = some []) (fr : A.frames = X.A.frames) (hb : Binds X.K fd ps []) (hx : Passes CX X E)
    (I : Inv X pins σ H s) (r : Vals vs us) (h : sp vs H Q E) : wpAny (model X.prog X.w) A (call (.ref f) us) (EP X pins σ Q) X.xe s := by
  have many : us.length = ps.length := r.length ▸ F.len _ _ _ _ h
  have e0 : Env0 X.prog X.w X.K X.mg X.base A X.stack s H := by
    obtain ⟨h1, h2, h3, h4, h5, h6, h7, h8⟩ := I.env0
    exact ⟨fr.trans h1, h2, h3, h4, h5, h6, h7, h8⟩
  have bind := hb s us I.kIn (by simpa using many)
  rw [List.append_nil] at bind
  refine wpAny_call (codeAny_mono (F.run A X.stack s H ⟨us, []⟩ us vs Q E hr hg e0 bind r h) ?_)
  intro r s' hq
  match r, hq with
  | .error e, hq => exact hx pins σ H s e s' I hq
  | .ok (.ret u), hq => exact I.after hq
/-- x != y where x is of an own class with an own __eq__ that answers True or False and without an own __ne__ -/
theorem op_neOwn {C : Addr} (F : FnG X.prog X.w X.K X.mg X.base CX k f fd ps sp) (hr : Room (k + 1) X.A) (hgu : X.A.guards = some []) (hs : PySem.W.findIn X.K (.ref C) "__eq__" = some (some (.ref f))) (hf : PySem.W.isFn X.K (.ref f) = true)
    (hn : PySem.W.findIn X.K (.ref C) "__ne__" = some (some (.builtin "object.__ne__"))) (hm : PySem.W.mroIn X.K C (.type "object") = some true) (hb : Binds X.K fd ps []) (hx : Passes CX X E) :
    OpR X (compareOp .NotEq) (fun x y H Q => rEqOwn X.K C sp E x y H fun v H' => ∃ b, v = .bl b ∧ Q (.bl (!b)) H') := by
  intro pins s σ H x y v u Q I rx ry h
  obtain ⟨a, dx, fs, t, rfl, ha, ty, nf, q⟩ := h
  cases rx
  obtain ⟨mA, J, _⟩ := ins_get I.hok ha
  obtain ⟨od, J, _⟩ := J.look
  obtain ⟨Pp, Z, pz, _⟩ := kit_of I ry ty
  have KS := I.kIn
  have own : wpAny (model X.prog X.w) X.A.in1 (callSpecialIfBound? (.ref a) "__eq__" [u]) (fun r s' => ∃ b, r = some (.bool b) ∧ EP X pins σ Q (.bool (!b)) s') X.xe s := by
    refine PySem.W.ifBound_K KS J hs hf (wpAny_mono (runAt (vs := [.ref a, y]) (us := [.ref a, u]) F hr.in1 hgu rfl hb hx I (.cons rfl (.cons ry .nil)) q) (fun r s' z => ?_) fun _ _ z => z)
    obtain ⟨w1, H1, I1, r1, b, rfl, b', e, q1⟩ := z
    cases r1
    cases e
    exact ⟨b, rfl, .bl (!b), H1, I1, rfl, q1⟩
  have entry : wpAny (model X.prog X.w) X.A.in1 (Builtin.«object.__ne__» ⟨[.ref a, u], []⟩) (fun r s' => ∃ b, r = .done (.ret (.bool (!b))) ∧ EP X pins σ Q (.bool (!b)) s') X.xe s := by
    unfold Builtin.«object.__ne__»
    refine wpAny_bind (wpAny_of_eq (a := ((Value.ref a : Value), [u])) (by first | rfl | (simp only [slotArgs]; rfl)) ?_)
    refine wpAny_bind (wpAny_cRoomFor hr.in1.units0 (wpAny_bind (wpAny_mono own (fun r s' z => ?_) fun _ _ z => z)))
    obtain ⟨b, rfl, ep⟩ := z
    exact wpAny_bind (wpAny_truthy_bool (wpAny_pure ⟨b, rfl, ep⟩))
  have slot : wpAny (model X.prog X.w) X.A (call (.builtin "object.__ne__") [.ref a, u]) (fun v s' => ∃ b, v = .bool b ∧ EP X pins σ Q (.bool b) s') X.xe s := by
    refine wpAny_call (codeAny_call_builtin PySem.F.cmp_object.ne.plain PySem.F.cmpEntry_ne (PySem.W.check_slot PySem.F.cmpKind_ne PySem.F.cmpSplit_ne (J.type.andThen (PySem.W.looks_mroIn KS hm)) (PySem.F.cmpArgs_ne _ _) (wpAny_mono entry (fun r s' z => ?_) fun _ _ z => z)))
    obtain ⟨b, rfl, ep⟩ := z
    exact ⟨!b, rfl, ep⟩
  have one : wpAny (model X.prog X.w) X.A (tryCompare (.ref a) "__ne__" u) (fun r s' => ∃ b, r = some (.bool b) ∧ EP X pins σ Q (.bool b) s') X.xe s := by
    unfold tryCompare
    have asked : wpAny (model X.prog X.w) X.A (callSpecialIfBound? (.ref a) "__ne__" [u]) (fun r s' => ∃ b, r = some (.bool b) ∧ EP X pins σ Q (.bool b) s') X.xe s := by
      have last : wpAny (model X.prog X.w) X.A (call (.builtin "object.__ne__") ([.ref a] ++ [u]) >>= fun v => pure (some v)) (fun r s' => ∃ b, r = some (.bool b) ∧ EP X pins σ Q (.bool b) s') X.xe s :=
        wpAny_bind (wpAny_mono slot (fun v s' z => wpAny_pure (let ⟨b, e, ep⟩ := z; ⟨b, congrArg some e, ep⟩)) fun _ _ z => z)
      unfold callSpecialIfBound? bindSpecialIfBound?
      refine wpAny_holding (wpAny_bind (wpAny_bind (wpAny_bind (J.type.here ((PySem.W.looks_findIn KS hn).here (wpAny_bind (wpAny_askSetting (wpAny_ite ?_))))))))
      split
      · exact wpAny_bind (wpAny_of_eq (PySem.F.cmp_object.ne.bind _) (wpAny_pure last))
      · exact wpAny_tryCatch (wpAny_bind (wpAny_of_eq (PySem.F.cmp_object.ne.bind _) (wpAny_pure last)))
    refine wpAny_bind (wpAny_mono asked (fun r s' z => ?_) fun _ _ z => z)
    obtain ⟨b, rfl, ep⟩ := z
    exact wpAny_pure ⟨b, rfl, ep⟩
  show wpAny (model X.prog X.w) X.A (richCompare .NotEq (.ref a) u) (EP X pins σ Q) X.xe s
  unfold richCompare
  simp only [oneThing_ref]
  refine wpAny_holding (wpAny_bind (wpAny_cRoomFor hr.units0 (wpAny_bind (J.type.here (wpAny_bind ((Z.ty _ _ KS pz).here ?_))))))
  have fin : ∀ (rest : Option Value → Sem Value), (∀ b, rest (some (.bool b)) = pure (.bool b)) → wpAny (model X.prog X.w) X.A (tryCompare (.ref a) (cmpInfo CmpOp.NotEq).2.1 u >>= rest) (EP X pins σ Q) X.xe s := fun rest hrest => by
    refine wpAny_bind (wpAny_mono one (fun r s' z => ?_) fun _ _ z => z)
    obtain ⟨b, rfl, ep⟩ := z
    rw [hrest]
    exact wpAny_pure ep
  unfold PySem.W.notFirst at nf
  split
  · rename_i ne
    have sub : PySem.W.subIn X.K t (.ref C) = some false := by
      cases e : (t == Value.ref C) with
      | true =>
        rw [eq_of_beq e] at ne
        simp at ne
      | false =>
        rw [e, Bool.false_or] at nf
        exact eq_of_beq nf
    refine wpAny_bind ((PySem.W.looks_subIn KS sub).here ?_)
    simp only [Bool.false_eq_true, if_false]
    exact fin _ fun b => rfl
  · refine wpAny_bind (wpAny_pure ?_)
    simp only [Bool.false_eq_true, if_false]
    exact fin _ fun b => rfl
end
end My
namespace My
open PySem PySem.Spec PyProof.Rows L2
section
variable {X : Cx} {CX : CXT} {k : Nat} {f : Addr} {fd : FuncData} {ps : List Str} {sp : Sp} {E : XK}
/-- str(x), x of an own class with an own __str__ -/
theorem call_strOwn {C : Addr} (F : FnG X.prog X.w X.K X.mg X.base CX k f fd ps sp) (hr : Room (k + 2) X.A) (hgu : X.A.guards = some []) (hs : PySem.W.findIn X.K (.ref C) "__str__" = some (some (.ref f))) (hf : PySem.W.isFn X.K (.ref f) = true) (hb : Binds X.K fd ps []) (hx : Passes CX X E) :
    CallR X (.type "str") (fun xs H Q => ∃ (a dx : Addr) (fs : List (Str × V)), xs = [.ref a] ∧ H a = some (.ins C dx fs) ∧ sp [.ref a] H (fun v H' => ∃ z : Str, v = .str z ∧ Q (.str z) H') E) := by
  intro pins s σ H xs us Q I r h
  obtain ⟨a, dx, fs, rfl, ha, q⟩ := h
  obtain ⟨u, rfl, ru⟩ := vals1 r
  cases ru
  obtain ⟨mA, J, _⟩ := ins_get I.hok ha
  obtain ⟨od, J, _⟩ := J.look
  refine PySem.W.kso_call (Room.units0 (hr.in1.in1)) I.kIn J hs hf (wpAny_mono (runAt (vs := [.ref a]) (us := [.ref a]) F hr.in1.in1 hgu rfl hb hx I (.cons rfl .nil) q) (fun r s' z => ?_) fun _ _ z => z)
  obtain ⟨w1, H1, I1, r1, y, rfl, q1⟩ := z
  obtain ⟨t, rfl⟩ := r1
  exact ⟨.str y, H1, I1, ⟨t, rfl⟩, q1⟩
end
/-- a value without parts, and what it is -/
inductive Fl : V → PyData → Prop
  | non : Fl .non .none
  | bl (b : Bool) : Fl (.bl b) (.bool b)
  | int (i : Int) : Fl (.int i) (.int i)
  | str (x : Str) : Fl (.str x) (.str x)
/-- values without parts, and what they are -/
abbrev Fls : List V → List PyData → Prop := Paired Fl
/-- what a value is: without parts, a list or tuple of such, the dict without entries -/
inductive Th (H : Hp) : V → PyData → Prop
  | flat {x : V} {d : PyData} (h : Fl x d) : Th H x d
  | lst {a : Addr} {xs : List V} {ds : List PyData} (h : H a = some (.lst xs)) (k : Fls xs ds) (n : xs.length ≤ 1000) : Th H (.ref a) (.list ds)
  | tup {a : Addr} {xs : List V} {ds : List PyData} (h : H a = some (.tup xs)) (k : Fls xs ds) (n : xs.length ≤ 1000) : Th H (.ref a) (.tuple ds)
  | dct {a : Addr} (h : H a = some (.dK [])) : Th H (.ref a) (.dict [])
theorem Th.keep {H H' : Hp} {x : V} {d : PyData} (h : Th H x d) (k : ∀ b o, H b = some o → H' b = some o) : Th H' x d := by
  cases h with
  | flat h => exact .flat h
  | lst h r n => exact .lst (k _ _ h) r n
  | tup h r n => exact .tup (k _ _ h) r n
  | dct h => exact .dct (k _ _ h)
theorem fl_dp {K : PySem.W.Frag} {H : Hp} {x : V} {d : PyData} (h : Fl x d) : Dp K H x d := by
  cases h with
  | non => exact .non
  | bl b => exact .bl b
  | int i => exact .int i
  | str x => exact .str x
theorem fls_dp {K : PySem.W.Frag} {H : Hp} : ∀ {xs : List V} {ds : List PyData}, Fls xs ds → DpAll K H xs ds
  | _, _, .nil => .nil
  | _, _, .cons h r => .cons (fl_dp h) (fls_dp r)
theorem fls_noDict : ∀ {xs : List V} {ds : List PyData}, Fls xs ds → PyData.hasDictAll ds = false
  | _, _, .nil => rfl
  | _, _, .cons h r => by
    unfold PyData.hasDictAll
    rw [fls_noDict r]
    cases h <;> rfl
/-- what can be shown in bounds -/
structure Fine (d : PyData) : Prop where
  show_ : d.showable = true
  deep : d.depth ≤ 8
  size : d.shown.length ≤ sizeLine
section
variable {X : Cx}
theorem call_reprT (hg : X.A.guards = some []) (hu : X.A.units + 64 < cLine) : CallR X (.builtin "repr") (fun xs H Q => ∃ x d, xs = [x] ∧ Th H x d ∧ Fine d ∧ Q (.str d.shown) H) := by
  intro pins s σ H xs us Q I r h
  obtain ⟨x, d, rfl, th, fine, q⟩ := h
  obtain ⟨u, rfl, ru⟩ := vals1 r
  have fin : ∀ t tk, EP X pins σ Q (.str d.shown t) { s with toks := tk } := fun t tk => ⟨.str d.shown, H, I.tok tk, ⟨t, rfl⟩, q⟩
  have obj : ∀ a (as : List Addr), Reads s.heap (.ref a) d as → (d.hasDict = true → sysModules ∉ as) → wpAny (model X.prog X.w) X.A (call (.builtin "repr") [.ref a]) (EP X pins σ Q) X.xe s := fun a as rd nd =>
    repr_of_reads' rd fine.show_ nd hg (by have := fine.deep; omega) (fun _ _ e => e) (fun h' u tk hk => ⟨.str d.shown, H, I.kept hk, ⟨u, rfl⟩, q⟩) fine.size
  cases th with
  | flat h =>
    cases h with
    | non =>
      cases ru
      exact PySem.P.repr_of_none (fin _ _)
    | bl b =>
      cases ru
      exact PySem.P.repr_of_bool (by
        have e : (PyData.bool b).shown = if b then ("True" : Str) else "False" := by unfold PyData.shown; rfl
        rw [e] at fin
        cases b <;> exact fin _ _)
    | int i =>
      obtain ⟨t, rfl⟩ := ru
      have sm : i.natAbs.log2 < 1920 := by
        have z := fine.show_
        unfold PyData.showable at z
        exact of_decide_eq_true z
      exact PySem.P.repr_of_int sm (by
        have e : (PyData.int i).shown = (toString i : Str) := by unfold PyData.shown; rfl
        rw [e] at fin
        exact fin _ _)
    | str z =>
      obtain ⟨t, rfl⟩ := ru
      have e : (PyData.str z).shown = reprText z := by unfold PyData.shown; rfl
      have sz := fine.size
      rw [e] at fin sz
      exact PySem.P.repr_of_str (fin _ _) sz
  | @lst a xs ds h k n =>
    cases ru
    obtain ⟨as, rd⟩ := Dp.reads I _ _ _ (Dp.lst (K := X.K) (SqL.of h) (fls_dp k)) rfl
    refine obj a as rd (fun z => ?_)
    unfold PyData.hasDict at z
    rw [fls_noDict k] at z
    cases z
  | @tup a xs ds h k n =>
    cases ru
    obtain ⟨as, rd⟩ := Dp.reads I _ _ _ (Dp.tup (K := X.K) (SqT.of h) (fls_dp k)) rfl
    refine obj a as rd (fun z => ?_)
    unfold PyData.hasDict at z
    rw [fls_noDict k] at z
    cases z
  | @dct a h =>
    cases ru
    obtain ⟨_, nsys, vs, kv, o, es, ep, ho, ex, hd, _, pr, _⟩ := dk_of I.hok h
    cases kv
    have es0 : es.toList = [] := by
      obtain ⟨l⟩ := es
      have pr' : PySem.Pairs _ l [] := pr
      cases l with
      | nil => rfl
      | cons _ _ => cases pr'
    refine obj a _ (Reads.dict (kvs := []) (as := []) (bs := []) ho ex.1 hd (by rw [es0]; exact .nil) (by rw [es0]; exact .nil)) (fun _ => ?_)
    simp only [List.append_nil, List.mem_singleton]
    intro z
    rw [z] at nsys
    simp at nsys
end
end My
namespace My
open PySem PySem.Spec PyProof.Rows L2
/-- what the walk of the law's body has to give, the guards being known -/
def LawBodyS (l : PySem.W.OpenLaw) (w : World) (K : PySem.W.Frag) (mg : Str → Option Value) (n : Nat) (N : List Str) (qual : Str) (st : Stmt) (fa : Addr) : Prop :=
  ∀ base : Heap, K.In base → base.Ns mainGlobals mg → (∃ m, base.Ns sysModules m) → ∀ (cdv : Value) (s : Shared) (H : Hp) (a : Addr) (ns : List Int), ns.length ≤ n → Only H → SqL K H a (ns.map V.int) →
    ∃ t, PSs (cxOf CX0 l.prog w K mg base N qual (defScope st) fa cdv callerA [] s H E0).nox (defBody st) t ∧
      t { nx := fun _ _ => False, rt := fun v _ => v = .bl true } (start N [.ref a]) H

/-- one call of the law from an abstract heap -/
theorem enterS {l : PySem.W.OpenLaw} {w : World} {K : PySem.W.Frag} {mg : Str → Option Value} {n : Nat} {N : List Str} {x nm qual : Str} {st : Stmt} {fa a : Addr} {fd : FuncData}
    {base : Heap} {s : Shared} {H : Hp} {ns : List Int}
    (F : Fun K nm qual st fa fd) (S : FnScope N [x] (defScope st)) (hb : ∀ (s : Shared) (u : Value), BindsTo s fd ⟨[u], []⟩ [(x, u)])
    (B : LawBodyS l w K mg n N qual st fa) (hKb : K.In base) (hNb : base.Ns mainGlobals mg) (hSb : ∃ m, base.Ns sysModules m) (hn : ns.length ≤ n) (hO : Only H) (hS : SqL K H a (ns.map V.int))
    (e0 : Env0 l.prog w K mg base callerA [] s H) :
    codeAny (model l.prog w) callerA (.call (.ref fa) ⟨[.ref a], []⟩)
      (fun r s' => r = .ok (.ret (.bool true)) ∧ ∃ H', s'.os = s.os ∧ AllBare s'.gens ∧ Un [] [] H H' s.heap s'.heap ∧ HOk l.prog w H' s'.heap) s := by
  obtain ⟨oc, od, kV, doc, pm, an, cdv, ct, osl, rfl, lk, hcd⟩ := F.ex
  have stays : ∀ b o, base.get? b = some o → s.heap.get? b = some o := fun b o z => (e0.bs b o z).1
  have KS : K.In s.heap := e0.mod.kin.keeps stays
  have NL : s.heap.NoLimit := e0.mod.nolimit.keeps stays
  have kinds : ∀ y ∈ [x].zip [Value.ref a], (defScope st).names.lookup y.1 = some .local ∨ ((defScope st).names.lookup y.1 = some .cell ∧ ((cellsFrom (s.heap.objs.size + 1) (defScope st).names []).lookup y.1).isSome = true) := by
    intro y hy
    obtain rfl : y = (x, Value.ref a) := List.mem_singleton.mp hy
    cases S.par x (List.mem_singleton.mpr rfl) with
    | inl q => exact .inl q
    | inr q => exact .inr ⟨q, PySem.W.cellsFrom_some _ _ _ (.inl q)⟩
  refine codeAny_call_function (by decide) (KS _ _ lk) rfl S.co S.gen rfl (PySem.W.codeRec_of KS hcd) (hb s (.ref a) _ _ _ _ ?_)
  refine wpAny_newFunctionEnv_cells S.kind kinds fun env he s2 ic => ?_
  subst he
  refine ⟨NL.keeps ic.toInCall.keep, codeAny_func ?_⟩
  obtain ⟨t, ht, hq⟩ := B base hKb hNb hSb cdv s H a ns hn hO hS
  have J0 := inv_start (E := E0) (CX := CX0) S (show callerA.handled = none from rfl) e0 (vs := [.ref a]) (us := [.ref a]) rfl (.cons rfl .nil) ic
  refine wpAny_mono (ht.run [] s2 (start N [.ref a]) H _ (J0.wish _) hq) (fun fl s' hs => ?_) fun e s' hs => hs.elim
  cases fl with
  | ret u =>
    obtain ⟨v, σ', H', J, rv, q⟩ := hs
    subst q
    obtain rfl : u = Value.bool true := rv
    exact ⟨rfl, H', J.os, J.bare, J.base, J.hok⟩
  | next => exact (let ⟨_, _, _, q⟩ := hs; q).elim
  | brk => exact (let ⟨_, _, _, q⟩ := hs; q).elim
  | cont => exact (let ⟨_, _, _, q⟩ := hs; q).elim

/-- from one call in an abstract heap to the call that is asked for -/
theorem settleS {l : PySem.W.OpenLaw} {w : World} {K : PySem.W.Frag} {mg mb : Str → Option Value} {n : Nat} {N : List Str} {x nm qual : Str} {st : Stmt} {fa a : Addr} {fd : FuncData} {s : Shared} {H : Hp} {ns : List Int} {vs : List Value}
    (KX : K.In s.heap) (hns : s.heap.Ns mainGlobals mg) (hb : s.heap.Ns builtinsNs mb) (hbb : ∀ x : Str, x ≠ "__name__" → mb x = bootBuiltins x) (hsy : ∃ m, s.heap.Ns sysModules m) (hlim : s.heap.NoLimit) (hg : s.gens = #[])
    (ha : s.heap.get? a = some { cls := .type "list", data := .seq vs.toArray }) (hn : ns.length ≤ n)
    (F : Fun K nm qual st fa fd) (S : FnScope N [x] (defScope st)) (hbi : ∀ (s : Shared) (u : Value), BindsTo s fd ⟨[u], []⟩ [(x, u)]) (B : LawBodyS l w K mg n N qual st fa)
    (hO : Only H) (hS : SqL K H a (ns.map V.int)) (hok : HOk l.prog w H s.heap) (one : ∀ b, H b ≠ none → b = a) (out : H a ≠ none → K.lookup a = none) :
    codeAny (model l.prog w) callerA (.call (.ref fa) ⟨[.ref a], []⟩) (fun r s' => r = .ok (.ret (.bool true)) ∧ OldK s.heap s'.heap ∧ s'.os = s.os ∧ AllBare s'.gens) s := by
  have seen : ∀ {b : Addr} {o : Obj}, H b = none → s.heap.get? b = some o → (hidT s.heap H).get? b = some o := fun q e => hidT_get e q
  have free : ∀ {b : Addr} {o : Obj}, s.heap.get? b = some o → (∀ xs k, o.data ≠ .seq xs k) → H b = none := by
    intro b o e nd
    by_cases z : H b = none
    · exact z
    · have eb := one b z
      rw [eb, ha] at e
      injection e with e
      exact absurd (by rw [← e]) (nd vs.toArray 0)
  have names : ∀ {b : Addr} {m : Str → Option Value}, s.heap.Ns b m → (hidT s.heap H).Ns b m := by
    intro b m nb
    obtain ⟨o, es, ep, e, d, rest⟩ := nb
    exact ⟨o, es, ep, seen (free e fun xs k z => by rw [d] at z; injection z) e, d, rest⟩
  have KB : K.In (hidT s.heap H) := by
    intro b o e
    refine seen ?_ (KX b o e)
    by_cases z : H b = none
    · exact z
    · have eb := one b z
      subst eb
      rw [out z] at e
      injection e
  have E0' : Env0 l.prog w K mg (hidT s.heap H) callerA [] s H := by
    refine ⟨rfl, ⟨KB, names hns, ⟨mb, names hb, hbb⟩, ?_⟩, fun b o e => of_hidT e, Nat.le_of_eq (hidT_size _ _), trivial, ?_, hok, .of_eq hg⟩
    · obtain ⟨mc, c1, c2⟩ := hlim
      exact ⟨mc, names c1, c2⟩
    · intro b z
      exact absurd (show b ∈ ([] : List Addr) from z) List.not_mem_nil
  refine codeAny_mono (enterS F S hbi B KB (names hns) (hsy.imp fun _ z => names z) hn hO hS E0') fun r s' h => ?_
  obtain ⟨e1, H', os, bare, un, hok'⟩ := h
  refine ⟨e1, OldK.of_keep fun b o e => ?_, os, bare⟩
  by_cases z : H b = none
  · exact un.keep b o e z (show b ∉ ([] : List Addr) from List.not_mem_nil) List.not_mem_nil
  · rcases hO b with y | ⟨ob, xs, y⟩
    · exact absurd y z
    · have g1 := (hok b _ y).1
      have g2 := (hok' b _ (un.frzs b ob _ y)).1
      rw [g1] at e
      injection e with e
      rw [← e]
      exact g2

/-- the goal that the head leaves, from the law's body walked with known guards -/
theorem lawS_top {l : PySem.W.OpenLaw} {n : Nat} {q : Program} {loose : List Str} {XP : (Str → Option Value) → Heap → Prop} {YP : World → Heap → Prop} {d : DefRec} {K : Params → PySem.W.Frag} {N : List Str} {x nm qual : Str} {st : Stmt}
    (hseer : importsNone q = true) (hn : l.most = some n) (hn2 : n ≤ sizeLine) (hdf : d.params.defaults = []) (hY : ∀ (w : World) (h : Heap), YP w h → (K w.params).In h)
    (Z : ∀ (w : World) (mg : Str → Option Value) (fa : Addr) (h : Heap), (K w.params).In h → h.Ns mainGlobals mg → mg d.name = some (.ref fa) →
      ∃ fd : FuncData, Fun (K w.params) nm qual st fa fd ∧ FnScope N [x] (defScope st) ∧ (∀ (s : Shared) (u : Value), BindsTo s fd ⟨[u], []⟩ [(x, u)]) ∧ LawBodyS l w (K w.params) mg n N qual st fa) :
    PySem.W.WalkO q loose XP YP l.row.toRowW d [] (fun f vs => PySem.call f vs) := by
  refine Att.attach_call hn hdf ?_
  intro w s₀ s mg mb fa o pm cd doc a vs ns G Y ho hd hcd hmg hobj hints hlen hg
  have KX : (K w.params).In s.heap := hY w _ Y
  obtain ⟨fd, F, S, hbi, B⟩ := Z w mg fa _ KX G.T.g hmg
  have rv : Vals (ns.map V.int) vs := vals_ints hints
  have top : ns.length ≤ sizeLine := Nat.le_trans hlen hn2
  have plain := @settleS l w (K w.params) mg mb n N x nm qual st fa a fd s
  cases hk : (K w.params).lookup a with
  | some u =>
    have e := KX a u hk
    rw [hobj] at e
    injection e with e
    subst e
    refine plain (H := fun _ => none) (ns := ns) (vs := vs) KX G.T.g G.T.b G.T.builtins ((G.T.seer hseer).mods.imp fun _ z => z.1) G.T.nolimit hg hobj hlen F S hbi B (fun _ => .inl rfl) (.inr ⟨_, vs.toArray, _, hk, rfl, rfl, rfl, ?_, ?_⟩) (fun b u z => ?_) (fun b z => absurd rfl z) (fun z => absurd rfl z)
    · rw [List.size_toArray, hints.length]
      exact top
    · simpa using rv
    · injection z
  | none =>
    refine plain (H := scriptHp a vs ns) (ns := ns) (vs := vs) KX G.T.g G.T.b G.T.builtins ((G.T.seer hseer).mods.imp fun _ z => z.1) G.T.nolimit hg hobj hlen F S hbi B (fun b => ?_) (.inl (.inr ⟨_, if_pos rfl⟩)) (fun b u z => ?_) (fun b z => ?_) (fun _ => hk)
    · by_cases eb : b = a
      · exact .inr ⟨_, _, if_pos eb⟩
      · exact .inl (if_neg eb)
    · by_cases eb : b = a
      · have y := (if_pos eb).symm.trans z
        injection y with y
        subst y
        subst eb
        exact ⟨hobj, by rw [List.length_map]; exact top, vs, _, rv, hobj⟩
      · have y := (if_neg eb).symm.trans z
        injection y
    · by_cases eb : b = a
      · exact eb
      · exact absurd (if_neg eb) z
end My
/-! == where a dict stands beside another kind -/
namespace MyQ
open PySem PySem.SeqAt PySem.Calls
open AutoSeq1 (wpAny_loadPart')
open MeetsSeq
section
variable {A : Around} {s : Shared}
/-- the object of a dict -/
structure IsD (s : Shared) (a : Addr) : Prop where
  ex : ∃ dd es ep sl, s.heap.get? a = some ({ cls := .type "dict", dict := dd, data := .dict es ep, slots := sl } : Obj)
theorem IsD.ty {a : Addr} (h : IsD s a) : s.TypeIs (.ref a) "dict" := by
  obtain ⟨dd, es, ep, sl, e⟩ := h.ex
  exact ⟨_, e, rfl⟩
theorem d_declines {prog : Program} {w : World} {E : Value → Shared → Prop} {Q : Value → Shared → Prop} {a : Addr} {u : Value} {T : String} (d : IsD s a) (ty : s.TypeIs u T) (no : isSubtype (.type T) (.type "dict") = pure false) (q : Q .notImplemented s) :
    wpAny (model prog w) A (call (.builtin "dict.__eq__") [.ref a, u]) Q E s := by
  refine wpAny_call_entry PySem.F.slot_dict_eq d.ty PySem.F.entry_dict_eq ?_ (PySem.F.args_dict_eq_2 _ _)
  show wpAny _ _ (Builtin.Dict.dictSlotArgs "__eq__" ⟨[.ref a, u], []⟩ >>= _) _ _ s
  refine wpAny_bind ?_
  unfold Builtin.Dict.dictSlotArgs
  refine wpAny_bind (wpAny_notOrdered_dict d.ty (wpAny_pure (wpAny_bind (wpAny_isInstance (T := T) ty no ?_))))
  rw [if_pos (by rfl)]
  wp_walk
  exact ⟨_, rfl, q⟩
theorem none_declines (l : Addr) : Gives (Builtin.«NoneType.__eq__» ⟨[.none, .ref l], []⟩) (.val (Value.notImplemented)) := NoneType___eq___none_ref_0 l
theorem bool_declines (b : Bool) (l : Addr) (es : Array DictEntry) (n : Nat) (dd : Option Addr) (sl : Array (Option Value)) :
    Meets (Builtin.«int.__eq__» ⟨[.bool b, .ref l], []⟩) (fun _ R s => s.heap.get? l = some { cls := .type "dict", dict := dd, data := .dict es n, slots := sl } ∧ R (.ok (.ret .notImplemented)) s) := by
  refine .of_wp fun prog w A R s h => ?_
  obtain ⟨hp, g, d, tk, os⟩ := s
  obtain ⟨hl, h⟩ := h
  wp_walk using wpAny_loadPart' hl, wpAny_load hl
  exact ⟨_, rfl, h⟩
theorem int_declines (b : Int) (u : Tok) (l : Addr) (es : Array DictEntry) (n : Nat) (dd : Option Addr) (sl : Array (Option Value)) :
    Meets (Builtin.«int.__eq__» ⟨[.int b u, .ref l], []⟩) (fun _ R s => s.heap.get? l = some { cls := .type "dict", dict := dd, data := .dict es n, slots := sl } ∧ R (.ok (.ret .notImplemented)) s) := by
  refine .of_wp fun prog w A R s h => ?_
  obtain ⟨hp, g, d, tk, os⟩ := s
  obtain ⟨hl, h⟩ := h
  wp_walk using wpAny_loadPart' hl, wpAny_load hl
  exact ⟨_, rfl, h⟩
theorem str_declines (b : Str) (u : Tok) (l : Addr) (es : Array DictEntry) (n : Nat) (dd : Option Addr) (sl : Array (Option Value)) :
    Meets (Builtin.«str.__eq__» ⟨[.str b u, .ref l], []⟩) (fun _ R s => s.heap.get? l = some { cls := .type "dict", dict := dd, data := .dict es n, slots := sl } ∧ R (.ok (.ret .notImplemented)) s) := by
  refine .of_wp fun prog w A R s h => ?_
  obtain ⟨hp, g, d, tk, os⟩ := s
  obtain ⟨hl, h⟩ := h
  wp_walk using wpAny_loadPart' hl, wpAny_load hl
  exact ⟨_, rfl, h⟩
theorem list_declines (a : Addr) (items : Array Value) (m : Nat) (dd : Option Addr) (sl : Array (Option Value)) (l : Addr) (es : Array DictEntry) (n : Nat) (dd2 : Option Addr) (sl2 : Array (Option Value)) :
    Meets (Builtin.«list.__eq__» ⟨[.ref a, .ref l], []⟩) (fun _ R s => s.heap.get? a = some { cls := .type "list", dict := dd, data := .seq items m, slots := sl } ∧ s.heap.get? l = some { cls := .type "dict", dict := dd2, data := .dict es n, slots := sl2 } ∧ R (.ok (.ret .notImplemented)) s) := by
  refine .of_wp fun prog w A R s h => ?_
  obtain ⟨hp, g, d, tk, os⟩ := s
  obtain ⟨ha, hl, h⟩ := h
  have f1 := PySem.F.sub_dict_list
  wp_walk using wpAny_loadPart' ha, wpAny_loadPart' hl, wpAny_load hl
  exact ⟨_, rfl, h⟩
theorem tuple_declines (a : Addr) (items : Array Value) (m : Nat) (dd : Option Addr) (sl : Array (Option Value)) (l : Addr) (es : Array DictEntry) (n : Nat) (dd2 : Option Addr) (sl2 : Array (Option Value)) :
    Meets (Builtin.«tuple.__eq__» ⟨[.ref a, .ref l], []⟩) (fun _ R s => s.heap.get? a = some { cls := .type "tuple", dict := dd, data := .seq items m, slots := sl } ∧ s.heap.get? l = some { cls := .type "dict", dict := dd2, data := .dict es n, slots := sl2 } ∧ R (.ok (.ret .notImplemented)) s) := by
  refine .of_wp fun prog w A R s h => ?_
  obtain ⟨hp, g, d, tk, os⟩ := s
  obtain ⟨ha, hl, h⟩ := h
  have f1 := PySem.F.sub_dict_tuple
  wp_walk using wpAny_loadPart' ha, wpAny_loadPart' hl, wpAny_load hl
  exact ⟨_, rfl, h⟩
/-- a value of another kind -/
inductive Oth (s : Shared) : Value → Prop
  | non : Oth s .none
  | bl (b : Bool) : Oth s (.bool b)
  | int (i : Int) (t : Tok) : Oth s (.int i t)
  | str (x : Str) (t : Tok) : Oth s (.str x t)
  | lst {l : Addr} {items : Array Value} (h : s.heap.IsList l items) : Oth s (.ref l)
  | tup {l : Addr} {items : Array Value} (h : s.heap.IsTuple l items) : Oth s (.ref l)
theorem rc_dict_oth {a : Addr} {u : Value} (d : IsD s a) (o : Oth s u) (hu : A.units < cLine) : RcAt A s (.ref a) u false := fun prog w E Q h => by
  obtain ⟨dd, es, ep, sl, e⟩ := d.ex
  cases o with
  | non =>
    exact rc_eq_decline_or (k := false) d.ty rfl (by decide) PySem.F.sub_NoneType_dict PySem.F.slot_dict_eq PySem.F.slot_NoneType_eq_refl (fun _ hq => d_declines d (T := "NoneType") rfl PySem.F.sub_NoneType_dict hq)
      (fun _ hq => call_gives PySem.F.slot_NoneType_eq_refl rfl PySem.F.entry_NoneType_eq (PySem.F.args_NoneType_eq_2 _ _) (none_declines a) hq) (fun _ hq => wpAny_of_eq (rfl : isSame (.ref a) .none = pure false) hq) (.inr hu) h
  | bl b =>
    exact rc_eq_decline_or (k := false) d.ty (typeIs_bool s b) (by decide) PySem.F.sub_bool_dict PySem.F.slot_dict_eq PySem.F.slot_bool_eq_refl (fun _ hq => d_declines d (typeIs_bool s b) PySem.F.sub_bool_dict hq)
      (fun _ hq => call_meets PySem.F.slot_bool_eq_refl (typeIs_bool s b) PySem.F.entry_int_eq (PySem.F.args_int_eq_2 _ _) (bool_declines b a es ep dd sl) ⟨e, hq⟩) (fun _ hq => wpAny_of_eq (rfl : isSame (.ref a) (.bool b) = pure false) hq) (.inr hu) h
  | int i t =>
    exact rc_eq_decline_or (k := false) d.ty (typeIs_int s i t) (by decide) PySem.F.sub_int_dict PySem.F.slot_dict_eq PySem.F.slot_int_eq_refl (fun _ hq => d_declines d (typeIs_int s i t) PySem.F.sub_int_dict hq)
      (fun _ hq => call_meets PySem.F.slot_int_eq_refl (typeIs_int s i t) PySem.F.entry_int_eq (PySem.F.args_int_eq_2 _ _) (int_declines i t a es ep dd sl) ⟨e, hq⟩) (fun _ hq => wpAny_of_eq (rfl : isSame (.ref a) (.int i t) = pure false) hq) (.inr hu) h
  | str x t =>
    exact rc_eq_decline_or (k := false) d.ty (typeIs_str s x t) (by decide) PySem.F.sub_str_dict PySem.F.slot_dict_eq PySem.F.slot_str_eq_refl (fun _ hq => d_declines d (typeIs_str s x t) PySem.F.sub_str_dict hq)
      (fun _ hq => call_meets PySem.F.slot_str_eq_refl (typeIs_str s x t) PySem.F.entry_str_eq (PySem.F.args_str_eq_2 _ _) (str_declines x t a es ep dd sl) ⟨e, hq⟩) (fun _ hq => wpAny_of_eq (rfl : isSame (.ref a) (.str x t) = pure false) hq) (.inr hu) h
  | @lst l items hl =>
    obtain ⟨⟨cls, d2, data, sl2⟩, ho, hc, n, hd⟩ := id hl
    simp only at hc hd
    subst hc hd
    have ne : a ≠ l := fun z => by
      rw [z, ho] at e
      simp at e
    have tl : s.TypeIs (.ref l) "list" := ⟨_, ho, rfl⟩
    exact rc_eq_decline_or (k := false) d.ty tl (by decide) PySem.F.sub_list_dict PySem.F.slot_dict_eq PySem.F.slot_list_eq_refl (fun _ hq => d_declines d tl PySem.F.sub_list_dict hq)
      (fun _ hq => call_meets PySem.F.slot_list_eq_refl tl PySem.F.entry_list_eq (PySem.F.args_list_eq_2 _ _) (list_declines l items n d2 sl2 a es ep dd sl) ⟨ho, e, hq⟩) (fun _ hq => wpAny_isSame_ref_other' ne e ho (by simp) hq) (.inr hu) h
  | @tup l items hl =>
    obtain ⟨⟨cls, d2, data, sl2⟩, ho, hc, n, hd⟩ := id hl
    simp only at hc hd
    subst hc hd
    have ne : a ≠ l := fun z => by
      rw [z, ho] at e
      simp at e
    have tl : s.TypeIs (.ref l) "tuple" := ⟨_, ho, rfl⟩
    refine rc_eq_decline_or (k := false) d.ty tl (by decide) PySem.F.sub_tuple_dict PySem.F.slot_dict_eq PySem.F.slot_tuple_eq_refl (fun _ hq => d_declines d tl PySem.F.sub_tuple_dict hq)
      (fun _ hq => call_meets PySem.F.slot_tuple_eq_refl tl PySem.F.entry_tuple_eq (PySem.F.args_tuple_eq_2 _ _) (tuple_declines l items n d2 sl2 a es ep dd sl) ⟨ho, e, hq⟩) (fun _ hq => wpAny_isSame_ref_other ne e ho (by simp) hq) (.inr hu) h
theorem rc_oth_dict {a : Addr} {u : Value} (d : IsD s a) (o : Oth s u) (hu : A.units < cLine) : RcAt A s u (.ref a) false := fun prog w E Q h => by
  obtain ⟨dd, es, ep, sl, e⟩ := d.ex
  cases o with
  | non =>
    exact rc_eq_decline_or (k := false) rfl d.ty (by decide) PySem.F.sub_dict_NoneType PySem.F.slot_NoneType_eq PySem.F.slot_dict_eq_refl
      (fun _ hq => call_gives PySem.F.slot_NoneType_eq rfl PySem.F.entry_NoneType_eq (PySem.F.args_NoneType_eq_2 _ _) (none_declines a) hq) (fun _ hq => d_declines d (T := "NoneType") rfl PySem.F.sub_NoneType_dict hq) (fun _ hq => wpAny_of_eq (rfl : isSame .none (.ref a) = pure false) hq) (.inr hu) h
  | bl b =>
    exact rc_eq_decline_or (k := false) (typeIs_bool s b) d.ty (by decide) PySem.F.sub_dict_bool PySem.F.slot_bool_eq PySem.F.slot_dict_eq_refl
      (fun _ hq => call_meets PySem.F.slot_bool_eq (typeIs_bool s b) PySem.F.entry_int_eq (PySem.F.args_int_eq_2 _ _) (bool_declines b a es ep dd sl) ⟨e, hq⟩) (fun _ hq => d_declines d (typeIs_bool s b) PySem.F.sub_bool_dict hq) (fun _ hq => wpAny_of_eq (rfl : isSame (.bool b) (.ref a) = pure false) hq) (.inr hu) h
  | int i t =>
    exact rc_eq_decline_or (k := false) (typeIs_int s i t) d.ty (by decide) PySem.F.sub_dict_int PySem.F.slot_int_eq PySem.F.slot_dict_eq_refl
      (fun _ hq => call_meets PySem.F.slot_int_eq (typeIs_int s i t) PySem.F.entry_int_eq (PySem.F.args_int_eq_2 _ _) (int_declines i t a es ep dd sl) ⟨e, hq⟩) (fun _ hq => d_declines d (typeIs_int s i t) PySem.F.sub_int_dict hq) (fun _ hq => wpAny_of_eq (rfl : isSame (.int i t) (.ref a) = pure false) hq) (.inr hu) h
  | str x t =>
    exact rc_eq_decline_or (k := false) (typeIs_str s x t) d.ty (by decide) PySem.F.sub_dict_str PySem.F.slot_str_eq PySem.F.slot_dict_eq_refl
      (fun _ hq => call_meets PySem.F.slot_str_eq (typeIs_str s x t) PySem.F.entry_str_eq (PySem.F.args_str_eq_2 _ _) (str_declines x t a es ep dd sl) ⟨e, hq⟩) (fun _ hq => d_declines d (typeIs_str s x t) PySem.F.sub_str_dict hq) (fun _ hq => wpAny_of_eq (rfl : isSame (.str x t) (.ref a) = pure false) hq) (.inr hu) h
  | @lst l items hl =>
    obtain ⟨⟨cls, d2, data, sl2⟩, ho, hc, n, hd⟩ := id hl
    simp only at hc hd
    subst hc hd
    have ne : l ≠ a := fun z => by
      rw [← z, ho] at e
      simp at e
    have tl : s.TypeIs (.ref l) "list" := ⟨_, ho, rfl⟩
    exact rc_eq_decline_or (k := false) tl d.ty (by decide) PySem.F.sub_dict_list PySem.F.slot_list_eq PySem.F.slot_dict_eq_refl
      (fun _ hq => call_meets PySem.F.slot_list_eq tl PySem.F.entry_list_eq (PySem.F.args_list_eq_2 _ _) (list_declines l items n d2 sl2 a es ep dd sl) ⟨ho, e, hq⟩) (fun _ hq => d_declines d tl PySem.F.sub_list_dict hq) (fun _ hq => wpAny_isSame_ref_other ne ho e (by simp) hq) (.inr hu) h
  | @tup l items hl =>
    obtain ⟨⟨cls, d2, data, sl2⟩, ho, hc, n, hd⟩ := id hl
    simp only at hc hd
    subst hc hd
    have ne : l ≠ a := fun z => by
      rw [← z, ho] at e
      simp at e
    have tl : s.TypeIs (.ref l) "tuple" := ⟨_, ho, rfl⟩
    exact rc_eq_decline_or (k := false) tl d.ty (by decide) PySem.F.sub_dict_tuple PySem.F.slot_tuple_eq PySem.F.slot_dict_eq_refl
      (fun _ hq => call_meets PySem.F.slot_tuple_eq tl PySem.F.entry_tuple_eq (PySem.F.args_tuple_eq_2 _ _) (tuple_declines l items n d2 sl2 a es ep dd sl) ⟨ho, e, hq⟩) (fun _ hq => d_declines d tl PySem.F.sub_tuple_dict hq) (fun _ hq => wpAny_isSame_ref_other' ne ho e (by simp) hq) (.inr hu) h
end
end MyQ
/-! sorted(set(l)) of a list of texts -/
namespace My
open PySem PySem.Spec PyProof.Rows L2
open PySem.Froz (SD sObj TxOk addTx tailTx add_x add_ok is_str)
/-- the set of the texts l, each once -/
structure TSet (P : Program) (w : World) (h : Heap) (a : Addr) (l : List Str) : Prop where
  ex : ∃ D : SD, h.get? a = some (sObj "set" D) ∧ TxOk P w D l ∧ Ris D.2.2.place.toList ∧ (w.params.followText "set-order" = true ∨ D.2.2.led = true)
  nd : l.Nodup
theorem TSet.at {P : Program} {w : World} {h h' : Heap} {a : Addr} {l : List Str} (T : TSet P w h a l) (k : ∀ o, h.get? a = some o → h'.get? a = some o) : TSet P w h' a l := by
  obtain ⟨D, e, r⟩ := T.ex
  exact ⟨⟨D, k _ e, r⟩, T.nd⟩
theorem tail_ris {w : World} {ep : Nat} {es : Array (Int × Value)} {t : SetTable} {b : Bool} (h : Ris t.place.toList) (hl : w.params.followText "set-order" = true ∨ t.led = true) :
    Ris (tailTx ep es t b).2.2.place.toList ∧ (w.params.followText "set-order" = true ∨ (tailTx ep es t b).2.2.led = true) := by
  unfold tailTx
  split
  · exact ⟨relayAll_ris t es _, hl.imp id fun z => (relayAll_led t es _).trans z⟩
  · exact ⟨h, hl⟩
theorem add_ris {w : World} {x : Int} {v : Value} {D : SD} (h : Ris D.2.2.place.toList) (hl : w.params.followText "set-order" = true ∨ D.2.2.led = true) :
    Ris (addTx x v D).2.2.place.toList ∧ (w.params.followText "set-order" = true ∨ (addTx x v D).2.2.led = true) := by
  unfold addTx
  have h1 := layNew_ris D.2.2 D.1 x v h
  have h2 := layNew_led D.2.2 D.1 x v
  refine tail_ris ?_ ?_
  · split
    · exact h1
    · exact h1
  · refine hl.imp id fun z => ?_
    split
    · exact h2.trans z
    · exact h2.trans z
section
variable {P : Program} {w : World} {A : Around} {E : Value → Shared → Prop} {s : Shared}
theorem add_old {a : Addr} {l : List Str} {k : Str} {u : Tok} {Q : Bool → Shared → Prop} (T : TSet P w s.heap a l) (hk : k ∈ l) (hb : l.length < scanBound) (h : Q false s) :
    wpAny (model P w) A (setAddHashed a (.str k u) (hashStr w k)) Q E s := by
  obtain ⟨⟨D, ho, F, _⟩, _⟩ := T
  obtain ⟨es, ep, t⟩ := D
  have hd : (sObj "set" (es, ep, t)).data = .set es ep t := rfl
  have hf : t.fits es.size = true := F.fit
  have hel : ElemsOf (PySem.strKind P w) es.toList := F.el
  have hsz : es.size = l.length := F.sz
  have hb0 : es.size < scanBound := by omega
  have hkey : (PySem.strKind P w).is k (.str k u) = true := is_str k u
  unfold setAddHashed setAddHashedIn
  refine wpAny_holding (wpAny_bind (wpAny_setState_of ho hd hf ?_))
  dsimp only
  rw [byScan_of rfl hb0 hel]
  simp only [↓reduceIte]
  unfold setAddByScan
  refine wpAny_bind ?_
  refine wpAny_bind (wpAny_rule ?_)
  refine wpAny_bind (wpAny_setScan_of (knd := PySem.strKind P w) (k := k) hkey ho hd hf hel ?_)
  cases hfi : List.findIdx? (fun e => (PySem.strKind P w).is k e.2) es.toList with
  | some j =>
    dsimp only
    exact wpAny_pure (wpAny_pure h)
  | none =>
    obtain ⟨e, he, q⟩ := (F.mem k).mp hk
    have c := List.findIdx?_eq_none_iff.mp hfi e he
    rw [q] at c
    cases c
theorem add_any {a : Addr} {l : List Str} {k : Str} {u : Tok} {Q : Bool → Shared → Prop} (T : TSet P w s.heap a l) (hb : l.length + 1 < scanBound)
    (h : ∀ b h' l', Heap.SameBut a s.heap h' → TSet P w h' a l' → (∀ z, z ∈ l' ↔ z = k ∨ z ∈ l) → l'.length ≤ l.length + 1 → Q b { s with heap := h' }) :
    wpAny (model P w) A (setAddHashed a (.str k u) (hashStr w k)) Q E s := by
  by_cases hk : k ∈ l
  · refine add_old T hk (by omega) ?_
    exact h false s.heap l (Heap.SameBut.refl a s.heap) T (fun z => ⟨.inr, fun q => q.elim (fun e => e ▸ hk) id⟩) (Nat.le_succ _)
  · obtain ⟨⟨D, ho, F, r, hl⟩, nd⟩ := T
    refine add_x ho F hk hb ?_
    have sb := Heap.SameBut.update s.heap a (fun _ => sObj "set" (addTx (hashStr w k) (.str k u) D))
    obtain ⟨r2, l2⟩ := add_ris (x := hashStr w k) (v := .str k u) r hl
    refine h true _ (k :: l) sb ⟨⟨_, PySem.Froz.get_upd _ ho rfl, add_ok u F, r2, l2⟩, List.nodup_cons.mpr ⟨hk, nd⟩⟩ (fun z => List.mem_cons) (Nat.le_refl _)
/-- set.update's loop -/
theorem upd_loop {I : Addr} {fp wr : List Addr} {G : Array GenState → Array GenState → Prop} {n : Nat} {Pv : Nat → Value → Prop} {St : Nat → Shared → Prop} {R : Result → Shared → Prop}
    (W : WalksS P w A.in1 I fp wr G n Pv St) (S : Addr) (hSf : S ∉ fp) (xs : List Str) (hn : xs.length = n) (hb : n + 1 < scanBound) (hval : ∀ i v, Pv i v → ∃ t, v = .str (xs.getD i Str.empty) t) :
    ∀ (k i : Nat) (s : Shared) (l : List Str), n - i = k → i ≤ n → St i s → TSet P w s.heap S l → (∀ z, z ∈ l ↔ z ∈ xs.take i) → l.length ≤ i →
      (∀ s' l', Moved (S :: wr) G s s' → TSet P w s'.heap S l' → (∀ z, z ∈ l' ↔ z ∈ xs) → R (.ok (.ret .none)) s') →
      codeAny (model P w) A (.builtin "set.update.loop" ⟨[.ref S, .ref I], []⟩) R s := by
  have hSw : S ∉ wr := fun h => hSf (W.sub _ h)
  have hsub : ∀ b ∈ wr, b ∈ S :: wr := fun b hb => List.mem_cons_of_mem _ hb
  intro k
  induction k with
  | zero =>
    intro i s l hk hi hst hS hm hlen hR
    have hin : i = n := by omega
    subst hin
    refine codeAny_builtin F.entry_set_update_loop ?_
    rw [Around.under_plainId F.plain_set_update_loop _]
    show wpAny _ A.in1 (pyNext (.ref I) >>= _) _ _ s
    refine wpAny_bind (W.done s _ _ hst fun s' hmv => ?_)
    show wpAny _ A.in1 (ret Value.none) _ _ s'
    refine wpAny_pure (hR s' l (hmv.mono hsub) (hS.at fun o e => hmv.heap S o hSw e) fun z => ?_)
    rw [hm z, ← hn, List.take_length]
  | succ k ih =>
    intro i s l hk hi hst hS hm hlen hR
    have hlt : i < n := by omega
    refine codeAny_builtin F.entry_set_update_loop ?_
    rw [Around.under_plainId F.plain_set_update_loop _]
    show wpAny _ A.in1 (pyNext (.ref I) >>= _) _ _ s
    refine wpAny_bind (W.item i s _ _ hlt hst fun v s' hP hst' hmv => ?_)
    obtain ⟨t, rfl⟩ := hval i v hP
    have hS' : TSet P w s'.heap S l := hS.at fun o e => hmv.heap S o hSw e
    show wpAny _ A.in1 (holding [Value.str (xs.getD i Str.empty) t] (setAdd S (.str (xs.getD i Str.empty) t)) >>= _) _ _ s'
    refine wpAny_bind (wpAny_holding ?_)
    unfold setAdd
    refine wpAny_holding ?_
    refine wpAny_bind ((PySem.strKind P w).pyHash (k := xs.getD i Str.empty) (is_str _ _) ?_)
    refine add_any (s := { s' with toks := s'.toks + 1 }) hS' (by omega) fun b h' l' hsb hS2 hm2 hl2 => ?_
    have hxi : i < xs.length := by omega
    have hm3 : ∀ z, z ∈ l' ↔ z ∈ xs.take (i + 1) := fun z => by
      rw [hm2 z, hm z, List.take_add_one, List.getElem?_eq_getElem hxi, List.mem_append, List.getD_eq_getElem?_getD, List.getElem?_eq_getElem hxi]
      simp [Or.comm]
    refine wpAny_pure ⟨plainId_quiet F.plain_set_update_loop _, ih (i + 1) _ l' (by omega) hlt (W.frame _ s' _ _ hst' (Nat.le_succ _) fun b hb o e => ?_) hS2 hm3 (by omega) fun s'' l2 hm'' hS'' hz => ?_⟩
    · rw [hsb.2 b (fun h : b = S => hSf (by rw [← h]; exact hb))]; exact e
    · refine hR s'' l2 (Moved.trans W.gtrans ((hmv.mono hsub).then_heap (Nat.le_succ _) fun b o hb e => ?_) hm'') hS'' hz
      rw [hsb.2 b (fun h : b = S => hb (by rw [h]; exact List.mem_cons_self))]; exact e
/-- set(l), l a list of texts -/
theorem call_set_texts {l : Addr} {items : Array Value} {xs : List Str} {Q : Value → Shared → Prop} (hh : A.handled = none) (hl : s.heap.IsList l items) (hi : StrsAre items.toList xs) (hb : xs.length + 1 < scanBound)
    (h : ∀ (h' : Heap) (tk : Nat) (ys : List Str), TSet P w h' s.heap.objs.size ys → (∀ z, z ∈ ys ↔ z ∈ xs) → (∀ b o, s.heap.get? b = some o → h'.get? b = some o) → Q (.ref s.heap.objs.size) { s with heap := h', toks := tk }) :
    wpAny (model P w) A (call (.type "set") [.ref l]) Q E s := by
  obtain ⟨c, tl, hmro⟩ := F.called_set.mro
  have hmade := F.called_set.made
  have hsub := F.called_set.sub
  refine wpAny_call (codeAny_of_tree ?_)
  show wpAny _ _ (callAny (.type "set") _) _ _ _
  refine wpAny_pure ⟨Code.quiet_builtin _ (by decide +kernel), codeAny_builtin F.entry_type_call ?_⟩
  rw [Around.under_plain (weight_type_call_type "set" [.ref l] []) rfl]
  have h1 := F.called_set.notType
  have h2 := F.called_set.canCreate
  have hct := F.typeCall_set_1 (.ref l)
  repeat (any_goals (first | assumption | wp_step))
  refine codeAny_mono (code_set_led1 (.ref l) (E := E) (Q₁ := fun obj s₁ => obj = .ref s.heap.objs.size ∧ s₁ = { s with heap := s.heap.push { cls := .type "set", dict := none, data := .set #[] 0 (.fresh 0 0 (!w.params.followText "set-order")) } }) ⟨rfl, rfl⟩) fun r s₁ hr => ?_
  cases r with
  | error e => exact hr
  | ok fl =>
    cases fl with
    | ret obj =>
      obtain ⟨rfl, rfl⟩ := hr
      have hS : (s.heap.push { cls := .type "set", dict := none, data := .set #[] 0 (.fresh 0 0 (!w.params.followText "set-order")) }).get? s.heap.objs.size = some { cls := .type "set", dict := none, data := .set #[] 0 (.fresh 0 0 (!w.params.followText "set-order")) } := Heap.get?_push_size _ rfl
      have hT : Shared.TypeIs { s with heap := s.heap.push { cls := .type "set", dict := none, data := .set #[] 0 (.fresh 0 0 (!w.params.followText "set-order")) } } (.ref s.heap.objs.size) "set" := ⟨_, hS, rfl⟩
      have hli := F.called_set.init.lookup
      have hbi := F.called_set.init.bind (.ref s.heap.objs.size)
      repeat (any_goals (first | assumption | wp_step))
      refine codeAny_mono (codeAny_call_builtin (R := wants (fun r s₂ => r = .none ∧ ∃ h' tk ys, s₂ = { s with heap := h', toks := tk } ∧ TSet P w h' s.heap.objs.size ys ∧ (∀ z, z ∈ ys ↔ z ∈ xs) ∧
          (∀ b o, s.heap.get? b = some o → h'.get? b = some o)) E) F.called_set.init.plain F.entry_set_init (check_set_init_1 hT ?_)) fun r₂ s₂ hr₂ => ?_
      · obtain ⟨ol, hol, hcl, nl, hdl⟩ := hl
        obtain ⟨ocls, odict, odata, oslots⟩ := ol
        simp only at hcl hdl
        subst hcl; subst hdl
        have hol' : (s.heap.push { cls := .type "set", dict := none, data := .set #[] 0 (.fresh 0 0 (!w.params.followText "set-order")) }).get? l = some { cls := .type "list", dict := odict, data := .seq items nl, slots := oslots } := Heap.get?_push_of_some _ hol
        have hsls := F.sub_list_set
        have hslf := F.sub_list_frozenset
        have hne : (Value.type "list" == Value.type "dict") = false := by decide
        have hl1 : (s.heap.push { cls := .type "set", dict := none, data := .set #[] 0 (.fresh 0 0 (!w.params.followText "set-order")) }).IsList l items := ⟨_, hol', rfl, nl, rfl⟩
        unfold Builtin.«set.__init__» noKeywords Builtin.Frozenset.updateFrom
        generalize hPI : pyIter = PI
        wp_walk
        subst hPI
        refine wpAny_pyIter_list hl1 ?_
        refine wpAny_bind (wpAny_runValue ?_)
        have hlS : l < s.heap.objs.size := Heap.lt_size hol
        have hh3 : A.in1.in1.in1.handled = none := by simp [hh]
        have hneI : l ≠ (s.heap.push { cls := .type "set", dict := none, data := .set #[] 0 (.fresh 0 0 (!w.params.followText "set-order")) }).objs.size := by
          rw [Heap.size_push]; exact Nat.ne_of_lt (Nat.lt_succ_of_lt hlS)
        have hSf : s.heap.objs.size ∉ [(s.heap.push { cls := .type "set", dict := none, data := .set #[] 0 (.fresh 0 0 (!w.params.followText "set-order")) }).objs.size, l] := by
          rw [Heap.size_push]; simp only [List.mem_cons, List.mem_singleton, List.not_mem_nil, or_false, not_or]
          exact ⟨Nat.ne_of_lt (Nat.lt_succ_self _), Nat.ne_of_gt hlS⟩
        have hsz : xs.length = items.size := by rw [← StrsAre.len_eq hi, Array.length_toList]
        have hval : ∀ (i : Nat) (v : Value), items[i]? = some v → ∃ t, v = .str (xs.getD i Str.empty) t := fun i v hv => SS.strs_at hi i v (by rw [Array.getElem?_toList]; exact hv)
        refine upd_loop ((Walks.list hh3 _ l hneI items).toS) s.heap.objs.size hSf xs hsz (by rw [← hsz]; exact hb) hval (items.size - 0) 0 _ [] (by omega) (Nat.zero_le _)
          ⟨⟨_, Heap.get?_push_size _ rfl, rfl, rfl⟩, (hl1.push _)⟩ ?hS0 (fun z => by simp) (Nat.le_refl _) ?hR
        case hS0 =>
          have hget : ((s.heap.push { cls := .type "set", dict := none, data := .set #[] 0 (.fresh 0 0 (!w.params.followText "set-order")) }).push { cls := .type "list_iterator", data := .fields #[.ref l, .int 0 0] }).get? s.heap.objs.size = some { cls := .type "set", dict := none, data := .set #[] 0 (.fresh 0 0 (!w.params.followText "set-order")) } := Heap.get?_push_of_some _ hS
          refine ⟨⟨(#[], 0, .fresh 0 0 (!w.params.followText "set-order")), ?_, PySem.Froz.TxOk.nil (by rfl), List.Pairwise.nil, ?_⟩, List.nodup_nil⟩
          · exact hget
          · show _ ∨ (!w.params.followText "set-order") = true
            cases w.params.followText "set-order"
            · exact .inr rfl
            · exact .inl rfl
        case hR =>
          intro s' ys hm hS' hz
          obtain ⟨h', g2, d', tk', os'⟩ := s'
          have eg : g2 = s.gens := hm.gens
          have ed : d' = s.drawn := hm.drawn
          have eo : os' = s.os := hm.os
          subst eg; subst ed; subst eo
          show wpAny _ _ _ _ _ _
          refine wpAny_pure ?_
          show wpAny _ _ (ret Value.none) _ _ _
          refine wpAny_pure ⟨rfl, h', tk', ys, rfl, hS', hz, fun b o e => ?_⟩
          have hlt := Heap.lt_size e
          have hb1 : b ≠ s.heap.objs.size := Nat.ne_of_lt hlt
          have hb2 : b ≠ (s.heap.push { cls := .type "set", dict := none, data := .set #[] 0 (.fresh 0 0 (!w.params.followText "set-order")) }).objs.size := by
            rw [Heap.size_push]; exact Nat.ne_of_lt (Nat.lt_succ_of_lt hlt)
          exact hm.heap b o (by simp only [List.mem_cons, List.mem_singleton, List.not_mem_nil, or_false, not_or]; exact ⟨hb1, hb2⟩) (Heap.get?_push_of_some _ (Heap.get?_push_of_some _ e))
      · cases r₂ with
        | error e => exact hr₂
        | ok fl₂ =>
          cases fl₂ with
          | ret r =>
            obtain ⟨rfl, h', tk, ys, rfl, hS', hz, hk'⟩ := hr₂
            repeat (any_goals (first | assumption | wp_step))
            exact h _ _ _ hS' hz hk'
          | _ => exact hr₂.elim
    | _ => exact hr.elim
theorem nodup_len : ∀ (l ys : List Str), l.Nodup → (∀ z ∈ l, z ∈ ys) → l.length ≤ ys.length
  | [], ys, _, _ => Nat.zero_le _
  | x :: l, ys, nd, sub => by
    obtain ⟨hx, nd2⟩ := List.nodup_cons.mp nd
    have p1 : ys.Perm (x :: ys.erase x) := List.perm_cons_erase (sub x List.mem_cons_self)
    have r := nodup_len l (ys.erase x) nd2 fun z hz => (List.mem_cons.mp (p1.mem_iff.mp (sub z (List.mem_cons_of_mem _ hz)))).elim (fun q => absurd q fun e => hx (e ▸ hz)) id
    have := p1.length_eq
    simp only [List.length_cons] at this ⊢
    omega
theorem perm_full : ∀ (l ys : List Str), l.Nodup → (∀ z ∈ l, z ∈ ys) → ys.length ≤ l.length → ys.Perm l
  | [], ys, _, _, h => by
    have : ys = [] := List.eq_nil_of_length_eq_zero (by simpa using h)
    rw [this]
  | x :: l, ys, nd, sub, h => by
    obtain ⟨hx, nd2⟩ := List.nodup_cons.mp nd
    have hm := sub x List.mem_cons_self
    have p1 : ys.Perm (x :: ys.erase x) := List.perm_cons_erase hm
    have hl : (ys.erase x).length ≤ l.length := by
      have := p1.length_eq
      simp only [List.length_cons] at this h
      omega
    refine p1.trans (.cons x (perm_full l (ys.erase x) nd2 (fun z hz => ?_) hl))
    have hzx : z ≠ x := fun e => hx (e ▸ hz)
    rcases List.mem_cons.mp (p1.mem_iff.mp (sub z (List.mem_cons_of_mem _ hz))) with q | q
    · exact absurd q hzx
    · exact q
theorem texts_of : ∀ vs : List Value, (∀ v ∈ vs, ∃ k t, v = Value.str k t) → ∃ ys, StrsAre vs ys ∧ ys.length = vs.length ∧ ∀ k t, Value.str k t ∈ vs → k ∈ ys
  | [], _ => ⟨[], .nil, rfl, fun k t h => by cases h⟩
  | v :: vs, h => by
    obtain ⟨k, t, rfl⟩ := h v List.mem_cons_self
    obtain ⟨ys, h1, h2, h3⟩ := texts_of vs fun u hu => h u (List.mem_cons_of_mem _ hu)
    refine ⟨k :: ys, .cons k t h1, by simp [h2], fun k2 t2 hm => ?_⟩
    rcases List.mem_cons.mp hm with q | q
    · injection q with q1 q2
      rw [q1]
      exact List.mem_cons_self
    · exact List.mem_cons_of_mem _ (h3 k2 t2 q)
/-- sorted(set) -/
theorem sorted_texts {a : Addr} {l : List Str} {Q : Value → Shared → Prop} (T : TSet P w s.heap a l) (hh : A.handled = none) (h64 : l.length < 64)
    (hQ : ∀ s' p (out : Array Value) (c : Nat) (ys : List Str), (∀ b o, s.heap.get? b = some o → s'.heap.get? b = some o) → s'.gens = s.gens → s'.os = s.os → s.heap.objs.size ≤ p →
      s'.heap.get? p = some (seqObj "list" out c) → StrsAre out.toList ys → ys.Perm l → sortedS ys = true → Q (.ref p) s') :
    wpAny (model P w) A (call (.builtin "sorted") [.ref a]) Q E s := by
  obtain ⟨⟨D, ho, F0, hr, hl⟩, nd⟩ := T
  obtain ⟨es, ep, t⟩ := D
  have hsz : es.size = l.length := F0.sz
  refine Calls.call_function_entry kind_sorted plain_sorted entry_sorted (args_sorted1 _) ?_
  unfold Builtin.«sorted»
  refine wpAny_bind (m := checkCount "sorted" 1 1 _) (wpAny_pure ?_)
  refine wpAny_bind (collect_set (A := A.in1) (es := es) (ep := ep) (t := t) hh ⟨_, ho, rfl, rfl⟩ F0.fit (by unfold scanBound; omega) hr hl fun s1 vs k1 hz g1 o1 pm => ?_)
  have hvl : vs.length = l.length := by rw [pm.length_eq, List.length_map, Array.length_toList]; exact hsz
  obtain ⟨ys, hS, hyl, hin⟩ := texts_of vs fun v hv => by
    obtain ⟨e, he, q⟩ := List.mem_map.mp (pm.mem_iff.mp hv)
    obtain ⟨⟨k, hk, _⟩, _⟩ := F0.el e he
    obtain ⟨t, ev⟩ := Value.isStrOf_shape (x := k) (v := e.2) hk
    exact ⟨k, t, by rw [← q]; exact ev⟩
  have pl : ys.Perm l := perm_full l ys nd (fun z hz => by
    obtain ⟨e, he, q⟩ := (F0.mem z).mp hz
    obtain ⟨t, ev⟩ := Value.isStrOf_shape (x := z) (v := e.2) q
    refine hin z t (pm.mem_iff.mpr (List.mem_map.mpr ⟨e, he, ev⟩))) (by omega)
  refine wpAny_bind (wpAny_newList ?_ (by rw [hvl, sizeLine_eq]; omega))
  have hoL : (s1.heap.push (seqObj "list" vs.toArray 0)).get? s1.heap.objs.size = some (seqObj "list" vs.toArray 0) := Heap.get?_push_size _ rfl
  refine wpAny_bind (wpAny_holding (wpAny_call_entry slot_list_sort ⟨_, hoL, rfl⟩ entry_list_sort (list_sort_treeK strKind_oneLt hoL hS.keysOf (fun v₁ v₂ rest e => keyKind_strs (by rw [← e]; exact hS)) (by rw [hvl]; exact h64) fun st' hp hs => ⟨_, rfl, ?_⟩) (args_list_sort _)))
  obtain ⟨ss', b1, b2, b3⟩ := sorted_out_str hS hp hs
  obtain ⟨c, hc⟩ := sortedHeap_at (vs := vs) (out := (arrOf st').map (·.2)) hoL
  refine wpAny_pure ⟨_, rfl, hQ _ s1.heap.objs.size ((arrOf st').map (·.2)) c ss' (fun b u e => ?_) g1 o1 hz hc b1 (b2.trans pl) b3⟩
  have q := k1 b u e
  have hlt := Heap.lt_size q
  show (sortedHeap (s1.heap.push (seqObj "list" vs.toArray 0)) s1.heap.objs.size vs ((arrOf st').map (·.2))).get? b = some u
  rw [sortedHeap_old (Nat.ne_of_lt hlt) (by rw [size_push']; exact Nat.lt_succ_of_lt hlt)]
  exact Heap.get?_push_of_some _ q
end
def TSetO (P : Program) (w : World) (a : Addr) (l : List Str) : HO := .ext fun h => TSet P w h a l
theorem tsetO_new {P : Program} {w : World} {H : Hp} {h : Heap} {a : Addr} {l : List Str} (T : TSet P w h a l) : ObjOk P w H h a (TSetO P w a l) := by
  obtain ⟨D, e, r⟩ := T.ex
  exact ⟨T, ⟨_, e⟩, fun h1 h2 p k => TSet.at p k⟩
section
variable {X : Cx}
theorem cr_setTexts (hc : X.calm = true) : CallR X (.type "set") (fun xs H Q => ∃ (l : Addr) (zs : List Str), xs = [V.ref l] ∧ SqL X.K H l (zs.map V.str) ∧ zs.length < 64 ∧
    ∀ a ys, H a = none → ys.Nodup → (∀ z, z ∈ ys ↔ z ∈ zs) → Q (.ref a) (upd H a (TSetO X.prog X.w a ys))) := by
  intro pins s σ H xs us Q I r h
  obtain ⟨l, zs, rfl, hl, hf, q⟩ := h
  rw [Vals.ref1 r]
  obtain ⟨its, rv, pl, hz⟩ := I.list hl
  refine call_set_texts (P := X.prog) (w := X.w) (xs := zs) (I.ok.hd hc) pl.isList (by simpa using rv.strs) (by unfold scanBound; omega) fun h' tk ys T hm k => ?_
  exact ⟨.ref s.heap.objs.size, upd H s.heap.objs.size (TSetO X.prog X.w s.heap.objs.size ys), I.laid (t' := tk) k (Nat.le_refl _) (tsetO_new T), rfl, q _ ys (I.hok.fresh (Nat.le_refl _)) T.nd hm⟩
theorem cr_sortedTexts (hc : X.calm = true) : CallR X (.builtin "sorted") (fun xs H Q => ∃ (a : Addr) (l : List Str), xs = [V.ref a] ∧ H a = some (TSetO X.prog X.w a l) ∧ l.length < 64 ∧
    ∀ (ys : List Str) (p : Addr), ys.Perm l → sortedS ys = true → H p = none → Q (.ref p) (upd H p (.lst (ys.map V.str)))) := by
  intro pins s σ H vs us Q I r h
  obtain ⟨a, l, rfl, ha, hf, q⟩ := h
  have T : TSet X.prog X.w s.heap a l := (I.hok a _ ha).1
  rw [Vals.ref1 r]
  refine sorted_texts T (I.ok.hd hc) hf fun s' p out c ys k g o hp hg hS pm so => ?_
  have hlen : (ys.map V.str).length ≤ sizeLine := by rw [List.length_map, pm.length_eq, sizeLine_eq]; omega
  have hn : H p = none := I.hok.fresh hp
  have J : Inv X pins σ (upd H p (.lst (ys.map V.str))) { s with heap := s'.heap, gens := s'.gens, drawn := s'.drawn, toks := s'.toks } :=
    I.call (ch := []) (Un.laid k hp hn) (I.hok.laid k hp ⟨hlen, out.toList, c, vals_of_strs hS, hg⟩) (by rw [g]; exact I.bare) (fun _ z => nomatch z)
  have e : s' = { s with heap := s'.heap, gens := s'.gens, drawn := s'.drawn, toks := s'.toks } := by
    cases s'
    cases s
    cases o
    rfl
  rw [e]
  exact ⟨.ref p, _, J, rfl, q ys p pm so hn⟩
end
end My
/-! C( *e), C() of a starred __init__, static methods, <= by an own __le__, x in a tuple by own ==, repr and in of nested data -/
namespace MyO
open PySem PySem.SeqAt
open AutoSeq1 (wpAny_loadPart')
open MeetsSeq MeetsSeq2 MeetsSeq3 SeqRoads2
section
variable {prog : Program} {w : World} {A : Around} {R : Result → Shared → Prop} {s : Shared}
theorem contains_J (l : Addr) (items : Array Value) (n : Nat) (dd : Option Addr) (sl : Array (Option Value)) (x : Value) (e : Value → Bool) (J : Shared → Prop)
    (hl : s.heap.get? l = some { cls := .type "tuple", dict := dd, data := .seq items n, slots := sl }) (h0 : J s)
    (he : ∀ y, y ∈ items → ∀ s', J s' → wpAny (model prog w) A.in1 (eqBool y x) (fun r s2 => r = e y ∧ J s2) (fun e s' => R (.error e) s') s')
    (h : ∀ s', J s' → R (.ok (.ret (.bool (items.any e)))) s') :
    wpAny (model prog w) A.in1 (Builtin.«tuple.__contains__» ⟨[.ref l, x], []⟩) (GQ.FinOf prog w A R) (fun e s' => R (.error e) s') s := by
  obtain ⟨hp, g, d, tk, os⟩ := s
  wp_walk using wpAny_loadPart' hl, wpAny_forIn_array _ (fun rest b s' => b.1 = none ∧ J s' ∧ (∀ y, y ∈ rest → y ∈ items) ∧ (rest.any e = items.any e)) _
  case turn =>
    rintro y rest b s' ⟨hb, hJ, hmem, hR⟩
    refine wpAny_bind (wpAny_mono (he y (hmem y (List.mem_cons_self ..)) s' hJ) (fun r s2 z => ?_) fun _ _ q => q)
    obtain ⟨rfl, J2⟩ := z
    rw [List.any_cons] at hR
    cases hy : e y with
    | true =>
      rw [hy] at hR
      wp_walk
      have q := h _ J2
      rw [← hR] at q
      exact q
    | false =>
      rw [hy] at hR
      wp_walk
      exact ⟨rfl, J2, fun z hz => hmem z (List.mem_cons_of_mem _ hz), by simpa using hR⟩
  case fin =>
    rintro ⟨b1, b2⟩ s' ⟨hb, hJ, -, hR⟩
    simp only at hb
    subst hb
    wp_walk
    have q := h _ hJ
    rw [← hR] at q
    exact q
  case h =>
    exact ⟨rfl, h0, fun y hy => by simpa using hy, by simp⟩
end
section
variable {prog : Program} {w : World} {A : Around} {E : Value → Shared → Prop} {s : Shared}
theorem in_tupJ {l : Addr} {items : Array Value} {x : Value} {Q : Value → Shared → Prop} (e : Value → Bool) (J : Shared → Prop) (hl : s.heap.IsTuple l items) (h0 : J s)
    (he : ∀ y, y ∈ items → ∀ s', J s' → wpAny (model prog w) A.in1 (eqBool y x) (fun r s2 => r = e y ∧ J s2) E s') (h : ∀ s', J s' → Q (.bool (items.any e)) s') :
    wpAny (model prog w) A (compareOp .In x (.ref l)) Q E s := by
  obtain ⟨⟨cls, dd, data, sl⟩, ho, hc, n, hd⟩ := id hl
  simp only at hc hd
  subst hc hd
  show wpAny _ A (do return .bool (← contains (.ref l) x)) Q E s
  have slot := GQ.call_here (self := .ref l) (rest := [x]) (s := s) F.slot_tuple_contains (Q := fun v s' => ∃ b, v = .bool b ∧ Q (.bool b) s') (E := E) ⟨_, ho, rfl⟩ F.entry_tuple_contains (F.args_tuple_contains_2 _ _)
    (contains_J (R := wants (fun v s' => ∃ b, v = .bool b ∧ Q (.bool b) s') E) l items n dd sl x e J ho h0 he (fun s' z => ⟨_, rfl, h s' z⟩))
  refine wpAny_bind (wpAny_contains_slot (T := "tuple") ⟨_, ho, rfl⟩ F.slot_tuple_contains (wpAny_mono slot (fun v s' hv => ?_) fun _ _ e => e))
  obtain ⟨b, rfl, hq⟩ := hv
  exact wpAny_truthy_bool (wpAny_pure hq)
end
end MyO
namespace My
open PySem PySem.Spec PyProof.Rows L2
section
variable {X : Cx} {CX : CXT} {k : Nat} {f g p C : Addr} {fd : FuncData} {ps : List Str} {sp : Sp} {E : XK} {x m : Str} {p1 p2 p3 apos pos : Pos} {e ob : Expr} {es : List Expr} {te to : TE} {t : TA} {mc : Value}
/-- C( *e) -/
def tMakeS (K : PySem.W.Frag) (C : Addr) (sp : Sp) (E : XK) (te : TE) : TE := fun σ H Q => te σ H fun y H1 => ∃ a xs, y = V.ref a ∧ (SqT K H1 a xs ∨ SqL K H1 a xs) ∧ ∀ x dx, H1 x = Option.none → H1 dx = Option.none → dx ≠ x →
  sp (V.ref x :: xs) (upd (upd H1 dx (.own x)) x (.ins C dx [])) (fun v H2 => v = .non ∧ Q (.ref x) H2) E
theorem pe_makeS (M : Mk X.K C f) (F : FnR X.prog X.w X.K X.mg X.base CX k f sp) (hr : Room (k + 1) X.A) (hg : Gl X x) (hm : X.mg x = some (.ref C)) (hx : Passes CX X E) (he : PE X e te) (hdb : (x == ("__debug__" : Str)) = false := by decide)
    (hst : starEach [.Starred e p2] X.env = [(true, eval e X.env)] := by rfl) : PE X (.Call (.Name x p1) [.Starred e p2] [] pos) (tMakeS X.K C sp E te) := by
  refine ⟨fun pins s σ H Q I h => ?_⟩
  refine wpAny_Call_Name_kw (ld_glob I hg hm ?_ hdb)
  refine PySem.W.callWith_S (h₀ := X.base) I.ok.mod.kin M.kp (thn (he.run pins s σ H _ I h) fun v s1 ⟨y, H1, I1, ry, a, xs, ey, hxs, q⟩ => ?_) hst
  subst ey
  obtain rfl : v = Value.ref a := ry
  exact StX.star_any I1 hxs fun us s2 I2 rv => ⟨I2.kIn, StX.run_makeR M F hr hx I2 rv q⟩
/-- C() -/
theorem pe_makeR0 (M : Mk X.K C f) (F : FnR X.prog X.w X.K X.mg X.base CX k f sp) (hr : Room (k + 1) X.A) (hg : Gl X x) (hm : X.mg x = some (.ref C)) (hx : Passes CX X E) (hdb : (x == ("__debug__" : Str)) = false := by decide) :
    PE X (.Call (.Name x p1) [] [] pos) (StX.tMakeR C sp E tNil) := by
  refine ⟨fun pins s σ H Q I h => ?_⟩
  refine wpAny_Call_Name_kw (ld_glob I hg hm ?_ hdb)
  exact PySem.W.callWith_K0 I.kIn M.kp (StX.run_makeR (us := []) M F hr hx I .nil h)
/-- C.m is a static method: its record at p, its def at g -/
structure SMet (K : PySem.W.Frag) (C : Addr) (mc : Value) (m : Str) (p g : Addr) : Prop where
  rd : ClX.CRead K C mc
  at_ : PySem.W.findCls K (.ref C) mc m = some (.get (.builtin "staticmethod.__get__") (.ref p) .none (.ref C))
  rc : ∃ rest, PySem.W.recIn K p "staticmethod" = some (.ref g :: rest)
  kp : PySem.W.keepIn K (.ref g) = true
/-- C.m(e, ..) -/
def tSMeth (C : Addr) (sp : Sp) (E : XK) (to : TE) (t : TA) : TE := fun σ H Q => to σ H fun x H1 => x = .ref C ∧ t σ H1 fun vs H2 => sp vs H2 Q E
theorem pe_smeth {pl : Sem Bool} (ho : PE X ob to) (c : SMet X.K C mc m p g) (F : FnR X.prog X.w X.K X.mg X.base CX k g sp) (hr : Room k X.A) (hx : Passes CX X E) (ha : PA X (e :: es) t)
    (hst : starEach (e :: es) X.env = (false, eval e X.env) :: starEach es X.env := by rfl) (hpl : (backTo pos (starEach es X.env)).any (·.1) = false := by rfl)
    (ht : eval (.Call (.Attribute ob m apos) (e :: es) [] pos) X.env = (do
      let ov ← eval ob X.env
      standAt apos.atName
      let (f, first) ← holding [ov] (getMethod ov m pl)
      callWith pos f first (backTo pos (starEach (e :: es) X.env)) (backToKw pos (keywordEach [] X.env))) := by rfl) :
    PE X (.Call (.Attribute ob m apos) (e :: es) [] pos) (tSMeth C sp E to t) := by
  refine ⟨fun pins s σ H Q I h => ?_⟩
  refine PySem.W.methodCall_KW (pl := pl) (thn (ho.run pins s σ H _ I h) fun u s1 ⟨x, H1, I1, rx, ex, q⟩ => ?_) ht
  subst ex
  obtain rfl : u = Value.ref C := rx
  obtain ⟨rest, hp⟩ := c.rc
  refine PySem.W.method_cls I1.kIn c.rd.ga (PySem.W.cls_bind I1.kIn c.rd.rd c.at_ ?_)
  refine wpAny_call (PySem.W.sm_get (s := { s1 with toks := s1.toks + 1 }) I1.kIn hp (PySem.W.handed_on rfl ?_))
  have I2 : Inv X pins σ H1 { s1 with toks := s1.toks + 1 } := I1.tok _
  refine PySem.W.callWith_K (h₀ := X.base) (first := []) I2.ok.mod.kin c.kp (thn (ha.run pos pins _ σ H1 _ I2 q) fun us s3 ⟨vs, H2, I3, rv, q2⟩ => ⟨I3.kIn, ?_⟩) hst hpl
  exact wpAny_call (run_fnR F hr hx I3 rv q2)
/-- x <= y by an own __le__ -/
theorem op_leOwn {C : Addr} (F : FnG X.prog X.w X.K X.mg X.base CX k f fd ps sp) (hr : Room k X.A) (hgu : X.A.guards = some []) (hs : PySem.W.findIn X.K (.ref C) "__le__" = some (some (.ref f))) (hf : PySem.W.isFn X.K (.ref f) = true) (hb : Binds X.K fd ps []) (hx : Passes CX X E) :
    OpR X (compareOp .LtE) (rEqOwn X.K C sp E) := by
  intro pins s σ H x y v u Q I rx ry h
  obtain ⟨a, dx, fs, t, rfl, ha, ty, nf, q⟩ := h
  cases rx
  obtain ⟨mA, J, _⟩ := ins_get I.hok ha
  obtain ⟨od, J, _⟩ := J.look
  obtain ⟨m, hF⟩ := I.fr
  obtain ⟨Pp, Z, pz, _⟩ := kit_of I ry ty
  show wpAny (model X.prog X.w) X.A (richCompare .LtE (.ref a) u) (EP X pins σ Q) X.xe s
  refine PySem.W.cmp_K (op := .LtE) (tb := t) hr.units0 hF I.ok.mod.kin J (Z.ty _ _ I.kIn pz) nf hs hf ?_
  refine wpAny_mono (runG (vs := [.ref a, y]) (us := [.ref a, u]) (dvs := []) (ds := []) F hr hgu hb .nil hx I (.cons rfl (.cons ry .nil)) q) (fun r s' z => ?_) fun _ _ z => z
  obtain ⟨w1, H1, I1, r1, b, rfl, q1⟩ := z
  cases r1
  exact ⟨.bl b, H1, I1, rfl, q1⟩
/-- y == x answers b, the heap stays -/
def EqB (X : Cx) (D : V → V → Bool → Hp → Prop) : Prop := ∀ (pins : List (Addr × Obj)) (s : Shared) (σ : L2.St) (H : Hp) (y x : V) (u v : Value) (b : Bool), Inv X pins σ H s → RelV y u → RelV x v → D y x b H →
  wpAny (model X.prog X.w) X.A.in1 (eqBool u v) (fun r s2 => r = b ∧ Inv X pins σ H s2) X.xe s
def rInG (K : PySem.W.Frag) (D : V → V → Bool → Hp → Prop) : R2 := fun x y H Q => ∃ (p : Addr) (xs : List V) (bs : List Bool), y = .ref p ∧ SqT K H p xs ∧ Paired (fun y b => D y x b H) xs bs ∧ Q (.bl (bs.any id)) H
theorem op_inG {D : V → V → Bool → Hp → Prop} (hD : EqB X D) (one : ∀ y x b b' H, D y x b H → D y x b' H → b = b') (flat : ∀ y x b H, D y x b H → ∃ a, y = .ref a) : OpR X (compareOp .In) (rInG X.K D) := by
  intro pins s σ H x y v u Q I rx ry h
  obtain ⟨q, xs, bs, rfl, hq, pr, h⟩ := h
  cases ry
  obtain ⟨its, r, pl, hz⟩ := I.tuple hq
  have ex : ∃ e : Value → Bool, (∀ w ∈ its, ∃ y b, RelV y w ∧ D y x b H ∧ e w = b) ∧ its.any e = bs.any id := by
    clear hz pl hq h
    have key : ∀ (xs : List V) (bs : List Bool) (its : List Value), Vals xs its → Paired (fun y b => D y x b H) xs bs → ∃ L : List (Value × Bool), L.map (·.1) = its ∧ L.map (·.2) = bs ∧ ∀ z ∈ L, ∃ y, RelV y z.1 ∧ D y x z.2 H := by
      intro xs
      induction xs with
      | nil =>
        intro bs its r pr
        cases r
        cases pr
        exact ⟨[], rfl, rfl, fun z h => by cases h⟩
      | cons y ys ih =>
        intro bs its r pr
        cases r with
        | cons r1 r2 =>
          cases pr with
          | cons p1 p2 =>
            obtain ⟨L, e1, e2, h⟩ := ih _ _ r2 p2
            refine ⟨(_, _) :: L, by rw [List.map_cons, e1], by rw [List.map_cons, e2], fun z hz => ?_⟩
            rcases List.mem_cons.mp hz with q | q
            · rw [q]; exact ⟨y, r1, p1⟩
            · exact h z q
    obtain ⟨L, e1, e2, h⟩ := key xs bs its r pr
    refine ⟨fun w => ((L.find? fun z => z.1 == w).map (·.2)).getD false, fun w hw => ?_, ?_⟩
    · rw [← e1] at hw
      obtain ⟨z, hz, ez⟩ := List.mem_map.mp hw
      cases hf : L.find? (fun z => z.1 == w) with
      | none =>
        have := List.find?_eq_none.mp hf z hz
        simp [ez] at this
      | some z2 =>
        have m2 := List.mem_of_find?_eq_some hf
        have e3 : z2.1 = w := by simpa using List.find?_some hf
        obtain ⟨y2, r2, d2⟩ := h z2 m2
        exact ⟨y2, z2.2, e3 ▸ r2, d2, by dsimp only; rw [hf] <;> rfl⟩
    · rw [← e1, ← e2, List.any_map, List.any_map]
      refine Bool.eq_iff_iff.mpr ?_
      rw [List.any_eq_true, List.any_eq_true]
      have same : ∀ z ∈ L, ((L.find? fun z' => z'.1 == z.1).map (·.2)).getD false = z.2 := fun z hz => by
        cases hf : L.find? (fun z' => z'.1 == z.1) with
        | none =>
          have := List.find?_eq_none.mp hf z hz
          simp at this
        | some z2 =>
          have m2 := List.mem_of_find?_eq_some hf
          have e3 : z2.1 = z.1 := by simpa using List.find?_some hf
          obtain ⟨y2, r2, d2⟩ := h z2 m2
          obtain ⟨y1, r1, d1⟩ := h z hz
          obtain ⟨a2, rfl⟩ := flat _ _ _ _ d2
          obtain ⟨a1, rfl⟩ := flat _ _ _ _ d1
          have u2 : z2.1 = Value.ref a2 := r2
          have u1 : z.1 = Value.ref a1 := r1
          rw [u2, u1] at e3
          injection e3 with e3
          subst e3
          exact one _ _ _ _ _ d2 d1
      constructor
      · rintro ⟨z, hz, q⟩
        exact ⟨z, hz, by have := same z hz; simp only [Function.comp] at q ⊢; rw [this] at q; exact q⟩
      · rintro ⟨z, hz, q⟩
        exact ⟨z, hz, by have := same z hz; simp only [Function.comp] at q ⊢; rw [this]; exact q⟩
  obtain ⟨e, h1, h2⟩ := ex
  refine MyO.in_tupJ e (fun s' => Inv X pins σ H s') pl I (fun w hw s' I' => ?_) (fun s' I' => ?_)
  · obtain ⟨y, b, ry, d, eb⟩ := h1 w (by simpa using hw)
    rw [eb]
    exact hD pins s' σ H y x w v b I' ry rx d
  · refine ⟨.bl (bs.any id), H, I', ?_, h⟩
    rw [show its.toArray.any e = its.any e by simp, h2]
    rfl
/-- x in a tuple of data -/
def rInDT (K : PySem.W.Frag) : R2 := fun x y H Q => ∃ d ds, Dp K H x d ∧ Dp K H y (.tuple ds) ∧ SeqAt.shaped d = true ∧ SeqAt.shaped (.list ds) = true ∧ Q (.bl (ds.any fun z => PyData.eqv z d)) H
theorem op_inDT (hu : X.A.units + 65 < cLine) : OpR X (compareOp .In) (rInDT X.K) := by
  intro pins s σ H x y v u Q I rx ry h
  obtain ⟨d, ds, hd, he, sd, se, q⟩ := h
  obtain ⟨as, r1⟩ := Dp.reads I d x v hd rx
  obtain ⟨bs, r2⟩ := Dp.reads I (.tuple ds) y u he ry
  exact SeqAt.in_tuple_reads r2 r1 (SeqAt.canLay_of_shaped se) (SeqAt.canLay_of_shaped sd) (room_in_shaped sd hu) ⟨.bl _, H, I, rfl, q⟩
/-- repr of a list or a tuple of data without dicts -/
theorem call_reprD (hg : X.A.guards = some []) (hu : X.A.units + 64 < cLine) : CallR X (.builtin "repr") (fun xs H Q => ∃ (a : Addr) (d : PyData), xs = [.ref a] ∧ Dp X.K H (.ref a) d ∧ d.hasDict = false ∧ Fine d ∧ Q (.str d.shown) H) := by
  intro pins s σ H xs us Q I r h
  obtain ⟨a, d, rfl, hd, nd, fine, q⟩ := h
  obtain ⟨u, rfl, ru⟩ := vals1 r
  cases ru
  obtain ⟨as, rd⟩ := Dp.reads I _ _ _ hd rfl
  refine repr_of_reads' rd fine.show_ (fun z => by rw [nd] at z; cases z) hg (by have := fine.deep; omega) (fun _ _ e => e) (fun h' u tk hk => ⟨.str d.shown, H, I.kept hk, ⟨u, rfl⟩, q⟩) fine.size
end
end My
namespace My
open PySem PySem.Spec PyProof.Rows L2
def topS (i : Nat) : Stmt := PySem.Challenge.pw_layerseen_k38_runs_and_normal_stacks.main.body.getD i (.Pass ⟨0, 0, 0, 0⟩)
abbrev sWhole : Stmt := topS 4
abbrev sAsc : Stmt := topS 6
abbrev sWord : Stmt := topS 21
abbrev sName : Stmt := topS 22
abbrev sCheck : Stmt := topS 23
abbrev sMeet1 : Stmt := topS 37
abbrev sChkH : Stmt := topS 41
abbrev sPairs : Stmt := topS 42
abbrev sCheckS : Stmt := topS 45
abbrev sLayers : Stmt := topS 47
abbrev sNormal : Stmt := topS 48
abbrev sManyIn : Stmt := topS 49
abbrev sRuns : Stmt := topS 50
abbrev sPen : Stmt := topS 52
abbrev sDraw : Stmt := topS 53
abbrev sPick : Stmt := topS 54
abbrev sMixed : Stmt := topS 55
abbrev sLet : Stmt := topS 56
abbrev sRows : Stmt := topS 57
abbrev sOne : Stmt := topS 58
abbrev sStackL : Stmt := topS 59
abbrev sSort : Stmt := topS 60
abbrev sPairsL : Stmt := topS 62
abbrev sNormalL : Stmt := topS 63
abbrev sAll : Stmt := topS 64
abbrev sRunsL : Stmt := topS 65
abbrev sProduct : Stmt := topS 66
abbrev sTold : Stmt := topS 67
abbrev sSmall : Stmt := topS 68
abbrev sLaw : Stmt := topS 69
structure Txt (mg : Str → Option Value) : Prop where
  int : mg "int" = none
  bool : mg "bool" = none
  len : mg "len" = none
  abs : mg "abs" = none
  list : mg "list" = none
  tuple : mg "tuple" = none
  dict : mg "dict" = none
  range : mg "range" = none
  isi : mg "isinstance" = none
  str : mg "str" = none
  all : mg "all" = none
  repr : mg "repr" = none
  any : mg "any" = none
  enum : mg "enumerate" = none
  set : mg "set" = none
  sorted : mg "sorted" = none
  ve : mg "ValueError" = none
theorem pe_never {X : Cx} {e : Expr} : PE X e (fun _ _ _ => False) := ⟨fun _ _ _ _ _ _ h => h.elim⟩
def Same' (H H' : Hp) : Prop := ∀ q o, H q = some o → H' q = some o
theorem Same'.trans {H1 H2 H3 : Hp} (h : Same' H1 H2) (k : Same' H2 H3) : Same' H1 H3 := fun b o e => k b o (h b o e)
theorem same_new {H : Hp} {p : Addr} {o : HO} (h : H p = none) : Same' H (upd H p o) := fun b x e => by
  rw [upd_ne (ne_of_none e h)]
  exact e
theorem same_over {H H1 : Hp} {p : Addr} {o : HO} (h : H p = none) (k : Same' H H1) : Same' H (upd H1 p o) := fun b x e => by
  rw [upd_ne (ne_of_none e h)]
  exact k _ _ e
end My
namespace My
open PySem PySem.Spec PyProof.Rows L2
/-! ### words and names, as they are said here -/
def low (c : Nat) : Bool := decide (97 ≤ c) && decide (c ≤ 122)
def wd (z : Str) : Bool := decide (1 ≤ z.length) && decide (z.length ≤ 8) && z.cps.toList.all low
def abc : Str := "abcdefghijklmnopqrstuvwxyz"
theorem low_abc (c : Nat) : decide (c ∈ abc.cps.toList) = low c := by
  have e : abc.cps.toList = [97, 98, 99, 100, 101, 102, 103, 104, 105, 106, 107, 108, 109, 110, 111, 112, 113, 114, 115, 116, 117, 118, 119, 120, 121, 122] := by decide +kernel
  rw [e]
  unfold low
  rw [← Bool.decide_and]
  apply decide_eq_decide.mpr
  simp only [List.mem_cons, List.not_mem_nil, or_false]
  omega
theorem sign_at {z : Str} {i : Nat} {c : Nat} (h : z.cps[i]? = some c) : z.cps.toList[i]? = some c := by simpa using h
/-- what is no text: None, a number, a truth, a tuple, a list, a dict -/
def NoText (K : PySem.W.Frag) (H : Hp) (x : V) : Prop := ∃ T : String, TyX K H x (.type T) ∧ kitB T "str" = some false
def spWord (K : PySem.W.Frag) (ans : Str → Bool) : Sp := fun vs H Q _ => ∃ x : V, vs = [x] ∧
  ((∃ z : Str, x = .str z ∧ z.length ≤ 1000 ∧ ∀ H', Same' H H' → Q (.bl (ans z)) H') ∨ (NoText K H x ∧ Q (.bl false) H))
def kept : List Str := ["put", "copy", "if", "else", "say", "fail", "catch", "choose", "or", "none", "stop", "skip", "cell", "log", "failure", "choice"]
def nm (z : Str) : Bool := wd z && !inV (.str z) (kept.map V.str)
section
variable {P : Program} {w : World} {K : PySem.W.Frag} {mg : Str → Option Value} {base : Heap}
abbrev nWord : List Str := ["value", "sign"]
theorem scWord : FnScope nWord ["value"] (defScope sWord) := ⟨rfl, rfl, rfl, by decide +kernel, rfl, by decide +kernel, by decide +kernel⟩
theorem ok_word {f : Addr} {fd : FuncData} {tl tn : Tok} (F : Fun K "is_word" "is_word" sWord f fd) (T : Txt mg) (mL : mg "LETTERS" = some (.str abc tl)) (mN : mg "LONGEST" = some (.int 8 tn)) : FnOk P w K mg base CX0 1 f fd ["value"] (spWord K wd) := by
  refine F.ok scWord (fun vs H Q E h => ?_) (fun cdv A outer s H vs Q E hr h => ?_)
  · obtain ⟨x, rfl, _⟩ := h
    rfl
  · obtain ⟨x, rfl, h⟩ := h
    refine ⟨_, pss_one (ps_ret (pe_and (pe_callB call_isi (by rfl) T.isi (by decide +kernel) (pa_cons (pv 0) (pa_cons (pe_bltn (by rfl) T.str (by decide +kernel) (show RelV (.ty "str") _ from rfl)) pa_nil)))
      (pe_and (pe_chain op_le op_le pe_int (pe_callB call_len_str (by rfl) T.len PySem.boot_len (pa_cons (pv 0) pa_nil)) (pe_glob (v := .int 8) rfl mN ⟨_, rfl⟩))
      (pe_one (pe_callB (cr_all rfl) (by rfl) T.all (by decide +kernel) (pa_cons
        (pe_lc (own := [("sign", 1)]) (g := gName 1) (tt := tYes) rfl scWord.nd (pi_str (pv 0)) (blkOk_by (N := nWord) (sc := defScope sWord) (by decide +kernel)) (fun _ _ _ _ _ => pg_name (i := 1) scWord.nd rfl (Or.inl rfl)) (fun _ _ _ _ _ => pts_nil)
          (fun _ _ _ _ _ => pe_cmpR op_in_sign (pv 1) (pe_glob (v := .str abc) rfl mL ⟨_, rfl⟩) rfl)) pa_nil)))))), ?_⟩
    refine ⟨x, rfl, ?_⟩
    rcases h with ⟨z, rfl, zl, q⟩ | ⟨⟨T, ty, kt⟩, q⟩
    · refine ⟨.str z, .ty "str", .type "str", .type "str", true, rfl, .ty "str", .base (.str z), kit_ty (by decide +kernel), true, rfl, iteT ?_⟩
      have zs : z.length < sizeLine := small1000 zl
      refine ⟨.str z, rfl, z, rfl, Nat.le_of_lt zs, 1, _, rfl, rfl, _, rfl, ite2 (fun e => ?_) (fun e => ?_)⟩
      · refine ⟨_, 8, rfl, rfl, _, rfl, ite2 (fun e2 => ?_) (fun e2 => ?_)⟩
        · have l1 := of_decide_eq_true e
          have l2 := of_decide_eq_true e2
          refine ⟨.str z, rfl, z, rfl, fun D hD => ?_⟩
          refine lc_it walk_str (fun i H' => Same' H H' ∧ H' D = some (.lst ((z.cps.toList.take i).map fun c => V.bl (low c)))) ⟨same_new hD, upd_same⟩ (fun _ _ _ _ => trivial) (fun i x H1 H2 hi hp hy => ?_) (fun H' hp => ?_)
          · obtain ⟨sm, ed⟩ := hp
            obtain ⟨rfl, c, hc, rfl⟩ := hy
            have hc' := sign_at hc
            refine ⟨rfl, ?_⟩
            refine ⟨_, rfl, c, abc, rfl, rfl, _, ed, ?_, same_over hD sm, ?_⟩
            · rw [List.length_map, List.length_take]
              exact Nat.lt_of_le_of_lt (Nat.min_le_right _ _) (by rw [Array.length_toList]; exact zs)
            · rw [upd_same, List.take_add_one, hc', low_abc, List.map_append]
              rfl
          · obtain ⟨sm, ed⟩ := hp
            refine ⟨D, z.cps.toList.map low, rfl, SqL.of ?_, ?_⟩
            · rw [ed, List.take_of_length_le (by rw [Array.length_toList]; exact Nat.le_refl _), List.map_map]
              rfl
            · have ez : (z.cps.toList.map low).all id = wd z := by
                unfold wd
                rw [decide_eq_true (show 1 ≤ z.length by omega), decide_eq_true (show z.length ≤ 8 by omega), List.all_map]
                rfl
              rw [ez]
              exact q _ sm
        · have ez : wd z = false := by
            have := of_decide_eq_false (Bool.eq_false_iff.mpr e2)
            unfold wd
            rw [decide_eq_false (show ¬ z.length ≤ 8 by omega), Bool.and_false, Bool.false_and]
          exact ez ▸ q H fun _ _ e => e
      · refine ⟨false, rfl, iteF ?_⟩
        have ez : wd z = false := by
          have := of_decide_eq_false (Bool.eq_false_iff.mpr e)
          unfold wd
          rw [decide_eq_false (show ¬ 1 ≤ z.length by omega), Bool.false_and, Bool.false_and]
        exact ez ▸ q H fun _ _ e => e
    · refine ⟨x, .ty "str", .type T, .type "str", false, rfl, .ty "str", ty, kit_ty kt, false, rfl, iteF q⟩
abbrev nName : List Str := ["value"]
theorem scName : FnScope nName ["value"] (defScope sName) := ⟨rfl, rfl, rfl, by decide +kernel, rfl, by decide +kernel, by decide +kernel⟩
theorem ok_name {f fW aK : Addr} {fd fdW : FuncData} (F : Fun K "is_name" "is_name" sName f fd) (FW : Fun K "is_word" "is_word" sWord fW fdW) (bW : Binds K fdW ["value"] []) (gW : mg "is_word" = some (.ref fW)) (G : FnOk P w K mg base CX0 1 fW fdW ["value"] (spWord K wd))
    (mK : mg "KEPT_WORDS" = some (.ref aK)) (hK : ∀ H, SqT K H aK (kept.map V.str)) : FnOk P w K mg base CX0 2 f fd ["value"] (spWord K nm) := by
  refine F.ok scName (fun vs H Q E h => ?_) (fun cdv A outer s H vs Q E hr h => ?_)
  · obtain ⟨x, rfl, _⟩ := h
    rfl
  · obtain ⟨x, rfl, h⟩ := h
    refine ⟨_, pss_one (ps_ret (pe_and (pe_call G hr (by rfl) gW FW.kp bW .nil pass0 (pa_cons (pv 0) pa_nil))
      (pe_one (pe_cmpR op_notIn_seq (pv 0) (pe_glob (v := .ref aK) rfl mK rfl) (by rfl))))), ?_⟩
    refine ⟨x, rfl, x, rfl, ?_⟩
    rcases h with ⟨z, rfl, zl, q⟩ | ⟨nt, q⟩
    · refine .inl ⟨z, rfl, zl, fun H' sm => ?_⟩
      cases hz : wd z with
      | true =>
        refine ⟨true, rfl, iteT ⟨.str z, rfl, aK, _, rfl, .inr (hK _), rfl, by decide +kernel, ?_⟩⟩
        have e : nm z = !inV (.str z) (kept.map V.str) := by
          unfold nm
          rw [hz, Bool.true_and]
        exact e ▸ q H' sm
      | false =>
        refine ⟨false, rfl, iteF ?_⟩
        have e : nm z = false := by
          unfold nm
          rw [hz, Bool.false_and]
        exact e ▸ q H' sm
    · exact .inr ⟨nt, false, rfl, iteF q⟩

end
end My
namespace My
open PySem PySem.Spec PyProof.Rows L2
/-! ### a name is looked at, and stands -/
def spCheck : Sp := fun vs H Q _ => ∃ z : Str, vs = [.str z] ∧ z.length ≤ 1000 ∧ nm z = true ∧ ∀ H', Same' H H' → Q .non H'
section
variable {P : Program} {w : World} {K : PySem.W.Frag} {mg : Str → Option Value} {base : Heap}
theorem scCheck : FnScope ["value"] ["value"] (defScope sCheck) := ⟨rfl, rfl, rfl, by decide +kernel, rfl, by decide +kernel, by decide +kernel⟩
theorem ok_check {f fN : Addr} {fd fdN : FuncData} (F : Fun K "check_name" "check_name" sCheck f fd) (FN : Fun K "is_name" "is_name" sName fN fdN) (bN : Binds K fdN ["value"] []) (gN : mg "is_name" = some (.ref fN)) (GN : FnOk P w K mg base CX0 2 fN fdN ["value"] (spWord K nm)) :
    FnOk P w K mg base CX0 3 f fd ["value"] spCheck := by
  refine F.ok scCheck (fun vs H Q E h => ?_) (fun cdv A outer s H vs Q E hr h => ?_)
  · obtain ⟨z, rfl, _⟩ := h
    rfl
  · obtain ⟨z, rfl, zl, hz, q⟩ := h
    refine ⟨_, pss_one (ps_if (pt_not (pt_val (pe_call GN hr (by rfl) gN FN.kp bN .nil pass0 (pa_cons (pv 0) pa_nil)))) (pss_one ps_never) pss_nil), ?_⟩
    refine ⟨.str z, rfl, .str z, rfl, .inl ⟨z, rfl, zl, fun H1 sm => ⟨nm z, rfl, ?_⟩⟩⟩
    rw [hz]
    exact iteF (q H1 sm)
end
end My
namespace My
open PySem PySem.Spec PyProof.Rows L2
abbrev sCellI : Stmt := inClass (topS 31) 3
abbrev sLogI : Stmt := inClass (topS 32) 1
abbrev sFailI : Stmt := inClass (topS 33) 1
abbrev sChoI : Stmt := inClass (topS 34) 1
/-- a handler class -/
structure HCls (K : PySem.W.Frag) (mg : Str → Option Value) (name : String) (C : Addr) : Prop where
  g : mg name = some (.ref C)
  c : Cls K C
  nn : NoAttr K C "name"
  ns : NoAttr K C "size"
def Keep1 (a : Addr) (H H' : Hp) : Prop := ∀ b o, b ≠ a → H b = some o → H' b = some o
def spWhole : Sp := fun vs H Q _ => ∃ i : Int, vs = [.int i] ∧ Q (.bl true) H
section
variable {P : Program} {w : World} {K : PySem.W.Frag} {mg : Str → Option Value} {base : Heap}
theorem scWhole : FnScope ["value"] ["value"] (defScope sWhole) := ⟨rfl, rfl, rfl, by decide +kernel, rfl, by decide +kernel, by decide +kernel⟩
theorem ok_whole {f : Addr} {fd : FuncData} (F : Fun K "is_whole" "is_whole" sWhole f fd) (T : Txt mg) : FnOk P w K mg base CX0 1 f fd ["value"] spWhole := by
  refine F.ok scWhole (fun vs H Q E h => ?_) (fun cdv A outer s H vs Q E hr h => ?_)
  · obtain ⟨i, rfl, _⟩ := h
    rfl
  · obtain ⟨i, rfl, q⟩ := h
    refine ⟨_, pss_one (ps_ret (pe_and (pe_callB call_isi (by rfl) T.isi (by decide +kernel) (pa_cons (pv 0) (pa_cons (pe_bltn (by rfl) T.int (by decide +kernel) (show RelV (.ty "int") _ from rfl)) pa_nil)))
      (pe_one (pe_not (pe_callB call_isi (by rfl) T.isi (by decide +kernel) (pa_cons (pv 0) (pa_cons (pe_bltn (by rfl) T.bool (by decide +kernel) (show RelV (.ty "bool") _ from rfl)) pa_nil))))))), ?_⟩
    refine ⟨.int i, rfl, .int i, .ty "int", .type "int", .type "int", true, rfl, .ty "int", .base (.int i), kit_ty (by decide +kernel), true, rfl, ?_⟩
    exact iteT ⟨.int i, rfl, .int i, .ty "bool", .type "int", .type "bool", false, rfl, .ty "bool", .base (.int i), kit_ty (by decide +kernel), false, rfl, q⟩
/-- Log(name), Failure(name) -/
def spNamed (C : Addr) : Sp := fun vs H Q _ => ∃ (a dx : Addr) (z : Str), vs = [.ref a, .str z] ∧ H a = some (.ins C dx []) ∧ z.length ≤ 1000 ∧ nm z = true ∧ ∀ H', Keep1 a H H' → H' a = some (.ins C dx [("name", .str z)]) → Q .non H'
theorem scLogI : FnScope ["self", "name"] ["self", "name"] (defScope sLogI) := ⟨rfl, rfl, rfl, by decide +kernel, rfl, by decide +kernel, by decide +kernel⟩
theorem scFailI : FnScope ["self", "name"] ["self", "name"] (defScope sFailI) := ⟨rfl, rfl, rfl, by decide +kernel, rfl, by decide +kernel, by decide +kernel⟩
theorem named_body {C : Addr} {nm' : String} (HC : HCls K mg nm' C) {vs : List V} {H : Hp} {Q : VK} {E E2 : XK} (h : spNamed C vs H Q E) :
    tDrop (tCall spCheck [] E2 (tCons (tVar 1) tNil)) { nx := fun σ H1 => sFld K (tVar 0) (tVar 1) "name" { nx := fun _ H' => Q .non H', rt := Q } σ H1, rt := Q } (start ["self", "name"] vs) H := by
  obtain ⟨a, dx, z, rfl, ha, zl, hz, q⟩ := h
  refine ⟨.str z, rfl, z, rfl, zl, hz, fun H1 sm => ?_⟩
  refine ⟨.str z, rfl, .ref a, rfl, a, C, dx, [], rfl, sm _ _ ha, HC.c, HC.nn, by decide, ?_⟩
  exact q _ (fun b o n e => by rw [upd_ne n]; exact sm b o e) upd_same
theorem ok_logI {f fCh C : Addr} {fd fdCh : FuncData} {nm' : String} (F : Fun K "__init__" "Log.__init__" sLogI f fd) (HC : HCls K mg nm' C) (FC : Fun K "check_name" "check_name" sCheck fCh fdCh) (bC : Binds K fdCh ["value"] []) (gC : mg "check_name" = some (.ref fCh)) (G : FnOk P w K mg base CX0 3 fCh fdCh ["value"] spCheck) :
    FnOk P w K mg base CX0 4 f fd ["self", "name"] (spNamed C) := by
  refine F.ok scLogI (fun vs H Q E h => ?_) (fun cdv A outer s H vs Q E hr h => ?_)
  · obtain ⟨a, dx, z, rfl, _⟩ := h
    rfl
  · exact ⟨_, pss_cons (ps_expr (pe_call G hr (by rfl) gC FC.kp bC .nil pass0 (pa_cons (pv 1) pa_nil))) (pss_one (ps_fld (pv 0) (pv 1) (by rfl))), named_body HC h⟩
theorem ok_failI {f fCh C : Addr} {fd fdCh : FuncData} {nm' : String} (F : Fun K "__init__" "Failure.__init__" sFailI f fd) (HC : HCls K mg nm' C) (FC : Fun K "check_name" "check_name" sCheck fCh fdCh) (bC : Binds K fdCh ["value"] []) (gC : mg "check_name" = some (.ref fCh)) (G : FnOk P w K mg base CX0 3 fCh fdCh ["value"] spCheck) :
    FnOk P w K mg base CX0 4 f fd ["self", "name"] (spNamed C) := by
  refine F.ok scFailI (fun vs H Q E h => ?_) (fun cdv A outer s H vs Q E hr h => ?_)
  · obtain ⟨a, dx, z, rfl, _⟩ := h
    rfl
  · exact ⟨_, pss_cons (ps_expr (pe_call G hr (by rfl) gC FC.kp bC .nil pass0 (pa_cons (pv 1) pa_nil))) (pss_one (ps_fld (pv 0) (pv 1) (by rfl))), named_body HC h⟩
/-- Choice() -/
def spChoI (C : Addr) : Sp := fun vs H Q _ => ∃ (a dx : Addr), vs = [.ref a] ∧ H a = some (.ins C dx []) ∧ ∀ H', Keep1 a H H' → H' a = some (.ins C dx [("name", .str "choice")]) → Q .non H'
theorem scChoI : FnScope ["self"] ["self"] (defScope sChoI) := ⟨rfl, rfl, rfl, by decide +kernel, rfl, by decide +kernel, by decide +kernel⟩
theorem ok_choI {f C : Addr} {fd : FuncData} {nm' : String} (F : Fun K "__init__" "Choice.__init__" sChoI f fd) (HC : HCls K mg nm' C) : FnOk P w K mg base CX0 1 f fd ["self"] (spChoI C) := by
  refine F.ok scChoI (fun vs H Q E h => ?_) (fun cdv A outer s H vs Q E hr h => ?_)
  · obtain ⟨a, dx, rfl, _⟩ := h
    rfl
  · obtain ⟨a, dx, rfl, ha, q⟩ := h
    refine ⟨_, pss_one (ps_fld (pv 0) pe_str (by rfl)), .ref a, rfl, a, C, dx, [], rfl, ha, HC.c, HC.nn, by decide, ?_⟩
    exact q _ (fun b o n e => by rw [upd_ne n]; exact e) upd_same
/-- Cell(name, size) -/
def spCellI (C : Addr) : Sp := fun vs H Q _ => ∃ (a dx : Addr) (z : Str) (i : Int), vs = [.ref a, .str z, .int i] ∧ H a = some (.ins C dx []) ∧ z.length ≤ 1000 ∧ nm z = true ∧ 2 ≤ i ∧ i ≤ 4 ∧
  ∀ H', Keep1 a H H' → H' a = some (.ins C dx [("name", .str z), ("size", .int i)]) → Q .non H'
theorem scCellI : FnScope ["self", "name", "size"] ["self", "name", "size"] (defScope sCellI) := ⟨rfl, rfl, rfl, by decide +kernel, rfl, by decide +kernel, by decide +kernel⟩
theorem ok_cellI {f fCh fW C : Addr} {fd fdCh fdW : FuncData} {mc : Value} {u2 u4 : Value} (F : FunD K "__init__" "Cell.__init__" (defArgs sCellI) (defBody sCellI) (defScope sCellI) [.int 2] [] f fd) (HC : HCls K mg "Cell" C) (FC : Fun K "check_name" "check_name" sCheck fCh fdCh) (bC : Binds K fdCh ["value"] []) (gC : mg "check_name" = some (.ref fCh)) (G : FnOk P w K mg base CX0 3 fCh fdCh ["value"] spCheck)
    (FW : Fun K "is_whole" "is_whole" sWhole fW fdW) (bW : Binds K fdW ["value"] []) (gW : mg "is_whole" = some (.ref fW)) (GW : FnOk P w K mg base CX0 1 fW fdW ["value"] spWhole)
    (rd : ClX.CRead K C mc) (v2 : ClX.CVal K C mc "LEAST" (.int 2) u2) (v4 : ClX.CVal K C mc "MOST" (.int 4) u4) :
    FnOk P w K mg base CX0 4 f fd ["self", "name", "size"] (spCellI C) := by
  refine F.ok scCellI (fun vs H Q E h => ?_) (fun cdv A outer s H vs Q E hr h => ?_)
  · obtain ⟨a, dx, z, i, rfl, _⟩ := h
    rfl
  · obtain ⟨a, dx, z, i, rfl, ha, zl, hz, i2, i4, q⟩ := h
    refine ⟨_, pss_cons (ps_expr (pe_call G hr (by rfl) gC FC.kp bC .nil pass0 (pa_cons (pv 1) pa_nil)))
      (pss_cons (ps_if (PW.pt (pw_or (pt_not (pt_val (pe_call GW (hr.mono (by decide)) (by rfl) gW FW.kp bW .nil pass0 (pa_cons (pv 2) pa_nil))))
          (pw_or1 (pt_not (pt_chain op_le op_le (ClX.pe_cval (pe_glob (v := .ref C) rfl HC.g rfl)) (pv 2) (ClX.pe_cval (pe_glob (v := .ref C) rfl HC.g rfl)))))))
        (pss_one ps_never) pss_nil)
      (pss_cons (ps_fld (pv 0) (pv 1) (by rfl)) (pss_one (ps_fld (pv 0) (pv 2) (by rfl))))), ?_⟩
    refine ⟨.str z, rfl, z, rfl, zl, hz, fun H1 sm => ?_⟩
    refine ⟨.int i, rfl, i, rfl, true, rfl, ?_⟩
    refine iteF ⟨C, mc, .int 2, _, rfl, rd, v2, .int i, rfl, 2, i, rfl, rfl, _, rfl, ite2 (fun e => ?_) (fun e => absurd (decide_eq_true i2) e)⟩
    refine ⟨C, mc, .int 4, _, rfl, rd, v4, i, 4, rfl, rfl, _, rfl, ite2 (fun e2 => ?_) (fun e2 => ?_)⟩
    · rw [Bool.not_eq_true', decide_eq_true i4] at e2
      cases e2
    · refine ⟨.str z, rfl, .ref a, rfl, a, C, dx, [], rfl, sm _ _ ha, HC.c, HC.nn, by decide, ?_⟩
      refine ⟨.int i, rfl, .ref a, rfl, a, C, dx, [("name", .str z)], rfl, upd_same, HC.c, HC.ns, by show 1 < 1000; decide, ?_⟩
      exact q _ (fun b o n e => by rw [upd_ne n, upd_ne n]; exact sm b o e) upd_same
end
end My
namespace My
open PySem PySem.Spec PyProof.Rows L2
/-! ### handlers as they lie -/
theorem len_app (x y : Str) : (x ++ y).length = x.length + y.length := by
  show (x.cps ++ y.cps).size = x.cps.size + y.cps.size
  simp
structure A4 where
  c : Addr
  l : Addr
  f : Addr
  h : Addr
def A4.at (A : A4) : Nat → Addr
  | 0 => A.c
  | 1 => A.l
  | 2 => A.f
  | _ => A.h
inductive HD where
  | cell (n : Str) (z : Int)
  | log (n : Str)
  | fail (n : Str)
  | cho
  deriving DecidableEq
def HD.ix : HD → Nat
  | .cell _ _ => 0
  | .log _ => 1
  | .fail _ => 2
  | .cho => 3
def HD.nm : HD → Str
  | .cell n _ => n
  | .log n => n
  | .fail n => n
  | .cho => "choice"
def HD.wd : HD → Str
  | .cell _ _ => "cell"
  | .log _ => "log"
  | .fail _ => "failure"
  | .cho => "choice"
def HD.flds : HD → List (Str × V)
  | .cell n z => [("name", .str n), ("size", .int z)]
  | .log n => [("name", .str n)]
  | .fail n => [("name", .str n)]
  | .cho => [("name", .str "choice")]
def IsH (A : A4) (H : Hp) (a : Addr) (k : HD) : Prop := ∃ dx, H a = some (.ins (A.at k.ix) dx k.flds)
/-- what is no handler -/
def NotH (K : PySem.W.Frag) (A : A4) (H : Hp) (y : V) : Prop := ∃ S : String, TyX K H y (.type S) ∧ ∀ i, i < 4 → PySem.W.kitOne K (.type S) (.ref (A.at i)) = some false ∧ PySem.W.notFirst K (A.at i) (.type S) = true
def Other (K : PySem.W.Frag) (A : A4) (H : Hp) (y : V) (k : HD) (r : Bool) : Prop := (∃ b k2, y = .ref b ∧ IsH A H b k2 ∧ r = decide (k = k2)) ∨ (NotH K A H y ∧ r = false)
structure Hand (K : PySem.W.Frag) (mg : Str → Option Value) (A : A4) : Prop where
  cC : HCls K mg "Cell" A.c
  cL : HCls K mg "Log" A.l
  cF : HCls K mg "Failure" A.f
  cH : HCls K mg "Choice" A.h
  dc : ∀ i, i < 4 → PySem.W.findIn K (.ref (A.at i)) "__class__" = some (some (.builtin "object.__class__"))
  mo : ∀ i, i < 4 → PySem.W.mroIn K (A.at i) (.type "object") = some true
  hn : PySem.W.specialIn K (.builtin "object.__class__") "__get__" = some (some (.builtin "getset_descriptor.__get__"))
  tk : PySem.W.takesIn K (.builtin "object.__class__") = some true
  kit : ∀ i j, i < 4 → j < 4 → PySem.W.kitOne K (.ref (A.at i)) (.ref (A.at j)) = some (decide (i = j))
theorem Hand.cls {K : PySem.W.Frag} {mg : Str → Option Value} {A : A4} (S : Hand K mg A) : ∀ k : HD, Cls K (A.at k.ix) ∧ NoAttr K (A.at k.ix) "name" ∧ NoAttr K (A.at k.ix) "size"
  | .cell _ _ => ⟨S.cC.c, S.cC.nn, S.cC.ns⟩
  | .log _ => ⟨S.cL.c, S.cL.nn, S.cL.ns⟩
  | .fail _ => ⟨S.cF.c, S.cF.nn, S.cF.ns⟩
  | .cho => ⟨S.cH.c, S.cH.nn, S.cH.ns⟩
theorem HD.ix_lt : ∀ k : HD, k.ix < 4
  | .cell _ _ => (by decide : 0 < 4)
  | .log _ => (by decide : 1 < 4)
  | .fail _ => (by decide : 2 < 4)
  | .cho => (by decide : 3 < 4)
theorem Hand.ty {K : PySem.W.Frag} {mg : Str → Option Value} {A : A4} (S : Hand K mg A) {H : Hp} {a : Addr} {k : HD} (h : IsH A H a k) : TyX K H (.ref a) (.ref (A.at k.ix)) := by
  obtain ⟨dx, e⟩ := h
  exact .base (.ins e (S.cls k).1 (S.dc _ k.ix_lt) S.hn S.tk (S.mo _ k.ix_lt))
theorem IsH.fun {A : A4} {H : Hp} {a : Addr} {k : HD} (h : IsH A H a k) {H' : Hp} (e : H' a = H a) : IsH A H' a k := by
  obtain ⟨dx, q⟩ := h
  exact ⟨dx, e.trans q⟩
theorem IsH.keep {A : A4} {H H' : Hp} {a : Addr} {k : HD} (h : IsH A H a k) (sm : Same' H H') : IsH A H' a k := by
  obtain ⟨dx, q⟩ := h
  exact ⟨dx, sm _ _ q⟩
abbrev sCellE : Stmt := inClass (topS 31) 4
abbrev sLogE : Stmt := inClass (topS 32) 2
abbrev sFailE : Stmt := inClass (topS 33) 2
abbrev sChoE : Stmt := inClass (topS 34) 2
def spEq (K : PySem.W.Frag) (A : A4) (i : Nat) : Sp := fun vs H Q _ => ∃ (a : Addr) (k : HD) (y : V) (r : Bool), vs = [.ref a, y] ∧ k.ix = i ∧ IsH A H a k ∧ Other K A H y k r ∧ Q (.bl r) H
section
variable {P : Program} {w : World} {K : PySem.W.Frag} {mg : Str → Option Value} {base : Heap} {A4' : A4}
abbrev nEq : List Str := ["self", "other"]
theorem scCellE : FnScope nEq nEq (defScope sCellE) := ⟨rfl, rfl, rfl, by decide +kernel, rfl, by decide +kernel, by decide +kernel⟩
theorem scLogE : FnScope nEq nEq (defScope sLogE) := ⟨rfl, rfl, rfl, by decide +kernel, rfl, by decide +kernel, by decide +kernel⟩
theorem scFailE : FnScope nEq nEq (defScope sFailE) := ⟨rfl, rfl, rfl, by decide +kernel, rfl, by decide +kernel, by decide +kernel⟩
theorem scChoE : FnScope nEq nEq (defScope sChoE) := ⟨rfl, rfl, rfl, by decide +kernel, rfl, by decide +kernel, by decide +kernel⟩
/-- isinstance(other, C), C the class of self -/
theorem other_kit {A : A4} {H : Hp} {y : V} {k : HD} {r : Bool} (S : Hand K mg A) (h : Other K A H y k r) : ∃ (t : Value) (b : Bool), TyX K H y t ∧ PySem.W.kitOne K t (.ref (A.at k.ix)) = some b ∧ (b = true → ∃ c k2, y = .ref c ∧ IsH A H c k2 ∧ k2.ix = k.ix ∧ r = decide (k = k2)) ∧ (b = false → r = false) := by
  rcases h with ⟨c, k2, rfl, h2, e⟩ | ⟨⟨T, ty, kk⟩, e⟩
  · refine ⟨_, _, S.ty h2, S.kit _ _ k2.ix_lt k.ix_lt, fun z => ⟨c, k2, rfl, h2, of_decide_eq_true z, e⟩, fun z => ?_⟩
    rw [e, decide_eq_false]
    intro q
    exact absurd (by rw [q]) (of_decide_eq_false z)
  · exact ⟨_, _, ty, (kk _ k.ix_lt).1, (fun z => nomatch z), fun _ => e⟩
theorem ok_eqCell {A : A4} {f : Addr} {fd : FuncData} (F : Fun K "__eq__" "Cell.__eq__" sCellE f fd) (S : Hand K mg A) (T : Txt mg) : FnOk P w K mg base CX0 1 f fd nEq (spEq K A 0) := by
  refine F.ok scCellE (fun vs H Q E h => ?_) (fun cdv A0 outer s H vs Q E hr h => ?_)
  · obtain ⟨a, k, y, r, rfl, _⟩ := h
    rfl
  · obtain ⟨a, k, y, r, rfl, hk, ha, o, q⟩ := h
    refine ⟨_, pss_one (ps_ret (pe_and (pe_callB call_isi (by rfl) T.isi (by decide +kernel) (pa_cons (pv 1) (pa_cons (pe_glob (v := .ref A.c) rfl S.cC.g rfl) pa_nil)))
      (pe_and (pe_cmpR op_eq (pe_fld (pv 0) (by rfl)) (pe_fld (pv 1) (by rfl)) (nomark _)) (pe_one (pe_cmpR op_eq (pe_fld (pv 0) (by rfl)) (pe_fld (pv 1) (by rfl)) (nomark _)))))), ?_⟩
    obtain ⟨t, b, ty, kt, h1, h2⟩ := other_kit S o
    rw [hk] at kt
    refine ⟨y, rfl, y, .ref A.c, t, .ref A.c, b, rfl, .own _, ty, kt, b, rfl, ?_⟩
    cases b with
    | false => exact iteF (h2 rfl ▸ q)
    | true =>
      obtain ⟨c, k2, rfl, hc, e2, er⟩ := h1 rfl
      obtain ⟨c1, c2, c3⟩ := S.cls k
      cases k with
      | cell n z =>
        cases k2 with
        | cell n2 z2 =>
          obtain ⟨dx, ea⟩ := ha
          obtain ⟨dx2, ec⟩ := hc
          refine iteT ⟨.ref a, rfl, a, _, dx, _, .str n, rfl, ea, c1, c2, rfl, .ref c, rfl, c, _, dx2, _, .str n2, rfl, ec, c1, c2, rfl, rfl, decide (V.str n = V.str n2), rfl, ite2 (fun e => ?_) (fun e => ?_)⟩
          · refine ⟨.ref a, rfl, a, _, dx, _, .int z, rfl, ea, c1, c3, rfl, .ref c, rfl, c, _, dx2, _, .int z2, rfl, ec, c1, c3, rfl, rfl, ?_⟩
            have en : n = n2 := by simpa using e
            have er' : r = decide (V.int z = V.int z2) := by
              rw [er, en]
              simp
            exact er' ▸ q
          · have er' : r = false := by
              have en : n ≠ n2 := by simpa using e
              rw [er]
              simp [en]
            exact er' ▸ q
        | _ => cases e2
      | _ => cases hk
theorem ok_eqLog {A : A4} {f : Addr} {fd : FuncData} (F : Fun K "__eq__" "Log.__eq__" sLogE f fd) (S : Hand K mg A) (T : Txt mg) : FnOk P w K mg base CX0 1 f fd nEq (spEq K A 1) := by
  refine F.ok scLogE (fun vs H Q E h => ?_) (fun cdv A0 outer s H vs Q E hr h => ?_)
  · obtain ⟨a, k, y, r, rfl, _⟩ := h
    rfl
  · obtain ⟨a, k, y, r, rfl, hk, ha, o, q⟩ := h
    refine ⟨_, pss_one (ps_ret (pe_and (pe_callB call_isi (by rfl) T.isi (by decide +kernel) (pa_cons (pv 1) (pa_cons (pe_glob (v := .ref A.l) rfl S.cL.g rfl) pa_nil)))
      (pe_one (pe_cmpR op_eq (pe_fld (pv 0) (by rfl)) (pe_fld (pv 1) (by rfl)) (nomark _))))), ?_⟩
    obtain ⟨t, b, ty, kt, h1, h2⟩ := other_kit S o
    rw [hk] at kt
    refine ⟨y, rfl, y, .ref A.l, t, .ref A.l, b, rfl, .own _, ty, kt, b, rfl, ?_⟩
    cases b with
    | false => exact iteF (h2 rfl ▸ q)
    | true =>
      obtain ⟨c, k2, rfl, hc, e2, er⟩ := h1 rfl
      obtain ⟨c1, c2, c3⟩ := S.cls k
      cases k with
      | log n =>
        cases k2 with
        | log n2 =>
          obtain ⟨dx, ea⟩ := ha
          obtain ⟨dx2, ec⟩ := hc
          have er' : r = decide (V.str n = V.str n2) := by
            rw [er]
            simp
          exact iteT ⟨.ref a, rfl, a, _, dx, _, .str n, rfl, ea, c1, c2, rfl, .ref c, rfl, c, _, dx2, _, .str n2, rfl, ec, c1, c2, rfl, rfl, er' ▸ q⟩
        | _ => cases e2
      | _ => cases hk
theorem ok_eqFail {A : A4} {f : Addr} {fd : FuncData} (F : Fun K "__eq__" "Failure.__eq__" sFailE f fd) (S : Hand K mg A) (T : Txt mg) : FnOk P w K mg base CX0 1 f fd nEq (spEq K A 2) := by
  refine F.ok scFailE (fun vs H Q E h => ?_) (fun cdv A0 outer s H vs Q E hr h => ?_)
  · obtain ⟨a, k, y, r, rfl, _⟩ := h
    rfl
  · obtain ⟨a, k, y, r, rfl, hk, ha, o, q⟩ := h
    refine ⟨_, pss_one (ps_ret (pe_and (pe_callB call_isi (by rfl) T.isi (by decide +kernel) (pa_cons (pv 1) (pa_cons (pe_glob (v := .ref A.f) rfl S.cF.g rfl) pa_nil)))
      (pe_one (pe_cmpR op_eq (pe_fld (pv 0) (by rfl)) (pe_fld (pv 1) (by rfl)) (nomark _))))), ?_⟩
    obtain ⟨t, b, ty, kt, h1, h2⟩ := other_kit S o
    rw [hk] at kt
    refine ⟨y, rfl, y, .ref A.f, t, .ref A.f, b, rfl, .own _, ty, kt, b, rfl, ?_⟩
    cases b with
    | false => exact iteF (h2 rfl ▸ q)
    | true =>
      obtain ⟨c, k2, rfl, hc, e2, er⟩ := h1 rfl
      obtain ⟨c1, c2, c3⟩ := S.cls k
      cases k with
      | fail n =>
        cases k2 with
        | fail n2 =>
          obtain ⟨dx, ea⟩ := ha
          obtain ⟨dx2, ec⟩ := hc
          have er' : r = decide (V.str n = V.str n2) := by
            rw [er]
            simp
          exact iteT ⟨.ref a, rfl, a, _, dx, _, .str n, rfl, ea, c1, c2, rfl, .ref c, rfl, c, _, dx2, _, .str n2, rfl, ec, c1, c2, rfl, rfl, er' ▸ q⟩
        | _ => cases e2
      | _ => cases hk
theorem ok_eqCho {A : A4} {f : Addr} {fd : FuncData} (F : Fun K "__eq__" "Choice.__eq__" sChoE f fd) (S : Hand K mg A) (T : Txt mg) : FnOk P w K mg base CX0 1 f fd nEq (spEq K A 3) := by
  refine F.ok scChoE (fun vs H Q E h => ?_) (fun cdv A0 outer s H vs Q E hr h => ?_)
  · obtain ⟨a, k, y, r, rfl, _⟩ := h
    rfl
  · obtain ⟨a, k, y, r, rfl, hk, ha, o, q⟩ := h
    refine ⟨_, pss_one (ps_ret (pe_callB call_isi (by rfl) T.isi (by decide +kernel) (pa_cons (pv 1) (pa_cons (pe_glob (v := .ref A.h) rfl S.cH.g rfl) pa_nil)))), ?_⟩
    obtain ⟨t, b, ty, kt, h1, h2⟩ := other_kit S o
    rw [hk] at kt
    refine ⟨y, rfl, y, .ref A.h, t, .ref A.h, b, rfl, .own _, ty, kt, ?_⟩
    cases b with
    | false => exact h2 rfl ▸ q
    | true =>
      obtain ⟨c, k2, rfl, hc, e2, er⟩ := h1 rfl
      cases k with
      | cho =>
        cases k2 with
        | cho => exact (show r = true from by rw [er]; rfl) ▸ q
        | _ => cases e2
      | _ => cases hk
end
end My
namespace My
open PySem PySem.Spec PyProof.Rows L2
/-! ### the pen: a list of a list of ints, of how many were taken, of what is left of a great one -/
structure PenAt (H : Hp) (p c : Addr) (ns : List Int) (B : Int) : Prop where
  pen : ∃ b g : Int, H p = some (.lst [.ref c, .int b, .int g]) ∧ 0 ≤ b ∧ b ≤ B ∧ 0 ≤ g
  cells : H c = some (.lst (ns.map V.int))
  few : ns.length ≤ 63
def Off (p : Addr) (H H' : Hp) : Prop := ∀ q o, q ≠ p → H q = some o → H' q = some o
theorem Off.trans {p : Addr} {H1 H2 H3 : Hp} (h : Off p H1 H2) (k : Off p H2 H3) : Off p H1 H3 := fun q o n e => k q o n (h q o n e)
theorem Off.rfl' {p : Addr} {H : Hp} : Off p H H := fun _ _ _ e => e
theorem Off.new {p a : Addr} {H : Hp} {o : HO} (h : H a = none) : Off p H (upd H a o) := fun q _ _ e => by
  rw [upd_ne (ne_of_none e h)]
  exact e
theorem PenAt.ne {H : Hp} {p c : Addr} {ns : List Int} {B : Int} (P : PenAt H p c ns B) : c ≠ p := by
  obtain ⟨b, g, e, _⟩ := P.pen
  intro z
  have y := P.cells
  rw [z, e] at y
  injection y with y
  injection y with y
  cases ns with
  | nil => cases y
  | cons x r => injection y with y1 y2; cases y1
theorem PenAt.more {H : Hp} {p c : Addr} {ns : List Int} {B C : Int} (P : PenAt H p c ns B) (h : B ≤ C) : PenAt H p c ns C := by
  obtain ⟨b, g, e, h1, h2, h3⟩ := P.pen
  exact ⟨⟨b, g, e, h1, by omega, h3⟩, P.cells, P.few⟩
theorem PenAt.keep {H H' : Hp} {p c : Addr} {ns : List Int} {B : Int} (P : PenAt H p c ns B) (h : ∀ q o, H q = some o → H' q = some o) : PenAt H' p c ns B := by
  obtain ⟨b, g, e, h1, h2, h3⟩ := P.pen
  exact ⟨⟨b, g, h _ _ e, h1, h2, h3⟩, h _ _ P.cells, P.few⟩

/-! ### numbers -/
theorem fm {x m : Int} (h : 0 < m) : 0 ≤ x.fmod m ∧ x.fmod m < m := by
  rw [Int.fmod_eq_emod_of_nonneg _ (by omega)]
  exact ⟨Int.emod_nonneg _ (by omega), Int.emod_lt_of_pos _ h⟩
theorem fd0 {x m : Int} (h : 0 < m) (hx : 0 ≤ x) : 0 ≤ x.fdiv m := by
  rw [Int.fdiv_eq_ediv_of_nonneg _ (by omega)]
  exact Int.ediv_nonneg hx (by omega)
theorem mulB {x y a b : Int} (h0 : 0 ≤ x) (h1 : x ≤ a) (k0 : 0 ≤ y) (k1 : y ≤ b) : 0 ≤ x * y ∧ x * y ≤ a * b :=
  ⟨Int.mul_nonneg h0 k0, Int.mul_le_mul h1 k1 k0 (by omega)⟩
theorem nz1 : (2147483629 : Int) ≠ 0 := by decide
theorem nz2 : (2147483543 : Int) ≠ 0 := by decide
theorem nz3 : (2147483423 : Int) ≠ 0 := by decide
theorem natAbs_lt {x : Int} (h0 : 0 ≤ x) (h1 : x < 18446744073709551616) : x.natAbs < 2 ^ 64 := by
  show x.natAbs < 18446744073709551616
  omega
theorem dpInts {K : PySem.W.Frag} {H : Hp} : ∀ ns : List Int, DpAll K H (ns.map V.int) (ns.map PyData.int)
  | [] => .nil
  | _ :: r => .cons (.int _) (dpInts r)
theorem shaped_ints : ∀ ns : List Int, SeqAt.shaped (.list (ns.map PyData.int)) = true
  | [] => rfl
  | _ :: r => shaped_ints r

theorem at_in {xs : List V} {j : Int} (h0 : 0 ≤ j) (h1 : j < (xs.length : Nat)) : ∃ v, v ∈ xs ∧ atI xs j = some v := by
  obtain ⟨k, rfl⟩ : ∃ k : Nat, j = (k : Int) := ⟨j.toNat, by omega⟩
  have hk : k < xs.length := by omega
  exact ⟨xs[k], List.getElem_mem hk, atI_nat (List.getElem?_eq_getElem hk)⟩
/-! ### the draw -/
def spDraw : Sp := fun vs H Q _ => ∃ (p c : Addr) (ns : List Int) (B m : Int), vs = [.ref p, .int m] ∧ PenAt H p c ns B ∧ B ≤ 2000 ∧ 1 ≤ m ∧ m ≤ 1000 ∧
  ∀ (d : Int) (H' : Hp), 0 ≤ d → d < m → PenAt H' p c ns (B + 1) → Off p H H' → Q (.int d) H'
section
variable {P : Program} {w : World} {K : PySem.W.Frag} {mg : Str → Option Value} {base : Heap}
abbrev nDraw : List Str := ["_law_pen_here", "_law_many", "_law_digit", "_law_at", "_law_cell", "_law_great", "_law_mixed_here"]
theorem scDraw : FnScope nDraw ["_law_pen_here", "_law_many"] (defScope sDraw) := ⟨rfl, rfl, rfl, by decide +kernel, rfl, by decide +kernel, by decide +kernel⟩
theorem tail2 {f : Addr} {cdv : Value} {A : Around} {outer : List Env} {s : Shared} {H0 : Hp} {E : XK} (T : Txt mg) :
    ∃ t, PSs (cxOf CX0 P w K mg base nDraw "_law_draw" (defScope sDraw) f cdv A outer s H0 E).nox ((defBody sDraw).drop 6) t ∧
      ∀ (Q : VK) (nx : L2.St → Hp → Prop) (p : Addr) (m b raw : Int) (y2 y5 y6 : Option V) (H : Hp), 0 ≤ b → b ≤ 2000 → 1 ≤ m → (∀ d : Int, 0 ≤ d → d < m → Q (.int d) H) →
        t { nx := nx, rt := Q } [some (.ref p), some (.int m), y2, some (.int b), some (.int raw), y5, y6] H := by
  refine ⟨_, pss_cons (ps_set (i := 6) scDraw.nd rfl (.inl rfl) (pe_op op_modN (pe_callTy call_int1 (by rfl) T.int (by decide +kernel) (pa_cons (pe_op op_pow
          (pe_op op_add (pe_op op_add (pe_op op_modN (pe_callTy call_int1 (by rfl) T.int (by decide +kernel) (pa_cons (pv 4) pa_nil)) pe_int) (pe_op op_mul pe_int (pv 3))) pe_int) pe_int) pa_nil)) pe_int))
      (pss_cons (ps_set (i := 6) scDraw.nd rfl (.inl rfl) (pe_op op_modN (pe_callTy call_int1 (by rfl) T.int (by decide +kernel) (pa_cons (pe_op op_pow
          (pe_op op_add (pe_op op_add (pe_op op_mul (pv 6) (pe_op op_add (pe_op op_mul pe_int (pv 3)) pe_int)) (pe_op op_mul (pe_op op_mul pe_int (pv 3)) (pv 3))) pe_int) pe_int) pa_nil)) pe_int))
      (pss_one (ps_ret (pe_op op_modN (pe_callTy call_int1 (by rfl) T.int (by decide +kernel) (pa_cons (pe_op op_fdivN (pv 6) pe_int) pa_nil)) (pv 1))))), ?_⟩
  intro Q nx p m b raw y2 y5 y6 H b0 bB hm q
  have f1 := fm (x := raw) (m := 2147483629) (by decide)
  refine ⟨.int raw, rfl, .inl ⟨raw, rfl, raw, _, rfl, rfl, nz1, .int b, rfl, _, b, rfl, rfl, .inl ⟨by decide, by decide⟩, _, _, rfl, rfl, _, _, rfl, rfl, _, 5, rfl, rfl, ⟨by decide, by decide, natAbs_lt (by omega) (by omega)⟩, .inl ⟨_, rfl, _, _, rfl, rfl, nz2, ?_⟩⟩⟩
  obtain ⟨z, hz⟩ : ∃ z : Int, ((raw.fmod 2147483629 + 30262 * b + 408) ^ (5 : Int).toNat).fmod 2147483543 = z := ⟨_, rfl⟩
  have f2 := fm (x := ((raw.fmod 2147483629 + 30262 * b + 408) ^ (5 : Int).toNat)) (m := 2147483543) (by decide)
  rw [hz] at f2
  have f3 := mulB (x := z) (y := 2 * b + 23) (a := 2147483543) (b := 4000 + 23) f2.1 (by omega) (by omega) (by omega)
  have f4 := mulB (x := 40300 * b) (y := b) (a := 40300 * 2000) (b := 2000) (by omega) (by omega) b0 bB
  refine ⟨.int z, by rw [← hz]; rfl, .int b, rfl, 2, b, rfl, rfl, .inl ⟨by decide, by decide⟩, _, _, rfl, rfl, z, _, rfl, rfl, .inl ⟨by omega, by omega⟩, .int b, rfl, _, b, rfl, rfl, .inl ⟨by decide, by decide⟩, .int b, rfl, _, b, rfl, rfl, .inl ⟨by omega, by omega⟩, _, _, rfl, rfl, _, _, rfl, rfl, _, 3, rfl, rfl, ⟨by decide, by decide, natAbs_lt (by omega) (by omega)⟩, .inl ⟨_, rfl, _, _, rfl, rfl, nz3, ?_⟩⟩
  obtain ⟨v, hv⟩ : ∃ v : Int, ((z * (2 * b + 23) + 40300 * b * b + 18) ^ (3 : Int).toNat).fmod 2147483423 = v := ⟨_, rfl⟩
  refine ⟨.int v, by rw [← hv]; rfl, v, 32, rfl, rfl, ⟨by decide, by decide⟩, .inl ⟨_, rfl, .int m, rfl, _, m, rfl, rfl, by omega, ?_⟩⟩
  exact q _ (fm (by omega)).1 (fm (by omega)).2
theorem tail1 {f : Addr} {cdv : Value} {A : Around} {outer : List Env} {s : Shared} {H0 : Hp} {E : XK} (T : Txt mg) :
    ∃ t, PSs (cxOf CX0 P w K mg base nDraw "_law_draw" (defScope sDraw) f cdv A outer s H0 E).nox ((defBody sDraw).drop 5) t ∧
      ∀ (Q : VK) (nx : L2.St → Hp → Prop) (p c : Addr) (ns : List Int) (m b b1 g raw : Int) (y2 y5 y6 : Option V) (H : Hp), H p = some (.lst [.ref c, .int b1, .int g]) → H c = some (.lst (ns.map V.int)) → 0 ≤ b → b ≤ 2000 → 0 ≤ g → 1 ≤ m → m ≤ 1000 →
        (∀ (d : Int) (H' : Hp), 0 ≤ d → d < m → (∃ g' : Int, 0 ≤ g' ∧ H' p = some (.lst [.ref c, .int b1, .int g'])) → Off p H H' → Q (.int d) H') →
        t { nx := nx, rt := Q } [some (.ref p), some (.int m), y2, some (.int b), some (.int raw), y5, y6] H := by
  obtain ⟨t2, h2, q2⟩ := tail2 (P := P) (w := w) (K := K) (base := base) (f := f) (cdv := cdv) (A := A) (outer := outer) (s := s) (H0 := H0) (E := E) T
  refine ⟨_, pss_cons (ps_if (PW.pt (pw_and (pt_cmpR op_lt (pv 3) (pe_callB call_len_seq (by rfl) T.len PySem.boot_len (pa_cons (pe_ix ix_list (pv 0) pe_int (fun _ _ => rfl)) pa_nil)) (nomark _))
            (pw_and1 (pt_cmpR op_ge (pe_callB call_abs (by rfl) T.abs (by decide +kernel) (pa_cons (pv 4) pa_nil)) (pe_op op_pow pe_int pe_int) (nomark _)))))
        (pss_cons (ps_set (i := 5) scDraw.nd rfl (.inl rfl) (pe_op op_add (pe_op op_mul pe_int (pe_op op_sub (pe_callB call_abs (by rfl) T.abs (by decide +kernel) (pa_cons (pv 4) pa_nil)) (pe_op op_pow pe_int pe_int)))
            (pe_callTy call_int1 (by rfl) T.int (by decide +kernel) (pa_cons (pe_cmpR op_lt (pv 4) pe_int (nomark _)) pa_nil))))
        (pss_cons (ps_asg (pe_op op_fdivN (pe_callTy call_int1 (by rfl) T.int (by decide +kernel) (pa_cons (pv 5) pa_nil)) (pv 1)) (pg_sub (pv 0) pe_int set_list))
        (pss_one (ps_ret (pe_op op_modN (pe_callTy call_int1 (by rfl) T.int (by decide +kernel) (pa_cons (pv 5) pa_nil)) (pv 1)))))) pss_nil) h2, ?_⟩
  intro Q nx p c ns m b b1 g raw y2 y5 y6 H hp hc b0 bB g0 hm hm2 q
  have last : t2 { nx := nx, rt := Q } [some (.ref p), some (.int m), y2, some (.int b), some (.int raw), y5, y6] H :=
    q2 Q nx p m b raw y2 y5 y6 H b0 bB hm fun d d0 d1 => q d H d0 d1 ⟨g, g0, hp⟩ Off.rfl'
  refine ⟨.int b, rfl, .ref p, rfl, p, _, 0, .ref c, rfl, rfl, SqL.of hp, rfl, c, _, rfl, .inl (SqL.of hc), _, _, rfl, rfl, _, rfl, ite2 (fun e => ?_) (fun e => iteF last)⟩
  refine ⟨.int raw, rfl, raw, rfl, 10, 18, rfl, rfl, ⟨by decide, by decide, by decide⟩, _, _, rfl, rfl, _, rfl, ite2 (fun e2 => ?_) (fun e2 => last)⟩
  have big := of_decide_eq_true e2
  obtain ⟨r, hr⟩ : ∃ r : Int, (if raw < 0 then -raw else raw) = r := ⟨_, rfl⟩
  obtain ⟨u, hu⟩ : ∃ u : Int, 2 * ((if raw < 0 then -raw else raw) - (10 : Int) ^ (18 : Int).toNat) + (if decide (raw < 0) = true then 1 else 0) = u := ⟨_, rfl⟩
  have u0 : 0 ≤ u := by
    rw [← hu]
    have k : (0 : Int) ≤ if decide (raw < 0) = true then 1 else 0 := by split <;> decide
    omega
  refine ⟨.int raw, rfl, raw, rfl, 10, 18, rfl, rfl, ⟨by decide, by decide, by decide⟩, _, _, rfl, rfl, 2, _, rfl, rfl, .inl ⟨by decide, by decide⟩, .int raw, rfl, raw, 0, rfl, rfl, .inr ⟨_, rfl, _, _, rfl, rfl, ?_⟩⟩
  refine ⟨.int u, by rw [← hu]; rfl, .inl ⟨u, rfl, .int m, rfl, u, m, rfl, rfl, ⟨by omega, by omega⟩, ?_⟩⟩
  refine ⟨.ref p, rfl, p, _, 2, 2, rfl, rfl, hp, rfl, ?_⟩
  refine ⟨.int u, by rw [← hu]; rfl, .inl ⟨u, rfl, .int m, rfl, u, m, rfl, rfl, by omega, ?_⟩⟩
  exact q _ _ (fm (by omega)).1 (fm (by omega)).2 ⟨u.fdiv m, fd0 (by omega) u0, upd_same⟩ fun a o n e => by rw [upd_ne n]; exact e
theorem ok_draw {f : Addr} {fd : FuncData} (F : Fun K "_law_draw" "_law_draw" sDraw f fd) (T : Txt mg) : FnOk P w K mg base CX0 1 f fd ["_law_pen_here", "_law_many"] spDraw := by
  refine F.ok scDraw (fun vs H Q E h => ?_) (fun cdv A outer s H vs Q E hr h => ?_)
  · obtain ⟨p, c, ns, B, m, rfl, _⟩ := h
    rfl
  · obtain ⟨p, c, ns, B, m, rfl, PA0, hB, hm, hm2, q⟩ := h
    obtain ⟨b, g, hp, b0, bB, g0⟩ := PA0.pen
    have hc := PA0.cells
    have few := PA0.few
    have ncp := PA0.ne
    obtain ⟨t1, h1, q1⟩ := tail1 (P := P) (w := w) (K := K) (base := base) (f := f) (cdv := cdv) (A := A) (outer := outer) (s := s) (H0 := H) (E := E) T
    refine ⟨_, pss_cons (ps_if (pt_cmpR op_gt (pe_ix ix_list (pv 0) pe_int (fun _ _ => rfl)) pe_int (nomark _))
        (pss_cons (ps_set (i := 2) scDraw.nd rfl (.inl rfl) (pe_op op_modN (pe_callTy call_int1 (by rfl) T.int (by decide +kernel) (pa_cons (pe_ix ix_list (pv 0) pe_int (fun _ _ => rfl)) pa_nil)) (pv 1)))
        (pss_cons (ps_asg (pe_op op_fdivN (pe_callTy call_int1 (by rfl) T.int (by decide +kernel) (pa_cons (pe_ix ix_list (pv 0) pe_int (fun _ _ => rfl)) pa_nil)) (pv 1)) (pg_sub (pv 0) pe_int set_list))
        (pss_one (ps_ret (pv 2))))) pss_nil)
      (pss_cons (ps_set (i := 3) scDraw.nd rfl (.inl rfl) (pe_ix ix_list (pv 0) pe_int (fun _ _ => rfl)))
      (pss_cons (ps_asg (pe_op op_add (pv 3) pe_int) (pg_sub (pv 0) pe_int set_list))
      (pss_cons (ps_set (i := 4) scDraw.nd rfl (.inl rfl) (pe_op op_add (pe_op op_mul pe_int (pv 3)) pe_int))
      (pss_cons (ps_if (pt_cmpR (op_neD hr.units) (pe_ix ix_list (pv 0) pe_int (fun _ _ => rfl)) (pe_lst pa_nil) (nomark _))
        (pss_one (ps_set (i := 4) scDraw.nd rfl (.inl rfl) (pe_ix ix_list (pe_ix ix_list (pv 0) pe_int (fun _ _ => rfl))
          (pe_op op_modN (pe_callTy call_int1 (by rfl) T.int (by decide +kernel) (pa_cons (pv 3) pa_nil)) (pe_callB call_len_seq (by rfl) T.len PySem.boot_len (pa_cons (pe_ix ix_list (pv 0) pe_int (fun _ _ => rfl)) pa_nil))) (fun _ _ => rfl)))) pss_nil) h1)))), ?_⟩
    -- if pen[2] > 0
    refine ⟨.ref p, rfl, p, _, 2, .int g, rfl, rfl, SqL.of hp, rfl, g, 0, rfl, rfl, _, rfl, ite2 (fun e => ?_) (fun e => ?_)⟩
    · refine ⟨.ref p, rfl, p, _, 2, .int g, rfl, rfl, SqL.of hp, rfl, .inl ⟨_, rfl, .int m, rfl, g, m, rfl, rfl, by omega, ?_⟩⟩
      refine ⟨.ref p, rfl, p, _, 2, .int g, rfl, rfl, SqL.of hp, rfl, .inl ⟨_, rfl, .int m, rfl, g, m, rfl, rfl, ⟨by omega, by omega⟩, ?_⟩⟩
      refine ⟨.ref p, rfl, p, _, 2, 2, rfl, rfl, hp, rfl, ?_⟩
      refine ⟨_, rfl, q (g.fmod m) _ (fm (by omega)).1 (fm (by omega)).2 ⟨⟨b, g.fdiv m, upd_same, b0, by omega, fd0 (by omega) g0⟩, by rw [upd_ne ncp]; exact hc, few⟩ fun a o n e => by rw [upd_ne n]; exact e⟩
    · -- begun = pen[1]; pen[1] = begun + 1; raw = ..
      refine ⟨.ref p, rfl, p, _, 1, .int b, rfl, rfl, SqL.of hp, rfl, ?_⟩
      refine ⟨_, rfl, b, 1, rfl, rfl, .ref p, rfl, p, _, 1, 1, rfl, rfl, hp, rfl, ?_⟩
      refine ⟨_, rfl, 71340, b, rfl, rfl, .inl ⟨by decide, by decide⟩, _, _, rfl, rfl, ?_⟩
      obtain ⟨H1, eH⟩ : ∃ H1 : Hp, upd H p (.lst [.ref c, .int (b + 1), .int g]) = H1 := ⟨_, rfl⟩
      have hp1 : H1 p = some (.lst [.ref c, .int (b + 1), .int g]) := by rw [← eH, upd_same]
      have hc1 : H1 c = some (.lst (ns.map V.int)) := by rw [← eH, upd_ne ncp]; exact hc
      have off1 : Off p H H1 := fun a o n e => by rw [← eH, upd_ne n]; exact e
      have eH' : upd H p (.lst (([.ref c, .int b, .int g] : List V).set 1 (.int (b + 1)))) = H1 := eH
      rw [eH']
      clear eH eH'
      -- if pen[0] != []
      refine ⟨.ref p, rfl, p, _, 0, .ref c, rfl, rfl, SqL.of hp1, rfl, Nat.zero_le _, fun l hl => ?_⟩
      have npl : p ≠ l := ne_of_none hp1 hl
      have ncl : c ≠ l := ne_of_none hc1 hl
      have hp2 : (upd H1 l (.lst [])) p = some (.lst [.ref c, .int (b + 1), .int g]) := by rw [upd_ne npl]; exact hp1
      have hc2 : (upd H1 l (.lst [])) c = some (.lst (ns.map V.int)) := by rw [upd_ne ncl]; exact hc1
      have off2 : Off p H (upd H1 l (.lst [])) := off1.trans (Off.new hl)
      refine ⟨.list (ns.map PyData.int), .list [], .lst (SqL.of hc2) (dpInts ns), .lst (SqL.of upd_same) .nil, shaped_ints ns, rfl, _, rfl, ?_⟩
      have last : ∀ (raw : Int) (y2 y5 y6 : Option V) (nx : L2.St → Hp → Prop), t1 { nx := nx, rt := Q } [some (.ref p), some (.int m), y2, some (.int b), some (.int raw), y5, y6] (upd H1 l (.lst [])) := by
        intro raw y2 y5 y6 nx
        refine q1 Q nx p c ns m b (b + 1) g raw y2 y5 y6 _ hp2 hc2 b0 (by omega) g0 hm hm2 fun d H' d0 d1 z off => ?_
        obtain ⟨g', z0, e1⟩ := z
        exact q d H' d0 d1 ⟨⟨b + 1, g', e1, by omega, by omega, z0⟩, off c _ ncp hc2, few⟩ (off2.trans off)
      cases ns with
      | nil => exact iteF (last _ _ _ _ _)
      | cons x r =>
        have lz : ((x :: r).map V.int).length = r.length + 1 := by rw [List.length_map]; rfl
        have lp : (0 : Int) < (((x :: r).map V.int).length : Nat) := by rw [lz]; omega
        obtain ⟨j, ej⟩ : ∃ j : Int, b.fmod (((x :: r).map V.int).length : Nat) = j := ⟨_, rfl⟩
        have j0 := (fm (x := b) lp).1
        have j1 := (fm (x := b) lp).2
        rw [ej] at j0 j1
        obtain ⟨v, hv, at1⟩ := at_in j0 j1
        obtain ⟨y, _, rfl⟩ := List.mem_map.mp hv
        refine iteT ⟨.ref p, rfl, p, _, 0, .ref c, rfl, rfl, SqL.of hp2, rfl, .int b, rfl, .inl ⟨b, rfl, .ref p, rfl, p, _, 0, .ref c, rfl, rfl, SqL.of hp2, rfl, c, _, rfl, .inl (SqL.of hc2), b, _, rfl, rfl, by omega, c, _, _, _, rfl, rfl, SqL.of hc2, (by rw [ej]; exact at1), ?_⟩⟩
        exact last _ _ _ _ _
end
/-! ### the pen is made -/
theorem cut63 {α : Type} (xs : List V) (h : xs.length ≤ 63) : cutV xs none (some 63) = xs := by
  unfold cutV
  rw [show HT.sIx xs.length 0 none = 0 from rfl, show HT.sIx xs.length xs.length (some 63) = min 63 xs.length from HT.sIx_nat xs.length xs.length 63, List.drop_zero, Nat.min_eq_right h, Nat.sub_zero]
  exact List.take_length
def spPen (K : PySem.W.Frag) : Sp := fun vs H Q _ => ∃ (a : Addr) (ns : List Int), vs = [.ref a] ∧ SqL K H a (ns.map V.int) ∧ ns.length ≤ 63 ∧ ∀ (p c : Addr) (H' : Hp), Same' H H' → PenAt H' p c ns 0 → Q (.ref p) H'
def Src (H : Hp) (p : Addr) (s : V) (src : List V) : Prop := (∃ l, s = .ref l ∧ l ≠ p ∧ H l = some (.lst src)) ∨ (∃ z : Str, s = .str z ∧ src = z.cps.toList.map (fun c => V.str ⟨#[c]⟩))
def spPick : Sp := fun vs H Q _ => ∃ (p c : Addr) (ns : List Int) (B : Int) (s : V) (src : List V), vs = [.ref p, s] ∧ PenAt H p c ns B ∧ B ≤ 2000 ∧ Src H p s src ∧ 1 ≤ src.length ∧ src.length ≤ 1000 ∧
  ∀ (v : V) (H' : Hp), v ∈ src → PenAt H' p c ns (B + 1) → Off p H H' → Q v H'
section
variable {P : Program} {w : World} {K : PySem.W.Frag} {mg : Str → Option Value} {base : Heap}
theorem scPen : FnScope ["_law_script"] ["_law_script"] (defScope sPen) := ⟨rfl, rfl, rfl, by decide +kernel, rfl, by decide +kernel, by decide +kernel⟩
theorem ok_pen {f : Addr} {fd : FuncData} (F : Fun K "_law_pen" "_law_pen" sPen f fd) (T : Txt mg) : FnOk P w K mg base CX0 1 f fd ["_law_script"] (spPen K) := by
  refine F.ok scPen (fun vs H Q E h => ?_) (fun cdv A outer s H vs Q E hr h => ?_)
  · obtain ⟨a, ns, rfl, _⟩ := h
    rfl
  · obtain ⟨a, ns, rfl, hS, few, q⟩ := h
    refine ⟨_, pss_one (ps_ret (pe_lst (pa_cons (pe_callTy call_list_of (by rfl) T.list (by decide +kernel) (pa_cons (pe_slice sl_list (pv 0) po_none (po_some pe_int)) pa_nil)) (pa_cons pe_int (pa_cons pe_int pa_nil))))), ?_⟩
    refine ⟨.ref a, rfl, 63, rfl, a, _, rfl, hS, fun u hu => ?_⟩
    rw [cut63 (α := Unit) _ (by rw [List.length_map]; exact few)]
    refine ⟨u, _, rfl, .inl (SqL.of upd_same), fun c hc => ⟨by show 3 ≤ sizeLine; decide, fun p hp => ?_⟩⟩
    have ncp : c ≠ p := fun z => by
      rw [← z, upd_same] at hp
      cases hp
    refine q p c _ (fun b o e => ?_) ⟨⟨0, 0, upd_same, Int.le_refl _, Int.le_refl _, Int.le_refl _⟩, by rw [upd_ne ncp, upd_same], few⟩
    have e1 : (upd H u (.lst (ns.map V.int))) b = some o := by
      rw [upd_ne (ne_of_none e hu)]
      exact e
    have e2 : (upd (upd H u (.lst (ns.map V.int))) c (.lst (ns.map V.int))) b = some o := by
      rw [upd_ne (ne_of_none e1 hc)]
      exact e1
    rw [upd_ne (ne_of_none e2 hp)]
    exact e2
theorem scPick : FnScope ["_law_pen_here", "_law_some"] ["_law_pen_here", "_law_some"] (defScope sPick) := ⟨rfl, rfl, rfl, by decide +kernel, rfl, by decide +kernel, by decide +kernel⟩
theorem ok_pick {f fD : Addr} {fd fdD : FuncData} (F : Fun K "_law_pick" "_law_pick" sPick f fd) (T : Txt mg) (FD : Fun K "_law_draw" "_law_draw" sDraw fD fdD) (bD : Binds K fdD ["_law_pen_here", "_law_many"] []) (gD : mg "_law_draw" = some (.ref fD))
    (G : FnOk P w K mg base CX0 1 fD fdD ["_law_pen_here", "_law_many"] spDraw) : FnOk P w K mg base CX0 2 f fd ["_law_pen_here", "_law_some"] spPick := by
  refine F.ok scPick (fun vs H Q E h => ?_) (fun cdv A outer s H vs Q E hr h => ?_)
  · obtain ⟨p, c, ns, B, s, src, rfl, _⟩ := h
    rfl
  · obtain ⟨p, c, ns, B, x, src, rfl, PA0, hB, hs, n1, n2, q⟩ := h
    refine ⟨_, pss_one (ps_ret (pe_ix ix_seq (pv 1) (pe_call G hr (by rfl) gD FD.kp bD .nil pass0 (pa_cons (pv 0) (pa_cons (pe_callB (CallR.or call_len_seq call_len_str) (by rfl) T.len PySem.boot_len (pa_cons (pv 1) pa_nil)) pa_nil))) (fun _ _ => rfl))), ?_⟩
    refine ⟨x, rfl, .ref p, rfl, x, rfl, ?_⟩
    have fin : ∀ (d : Int), 0 ≤ d → d < (src.length : Nat) → ∃ v, v ∈ src ∧ atI src d = some v := fun d h0 h1 => at_in h0 h1
    rcases hs with ⟨l, rfl, nlp, hl⟩ | ⟨z, rfl, rfl⟩
    · refine .inl ⟨l, src, rfl, .inl (SqL.of hl), ?_⟩
      refine ⟨p, c, ns, B, _, rfl, PA0, hB, by omega, by omega, fun d H' d0 d1 PA1 off => ?_⟩
      obtain ⟨v, hv, at1⟩ := fin d d0 d1
      exact .inl ⟨l, src, d, v, rfl, rfl, SqL.of (off l _ nlp hl), at1, q v H' hv PA1 off⟩
    · rw [List.length_map] at n1 n2
      have ez : z.cps.toList.length = z.length := Array.length_toList
      have zs : z.length < sizeLine := small1000 (by omega)
      refine .inr ⟨z, rfl, Nat.le_of_lt zs, ?_⟩
      refine ⟨p, c, ns, B, _, rfl, PA0, hB, by omega, by omega, fun d H' d0 d1 PA1 off => ?_⟩
      have d1' : d < (z.cps.toList.length : Nat) := by rw [ez]; exact d1
      obtain ⟨k, rfl⟩ : ∃ k : Nat, d = (k : Int) := ⟨d.toNat, by omega⟩
      have hk : k < z.cps.toList.length := by omega
      refine .inr (.inr ⟨z, _, z.cps.toList[k], rfl, rfl, Nat.le_of_lt zs, atI_nat (List.getElem?_eq_getElem hk), ?_⟩)
      exact q _ H' (List.mem_map.mpr ⟨_, List.getElem_mem hk, rfl⟩) PA1 off
end
end My
namespace My
open PySem PySem.Spec PyProof.Rows L2
section
variable {X : Cx}
variable {CX : CXT} {k : Nat} {f : Addr} {fd : FuncData} {ps ks : List Str} {sp : Sp} {E : XK} {x : Str} {p pos : Pos} {kws : List Keyword} {tk : TA} {g : List Value → List Value → List Value} {gV : List V → List V → List V}
/-- f(k = v), keywords alone -/
theorem pe_callKw (F : FnOk X.prog X.w X.K X.mg X.base CX k f fd ps sp) (hr : Room k X.A) (hg : Gl X x) (hm : X.mg x = some (.ref f)) (hk : PySem.W.keepIn X.K (.ref f) = true) (hb : KBinds X.K fd ps ks g gV) (hx : Passes CX X E) (hkw : PK X kws tk)
    (hall : (backToKw pos (keywordEach kws X.env)).all (·.1.isSome) = true := by rfl) (hks : (backToKw pos (keywordEach kws X.env)).filterMap (·.1) = ks := by rfl) (hdb : (x == ("__debug__" : Str)) = false := by decide)
    (hpl : ((backTo pos (starEach [] X.env)).any (·.1) || (backToKw pos (keywordEach kws X.env)).any (·.1.isNone)) = false := by rfl) : PE X (.Call (.Name x p) [] kws pos) (tCallK sp gV E tNil tk) := by
  constructor
  intro pins s σ H Q I h
  refine wpAny_Call_Name_kw (ld_glob I hg hm (PySem.W.callWith_KW0 (h₀ := X.base) I.ok.mod.kin hk hall (thn (hkw.run pos pins s σ H _ I h) ?_) hpl) hdb)
  intro ws s2 hz
  obtain ⟨zs, H2, I2, rz, q2⟩ := hz
  refine ⟨I2.kIn, ?_⟩
  rw [hks]
  exact run_fnk (us := []) (vs := []) F hr hb hx I2 .nil rz q2
end
/-- one parameter, passed by its name -/
abbrev kwG {α : Type} (us ws : List α) : List α := us ++ us ++ ws
theorem kwRel {vs : List V} {us : List Value} {zs : List V} {ws : List Value} (h : Vals vs us) (k : Vals zs ws) : Vals (kwG vs zs) (kwG us ws) := by
  have app : ∀ {a : List V} {b : List Value} {c : List V} {d : List Value}, Vals a b → Vals c d → Vals (a ++ c) (b ++ d) := by
    intro a b c d h1 h2
    induction h1 with
    | nil => exact h2
    | cons r _ ih => exact .cons r ih
  exact app (app h h) k
theorem kwOne {K : PySem.W.Frag} {nm qual y : Str} {st : Stmt} {f : Addr} {fd : FuncData} (F : Fun K nm qual st f fd)
    (h : ∀ (kV doc pm : Value) (an : Option Addr) (cdv ct w : Value), bindArgs (PySem.W.fnOf nm qual (defArgs st) (defBody st) (defScope st) .none kV doc pm an cdv ct) ⟨[], [(y, w)]⟩ = pure [(y, w)]) : KBinds K fd [y] [y] kwG kwG := by
  obtain ⟨oc, od, kV, doc, pm, an, cdv, ct, osl, rfl, lk, hcd⟩ := F.ex
  refine ⟨fun s us ws _ hl => ?_, kwRel⟩
  match us, ws, hl with
  | [], [w], _ => exact .of_eq (h kV doc pm an cdv ct w)
  | [], [], hl => exact absurd hl (by simp)
  | [], _ :: _ :: _, hl => exact absurd hl (by simp)
  | _ :: _, _, hl =>
    simp at hl
end My
namespace My
open PySem PySem.Spec PyProof.Rows L2
/-! o.m(e, ..) and o.m(k = e), the class of o known where it is read; C.m(k = e), m a classmethod -/
def tMethA (m : Str) (f : Addr) (K : PySem.W.Frag) (sp : Sp) (dvs : List V) (E : XK) (ta : TE) (t : TA) : TE := fun σ H Q => ta σ H fun x H1 => ∃ a C dx fs, x = .ref a ∧ H1 a = some (.ins C dx fs) ∧ Cls K C ∧ Meth K C m f ∧ fs.lookup m = none ∧
  t σ H1 fun vs H2 => sp (x :: (vs ++ dvs)) H2 Q E
def tMethAK (m : Str) (f : Addr) (K : PySem.W.Frag) (sp : Sp) (gV : List V → List V → List V) (E : XK) (ta : TE) (tk : TA) : TE := fun σ H Q => ta σ H fun x H1 => ∃ a C dx fs, x = .ref a ∧ H1 a = some (.ins C dx fs) ∧ Cls K C ∧ Meth K C m f ∧ fs.lookup m = none ∧
  tk σ H1 fun zs H2 => sp (gV [x] zs) H2 Q E
def tCMethK (C : Addr) (sp : Sp) (gV : List V → List V → List V) (E : XK) (ta : TE) (tk : TA) : TE := fun σ H Q => ta σ H fun x H1 => x = .ref C ∧ tk σ H1 fun zs H2 => sp (gV [.ref C] zs) H2 Q E
section
variable {X : Cx} {CX : CXT} {k : Nat} {f C p q : Addr} {mc : Value} {fd : FuncData} {ps ks : List Str} {ds : List Value} {dvs : List V} {sp : Sp} {E : XK} {m : Str} {pos apos : Pos} {o e : Expr} {es : List Expr} {kws : List Keyword} {ta : TE} {t tk : TA} {g : List Value → List Value → List Value} {gV : List V → List V → List V}
theorem pe_methA {pl : Sem Bool} (he : PE X o ta) (F : FnOk X.prog X.w X.K X.mg X.base CX k f fd ps sp) (hr : Room k X.A) (hb : Binds X.K fd ps ds) (hd : Vals dvs ds) (hx : Passes CX X E) (ha : PA X (e :: es) t)
    (hst : starEach (e :: es) X.env = (false, eval e X.env) :: starEach es X.env := by rfl) (hpl : (backTo pos (starEach es X.env)).any (·.1) = false := by rfl)
    (ht : eval (.Call (.Attribute o m apos) (e :: es) [] pos) X.env = (do
      let ov ← eval o X.env
      standAt apos.atName
      let (f, first) ← holding [ov] (getMethod ov m pl)
      callWith pos f first (backTo pos (starEach (e :: es) X.env)) (backToKw pos (keywordEach [] X.env))) := by rfl) :
    PE X (.Call (.Attribute o m apos) (e :: es) [] pos) (tMethA m f X.K sp dvs E ta t) := by
  refine ⟨fun pins s σ H Q I h => ?_⟩
  refine PySem.W.methodCall_KW (pl := pl) (thn (he.run pins s σ H _ I h) fun u s1 ⟨x, H1, I1, rx, a, C, dx, fs, ex, ea, c, hm, l, q⟩ => ?_) ht
  subst ex
  obtain rfl : u = Value.ref a := rx
  refine getmeth_ok I1 ea c hm l ?_
  refine PySem.W.callWith_K (first := [.ref a]) (h₀ := X.base) I.ok.mod.kin hm.kp (thn (ha.run pos pins s1 σ H1 _ I1 q) fun us s2 ⟨vs, H2, I2, r, q2⟩ => ⟨I2.kIn, ?_⟩) hst hpl
  exact run_fn (us := .ref a :: us) (vs := .ref a :: vs) F hr hb hd hx I2 (.cons rfl r) q2
theorem pe_methAK {pl : Sem Bool} (he : PE X o ta) (F : FnOk X.prog X.w X.K X.mg X.base CX k f fd ps sp) (hr : Room k X.A) (hb : KBinds X.K fd ps ks g gV) (hx : Passes CX X E) (hkw : PK X kws tk)
    (hall : (backToKw pos (keywordEach kws X.env)).all (·.1.isSome) = true := by rfl) (hks : (backToKw pos (keywordEach kws X.env)).filterMap (·.1) = ks := by rfl)
    (hpl : ((backTo pos (starEach [] X.env)).any (·.1) || (backToKw pos (keywordEach kws X.env)).any (·.1.isNone)) = false := by rfl)
    (ht : eval (.Call (.Attribute o m apos) [] kws pos) X.env = (do
      let ov ← eval o X.env
      standAt apos.atName
      let (f, first) ← holding [ov] (getMethod ov m pl)
      callWith pos f first (backTo pos (starEach [] X.env)) (backToKw pos (keywordEach kws X.env))) := by rfl) :
    PE X (.Call (.Attribute o m apos) [] kws pos) (tMethAK m f X.K sp gV E ta tk) := by
  refine ⟨fun pins s σ H Q I h => ?_⟩
  refine PySem.W.methodCall_KW (pl := pl) (thn (he.run pins s σ H _ I h) fun u s1 ⟨x, H1, I1, rx, a, C, dx, fs, ex, ea, c, hm, l, q⟩ => ?_) ht
  subst ex
  obtain rfl : u = Value.ref a := rx
  refine getmeth_ok I1 ea c hm l ?_
  refine PySem.W.callWith_KW0 (first := [.ref a]) (h₀ := X.base) I.ok.mod.kin hm.kp hall (thn (hkw.run pos pins s1 σ H1 _ I1 q) ?_) hpl
  intro ws s2 hz
  obtain ⟨zs, H2, I2, rz, q2⟩ := hz
  refine ⟨I2.kIn, ?_⟩
  rw [hks]
  exact run_fnk (us := [.ref a]) (vs := [.ref a]) F hr hb hx I2 (.cons rfl .nil) rz q2
theorem pe_cmethK {pl : Sem Bool} (he : PE X o ta) (r : ClX.CRead X.K C mc) (c : ClX.CMet X.K C mc m p q) (F : FnOk X.prog X.w X.K X.mg X.base CX k q fd ps sp) (hr : Room k X.A) (hb : KBinds X.K fd ps ks g gV) (hx : Passes CX X E) (hkw : PK X kws tk)
    (hall : (backToKw pos (keywordEach kws X.env)).all (·.1.isSome) = true := by rfl) (hks : (backToKw pos (keywordEach kws X.env)).filterMap (·.1) = ks := by rfl)
    (hpl : ((backTo pos (starEach [] X.env)).any (·.1) || (backToKw pos (keywordEach kws X.env)).any (·.1.isNone)) = false := by rfl)
    (ht : eval (.Call (.Attribute o m apos) [] kws pos) X.env = (do
      let ov ← eval o X.env
      standAt apos.atName
      let (f, first) ← holding [ov] (getMethod ov m pl)
      callWith pos f first (backTo pos (starEach [] X.env)) (backToKw pos (keywordEach kws X.env))) := by rfl) :
    PE X (.Call (.Attribute o m apos) [] kws pos) (tCMethK C sp gV E ta tk) := by
  refine ⟨fun pins s σ H Q I h => ?_⟩
  refine PySem.W.methodCall_KW (pl := pl) (thn (he.run pins s σ H _ I h) fun u s1 ⟨x, H1, I1, rx, ex, z⟩ => ?_) ht
  subst ex
  obtain rfl : u = Value.ref C := rx
  refine ClX.getmethcm_ok I1 r c fun s2 I2 => ?_
  refine PySem.W.callWith_of hpl (PySem.W.keeps_M (K := X.K) (f := q) (self := .ref C) (q := s1.heap.objs.size) c.fi) (evalArgs_kw2_nil hall (thn (hkw.run pos _ s2 σ H1 _ I2 z) ?_))
  intro ws s3 hz
  obtain ⟨zs, H2, I3, rz, q2⟩ := hz
  refine ⟨⟨ClX.pin_at I3, I3.kIn⟩, ?_⟩
  rw [hks]
  have hl : (g [.ref C] ws).length = ps.length := by
    have r2 := hb.rel (vs := [.ref C]) (us := [.ref C]) (.cons rfl .nil) rz
    rw [← r2.length]
    exact F.len _ _ _ _ q2
  have z2 : wpAny (model X.prog X.w) X.A (call (.ref s1.heap.objs.size) [] (ks.zip ws)) (EP X ((s1.heap.objs.size, PySem.W.methodObj (.ref q) (.ref C)) :: pins) σ Q) X.xe s3 := by
    refine wpAny_call (PySem.W.method_call (ClX.pin_at I3) ?_)
    refine codeAny_mono (F.run X.A X.stack s3 H2 ⟨[.ref C], ks.zip ws⟩ (g [.ref C] ws) (gV [.ref C] zs) Q E hr I3.env0 (hb.to s3 [.ref C] ws I3.kIn hl) (hb.rel (.cons rfl .nil) rz) q2) fun r s' hq => ?_
    cases r with
    | error e => exact hx _ σ H2 s3 e s' I3 hq
    | ok fl =>
      cases fl with
      | ret u => exact I3.after hq
      | next => exact False.elim hq
      | brk => exact False.elim hq
      | cont => exact False.elim hq
  exact thn z2 fun _ _ y => ClX.unpinE y
end
end My
namespace My
open PySem PySem.Spec PyProof.Rows L2
/-! ### which meet -/
structure Bases (K : PySem.W.Frag) (mg : Str → Option Value) (A : A4) (bN bK bT bH : Addr) : Prop where
  gN : mg "Named" = some (.ref bN)
  gK : mg "Keeping" = some (.ref bK)
  gT : mg "Turning" = some (.ref bT)
  gH : mg "Handler" = some (.ref bH)
  kK : ∀ i, i < 4 → PySem.W.kitOne K (.ref (A.at i)) (.ref bK) = some (decide (i < 2))
  kT : ∀ i, i < 4 → PySem.W.kitOne K (.ref (A.at i)) (.ref bT) = some (decide (2 ≤ i))
  kH : ∀ i, i < 4 → PySem.W.kitOne K (.ref (A.at i)) (.ref bH) = some true
  oK : ∀ T ∈ ["NoneType", "bool", "int", "str", "list", "tuple", "dict"], PySem.W.kitOne K (.type T) (.ref bK) = some false
  oF : ∀ T ∈ ["NoneType", "bool", "int", "str", "list", "tuple", "dict"], PySem.W.kitOne K (.type T) (.ref A.f) = some false
  oT : ∀ T ∈ ["NoneType", "bool", "int", "str", "list", "tuple", "dict"], PySem.W.kitOne K (.type T) (.ref bT) = some false
  oC : ∀ T ∈ ["NoneType", "bool", "int", "str", "list", "tuple", "dict"], PySem.W.kitOne K (.type T) (.ref A.h) = some false
/-- of what kind a value is: 0 to 3 the handlers, 4 what is none -/
structure Knd (K : PySem.W.Frag) (A : A4) (bK bT : Addr) (H : Hp) (x : V) (i : Nat) : Prop where
  ex : ∃ t, TyX K H x t ∧ PySem.W.kitOne K t (.ref bK) = some (decide (i < 2)) ∧ PySem.W.kitOne K t (.ref bT) = some (decide (i = 2) || decide (i = 3)) ∧ PySem.W.kitOne K t (.ref A.f) = some (decide (i = 2)) ∧ PySem.W.kitOne K t (.ref A.h) = some (decide (i = 3))
def oneWay (i j : Nat) : Bool := if decide (i < 2) = true then (decide (j = 2) || decide (j = 3)) else (decide (i = 2) && decide (j = 3))
def meetB (i j : Nat) : Bool := oneWay i j || oneWay j i
def sortN (i : Nat) : Nat := if i = 3 then 2 else if i = 2 then 1 else 0
theorem meet_sort : ∀ i, i < 4 → ∀ j, j < 4 → meetB i j = decide (sortN i ≠ sortN j) := by decide +kernel
theorem meet_odd : ∀ i, i < 4 → meetB i 4 = false := by decide +kernel
theorem meet_self : ∀ i, i < 4 → meetB i i = false := by decide +kernel
theorem knd_h {K : PySem.W.Frag} {mg : Str → Option Value} {A : A4} {bN bK bT bH : Addr} (S : Hand K mg A) (Ba : Bases K mg A bN bK bT bH) {H : Hp} {a : Addr} {k : HD} (h : IsH A H a k) : Knd K A bK bT H (.ref a) k.ix := by
  have il := k.ix_lt
  refine ⟨_, S.ty h, Ba.kK _ il, ?_, S.kit _ 2 il (by decide), S.kit _ 3 il (by decide)⟩
  rw [Ba.kT _ il]
  generalize k.ix = i at il
  revert i
  decide
theorem knd_o {K : PySem.W.Frag} {mg : Str → Option Value} {A : A4} {bN bK bT bH : Addr} (Ba : Bases K mg A bN bK bT bH) {H : Hp} {x : V} {T : String} (h : TyX K H x (.type T)) (m : T ∈ ["NoneType", "bool", "int", "str", "list", "tuple", "dict"]) : Knd K A bK bT H x 4 :=
  ⟨_, h, Ba.oK T m, Ba.oT T m, Ba.oF T m, Ba.oC T m⟩
def spOneWay (K : PySem.W.Frag) (A : A4) (bK bT : Addr) : Sp := fun vs H Q _ => ∃ (x y : V) (i j : Nat), vs = [x, y] ∧ Knd K A bK bT H x i ∧ Knd K A bK bT H y j ∧ Q (.bl (oneWay i j)) H
def spMeets (K : PySem.W.Frag) (A : A4) (bK bT : Addr) : Sp := fun vs H Q _ => ∃ (x y : V) (i j : Nat), vs = [x, y] ∧ Knd K A bK bT H x i ∧ Knd K A bK bT H y j ∧ Q (.bl (meetB i j)) H
abbrev sMeets : Stmt := inClass (topS 27) 1
section
variable {P : Program} {w : World} {K : PySem.W.Frag} {mg : Str → Option Value} {base : Heap}
theorem scOneWay : FnScope ["one", "other"] ["one", "other"] (defScope sMeet1) := ⟨rfl, rfl, rfl, by decide +kernel, rfl, by decide +kernel, by decide +kernel⟩
theorem scMeets : FnScope ["self", "other"] ["self", "other"] (defScope sMeets) := ⟨rfl, rfl, rfl, by decide +kernel, rfl, by decide +kernel, by decide +kernel⟩
theorem ok_oneWay {A : A4} {f bN bK bT bH : Addr} {fd : FuncData} (F : Fun K "_meet_one_way" "_meet_one_way" sMeet1 f fd) (S : Hand K mg A) (T : Txt mg) (Ba : Bases K mg A bN bK bT bH) : FnOk P w K mg base CX0 1 f fd ["one", "other"] (spOneWay K A bK bT) := by
  refine F.ok scOneWay (fun vs H Q E h => ?_) (fun cdv A0 outer s H vs Q E hr h => ?_)
  · obtain ⟨x, y, i, j, rfl, _⟩ := h
    rfl
  · obtain ⟨x, y, i, j, rfl, ⟨tx, tyx, xK, xT, xF, xC⟩, ⟨u, tyy, yK, yT, yF, yC⟩, q⟩ := h
    refine ⟨_, pss_cons (ps_if (pt_val (pe_callB call_isi (by rfl) T.isi (by decide +kernel) (pa_cons (pv 0) (pa_cons (pe_glob (v := .ref bK) rfl Ba.gK rfl) pa_nil)))) (pss_one (ps_ret (pe_callB call_isi (by rfl) T.isi (by decide +kernel) (pa_cons (pv 1) (pa_cons (pe_glob (v := .ref bT) rfl Ba.gT rfl) pa_nil))))) pss_nil)
      (pss_one (ps_ret (pe_and (pe_callB call_isi (by rfl) T.isi (by decide +kernel) (pa_cons (pv 0) (pa_cons (pe_glob (v := .ref A.f) rfl S.cF.g rfl) pa_nil))) (pe_one (pe_callB call_isi (by rfl) T.isi (by decide +kernel) (pa_cons (pv 1) (pa_cons (pe_glob (v := .ref A.h) rfl S.cH.g rfl) pa_nil))))))), ?_⟩
    unfold oneWay at q
    refine ⟨x, rfl, x, .ref bK, tx, .ref bK, _, rfl, .own _, tyx, xK, _, rfl, ite2 (fun e => ?_) (fun e => ?_)⟩
    · rw [if_pos e] at q
      exact ⟨y, rfl, y, .ref bT, u, .ref bT, _, rfl, .own _, tyy, yT, q⟩
    · rw [if_neg e] at q
      refine ⟨x, rfl, x, .ref A.f, tx, .ref A.f, _, rfl, .own _, tyx, xF, _, rfl, ite2 (fun e2 => ?_) (fun e2 => ?_)⟩
      · rw [e2, Bool.true_and] at q
        exact ⟨y, rfl, y, .ref A.h, u, .ref A.h, _, rfl, .own _, tyy, yC, q⟩
      · rw [Bool.eq_false_iff.mpr e2, Bool.false_and] at q
        exact q
theorem ok_meets {A : A4} {f f1 bK bT : Addr} {fd d1 : FuncData} (F : Fun K "meets" "Handler.meets" sMeets f fd) (F1 : Fun K "_meet_one_way" "_meet_one_way" sMeet1 f1 d1) (b1 : Binds K d1 ["one", "other"] []) (g1 : mg "_meet_one_way" = some (.ref f1)) (G1 : FnOk P w K mg base CX0 1 f1 d1 ["one", "other"] (spOneWay K A bK bT)) :
    FnOk P w K mg base CX0 2 f fd ["self", "other"] (spMeets K A bK bT) := by
  refine F.ok scMeets (fun vs H Q E h => ?_) (fun cdv A0 outer s H vs Q E hr h => ?_)
  · obtain ⟨x, y, i, j, rfl, _⟩ := h
    rfl
  · obtain ⟨x, y, i, j, rfl, hx, hy, q⟩ := h
    refine ⟨_, pss_one (ps_ret (pe_or (pe_call G1 hr (by rfl) g1 F1.kp b1 .nil pass0 (pa_cons (pv 0) (pa_cons (pv 1) pa_nil))) (pe_one (pe_call G1 hr (by rfl) g1 F1.kp b1 .nil pass0 (pa_cons (pv 1) (pa_cons (pv 0) pa_nil)))))), ?_⟩
    unfold meetB at q
    refine ⟨x, rfl, y, rfl, x, y, i, j, rfl, hx, hy, _, rfl, ite2 (fun e => ?_) (fun e => ?_)⟩
    · rw [e, Bool.true_or] at q
      exact q
    · rw [Bool.eq_false_iff.mpr e, Bool.false_or] at q
      exact ⟨y, rfl, x, rfl, y, x, j, i, rfl, hy, hx, q⟩
end
end My
/-! enumerate of a tuple; for over a list or a tuple -/
namespace MyE
open PySem
open Sem (wp)
open AutoSeq1 (wpAny_loadPart')
theorem enum_new (l : Addr) (items : Array Value) (n : Nat) (dct : Option Addr) (sl : Array (Option Value)) :
    Meets (Builtin.«enumerate.__new__» ⟨[.type "enumerate", .ref l], []⟩) (fun _ R s => s.heap.get? l = some { cls := .type "tuple", dict := dct, data := .seq items n, slots := sl } ∧
      R (.ok (.ret (.ref (s.heap.push { cls := .type "tuple_iterator", data := .fields #[.ref l, .int 0 0] }).objs.size)))
        { s with heap := (s.heap.push { cls := .type "tuple_iterator", data := .fields #[.ref l, .int 0 0] }).push { cls := .type "enumerate", data := .fields #[.none, .bool false, .ref s.heap.objs.size, rawInt 0, .none, .none] } }) :=
  .of_wp fun prog w A R s h => by
    obtain ⟨hh, gg, dd, tt, oo⟩ := s
    obtain ⟨at_, out⟩ := h
    have below := sub_enumerate
    have tup : Heap.IsTuple (Shared.heap ⟨hh, gg, dd, tt, oo⟩) l items := ⟨_, at_, rfl, n, rfl⟩
    wp_walk using wpAny_loadPart' at_
    refine wpAny_stack_any fun st => wpAny_pure ?_
    split
    · rename_i c _ _ _ _ _
      cases (c == Value.type "enumerate") <;> (wp_walk using wpAny_loadPart' at_, wpAny_pyIter_tuple tup; exact ⟨_, rfl, out⟩)
    · wp_walk using wpAny_loadPart' at_, wpAny_pyIter_tuple tup
      exact ⟨_, rfl, out⟩
section
variable {prog : Program} {w : World} {A : Around} {E : Value → Shared → Prop} {s : Shared}
theorem call_enum {l : Addr} {items : Array Value} {Q : Value → Shared → Prop} (tup : s.heap.IsTuple l items)
    (out : ∀ h', IsEnum h' (s.heap.objs.size + 1) s.heap.objs.size 0 .none → h'.IsTupleIter s.heap.objs.size l 0 → (∀ b o, s.heap.get? b = some o → h'.get? b = some o) → Q (.ref (s.heap.objs.size + 1)) { s with heap := h' }) :
    wpAny (model prog w) A (call (.type "enumerate") [.ref l]) Q E s := by
  obtain ⟨⟨c, dct, dt, sl⟩, at_, hc, n, hd⟩ := tup
  simp only at hc hd
  subst hc
  subst hd
  refine callType_new F.called_enumerate (by decide) (F.typeCall_enumerate_1 _) (F.newCall_enumerate_1 _) (fun obj => F.args_object_init_2 obj _) F.entry_enumerate_new (enum_new l items n dct sl) ⟨at_, ?_⟩
  have one : (s.heap.push { cls := .type "tuple_iterator", data := .fields #[.ref l, .int 0 0] }).objs.size = s.heap.objs.size + 1 := Heap.size_push ..
  show _ ∧ _
  rw [one]
  have en : IsEnum ((s.heap.push { cls := .type "tuple_iterator", data := .fields #[.ref l, .int 0 0] }).push { cls := .type "enumerate", data := .fields #[.none, .bool false, .ref s.heap.objs.size, rawInt 0, .none, .none] }) (s.heap.objs.size + 1) s.heap.objs.size 0 .none := by
    have z := Heap.get?_push_size (s.heap.push { cls := .type "tuple_iterator", data := .fields #[.ref l, .int 0 0] }) (o := { cls := .type "enumerate", data := .fields #[.none, .bool false, .ref s.heap.objs.size, rawInt 0, .none, .none] }) rfl
    rw [one] at z
    exact z
  exact ⟨⟨_, en, rfl⟩, out _ en ⟨_, Heap.get?_push_of_some _ (Heap.get?_push_size _ rfl), rfl, rfl⟩ fun b o x => Heap.get?_push_of_some _ (Heap.get?_push_of_some _ x)⟩
end
end MyE
namespace My
open PySem PySem.Spec PyProof.Rows L2
def IteT (K : PySem.W.Frag) (a : Addr) : It :=
  ⟨fun i H => ∃ (xs : List V) (x : V), SqT K H a xs ∧ xs[i]? = some x, fun i H v H' => ∃ T x, v = .ref T ∧ H T = none ∧ H' = upd H T (.tup [.int (i : Nat), x]) ∧ ∀ xs, SqT K H a xs → xs[i]? = some x, fun i H => ∃ xs : List V, SqT K H a xs ∧ xs.length ≤ i⟩
theorem tup_ne {h : Heap} {it a : Addr} {i : Nat} {items : Array Value} (x : h.IsTupleIter it a i) (y : h.IsTuple a items) : a ≠ it := fun e => by
  obtain ⟨o, ho, hc, _⟩ := x
  obtain ⟨o2, ho2, hc2, _⟩ := y
  rw [e, ho] at ho2
  cases ho2
  rw [hc] at hc2
  revert hc2
  decide
theorem turn_enumT {P : Program} {w : World} {K : PySem.W.Frag} {elts : List Expr} {kk : Nat} {tpos : Pos} (a e it : Addr) :
    Turn P w K (.Tuple elts kk tpos) (IteT K a) [e, it] e (fun i h => (∃ old, IsEnum h e it ((i : Nat) : Int) old) ∧ h.IsTupleIter it a i ∧ e ≠ it) where
  mem := by simp
  obj := fun i h st b hb => by
    obtain ⟨⟨old, en⟩, ⟨o, ho, hc, hd⟩, _⟩ := st
    have which : b = e ∨ b = it := by simpa using hb
    rcases which with z | z <;> rw [z]
    · exact ⟨_, en, fun v q => nomatch q⟩
    · exact ⟨o, ho, fun v q => by rw [hd] at q; cases q⟩
  keep := fun i h h' st k => let ⟨⟨old, en⟩, ti, ne⟩ := st; ⟨⟨old, k e (by simp) _ en⟩, ti.at fun o q => k it (by simp) o q, ne⟩
  item := by
    intro X hP hw hK hc i pins s σ H E I hf st hg
    subst hP hw hK
    obtain ⟨⟨old, en⟩, ti, ne⟩ := st
    obtain ⟨xs, x, hq, hx⟩ := hg
    obtain ⟨its, rv, tp, _⟩ := I.tuple hq
    obtain ⟨u, hu, ru⟩ := rv.get hx
    have tp2 : s.heap.IsTuple a its.toArray := tp
    have le : e < s.heap.objs.size := Heap.lt_size en
    have li : it < s.heap.objs.size := let ⟨_, q, _⟩ := ti; Heap.lt_size q
    have ane := tup_ne ti tp2
    have ae : e ≠ a := fun z => by
      obtain ⟨o2, ho2, hc2, _⟩ := tp2
      have en2 : s.heap.get? e = some _ := en
      rw [z, ho2] at en2
      cases en2
      exact absurd (show Value.type "enumerate" = Value.type "tuple" from hc2) (by decide)
    have lu : i < its.toArray.size := by
      rw [List.size_toArray]
      exact (List.getElem?_eq_some_iff.mp hu).1
    refine wpAny_pyNext_enum_itemD (Draws.tuple (A := X.A.in1) (by exact I.ok.hd hc) it a ane its.toArray) en ⟨ti, tp2⟩ lu ne (by simp only [List.mem_cons, List.not_mem_nil, or_false, not_or]; exact ⟨ne, ae⟩) fun y h' tk hy ho st' hT hsz hk => ?_
    have ey : y = u := by
      have : its.toArray[i]? = some u := by simpa using hu
      rw [this] at hy
      cases hy
      rfl
    subst ey
    refine ⟨_, rfl, wpAny_letOwnedTupleGo_enum (s := { s with heap := h', toks := tk + 1 }) ho fun h'' he' sb => ?_⟩
    have hT2 : h''.get? s.heap.objs.size = some { cls := .type "tuple", data := .seq #[.int i tk, y] } := (sb.2 _ (Nat.ne_of_gt le)).trans hT
    have new : ObjOk X.prog X.w (upd H s.heap.objs.size (.tup [.int (i : Nat), x])) h'' s.heap.objs.size (.tup [.int (i : Nat), x]) :=
      ⟨by show 2 ≤ sizeLine; decide, [.int i tk, y], .cons ⟨_, rfl⟩ (.cons ru .nil), ⟨_, hT2, rfl, _, rfl⟩⟩
    have I1 : Inv X pins σ (upd H s.heap.objs.size (.tup [.int (i : Nat), x])) { s with heap := h'', toks := tk + 1 } :=
      I.turnedNew (ch := [e, it]) (fun b ob hb q => (sb.2 b (fun z => hb (by simp [z]))).trans (hk b ob (fun z => hb (by simp [z])) (fun z => hb (by simp [z])) q)) hf (Nat.le_refl _) new
    have up : ((i + 1 : Nat) : Int) = (i : Int) + 1 := by omega
    refine ⟨.ref s.heap.objs.size, _, I1, rfl, ⟨_, x, rfl, I.hok.fresh (Nat.le_refl _), rfl, fun ys hy => by rw [I.tuple_inj hy hq]; exact hx⟩, ⟨⟨y, by rw [up]; exact he'⟩, st'.1.at fun o q => (sb.2 it (Ne.symm ne)).trans q, ne⟩, fun b hb => ?_⟩
    have which : b = e ∨ b = it := by simpa using hb
    have lb : b < s.heap.objs.size := which.elim (fun z => z ▸ le) fun z => z ▸ li
    rw [upd_ne (Nat.ne_of_lt lb)]
    exact (hf b hb).1
  done := by
    intro X hP hw hK hc i pins s σ H E I hf st hg
    subst hP hw hK
    obtain ⟨⟨old, en⟩, ti, ne⟩ := st
    obtain ⟨xs, hq, hx⟩ := hg
    obtain ⟨its, rv, tp, _⟩ := I.tuple hq
    have tp2 : s.heap.IsTuple a its.toArray := tp
    obtain ⟨f0, f1, f2, f3, f4, f5⟩ := hf it (by simp)
    have hl := rv.length
    have none_ : its.toArray[i]? = none := by
      simp only [List.getElem?_toArray]
      exact List.getElem?_eq_none (by omega)
    have D : Draws X.prog X.w X.A.in1 it [it, a] i (fun _ _ => True) (fun j h => j = i ∧ h.IsTupleIter it a i ∧ h.IsTuple a its.toArray) :=
      { live := fun _ _ st => let ⟨o, ho, _⟩ := st.2.1; ⟨o, ho⟩
        frame := fun _ _ _ st k => ⟨st.1, st.2.1.at fun o q => k it (by simp) o q, st.2.2.at fun o q => k a (by simp) o q⟩
        item := fun j s Q E lt st _ => absurd lt (by rw [st.1]; exact Nat.lt_irrefl _)
        done := fun s Q E st out => wpAny_nextOf_tuple_end (by exact I.ok.hd hc) st.2.1 st.2.2 none_ out }
    exact wpAny_pyNext_enum_endD (i := ((i : Nat) : Int)) D en ⟨rfl, ti, tp2⟩ fun h' eb => ⟨rfl, I.turned (t' := s.toks) (fun b o hb q => eb b o hb q) f0 f1 f3 f4 f5⟩
  self := fun A i s Q E st h => let ⟨⟨_, en⟩, _⟩ := st; wpAny_pyIter_enum en h
def iEnumT (K : PySem.W.Frag) (ta : TA) : TI := fun σ H R => ta σ H fun vs H1 => ∃ a xs, vs = [.ref a] ∧ SqT K H1 a xs ∧ R (IteT K a) H1
theorem pi_enumT {X : Cx} {e : Expr} {ta : TA} {p pos tpos : Pos} {elts : List Expr} {kk : Nat} (hg : Gl X "enumerate") (hm : X.mg "enumerate" = none) (ha : PA X [e] ta) (hs : starEach [e] X.env = [(false, eval e X.env)] := by rfl) :
    PI X (.Tuple elts kk tpos) (.Call (.Name "enumerate" p) [e] [] pos) (iEnumT X.K ta) := by
  refine ⟨fun pins s σ H R I h => Call_ (ld_blt I hg hm boot_enumerate (PyProof.Rows.callWith_type1 (thn (ha.run pos pins s σ H _ I h) fun us s1 z => ?_) hs rfl))⟩
  obtain ⟨vs, H1, I1, r1, a, xs, rfl, hq, q⟩ := z
  obtain ⟨u, rfl, r⟩ := vals1 r1
  obtain rfl : u = Value.ref a := r
  obtain ⟨its, rv, tp, _⟩ := I1.tuple hq
  refine MyE.call_enum (show s1.heap.IsTuple a its.toArray from tp) fun h' en ti hk => wpAny_pyIter_enum en ?_
  have I2 : Inv X pins σ H1 { s1 with heap := h' } := I1.kept (t' := s1.toks) hk
  refine ⟨s1.heap.objs.size + 1, [s1.heap.objs.size + 1, s1.heap.objs.size], _, _, H1, rfl, I2, turn_enumT a (s1.heap.objs.size + 1) s1.heap.objs.size, ⟨⟨.none, en⟩, ti, Nat.succ_ne_self _⟩, fun b hb => ?_, q⟩
  have big : s1.heap.objs.size ≤ b := by
    have which : b = s1.heap.objs.size + 1 ∨ b = s1.heap.objs.size := by simpa using hb
    exact which.elim (fun z => z ▸ Nat.le_succ _) fun z => z ▸ Nat.le_refl _
  exact I1.fpOk big (I1.hok.fresh big)
/-- for over a list or a tuple -/
def iSeq (K : PySem.W.Frag) (tl : TE) : TI := fun σ H R => tl σ H fun x H1 => ∃ a, x = .ref a ∧ (((∃ xs, SqL K H1 a xs) ∧ R (Itl K a) H1) ∨ ((∃ xs, SqT K H1 a xs) ∧ R (Itt K a) H1))
theorem pi_seq {X : Cx} {tg l : Expr} {tl : TE} (hl : PE X l tl) : PI X tg l (iSeq X.K tl) := by
  refine ⟨fun pins s σ H R I h => thn (hl.run pins s σ H _ I h) fun v s1 z => ?_⟩
  obtain ⟨x, H1, I1, r1, a, rfl, q⟩ := z
  obtain rfl : v = Value.ref a := r1
  have mine : ∀ b ∈ [s1.heap.objs.size], FpOk X pins H1 b := fun b hb => by
    rw [List.mem_singleton.mp hb]
    exact I1.fpOk (Nat.le_refl _) (I1.hok.fresh (Nat.le_refl _))
  rcases q with ⟨⟨xs, hq⟩, q⟩ | ⟨⟨xs, hq⟩, q⟩
  · obtain ⟨its, rv, p, _⟩ := I1.list hq
    exact wpAny_pyIter_list p.isList ⟨s1.heap.objs.size, _, _, _, H1, rfl, I1.kept (t' := s1.toks) fun b o e => Heap.get?_push_of_some _ e, turn_list a _, ⟨_, Heap.get?_push_size _ rfl, rfl, rfl⟩, mine, q⟩
  · obtain ⟨its, rv, p, _⟩ := I1.tuple hq
    exact wpAny_pyIter_tuple (show s1.heap.IsTuple a its.toArray from p) ⟨s1.heap.objs.size, _, _, _, H1, rfl, I1.kept (t' := s1.toks) fun b o e => Heap.get?_push_of_some _ e, turn_tuple a _, ⟨_, Heap.get?_push_size _ rfl, rfl, rfl⟩, mine, q⟩
end My
namespace My
open PySem PySem.Spec PyProof.Rows L2
theorem walk_enumT {K : PySem.W.Frag} {a : Addr} {xs : List V} : Walk (IteT K a) xs.length (fun H => SqT K H a xs) (YPair (fun i => some (.int (i : Nat))) (fun i => xs[i]?)) := by
  refine ⟨fun i _ hi q => ⟨xs, xs[i], q, by simp [hi]⟩, fun _ q => ⟨xs, q, Nat.le_refl _⟩, fun i H v H' _ q y => ?_⟩
  obtain ⟨t, x, h1, h2, h3, h4⟩ := y
  exact ⟨t, .int (i : Nat), x, h1, h2, h3, rfl, h4 xs q⟩
end My
namespace My
open PySem PySem.Spec PyProof.Rows L2
/-- ys: the texts of xs, ascending, each once -/
structure Asc (xs ys : List Str) : Prop where
  nd : ys.Nodup
  so : sortedS ys = true
  mem : ∀ z, z ∈ ys ↔ z ∈ xs
def Sq (K : PySem.W.Frag) (H : Hp) (l : Addr) (xs : List V) : Prop := SqL K H l xs ∨ SqT K H l xs
theorem Sq.keep {K : PySem.W.Frag} {H H' : Hp} {l : Addr} {xs : List V} (h : Sq K H l xs) (s : Same' H H') : Sq K H' l xs := h.imp (fun q => q.ext s) fun q => q.ext s
def spAsc (K : PySem.W.Frag) : Sp := fun vs H Q _ => ∃ (l : Addr) (xs : List Str), vs = [.ref l] ∧ Sq K H l (xs.map V.str) ∧ xs.length < 64 ∧ ∀ (p : Addr) (ys : List Str) (H' : Hp), Asc xs ys → Same' H H' → H' p = some (.tup (ys.map V.str)) → Q (.ref p) H'
section
variable {P : Program} {w : World} {K : PySem.W.Frag} {mg : Str → Option Value} {base : Heap}
abbrev nAsc : List Str := ["names", "name"]
theorem scAsc : FnScope nAsc ["names"] (defScope sAsc) := ⟨rfl, rfl, rfl, by decide +kernel, rfl, by decide +kernel, by decide +kernel⟩
theorem ok_asc {f : Addr} {fd : FuncData} (F : Fun K "ascending" "ascending" sAsc f fd) (T : Txt mg) : FnOk P w K mg base CX0 1 f fd ["names"] (spAsc K) := by
  refine F.ok scAsc (fun vs H Q E h => ?_) (fun cdv A outer s H vs Q E hr h => ?_)
  · obtain ⟨l, xs, rfl, _⟩ := h
    rfl
  · obtain ⟨l, xs, rfl, hl, few, q⟩ := h
    refine ⟨_, pss_one (ps_ret (pe_callTy call_tuple_of (by rfl) T.tuple (by decide +kernel) (pa_cons (pe_callB (cr_sortedTexts rfl) (by rfl) T.sorted (by decide +kernel) (pa_cons (pe_callTy (cr_setTexts rfl) (by rfl) T.set (by decide +kernel) (pa_cons
      (pe_lc (own := [("name", 1)]) (g := gName 1) (tt := tYes) rfl scAsc.nd (pi_seq (pv 0)) (blkOk_by (N := nAsc) (sc := defScope sAsc) (by decide +kernel)) (fun _ _ _ _ _ => pg_name (i := 1) scAsc.nd rfl (Or.inl rfl)) (fun _ _ _ _ _ => pts_nil)
        (fun _ _ _ _ _ => pe_callTy SkE.call_str_str (by rfl) T.str (by decide +kernel) (pa_cons (pv 1) pa_nil))) pa_nil)) pa_nil)) pa_nil))), ?_⟩
    have lz : (xs.map V.str).length = xs.length := List.length_map ..
    have fin : ∀ (H1 : Hp) (D : Addr), Same' H H1 → H1 D = some (.lst (xs.map V.str)) → ∃ (l : Addr) (zs : List Str), [V.ref D] = [V.ref l] ∧ SqL K H1 l (zs.map V.str) ∧ zs.length < 64 ∧
        ∀ a ys, H1 a = none → ys.Nodup → (∀ z, z ∈ ys ↔ z ∈ zs) → ∃ (a2 : Addr) (l2 : List Str), [V.ref a] = [V.ref a2] ∧ (upd H1 a (TSetO P w a ys)) a2 = some (TSetO P w a2 l2) ∧ l2.length < 64 ∧
          ∀ (ys2 : List Str) (p : Addr), ys2.Perm l2 → sortedS ys2 = true → (upd H1 a (TSetO P w a ys)) p = none → ∃ p2 zs2, [V.ref p] = [V.ref p2] ∧
            ((SqL K (upd (upd H1 a (TSetO P w a ys)) p (.lst (ys2.map V.str))) p2 zs2 ∧ ∀ l, (upd (upd H1 a (TSetO P w a ys)) p (.lst (ys2.map V.str))) l = none → Q (.ref l) (upd (upd (upd H1 a (TSetO P w a ys)) p (.lst (ys2.map V.str))) l (.tup zs2))) ∨
              (SqT K (upd (upd H1 a (TSetO P w a ys)) p (.lst (ys2.map V.str))) p2 zs2 ∧ Q (.ref p2) (upd (upd H1 a (TSetO P w a ys)) p (.lst (ys2.map V.str))))) := by
      intro H1 D sm eD
      refine ⟨D, xs, rfl, SqL.of eD, few, fun a ys ha nd mem => ⟨a, ys, rfl, upd_same, ?_, fun ys2 p pm so hp => ⟨p, _, rfl, .inl ⟨SqL.of upd_same, fun l hl => ?_⟩⟩⟩⟩
      · exact Nat.lt_of_le_of_lt (nodup_len ys xs nd fun z hz => (mem z).mp hz) few
      · refine q l ys2 _ ⟨pm.nodup_iff.mpr nd, so, fun z => pm.mem_iff.trans (mem z)⟩ ?_ upd_same
        exact sm.trans ((same_new ha).trans ((same_new hp).trans (same_new hl)))
    refine ⟨.ref l, rfl, l, rfl, ?_⟩
    have lap : ∀ (D : Addr), H D = none → ∀ (i : Nat) (x : V) (H' H2 : Hp), (Same' H H' ∧ H' D = some (.lst ((xs.take i).map V.str))) → YAt (xs.map V.str) i H' x H2 → i < (xs.map V.str).length →
        ∃ z, x = .str z ∧ H2 = H' ∧ (xs.take (i + 1)).map V.str = (xs.take i).map V.str ++ [.str z] ∧ ((xs.take i).map V.str).length < sizeLine := by
      rintro D hD i x H' H2 ⟨sm, ed⟩ ⟨rfl, hx⟩ hi
      rw [List.getElem?_map] at hx
      cases ez : xs[i]? with
      | none => rw [ez] at hx; cases hx
      | some z =>
        rw [ez] at hx
        refine ⟨z, (Option.some.inj hx).symm, rfl, ?_, ?_⟩
        · rw [List.take_add_one, ez, List.map_append]
          rfl
        · rw [List.length_map, List.length_take, sizeLine_eq]
          omega
    rcases hl with hl | hl
    · refine .inl ⟨⟨_, hl⟩, fun D hD => ?_⟩
      refine lc_it walk_list (fun i H' => Same' H H' ∧ H' D = some (.lst ((xs.take i).map V.str))) ⟨same_new hD, upd_same⟩ (fun i H' _ p => hl.ext p.1) (fun i x H' H2 hi hp hy => ?_) (fun H' hp => ?_)
      · obtain ⟨z, rfl, rfl, e1, e2⟩ := lap D hD i x H' H2 hp hy hi
        refine ⟨rfl, ⟨.str z, rfl, z, rfl, _, hp.2, e2, same_over hD hp.1, ?_⟩⟩
        rw [upd_same, e1]
      · refine fin H' D hp.1 ?_
        rw [hp.2, List.take_of_length_le (by rw [lz]; exact Nat.le_refl _)]
    · refine .inr ⟨⟨_, hl⟩, fun D hD => ?_⟩
      refine lc_it walk_tup (fun i H' => Same' H H' ∧ H' D = some (.lst ((xs.take i).map V.str))) ⟨same_new hD, upd_same⟩ (fun i H' _ p => hl.ext p.1) (fun i x H' H2 hi hp hy => ?_) (fun H' hp => ?_)
      · obtain ⟨z, rfl, rfl, e1, e2⟩ := lap D hD i x H' H2 hp hy hi
        refine ⟨rfl, ⟨.str z, rfl, z, rfl, _, hp.2, e2, same_over hD hp.1, ?_⟩⟩
        rw [upd_same, e1]
      · refine fin H' D hp.1 ?_
        rw [hp.2, List.take_of_length_le (by rw [lz]; exact Nat.le_refl _)]
end
end My
namespace My
open PySem PySem.Spec PyProof.Rows L2
/-- handlers of these kinds lie there -/
structure Hs (A : A4) (H : Hp) (as : List Addr) (ks : List HD) : Prop where
  len : as.length = ks.length
  is : ∀ (i : Nat) (a : Addr) (k : HD), as[i]? = some a → ks[i]? = some k → IsH A H a k
theorem Hs.keep {A : A4} {H H' : Hp} {as : List Addr} {ks : List HD} (h : Hs A H as ks) (s : Same' H H') : Hs A H' as ks := ⟨h.len, fun i a k e1 e2 => (h.is i a k e1 e2).keep s⟩
theorem Hs.at {A : A4} {H : Hp} {as : List Addr} {ks : List HD} (h : Hs A H as ks) {i : Nat} {x : V} (e : (as.map V.ref)[i]? = some x) : ∃ a k, as[i]? = some a ∧ ks[i]? = some k ∧ x = .ref a ∧ IsH A H a k := by
  rw [List.getElem?_map] at e
  cases ea : as[i]? with
  | none => rw [ea] at e; cases e
  | some a =>
    rw [ea] at e
    have hi : i < ks.length := by
      have := (List.getElem?_eq_some_iff.mp ea).1
      rw [h.len] at this
      exact this
    exact ⟨a, ks[i], rfl, List.getElem?_eq_getElem hi, (Option.some.inj e).symm, h.is i a _ ea (List.getElem?_eq_getElem hi)⟩
def wdN : Nat → Str
  | 0 => "cell"
  | 1 => "log"
  | 2 => "failure"
  | _ => "choice"
/-- the class constants WORD, read through an instance -/
def WCon (K : PySem.W.Frag) (A : A4) : Prop := ∀ i, i < 4 → ∃ u, Con K (A.at i) "WORD" (.str (wdN i)) u
def cnt (ks : List HD) (i : Nat) : Nat := (ks.filter fun k => decide (k.ix = i)).length
structure Few (ks : List HD) : Prop where
  nd : (ks.map HD.nm).Nodup
  c : cnt ks 0 ≤ 4
  l : cnt ks 1 ≤ 2
  f : cnt ks 2 ≤ 3
  n : ks.length < 64
/-- the table of the bounds -/
structure Lims (K : PySem.W.Frag) (mg : Str → Option Value) (L l0 l1 l2 : Addr) : Prop where
  g : mg "LIMITS" = some (.ref L)
  h : ∀ H, SqT K H L [.ref l0, .ref l1, .ref l2]
  h0 : ∀ H, SqT K H l0 [.str "cell", .str "cells", .int 4]
  h1 : ∀ H, SqT K H l1 [.str "log", .str "logs", .int 2]
  h2 : ∀ H, SqT K H l2 [.str "failure", .str "failures", .int 3]
def spChk (K : PySem.W.Frag) (A : A4) : Sp := fun vs H Q _ => ∃ (t : Addr) (as : List Addr) (ks : List HD), vs = [.ref t] ∧ H t = some (.tup (as.map V.ref)) ∧ Hs A H as ks ∧ Few ks ∧ ∀ H', Same' H H' → Q .non H'
theorem flat_strs : ∀ zs : List Str, (zs.map V.str).all flatV = true
  | [] => rfl
  | _ :: r => by rw [List.map_cons, List.all_cons, flat_strs r]; rfl
theorem inV_strs (z : Str) : ∀ zs : List Str, inV (.str z) (zs.map V.str) = decide (z ∈ zs)
  | [] => by simp [inV]
  | y :: r => by
    have ih := inV_strs z r
    unfold inV at ih ⊢
    rw [List.map_cons, List.any_cons, ih]
    show ((y == z) || _) = _
    by_cases e : z = y
    · subst e
      simp
    · have : (y == z) = false := beq_eq_false_iff_ne.mpr fun q => e q.symm
      rw [this]
      simp [e]
theorem flds_nm (k : HD) : k.flds.lookup ("name" : Str) = some (.str k.nm) := by cases k <;> rfl
theorem flds_wd (k : HD) : k.flds.lookup ("WORD" : Str) = none := by cases k <;> rfl
theorem wdN_eq : ∀ i, i < 4 → ∀ j, j < 4 → decide (V.str (wdN i) = V.str (wdN j)) = decide (i = j) := by decide +kernel
theorem cnt_step {ks : List HD} {j i : Nat} {k : HD} (h : ks[j]? = some k) : cnt (ks.take (j + 1)) i = cnt (ks.take j) i + (if k.ix = i then 1 else 0) := by
  unfold cnt
  rw [List.take_add_one, h, List.filter_append, List.length_append]
  congr 1
  show (List.filter _ [k]).length = _
  rw [List.filter_cons]
  by_cases e : k.ix = i <;> simp [e]
theorem notin_take {zs : List Str} (nd : zs.Nodup) {i : Nat} {z : Str} (h : zs[i]? = some z) : z ∉ zs.take i := fun m => by
  obtain ⟨hi, e⟩ := List.getElem?_eq_some_iff.mp h
  obtain ⟨j, hj, e2⟩ := List.mem_iff_getElem.mp m
  rw [List.length_take] at hj
  rw [List.getElem_take] at e2
  have := (List.pairwise_iff_getElem.mp nd) j i (by omega) hi (by omega)
  exact this (by rw [e2, e])
section
variable {P : Program} {w : World} {K : PySem.W.Frag} {mg : Str → Option Value} {base : Heap}
abbrev nChk : List Str := ["handlers", "at", "handler", "names", "kind", "what", "most"]
theorem scChk : FnScope nChk ["handlers"] (defScope sChkH) := ⟨rfl, rfl, rfl, by decide +kernel, rfl, by decide +kernel, by decide +kernel⟩
theorem ok_chk {A : A4} {f bN bK bT bH L l0 l1 l2 : Addr} {fd : FuncData} (F : Fun K "_check_handlers" "_check_handlers" sChkH f fd) (S : Hand K mg A) (T : Txt mg) (Ba : Bases K mg A bN bK bT bH) (W : WCon K A) (Li : Lims K mg L l0 l1 l2) :
    FnOk P w K mg base CX0 1 f fd ["handlers"] (spChk K A) := by
  refine F.ok scChk (fun vs H Q E h => ?_) (fun cdv A0 outer s H vs Q E hr h => ?_)
  · obtain ⟨t, as, ks, rfl, _⟩ := h
    rfl
  · obtain ⟨t, as, ks, rfl, ht, hs, few, q⟩ := h
    refine ⟨_, pss_cons (ps_for PassesOwn.never rfl (pi_enumT (by rfl) T.enum (pa_cons (pv 0) pa_nil)) (pg_tup (n := 2) rfl (pgs_cons (pg_name (i := 1) scChk.nd rfl (.inl rfl)) (pgs_cons (pg_name (i := 2) scChk.nd rfl (.inl rfl)) pgs_nil)))
        (pss_one (ps_if (pt_not (pt_val (pe_callB call_isi (by rfl) T.isi (by decide +kernel) (pa_cons (pv 2) (pa_cons (pe_glob (v := .ref bH) rfl Ba.gH rfl) pa_nil))))) (pss_one ps_never) pss_nil)))
      (pss_cons (ps_set (i := 3) scChk.nd rfl (.inl rfl) (pe_lst pa_nil))
      (pss_cons (ps_for PassesOwn.never rfl (pi_tup (pv 0)) (pg_name (i := 2) scChk.nd rfl (.inl rfl))
        (pss_cons (ps_if (pt_cmpR op_in_seq (pe_fld (pv 2) (by rfl)) (pv 3) (by rfl)) (pss_one ps_never) pss_nil)
        (pss_one (ps_expr (pe_bm PySem.F.plainAttrs_list PySem.F.slot_list_append PySem.F.type_list_append mt_append (pv 3) (pa_cons (pe_fld (pv 2) (by rfl)) pa_nil))))))
      (pss_one (ps_for PassesOwn.never rfl (pi_tup (pe_glob (v := .ref L) rfl Li.g rfl)) (pg_tup (n := 3) rfl (pgs_cons (pg_name (i := 4) scChk.nd rfl (.inr rfl)) (pgs_cons (pg_name (i := 5) scChk.nd rfl (.inl rfl)) (pgs_cons (pg_name (i := 6) scChk.nd rfl (.inl rfl)) pgs_nil))))
        (pss_one (ps_if (pt_cmpR op_gt (pe_callB call_len_seq (by rfl) T.len PySem.boot_len (pa_cons (pe_lc (own := [("handler", 2)]) (g := gName 2) rfl scChk.nd (pi_tup (pv 0)) (blkOk_by (N := nChk) (sc := defScope sChkH) (by decide +kernel))
            (fun _ _ _ _ _ => pg_name (i := 2) scChk.nd rfl (Or.inl rfl)) (fun _ _ _ _ _ => pts_one (pt_cmpR op_eq (show PE _ _ (tCon K (tVar 2) "WORD") from pe_con (pv 2) (by rfl)) (pv 4) (nomark _))) (fun _ _ _ _ _ => pv 2)) pa_nil)) (pv 6) (nomark _)) (pss_one ps_never) pss_nil)))))), ?_⟩
    refine ⟨.ref t, rfl, t, as.map V.ref, rfl, SqT.of ht, ?_⟩
    refine for_it (walk_enumT (K := K) (a := t) (xs := as.map V.ref)) (fun i σ H' => Same' H H' ∧ ∃ z1 z2, σ = [some (.ref t), z1, z2, none, none, none, none]) ⟨fun _ _ e => e, none, none, rfl⟩ (fun i σ H' _ hp => SqT.of (hp.1 _ _ ht)) (fun i x σ H5 H6 hi hp hy => ?_) (fun σ H1 hp => ?_)
    · obtain ⟨sm, z1, z2, rfl⟩ := hp
      obtain ⟨tt, v1, v2, rfl, htt, rfl, e1, e2⟩ := hy
      obtain ⟨a, k, ea, ek, rfl, ha⟩ := (hs.keep sm).at e2
      have st := same_new (o := .tup [v1, V.ref a]) htt
      refine ⟨tt, _, rfl, SqT.of upd_same, rfl, _, _, rfl, _, _, rfl, rfl, ?_⟩
      refine ⟨.ref a, rfl, .ref a, .ref bH, _, .ref bH, true, rfl, .own _, S.ty (ha.keep st), Ba.kH _ k.ix_lt, true, rfl, iteF ?_⟩
      exact ⟨sm.trans st, _, _, rfl⟩
    obtain ⟨s1, z1, z2, rfl⟩ := hp
    refine ⟨Nat.zero_le _, fun nl hnl => ?_⟩
    have s2 := s1.trans (same_new (o := .lst []) hnl)
    have nd := few.nd
    refine ⟨.ref t, rfl, t, rfl, ⟨_, SqT.of (s2 _ _ ht)⟩, ?_⟩
    refine for_it (walk_tup (K := K) (a := t) (xs := as.map V.ref)) (fun i σ H' => Same' H H' ∧ H' nl = some (.lst (((ks.map HD.nm).take i).map V.str)) ∧ ∃ z1 z2, σ = [some (.ref t), z1, z2, some (.ref nl), none, none, none]) ⟨s2, upd_same, z1, z2, rfl⟩ (fun i σ H' _ hp => SqT.of (hp.1 _ _ ht)) (fun i x σ H5 H6 hi hp hy => ?_) (fun σ H3 hp => ?_)
    · obtain ⟨sm, hn, z1, z2, rfl⟩ := hp
      obtain ⟨rfl, e2⟩ := hy
      obtain ⟨a, k, ea, ek, rfl, dx, ha⟩ := (hs.keep sm).at e2
      obtain ⟨c1, c2, _⟩ := S.cls k
      have en : (ks.map HD.nm)[i]? = some k.nm := by rw [List.getElem?_map, ek] <;> rfl
      have sz : (((ks.map HD.nm).take i).map V.str).length < sizeLine := by
        have := few.n
        rw [List.length_map, List.length_take, List.length_map, sizeLine_eq]
        omega
      refine ⟨.ref a, rfl, a, _, dx, _, .str k.nm, rfl, ha, c1, c2, flds_nm k, .ref nl, rfl, nl, _, rfl, .inl (SqL.of hn), rfl, flat_strs _, _, rfl, ?_⟩
      show if inV _ _ = true then _ else _
      rw [inV_strs, decide_eq_false (notin_take nd en)]
      refine iteF ?_
      refine ⟨.ref nl, rfl, .inl ⟨rfl, _, SqL.of hn⟩, .ref a, rfl, a, _, dx, _, .str k.nm, rfl, ha, c1, c2, flds_nm k, nl, _, _, rfl, rfl, hn, sz, ?_⟩
      have nnl : ∀ b o, H b = some o → b ≠ nl := fun b o e z => by
        rw [z] at e
        rw [s1 _ _ e] at hnl
        cases hnl
      refine ⟨fun b o e => ?_, ?_, _, _, rfl⟩
      · rw [upd_ne (nnl b o e)]
        exact sm b o e
      · rw [upd_same, List.take_add_one, en, List.map_append]
        rfl
    obtain ⟨s3, hn3, z1', z2', rfl⟩ := hp
    refine ⟨L, rfl, ⟨_, Li.h _⟩, ?_⟩
    refine for_it (walk_tup (K := K) (a := L) (xs := [.ref l0, .ref l1, .ref l2])) (fun i σ H' => Same' H H' ∧ ∃ z1 z2 z4 z5 z6, σ = [some (.ref t), z1, z2, some (.ref nl), z4, z5, z6]) ⟨s3, _, _, none, none, none, rfl⟩ (fun i σ H' _ hp => Li.h H') (fun i x σ H5 H6 hi hp hy => ?_) (fun σ H3 hp => q _ hp.1)
    obtain ⟨sm, z1, z2, z4, z5, z6, rfl⟩ := hp
    obtain ⟨rfl, e2⟩ := hy
    have row : ∃ (lj : Addr) (wh : Str) (m : Nat), x = .ref lj ∧ SqT K H6 lj [.str (wdN i), .str wh, .int (m : Int)] ∧ cnt ks i ≤ m := by
      match i, hi, e2 with
      | 0, _, e2 => exact ⟨l0, _, 4, (Option.some.inj e2).symm, Li.h0 _, few.c⟩
      | 1, _, e2 => exact ⟨l1, _, 2, (Option.some.inj e2).symm, Li.h1 _, few.l⟩
      | 2, _, e2 => exact ⟨l2, _, 3, (Option.some.inj e2).symm, Li.h2 _, few.f⟩
    obtain ⟨lj, wh, m, rfl, hrow, hm⟩ := row
    have i3 : i < 3 := hi
    refine ⟨lj, _, rfl, hrow, rfl, _, _, rfl, _, _, rfl, _, _, rfl, rfl, ?_⟩
    refine ⟨.ref t, rfl, t, rfl, ⟨_, SqT.of (sm _ _ ht)⟩, fun D hD => ?_⟩
    refine lc_it walk_tup (fun j H' => Same' H6 H' ∧ ∃ ys, H' D = some (.lst ys) ∧ ys.length = cnt (ks.take j) i) ⟨same_new hD, [], upd_same, rfl⟩ (fun j H' _ hp => SqT.of (hp.1 _ _ (sm _ _ ht))) (fun j x H7 H8 hj hp hy => ?_) (fun H7 hp => ?_)
    · obtain ⟨sj, ys, ed, ey⟩ := hp
      obtain ⟨rfl, e3⟩ := hy
      obtain ⟨a, k, ea, ek, rfl, dx, ha⟩ := ((hs.keep sm).keep sj).at e3
      obtain ⟨c1, _, _⟩ := S.cls k
      obtain ⟨u, cw⟩ := W k.ix k.ix_lt
      refine ⟨rfl, ⟨.ref a, rfl, a, _, dx, _, .str (wdN k.ix), u, rfl, ha, c1, cw, flds_wd k, .str (wdN i), rfl, rfl, _, rfl, ?_⟩⟩
      have ew := wdN_eq k.ix k.ix_lt i (by omega)
      rw [ew]
      refine ite2 (fun e => ?_) (fun e => ?_)
      · have e := of_decide_eq_true e
        refine ⟨.ref a, rfl, ys, ed, ?_, same_over hD sj, ys ++ [.ref a], upd_same, ?_⟩
        · rw [ey, sizeLine_eq]
          have : cnt (ks.take j) i ≤ ks.length := Nat.le_trans (List.length_filter_le _ _) (by rw [List.length_take]; exact Nat.min_le_right _ _)
          have := few.n
          omega
        · rw [List.length_append, ey, cnt_step ek, if_pos e]
          rfl
      · have e : ¬ k.ix = i := fun z => e (decide_eq_true z)
        exact ⟨sj, ys, ed, by rw [ey, cnt_step ek, if_neg e]; rfl⟩
    · obtain ⟨sj, ys, ed, ey⟩ := hp
      rw [List.take_of_length_le (by rw [List.length_map, hs.len]; exact Nat.le_refl _)] at ey
      refine ⟨D, ys, rfl, .inl (SqL.of ed), .int (m : Int), rfl, _, _, rfl, rfl, _, rfl, ?_⟩
      rw [decide_eq_false (by rw [ey]; omega)]
      exact iteF ⟨sm.trans sj, _, _, _, _, _, rfl⟩
end
end My
/-! new tuples that are known to have no dict, and their methods -/
namespace My
open PySem PySem.Spec PyProof.Rows L2
def TupZ (H : Hp) (p : Addr) (xs : List V) : Prop := ∃ o : Obj, H p = some (.frz o (.tup xs)) ∧ o.dict = none
theorem TupZ.sq {K : PySem.W.Frag} {H : Hp} {p : Addr} {xs : List V} (h : TupZ H p xs) : SqT K H p xs := let ⟨o, e, _⟩ := h; .inl (.inr ⟨o, e⟩)
theorem TupZ.keep {H H' : Hp} {p : Addr} {xs : List V} (h : TupZ H p xs) (k : ∀ b o, H b = some o → H' b = some o) : TupZ H' p xs := let ⟨o, e, d⟩ := h; ⟨o, k _ _ e, d⟩
section
variable {X : Cx}
theorem cr_tupZ : CallR X (.type "tuple") (fun xs H Q => ∃ p ys, xs = [.ref p] ∧ SqL X.K H p ys ∧ ∀ (l : Addr) (o : Obj), H l = none → o.dict = none → Q (.ref l) (upd H l (.frz o (.tup ys)))) := by
  intro pins s σ H xs us Q I r h
  obtain ⟨p, ys, rfl, hq, q⟩ := h
  obtain ⟨u, rfl, ru⟩ := vals1 r
  obtain rfl : u = Value.ref p := ru
  obtain ⟨its, rv, pl, hz⟩ := I.list hq
  have hlen := rv.length
  refine call_tuple_list pl.isList (fun h' kp => ?_) (by simp only [List.size_toArray] <;> omega)
  have I1 : Inv X pins σ H { s with heap := h' } := I.kept (t' := s.toks) kp
  have I2 : Inv X pins σ (upd H h'.objs.size (.frz { cls := .type "tuple", data := .seq its.toArray } (.tup ys))) { s with heap := h'.push { cls := .type "tuple", data := .seq its.toArray } } :=
    I1.laid (t' := s.toks) (fun b o e => Heap.get?_push_of_some _ e) (Nat.le_refl _) ⟨Heap.get?_push_size _ rfl, hz, its, rv, IsTup.new _ _⟩
  exact ⟨.ref h'.objs.size, _, I2, rfl, q _ _ (I1.hok.fresh (Nat.le_refl _)) rfl⟩
variable {o e : Expr} {es : List Expr} {to : TE} {t : TA} {name : Str} {apos cpos : Pos} {id : String} {r : V → List V → Hp → VK → Prop}
/-- t.m(..), t such a tuple -/
def tTM (r : V → List V → Hp → VK → Prop) (to : TE) (t : TA) : TE := fun σ H Q => to σ H fun x H1 => (∃ p xs, x = .ref p ∧ TupZ H1 p xs) ∧ t σ H1 fun xs H2 => r x xs H2 Q
theorem pe_tm (slot : Slot "tuple" name id) (hty : typeOf (.builtin id) = pure (.type "method_descriptor")) (hm : MtR X id r) (ho : PE X o to) (ha : PA X (e :: es) t)
    (hbase : attributeBase o name X.env (eval o X.env) = eval o X.env := by rfl)
    (hfew : ((backTo cpos (starEach (e :: es) X.env)).all (fun x => !x.1) && (backToKw cpos (keywordEach [] X.env)).all (fun x => x.1.isSome)
      && decide ((e :: es).length + ([] : List Keyword).length + (if ([] : List Keyword).isEmpty then 0 else 1) < 30)) = true := by rfl)
    (hline : (apos.endLine == cpos.line) = true := by rfl) (hs : starEach (e :: es) X.env = (false, eval e X.env) :: starEach es X.env := by rfl) (hplain : (backTo cpos (starEach es X.env)).any (·.1) = false := by rfl) :
    PE X (.Call (.Attribute o name apos) (e :: es) [] cpos) (tTM r to t) := by
  refine ⟨fun pins s σ H Q I h => wpAny_Call_method_late hbase hfew hline rfl (thn (ho.run pins s σ H _ I h) fun v s1 z => ?_)⟩
  obtain ⟨x, H1, I1, r1, ⟨p, xs, rfl, ob, hp, hd⟩, q1⟩ := z
  obtain rfl : v = Value.ref p := r1
  obtain ⟨at_, _, its, _, tp⟩ := I1.hok p _ hp
  obtain ⟨o2, ho2, hc2, _⟩ := tp
  refine ⟨"tuple", id, PySem.F.plainAttrs_tuple, slot, hty, ⟨o2, ho2, hc2⟩, fun a e => ?_, ?_⟩
  · cases e
    exact ⟨ob, at_, hd⟩
  · have hA := ha.run cpos pins s1 σ H1 _ I1 q1
    rw [hs] at hA ⊢
    refine Calls.callWith_builtin (by show (false || (backTo cpos (starEach es X.env)).any (·.1)) = false; rw [hplain] <;> rfl) (Calls.evalArgs_plain ?_)
    exact thn hA fun us s2 ⟨vs, H2, I2, r2, q2⟩ => hm pins s2 σ H2 (.ref p) vs (.ref p) us Q I2 rfl r2 q2
end
end My
namespace My
open PySem PySem.Spec PyProof.Rows L2
structure FnB (P : Program) (w : World) (K : PySem.W.Frag) (mg : Str → Option Value) (base : Heap) (k : Nat) (x : Str) (st : Stmt) (f : Addr) (fd : FuncData) (ps : List Str) (sp : Sp) : Prop where
  F : Fun K x x st f fd
  b : Binds K fd ps []
  g : mg x = some (.ref f)
  G : FnOk P w K mg base CX0 k f fd ps sp
/-! ### two walks in one comprehension -/
section
variable {J : It} {n : Nat} {G : Hp → Prop} {Y : Nat → Hp → V → Hp → Prop} {wi1 : TI} {g g1 : TG} {tt tt1 : TT} {te : TE} {vs vs1 : List Nat} {σ : L2.St} {H1 : Hp} {D : Addr} {Qd : Hp → Prop}
def InW (J1 : It) (g1 : TG) (tt1 : TT) (te : TE) (vs1 : List Nat) (D : Addr) (Nx : Hp → Prop) (σ2 : L2.St) (H4 : Hp) : Prop := ∃ W1 : Nat → Nat → Hp → Prop, (∃ m, W1 0 m H4) ∧ ∀ j k H, W1 j k H →
  (J1.stop j H ∧ Nx H) ∨ (J1.go j H ∧ ∃ Nx1 : Hp → Prop, (∀ H', Nx1 H' → ∃ k', k' < k ∧ W1 (j + 1) k' H') ∧ ∀ x H', J1.yld j H x H' → g1 x (wipe σ2 vs1) H' fun σ3 H5 => wipe σ3 vs1 = wipe σ2 vs1 ∧ tt1 σ3 H5 fun b H6 =>
    if b = true then te σ3 H6 fun y H7 => ∃ acc, H7 D = some (.lst acc) ∧ acc.length < sizeLine ∧ Nx1 (upd H7 D (.lst (acc ++ [y]))) else Nx1 H6)
theorem lc2_in {J1 : It} {n1 : Nat} {G1 : Hp → Prop} {Y1 : Nat → Hp → V → Hp → Prop} {Nx : Hp → Prop} {σ2 : L2.St} {H4 : Hp} (w : Walk J1 n1 G1 Y1) (Pw : Nat → Hp → Prop) (h0 : Pw 0 H4) (hG : ∀ j H, j ≤ n1 → Pw j H → G1 H)
    (hs : ∀ j x H H', j < n1 → Pw j H → Y1 j H x H' → g1 x (wipe σ2 vs1) H' fun σ3 H5 => wipe σ3 vs1 = wipe σ2 vs1 ∧ tt1 σ3 H5 fun b H6 =>
      if b = true then te σ3 H6 fun y H7 => ∃ acc, H7 D = some (.lst acc) ∧ acc.length < sizeLine ∧ Pw (j + 1) (upd H7 D (.lst (acc ++ [y]))) else Pw (j + 1) H6) (hd : ∀ H, Pw n1 H → Nx H) : InW J1 g1 tt1 te vs1 D Nx σ2 H4 := by
  refine ⟨fun j k H => k = n1 - j ∧ j ≤ n1 ∧ Pw j H, ⟨n1, by simp, Nat.zero_le _, h0⟩, ?_⟩
  rintro j k H ⟨rfl, hj, p⟩
  have q := hG j H hj p
  rcases Nat.lt_or_ge j n1 with lt | ge
  · exact .inr ⟨w.goes j H lt q, Pw (j + 1), fun H' p' => ⟨n1 - (j + 1), by omega, rfl, lt, p'⟩, fun x H' y => hs j x H H' lt p (w.yields j H x H' lt q y)⟩
  · obtain rfl : j = n1 := by omega
    exact .inl ⟨w.stops H q, hd H p⟩
theorem lc2_out (w : Walk J n G Y) (Pv : Nat → Hp → Prop) (h0 : Pv 0 (upd H1 D (.lst []))) (hG : ∀ i H, i ≤ n → Pv i H → G H)
    (hs : ∀ i x H H', i < n → Pv i H → Y i H x H' → g x (wipe σ vs) H' fun σ2 H2 => wipe σ2 vs = wipe σ vs ∧ tt σ2 H2 fun b H3 => if b = true then wi1 σ2 H3 fun J1 H4 => InW J1 g1 tt1 te vs1 D (Pv (i + 1)) σ2 H4 else Pv (i + 1) H3) (hd : ∀ H, Pv n H → Qd H) :
    ∃ W : Nat → Nat → Hp → Prop, (∃ m, W 0 m (upd H1 D (.lst []))) ∧ ∀ i m H, W i m H → (J.stop i H ∧ Qd H) ∨ (J.go i H ∧ ∃ Nx : Hp → Prop, (∀ H', Nx H' → ∃ m', m' < m ∧ W (i + 1) m' H') ∧ ∀ x H', J.yld i H x H' → g x (wipe σ vs) H' fun σ2 H2 => wipe σ2 vs = wipe σ vs ∧ tt σ2 H2 fun b H3 =>
      if b = true then wi1 σ2 H3 fun J1 H4 => InW J1 g1 tt1 te vs1 D Nx σ2 H4 else Nx H3) := by
  refine ⟨fun i m H => m = n - i ∧ i ≤ n ∧ Pv i H, ⟨n, by simp, Nat.zero_le _, h0⟩, ?_⟩
  rintro i m H ⟨rfl, hi, p⟩
  have q := hG i H hi p
  rcases Nat.lt_or_ge i n with lt | ge
  · exact .inr ⟨w.goes i H lt q, Pv (i + 1), fun H' p' => ⟨n - (i + 1), by omega, rfl, lt, p'⟩, fun x H' y => hs i x H H' lt p (w.yields i H x H' lt q y)⟩
  · obtain rfl : i = n := by omega
    exact .inl ⟨w.stops H q, hd H p⟩
end
/-! ### the pairs that interact -/
def nmAt (ks : List HD) (o : Nat) : Str := (ks.map HD.nm).getD o Str.empty
def ixAt (ks : List HD) (o : Nat) : Nat := (ks.map HD.ix).getD o 4
def okP (ks : List HD) (o i : Nat) : Bool := decide (o < i) && meetB (ixAt ks o) (ixAt ks i)
def pairsO (ks : List HD) (os : List Nat) (o : Nat) : List (Str × Str) := (os.filter fun i => okP ks o i).map fun i => (nmAt ks o, nmAt ks i)
def pairsL (ks : List HD) (os us : List Nat) : List (Str × Str) := us.flatMap fun o => pairsO ks os o
/-- tuples of two texts lie there -/
structure Prs (H : Hp) (ps : List Addr) (L : List (Str × Str)) : Prop where
  len : ps.length = L.length
  is : ∀ (i : Nat) (a : Addr) (z : Str × Str), ps[i]? = some a → L[i]? = some z → H a = some (.tup [.str z.1, .str z.2])
theorem Prs.keep {H H' : Hp} {ps : List Addr} {L : List (Str × Str)} (h : Prs H ps L) (s : Same' H H') : Prs H' ps L := ⟨h.len, fun i a z e1 e2 => s _ _ (h.is i a z e1 e2)⟩
theorem Prs.add {H : Hp} {ps : List Addr} {L : List (Str × Str)} {a : Addr} {z : Str × Str} (h : Prs H ps L) (e : H a = some (.tup [.str z.1, .str z.2])) : Prs H (ps ++ [a]) (L ++ [z]) := by
  refine ⟨by rw [List.length_append, List.length_append, h.len]; rfl, fun i b y e1 e2 => ?_⟩
  rcases Nat.lt_or_ge i ps.length with lt | ge
  · rw [List.getElem?_append_left lt] at e1
    rw [List.getElem?_append_left (by rw [← h.len]; exact lt)] at e2
    exact h.is i b y e1 e2
  · rw [List.getElem?_append_right ge] at e1
    rw [List.getElem?_append_right (by rw [← h.len]; exact ge), ← h.len] at e2
    cases hj : i - ps.length with
    | zero =>
      rw [hj] at e1 e2
      cases e1
      cases e2
      exact e
    | succ j =>
      rw [hj] at e1
      simp at e1
theorem Prs.nil {H : Hp} : Prs H [] [] := ⟨rfl, fun i a z e => by simp at e⟩
theorem Hs.get {A : A4} {H : Hp} {as : List Addr} {ks : List HD} (h : Hs A H as ks) {o : Nat} (ho : o < ks.length) : ∃ a k, (as.map V.ref)[o]? = some (.ref a) ∧ ks[o]? = some k ∧ IsH A H a k := by
  have ha : o < as.length := by rw [h.len]; exact ho
  exact ⟨as[o], ks[o], by rw [List.getElem?_map, List.getElem?_eq_getElem ha]; rfl, List.getElem?_eq_getElem ho, h.is o _ _ (List.getElem?_eq_getElem ha) (List.getElem?_eq_getElem ho)⟩
theorem pairsO_len (ks : List HD) (os : List Nat) (o : Nat) : (pairsO ks os o).length ≤ os.length := by
  unfold pairsO
  rw [List.length_map]
  exact List.length_filter_le _ _
theorem pairsL_len (ks : List HD) (os : List Nat) : ∀ us : List Nat, (pairsL ks os us).length ≤ us.length * os.length
  | [] => Nat.zero_le _
  | u :: us => by
    have := pairsL_len ks os us
    have h2 := pairsO_len ks os u
    unfold pairsL at this ⊢
    rw [List.flatMap_cons, List.length_append, List.length_cons, Nat.succ_mul]
    omega
/-- where the names of ys stand in ks -/
structure Order (ks : List HD) (os : List Nat) (ys : List Str) : Prop where
  len : os.length = ys.length
  is : ∀ (j o : Nat), os[j]? = some o → o < ks.length ∧ ys[j]? = some (nmAt ks o)
def spPairs (A : A4) : Sp := fun vs H Q _ => ∃ (t n : Addr) (as : List Addr) (ks : List HD), vs = [.ref t, .ref n] ∧ H t = some (.tup (as.map V.ref)) ∧ TupZ H n ((ks.map HD.nm).map V.str) ∧ Hs A H as ks ∧ Few ks ∧
  ∀ (p : Addr) (ps : List Addr) (os : List Nat) (ys : List Str) (H' : Hp), Asc (ks.map HD.nm) ys → Order ks os ys → Same' H H' → Prs H' ps (pairsL ks os os) → H' p = some (.tup (ps.map V.ref)) → Q (.ref p) H'
/-- meets, asked of a handler -/
structure MeetK (P : Program) (w : World) (K : PySem.W.Frag) (mg : Str → Option Value) (base : Heap) (A : A4) (bK bT fM : Addr) (dM : FuncData) : Prop where
  m : ∀ i, i < 4 → Meth K (A.at i) "meets" fM
  b : Binds K dM ["self", "other"] []
  G : FnOk P w K mg base CX0 2 fM dM ["self", "other"] (spMeets K A bK bT)
theorem no_meets (k : HD) : k.flds.lookup ("meets" : Str) = none := by cases k <;> rfl
theorem Order.nil {ks : List HD} : Order ks [] [] := ⟨rfl, fun j o e => by simp at e⟩
theorem Order.add {ks : List HD} {os : List Nat} {ys : List Str} {o : Nat} {z : Str} (h : Order ks os ys) (ho : o < ks.length) (hz : z = nmAt ks o) : Order ks (os ++ [o]) (ys ++ [z]) := by
  refine ⟨by rw [List.length_append, List.length_append, h.len]; rfl, fun j p e => ?_⟩
  rcases Nat.lt_or_ge j os.length with lt | ge
  · rw [List.getElem?_append_left lt] at e
    rw [List.getElem?_append_left (by rw [← h.len]; exact lt)]
    exact h.is j p e
  · rw [List.getElem?_append_right ge] at e
    rw [List.getElem?_append_right (by rw [← h.len]; exact ge), ← h.len]
    cases hj : j - os.length with
    | zero =>
      rw [hj] at e
      cases e
      exact ⟨ho, by rw [hz]; rfl⟩
    | succ i =>
      rw [hj] at e
      simp at e
theorem nmAt_of {ks : List HD} {o : Nat} {z : Str} (h : (ks.map HD.nm)[o]? = some z) : o < ks.length ∧ z = nmAt ks o := by
  obtain ⟨h1, h2⟩ := List.getElem?_eq_some_iff.mp h
  refine ⟨by simpa using h1, ?_⟩
  unfold nmAt
  rw [List.getD_eq_getElem?_getD, h]
  rfl
theorem first_at {zs : List Str} (nd : zs.Nodup) {z : Str} (h : z ∈ zs) : ∃ o : Nat, zs[o]? = some z ∧ ∀ m : Nat, m < o → zs[m]? ≠ some z := by
  obtain ⟨o, ho, e⟩ := List.mem_iff_getElem.mp h
  refine ⟨o, by rw [List.getElem?_eq_getElem ho, e], fun m hm q => ?_⟩
  obtain ⟨hm2, e2⟩ := List.getElem?_eq_some_iff.mp q
  exact (List.pairwise_iff_getElem.mp nd) m o hm2 ho hm (e2.trans e.symm)
theorem at_k {ks : List HD} {o : Nat} {k : HD} (h : ks[o]? = some k) : nmAt ks o = k.nm ∧ ixAt ks o = k.ix := by
  unfold nmAt ixAt
  rw [List.getD_eq_getElem?_getD, List.getD_eq_getElem?_getD, List.getElem?_map, List.getElem?_map, h]
  exact ⟨rfl, rfl⟩
theorem pairsL_step {ks : List HD} {os us : List Nat} {i o : Nat} (h : us[i]? = some o) : pairsL ks os (us.take (i + 1)) = pairsL ks os (us.take i) ++ pairsO ks os o := by
  unfold pairsL
  rw [List.take_add_one, h, List.flatMap_append]
  simp
theorem pairsO_step {ks : List HD} {os : List Nat} {j o i : Nat} (h : os[j]? = some i) : pairsO ks (os.take (j + 1)) o = pairsO ks (os.take j) o ++ (if okP ks o i = true then [(nmAt ks o, nmAt ks i)] else []) := by
  unfold pairsO
  rw [List.take_add_one, h, List.filter_append, List.map_append]
  congr 1
  show (List.filter _ [i]).map _ = _
  rw [List.filter_cons]
  split <;> rfl
def rIdx (K : PySem.W.Frag) : V → List V → Hp → VK → Prop := fun x xs H Q => ∃ p, ∃ ys : List Str, ∃ z j, x = .ref p ∧ xs = [.str z] ∧ SqT K H p (ys.map V.str) ∧ ys[j]? = some z ∧ (∀ m, m < j → ys[m]? ≠ some z) ∧ Q (.int (j : Nat)) H
section
variable {P : Program} {w : World} {K : PySem.W.Frag} {mg : Str → Option Value} {base : Heap}
abbrev nPairs : List Str := ["handlers", "names", "order", "name", "outer", "inner"]
theorem scPairs : FnScope nPairs ["handlers", "names"] (defScope sPairs) := ⟨rfl, rfl, rfl, by decide +kernel, rfl, by decide +kernel, by decide +kernel⟩
abbrev XP (P : Program) (w : World) (K : PySem.W.Frag) (mg : Str → Option Value) (base : Heap) (f : Addr) (cdv : Value) (A : Around) (outer : List Env) (s : Shared) (H : Hp) (E : XK) : Cx := (cxOf CX0 P w K mg base nPairs "_pairs_of" (defScope sPairs) f cdv A outer s H E).nox
theorem ok_pairs {A : A4} {f fA bN bK bT bH fM : Addr} {fd dA dM : FuncData} (F : Fun K "_pairs_of" "_pairs_of" sPairs f fd) (S : Hand K mg A) (T : Txt mg) (Ba : Bases K mg A bN bK bT bH) (As : FnB P w K mg base 1 "ascending" sAsc fA dA ["names"] (spAsc K)) (M : MeetK P w K mg base A bK bT fM dM) :
    FnOk P w K mg base CX0 3 f fd ["handlers", "names"] (spPairs A) := by
  refine F.ok scPairs (fun vs H Q E h => ?_) (fun cdv A0 outer s H vs Q E hr h => ?_)
  · obtain ⟨t, n, as, ks, rfl, _⟩ := h
    rfl
  · obtain ⟨t, n, as, ks, rfl, ht, hn, hs, few, q⟩ := h
    refine ⟨_, pss_cons (ps_set (i := 2) scPairs.nd rfl (.inr rfl)
        (pe_lc (own := [("name", 3)]) (g := gName 3) (tt := tYes) rfl scPairs.nd (pi_tup (pe_call As.G (hr.mono (by decide)) (by rfl) As.g As.F.kp As.b .nil pass0 (pa_cons (pv 1) pa_nil))) (blkOk_by (N := nPairs) (sc := defScope sPairs) (by decide +kernel)) (fun _ _ _ _ _ => pg_name (i := 3) scPairs.nd rfl (Or.inl rfl)) (fun _ _ _ _ _ => pts_nil)
          (fun _ _ _ _ _ => show PE _ _ (tTM (rIdx K) (tVar 1) (tCons (tVar 3) tNil)) from pe_tm PySem.F.slot_tuple_index PySem.F.type_tuple_index mt_tup_index (pv 1) (pa_cons (pv 3) pa_nil))))
      (pss_one (ps_ret (pe_callTy call_tuple_of (by rfl) T.tuple (by decide +kernel) (pa_cons
        (pe_lc2 (own := [("outer", 4), ("inner", 5)]) (vs1 := [5]) (g := gName 4) (tt := tYes) (g1 := gName 5) rfl scPairs.nd (pi_list (pv 2)) (blkOk_by (N := nPairs) (sc := defScope sPairs) (by decide +kernel)) (by decide)
          (fun _ _ _ _ _ => pg_name (i := 4) scPairs.nd rfl (Or.inl rfl)) (fun _ _ _ _ _ => pts_nil) (fun _ _ _ _ _ => show PI _ _ _ (iList K (tVar 2)) from pi_list (pv 2)) (fun _ _ _ _ _ => pg_name (i := 5) scPairs.nd rfl (Or.inl rfl))
          (fun s1 H1 C1 cl1 fp1 => pts_one (PW.pt (pw_and (pt_cmpR op_lt (pv 4) (pv 5) (nomark _)) (pw_and1 (pt_val
            (show PE _ _ (tMethA "meets" fM K (spMeets K A bK bT) [] (fun _ _ _ => False) _ _) from pe_methA (X := (XP P w K mg base f cdv A0 outer s H E).blk s1 H1 _ (compEnvC _ cl1 C1 (XP P w K mg base f cdv A0 outer s H E).env) fp1) (pe_ix (show IxR _ (rIxT K) from ix_tup) (pv 0) (pv 4) (fun _ _ => rfl)) M.G hr M.b .nil pass0 (pa_cons (pe_ix (show IxR _ (rIxT K) from ix_tup) (pv 0) (pv 5) (fun _ _ => rfl)) pa_nil)))))))
          (fun _ _ _ _ _ => pe_tup (pa_cons (pe_ix (show IxR _ (rIxT K) from ix_tup) (pv 1) (pv 4) (fun _ _ => rfl)) (pa_cons (pe_ix (show IxR _ (rIxT K) from ix_tup) (pv 1) (pv 5) (fun _ _ => rfl)) pa_nil)))) pa_nil)))), ?_⟩
    have nd := few.nd
    have lz : (ks.map HD.nm).length = ks.length := List.length_map ..
    refine ⟨.ref n, rfl, n, ks.map HD.nm, rfl, .inr hn.sq, by rw [lz]; exact few.n, fun y0 ys H1 hasc s1 hy => ?_⟩
    refine ⟨y0, rfl, ⟨_, SqT.of hy⟩, fun D hD => ?_⟩
    have yl : ys.length ≤ ks.length := by
      rw [← lz]
      exact nodup_len ys _ hasc.nd fun z hz => (hasc.mem z).mp hz
    refine lc_it walk_tup (fun i H' => Same' H1 H' ∧ ∃ os : List Nat, H' D = some (.lst (os.map fun (o : Nat) => V.int (o : Int))) ∧ Order ks os (ys.take i)) ⟨same_new hD, [], upd_same, .nil⟩ (fun i H' _ hp => SqT.of (hp.1 _ _ hy)) (fun i x H2 H3 hi hp hx => ?_) (fun H2 hp => ?_)
    · obtain ⟨sm, os, ed, ho⟩ := hp
      obtain ⟨rfl, e2⟩ := hx
      rw [List.getElem?_map] at e2
      cases ez : ys[i]? with
      | none => rw [ez] at e2; cases e2
      | some z =>
        rw [ez] at e2
        obtain rfl := (Option.some.inj e2).symm
        have hz : z ∈ ks.map HD.nm := (hasc.mem z).mp (List.mem_of_getElem? ez)
        obtain ⟨o, h1, h2⟩ := first_at nd hz
        have hn1 := hn.keep fun b o e => sm _ _ (s1 _ _ e)
        refine ⟨rfl, ⟨.ref n, rfl, ⟨n, _, rfl, hn1⟩, .str z, rfl, n, _, z, o, rfl, rfl, hn1.sq, h1, h2, _, ed, ?_, same_over hD sm, os ++ [o], ?_, ?_⟩⟩
        · rw [List.length_map, ho.len, List.length_take, sizeLine_eq]
          have := few.n
          omega
        · rw [upd_same, List.map_append]
          rfl
        · rw [List.take_add_one, ez]
          exact ho.add (nmAt_of h1).1 (nmAt_of h1).2
    obtain ⟨s2, os, ed, ho⟩ := hp
    rw [List.take_of_length_le (by rw [List.length_map]; exact Nat.le_refl _)] at ho
    have s12 := s1.trans s2
    have few64 := few.n
    have ol : os.length < 64 := by rw [ho.len]; omega
    refine ⟨.ref D, rfl, D, rfl, ⟨_, SqL.of ed⟩, fun D2 hD2 => ?_⟩
    have at_o : ∀ {i : Nat} {x : V}, (os.map fun (o : Nat) => V.int (o : Int))[i]? = some x → ∃ o, os[i]? = some o ∧ x = .int (o : Int) ∧ o < ks.length := fun {i x} e => by
      rw [List.getElem?_map] at e
      cases eo : os[i]? with
      | none => rw [eo] at e; cases e
      | some o =>
        rw [eo] at e
        exact ⟨o, rfl, (Option.some.inj e).symm, (ho.is i o eo).1⟩
    have nmz : ∀ o, o < ks.length → atI ((ks.map HD.nm).map V.str) (o : Int) = some (.str (nmAt ks o)) := fun o h => by
      refine atI_nat ?_
      rw [List.getElem?_map, List.getElem?_map, List.getElem?_eq_getElem h]
      rw [(at_k (List.getElem?_eq_getElem h)).1]
      rfl
    have lenz : ∀ i j o, i < os.length → (pairsL ks os (os.take i) ++ pairsO ks (os.take j) o).length < sizeLine := fun i j o hi => by
      have h1 := pairsL_len ks os (os.take i)
      have h2 := pairsO_len ks (os.take j) o
      rw [List.length_take] at h1 h2
      rw [List.length_append, sizeLine_eq]
      have h3 : min i os.length * os.length ≤ 63 * 63 := Nat.mul_le_mul (by omega) (by omega)
      omega
    refine lc2_out (walk_list (K := K) (a := D) (xs := os.map fun (o : Nat) => V.int (o : Int))) (fun i H' => Same' H2 H' ∧ ∃ ps : List Addr, H' D2 = some (.lst (ps.map V.ref)) ∧ Prs H' ps (pairsL ks os (os.take i))) ⟨same_new hD2, [], upd_same, .nil⟩ (fun i H' _ hp => SqL.of (hp.1 _ _ ed)) (fun i x H3 H4 hi hp hx => ?_) (fun H3 hp => ?_)
    · obtain ⟨sm, ps, ed2, hps⟩ := hp
      obtain ⟨rfl, e2⟩ := hx
      obtain ⟨o, eo, rfl, lo⟩ := at_o e2
      rw [List.length_map] at hi
      refine ⟨rfl, ⟨.ref D, rfl, D, rfl, ⟨_, SqL.of (sm _ _ ed)⟩, ?_⟩⟩
      refine lc2_in (walk_list (K := K) (a := D) (xs := os.map fun (o : Nat) => V.int (o : Int))) (fun j H' => Same' H2 H' ∧ ∃ ps : List Addr, H' D2 = some (.lst (ps.map V.ref)) ∧ Prs H' ps (pairsL ks os (os.take i) ++ pairsO ks (os.take j) o)) ⟨sm, ps, ed2, by rw [show pairsO ks (os.take 0) o = [] from rfl, List.append_nil]; exact hps⟩ (fun j H' _ hp => SqL.of (hp.1 _ _ ed)) (fun j x H5 H6 hj hp hx => ?_) (fun H5 hp => ?_)
      · obtain ⟨sm5, ps5, ed5, hps5⟩ := hp
        obtain ⟨rfl, e3⟩ := hx
        obtain ⟨o2, eo2, rfl, lo2⟩ := at_o e3
        have s15 : Same' H H6 := s12.trans sm5
        have hs5 := hs.keep s15
        have ht5 := SqT.of (K := K) (s15 _ _ ht)
        have hn5 := (hn.keep s15).sq (K := K)
        obtain ⟨a, k, ea, ek, ha⟩ := hs5.get lo
        obtain ⟨b, k2, eb, ek2, hb⟩ := hs5.get lo2
        have stp := pairsO_step (ks := ks) (o := o) eo2
        have no : okP ks o o2 = false → Same' H2 H6 ∧ ∃ ps : List Addr, H6 D2 = some (.lst (ps.map V.ref)) ∧ Prs H6 ps (pairsL ks os (os.take i) ++ pairsO ks (os.take (j + 1)) o) := fun e => by
          rw [stp, e]
          exact ⟨sm5, ps5, ed5, by simpa using hps5⟩
        have okb : okP ks o o2 = (decide (o < o2) && meetB k.ix k2.ix) := by
          unfold okP
          rw [(at_k ek).2, (at_k ek2).2]
        refine ⟨rfl, ⟨.int (o : Int), rfl, .int (o2 : Int), rfl, _, _, rfl, rfl, _, rfl, ite2 (fun e => ?_) (fun e => ?_)⟩⟩
        · have lt : o < o2 := by
            have := of_decide_eq_true e
            omega
          obtain ⟨dx, ha'⟩ := id ha
          refine ⟨.ref t, rfl, .int (o : Int), rfl, t, _, _, .ref a, rfl, rfl, ht5, atI_nat ea, a, _, dx, _, rfl, ha', (S.cls k).1, M.m _ k.ix_lt, no_meets k, ?_⟩
          refine ⟨.ref t, rfl, .int (o2 : Int), rfl, t, _, _, .ref b, rfl, rfl, ht5, atI_nat eb, .ref a, .ref b, k.ix, k2.ix, rfl, knd_h S Ba ha, knd_h S Ba hb, _, rfl, ite2 (fun e2 => ?_) (fun e2 => ?_)⟩
          · have yes : okP ks o o2 = true := by rw [okb, decide_eq_true lt, e2]; rfl
            refine ⟨.ref n, rfl, .int (o : Int), rfl, n, _, _, .str (nmAt ks o), rfl, rfl, hn5, nmz o lo, .ref n, rfl, .int (o2 : Int), rfl, n, _, _, .str (nmAt ks o2), rfl, rfl, hn5, nmz o2 lo2, by show 2 ≤ sizeLine; decide, fun tt htt => ?_⟩
            have st := same_new (o := .tup [V.str (nmAt ks o), V.str (nmAt ks o2)]) htt
            have e8 := st _ _ ed5
            have ntt : tt ≠ D2 := (ne_of_none ed5 htt).symm
            have keep : ∀ b u, b ≠ D2 → H6 b = some u → upd (upd H6 tt (.tup [.str (nmAt ks o), .str (nmAt ks o2)])) D2 (.lst (ps5.map V.ref ++ [.ref tt])) b = some u := fun b u n e => by
              rw [upd_ne n]
              exact st _ _ e
            have nD2 : ∀ b u, H2 b = some u → b ≠ D2 := fun b u e => ne_of_none e hD2
            refine ⟨_, e8, ?_, fun b u e => keep b u (nD2 b u e) (sm5 _ _ e), ps5 ++ [tt], ?_, ?_⟩
            · rw [List.length_map, hps5.len]
              exact lenz i j o hi
            · rw [upd_same, List.map_append]
              rfl
            · rw [stp, yes, if_pos rfl, ← List.append_assoc]
              refine Prs.add ⟨hps5.len, fun i2 b z e1 e2 => ?_⟩ ?_
              · have e3 := hps5.is i2 b z e1 e2
                refine keep b _ (fun q => ?_) e3
                rw [q, ed5] at e3
                cases e3
              · rw [upd_ne ntt]
                exact upd_same
          · exact no (by rw [okb, Bool.eq_false_iff.mpr e2, Bool.and_false])
        · have nlt : ¬ o < o2 := fun h => e (decide_eq_true (by omega))
          exact iteF (no (by rw [okb, decide_eq_false nlt]; rfl))
      · obtain ⟨sm5, ps5, ed5, hps5⟩ := hp
        refine ⟨sm5, ps5, ed5, ?_⟩
        rw [pairsL_step eo]
        have all : os.take ((os.map fun (o : Nat) => V.int (o : Int)).length) = os := List.take_of_length_le (by rw [List.length_map]; exact Nat.le_refl _)
        rw [all] at hps5
        exact hps5
    · obtain ⟨sm, ps, ed2, hps⟩ := hp
      rw [List.take_of_length_le (by rw [List.length_map]; exact Nat.le_refl _)] at hps
      refine ⟨D2, _, rfl, .inl ⟨SqL.of ed2, fun l hl => ?_⟩⟩
      have sl := same_new (o := .tup (ps.map V.ref)) hl
      exact q l ps os ys _ hasc ho (s12.trans (sm.trans sl)) (hps.keep sl) upd_same
end
end My
namespace My
open PySem PySem.Spec PyProof.Rows L2
/-! ### parts of rows -/
theorem cut_whole (xs : List V) {lo hi : Option Int} (h : HT.sIx xs.length 0 lo = 0 ∧ HT.sIx xs.length xs.length hi = xs.length) : cutV xs lo hi = xs := by
  unfold cutV
  rw [h.1, h.2, List.drop_zero, Nat.sub_zero, List.take_length]
theorem cut_to (xs : List V) (k : Nat) : cutV xs none (some (k : Int)) = xs.take k := by
  unfold cutV
  rw [HT.sIx_none, HT.sIx_nat, List.drop_zero, Nat.sub_zero]
  rcases Nat.le_total k xs.length with h | h
  · rw [Nat.min_eq_left h]
  · rw [Nat.min_eq_right h, List.take_length, List.take_of_length_le h]
theorem cut_from (xs : List V) (k : Nat) : cutV xs (some (k : Int)) none = xs.drop k := by
  unfold cutV
  rw [HT.sIx_none, HT.sIx_nat]
  rcases Nat.le_total k xs.length with h | h
  · rw [Nat.min_eq_left h]
    exact List.take_of_length_le (by rw [List.length_drop]; exact Nat.le_refl _)
  · rw [Nat.min_eq_right h, Nat.sub_self, List.take_zero, List.drop_of_length_le h]
theorem rd_cut {K : PySem.W.Frag} {H : Hp} {a : Addr} {xs : List V} {lo hi : Option Int} {Q : VK} (hx : SqT K H a xs) (q : ∀ r H', Same' H H' → SqT K H' r (cutV xs lo hi) → Q (.ref r) H') : rSlA K (.ref a) lo hi H Q :=
  ⟨a, xs, rfl, hx, fun h => q a H (fun _ _ e => e) (by rw [cut_whole xs h]; exact hx), fun _ p hp => q p _ (same_new hp) (SqT.of upd_same)⟩
theorem Hs.take {A : A4} {H : Hp} {as : List Addr} {ks : List HD} (h : Hs A H as ks) (n : Nat) : Hs A H (as.take n) (ks.take n) := by
  refine ⟨by rw [List.length_take, List.length_take, h.len], fun i a k e1 e2 => ?_⟩
  rw [List.getElem?_take] at e1 e2
  split at e1
  · rename_i hi
    rw [if_pos hi] at e2
    exact h.is i a k e1 e2
  · cases e1
theorem Hs.drop {A : A4} {H : Hp} {as : List Addr} {ks : List HD} (h : Hs A H as ks) (n : Nat) : Hs A H (as.drop n) (ks.drop n) := by
  refine ⟨by rw [List.length_drop, List.length_drop, h.len], fun i a k e1 e2 => ?_⟩
  rw [List.getElem?_drop] at e1 e2
  exact h.is _ a k e1 e2
def namesOf (p : Nat → Bool) (ks : List HD) : List Str := (ks.filter fun k => p k.ix).map HD.nm
theorem namesOf_step {p : Nat → Bool} {ks : List HD} {i : Nat} {k : HD} (h : ks[i]? = some k) : namesOf p (ks.take (i + 1)) = namesOf p (ks.take i) ++ (if p k.ix = true then [k.nm] else []) := by
  unfold namesOf
  rw [List.take_add_one, h, List.filter_append, List.map_append]
  congr 1
  show (List.filter _ [k]).map _ = _
  rw [List.filter_cons]
  split <;> rfl
theorem namesOf_len (p : Nat → Bool) (ks : List HD) : (namesOf p ks).length ≤ ks.length := by
  unfold namesOf
  rw [List.length_map]
  exact List.length_filter_le _ _
def isKeep (i : Nat) : Bool := decide (i < 2)
def isFail (i : Nat) : Bool := decide (i = 2)
def anyK (_ : Nat) : Bool := true
/-- [handler.name for handler in t if ..] -/
def LcW (J : It) (g : TG) (tt : TT) (te : TE) (vs : List Nat) (σ : L2.St) (D : Addr) (Qd : Hp → Prop) (H1 : Hp) : Prop := ∃ W : Nat → Nat → Hp → Prop, (∃ m, W 0 m (upd H1 D (.lst []))) ∧ ∀ i m H, W i m H →
  (J.stop i H ∧ Qd H) ∨ (J.go i H ∧ ∃ Nx : Hp → Prop, (∀ H', Nx H' → ∃ m', m' < m ∧ W (i + 1) m' H') ∧ ∀ x H', J.yld i H x H' → g x (wipe σ vs) H' fun σ2 H2 => wipe σ2 vs = wipe σ vs ∧ tt σ2 H2 fun b H3 =>
    if b = true then te σ2 H3 fun y H4 => ∃ acc, H4 D = some (.lst acc) ∧ acc.length < sizeLine ∧ Nx (upd H4 D (.lst (acc ++ [y]))) else Nx H3)
section
variable {K : PySem.W.Frag} {mg : Str → Option Value} {A : A4}
theorem names_lap {σ : L2.St} {h : Nat} {H1 : Hp} {D t : Addr} {as : List Addr} {ks : List HD} {tt : TT} {Qd : Hp → Prop} (S : Hand K mg A) (p : Nat → Bool) (hv : ∀ x : V, ((wipe σ [h]).set h (some x))[h]? = some (some x)) (hw : ∀ x : V, wipe ((wipe σ [h]).set h (some x)) [h] = wipe σ [h])
    (htt : ∀ (a : Addr) (k : HD) (H' : Hp) (R : Bool → Hp → Prop), Same' H1 H' → IsH A H' a k → R (p k.ix) H' → tt ((wipe σ [h]).set h (some (.ref a))) H' R) (hD : H1 D = none) (ht : SqT K H1 t (as.map V.ref)) (hs : Hs A H1 as ks) (few : ks.length < 64)
    (q : ∀ H', Same' H1 H' → H' D = some (.lst ((namesOf p ks).map V.str)) → Qd H') : LcW (Itt K t) (gName h) tt (tFld K (tVar h) "name") [h] σ D Qd H1 := by
  refine lc_it walk_tup (fun i H' => Same' H1 H' ∧ H' D = some (.lst ((namesOf p (ks.take i)).map V.str))) ⟨same_new hD, upd_same⟩ (fun i H' _ hp => ht.ext hp.1) (fun i x H2 H3 hi hp hx => ?_) (fun H2 hp => ?_)
  · obtain ⟨sm, ed⟩ := hp
    obtain ⟨rfl, e2⟩ := hx
    obtain ⟨a, k, ea, ek, rfl, ha⟩ := (hs.keep sm).at e2
    refine ⟨hw _, htt a k H3 _ sm ha ?_⟩
    have stp := namesOf_step (p := p) ek
    refine ite2 (fun e => ?_) (fun e => ?_)
    · obtain ⟨dx, ha'⟩ := id ha
      obtain ⟨c1, c2, _⟩ := S.cls k
      refine ⟨.ref a, hv _, a, _, dx, _, .str k.nm, rfl, ha', c1, c2, flds_nm k, _, ed, ?_, same_over hD sm, ?_⟩
      · have := namesOf_len p (ks.take i)
        rw [List.length_take] at this
        rw [List.length_map, sizeLine_eq]
        omega
      · rw [upd_same, stp, if_pos e, List.map_append]
        rfl
    · refine ⟨sm, ?_⟩
      rw [stp, if_neg e, List.append_nil]
      exact ed
  · refine q H2 hp.1 ?_
    rw [hp.2, List.take_of_length_le (by rw [List.length_map, hs.len]; exact Nat.le_refl _)]
theorem tt_isi {σ : L2.St} {h : Nat} {B : Addr} (S : Hand K mg A) (p : Nat → Bool) (hB : ∀ i, i < 4 → PySem.W.kitOne K (.ref (A.at i)) (.ref B) = some (p i)) {a : Addr} {k : HD} {H' : Hp} {R : Bool → Hp → Prop} (hv : σ[h]? = some (some (.ref a))) (ha : IsH A H' a k) (r : R (p k.ix) H') :
    tB (tCB (rIsi K) (tCons (tVar h) (tCons (tC (.ref B)) tNil))) σ H' R :=
  ⟨.ref a, hv, .ref a, .ref B, _, .ref B, _, rfl, .own _, S.ty ha, hB _ k.ix_lt, _, rfl, r⟩
end
/-! ### what a stack is -/
def chAt (ks : List HD) : Nat := ((ks.map HD.nm).findIdx? fun z => decide (z = ("choice" : Str))).getD 0
structure Stk (A : A4) (C : Addr) (H : Hp) (a : Addr) (ks : List HD) (dx t n p1 p2 p3 p4 : Addr) (as ps : List Addr) (y1 y2 y3 ys : List Str) (os : List Nat) : Prop where
  o : H a = some (.ins C dx [("handlers", .ref t), ("names", .ref n), ("shared", .ref p1), ("own", .ref p2), ("gathering", .ref p3), ("pairs", .ref p4)])
  t : H t = some (.tup (as.map V.ref))
  hs : Hs A H as ks
  n : TupZ H n ((ks.map HD.nm).map V.str)
  s1 : H p1 = some (.tup (y1.map V.str))
  s2 : H p2 = some (.tup (y2.map V.str))
  s3 : H p3 = some (.tup (y3.map V.str))
  s4 : H p4 = some (.tup (ps.map V.ref))
  a1 : Asc (namesOf isKeep (ks.take (chAt ks))) y1
  a2 : Asc (namesOf isKeep (ks.drop (chAt ks))) y2
  a3 : Asc (namesOf isFail (ks.take (chAt ks))) y3
  pr : Prs H ps (pairsL ks os os)
  ay : Asc (ks.map HD.nm) ys
  od : Order ks os ys
theorem Stk.keep {A : A4} {C : Addr} {H H' : Hp} {a : Addr} {ks : List HD} {dx t n p1 p2 p3 p4 : Addr} {as ps : List Addr} {y1 y2 y3 ys : List Str} {os : List Nat} (h : Stk A C H a ks dx t n p1 p2 p3 p4 as ps y1 y2 y3 ys os) (s : Same' H H') : Stk A C H' a ks dx t n p1 p2 p3 p4 as ps y1 y2 y3 ys os :=
  ⟨s _ _ h.o, s _ _ h.t, h.hs.keep s, h.n.keep s, s _ _ h.s1, s _ _ h.s2, s _ _ h.s3, s _ _ h.s4, h.a1, h.a2, h.a3, h.pr.keep s, h.ay, h.od⟩
def StkAt (A : A4) (C : Addr) (H : Hp) (a : Addr) (ks : List HD) : Prop := ∃ dx t n p1 p2 p3 p4 as ps y1 y2 y3 ys os, Stk A C H a ks dx t n p1 p2 p3 p4 as ps y1 y2 y3 ys os
theorem StkAt.keep {A : A4} {C : Addr} {H H' : Hp} {a : Addr} {ks : List HD} (h : StkAt A C H a ks) (s : Same' H H') : StkAt A C H' a ks := by
  obtain ⟨dx, t, n, p1, p2, p3, p4, as, ps, y1, y2, y3, ys, os, h⟩ := h
  exact ⟨_, _, _, _, _, _, _, _, _, _, _, _, _, _, h.keep s⟩
structure SCls (K : PySem.W.Frag) (mg : Str → Option Value) (C : Addr) : Prop where
  g : mg "Stack" = some (.ref C)
  c : Cls K C
  no : ∀ f ∈ (["handlers", "names", "shared", "own", "gathering", "pairs"] : List Str), NoAttr K C f
end My
namespace My
open PySem PySem.Spec PyProof.Rows L2
abbrev sStk (i : Nat) : Stmt := inClass (topS 40) i
/-- its __init__, the handlers in a tuple -/
def spIniT (A : A4) (C : Addr) : Sp := fun vs H Q _ => ∃ (a dx t : Addr) (as : List Addr) (ks : List HD), vs = [.ref a, .ref t] ∧ H a = some (.ins C dx []) ∧ H t = some (.tup (as.map V.ref)) ∧ Hs A H as ks ∧ Few ks ∧
  ∀ H', Keep1 a H H' → StkAt A C H' a ks → Q .non H'
def spIni (A : A4) (C : Addr) : Sp := fun vs H Q _ => ∃ (a dx : Addr) (as : List Addr) (ks : List HD), vs = .ref a :: as.map V.ref ∧ H a = some (.ins C dx []) ∧ Hs A H as ks ∧ Few ks ∧
  ∀ H', Keep1 a H H' → StkAt A C H' a ks → Q .non H'
theorem namesOf_any (ks : List HD) : namesOf anyK ks = ks.map HD.nm := by
  unfold namesOf anyK
  rw [List.filter_eq_self.mpr fun _ _ => rfl]
theorem Keep1.of {a : Addr} {H H' : Hp} (s : Same' H H') : Keep1 a H H' := fun b o _ e => s b o e
theorem Keep1.trans {a : Addr} {H H' H2 : Hp} (s : Keep1 a H H') (t : Keep1 a H' H2) : Keep1 a H H2 := fun b o n e => t b o n (s b o n e)
theorem put_at {C dx a : Addr} {H : Hp} (f : Str) (v : V) (fs : List (Str × V)) : ∃ H', upd H a (.ins C dx (putF f v fs)) = H' ∧ Keep1 a H H' ∧ H' a = some (.ins C dx (putF f v fs)) :=
  ⟨_, rfl, fun b o n e => by rw [upd_ne n]; exact e, upd_same⟩
theorem Hs.keep1 {A : A4} {H H' : Hp} {a dx : Addr} {C : Addr} {fs : List (Str × V)} {as : List Addr} {ks : List HD} (h : Hs A H as ks) (n : ∀ b ∈ as, b ≠ a) (s : Keep1 a H H') : Hs A H' as ks :=
  ⟨h.len, fun i b k e1 e2 => let ⟨dx, q⟩ := h.is i b k e1 e2; ⟨dx, s b _ (n b (List.mem_of_getElem? e1)) q⟩⟩
section
variable {K : PySem.W.Frag} {H H' : Hp} {a C dx : Addr} {fs : List (Str × V)}
theorem ne_ins {x : Addr} {o : HO} (ha : H a = some (.ins C dx fs)) (h : H x = some o) (n : o ≠ .ins C dx fs) : x ≠ a := fun z => by
  rw [z, ha] at h
  exact n (Option.some.inj h).symm
theorem keep_tup {x : Addr} {xs : List V} (k : Keep1 a H H') (ha : H a = some (.ins C dx fs)) (h : H x = some (.tup xs)) : H' x = some (.tup xs) := k _ _ (ne_ins ha h (fun z => nomatch z)) h
theorem keep_sq {x : Addr} {xs : List V} (k : Keep1 a H H') (ha : H a = some (.ins C dx fs)) (h : SqT K H x xs) : SqT K H' x xs := by
  rcases h with (h | ⟨o, h⟩) | h
  · exact .inl (.inl (keep_tup k ha h))
  · exact .inl (.inr ⟨o, k _ _ (ne_ins ha h (fun z => nomatch z)) h⟩)
  · exact .inr h
theorem keep_z {x : Addr} {xs : List V} (k : Keep1 a H H') (ha : H a = some (.ins C dx fs)) (h : TupZ H x xs) : TupZ H' x xs := by
  obtain ⟨o, e, d⟩ := h
  exact ⟨o, k _ _ (ne_ins ha e (fun z => nomatch z)) e, d⟩
theorem keep_prs {ps : List Addr} {L : List (Str × Str)} (k : Keep1 a H H') (ha : H a = some (.ins C dx fs)) (h : Prs H ps L) : Prs H' ps L := ⟨h.len, fun i b z e1 e2 => keep_tup k ha (h.is i b z e1 e2)⟩
end
abbrev nIni : List Str := ["self", "handlers", "outside", "inside", "handler"]
section
variable {P : Program} {w : World} {K : PySem.W.Frag} {mg : Str → Option Value} {base : Heap}
theorem scIni : FnScope nIni ["self", "handlers"] (defScope (sStk 0)) := ⟨rfl, rfl, rfl, by decide +kernel, rfl, by decide +kernel, by decide +kernel⟩
structure InK (P : Program) (w : World) (K : PySem.W.Frag) (mg : Str → Option Value) (base : Heap) (A : A4) (C bN bK bT bH fC fA fP : Addr) (dC dA dP : FuncData) : Prop where
  S : Hand K mg A
  T : Txt mg
  Ba : Bases K mg A bN bK bT bH
  SC : SCls K mg C
  Ck : FnB P w K mg base 1 "_check_handlers" sChkH fC dC ["handlers"] (spChk K A)
  As : FnB P w K mg base 1 "ascending" sAsc fA dA ["names"] (spAsc K)
  Pa : FnB P w K mg base 3 "_pairs_of" sPairs fP dP ["handlers", "names"] (spPairs A)
theorem find_first {zs : List Str} {z : Str} {j : Nat} (h1 : zs[j]? = some z) (h2 : ∀ m, m < j → zs[m]? ≠ some z) : (zs.findIdx? fun y => decide (y = z)).getD 0 = j := by
  have : zs.findIdx? (fun y => decide (y = z)) = some j := by
    obtain ⟨hj, e⟩ := List.getElem?_eq_some_iff.mp h1
    refine List.findIdx?_eq_some_iff_getElem.mpr ⟨hj, decide_eq_true e, fun m hm => ?_⟩
    have hm2 : m < zs.length := Nat.lt_trans hm hj
    have := h2 m hm
    rw [List.getElem?_eq_getElem hm2] at this
    simp only [decide_eq_true_eq]
    exact fun q => this (by rw [q])
  rw [this]
  rfl
theorem find_none {zs : List Str} {z : Str} (h : z ∉ zs) : (zs.findIdx? fun y => decide (y = z)).getD 0 = 0 := by
  have : zs.findIdx? (fun y => decide (y = z)) = none := List.findIdx?_eq_none_iff.mpr fun y hy => decide_eq_false fun e => h (e ▸ hy)
  rw [this]
  rfl
/-- the handlers outside of the choice -/
theorem rd_out {C a dx n t : Addr} {σ : L2.St} {H : Hp} {Q : VK} {fs : List (Str × V)} {ks : List HD} {as : List Addr} (SC : SCls K mg C) (e0 : σ[0]? = some (some (.ref a))) (e1 : σ[1]? = some (some (.ref t))) (ha : H a = some (.ins C dx fs)) (hf : fs.lookup ("names" : Str) = some (.ref n)) (hz : TupZ H n ((ks.map HD.nm).map V.str))
    (nd : (ks.map HD.nm).Nodup) (ht : SqT K H t (as.map V.ref)) (q : ∀ r H', Same' H H' → SqT K H' r ((as.take (chAt ks)).map V.ref) → Q (.ref r) H') :
    tIf (tTest (tOp (rIn K false) (tC (.str "choice")) (tFld K (tVar 0) "names"))) (tSl (rSlA K) (tVar 1) tNoPart (tPart (tTM (rIdx K) (tFld K (tVar 0) "names") (tCons (tC (.str "choice")) tNil)))) (tTup tNil) σ H Q := by
  refine ⟨.ref a, e0, a, C, dx, _, .ref n, rfl, ha, SC.c, SC.no _ (by simp), hf, n, _, rfl, .inr hz.sq, rfl, flat_strs _, _, rfl, ?_⟩
  show if inV _ _ = true then _ else _
  rw [inV_strs]
  refine ite2 (fun e => ?_) (fun e => ?_)
  · obtain ⟨j, h1, h2⟩ := first_at nd (of_decide_eq_true e)
    have ej : chAt ks = j := find_first h1 h2
    refine ⟨.ref t, e1, .ref a, e0, a, C, dx, _, .ref n, rfl, ha, SC.c, SC.no _ (by simp), hf, ⟨n, _, rfl, hz⟩, n, _, _, j, rfl, rfl, hz.sq, h1, h2, _, rfl, ?_⟩
    refine rd_cut ht fun r H' s' hr => q r H' s' ?_
    rw [cut_to, ← List.map_take] at hr
    rw [ej]
    exact hr
  · have ej : chAt ks = 0 := find_none fun h => e (decide_eq_true h)
    refine ⟨by show 0 ≤ sizeLine; decide, fun r hr => q r _ (same_new hr) ?_⟩
    rw [ej]
    exact SqT.of upd_same
/-- one of the sides -/
theorem rd_side {A : A4} {σ : L2.St} {i : Nat} {H : Hp} {Q : VK} {E : XK} {B r : Addr} {as : List Addr} {ks : List HD} (S : Hand K mg A) (p : Nat → Bool) (hB : ∀ i, i < 4 → PySem.W.kitOne K (.ref (A.at i)) (.ref B) = some (p i)) (e : σ[i]? = some (some (.ref r)))
    (hv : ∀ x : V, ((wipe σ [4]).set 4 (some x))[4]? = some (some x)) (hw : ∀ x : V, wipe ((wipe σ [4]).set 4 (some x)) [4] = wipe σ [4]) (hr : SqT K H r (as.map V.ref)) (hs : Hs A H as ks) (few : ks.length < 64)
    (q : ∀ (d : Addr) (y : List Str) (H' : Hp), Asc (namesOf p ks) y → Same' H H' → H' d = some (.tup (y.map V.str)) → Q (.ref d) H') :
    tCall (spAsc K) [] E (tCons (tLc (iTup K (tVar i)) (gName 4) (tB (tCB (rIsi K) (tCons (tVar 4) (tCons (tC (.ref B)) tNil)))) (tFld K (tVar 4) "name") [4]) tNil) σ H Q := by
  refine ⟨.ref r, e, r, rfl, ⟨_, hr⟩, fun D hD => ?_⟩
  refine names_lap S p hv hw (fun b k H' R _ hb x => tt_isi S p hB (hv _) hb x) hD hr hs few fun H7 s7 e7 => ⟨D, _, rfl, .inl (SqL.of e7), Nat.lt_of_le_of_lt (namesOf_len p ks) few, fun d y H8 asc s8 e8 => q d y H8 asc (s7.trans s8) e8⟩
theorem ini_body {A : A4} {C f bN bK bT bH fC fA fP : Addr} {dC dA dP : FuncData} {cdv : Value} {A0 : Around} {outer : List Env} {s : Shared} {H : Hp} {vs : List V} {Q : VK} {E : XK} (Z : InK P w K mg base A C bN bK bT bH fC fA fP dC dA dP)
    (hr : Room 4 (cxOf (L2.CX P w) P w K mg base nIni "Stack.__init__" (defScope (sStk 0)) f cdv A0 outer s H E).A) (h : spIniT A C vs H Q E) :
    ∃ t, PSs (cxOf (L2.CX P w) P w K mg base nIni "Stack.__init__" (defScope (sStk 0)) f cdv A0 outer s H E) (defBody (sStk 0)) t ∧ t { nx := fun _ H' => Q .non H', rt := Q } (L2.start nIni vs) H := by
  obtain ⟨a, dx, t, as, ks, rfl, ha, ht, hs, few, q⟩ := h
  refine ⟨_, pss_cons (ps_expr (pe_call Z.Ck.G (hr.mono (by decide)) (by rfl) Z.Ck.g Z.Ck.F.kp Z.Ck.b .nil pass0 (pa_cons (pv 1) pa_nil)))
    (pss_cons (ps_fld (pv 0) (pv 1) (by rfl))
    (pss_cons (ps_fld (pv 0) (pe_callTy cr_tupZ (by rfl) Z.T.tuple (by decide +kernel) (pa_cons (pe_lc (own := [("handler", 4)]) (g := gName 4) (tt := tYes) rfl scIni.nd (pi_tup (pv 1)) (blkOk_by (N := nIni) (sc := defScope (sStk 0)) (by decide +kernel)) (fun _ _ _ _ _ => pg_name (i := 4) scIni.nd rfl (Or.inl rfl)) (fun _ _ _ _ _ => pts_nil)
        (fun _ _ _ _ _ => show PE _ _ (tFld K (tVar 4) "name") from pe_fld (pv 4) (by rfl))) pa_nil)) (by rfl))
    (pss_cons (ps_set (i := 2) scIni.nd rfl (.inl rfl) (pe_ifExp (pt_cmpR op_in_seq pe_str (pe_fld (pv 0) (by rfl)) (by rfl))
        (pe_slice sl_tupA (pv 1) po_none (po_some (pe_tm PySem.F.slot_tuple_index PySem.F.type_tuple_index mt_tup_index (pe_fld (pv 0) (by rfl)) (pa_cons pe_str pa_nil)))) (pe_tup pa_nil)))
    (pss_cons (ps_set (i := 3) scIni.nd rfl (.inl rfl) (pe_slice sl_tupA (pv 1) (po_some (pe_callB call_len_seq (by rfl) Z.T.len PySem.boot_len (pa_cons (pv 2) pa_nil))) po_none))
    (pss_cons (ps_fld (pv 0) (pe_call Z.As.G (hr.mono (by decide)) (by rfl) Z.As.g Z.As.F.kp Z.As.b .nil pass0 (pa_cons (pe_lc (own := [("handler", 4)]) (g := gName 4) rfl scIni.nd (pi_tup (pv 2)) (blkOk_by (N := nIni) (sc := defScope (sStk 0)) (by decide +kernel)) (fun _ _ _ _ _ => pg_name (i := 4) scIni.nd rfl (Or.inl rfl))
        (fun _ _ _ _ _ => pts_one (show PT _ _ (tB (tCB (rIsi K) (tCons (tVar 4) (tCons (tC (.ref bK)) tNil)))) from pt_val (pe_callB call_isi (by rfl) Z.T.isi (by decide +kernel) (pa_cons (pv 4) (pa_cons (pe_glob (v := .ref bK) rfl Z.Ba.gK rfl) pa_nil))))) (fun _ _ _ _ _ => show PE _ _ (tFld K (tVar 4) "name") from pe_fld (pv 4) (by rfl))) pa_nil)) (by rfl))
    (pss_cons (ps_fld (pv 0) (pe_call Z.As.G (hr.mono (by decide)) (by rfl) Z.As.g Z.As.F.kp Z.As.b .nil pass0 (pa_cons (pe_lc (own := [("handler", 4)]) (g := gName 4) rfl scIni.nd (pi_tup (pv 3)) (blkOk_by (N := nIni) (sc := defScope (sStk 0)) (by decide +kernel)) (fun _ _ _ _ _ => pg_name (i := 4) scIni.nd rfl (Or.inl rfl))
        (fun _ _ _ _ _ => pts_one (show PT _ _ (tB (tCB (rIsi K) (tCons (tVar 4) (tCons (tC (.ref bK)) tNil)))) from pt_val (pe_callB call_isi (by rfl) Z.T.isi (by decide +kernel) (pa_cons (pv 4) (pa_cons (pe_glob (v := .ref bK) rfl Z.Ba.gK rfl) pa_nil))))) (fun _ _ _ _ _ => show PE _ _ (tFld K (tVar 4) "name") from pe_fld (pv 4) (by rfl))) pa_nil)) (by rfl))
    (pss_cons (ps_fld (pv 0) (pe_call Z.As.G (hr.mono (by decide)) (by rfl) Z.As.g Z.As.F.kp Z.As.b .nil pass0 (pa_cons (pe_lc (own := [("handler", 4)]) (g := gName 4) rfl scIni.nd (pi_tup (pv 2)) (blkOk_by (N := nIni) (sc := defScope (sStk 0)) (by decide +kernel)) (fun _ _ _ _ _ => pg_name (i := 4) scIni.nd rfl (Or.inl rfl))
        (fun _ _ _ _ _ => pts_one (show PT _ _ (tB (tCB (rIsi K) (tCons (tVar 4) (tCons (tC (.ref A.f)) tNil)))) from pt_val (pe_callB call_isi (by rfl) Z.T.isi (by decide +kernel) (pa_cons (pv 4) (pa_cons (pe_glob (v := .ref A.f) rfl Z.S.cF.g rfl) pa_nil))))) (fun _ _ _ _ _ => show PE _ _ (tFld K (tVar 4) "name") from pe_fld (pv 4) (by rfl))) pa_nil)) (by rfl))
    (pss_one (ps_fld (pv 0) (pe_call Z.Pa.G (hr.mono (by decide)) (by rfl) Z.Pa.g Z.Pa.F.kp Z.Pa.b .nil pass0 (pa_cons (pv 1) (pa_cons (pe_fld (pv 0) (by rfl)) pa_nil))) (by rfl)))))))))), ?_⟩
  have nta : t ≠ a := fun z => by rw [z, ha] at ht; cases ht
  have nas : ∀ b ∈ as, b ≠ a := fun b hb z => by
    obtain ⟨i, e⟩ := List.getElem?_of_mem hb
    obtain ⟨b', k, eb, ek, x, hk⟩ := hs.at (i := i) (x := .ref b) (by rw [List.getElem?_map, e]; rfl)
    cases x
    obtain ⟨dx', hk⟩ := hk
    rw [z, ha] at hk
    injection hk with hk
    injection hk with _ _ hk
    cases k <;> cases hk
  refine ⟨.ref t, rfl, t, as, ks, rfl, ht, hs, few, fun H1 s1 => ?_⟩
  refine ⟨.ref t, rfl, .ref a, rfl, a, C, dx, [], rfl, s1 _ _ ha, Z.SC.c, Z.SC.no _ (by simp), by decide, ?_⟩
  obtain ⟨H2, e2, k2, a2⟩ := put_at (C := C) (dx := dx) (a := a) (H := H1) "handlers" (.ref t) []
  rw [e2]
  have k02 := (Keep1.of (a := a) s1).trans k2
  have t2 := k02 _ _ nta ht
  have hs2 := hs.keep1 (C := C) (dx := dx) (fs := []) nas k02
  refine ⟨.ref t, rfl, t, rfl, ⟨_, SqT.of t2⟩, fun D hD => ?_⟩
  refine names_lap Z.S anyK (fun _ => rfl) (fun _ => rfl) (fun b k H' R _ _ r => r) hD (SqT.of t2) hs2 few.n fun H3 s3 e3 => ⟨D, _, rfl, SqL.of e3, fun n o hn hd => ⟨.ref a, rfl, a, C, dx, _, rfl, same_new hn _ _ (s3 _ _ a2), Z.SC.c, Z.SC.no _ (by simp), by show 1 < 1000; decide, ?_⟩⟩
  rw [namesOf_any] at *
  obtain ⟨H4, e4, k4, a4⟩ := put_at (C := C) (dx := dx) (a := a) (H := upd H3 n (.frz o (.tup ((ks.map HD.nm).map V.str)))) "names" (.ref n) [("handlers", .ref t)]
  rw [show putF ("handlers" : Str) (.ref t) [] = [(("handlers" : Str), V.ref t)] from rfl, e4]
  have k34 := (Keep1.of (a := a) (same_new hn)).trans k4
  have k24 := (Keep1.of (a := a) s3).trans k34
  have nna : n ≠ a := (ne_of_none (s3 _ _ a2) hn).symm
  have z4 : TupZ H4 n ((ks.map HD.nm).map V.str) := ⟨o, k4 _ _ nna upd_same, hd⟩
  have t4 := k24 _ _ nta t2
  have hs4 := hs2.keep1 (C := C) (dx := dx) (fs := []) nas k24
  have a4' : H4 a = some (.ins C dx [("handlers", .ref t), ("names", .ref n)]) := a4
  clear a4 e4 e3
  have k04 := k02.trans k24
  refine rd_out Z.SC rfl rfl a4' rfl z4 few.nd (SqT.of t4) fun r H5 s5 r5 => ?_
  refine ⟨.ref t, rfl, .ref r, rfl, r, _, rfl, .inr r5, _, rfl, ?_⟩
  unfold tNoPart
  dsimp only
  refine rd_cut (SqT.of (s5 _ _ t4)) fun r2 H6 s6 r6 => ?_
  have tl : ((as.take (chAt ks)).map V.ref).length = min (chAt ks) as.length := by rw [List.length_map, List.length_take]
  have r6' : SqT K H6 r2 ((as.drop (chAt ks)).map V.ref) := by
    rw [cut_from, tl, ← List.map_drop] at r6
    rcases Nat.le_total (chAt ks) as.length with h | h
    · rw [Nat.min_eq_left h] at r6
      exact r6
    · rw [Nat.min_eq_right h] at r6
      rw [List.drop_of_length_le h]
      rw [List.drop_of_length_le (Nat.le_refl _)] at r6
      exact r6
  have s46 := s5.trans s6
  have hs6 := hs4.keep s46
  have few64 := few.n
  have lt64 : (ks.take (chAt ks)).length < 64 := by rw [List.length_take]; omega
  have ld64 : (ks.drop (chAt ks)).length < 64 := by rw [List.length_drop]; omega
  refine rd_side (i := 2) Z.S isKeep Z.Ba.kK rfl (fun _ => rfl) (fun _ => rfl) (r5.ext s6) (hs6.take _) lt64 fun p1 y1 H7 asc1 s7 e7 => ?_
  have s47 := s46.trans s7
  refine ⟨.ref a, rfl, a, C, dx, _, rfl, s47 _ _ a4', Z.SC.c, Z.SC.no _ (by simp), by show 2 < 1000; decide, ?_⟩
  obtain ⟨H8, e8, k8, a8⟩ := put_at (C := C) (dx := dx) (a := a) (H := H7) "shared" (.ref p1) [("handlers", .ref t), ("names", .ref n)]
  rw [e8]
  have b7 := s47 _ _ a4'
  have a8' : H8 a = some (.ins C dx [("handlers", .ref t), ("names", .ref n), ("shared", .ref p1)]) := a8
  have r8 := keep_sq k8 b7 ((r5.ext s6).ext s7)
  have r82 := keep_sq k8 b7 (r6'.ext s7)
  have p18 := keep_tup k8 b7 e7
  have t8 := keep_tup k8 b7 (s47 _ _ t4)
  have z8 := keep_z k8 b7 (z4.keep s47)
  have hs8 := (hs4.keep s47).keep1 (C := C) (dx := dx) (fs := []) nas k8
  have k08 := k04.trans ((Keep1.of (a := a) s47).trans k8)
  clear a8 e8 e7
  refine rd_side (i := 3) Z.S isKeep Z.Ba.kK rfl (fun _ => rfl) (fun _ => rfl) r82 (hs8.drop _) ld64 fun p2 y2 H9 asc2 s9 e9 => ?_
  refine ⟨.ref a, rfl, a, C, dx, _, rfl, s9 _ _ a8', Z.SC.c, Z.SC.no _ (by simp), by show 3 < 1000; decide, ?_⟩
  obtain ⟨Ha, ea, ka, aa⟩ := put_at (C := C) (dx := dx) (a := a) (H := H9) "own" (.ref p2) [("handlers", .ref t), ("names", .ref n), ("shared", .ref p1)]
  rw [ea]
  have b9 := s9 _ _ a8'
  have aa' : Ha a = some (.ins C dx [("handlers", .ref t), ("names", .ref n), ("shared", .ref p1), ("own", .ref p2)]) := aa
  have ra := keep_sq ka b9 (r8.ext s9)
  have p1a := keep_tup ka b9 (s9 _ _ p18)
  have p2a := keep_tup ka b9 e9
  have ta := keep_tup ka b9 (s9 _ _ t8)
  have za := keep_z ka b9 (z8.keep s9)
  have hsa := (hs8.keep s9).keep1 (C := C) (dx := dx) (fs := []) nas ka
  have k0a := k08.trans ((Keep1.of (a := a) s9).trans ka)
  clear aa ea e9
  refine rd_side (i := 2) Z.S isFail (fun i hi => Z.S.kit i 2 hi (by decide)) rfl (fun _ => rfl) (fun _ => rfl) ra (hsa.take _) lt64 fun p3 y3 Hb asc3 sb eb => ?_
  refine ⟨.ref a, rfl, a, C, dx, _, rfl, sb _ _ aa', Z.SC.c, Z.SC.no _ (by simp), by show 4 < 1000; decide, ?_⟩
  obtain ⟨Hc, ec, kc, ac⟩ := put_at (C := C) (dx := dx) (a := a) (H := Hb) "gathering" (.ref p3) [("handlers", .ref t), ("names", .ref n), ("shared", .ref p1), ("own", .ref p2)]
  rw [ec]
  have bb := sb _ _ aa'
  have ac' : Hc a = some (.ins C dx [("handlers", .ref t), ("names", .ref n), ("shared", .ref p1), ("own", .ref p2), ("gathering", .ref p3)]) := ac
  have p1c := keep_tup kc bb (sb _ _ p1a)
  have p2c := keep_tup kc bb (sb _ _ p2a)
  have p3c := keep_tup kc bb eb
  have tc := keep_tup kc bb (sb _ _ ta)
  have zc := keep_z kc bb (za.keep sb)
  have hsc := (hsa.keep sb).keep1 (C := C) (dx := dx) (fs := []) nas kc
  have k0c := k0a.trans ((Keep1.of (a := a) sb).trans kc)
  clear ac ec eb
  refine ⟨.ref t, rfl, .ref a, rfl, a, C, dx, _, .ref n, rfl, ac', Z.SC.c, Z.SC.no _ (by simp), rfl, t, n, as, ks, rfl, tc, zc, hsc, few, fun p4 ps os ys Hd asc4 od4 sd pr4 e4 => ?_⟩
  refine ⟨.ref a, rfl, a, C, dx, _, rfl, sd _ _ ac', Z.SC.c, Z.SC.no _ (by simp), by show 5 < 1000; decide, ?_⟩
  obtain ⟨He, ee, ke, ae⟩ := put_at (C := C) (dx := dx) (a := a) (H := Hd) "pairs" (.ref p4) [("handlers", .ref t), ("names", .ref n), ("shared", .ref p1), ("own", .ref p2), ("gathering", .ref p3)]
  rw [ee]
  have bd := sd _ _ ac'
  have k0e := k0c.trans ((Keep1.of (a := a) sd).trans ke)
  refine q He k0e ⟨dx, t, n, p1, p2, p3, p4, as, ps, y1, y2, y3, ys, os, ⟨ae, keep_tup ke bd (sd _ _ tc), (hsc.keep sd).keep1 (C := C) (dx := dx) (fs := []) nas ke, keep_z ke bd (zc.keep sd), keep_tup ke bd (sd _ _ p1c), keep_tup ke bd (sd _ _ p2c), keep_tup ke bd (sd _ _ p3c), keep_tup ke bd e4, asc1, asc2, asc3, keep_prs ke bd pr4, asc4, od4⟩⟩
theorem ok_ini {A : A4} {C f bN bK bT bH fC fA fP : Addr} {fd dC dA dP : FuncData} (F : Fun K "__init__" "Stack.__init__" (sStk 0) f fd) (Z : InK P w K mg base A C bN bK bT bH fC fA fP dC dA dP) : FnR P w K mg base (L2.CX P w) 5 f (spIni A C) := by
  obtain ⟨oc, od, kV, doc, pm, an, cdv, ct, osl, rfl, lk, hcd⟩ := F.ex
  refine FnR.imp (StX.fn_star (ps := ["self"]) (pv := "handlers") (sp := spIniT A C) lk hcd scIni StX.cxUp (StX.bind_star1 (B := fun us => bindArgs (PySem.W.fnOf "__init__" "Stack.__init__" (defArgs (sStk 0)) (defBody (sStk 0)) (defScope (sStk 0)) .none kV doc pm an cdv ct) ⟨us, []⟩) (fun _ => rfl) (fun _ _ _ => rfl)) fun A0 outer s H vs Q E hr h => ini_body Z hr h) fun vs H Q E h => ?_
  obtain ⟨a, dx, as, ks, rfl, ha, hs, few, q⟩ := h
  refine ⟨[.ref a], as.map V.ref, rfl, rfl, ?_, fun p hp => ?_⟩
  · have := few.n
    rw [List.length_map, hs.len, sizeLine_eq]
    omega
  · have s := same_new (o := .tup (as.map V.ref)) hp
    exact ⟨a, dx, p, as, ks, rfl, s _ _ ha, upd_same, hs.keep s, few, fun H' k st => q H' ((Keep1.of s).trans k) st⟩
end
end My
namespace My
open PySem PySem.Spec PyProof.Rows L2
def First (ks : List HD) (z : Str) (j : Nat) : Prop := (ks.map HD.nm)[j]? = some z ∧ ∀ m : Nat, m < j → (ks.map HD.nm)[m]? ≠ some z
theorem made_same {H H' : Hp} {x dx : Addr} {o : HO} (hx : H x = none) (hdx : H dx = none) (k : Keep1 x (upd (upd H dx (.own x)) x o) H') : Same' H H' := fun b u e => k b u (ne_of_none e hx) (by rw [upd_ne (ne_of_none e hx), upd_ne (ne_of_none e hdx)]; exact e)
/-- a call that might raise, but doesn't -/
theorem passF {X : Cx} : Passes (L2.CX X.prog X.w) X (fun _ _ _ => False) := fun _ _ _ _ _ _ _ h => by
  obtain ⟨_, _, _, _, _, _, _, _, _, _, _, _, z⟩ := h
  exact z.elim
def spOf (A : A4) (C : Addr) : Sp := fun vs H Q _ => ∃ (l : Addr) (as : List Addr) (ks : List HD), vs = [.ref l] ∧ H l = some (.lst (as.map V.ref)) ∧ Hs A H as ks ∧ Few ks ∧ ∀ (a : Addr) (H' : Hp), Same' H H' → StkAt A C H' a ks → Q (.ref a) H'
def spPlace (A : A4) (C : Addr) : Sp := fun vs H Q _ => ∃ (a : Addr) (ks : List HD) (z : Str) (j : Nat), vs = [.ref a, .str z] ∧ StkAt A C H a ks ∧ First ks z j ∧ Q (.int (j : Int)) H
section
variable {P : Program} {w : World} {K : PySem.W.Frag} {mg : Str → Option Value} {base : Heap}
abbrev nOf : List Str := ["handlers"]
theorem scOf : FnScope nOf nOf (defScope (sStk 1)) := ⟨rfl, rfl, rfl, by decide +kernel, rfl, by decide +kernel, by decide +kernel⟩
theorem ok_of {A : A4} {C f fI : Addr} {fd : FuncData} (F : Fun K "of" "Stack.of" (sStk 1) f fd) (T : Txt mg) (SC : SCls K mg C) (M : Mk K C fI) (GI : FnR P w K mg base (L2.CX P w) 5 fI (spIni A C)) : FnOk P w K mg base CX0 7 f fd nOf (spOf A C) := by
  refine F.ok scOf (fun vs H Q E h => ?_) (fun cdv A0 outer s H vs Q E hr h => ?_)
  · obtain ⟨l, as, ks, rfl, _⟩ := h
    rfl
  · obtain ⟨l, as, ks, rfl, hl, hs, few, q⟩ := h
    refine ⟨_, pss_cons (ps_if (pt_not (pt_val (pe_callB call_isiT (by rfl) T.isi (by decide +kernel) (pa_cons (pv 0) (pa_cons (pe_tup (pa_cons (pe_bltn (by rfl) T.list (by decide +kernel) (show RelV (.ty "list") _ from rfl)) (pa_cons (pe_bltn (by rfl) T.tuple (by decide +kernel) (show RelV (.ty "tuple") _ from rfl)) pa_nil))) pa_nil))))) (pss_one ps_never) pss_nil)
      (pss_one (ps_ret (pe_makeS M GI hr (by rfl) SC.g passF (pv 0)))), ?_⟩
    refine ⟨.ref l, rfl, by show 2 ≤ sizeLine; decide, fun tp htp => ?_⟩
    have s1 := same_new (o := .tup [V.ty "list", V.ty "tuple"]) htp
    refine ⟨.ref l, tp, _, .type "list", [.type "list", .type "tuple"], true, rfl, upd_same, .cons (.ty "list") (.cons (.ty "tuple") .nil), .base (.lst (s1 _ _ hl)), ?_, true, rfl, iteF ?_⟩
    · show (PySem.W.kitAny K (.type "list") [.type "list", .type "tuple"]) = some true
      unfold PySem.W.kitAny
      rw [show PySem.W.kitOne K (.type "list") (.type "list") = some true from kit_ty (by decide +kernel)]
    · refine ⟨.ref l, rfl, l, _, rfl, .inr (SqL.of (s1 _ _ hl)), fun x dx hx hdx ndx => ?_⟩
      refine ⟨x, dx, as, ks, rfl, upd_same, (hs.keep s1).keep (made_same (o := .ins C dx []) hx hdx (fun _ _ _ e => e)), few, fun H' k st => ⟨rfl, q x H' (s1.trans (made_same hx hdx k)) st⟩⟩
abbrev nPlace : List Str := ["self", "name"]
theorem scPlace : FnScope nPlace nPlace (defScope (sStk 9)) := ⟨rfl, rfl, rfl, by decide +kernel, rfl, by decide +kernel, by decide +kernel⟩
theorem ok_place {A : A4} {C f : Addr} {fd : FuncData} (F : Fun K "place" "Stack.place" (sStk 9) f fd) (SC : SCls K mg C) : FnOk P w K mg base CX0 1 f fd nPlace (spPlace A C) := by
  refine F.ok scPlace (fun vs H Q E h => ?_) (fun cdv A0 outer s H vs Q E hr h => ?_)
  · obtain ⟨a, ks, z, j, rfl, _⟩ := h
    rfl
  · obtain ⟨a, ks, z, j, rfl, st, ⟨f1, f2⟩, q⟩ := h
    obtain ⟨dx, t, n, p1, p2, p3, p4, as, ps, y1, y2, y3, ys, os, st⟩ := st
    refine ⟨_, pss_cons (ps_if (pt_cmpR op_notIn_seq (pv 1) (pe_fld (pv 0) (by rfl)) (by rfl)) (pss_one ps_never) pss_nil)
      (pss_one (ps_ret (pe_tm PySem.F.slot_tuple_index PySem.F.type_tuple_index mt_tup_index (pe_fld (pv 0) (by rfl)) (pa_cons (pv 1) pa_nil)))), ?_⟩
    refine ⟨.str z, rfl, .ref a, rfl, a, C, dx, _, .ref n, rfl, st.o, SC.c, SC.no _ (by simp), rfl, n, _, rfl, .inr st.n.sq, rfl, flat_strs _, _, rfl, ?_⟩
    show if (!inV _ _) = true then _ else _
    rw [inV_strs, decide_eq_true (List.mem_of_getElem? f1)]
    refine iteF ?_
    exact ⟨.ref a, rfl, a, C, dx, _, .ref n, rfl, st.o, SC.c, SC.no _ (by simp), rfl, ⟨n, _, rfl, st.n⟩, .str z, rfl, n, _, z, j, rfl, rfl, st.n.sq, f1, f2, q⟩
structure MethB (P : Program) (w : World) (K : PySem.W.Frag) (mg : Str → Option Value) (base : Heap) (k : Nat) (C : Addr) (m : Str) (f : Addr) (fd : FuncData) (ps : List Str) (sp : Sp) : Prop where
  m : Meth K C m f
  b : Binds K fd ps []
  G : FnOk P w K mg base CX0 k f fd ps sp
end
end My
namespace My
open PySem PySem.Spec PyProof.Rows L2
/-- own == of a handler class -/
structure OwnE (P : Program) (w : World) (K : PySem.W.Frag) (mg : Str → Option Value) (base : Heap) (A : A4) (i : Nat) (fE : Addr) (dE : FuncData) : Prop where
  eq : PySem.W.findIn K (.ref (A.at i)) "__eq__" = some (some (.ref fE))
  ef : PySem.W.isFn K (.ref fE) = true
  bE : Binds K dE ["self", "other"] []
  gE : FnOk P w K mg base CX0 1 fE dE ["self", "other"] (spEq K A i)
  nf : ∀ j, j < 4 → PySem.W.notFirst K (A.at i) (.ref (A.at j)) = true
def OwnsE (P : Program) (w : World) (K : PySem.W.Frag) (mg : Str → Option Value) (base : Heap) (A : A4) : Prop := ∀ i, i < 4 → ∃ fE dE, OwnE P w K mg base A i fE dE
theorem isH_inj {K : PySem.W.Frag} {mg : Str → Option Value} {A : A4} (S : Hand K mg A) {H : Hp} {a : Addr} {k k2 : HD} (h : IsH A H a k) (h2 : IsH A H a k2) : k = k2 := by
  obtain ⟨dx, e⟩ := h
  obtain ⟨dx2, e2⟩ := h2
  rw [e] at e2
  injection e2 with e2
  injection e2 with e3 e4 e5
  have ei : k.ix = k2.ix := by
    have q1 := S.kit k.ix k2.ix k.ix_lt k2.ix_lt
    have q2 := S.kit k2.ix k2.ix k2.ix_lt k2.ix_lt
    rw [e3, q2] at q1
    have := Option.some.inj q1
    simpa using this.symm
  cases k <;> cases k2 <;> first
    | rfl
    | (simp [HD.ix] at ei; done)
    | (simp [HD.flds] at e5; first | rw [e5] | (obtain ⟨q1, q2⟩ := e5; rw [q1, q2]))
/-- two handlers that are equal -/
def DH (A : A4) : Eqv := fun x y H => ∃ a b k, x = .ref a ∧ y = .ref b ∧ IsH A H a k ∧ IsH A H b k
theorem mon_dh {A : A4} : Mon (DH A) := fun x y H H' e d => by
  obtain ⟨a, b, k, hx, hy, h1, h2⟩ := d
  exact ⟨a, b, k, hx, hy, h1.keep e, h2.keep e⟩
def SamH (A : A4) (i : Nat) : Addr → Addr → Hp → Prop := fun a b H => ∃ k : HD, k.ix = i ∧ IsH A H a k ∧ IsH A H b k
theorem eqG_dh {X : Cx} {A : A4} (O : OwnsE X.prog X.w X.K X.mg X.base A) : EqG X 1 (DH A) := by
  intro A1 pins s σ H x y u v sb I rx ry d
  obtain ⟨a, b, k, rfl, rfl, h1, h2⟩ := d
  obtain ⟨fE, dE, o⟩ := O k.ix k.ix_lt
  have imp : ∀ vs H Q E, L2.spEq (SamH A k.ix) vs H Q E → spEq X.K A k.ix vs H Q E := fun vs H Q E h => by
    obtain ⟨a, b, rfl, ⟨k', hk, i1, i2⟩, q⟩ := h
    exact ⟨a, k', .ref b, decide (k' = k'), rfl, hk, i1, .inl ⟨b, k', rfl, i2, rfl⟩, by rw [decide_eq_true (p := k' = k') rfl]; exact q H Ext.rfl'⟩
  have G : FnOk X.prog X.w X.K X.mg X.base CX0 1 fE dE ["self", "other"] (L2.spEq (SamH A k.ix)) := ⟨fun vs H Q E h => o.gE.len _ _ _ _ (imp vs H Q E h), fun A outer s H args us vs Q E r e0 bi re h => o.gE.run A outer s H args us vs Q E r e0 bi re (imp vs H Q E h)⟩
  obtain ⟨dx, e1⟩ := id h1
  obtain ⟨dy, e2⟩ := id h2
  exact eqG_ins (C := A.at k.ix) (E := fun _ _ _ => False) G o.eq o.ef o.bE pass0 A1 pins s σ H (.ref a) (.ref b) u v sb I rx ry ⟨a, b, dx, dy, _, _, rfl, rfl, e1, e2, k, rfl, h1, h2⟩
end My
/-! for over an instance whose own __iter__ gives iter(a tuple) -/
namespace MyI
open PySem
open Builtin
section
variable {prog : Program} {w : World} {A : Around} {E : Value → Shared → Prop} {s : Shared} {l : Addr} {items : Array Value}
theorem call_iterT {Q : Value → Shared → Prop} (hl : s.heap.IsTuple l items) (h : Q (.ref s.heap.objs.size) { s with heap := s.heap.push { cls := .type "tuple_iterator", data := .fields #[.ref l, .int 0 0] } }) : wpAny (model prog w) A (call (.builtin "iter") [.ref l]) Q E s := by
  refine Calls.call_function_entry (by decide +kernel) (by decide +kernel) PySem.W.kdk_entry_iter (PySem.W.kdk_args_iter _) ?_
  unfold Builtin.«iter»
  refine wpAny_bind (m := someArgs "iter" 1 2 _) (wpAny_of_eq (a := [Value.ref l]) (by first | rfl | kernel_rfl!) ?_)
  show wpAny _ _ (pyIter (.ref l) >>= _) _ _ _
  refine wpAny_bind (wpAny_pyIter_tuple hl ?_)
  exact wpAny_pure ⟨_, rfl, h⟩
end
end MyI
namespace My
open PySem PySem.Spec PyProof.Rows L2
def TItO (l it : Addr) : HO := .ext fun h => h.IsTupleIter it l 0
/-- a def's promise that knows how many objects there were -/
structure FnS (P : Program) (w : World) (K : PySem.W.Frag) (mg : Str → Option Value) (base : Heap) (CX : CXT) (k : Nat) (f : Addr) (fd : FuncData) (ps : List Str) (sp : Nat → Sp) : Prop where
  len : ∀ n vs H Q E, sp n vs H Q E → vs.length = ps.length
  run : ∀ (A : Around) (outer : List Env) (s : Shared) (H : Hp) (args : Args) (us : List Value) (vs : List V) (Q : VK) (E : XK), Room k A → Env0 P w K mg base A outer s H → BindsTo s fd args (ps.zip us) → Vals vs us → sp s.heap.objs.size vs H Q E →
    codeAny (model P w) A (.call (.ref f) args) (CR CX outer P w H s Q E) s
section
variable {P : Program} {w : World} {K : PySem.W.Frag} {mg : Str → Option Value} {base : Heap}
theorem okS {x qual : Str} {st : Stmt} {f : Addr} {fd : FuncData} {N ps : List Str} {k : Nat} {sp : Nat → Sp} (F : Fun K x qual st f fd) (S : FnScope N ps (defScope st)) (len : ∀ n vs H Q E, sp n vs H Q E → vs.length = ps.length)
    (body : ∀ (cdv : Value) (A : Around) (outer : List Env) (s : Shared) (H : Hp) (vs : List V) (Q : VK) (E : XK), Room k (A.deeper (envOfC qual (defScope st) s.heap.objs.size f cdv)) → sp s.heap.objs.size vs H Q E →
      ∃ t, PSs (cxOf CX0 P w K mg base N qual (defScope st) f cdv A outer s H E).nox (defBody st) t ∧ t { nx := fun _ H' => Q .non H', rt := Q } (start N vs) H) : FnS P w K mg base CX0 (k + 1) f fd ps sp := by
  obtain ⟨oc, od, kV, doc, pm, an, cdv, ct, osl, rfl, lk, hcd⟩ := F.ex
  refine ⟨len, ?_⟩
  intro A outer s H args us vs Q E room e0 bind rel prom
  have stays : ∀ b o, base.get? b = some o → s.heap.get? b = some o := fun b o z => (e0.bs b o z).1
  have KS : K.In s.heap := e0.mod.kin.keeps stays
  have many := len _ _ _ _ _ prom
  have kinds : ∀ y ∈ ps.zip us, (defScope st).names.lookup y.1 = some .local ∨ ((defScope st).names.lookup y.1 = some .cell ∧ ((cellsFrom (s.heap.objs.size + 1) (defScope st).names []).lookup y.1).isSome = true) := by
    intro y hy
    cases S.par y.1 (List.of_mem_zip hy).1 with
    | inl q => exact .inl q
    | inr q => exact .inr ⟨q, PySem.W.cellsFrom_some _ _ _ (.inl q)⟩
  refine codeAny_call_function room.depth (KS _ _ lk) rfl S.co S.gen rfl (PySem.W.codeRec_of KS hcd) (bind _ _ _ _ ?_)
  refine wpAny_newFunctionEnv_cells S.kind kinds fun env he s2 ic => ?_
  subst he
  refine ⟨(e0.mod.nolimit.keeps stays).keeps ic.toInCall.keep, codeAny_func ?_⟩
  obtain ⟨t, ht, hq⟩ := body cdv A outer s H vs Q E (room.deeper _) prom
  refine wpAny_mono (ht.nox.run [] s2 (start N vs) H _ (inv_start S room.hd e0 many rel ic) hq) (fun fl s' hs => ?_) fun e s' hs => hs
  cases fl with
  | ret u => exact (let ⟨v, _, H', J, rv, q⟩ := hs; ⟨v, H', J.os, J.bare, J.base, J.hok, rv, q⟩)
  | next => exact (let ⟨_, H', J, q⟩ := hs; ⟨.non, H', J.os, J.bare, J.base, J.hok, rfl, q⟩)
  | brk => exact (let ⟨_, _, _, q⟩ := hs; q).elim
  | cont => exact (let ⟨_, _, _, q⟩ := hs; q).elim
end
section
variable {X : Cx}
theorem runS {CX : CXT} {k : Nat} {f : Addr} {fd : FuncData} {ps : List Str} {sp : Nat → Sp} {E : XK} {pins : List (Addr × Obj)} {σ : L2.St} {H : Hp} {s : Shared} {Q : VK} {us : List Value} {vs : List V} (F : FnS X.prog X.w X.K X.mg X.base CX k f fd ps sp) (hr : Room k X.A) (hb : Binds X.K fd ps []) (hx : Passes CX X E)
    (I : Inv X pins σ H s) (r : Vals vs us) (h : sp s.heap.objs.size vs H Q E) : wpAny (model X.prog X.w) X.A (call (.ref f) us) (EP X pins σ Q) X.xe s := by
  have many : us.length = ps.length := r.length ▸ F.len _ _ _ _ _ h
  have bind := hb s us I.kIn (by simpa using many)
  rw [List.append_nil] at bind
  refine wpAny_call (codeAny_mono (F.run X.A X.stack s H ⟨us, []⟩ us vs Q E hr I.env0 bind r h) ?_)
  intro r s' hq
  match r, hq with
  | .error e, hq => exact hx pins σ H s e s' I hq
  | .ok (.ret u), hq => exact I.after hq
/-- iter(t), a tuple -/
def rIterT (K : PySem.W.Frag) (n : Nat) : List V → Hp → VK → Prop := fun xs H Q => ∃ (l : Addr) (zs : List V), xs = [.ref l] ∧ SqT K H l zs ∧ ∀ it, H it = Option.none → n ≤ it → Q (.ref it) (upd H it (TItO l it))
theorem call_iterTup : CallR X (.builtin "iter") (rIterT X.K X.s_0.heap.objs.size) := by
  intro pins s σ H xs us Q I r h
  obtain ⟨l, zs, rfl, hq, q⟩ := h
  obtain ⟨u, rfl, ru⟩ := vals1 r
  cases ru
  obtain ⟨its, rv, pl, hz⟩ := I.tuple hq
  refine MyI.call_iterT pl ?_
  refine ⟨.ref s.heap.objs.size, _, I.laid (t' := s.toks) (o := TItO l s.heap.objs.size) (fun b u e => Heap.get?_push_of_some _ e) (Nat.le_refl _) ?_, rfl, q _ (I.hok.fresh (Nat.le_refl _)) I.sz⟩
  have e := Heap.get?_push_size s.heap (o := { cls := .type "tuple_iterator", data := .fields #[.ref l, .int 0 0] }) rfl
  exact ⟨⟨_, e, rfl, rfl⟩, ⟨_, e⟩, fun h1 h2 ⟨o, q1, q2, q3⟩ k => ⟨o, k _ q1, q2, q3⟩⟩
/-- for .. in o, o of an own class whose __iter__ gives iter(a tuple) -/
def iOwn (K : PySem.W.Frag) (C : Addr) (sp : Nat → Sp) (te : TE) : TI := fun σ H R => te σ H fun x H1 => ∃ a dx fs, x = .ref a ∧ H1 a = some (.ins C dx fs) ∧
  ∀ n, sp n [.ref a] H1 (fun v H2 => ∃ t it xs, v = .ref it ∧ H2 it = some (TItO t it) ∧ n ≤ it ∧ SqT K (ItX.dropH H2 it) t xs ∧ R (Itt K t) (ItX.dropH H2 it)) (fun _ _ _ => False)
theorem pi_own {CX : CXT} {k : Nat} {f C : Addr} {fd : FuncData} {ps : List Str} {sp : Nat → Sp} {tg l : Expr} {tl : TE} (hl : PE X l tl) (hs : PySem.W.findIn X.K (.ref C) "__iter__" = some (some (.ref f))) (hf : PySem.W.isFn X.K (.ref f) = true)
    (F : FnS X.prog X.w X.K X.mg X.base CX k f fd ps sp) (hr : Room k X.A) (hb : Binds X.K fd ps []) (hx : Passes CX X (fun _ _ _ => False)) : PI X tg l (iOwn X.K C sp tl) := by
  refine ⟨fun pins s σ H R I h => ?_⟩
  refine thn (hl.run pins s σ H _ I h) fun v s1 ⟨x, H1, I1, r1, q1⟩ => ?_
  obtain ⟨a, dx, fs, rfl, ea, q⟩ := q1
  obtain rfl : v = Value.ref a := r1
  obtain ⟨mA, J, _⟩ := ins_get I1.hok ea
  obtain ⟨od, J, _⟩ := J.look
  obtain ⟨m, hF⟩ := I1.fr
  refine PySem.W.owit_iter hF I1.ok.mod.kin J hs hf ?_
  refine wpAny_mono (runS F hr hb hx I1 (.cons (show RelV (.ref a) (.ref a) from rfl) .nil) (q _)) (fun u s2 hz => ?_) fun _ _ z => z
  obtain ⟨v2, H2, I2, r2, t, it, xs, rfl, eit, hn, hsq, qR⟩ := hz
  obtain rfl : u = Value.ref it := r2
  obtain ⟨hit, _, _⟩ := I2.hok it _ eit
  have hT : s2.TypeIs (.ref it) "tuple_iterator" := by
    obtain ⟨o, e1, e2, _⟩ := hit
    exact ⟨o, e1, e2⟩
  unfold PySem.W.OwitIt
  refine wpAny_specialOf (name := Str.ofString "__next__") hT PySem.F.slot_tuple_iterator_next.lookup ?_
  refine ⟨it, [it], _, _, ItX.dropH H2 it, rfl, ItX.inv_drop I2 eit, turn_tuple t _, hit, fun b hb => ?_, qR⟩
  obtain rfl : b = it := by simpa using hb
  exact ItX.inv_fp I2 eit (Nat.le_trans I1.sz hn)
end
end My
namespace My
open PySem PySem.Spec PyProof.Rows L2
/-! ### stacks: ==, iter, handler, check_stack -/
structure SIs (K : PySem.W.Frag) (C : Addr) : Prop where
  dc : PySem.W.findIn K (.ref C) "__class__" = some (some (.builtin "object.__class__"))
  mo : PySem.W.mroIn K C (.type "object") = some true
  kit : PySem.W.kitOne K (.ref C) (.ref C) = some true
def spEqS (A : A4) (C : Addr) : Sp := fun vs H Q _ => ∃ (a b : Addr) (ks : List HD), vs = [.ref a, .ref b] ∧ StkAt A C H a ks ∧ StkAt A C H b ks ∧ ∀ H', Same' H H' → Q (.bl true) H'
def spIterS (A : A4) (C : Addr) (n : Nat) : Sp := fun vs H Q _ => ∃ (a dx t nn p1 p2 p3 p4 : Addr) (ks : List HD) (as ps : List Addr) (y1 y2 y3 ys : List Str) (os : List Nat), vs = [.ref a] ∧ Stk A C H a ks dx t nn p1 p2 p3 p4 as ps y1 y2 y3 ys os ∧ ∀ it, H it = none → n ≤ it → Q (.ref it) (upd H it (TItO t it))
def spHandler (A : A4) (C : Addr) : Sp := fun vs H Q _ => ∃ (a : Addr) (ks : List HD) (z : Str) (j : Nat) (k : HD), vs = [.ref a, .str z] ∧ StkAt A C H a ks ∧ First ks z j ∧ ks[j]? = some k ∧ ∀ b, IsH A H b k → Q (.ref b) H
def spCheckS (A : A4) (C : Addr) : Sp := fun vs H Q _ => ∃ (a : Addr) (z : Str) (ks : List HD), vs = [.ref a, .str z] ∧ StkAt A C H a ks ∧ Q .non H
theorem hs_prs {A : A4} {H : Hp} {as bs : List Addr} {ks : List HD} (h : Hs A H as ks) (h2 : Hs A H bs ks) : L2.Prs (DH A) (as.map V.ref) (bs.map V.ref) H := by
  refine ⟨by rw [List.length_map, List.length_map, h.len, h2.len], fun i x y e1 e2 => ?_⟩
  obtain ⟨a, k, _, ek, rfl, ha⟩ := h.at e1
  obtain ⟨b, k2, _, ek2, rfl, hb⟩ := h2.at e2
  rw [ek] at ek2
  cases ek2
  exact ⟨a, b, k, rfl, rfl, ha, hb⟩
theorem ty_stk {K : PySem.W.Frag} {mg : Str → Option Value} {A : A4} {C : Addr} (S : Hand K mg A) (SC : SCls K mg C) (Si : SIs K C) {H : Hp} {a : Addr} {ks : List HD} (st : StkAt A C H a ks) : TyX K H (.ref a) (.ref C) := by
  obtain ⟨dx, t, n, p1, p2, p3, p4, as, ps, y1, y2, y3, ys, os, st⟩ := st
  exact .base (.ins st.o SC.c Si.dc S.hn S.tk Si.mo)
section
variable {P : Program} {w : World} {K : PySem.W.Frag} {mg : Str → Option Value} {base : Heap}
theorem scEqS : FnScope ["self", "other"] ["self", "other"] (defScope (sStk 7)) := ⟨rfl, rfl, rfl, by decide +kernel, rfl, by decide +kernel, by decide +kernel⟩
theorem ok_eqS {A : A4} {C f : Addr} {fd : FuncData} (F : Fun K "__eq__" "Stack.__eq__" (sStk 7) f fd) (T : Txt mg) (S : Hand K mg A) (SC : SCls K mg C) (Si : SIs K C) (O : OwnsE P w K mg base A) : FnOk P w K mg base CX0 4 f fd ["self", "other"] (spEqS A C) := by
  refine F.ok scEqS (fun vs H Q E h => ?_) (fun cdv A0 outer s H vs Q E hr h => ?_)
  · obtain ⟨a, b, ks, rfl, _⟩ := h
    rfl
  · obtain ⟨a, b, ks, rfl, st, st2, q⟩ := h
    refine ⟨_, pss_one (ps_ret (pe_and (pe_callB call_isi (by rfl) T.isi (by decide +kernel) (pa_cons (pv 1) (pa_cons (pe_glob (v := .ref C) rfl SC.g rfl) pa_nil)))
      (pe_one (pe_cmpR (op_eqG (rcG_tup mon_dh (eqG_dh (X := (cxOf CX0 P w K mg base ["self", "other"] "Stack.__eq__" (defScope (sStk 7)) f cdv A0 outer s H E).nox) (A := A) O)) (hr.mono (by decide))) (pe_fld (pv 0) (by rfl)) (pe_fld (pv 1) (by rfl)) (nomark _))))), ?_⟩
    have tyb := ty_stk S SC Si st2
    obtain ⟨dx, t, n, p1, p2, p3, p4, as, ps, y1, y2, y3, ys, os, st⟩ := st
    obtain ⟨dx2, t2, n2, q1, q2, q3, q4, as2, ps2, x1, x2, x3, xs, os2, st2⟩ := st2
    refine ⟨.ref b, rfl, .ref b, .ref C, _, .ref C, true, rfl, .own _, tyb, Si.kit, true, rfl, iteT ?_⟩
    exact ⟨.ref a, rfl, a, C, dx, _, .ref t, rfl, st.o, SC.c, SC.no _ (by simp), rfl, .ref b, rfl, b, C, dx2, _, .ref t2, rfl, st2.o, SC.c, SC.no _ (by simp), rfl, ⟨t, t2, _, _, rfl, rfl, SqT.of st.t, SqT.of st2.t, hs_prs st.hs st2.hs⟩, fun H' e => q H' e⟩
theorem scIterS : FnScope ["self"] ["self"] (defScope (sStk 4)) := ⟨rfl, rfl, rfl, by decide +kernel, rfl, by decide +kernel, by decide +kernel⟩
theorem ok_iterS {A : A4} {C f : Addr} {fd : FuncData} (F : Fun K "__iter__" "Stack.__iter__" (sStk 4) f fd) (SC : SCls K mg C) (it : mg "iter" = none) : FnS P w K mg base CX0 1 f fd ["self"] (spIterS A C) := by
  refine okS F scIterS (fun n vs H Q E h => ?_) (fun cdv A0 outer s H vs Q E hr h => ?_)
  · obtain ⟨a, dx, t, nn, p1, p2, p3, p4, ks, as, ps, y1, y2, y3, ys, os, rfl, _⟩ := h
    rfl
  · obtain ⟨a, dx, t, nn, p1, p2, p3, p4, ks, as, ps, y1, y2, y3, ys, os, rfl, st, q⟩ := h
    refine ⟨_, pss_one (ps_ret (pe_callB call_iterTup (by rfl) it (by decide +kernel) (pa_cons (pe_fld (pv 0) (by rfl)) pa_nil))), ?_⟩
    exact ⟨.ref a, rfl, a, C, dx, _, .ref t, rfl, st.o, SC.c, SC.no _ (by simp), rfl, t, _, rfl, SqT.of st.t, fun i hi hn => q i hi hn⟩
theorem scHandler : FnScope ["self", "name"] ["self", "name"] (defScope (sStk 10)) := ⟨rfl, rfl, rfl, by decide +kernel, rfl, by decide +kernel, by decide +kernel⟩
theorem ok_handler {A : A4} {C f fP : Addr} {fd dP : FuncData} (F : Fun K "handler" "Stack.handler" (sStk 10) f fd) (SC : SCls K mg C) (MP : MethB P w K mg base 1 C "place" fP dP nPlace (spPlace A C)) : FnOk P w K mg base CX0 2 f fd ["self", "name"] (spHandler A C) := by
  refine F.ok scHandler (fun vs H Q E h => ?_) (fun cdv A0 outer s H vs Q E hr h => ?_)
  · obtain ⟨a, ks, z, j, k, rfl, _⟩ := h
    rfl
  · obtain ⟨a, ks, z, j, k, rfl, st, f1, fk, q⟩ := h
    refine ⟨_, pss_one (ps_ret (pe_ix ix_tup (pe_fld (pv 0) (by rfl)) (pe_meth (pv 0) SC.c MP.m MP.G hr MP.b .nil pass0 (pa_cons (pv 1) pa_nil)) (fun _ _ => rfl))), ?_⟩
    obtain ⟨dx, t, n, p1, p2, p3, p4, as, ps, y1, y2, y3, ys, os, st'⟩ := id st
    have lj : j < ks.length := (List.getElem?_eq_some_iff.mp fk).1
    obtain ⟨b, k', eb, ek, hb⟩ := st'.hs.get lj
    rw [fk] at ek
    cases ek
    refine ⟨.ref a, rfl, a, C, dx, _, .ref t, rfl, st'.o, SC.c, SC.no _ (by simp), rfl, .ref a, rfl, a, dx, _, rfl, st'.o, rfl, .str z, rfl, a, ks, z, j, rfl, st, f1, ?_⟩
    exact ⟨t, _, _, .ref b, rfl, rfl, SqT.of st'.t, atI_nat eb, q b hb⟩
theorem scCheckS : FnScope ["value", "part"] ["value", "part"] (defScope sCheckS) := ⟨rfl, rfl, rfl, by decide +kernel, rfl, by decide +kernel, by decide +kernel⟩
theorem ok_checkS {A : A4} {C f : Addr} {fd : FuncData} (F : Fun K "check_stack" "check_stack" sCheckS f fd) (T : Txt mg) (S : Hand K mg A) (SC : SCls K mg C) (Si : SIs K C) : FnOk P w K mg base CX0 1 f fd ["value", "part"] (spCheckS A C) := by
  refine F.ok scCheckS (fun vs H Q E h => ?_) (fun cdv A0 outer s H vs Q E hr h => ?_)
  · obtain ⟨a, z, ks, rfl, _⟩ := h
    rfl
  · obtain ⟨a, z, ks, rfl, st, q⟩ := h
    refine ⟨_, pss_one (ps_if (pt_not (pt_val (pe_callB call_isi (by rfl) T.isi (by decide +kernel) (pa_cons (pv 0) (pa_cons (pe_glob (v := .ref C) rfl SC.g rfl) pa_nil))))) (pss_one ps_never) pss_nil), ?_⟩
    exact ⟨.ref a, rfl, .ref a, .ref C, _, .ref C, true, rfl, .own _, ty_stk S SC Si st, Si.kit, true, rfl, iteF q⟩
end
end My
namespace My
open PySem PySem.Spec PyProof.Rows L2
/-! ### runs of one sort -/
def addRun (gs : List (List HD)) (k : HD) : List (List HD) := match gs.getLast? with
  | none => gs ++ [[k]]
  | some g => match g.getLast? with
    | none => gs ++ [[k]]
    | some j => if meetB j.ix k.ix = false then gs.dropLast ++ [g ++ [k]] else gs ++ [[k]]
def runsL (ks : List HD) : List (List HD) := ks.foldl addRun []
theorem addRun_nil (k : HD) : addRun [] k = [[k]] := rfl
theorem addRun_last (gi : List (List HD)) (g' : List HD) (j k : HD) : addRun (gi ++ [g' ++ [j]]) k = if meetB j.ix k.ix = false then gi ++ [(g' ++ [j]) ++ [k]] else (gi ++ [g' ++ [j]]) ++ [[k]] := by
  unfold addRun
  rw [List.getLast?_append]
  simp
theorem runsL_step {ks : List HD} {i : Nat} {k : HD} (h : ks[i]? = some k) : runsL (ks.take (i + 1)) = addRun (runsL (ks.take i)) k := by
  unfold runsL
  rw [List.take_add_one, h, List.foldl_append]
  rfl
theorem atI_last {α : Type} (xs : List α) (x : α) : atI (xs ++ [x]) (-1) = some x := by
  have e : ixN (xs ++ [x]).length (-1) = some xs.length := by
    unfold ixN
    simp
    omega
  unfold atI
  rw [e]
  simp
structure Grp (A : A4) (H0 H : Hp) (fa : Addr) (ls : List Addr) (gs : List (List HD)) : Prop where
  f : H fa = some (.lst (ls.map V.ref))
  len : ls.length = gs.length
  is : ∀ (i : Nat) (l : Addr) (g : List HD), ls[i]? = some l → gs[i]? = some g → ∃ as : List Addr, H l = some (.lst (as.map V.ref)) ∧ Hs A H as g
  nd : (fa :: ls).Nodup
  new : ∀ l ∈ fa :: ls, H0 l = none
  ne : ∀ g ∈ gs, g ≠ []
def spRuns (A : A4) (C : Addr) : Sp := fun vs H Q _ => ∃ (a : Addr) (ks : List HD), vs = [.ref a] ∧ StkAt A C H a ks ∧ ks.length ≤ 63 ∧ ∀ (fa : Addr) (ls : List Addr) (H' : Hp), Grp A H H' fa ls (runsL ks) → Same' H H' → Q (.ref fa) H'
theorem Hs.upd {A : A4} {H : Hp} {as : List Addr} {g : List HD} {l : Addr} {xs ys : List V} (h : Hs A H as g) (e : H l = some (.lst xs)) : Hs A (upd H l (.lst ys)) as g := by
  refine ⟨h.len, fun i b k e1 e2 => ?_⟩
  obtain ⟨dx, hb⟩ := h.is i b k e1 e2
  exact ⟨dx, by rw [upd_ne (fun z => by rw [z, e] at hb; cases hb)]; exact hb⟩
theorem isH_upd {A : A4} {H : Hp} {a l : Addr} {k : HD} {xs ys : List V} (h : IsH A H a k) (e : H l = some (.lst xs)) : IsH A (upd H l (.lst ys)) a k := by
  obtain ⟨dx, hb⟩ := h
  exact ⟨dx, by rw [upd_ne (fun z => by rw [z, e] at hb; cases hb)]; exact hb⟩
theorem Hs.one {A : A4} {H : Hp} {a : Addr} {k : HD} (h : IsH A H a k) : Hs A H [a] [k] := by
  refine ⟨rfl, fun i b y e1 e2 => ?_⟩
  match i, e1, e2 with
  | 0, e1, e2 =>
    cases e1
    cases e2
    exact h
theorem Hs.add {A : A4} {H : Hp} {as : List Addr} {ks : List HD} {a : Addr} {k : HD} (h : Hs A H as ks) (e : IsH A H a k) : Hs A H (as ++ [a]) (ks ++ [k]) := by
  refine ⟨by rw [List.length_append, List.length_append, h.len]; rfl, fun i b y e1 e2 => ?_⟩
  rcases Nat.lt_or_ge i as.length with lt | ge
  · rw [List.getElem?_append_left lt] at e1
    rw [List.getElem?_append_left (by rw [← h.len]; exact lt)] at e2
    exact h.is i b y e1 e2
  · rw [List.getElem?_append_right ge] at e1
    rw [List.getElem?_append_right (by rw [← h.len]; exact ge), ← h.len] at e2
    cases hj : i - as.length with
    | zero =>
      rw [hj] at e1 e2
      cases e1
      cases e2
      exact e
    | succ j =>
      rw [hj] at e1
      simp at e1
/-- a new run -/
theorem Grp.push {A : A4} {H0 H : Hp} {fa u : Addr} {ls : List Addr} {gs : List (List HD)} {b : Addr} {k : HD} (g : Grp A H0 H fa ls gs) (hb : IsH A H b k) (hu : H u = none) (h0 : H0 u = none) :
    Grp A H0 (upd (upd H u (.lst [V.ref b])) fa (.lst (ls.map V.ref ++ [V.ref u]))) fa (ls ++ [u]) (gs ++ [[k]]) := by
  have s1 := same_new (o := .lst [V.ref b]) hu
  have ef := s1 _ _ g.f
  have uf : u ≠ fa := (ne_of_none g.f hu).symm
  have ul : u ∉ ls := fun h => by
    obtain ⟨i, e⟩ := List.getElem?_of_mem h
    have hi : i < gs.length := by rw [← g.len]; exact (List.getElem?_eq_some_iff.mp e).1
    obtain ⟨as, e2, _⟩ := g.is i u gs[i] e (List.getElem?_eq_getElem hi)
    rw [hu] at e2
    cases e2
  have fl : fa ∉ ls := (List.nodup_cons.mp g.nd).1
  refine ⟨by rw [upd_same, List.map_append]; rfl, by rw [List.length_append, List.length_append, g.len]; rfl, fun i l q e1 e2 => ?_, ?_, fun l hl => ?_, fun q hq => ?_⟩
  · rcases Nat.lt_or_ge i ls.length with lt | ge
    · rw [List.getElem?_append_left lt] at e1
      rw [List.getElem?_append_left (by rw [← g.len]; exact lt)] at e2
      obtain ⟨as, e3, hs⟩ := g.is i l q e1 e2
      have hl : l ≠ fa := fun z => fl (z ▸ List.mem_of_getElem? e1)
      exact ⟨as, by rw [upd_ne hl]; exact s1 _ _ e3, (hs.keep s1).upd ef⟩
    · rw [List.getElem?_append_right ge] at e1
      rw [List.getElem?_append_right (by rw [← g.len]; exact ge), ← g.len] at e2
      cases hj : i - ls.length with
      | zero =>
        rw [hj] at e1 e2
        cases e1
        cases e2
        exact ⟨[b], by rw [upd_ne uf]; exact upd_same, (Hs.one (hb.keep s1)).upd ef⟩
      | succ j =>
        rw [hj] at e1
        simp at e1
  · have := List.nodup_cons.mp g.nd
    rw [List.nodup_cons, List.nodup_append]
    refine ⟨fun h => ?_, this.2, by simp, fun a ha c hc e => ?_⟩
    · rcases List.mem_append.mp h with h | h
      · exact fl h
      · exact uf (List.mem_singleton.mp h).symm
    · rw [List.mem_singleton] at hc
      exact ul (hc ▸ e ▸ ha)
  · rcases List.mem_cons.mp hl with e | h
    · exact g.new l (e ▸ List.mem_cons_self)
    · rcases List.mem_append.mp h with h | h
      · exact g.new l (List.mem_cons_of_mem _ h)
      · rw [List.mem_singleton.mp h]; exact h0
  · rcases List.mem_append.mp hq with h | h
    · exact g.ne q h
    · rw [List.mem_singleton.mp h]; exact fun z => (nomatch z)
/-- one more in the last run -/
theorem Grp.more {A : A4} {H0 H : Hp} {fa l : Addr} {li as : List Addr} {gi : List (List HD)} {g : List HD} {b : Addr} {k : HD} (r : Grp A H0 H fa (li ++ [l]) (gi ++ [g])) (el : H l = some (.lst (as.map V.ref))) (hs : Hs A H as g) (hb : IsH A H b k) :
    Grp A H0 (upd H l (.lst (as.map V.ref ++ [V.ref b]))) fa (li ++ [l]) (gi ++ [g ++ [k]]) := by
  have lg : li.length = gi.length := by
    have := r.len
    simpa using this
  have nd := List.nodup_cons.mp r.nd
  have nl : l ∉ li := by
    have := (List.nodup_append.mp nd.2).2.2
    exact fun h => this l h l (List.mem_singleton.mpr rfl) rfl
  have fl : fa ≠ l := fun z => nd.1 (z ▸ List.mem_append_right _ (List.mem_singleton.mpr rfl))
  refine ⟨by rw [upd_ne fl]; exact r.f, by rw [List.length_append, List.length_append, lg]; rfl, fun i x q e1 e2 => ?_, r.nd, r.new, fun q hq => ?_⟩
  · rcases Nat.lt_or_ge i li.length with lt | ge
    · have e1' := e1
      have e2' := e2
      rw [List.getElem?_append_left lt] at e1'
      rw [List.getElem?_append_left (by rw [← lg]; exact lt)] at e2'
      obtain ⟨cs, e3, hc⟩ := r.is i x q e1 (by rw [List.getElem?_append_left (by rw [← lg]; exact lt)]; exact e2')
      have hx : x ≠ l := fun z => nl (z ▸ List.mem_of_getElem? e1')
      exact ⟨cs, by rw [upd_ne hx]; exact e3, hc.upd el⟩
    · rw [List.getElem?_append_right ge] at e1
      rw [List.getElem?_append_right (by rw [← lg]; exact ge), ← lg] at e2
      cases hj : i - li.length with
      | zero =>
        rw [hj] at e1 e2
        cases e1
        cases e2
        exact ⟨as ++ [b], by rw [upd_same, List.map_append]; rfl, (hs.upd el).add (isH_upd hb el)⟩
      | succ j =>
        rw [hj] at e1
        simp at e1
  · rcases List.mem_append.mp hq with h | h
    · exact r.ne q (List.mem_append_left _ h)
    · rw [List.mem_singleton.mp h]; simp
section
variable {P : Program} {w : World} {K : PySem.W.Frag} {mg : Str → Option Value} {base : Heap}
abbrev nRu : List Str := ["handlers", "found", "handler"]
theorem scRu : FnScope nRu ["handlers"] (defScope sRuns) := ⟨rfl, rfl, rfl, by decide +kernel, rfl, by decide +kernel, by decide +kernel⟩
structure ItS (P : Program) (w : World) (K : PySem.W.Frag) (mg : Str → Option Value) (base : Heap) (A : A4) (C f : Addr) (fd : FuncData) : Prop where
  hs : PySem.W.findIn K (.ref C) "__iter__" = some (some (.ref f))
  hf : PySem.W.isFn K (.ref f) = true
  F : FnS P w K mg base CX0 1 f fd ["self"] (spIterS A C)
  b : Binds K fd ["self"] []
theorem runs_len (ks : List HD) : (runsL ks).length ≤ ks.length := by
  have key : ∀ (ks : List HD) (gs : List (List HD)), (ks.foldl addRun gs).length ≤ gs.length + ks.length := by
    intro ks
    induction ks with
    | nil => intro gs; exact Nat.le_refl _
    | cons k ks ih =>
      intro gs
      have h := ih (addRun gs k)
      have h2 : (addRun gs k).length ≤ gs.length + 1 := by
        unfold addRun
        split
        · simp
        · split
          · simp
          · split
            · simp <;> omega
            · simp
      show (ks.foldl addRun (addRun gs k)).length ≤ _
      rw [List.length_cons]
      exact Nat.le_trans h (by omega)
  have := key ks []
  unfold runsL
  simpa using this
theorem addRun_flat (gs : List (List HD)) (k : HD) : (addRun gs k).flatten = gs.flatten ++ [k] := by
  rcases List.eq_nil_or_concat gs with e | ⟨gi, g0, e⟩
  · rw [e]; rfl
  · rw [List.concat_eq_append] at e
    subst e
    rcases List.eq_nil_or_concat g0 with e | ⟨g', j, e⟩
    · subst e
      unfold addRun
      rw [List.getLast?_append]
      simp
    · rw [List.concat_eq_append] at e
      subst e
      rw [addRun_last]
      split <;> simp
theorem runs_flat (ks : List HD) : (runsL ks).flatten = ks := by
  have key : ∀ (ks : List HD) (gs : List (List HD)), (ks.foldl addRun gs).flatten = gs.flatten ++ ks := by
    intro ks
    induction ks with
    | nil => intro gs; simp
    | cons k ks ih =>
      intro gs
      show (ks.foldl addRun (addRun gs k)).flatten = _
      rw [ih, addRun_flat, List.append_assoc]
      rfl
  have := key ks []
  unfold runsL
  simpa using this
theorem runs_in : ∀ ks : List HD, ∀ g ∈ runsL ks, g ≠ [] ∧ ∀ k ∈ g, k ∈ ks := by
  have key : ∀ (ks : List HD) (gs : List (List HD)) (S : HD → Prop), (∀ g ∈ gs, g ≠ [] ∧ ∀ k ∈ g, S k) → (∀ k ∈ ks, S k) → ∀ g ∈ ks.foldl addRun gs, g ≠ [] ∧ ∀ k ∈ g, S k := by
    intro ks
    induction ks with
    | nil => intro gs S h _; exact h
    | cons k ks ih =>
      intro gs S h hk
      refine ih (addRun gs k) S (fun g hg => ?_) (fun x hx => hk x (List.mem_cons_of_mem _ hx))
      have kS := hk k List.mem_cons_self
      have new : ∀ g ∈ gs ++ [[k]], g ≠ [] ∧ ∀ k ∈ g, S k := fun g hg => by
        rcases List.mem_append.mp hg with h1 | h1
        · exact h g h1
        · rw [List.mem_singleton.mp h1]
          exact ⟨fun z => (nomatch z), fun x hx => by rw [List.mem_singleton.mp hx]; exact kS⟩
      rcases List.eq_nil_or_concat gs with e | ⟨gi, g0, e⟩
      · rw [e] at hg new
        exact new g hg
      · rw [List.concat_eq_append] at e
        subst e
        have h0 := h g0 (List.mem_append_right _ (List.mem_singleton.mpr rfl))
        rcases List.eq_nil_or_concat g0 with e | ⟨g', j, e⟩
        · exact absurd e h0.1
        · rw [List.concat_eq_append] at e
          subst e
          rw [addRun_last] at hg
          split at hg
          · rcases List.mem_append.mp hg with h1 | h1
            · exact h g (List.mem_append_left _ h1)
            · rw [List.mem_singleton.mp h1]
              refine ⟨by simp, fun x hx => ?_⟩
              rcases List.mem_append.mp hx with h2 | h2
              · exact h0.2 x h2
              · rw [List.mem_singleton.mp h2]; exact kS
          · exact new g hg
  intro ks g hg
  exact key ks [] (fun k => k ∈ ks) (fun g h => (nomatch h)) (fun k h => h) g hg
theorem ok_runs {A : A4} {C f fI bN bK bT bH fM : Addr} {fd dI dM : FuncData} (F : Fun K "_runs" "_runs" sRuns f fd) (S : Hand K mg A) (Ba : Bases K mg A bN bK bT bH) (SC : SCls K mg C) (It : ItS P w K mg base A C fI dI) (M : MeetK P w K mg base A bK bT fM dM) : FnOk P w K mg base CX0 3 f fd ["handlers"] (spRuns A C) := by
  refine F.ok scRu (fun vs H Q E h => ?_) (fun cdv A0 outer s H vs Q E hr h => ?_)
  · obtain ⟨a, ks, rfl, _⟩ := h
    rfl
  · obtain ⟨a, ks, rfl, st, few, q⟩ := h
    refine ⟨_, pss_cons (ps_set (i := 1) scRu.nd rfl (.inl rfl) (pe_lst pa_nil))
      (pss_cons (ps_for PassesOwn.never rfl (pi_own (pv 0) It.hs It.hf It.F (hr.mono (by decide)) It.b pass0) (pg_name (i := 2) scRu.nd rfl (.inl rfl))
        (pss_one (ps_if (PW.pt (pw_and (pt_truth (pv 1) (fun _ => rfl)) (pw_and1 (pt_not (pt_val (pe_methA (pe_ix ix_list (pe_ix ix_list (pv 1) (pe_un un_neg pe_int) (fun _ _ => rfl)) (pe_un un_neg pe_int) (fun _ _ => rfl)) M.G hr M.b .nil pass0 (pa_cons (pv 2) pa_nil)))))))
          (pss_one (ps_expr (pe_bm PySem.F.plainAttrs_list PySem.F.slot_list_append PySem.F.type_list_append mt_append (pe_ix ix_list (pv 1) (pe_un un_neg pe_int) (fun _ _ => rfl)) (pa_cons (pv 2) pa_nil))))
          (pss_one (ps_expr (pe_bm PySem.F.plainAttrs_list PySem.F.slot_list_append PySem.F.type_list_append mt_append (pv 1) (pa_cons (pe_lst (pa_cons (pv 2) pa_nil)) pa_nil)))))))
      (pss_one (ps_ret (pv 1)))), ?_⟩
    refine ⟨by show 0 ≤ sizeLine; decide, fun fa hfa => ?_⟩
    have s1 := same_new (o := .lst []) hfa
    obtain ⟨dx, t, n, p1, p2, p3, p4, as, ps, y1, y2, y3, ys, os, st⟩ := st
    have st1 := st.keep s1
    have ef : upd H fa (.lst []) fa = some (.lst []) := upd_same
    generalize upd H fa (.lst []) = H1 at s1 st1 ef
    refine ⟨.ref a, rfl, a, dx, _, rfl, st1.o, fun n' => ⟨a, dx, t, n, p1, p2, p3, p4, ks, as, ps, y1, y2, y3, ys, os, rfl, st1, fun it hit hn => ⟨t, it, as.map V.ref, rfl, upd_same, hn, ?_, ?_⟩⟩⟩
    · rw [ItX.dropH_upd hit]
      exact SqT.of st1.t
    rw [ItX.dropH_upd hit]
    refine for_it (walk_tup (K := K) (a := t) (xs := as.map V.ref)) (fun i σ H' => Same' H H' ∧ ∃ (ls : List Addr) (z2 : Option V), σ = [some (.ref a), some (.ref fa), z2] ∧ Grp A H H' fa ls (runsL (ks.take i))) ⟨s1, [], none, rfl, ⟨ef, rfl, fun i l g e => by simp at e, by simp, fun l hl => by rw [List.mem_singleton.mp hl]; exact hfa, fun g hg => (nomatch hg)⟩⟩ (fun i σ H' _ hp => SqT.of (hp.1 _ _ st.t)) (fun i x σ H2 H3 hi hp hy => ?_) (fun σ H2 hp => ?_)
    · obtain ⟨sm, ls, z2, rfl, gr⟩ := hp
      obtain ⟨rfl, e2⟩ := hy
      obtain ⟨b, k, eb, ek, rfl, hb⟩ := (st.hs.keep sm).at e2
      have stp := runsL_step ek
      have ik := runs_len (ks.take i)
      rw [List.length_take] at ik
      have push : ∀ u, H3 u = none → (∃ (ls' : List Addr) (z2 : Option V), [some (V.ref a), some (V.ref fa), some (V.ref b)] = [some (V.ref a), some (V.ref fa), z2] ∧ Grp A H (upd (upd H3 u (.lst [V.ref b])) fa (.lst (ls.map V.ref ++ [V.ref u]))) fa ls' (runsL (ks.take i) ++ [[k]])) ∧ Same' H (upd (upd H3 u (.lst [V.ref b])) fa (.lst (ls.map V.ref ++ [V.ref u]))) := fun u hu => by
        have h0 : H u = none := by
          cases e : H u with
          | none => rfl
          | some o =>
            have := sm _ _ e
            rw [hu] at this
            cases this
        refine ⟨⟨ls ++ [u], _, rfl, gr.push hb hu h0⟩, fun c o e => ?_⟩
        have h1 : c ≠ fa := fun z => by
          have := gr.new fa List.mem_cons_self
          rw [← z, e] at this
          cases this
        rw [upd_ne h1]
        exact same_new hu _ _ (sm _ _ e)
      rcases List.eq_nil_or_concat (runsL (ks.take i)) with e0 | ⟨gi, g0, e0⟩
      · have l0 : ls = [] := List.length_eq_zero_iff.mp (by rw [gr.len, e0]; rfl)
        subst l0
        refine ⟨.ref fa, rfl, false, .inl ⟨[], SqL.of gr.f, rfl⟩, iteF ?_⟩
        refine ⟨.ref fa, rfl, .inl ⟨rfl, _, SqL.of gr.f⟩, .ref b, rfl, by show 1 ≤ sizeLine; decide, fun u hu => ?_⟩
        obtain ⟨⟨ls', z2, es, gr'⟩, sm'⟩ := push u hu
        refine ⟨fa, [], .ref u, rfl, rfl, same_new hu _ _ gr.f, by show 0 < sizeLine; decide, sm', ls', z2, es, ?_⟩
        rw [stp, e0, addRun_nil]
        rw [e0] at gr'
        exact gr'
      · rw [List.concat_eq_append] at e0
        have hne := gr.ne g0 (by rw [e0]; exact List.mem_append_right _ (List.mem_singleton.mpr rfl))
        rcases List.eq_nil_or_concat g0 with e1 | ⟨g', j, e1⟩
        · exact absurd e1 hne
        rw [List.concat_eq_append] at e1
        subst e1
        rcases List.eq_nil_or_concat ls with e2' | ⟨li, l, e2'⟩
        · have := gr.len
          rw [e2', e0] at this
          simp at this
        rw [List.concat_eq_append] at e2'
        subst e2'
        rw [e0] at gr
        have lg : li.length = gi.length := by
          have := gr.len
          simpa using this
        obtain ⟨cs, el, hc⟩ := gr.is li.length l (g' ++ [j]) (by simp) (by rw [lg]; simp)
        rcases List.eq_nil_or_concat cs with e3 | ⟨c', c, e3⟩
        · have := hc.len
          rw [e3] at this
          simp at this
        rw [List.concat_eq_append] at e3
        subst e3
        have clen : c'.length = g'.length := by
          have := hc.len
          simpa using this
        have hcj : IsH A H3 c j := hc.is c'.length c j (by simp) (by rw [clen]; simp)
        obtain ⟨dc, hcj'⟩ := id hcj
        have atf : atI ((li ++ [l]).map V.ref) (-1) = some (V.ref l) := by rw [List.map_append]; exact atI_last _ _
        have atl : atI ((c' ++ [c]).map V.ref) (-1) = some (V.ref c) := by rw [List.map_append]; exact atI_last _ _
        refine ⟨.ref fa, rfl, true, .inl ⟨_, SqL.of gr.f, by simp⟩, iteT ?_⟩
        refine ⟨.ref fa, rfl, 1, rfl, fa, _, _, .ref l, rfl, rfl, SqL.of gr.f, atf, 1, rfl, l, _, _, .ref c, rfl, rfl, SqL.of el, atl, c, _, dc, _, rfl, hcj', (S.cls j).1, M.m _ j.ix_lt, no_meets j, ?_⟩
        refine ⟨.ref b, rfl, .ref c, .ref b, j.ix, k.ix, rfl, knd_h S Ba hcj, knd_h S Ba hb, _, rfl, ?_⟩
        rw [e0, addRun_last] at stp
        rw [e0] at push
        cases em : meetB j.ix k.ix with
        | false =>
          refine iteT ?_
          rw [if_pos em] at stp
          refine ⟨.ref fa, rfl, 1, rfl, fa, _, _, .ref l, rfl, rfl, SqL.of gr.f, atf, .inl ⟨rfl, _, SqL.of el⟩, .ref b, rfl, l, _, .ref b, rfl, rfl, el, ?_, ?_⟩
          · rw [List.length_map, hc.len, sizeLine_eq]
            have := (List.take_sublist i ks).length_le
            have gl : (g' ++ [j]).length ≤ 63 := by
              have fl := runs_flat (ks.take i)
              rw [e0] at fl
              have fl2 := congrArg List.length fl
              rw [List.length_take] at fl2
              simp only [List.flatten_append, List.flatten_cons, List.flatten_nil, List.length_append, List.append_nil] at fl2 ⊢
              omega
            omega
          · refine ⟨fun x o e => ?_, li ++ [l], _, rfl, ?_⟩
            · have h1 : x ≠ l := fun z => by
                have := gr.new l (List.mem_cons_of_mem _ (List.mem_append_right _ (List.mem_singleton.mpr rfl)))
                rw [← z, e] at this
                cases this
              rw [upd_ne h1]
              exact sm _ _ e
            · rw [stp]
              exact gr.more el hc hb
        | true =>
          refine iteF ?_
          rw [if_neg (by rw [em]; exact fun z => (nomatch z))] at stp
          refine ⟨.ref fa, rfl, .inl ⟨rfl, _, SqL.of gr.f⟩, .ref b, rfl, by show 1 ≤ sizeLine; decide, fun u hu => ?_⟩
          obtain ⟨⟨ls', z2, es, gr'⟩, sm'⟩ := push u hu
          refine ⟨fa, _, .ref u, rfl, rfl, same_new hu _ _ gr.f, ?_, sm', ls', z2, es, ?_⟩
          · have := gr.len
            rw [e0] at ik
            rw [List.length_map, this, sizeLine_eq]
            omega
          · rw [stp]
            exact gr'
    · obtain ⟨sm, ls, z2, rfl, gr⟩ := hp
      rw [List.take_of_length_le (by rw [List.length_map, st.hs.len]; exact Nat.le_refl _)] at gr
      exact ⟨.ref fa, rfl, q fa ls H2 gr sm⟩
end
end My
namespace My
open PySem PySem.Spec PyProof.Rows L2
/-! ### layers -/
structure TupsT (H : Hp) (ts : List Addr) (yss : List (List Str)) : Prop where
  len : ts.length = yss.length
  is : ∀ (i : Nat) (t : Addr) (y : List Str), ts[i]? = some t → yss[i]? = some y → H t = some (.tup (y.map V.str))
theorem TupsT.nil {H : Hp} : TupsT H [] [] := ⟨rfl, fun i t y e => by simp at e⟩
theorem TupsT.to {H H' : Hp} {ts : List Addr} {yss : List (List Str)} (h : TupsT H ts yss) (k : ∀ b xs, H b = some (.tup xs) → H' b = some (.tup xs)) : TupsT H' ts yss := ⟨h.len, fun i t y e1 e2 => k _ _ (h.is i t y e1 e2)⟩
theorem TupsT.keep {H H' : Hp} {ts : List Addr} {yss : List (List Str)} (h : TupsT H ts yss) (s : Same' H H') : TupsT H' ts yss := h.to fun b xs e => s _ _ e
theorem TupsT.add {H : Hp} {ts : List Addr} {yss : List (List Str)} {t : Addr} {y : List Str} (h : TupsT H ts yss) (e : H t = some (.tup (y.map V.str))) : TupsT H (ts ++ [t]) (yss ++ [y]) := by
  refine ⟨by rw [List.length_append, List.length_append, h.len]; rfl, fun i b z e1 e2 => ?_⟩
  rcases Nat.lt_or_ge i ts.length with lt | ge
  · rw [List.getElem?_append_left lt] at e1
    rw [List.getElem?_append_left (by rw [← h.len]; exact lt)] at e2
    exact h.is i b z e1 e2
  · rw [List.getElem?_append_right ge] at e1
    rw [List.getElem?_append_right (by rw [← h.len]; exact ge), ← h.len] at e2
    cases hj : i - ts.length with
    | zero =>
      rw [hj] at e1 e2
      cases e1
      cases e2
      exact e
    | succ j =>
      rw [hj] at e1
      simp at e1
/-- the ascending names of each run -/
structure AscR (gs : List (List HD)) (yss : List (List Str)) : Prop where
  len : yss.length = gs.length
  is : ∀ (i : Nat) (g : List HD) (y : List Str), gs[i]? = some g → yss[i]? = some y → Asc (g.map HD.nm) y
def LayAt (H : Hp) (T : Addr) (ks : List HD) : Prop := ∃ ts yss, H T = some (.tup (ts.map V.ref)) ∧ TupsT H ts yss ∧ AscR (runsL ks) yss
theorem LayAt.keep {H H' : Hp} {T : Addr} {ks : List HD} (h : LayAt H T ks) (s : Same' H H') : LayAt H' T ks := let ⟨ts, yss, a, b, c⟩ := h; ⟨ts, yss, s _ _ a, b.keep s, c⟩
def spLayers (A : A4) (C : Addr) : Sp := fun vs H Q _ => ∃ (a : Addr) (ks : List HD), vs = [.ref a] ∧ StkAt A C H a ks ∧ ks.length ≤ 63 ∧ ∀ (T : Addr) (H' : Hp), LayAt H' T ks → Same' H H' → Q (.ref T) H'
section
variable {P : Program} {w : World} {K : PySem.W.Frag} {mg : Str → Option Value} {base : Heap}
abbrev nLy : List Str := ["stack", "run", "handler"]
theorem scLy : FnScope nLy ["stack"] (defScope sLayers) := ⟨rfl, rfl, rfl, by decide +kernel, rfl, by decide +kernel, by decide +kernel⟩
abbrev scLyR : Scope := { kind := .function, names := [(Str.ofString ".0", .local), (Str.ofString "run", .local), (Str.ofString "ascending", .globalImplicit)], isGenerator := false, isCoroutine := false }
abbrev XLy (P : Program) (w : World) (K : PySem.W.Frag) (mg : Str → Option Value) (base : Heap) (f : Addr) (cdv : Value) (A : Around) (outer : List Env) (s : Shared) (H : Hp) (E : XK) : Cx := (cxOf CX0 P w K mg base nLy "layers" (defScope sLayers) f cdv A outer s H E).nox
abbrev XLy1 (P : Program) (w : World) (K : PySem.W.Frag) (mg : Str → Option Value) (base : Heap) (f : Addr) (cdv : Value) (A : Around) (outer : List Env) (s : Shared) (H : Hp) (E : XK) (s1 : Shared) (H1 : Hp) (C1 : Addr) (cl1 : List (Str × Addr)) (fp1 : List Addr) : Cx := (XLy P w K mg base f cdv A outer s H E).blk s1 H1 scLyR (compEnvC scLyR cl1 C1 (XLy P w K mg base f cdv A outer s H E).env) fp1
theorem ok_layers {A : A4} {C f fC fR fA : Addr} {fd dC dR dA : FuncData} (F : Fun K "layers" "layers" sLayers f fd) (T : Txt mg) (S : Hand K mg A) (Ck : FnB P w K mg base 1 "check_stack" sCheckS fC dC ["value", "part"] (spCheckS A C)) (Ru : FnB P w K mg base 3 "_runs" sRuns fR dR ["handlers"] (spRuns A C)) (As : FnB P w K mg base 1 "ascending" sAsc fA dA ["names"] (spAsc K)) :
    FnOk P w K mg base CX0 4 f fd ["stack"] (spLayers A C) := by
  refine F.ok scLy (fun vs H Q E h => ?_) (fun cdv A0 outer s H vs Q E hr h => ?_)
  · obtain ⟨a, ks, rfl, _⟩ := h
    rfl
  · obtain ⟨a, ks, rfl, st, few, q⟩ := h
    refine ⟨_, pss_cons (ps_expr (pe_call Ck.G (hr.mono (by decide)) (by rfl) Ck.g Ck.F.kp Ck.b .nil pass0 (pa_cons (pv 0) (pa_cons pe_str pa_nil))))
      (pss_one (ps_ret (pe_callTy call_tuple_of (by rfl) T.tuple (by decide +kernel) (pa_cons
        (pe_lc (own := [("run", 1)]) (g := gName 1) (tt := tYes) rfl scLy.nd (pi_list (pe_call Ru.G hr (by rfl) Ru.g Ru.F.kp Ru.b .nil pass0 (pa_cons (pv 0) pa_nil))) (blkOk_by (N := nLy) (sc := defScope sLayers) (by decide +kernel)) (fun _ _ _ _ _ => pg_name (i := 1) scLy.nd rfl (Or.inl rfl)) (fun _ _ _ _ _ => pts_nil)
          (fun s1 H1 C1 cl1 fp1 => show PE (XLy1 P w K mg base f cdv A0 outer s H E s1 H1 C1 cl1 fp1) _ (tCall (spAsc K) [] E0 (tCons (tLc (iList K (tVar 1)) (gName 2) tYes (tFld K (tVar 2) "name") [2]) tNil)) from
            pe_call (X := XLy1 P w K mg base f cdv A0 outer s H E s1 H1 C1 cl1 fp1) As.G (hr.mono (by decide)) (by rfl) As.g As.F.kp As.b .nil pass0 (pa_cons
              (pe_lc (X := XLy1 P w K mg base f cdv A0 outer s H E s1 H1 C1 cl1 fp1) (own := [("handler", 2)]) (g := gName 2) (tt := tYes) rfl scLy.nd (pi_list (pv (X := XLy1 P w K mg base f cdv A0 outer s H E s1 H1 C1 cl1 fp1) 1)) (blkOk_by (N := nLy) (sc := scLyR) (by decide +kernel)) (fun _ _ _ _ _ => pg_name (i := 2) scLy.nd rfl (Or.inl rfl)) (fun _ _ _ _ _ => pts_nil)
                (fun _ _ _ _ _ => show PE _ _ (tFld K (tVar 2) "name") from pe_fld (pv 2) (by rfl))) pa_nil))) pa_nil)))), ?_⟩
    refine ⟨.ref a, rfl, a, _, ks, rfl, st, ?_⟩
    refine ⟨.ref a, rfl, a, ks, rfl, st, few, fun fa ls H1 gr s1 => ?_⟩
    refine ⟨fa, rfl, ⟨_, SqL.of gr.f⟩, fun D hD => ?_⟩
    have fl := congrArg List.length (runs_flat ks)
    refine lc_it (walk_list (K := K) (a := fa) (xs := ls.map V.ref)) (fun i H' => Same' H1 H' ∧ ∃ (ts : List Addr) (yss : List (List Str)), H' D = some (.lst (ts.map V.ref)) ∧ TupsT H' ts yss ∧ yss.length = i ∧ ∀ (j : Nat) (g : List HD) (y : List Str), (runsL ks)[j]? = some g → yss[j]? = some y → Asc (g.map HD.nm) y) ⟨same_new hD, [], [], upd_same, .nil, rfl, fun j g y _ e => by simp at e⟩ (fun i H' _ hp => SqL.of (hp.1 _ _ gr.f)) (fun i x H2 H3 hi hp hx => ?_) (fun H2 hp => ?_)
    · obtain ⟨sm, ts, yss, ed, tt, yl, asc⟩ := hp
      obtain ⟨rfl, e2⟩ := hx
      rw [List.length_map] at hi
      rw [List.getElem?_map, List.getElem?_eq_getElem hi] at e2
      cases e2
      have hg : i < (runsL ks).length := by rw [← gr.len]; exact hi
      have eg := List.getElem?_eq_getElem hg
      obtain ⟨as, el, hs⟩ := gr.is i _ _ (List.getElem?_eq_getElem hi) eg
      generalize hgg : (runsL ks)[i] = g at eg hs
      have gl : g.length ≤ 63 := by
        have m : g ∈ runsL ks := List.mem_of_getElem? eg
        have : g.length ≤ (runsL ks).flatten.length := (List.sublist_flatten_of_mem m).length_le
        omega
      refine ⟨rfl, ⟨.ref ls[i], rfl, _, rfl, ⟨_, SqL.of (sm _ _ el)⟩, fun D2 hD2 => ?_⟩⟩
      refine lc_it (walk_list (K := K) (a := ls[i]) (xs := as.map V.ref)) (fun j H' => Same' H3 H' ∧ H' D2 = some (.lst (((g.take j).map HD.nm).map V.str))) ⟨same_new hD2, upd_same⟩ (fun j H' _ hp => SqL.of (hp.1 _ _ (sm _ _ el))) (fun j x H4 H5 hj hp hx => ?_) (fun H4 hp => ?_)
      · obtain ⟨s4, e4⟩ := hp
        obtain ⟨rfl, e3⟩ := hx
        obtain ⟨b, k, eb, ek, rfl, hb⟩ := (hs.keep (sm.trans s4)).at e3
        obtain ⟨dx, hb'⟩ := id hb
        obtain ⟨c1, c2, _⟩ := S.cls k
        refine ⟨rfl, ⟨.ref b, rfl, b, _, dx, _, .str k.nm, rfl, hb', c1, c2, flds_nm k, _, e4, ?_, same_over hD2 s4, ?_⟩⟩
        · rw [List.length_map, List.length_map, List.length_take, sizeLine_eq]
          omega
        · rw [upd_same, List.take_add_one, ek, List.map_append, List.map_append]
          rfl
      · obtain ⟨s4, e4⟩ := hp
        rw [List.take_of_length_le (by rw [List.length_map, hs.len]; exact Nat.le_refl _)] at e4
        refine ⟨D2, g.map HD.nm, rfl, .inl (SqL.of e4), by rw [List.length_map]; omega, fun p y H6 ya s6 e6 => ?_⟩
        have s36 := s4.trans s6
        have ed6 := s36 _ _ ed
        have tt6 := tt.keep s36
        have kt : ∀ b xs, H6 b = some (.tup xs) → (upd H6 D (.lst (ts.map V.ref ++ [.ref p]))) b = some (.tup xs) := fun b xs e => by
          rw [upd_ne (fun z => by rw [z, ed6] at e; cases e)]
          exact e
        refine ⟨_, ed6, ?_, same_over hD (sm.trans s36), ts ++ [p], yss ++ [y], ?_, (tt6.to kt).add (kt _ _ e6), by rw [List.length_append, yl]; rfl, fun j g2 y2 e7 e8 => ?_⟩
        · have := tt.len
          have := gr.len
          have := runs_len ks
          rw [List.length_map, sizeLine_eq]
          omega
        · rw [upd_same, List.map_append]
          rfl
        · rcases Nat.lt_or_ge j yss.length with lt | ge
          · rw [List.getElem?_append_left lt] at e8
            exact asc j g2 y2 e7 e8
          · rw [List.getElem?_append_right ge] at e8
            cases hj : j - yss.length with
            | zero =>
              rw [hj] at e8
              cases e8
              have : j = i := by omega
              rw [this, eg] at e7
              cases e7
              exact ya
            | succ n =>
              rw [hj] at e8
              simp at e8
    · obtain ⟨sm, ts, yss, ed, tt, yl, asc⟩ := hp
      rw [List.length_map, gr.len] at yl
      refine ⟨D, _, rfl, .inl ⟨SqL.of ed, fun T hT => ?_⟩⟩
      have sT := same_new (o := .tup (ts.map V.ref)) hT
      exact q T _ ⟨ts, yss, upd_same, tt.keep sT, ⟨yl, asc⟩⟩ (s1.trans (sm.trans sT))
end
end My
namespace My
open PySem PySem.Spec PyProof.Rows L2
/-! ### the normal stack, how many -/
def NormOf (ks ks' : List HD) : Prop := ∃ yss, AscR (runsL ks) yss ∧ ks'.map HD.nm = yss.flatten ∧ ∀ k ∈ ks', k ∈ ks
theorem cnt_perm {a b : List HD} (h : a.Perm b) (i : Nat) : cnt a i = cnt b i := (h.filter _).length_eq
theorem asc_perm {xs ys : List Str} (nd : xs.Nodup) (a : Asc xs ys) : ys.Perm xs := (List.perm_ext_iff_of_nodup a.nd nd).mpr a.mem
theorem ascR_perm : ∀ {gs : List (List HD)} {yss : List (List Str)}, AscR gs yss → (∀ g ∈ gs, (g.map HD.nm).Nodup) → yss.flatten.Perm (gs.flatten.map HD.nm)
  | [], [], _, _ => .refl _
  | [], _ :: _, h, _ => absurd h.len (by simp)
  | _ :: _, [], h, _ => absurd h.len (by simp)
  | g :: gs, y :: yss, h, nd => by
    have ih := ascR_perm (gs := gs) (yss := yss) ⟨by simpa using h.len, fun i g2 y2 e1 e2 => h.is (i + 1) g2 y2 (by simpa using e1) (by simpa using e2)⟩ fun g2 hg => nd g2 (List.mem_cons_of_mem _ hg)
    have a := asc_perm (nd g List.mem_cons_self) (h.is 0 g y rfl rfl)
    rw [List.flatten_cons, List.flatten_cons, List.map_append]
    exact a.append ih
theorem runs_nd {ks : List HD} (nd : (ks.map HD.nm).Nodup) : ∀ g ∈ runsL ks, (g.map HD.nm).Nodup := fun g hg => by
  have h := List.sublist_flatten_of_mem hg
  rw [runs_flat] at h
  exact List.Nodup.sublist (h.map HD.nm) nd
theorem nm_inj {ks : List HD} (nd : (ks.map HD.nm).Nodup) : ∀ k ∈ ks, ∀ j ∈ ks, k.nm = j.nm → k = j := fun k hk j hj e => by
  obtain ⟨a, ha, ea⟩ := List.mem_iff_getElem.mp hk
  obtain ⟨b, hb, eb⟩ := List.mem_iff_getElem.mp hj
  have l1 : a < (ks.map HD.nm).length := by simpa using ha
  have l2 : b < (ks.map HD.nm).length := by simpa using hb
  have g : (ks.map HD.nm)[a] = (ks.map HD.nm)[b] := by rw [List.getElem_map, List.getElem_map, ea, eb, e]
  rcases Nat.lt_trichotomy a b with lt | eq | gt
  · exact absurd g ((List.pairwise_iff_getElem.mp nd) a b l1 l2 lt)
  · subst eq
    rw [← ea, ← eb]
  · exact absurd g.symm ((List.pairwise_iff_getElem.mp nd) b a l2 l1 gt)
theorem norm_perm {ks ks' : List HD} (nd : (ks.map HD.nm).Nodup) (h : NormOf ks ks') : ks'.Perm ks := by
  obtain ⟨yss, asc, en, sub⟩ := h
  have p := ascR_perm asc (runs_nd nd)
  rw [runs_flat, ← en] at p
  have nd' := p.nodup_iff.mpr nd
  have n1 : ks'.Nodup := (List.pairwise_map.mp nd').imp fun {a b} h e => h (by rw [e])
  have n2 : ks.Nodup := (List.pairwise_map.mp nd).imp fun {a b} h e => h (by rw [e])
  refine (List.perm_ext_iff_of_nodup n1 n2).mpr fun k => ⟨sub k, fun hk => ?_⟩
  have : k.nm ∈ ks'.map HD.nm := p.mem_iff.mpr (List.mem_map.mpr ⟨k, hk, rfl⟩)
  obtain ⟨j, hj, e⟩ := List.mem_map.mp this
  rw [nm_inj nd k hk j (sub j hj) e.symm]
  exact hj
theorem norm_few {ks ks' : List HD} (few : Few ks) (h : NormOf ks ks') : Few ks' := by
  have p := norm_perm few.nd h
  exact ⟨(p.map HD.nm).nodup_iff.mpr few.nd, by rw [cnt_perm p]; exact few.c, by rw [cnt_perm p]; exact few.l, by rw [cnt_perm p]; exact few.f, by rw [p.length_eq]; exact few.n⟩
def fac (n : Nat) : Nat := Builtin.Math.factorialNat n
def manyL (yss : List (List Str)) : Nat := yss.foldl (fun m y => m * fac y.length) 1
theorem fac_add (a b : Nat) : fac a * fac b ≤ fac (a + b) := by
  induction b with
  | zero => show fac a * 1 ≤ _; rw [Nat.mul_one]; exact Nat.le_refl _
  | succ b ih =>
    show fac a * Builtin.Math.factorialNat (b + 1) ≤ Builtin.Math.factorialNat (a + b + 1)
    rw [PySem.W.mc_fac_succ, PySem.W.mc_fac_succ, ← Nat.mul_assoc]
    exact Nat.mul_le_mul ih (by omega)
theorem fac_mono {a b : Nat} (h : a ≤ b) : fac a ≤ fac b := by
  obtain ⟨c, rfl⟩ := Nat.le.dest h
  exact Nat.le_trans (Nat.le_mul_of_pos_right _ (PySem.W.mc_fac_pos c)) (fac_add a c)
theorem manyL_step {yss : List (List Str)} {i : Nat} {y : List Str} (h : yss[i]? = some y) : manyL (yss.take (i + 1)) = manyL (yss.take i) * fac y.length := by
  unfold manyL
  rw [List.take_add_one, h, List.foldl_append]
  rfl
theorem many_le (yss : List (List Str)) : manyL yss ≤ fac yss.flatten.length := by
  have key : ∀ (yss : List (List Str)) (m n : Nat), m ≤ fac n → yss.foldl (fun m y => m * fac y.length) m ≤ fac (n + yss.flatten.length) := by
    intro yss
    induction yss with
    | nil => intro m n h; exact h
    | cons y yss ih =>
      intro m n h
      have := ih (m * fac y.length) (n + y.length) (Nat.le_trans (Nat.mul_le_mul_right _ h) (fac_add n y.length))
      rw [List.flatten_cons, List.length_append, ← Nat.add_assoc]
      exact this
  have := key yss 1 0 (Nat.le_refl _)
  rwa [Nat.zero_add] at this
def spNormal (A : A4) (C : Addr) : Sp := fun vs H Q _ => ∃ (a : Addr) (ks : List HD), vs = [.ref a] ∧ StkAt A C H a ks ∧ Few ks ∧ ∀ (a' : Addr) (ks' : List HD) (H' : Hp), NormOf ks ks' → Same' H H' → StkAt A C H' a' ks' → Q (.ref a') H'
def spMany (A : A4) (C : Addr) : Sp := fun vs H Q _ => ∃ (a : Addr) (ks : List HD), vs = [.ref a] ∧ StkAt A C H a ks ∧ Few ks ∧ ks.length ≤ 10 ∧ ∀ (yss : List (List Str)) (H' : Hp), AscR (runsL ks) yss → Same' H H' → Q (.int (manyL yss : Nat)) H'
theorem ascR_in {ks : List HD} {yss : List (List Str)} (asc : AscR (runsL ks) yss) {i : Nat} {y : List Str} (h : yss[i]? = some y) : ∀ z ∈ y, z ∈ ks.map HD.nm := fun z hz => by
  have hi : i < (runsL ks).length := by rw [← asc.len]; exact (List.getElem?_eq_some_iff.mp h).1
  have eg := List.getElem?_eq_getElem hi
  have a := asc.is i _ y eg h
  obtain ⟨k, hk, e⟩ := List.mem_map.mp ((a.mem z).mp hz)
  exact List.mem_map.mpr ⟨k, (runs_in ks _ (List.getElem_mem hi)).2 k hk, e⟩
section
variable {P : Program} {w : World} {K : PySem.W.Frag} {mg : Str → Option Value} {base : Heap}
theorem call_fact {X : Cx} : CallR X (.builtin "math.factorial") (fun vs H Q => ∃ n : Nat, vs = [.int (n : Int)] ∧ n ≤ 1000 ∧ Q (.int (fac n : Nat)) H) := by
  intro pins s σ H vs us Q I r h
  obtain ⟨n, rfl, hn, q⟩ := h
  obtain ⟨u, rfl, t, rfl⟩ := vals1 r
  refine PySem.W.mc_factorial (a := (n : Int)) (by omega) (by omega) fun _ => ⟨.int (fac n : Nat), H, I.tok _, ⟨s.toks, rfl⟩, q⟩
abbrev nNo : List Str := ["stack", "names", "name", "row"]
theorem scNo : FnScope nNo ["stack"] (defScope sNormal) := ⟨rfl, rfl, rfl, by decide +kernel, rfl, by decide +kernel, by decide +kernel⟩
abbrev XNo (P : Program) (w : World) (K : PySem.W.Frag) (mg : Str → Option Value) (base : Heap) (f : Addr) (cdv : Value) (A : Around) (outer : List Env) (s : Shared) (H : Hp) (E : XK) : Cx := (cxOf CX0 P w K mg base nNo "normal" (defScope sNormal) f cdv A outer s H E).nox
theorem ok_normal {A : A4} {C f fL fH fI : Addr} {fd dL dH : FuncData} (F : Fun K "normal" "normal" sNormal f fd) (SC : SCls K mg C) (Ly : FnB P w K mg base 4 "layers" sLayers fL dL ["stack"] (spLayers A C)) (Hn : MethB P w K mg base 2 C "handler" fH dH ["self", "name"] (spHandler A C)) (M : Mk K C fI) (GI : FnR P w K mg base (L2.CX P w) 5 fI (spIni A C)) :
    FnOk P w K mg base CX0 7 f fd ["stack"] (spNormal A C) := by
  refine F.ok scNo (fun vs H Q E h => ?_) (fun cdv A0 outer s H vs Q E hr h => ?_)
  · obtain ⟨a, ks, rfl, _⟩ := h
    rfl
  · obtain ⟨a, ks, rfl, st, few, q⟩ := h
    refine ⟨_, pss_cons (ps_setLc2 (i := 3) (own := [("names", 1), ("name", 2)]) (vs1 := [2]) (g := gName 1) (tt := tYes) (g1 := gName 2) (tt1 := tYes) rfl scNo.nd rfl rfl (sw_true rfl rfl rfl (by decide +kernel)) (pi_tup (pe_call Ly.G (hr.mono (by decide)) (by rfl) Ly.g Ly.F.kp Ly.b .nil pass0 (pa_cons (pv 0) pa_nil))) (blkOk_by (N := nNo) (sc := defScope sNormal) (by decide +kernel)) (by decide)
        (fun _ _ _ _ _ => pg_name (i := 1) scNo.nd rfl (Or.inl rfl)) (fun _ _ _ _ _ => pts_nil) (fun _ _ _ _ _ => show PI _ _ _ (iTup K (tVar 1)) from pi_tup (pv 1)) (fun _ _ _ _ _ => pg_name (i := 2) scNo.nd rfl (Or.inl rfl)) (fun _ _ _ _ _ => pts_nil)
        (fun s1 H1 C1 cl1 fp1 => show PE ((XNo P w K mg base f cdv A0 outer s H E).blk s1 H1 _ (compEnvC _ cl1 C1 (XNo P w K mg base f cdv A0 outer s H E).env) fp1) _ (tMeth C "handler" (spHandler A C) [] E0 (tVar 0) (tCons (tVar 2) tNil)) from
          pe_meth (X := (XNo P w K mg base f cdv A0 outer s H E).blk s1 H1 _ (compEnvC _ cl1 C1 (XNo P w K mg base f cdv A0 outer s H E).env) fp1) (pv 0) SC.c Hn.m Hn.G (hr.mono (by decide)) Hn.b .nil pass0 (pa_cons (pv 2) pa_nil)))
      (pss_one (ps_ret (pe_makeS M GI hr (by rfl) SC.g passF (pv 3)))), ?_⟩
    have nd := few.nd
    have few64 := few.n
    refine ⟨.ref a, rfl, a, ks, rfl, st, by omega, fun T H1 ly s1 => ?_⟩
    obtain ⟨ts, yss, eT, tt, asc⟩ := ly
    have pm := ascR_perm asc (runs_nd nd)
    rw [runs_flat] at pm
    have tot : yss.flatten.length = ks.length := by rw [pm.length_eq, List.length_map]
    refine ⟨T, rfl, ⟨_, SqT.of eT⟩, fun D hD => ?_⟩
    refine lc2_out (walk_tup (K := K) (a := T) (xs := ts.map V.ref)) (fun i H' => Same' H1 H' ∧ ∃ (as : List Addr) (js : List HD), H' D = some (.lst (as.map V.ref)) ∧ Hs A H' as js ∧ js.map HD.nm = (yss.take i).flatten ∧ ∀ k ∈ js, k ∈ ks) ⟨same_new hD, [], [], upd_same, ⟨rfl, fun i a k e => by simp at e⟩, rfl, fun k h => (nomatch h)⟩ (fun i H' _ hp => SqT.of (hp.1 _ _ eT)) (fun i x H2 H3 hi hp hx => ?_) (fun H2 hp => ?_)
    · obtain ⟨sm, as, js, ed, hs, en, sub⟩ := hp
      obtain ⟨rfl, e2⟩ := hx
      rw [List.length_map] at hi
      rw [List.getElem?_map, List.getElem?_eq_getElem hi] at e2
      cases e2
      have hy : i < yss.length := by rw [← tt.len]; exact hi
      have ey := List.getElem?_eq_getElem hy
      have et := (tt.keep sm).is i _ _ (List.getElem?_eq_getElem hi) ey
      generalize hyy : yss[i] = y at ey et
      have stp : (yss.take (i + 1)).flatten = (yss.take i).flatten ++ y := by rw [List.take_add_one, ey]; simp
      have ylen : ((yss.take i).flatten ++ y).length ≤ ks.length := by
        rw [← stp, ← tot]
        have : yss.flatten = (yss.take (i + 1)).flatten ++ (yss.drop (i + 1)).flatten := by rw [← List.flatten_append, List.take_append_drop]
        rw [this, List.length_append]
        omega
      refine ⟨rfl, ⟨.ref ts[i], rfl, _, rfl, ⟨_, SqT.of et⟩, ?_⟩⟩
      refine lc2_in (walk_tup (K := K) (a := ts[i]) (xs := y.map V.str)) (fun j H' => Same' H1 H' ∧ ∃ (as : List Addr) (js : List HD), H' D = some (.lst (as.map V.ref)) ∧ Hs A H' as js ∧ js.map HD.nm = (yss.take i).flatten ++ y.take j ∧ ∀ k ∈ js, k ∈ ks) ⟨sm, as, js, ed, hs, by rw [en]; simp, sub⟩ (fun j H' _ hp => SqT.of (hp.1 _ _ (tt.is i _ y (List.getElem?_eq_getElem hi) (by rw [List.getElem?_eq_getElem hy, hyy])))) (fun j x H4 H5 hj hp hx => ?_) (fun H4 hp => ?_)
      · obtain ⟨s4, as4, js4, e4, hs4, en4, sub4⟩ := hp
        obtain ⟨rfl, e3⟩ := hx
        rw [List.length_map] at hj
        rw [List.getElem?_map, List.getElem?_eq_getElem hj] at e3
        cases e3
        have ez := List.getElem?_eq_getElem hj
        have zin : y[j] ∈ ks.map HD.nm := ascR_in asc (by rw [List.getElem?_eq_getElem hy, hyy]) _ (List.getElem_mem hj)
        obtain ⟨o, f1, f2⟩ := first_at nd zin
        have lo : o < ks.length := by simpa using (List.getElem?_eq_some_iff.mp f1).1
        have eo : ks[o]? = some ks[o] := List.getElem?_eq_getElem lo
        have enm : ks[o].nm = y[j] := by
          rw [List.getElem?_map, eo] at f1
          exact Option.some.inj f1
        have st5 := st.keep (s1.trans s4)
        obtain ⟨dx, t, n, p1, p2, p3, p4, as0, ps, y1, y2, y3, ys, os, st5'⟩ := id st5
        refine ⟨rfl, ⟨.ref a, rfl, a, dx, _, rfl, st5'.o, rfl, .str y[j], rfl, a, ks, y[j], o, ks[o], rfl, st5, ⟨f1, f2⟩, eo, fun b hb => ⟨_, e4, ?_, same_over hD s4, as4 ++ [b], js4 ++ [ks[o]], ?_, ?_, ?_, ?_⟩⟩⟩
        · have h1 := congrArg List.length en4
          rw [List.length_map, List.length_append, List.length_take] at h1
          rw [List.length_append] at ylen
          rw [List.length_map, hs4.len, sizeLine_eq]
          omega
        · rw [upd_same, List.map_append]
          rfl
        · exact (hs4.upd e4).add (isH_upd hb e4)
        · rw [List.map_append, en4, List.append_assoc, List.take_add_one, ez, List.map_cons, List.map_nil, enm]
          rfl
        · intro k hk
          rcases List.mem_append.mp hk with h | h
          · exact sub4 k h
          · rw [List.mem_singleton.mp h]; exact List.getElem_mem lo
      · obtain ⟨s4, as4, js4, e4, hs4, en4, sub4⟩ := hp
        refine ⟨s4, as4, js4, e4, hs4, ?_, sub4⟩
        have tk : y.take (y.map V.str).length = y := List.take_of_length_le (by rw [List.length_map]; exact Nat.le_refl _)
        rw [tk] at en4
        rw [stp]
        exact en4
    · obtain ⟨sm, as, js, ed, hs, en, sub⟩ := hp
      rw [List.take_of_length_le (by rw [List.length_map, tt.len]; exact Nat.le_refl _)] at en
      have no : NormOf ks js := ⟨yss, asc, en, sub⟩
      refine ⟨.ref D, rfl, D, _, rfl, .inr (SqL.of ed), fun x dx hx hdx ndx => ?_⟩
      refine ⟨x, dx, as, js, rfl, upd_same, hs.keep (made_same (o := .ins C dx []) hx hdx (fun _ _ _ e => e)), norm_few few no, fun H' k st' => ⟨rfl, q x js H' no ((s1.trans sm).trans (made_same hx hdx k)) st'⟩⟩
abbrev nMi : List Str := ["stack", "many", "names"]
theorem scMi : FnScope nMi ["stack"] (defScope sManyIn) := ⟨rfl, rfl, rfl, by decide +kernel, rfl, by decide +kernel, by decide +kernel⟩
theorem ok_many {A : A4} {C f fL : Addr} {fd dL : FuncData} (F : Fun K "many_in" "many_in" sManyIn f fd) (T : Txt mg) (fg : mg "factorial" = some (.builtin "math.factorial")) (Ly : FnB P w K mg base 4 "layers" sLayers fL dL ["stack"] (spLayers A C)) : FnOk P w K mg base CX0 5 f fd ["stack"] (spMany A C) := by
  refine F.ok scMi (fun vs H Q E h => ?_) (fun cdv A0 outer s H vs Q E hr h => ?_)
  · obtain ⟨a, ks, rfl, _⟩ := h
    rfl
  · obtain ⟨a, ks, rfl, st, few, n10, q⟩ := h
    refine ⟨_, pss_cons (ps_set (i := 1) scMi.nd rfl (.inl rfl) pe_int)
      (pss_cons (ps_for PassesOwn.never rfl (pi_tup (pe_call Ly.G hr (by rfl) Ly.g Ly.F.kp Ly.b .nil pass0 (pa_cons (pv 0) pa_nil))) (pg_name (i := 2) scMi.nd rfl (.inl rfl))
        (pss_one (ps_set (i := 1) scMi.nd rfl (.inl rfl) (pe_op op_mul (pv 1) (pe_callBfun call_fact (by rfl) fg (pa_cons (pe_callB call_len_seq (by rfl) T.len PySem.boot_len (pa_cons (pv 2) pa_nil)) pa_nil))))))
      (pss_one (ps_ret (pv 1)))), ?_⟩
    have nd := few.nd
    refine ⟨.ref a, rfl, a, ks, rfl, st, by omega, fun T' H1 ly s1 => ?_⟩
    obtain ⟨ts, yss, eT, tt, asc⟩ := ly
    have pm := ascR_perm asc (runs_nd nd)
    rw [runs_flat] at pm
    have tot : yss.flatten.length = ks.length := by rw [pm.length_eq, List.length_map]
    have f10 : fac 10 = 3628800 := by decide +kernel
    refine ⟨T', rfl, ⟨_, SqT.of eT⟩, ?_⟩
    refine for_it (walk_tup (K := K) (a := T') (xs := ts.map V.ref)) (fun i σ H' => Same' H1 H' ∧ ∃ z2 : Option V, σ = [some (.ref a), some (.int (manyL (yss.take i) : Nat)), z2]) ⟨fun _ _ e => e, none, rfl⟩ (fun i σ H' _ hp => SqT.of (hp.1 _ _ eT)) (fun i x σ H2 H3 hi hp hy => ?_) (fun σ H2 hp => ?_)
    · obtain ⟨sm, z2, rfl⟩ := hp
      obtain ⟨rfl, e2⟩ := hy
      rw [List.length_map] at hi
      rw [List.getElem?_map, List.getElem?_eq_getElem hi] at e2
      cases e2
      have hyl : i < yss.length := by rw [← tt.len]; exact hi
      have ey := List.getElem?_eq_getElem hyl
      have et := (tt.keep sm).is i _ _ (List.getElem?_eq_getElem hi) ey
      generalize hyy : yss[i] = y at ey et
      have stp := manyL_step ey
      have le1 : ∀ m, (yss.take m).flatten.length ≤ 10 := fun m => by
        have : yss.flatten = (yss.take m).flatten ++ (yss.drop m).flatten := by rw [← List.flatten_append, List.take_append_drop]
        have h := congrArg List.length this
        rw [List.length_append] at h
        omega
      have b1 := Nat.le_trans (many_le (yss.take i)) (fac_mono (le1 i))
      have yl : y.length ≤ 10 := by
        have h := le1 (i + 1)
        rw [List.take_add_one, ey] at h
        simp at h
        omega
      have b2 := fac_mono yl
      rw [f10] at b1 b2
      refine ⟨.int (manyL (yss.take i) : Nat), rfl, .ref ts[i], rfl, _, _, rfl, .inr (SqT.of et), y.length, by rw [List.length_map], by omega, _, _, rfl, rfl, .inl ⟨by omega, by omega⟩, sm, some (V.ref ts[i]), ?_⟩
      rw [stp, Int.natCast_mul]
      rfl
    · obtain ⟨sm, z2, rfl⟩ := hp
      rw [List.take_of_length_le (by rw [List.length_map, tt.len]; exact Nat.le_refl _)]
      exact ⟨_, rfl, q yss H2 asc (s1.trans sm)⟩
end
end My
/-! x != y, two lists whose items are equal (own == included): False -/
namespace MyL
open PySem PySem.SeqAt
open AutoSeq1 (wpAny_loadPart')
open MeetsSeq MeetsSeq2 MeetsSeq3 SeqRoads2
section
variable {prog : Program} {w : World} {A : Around} {R : Result → Shared → Prop}
theorem ne_turns (p q : Addr) (m : Nat) (I : Nat → Shared → Prop) (laid : GQ.ListI prog w A (fun e s' => R (.error e) s') p q m I) (stop : ∀ s, I m s → R (.ok (.ret (.bool false))) s) (left : Nat) :
    ∀ j : Nat, m - j = left → j ≤ m → ∀ s, I j s → wpAny (model prog w) A.in1 (Builtin.«list.__eq__.loop» ⟨[.ref p, .ref q, rawInt j, rawInt 3], []⟩) (GQ.FinOf prog w A R) (fun e s' => R (.error e) s') s := by
  induction left with
  | zero =>
    intro j hj le s h
    obtain ⟨us, vs, c, c2, pl, ql, zu, zv, _⟩ := laid _ _ h
    obtain rfl : j = m := by omega
    have out : R (.ok (.ret (.bool false))) s := stop s h
    obtain ⟨hh, gg, dd, tt, oo⟩ := s
    wp_walk using wpAny_loadPart' pl, wpAny_loadPart' ql
    have n1 : us[((j : Nat) : Int).toNat]? = none := by simp; omega
    have n2 : vs[((j : Nat) : Int).toNat]? = none := by simp; omega
    rw [n1, n2]
    wp_walk using wpAny_loadPart' pl, wpAny_loadPart' ql
    show R (.ok (.ret (.bool (us.size != vs.size)))) _
    rw [zu, zv]
    simpa using out
  | succ left ih =>
    intro j hj le s h
    obtain ⟨us, vs, c, c2, pl, ql, zu, zv, one⟩ := laid _ _ h
    have lu : j < us.size := by omega
    have lv : j < vs.size := by omega
    have step := one lu lv
    obtain ⟨hh, gg, dd, tt, oo⟩ := s
    wp_walk using wpAny_loadPart' pl, wpAny_loadPart' ql
    have n1 : us[((j : Nat) : Int).toNat]? = some us[j] := by simp [lu]
    have n2 : vs[((j : Nat) : Int).toNat]? = some vs[j] := by simp [lv]
    have up : ((j : Int) + 1) = ((j + 1 : Nat) : Int) := by omega
    rw [n1, n2]
    refine wpAny_bind (wpAny_mono step (fun r s2 z => ?_) fun _ _ x => x)
    obtain ⟨rfl, z⟩ := z
    have next := ih (j + 1) (by omega) (by omega) s2 z
    obtain ⟨hh2, gg2, dd2, tt2, oo2⟩ := s2
    wp_walk
    rw [up]
    refine ⟨plainId_quiet plain_eq_loop _, codeAny_builtin entry_eq_loop ?_⟩
    rw [Around.under_plainId plain_eq_loop _]
    exact next
theorem ne_all (p q : Addr) (m : Nat) (I : Nat → Shared → Prop) (laid : GQ.ListI prog w A (fun e s' => R (.error e) s') p q m I) (stop : ∀ s, I m s → R (.ok (.ret (.bool false))) s) {s : Shared} (h : I 0 s) :
    wpAny (model prog w) A.in1 (Builtin.«list.__ne__» ⟨[.ref p, .ref q], []⟩) (GQ.FinOf prog w A R) (fun e s' => R (.error e) s') s := by
  obtain ⟨us, vs, c, c2, pl, ql, zu, zv, _⟩ := laid _ _ h
  have run := ne_turns (A := A) (R := R) p q m I laid stop _ 0 rfl (Nat.zero_le _) s h
  obtain ⟨hh, gg, dd, tt, oo⟩ := s
  have below := AutoSeq1.sub_list_list
  have alike : ¬ (us.size != vs.size) = true := by simp [zu, zv]
  wp_walk using wpAny_loadPart' pl, wpAny_loadPart' ql
  refine ⟨plainId_quiet plain_eq_loop _, codeAny_builtin entry_eq_loop ?_⟩
  rw [Around.under_plainId plain_eq_loop _]
  exact run
end
section
variable {prog : Program} {w : World} {A : Around} {E : Value → Shared → Prop} {s : Shared}
theorem rc_ne {p q : Addr} {m : Nat} {Q : Value → Shared → Prop} (hu : A.units < cLine) (I : Nat → Shared → Prop) (laid : GQ.ListI prog w A E p q m I) (stop : ∀ s, I m s → Q (.bool false) s) (h : I 0 s) :
    wpAny (model prog w) A (richCompare .NotEq (.ref p) (.ref q)) Q E s := by
  obtain ⟨us, vs, c, c2, pl, ql, _, _, _⟩ := laid _ _ h
  refine wpAny_richCompare_same_room (op := .NotEq) ⟨_, pl, rfl⟩ ⟨_, ql, rfl⟩ F.slot_list_ne (GQ.call_here F.slot_list_ne ⟨_, pl, rfl⟩ F.entry_list_ne (F.args_list_ne_2 _ _) ?_) hu
  exact ne_all (R := wants (fun v s' => v ≠ .notImplemented ∧ Q v s') E) p q m I laid (fun s' z => ⟨(fun x => nomatch x), stop s' z⟩) h
end
end MyL
namespace My
open PySem PySem.Spec PyProof.Rows L2
def rNeGL (D : Eqv) : R2 := fun x y H Q => D x y H ∧ ∀ H', Ext H H' → Q (.bl false) H'
theorem op_neLst {X : Cx} {n : Nat} {D : Eqv} (hD : Mon D) (h : EqG X n D) (hr : Room (n + 1) X.A) : OpR X (compareOp .NotEq) (rNeGL (DList D)) := by
  intro pins s σ H x y u v Q I rx ry hq
  obtain ⟨d, q⟩ := hq
  have sb : Sub X (n + 1) X.A := ⟨hr, rfl⟩
  obtain ⟨a, b, xs, ys, rfl, rfl, ha, hb, pr⟩ := d
  cases rx
  cases ry
  show wpAny (model X.prog X.w) X.A (richCompare .NotEq (.ref a) (.ref b)) (EP X pins σ Q) X.xe s
  refine MyL.rc_ne (m := xs.length) sb.room.units0 (fun _ s' => LoopI X pins σ H s') (fun i s' l => ?_) (fun s' l => ?_) ⟨H, I, Ext.rfl'⟩
  · obtain ⟨H1, I1, ex⟩ := id l
    obtain ⟨z, its, k, r, e⟩ := I1.hok a _ (ex _ _ ha)
    obtain ⟨z2, its2, k2, r2, e2⟩ := I1.hok b _ (ex _ _ hb)
    refine ⟨its.toArray, its2.toArray, k, k2, e, e2, by rw [List.size_toArray, ← r.length], by rw [List.size_toArray, ← r2.length, ← pr.1], fun h1 h2 => ?_⟩
    exact turnG hD h sb pr r r2 i h1 h2 s' l
  · obtain ⟨H', I', ex⟩ := l
    exact ⟨.bl false, H', I', rfl, q H' ex⟩
end My
/-! a list beside the empty one: != and == -/
namespace MyN
open PySem PySem.SeqAt
open AutoSeq1 (wpAny_loadPart')
open MeetsSeq MeetsSeq2 MeetsSeq3 SeqRoads2
section
variable {prog : Program} {w : World} {A : Around} {R : Result → Shared → Prop} {s : Shared}
theorem ne_nil {p q : Addr} {us : Array Value} {n m : Nat} (hp : s.heap.get? p = some { cls := .type "list", dict := none, data := .seq us n, slots := #[] }) (hq : s.heap.get? q = some { cls := .type "list", dict := none, data := .seq #[] m, slots := #[] })
    (h : R (.ok (.ret (.bool (!us.isEmpty)))) s) : wpAny (model prog w) A.in1 (Builtin.«list.__ne__» ⟨[.ref p, .ref q], []⟩) (GQ.FinOf prog w A R) (fun e s' => R (.error e) s') s := by
  obtain ⟨hh, gg, dd, tt, oo⟩ := s
  have below := AutoSeq1.sub_list_list
  by_cases hz : us.size = 0
  · have alike : ¬ (us.size != (#[] : Array Value).size) = true := by simp [hz]
    wp_walk using wpAny_loadPart' hp, wpAny_loadPart' hq
    refine ⟨plainId_quiet plain_eq_loop _, codeAny_builtin entry_eq_loop ?_⟩
    rw [Around.under_plainId plain_eq_loop _]
    wp_walk using wpAny_loadPart' hp, wpAny_loadPart' hq
    have e : us = #[] := Array.eq_empty_of_size_eq_zero hz
    subst e
    wp_walk using wpAny_loadPart' hp, wpAny_loadPart' hq
    have h2 := h
    simp only [Array.isEmpty_empty, Bool.not_true] at h2
    exact h2
  · have alike : (us.size != (#[] : Array Value).size) = true := by simp [hz]
    wp_walk using wpAny_loadPart' hp, wpAny_loadPart' hq
    have e : (!us.isEmpty) = true := by simp [Array.isEmpty, hz]
    rw [e] at h
    exact h
theorem eq_nil {p q : Addr} {us : Array Value} {n m : Nat} (hp : s.heap.get? p = some { cls := .type "list", dict := none, data := .seq us n, slots := #[] }) (hq : s.heap.get? q = some { cls := .type "list", dict := none, data := .seq #[] m, slots := #[] })
    (h : R (.ok (.ret (.bool us.isEmpty))) s) : wpAny (model prog w) A.in1 (Builtin.«list.__eq__» ⟨[.ref p, .ref q], []⟩) (GQ.FinOf prog w A R) (fun e s' => R (.error e) s') s := by
  obtain ⟨hh, gg, dd, tt, oo⟩ := s
  have below := AutoSeq1.sub_list_list
  by_cases hz : us.size = 0
  · have alike : ¬ (us.size != (#[] : Array Value).size) = true := by simp [hz]
    wp_walk using wpAny_loadPart' hp, wpAny_loadPart' hq
    refine ⟨plainId_quiet plain_eq_loop _, codeAny_builtin entry_eq_loop ?_⟩
    rw [Around.under_plainId plain_eq_loop _]
    wp_walk using wpAny_loadPart' hp, wpAny_loadPart' hq
    have e : us = #[] := Array.eq_empty_of_size_eq_zero hz
    subst e
    wp_walk using wpAny_loadPart' hp, wpAny_loadPart' hq
    have h2 := h
    simp only [Array.isEmpty_empty, Bool.not_true] at h2
    exact h2
  · have alike : (us.size != (#[] : Array Value).size) = true := by simp [hz]
    wp_walk using wpAny_loadPart' hp, wpAny_loadPart' hq
    have e : us.isEmpty = false := by simp [Array.isEmpty, hz]
    rw [e] at h
    exact h
end
end MyN
namespace My
open PySem PySem.Spec PyProof.Rows L2
section
variable {X : Cx}
def rNil (f : Bool → Bool) : R2 := fun x y H Q => ∃ (a b : Addr) (xs : List V), x = .ref a ∧ y = .ref b ∧ H a = some (.lst xs) ∧ H b = some (.lst []) ∧ Q (.bl (f xs.isEmpty)) H
theorem vals_empty {xs : List V} {its : List Value} (r : Vals xs its) : its.toArray.isEmpty = xs.isEmpty := by
  cases r <;> rfl
theorem op_neNil (hu : X.A.units < cLine) : OpR X (compareOp .NotEq) (rNil not) := by
  intro pins s σ H x y v u Q I rx ry h
  obtain ⟨a, b, xs, rfl, rfl, ha, hb, q⟩ := h
  obtain rfl : v = Value.ref a := rx
  obtain rfl : u = Value.ref b := ry
  obtain ⟨_, its, n, r, e⟩ := I.hok a _ ha
  obtain ⟨_, its2, n2, r2, e2⟩ := I.hok b _ hb
  cases r2
  show wpAny (model X.prog X.w) X.A (richCompare .NotEq (.ref a) (.ref b)) (EP X pins σ Q) X.xe s
  refine wpAny_richCompare_same_room (op := .NotEq) ⟨_, e, rfl⟩ ⟨_, e2, rfl⟩ F.slot_list_ne (GQ.call_here F.slot_list_ne ⟨_, e, rfl⟩ F.entry_list_ne (F.args_list_ne_2 _ _) ?_) hu
  refine MyN.ne_nil (R := wants (fun v s' => v ≠ .notImplemented ∧ EP X pins σ Q v s') X.xe) e e2 ⟨(fun x => nomatch x), .bl (!xs.isEmpty), H, I, ?_, q⟩
  rw [vals_empty r]
  rfl
theorem op_eqNil (hu : X.A.units < cLine) : OpR X (compareOp .Eq) (rNil id) := by
  intro pins s σ H x y v u Q I rx ry h
  obtain ⟨a, b, xs, rfl, rfl, ha, hb, q⟩ := h
  obtain rfl : v = Value.ref a := rx
  obtain rfl : u = Value.ref b := ry
  obtain ⟨_, its, n, r, e⟩ := I.hok a _ ha
  obtain ⟨_, its2, n2, r2, e2⟩ := I.hok b _ hb
  cases r2
  show wpAny (model X.prog X.w) X.A (richCompare .Eq (.ref a) (.ref b)) (EP X pins σ Q) X.xe s
  refine wpAny_richCompare_same_room (op := .Eq) ⟨_, e, rfl⟩ ⟨_, e2, rfl⟩ F.slot_list_eq (GQ.call_here F.slot_list_eq ⟨_, e, rfl⟩ F.entry_list_eq (F.args_list_eq_2 _ _) ?_) hu
  refine MyN.eq_nil (R := wants (fun v s' => v ≠ .notImplemented ∧ EP X pins σ Q v s') X.xe) e e2 ⟨(fun x => nomatch x), .bl xs.isEmpty, H, I, ?_, q⟩
  rw [vals_empty r]
  rfl
end
end My
namespace My
open PySem PySem.Spec PyProof.Rows L2
/-! ### things in a drawn order -/
def spMixed (K : PySem.W.Frag) : Sp := fun vs H Q _ => ∃ (p c l : Addr) (ns : List Int) (B : Int) (xs : List V), vs = [.ref p, .ref l] ∧ PenAt H p c ns B ∧ SqL K H l xs ∧ xs.length ≤ 100 ∧ B + xs.length ≤ 2000 ∧
  ∀ (ys : List V) (d : Addr) (H' : Hp), ys.Perm xs → PenAt H' p c ns (B + xs.length) → Off p H H' → d ≠ p → H d = none → H' d = some (.lst ys) → Q (.ref d) H'
abbrev nMix : List Str := ["_law_pen_here", "_law_some", "_law_left", "_law_turn"]
theorem PenAt.new {H : Hp} {p c a : Addr} {ns : List Int} {B : Int} {o : HO} (P : PenAt H p c ns B) (h : H a = none) : PenAt (upd H a o) p c ns B := P.keep fun q x e => by
  rw [upd_ne (ne_of_none e h)]
  exact e
theorem PenAt.np {H : Hp} {p c a : Addr} {ns : List Int} {B : Int} (P : PenAt H p c ns B) (ha : H a = none) : a ≠ p := by
  obtain ⟨b, g, e, _⟩ := P.pen
  exact (ne_of_none e ha).symm
section
variable {P : Program} {w : World} {K : PySem.W.Frag} {mg : Str → Option Value} {base : Heap}
theorem scMix : FnScope nMix ["_law_pen_here", "_law_some"] (defScope sMixed) := ⟨rfl, rfl, rfl, by decide +kernel, rfl, by decide +kernel, by decide +kernel⟩
abbrev XMi (P : Program) (w : World) (K : PySem.W.Frag) (mg : Str → Option Value) (base : Heap) (f : Addr) (cdv : Value) (A : Around) (outer : List Env) (s : Shared) (H : Hp) (E : XK) : Cx := (cxOf CX0 P w K mg base nMix "_law_mixed" (defScope sMixed) f cdv A outer s H E).nox
theorem ok_mixed {f fD : Addr} {fd dD : FuncData} (F : Fun K "_law_mixed" "_law_mixed" sMixed f fd) (T : Txt mg) (Dr : FnB P w K mg base 1 "_law_draw" sDraw fD dD ["_law_pen_here", "_law_many"] spDraw) : FnOk P w K mg base CX0 2 f fd ["_law_pen_here", "_law_some"] (spMixed K) := by
  refine F.ok scMix (fun vs H Q E h => ?_) (fun cdv A0 outer s H vs Q E hr h => ?_)
  · obtain ⟨p, c, l, ns, B, xs, rfl, _⟩ := h
    rfl
  · obtain ⟨p, c, l0, ns, B, xs, rfl, PA, hl, few, hB, q⟩ := h
    refine ⟨_, pss_cons (ps_set (i := 2) scMix.nd rfl (.inr rfl) (pe_callTy call_list_of (by rfl) T.list (by decide +kernel) (pa_cons (pv 1) pa_nil)))
      (pss_one (ps_ret (pe_lc (own := [("_law_turn", 3)]) (g := gName 3) (tt := tYes) rfl scMix.nd (pi_range1 (by rfl) T.range (pa_cons (pe_callB call_len_seq (by rfl) T.len PySem.boot_len (pa_cons (pv 2) pa_nil)) pa_nil)) (blkOk_by (N := nMix) (sc := defScope sMixed) (by decide +kernel)) (fun _ _ _ _ _ => pg_name (i := 3) scMix.nd rfl (Or.inl rfl)) (fun _ _ _ _ _ => pts_nil)
        (fun s1 H1 C1 cl1 fp1 => show PE ((XMi P w K mg base f cdv A0 outer s H E).blk s1 H1 _ (compEnvC _ cl1 C1 (XMi P w K mg base f cdv A0 outer s H E).env) fp1) _ (tBM K "list" rPopAt (tVar 2) (tCons (tCall spDraw [] E0 (tCons (tVar 0) (tCons (tCB (fun xs H Q => ∃ p ys, xs = [.ref p] ∧ (SqL K H p ys ∨ SqT K H p ys) ∧ Q (.int ys.length) H) (tCons (tVar 2) tNil)) tNil))) tNil)) from
          pe_bm PySem.F.plainAttrs_list PySem.F.slot_list_pop PySem.F.type_list_pop mt_popAt (pv 2) (pa_cons (pe_call (X := (XMi P w K mg base f cdv A0 outer s H E).blk s1 H1 _ (compEnvC _ cl1 C1 (XMi P w K mg base f cdv A0 outer s H E).env) fp1) Dr.G hr (by rfl) Dr.g Dr.F.kp Dr.b .nil pass0 (pa_cons (pv 0) (pa_cons (pe_callB call_len_seq (by rfl) T.len PySem.boot_len (pa_cons (pv 2) pa_nil)) pa_nil))) pa_nil))))), ?_⟩
    refine ⟨.ref l0, rfl, l0, xs, rfl, .inl hl, fun l hl1 => ?_⟩
    have pl : l ≠ p := PA.np hl1
    have o1 := Off.new (p := p) (o := .lst xs) hl1
    have P1 := PA.new (o := .lst xs) hl1
    have cl : c ≠ l := ne_of_none PA.cells hl1
    refine ⟨.ref l, rfl, l, _, rfl, .inl (SqL.of upd_same), xs.length, rfl, by omega, by omega, fun D hD => ?_⟩
    have Dp : D ≠ p := P1.np hD
    have Dl : D ≠ l := (ne_of_none upd_same hD).symm
    have Dc : D ≠ c := (ne_of_none P1.cells hD).symm
    have DH : H D = none := by
      rw [upd_ne Dl] at hD
      exact hD
    refine lc_it (walk_range (lo := 0) (n := xs.length)) (fun i H' => ∃ fv lv : List V, fv.length = i ∧ H' l = some (.lst lv) ∧ H' D = some (.lst fv) ∧ (fv ++ lv).Perm xs ∧ PenAt H' p c ns (B + (i : Nat)) ∧ Off p H H') ⟨[], xs, rfl, by rw [upd_ne Dl.symm, upd_same], upd_same, by simp, by simpa using P1.new (o := .lst []) hD, o1.trans (Off.new hD)⟩ (fun _ _ _ _ => trivial) (fun i x H2 H3 hi hp hx => ?_) (fun H2 hp => ?_)
    · obtain ⟨fv, lv, fl, el, ed, pm, P3, off3⟩ := hp
      obtain ⟨rfl, rfl⟩ := hx
      have tot : fv.length + lv.length = xs.length := by
        have := pm.length_eq
        rwa [List.length_append] at this
      refine ⟨rfl, ⟨.ref l, rfl, .inl ⟨rfl, _, SqL.of el⟩, .ref p, rfl, .ref l, rfl, l, _, rfl, .inl (SqL.of el), p, c, ns, B + (i : Nat), _, rfl, P3, by omega, by omega, by omega, fun d H4 i0 i1 P4 off4 => ?_⟩⟩
      have l4 := off4 l _ pl el
      have d4 := off4 D _ Dp ed
      obtain ⟨k, rfl⟩ : ∃ k : Nat, d = (k : Int) := ⟨d.toNat, by omega⟩
      have hk : k < lv.length := by omega
      have ek : lv[k]? = some lv[k] := List.getElem?_eq_getElem hk
      have sI : seqIndex? (k : Int) lv.length = some k := by
        unfold seqIndex?
        simp
        omega
      refine ⟨l, lv, (k : Int), k, _, rfl, rfl, l4, by omega, by omega, sI, ek, ?_⟩
      have d5 : (upd H4 l (.lst (lv.eraseIdx k))) D = some (.lst fv) := by rw [upd_ne Dl]; exact d4
      refine ⟨_, d5, by rw [sizeLine_eq]; omega, fv ++ [lv[k]], lv.eraseIdx k, by rw [List.length_append, fl]; rfl, by rw [upd_ne Dl.symm, upd_same], upd_same, ?_, ?_, fun b o n e => ?_⟩
      · refine List.Perm.trans ?_ pm
        rw [List.append_assoc]
        exact List.Perm.append_left fv (L2.erase_perm lv k _ ek)
      · have up : B + ((i + 1 : Nat) : Int) = B + (i : Nat) + 1 := by omega
        rw [up]
        obtain ⟨b, g, e1, e2, e3, e4⟩ := P4.pen
        exact ⟨⟨b, g, by rw [upd_ne Dp.symm, upd_ne pl.symm]; exact e1, e2, e3, e4⟩, by rw [upd_ne Dc.symm, upd_ne cl]; exact P4.cells, P4.few⟩
      · have nl : b ≠ l := ne_of_none e hl1
        have nd : b ≠ D := ne_of_none e DH
        rw [upd_ne nd, upd_ne nl]
        exact off4 b o n (off3 b o n e)
    · obtain ⟨fv, lv, fl, el, ed, pm, P3, off3⟩ := hp
      have l0 : lv = [] := List.length_eq_zero_iff.mp (by
        have := pm.length_eq
        rw [List.length_append] at this
        omega)
      rw [l0, List.append_nil] at pm
      exact q fv D H2 pm P3 off3 Dp DH ed
end
end My
namespace My
open PySem PySem.Spec PyProof.Rows L2
/-! ### the rows of this law: a word, a name, a size -/
structure RD where
  k : HD
  z : Int
deriving DecidableEq
def RD.row (r : RD) : List V := [.str r.k.wd, .str r.k.nm, .int r.z]
def pool10 : List Str := ["x", "y", "ab", "l", "zzzzzzzz", "f", "g", "a", "q", "chp"]
def rdsK : List RD := pool10.flatMap (fun n => [⟨.cell n 2, 2⟩, ⟨.cell n 3, 3⟩, ⟨.cell n 4, 4⟩, ⟨.log n, 2⟩, ⟨.log n, 3⟩, ⟨.log n, 4⟩, ⟨.fail n, 2⟩, ⟨.fail n, 3⟩, ⟨.fail n, 4⟩]) ++ [⟨.cho, 0⟩]
theorem rds_nm : ∀ r ∈ rdsK, r.k.nm.length ≤ 8 ∧ (r.k.ix ≠ 3 → nm r.k.nm = true) ∧ PyData.strOk r.k.nm = true := by decide +kernel
theorem rds_z : ∀ r ∈ rdsK, ∀ n z, r.k = .cell n z → z = r.z ∧ 2 ≤ z ∧ z ≤ 4 := by
  have h : ∀ r ∈ rdsK, (match r.k with | .cell _ z => decide (z = r.z) && (decide (2 ≤ z) && decide (z ≤ 4)) | _ => true) = true := by decide +kernel
  intro r hr n z e
  have q := h r hr
  rw [e] at q
  simp only [Bool.and_eq_true, decide_eq_true_eq] at q
  exact q
def AllR (rs : List RD) : Prop := ∀ r ∈ rs, r ∈ rdsK
def kinds (rs : List RD) : List HD := rs.map RD.k
theorem row_0 (r : RD) : atI r.row 0 = some (.str r.k.wd) := rfl
theorem row_1 (r : RD) : atI r.row 1 = some (.str r.k.nm) := rfl
theorem row_2 (r : RD) : atI r.row 2 = some (.int r.z) := rfl
structure Rws (H : Hp) (rs : List Addr) (ks : List RD) : Prop where
  len : rs.length = ks.length
  is : ∀ (i : Nat) (a : Addr) (k : RD), rs[i]? = some a → ks[i]? = some k → H a = some (.tup k.row)
theorem Rws.nil {H : Hp} : Rws H [] [] := ⟨rfl, fun i a k e => by simp at e⟩
theorem Rws.add {H : Hp} {rs : List Addr} {ks : List RD} {a : Addr} {k : RD} (h : Rws H rs ks) (e : H a = some (.tup k.row)) : Rws H (rs ++ [a]) (ks ++ [k]) := by
  refine ⟨by rw [List.length_append, List.length_append, h.len]; rfl, fun i b y e1 e2 => ?_⟩
  rcases Nat.lt_or_ge i rs.length with lt | ge
  · rw [List.getElem?_append_left lt] at e1
    rw [List.getElem?_append_left (by rw [← h.len]; exact lt)] at e2
    exact h.is i b y e1 e2
  · rw [List.getElem?_append_right ge] at e1
    rw [List.getElem?_append_right (by rw [← h.len]; exact ge), ← h.len] at e2
    cases hj : i - rs.length with
    | zero =>
      rw [hj] at e1 e2
      cases e1
      cases e2
      exact e
    | succ j =>
      rw [hj] at e1
      simp at e1
theorem Rws.app {H : Hp} {rs rs2 : List Addr} {ks ks2 : List RD} (h : Rws H rs ks) (h2 : Rws H rs2 ks2) : Rws H (rs ++ rs2) (ks ++ ks2) := by
  refine ⟨by rw [List.length_append, List.length_append, h.len, h2.len], fun i b y e1 e2 => ?_⟩
  rcases Nat.lt_or_ge i rs.length with lt | ge
  · rw [List.getElem?_append_left lt] at e1
    rw [List.getElem?_append_left (by rw [← h.len]; exact lt)] at e2
    exact h.is i b y e1 e2
  · rw [List.getElem?_append_right ge] at e1
    rw [List.getElem?_append_right (by rw [← h.len]; exact ge), ← h.len] at e2
    exact h2.is _ b y e1 e2
theorem Rws.to {H H' : Hp} {rs : List Addr} {ks : List RD} (h : Rws H rs ks) (k : ∀ b xs, H b = some (.tup xs) → H' b = some (.tup xs)) : Rws H' rs ks := ⟨h.len, fun i a y e1 e2 => k _ _ (h.is i a y e1 e2)⟩
theorem Rws.keep {H H' : Hp} {rs : List Addr} {ks : List RD} (h : Rws H rs ks) (s : Same' H H') : Rws H' rs ks := h.to fun b xs e => s _ _ e
theorem Rws.off {H H' : Hp} {p c : Addr} {ns : List Int} {B : Int} {rs : List Addr} {ks : List RD} (h : Rws H rs ks) (P : PenAt H p c ns B) (o : Off p H H') : Rws H' rs ks := h.to fun b xs e => by
  obtain ⟨b', g, hp, _⟩ := P.pen
  exact o b _ (fun z => by rw [z, hp] at e; cases e) e
/-- a list of rows -/
structure RowL (H : Hp) (l : Addr) (ks : List RD) : Prop where
  ex : ∃ rs, H l = some (.lst (rs.map V.ref)) ∧ Rws H rs ks
theorem RowL.keep {H H' : Hp} {l : Addr} {ks : List RD} (h : RowL H l ks) (s : Same' H H') : RowL H' l ks := let ⟨rs, e, r⟩ := h.ex; ⟨rs, s _ _ e, r.keep s⟩
theorem RowL.off {H H' : Hp} {p c l : Addr} {ns : List Int} {B : Int} {ks : List RD} (h : RowL H l ks) (n : l ≠ p) (P : PenAt H p c ns B) (o : Off p H H') : RowL H' l ks := let ⟨rs, e, r⟩ := h.ex; ⟨rs, o _ _ n e, r.off P o⟩
def unS : V → Option Str
  | .str z => some z
  | _ => none
theorem perm_strs {ys : List V} {zs : List Str} (h : ys.Perm (zs.map V.str)) : ∃ us : List Str, ys = us.map V.str ∧ us.Perm zs := by
  have e0 : ∀ us : List Str, (us.map V.str).filterMap unS = us := by
    intro us
    induction us with
    | nil => rfl
    | cons x us ih =>
      show x :: (us.map V.str).filterMap unS = x :: us
      rw [ih]
  have all : ∀ ys : List V, (∀ y ∈ ys, ∃ z, y = .str z) → ys = (ys.filterMap unS).map V.str := by
    intro ys
    induction ys with
    | nil => intro _; rfl
    | cons y ys ih =>
      intro h
      obtain ⟨z, rfl⟩ := h y List.mem_cons_self
      show V.str z :: ys = V.str z :: ((ys.filterMap unS).map V.str)
      rw [← ih fun x hx => h x (List.mem_cons_of_mem _ hx)]
  refine ⟨ys.filterMap unS, all ys fun y hy => ?_, ?_⟩
  · obtain ⟨z, _, e⟩ := List.mem_map.mp (h.mem_iff.mp hy)
    exact ⟨z, e.symm⟩
  · have := h.filterMap unS
    rwa [e0] at this
def unR : V → Option Addr
  | .ref z => some z
  | _ => none
theorem perm_refs {ys : List V} {zs : List Addr} (h : ys.Perm (zs.map V.ref)) : ∃ us : List Addr, ys = us.map V.ref ∧ us.Perm zs := by
  have e0 : ∀ us : List Addr, (us.map V.ref).filterMap unR = us := by
    intro us
    induction us with
    | nil => rfl
    | cons x us ih =>
      show x :: (us.map V.ref).filterMap unR = x :: us
      rw [ih]
  have all : ∀ ys : List V, (∀ y ∈ ys, ∃ z, y = .ref z) → ys = (ys.filterMap unR).map V.ref := by
    intro ys
    induction ys with
    | nil => intro _; rfl
    | cons y ys ih =>
      intro h
      obtain ⟨z, rfl⟩ := h y List.mem_cons_self
      show V.ref z :: ys = V.ref z :: ((ys.filterMap unR).map V.ref)
      rw [← ih fun x hx => h x (List.mem_cons_of_mem _ hx)]
  refine ⟨ys.filterMap unR, all ys fun y hy => ?_, ?_⟩
  · obtain ⟨z, _, e⟩ := List.mem_map.mp (h.mem_iff.mp hy)
    exact ⟨z, e.symm⟩
  · have := h.filterMap unR
    rwa [e0] at this
/-- rows in another order are rows -/
theorem Rws.perm {H : Hp} {rs us : List Addr} (h : us.Perm rs) : ∀ {ks : List RD}, Rws H rs ks → ∃ js, Rws H us js ∧ js.Perm ks := by
  induction h with
  | nil => intro ks r; exact ⟨ks, r, .refl _⟩
  | @cons x l1 l2 p ih =>
    intro ks r
    cases ks with
    | nil => exact absurd r.len (by simp)
    | cons k ks =>
      obtain ⟨js, r2, pj⟩ := ih (ks := ks) ⟨by simpa using r.len, fun i a y e1 e2 => r.is (i + 1) a y (by simpa using e1) (by simpa using e2)⟩
      refine ⟨k :: js, ⟨by simp [r2.len], fun i a y e1 e2 => ?_⟩, pj.cons k⟩
      cases i with
      | zero =>
        simp at e1 e2
        exact r.is 0 a y (by simpa using e1) (by simpa using e2)
      | succ i => exact r2.is i a y (by simpa using e1) (by simpa using e2)
  | @swap x y l =>
    intro ks r
    match ks with
    | [] => exact absurd r.len (by simp)
    | [_] => exact absurd r.len (by simp)
    | k1 :: k2 :: ks =>
      refine ⟨k2 :: k1 :: ks, ⟨by simpa using r.len, fun i a z e1 e2 => ?_⟩, .swap _ _ _⟩
      match i with
      | 0 =>
        simp at e1 e2
        exact r.is 1 a z (by simpa using e1) (by simpa using e2)
      | 1 =>
        simp at e1 e2
        exact r.is 0 a z (by simpa using e1) (by simpa using e2)
      | i + 2 => exact r.is (i + 2) a z (by simpa using e1) (by simpa using e2)
  | trans p1 p2 ih1 ih2 =>
    intro ks r
    obtain ⟨js, r2, pj⟩ := ih2 r
    obtain ⟨is, r3, pi⟩ := ih1 r2
    exact ⟨is, r3, pi.trans pj⟩
def spMade (A : A4) : Sp := fun vs H Q _ => ∃ (t : Addr) (k : RD), vs = [.ref t] ∧ k ∈ rdsK ∧ H t = some (.tup k.row) ∧ ∀ (a : Addr) (H' : Hp), Same' H H' → IsH A H' a k.k → Q (.ref a) H'
def spStacked (A : A4) (C : Addr) : Sp := fun vs H Q _ => ∃ (l : Addr) (rs : List RD), vs = [.ref l] ∧ RowL H l rs ∧ Few (kinds rs) ∧ AllR rs ∧ ∀ (a : Addr) (H' : Hp), Same' H H' → StkAt A C H' a (kinds rs) → Q (.ref a) H'
def spSort : Sp := fun vs H Q _ => ∃ (t : Addr) (r : RD), vs = [.ref t] ∧ H t = some (.tup r.row) ∧ ∀ H', Same' H H' → Q (.int (sortN r.k.ix : Nat)) H'
structure MkH (P : Program) (w : World) (K : PySem.W.Frag) (mg : Str → Option Value) (base : Heap) (A : A4) (fI : Nat → Addr) (dI : Nat → FuncData) : Prop where
  m0 : Mk K A.c (fI 0)
  b0 : Binds K (dI 0) ["self", "name", "size"] []
  G0 : FnOk P w K mg base CX0 4 (fI 0) (dI 0) ["self", "name", "size"] (spCellI A.c)
  m1 : Mk K A.l (fI 1)
  b1 : Binds K (dI 1) ["self", "name"] []
  G1 : FnOk P w K mg base CX0 4 (fI 1) (dI 1) ["self", "name"] (spNamed A.l)
  m2 : Mk K A.f (fI 2)
  b2 : Binds K (dI 2) ["self", "name"] []
  G2 : FnOk P w K mg base CX0 4 (fI 2) (dI 2) ["self", "name"] (spNamed A.f)
  m3 : Mk K A.h (fI 3)
  b3 : Binds K (dI 3) ["self"] []
  G3 : FnOk P w K mg base CX0 1 (fI 3) (dI 3) ["self"] (spChoI A.h)
def sortK (z : Str) : Option V := valV (mergeK [] [(Sum.inr "cell", V.int 0), (Sum.inr "log", .int 0), (Sum.inr "failure", .int 1), (Sum.inr "choice", .int 2)]) (Sum.inr z)
theorem sortK_4 : sortK "cell" = some (.int (sortN 0 : Nat)) ∧ sortK "log" = some (.int (sortN 1 : Nat)) ∧ sortK "failure" = some (.int (sortN 2 : Nat)) ∧ sortK "choice" = some (.int (sortN 3 : Nat)) := by decide +kernel
theorem sortK_wd (k : HD) : sortK k.wd = some (.int (sortN k.ix : Nat)) := by
  cases k with
  | cell n z => exact sortK_4.1
  | log n => exact sortK_4.2.1
  | fail n => exact sortK_4.2.2.1
  | cho => exact sortK_4.2.2.2
section
variable {P : Program} {w : World} {K : PySem.W.Frag} {mg : Str → Option Value} {base : Heap}
theorem scOne : FnScope ["_law_row"] ["_law_row"] (defScope sOne) := ⟨rfl, rfl, rfl, by decide +kernel, rfl, by decide +kernel, by decide +kernel⟩
theorem ok_one {A : A4} {f : Addr} {fd : FuncData} {fI : Nat → Addr} {dI : Nat → FuncData} (F : Fun K "_law_one" "_law_one" sOne f fd) (S : Hand K mg A) (M : MkH P w K mg base A fI dI) : FnOk P w K mg base CX0 6 f fd ["_law_row"] (spMade A) := by
  refine F.ok scOne (fun vs H Q E h => ?_) (fun cdv A0 outer s H vs Q E hr h => ?_)
  · obtain ⟨t, k, rfl, _⟩ := h
    rfl
  · obtain ⟨t, ⟨k, z0⟩, rfl, hk, ht, q⟩ := h
    refine ⟨_, pss_cons (ps_if (pt_cmpR op_eq (pe_ix ix_tup (pv 0) pe_int (fun _ _ => rfl)) pe_str (nomark _))
        (pss_one (ps_ret (pe_make M.m0 M.G0 hr (by rfl) S.cC.g M.b0 .nil pass0 (pa_cons (pe_ix ix_tup (pv 0) pe_int (fun _ _ => rfl)) (pa_cons (pe_ix ix_tup (pv 0) pe_int (fun _ _ => rfl)) pa_nil))))) pss_nil)
      (pss_cons (ps_if (pt_cmpR op_eq (pe_ix ix_tup (pv 0) pe_int (fun _ _ => rfl)) pe_str (nomark _))
        (pss_one (ps_ret (pe_make M.m1 M.G1 hr (by rfl) S.cL.g M.b1 .nil pass0 (pa_cons (pe_ix ix_tup (pv 0) pe_int (fun _ _ => rfl)) pa_nil)))) pss_nil)
      (pss_one (ps_ret (pe_ifExp (pt_cmpR op_eq (pe_ix ix_tup (pv 0) pe_int (fun _ _ => rfl)) pe_str (nomark _))
        (pe_make M.m2 M.G2 hr (by rfl) S.cF.g M.b2 .nil pass0 (pa_cons (pe_ix ix_tup (pv 0) pe_int (fun _ _ => rfl)) pa_nil))
        (pe_make0 M.m3 M.G3 (hr.mono (by decide)) (by rfl) S.cH.g M.b3 .nil pass0))))), ?_⟩
    obtain ⟨nl, nn, _⟩ := rds_nm _ hk
    have nl' : k.nm.length ≤ 1000 := Nat.le_trans nl (by decide)
    have hZ := rds_z _ hk
    have tS := SqT.of (K := K) ht
    cases k with
    | cell n z =>
      obtain ⟨e0, z2, z4⟩ := hZ n z rfl
      obtain rfl : z = z0 := e0
      refine ⟨.ref t, rfl, t, _, 0, .str "cell", rfl, rfl, tS, rfl, rfl, true, rfl, iteT ?_⟩
      refine ⟨.ref t, rfl, t, _, 1, .str n, rfl, rfl, tS, rfl, .ref t, rfl, t, _, 2, .int z, rfl, rfl, tS, rfl, fun x dx hx hdx nxd => ?_⟩
      exact ⟨x, dx, n, z, rfl, upd_same, nl', nn (show (0 : Nat) ≠ 3 by decide), z2, z4, fun H' k1 e1 => ⟨rfl, q x H' (made_same hx hdx k1) ⟨dx, e1⟩⟩⟩
    | log n =>
      refine ⟨.ref t, rfl, t, _, 0, .str "log", rfl, rfl, tS, rfl, rfl, false, rfl, iteF ?_⟩
      refine ⟨.ref t, rfl, t, _, 0, .str "log", rfl, rfl, tS, rfl, rfl, true, rfl, iteT ?_⟩
      refine ⟨.ref t, rfl, t, _, 1, .str n, rfl, rfl, tS, rfl, fun x dx hx hdx nxd => ?_⟩
      exact ⟨x, dx, n, rfl, upd_same, nl', nn (show (1 : Nat) ≠ 3 by decide), fun H' k1 e1 => ⟨rfl, q x H' (made_same hx hdx k1) ⟨dx, e1⟩⟩⟩
    | fail n =>
      refine ⟨.ref t, rfl, t, _, 0, .str "failure", rfl, rfl, tS, rfl, rfl, false, rfl, iteF ?_⟩
      refine ⟨.ref t, rfl, t, _, 0, .str "failure", rfl, rfl, tS, rfl, rfl, false, rfl, iteF ?_⟩
      refine ⟨.ref t, rfl, t, _, 0, .str "failure", rfl, rfl, tS, rfl, rfl, true, rfl, iteT ?_⟩
      refine ⟨.ref t, rfl, t, _, 1, .str n, rfl, rfl, tS, rfl, fun x dx hx hdx nxd => ?_⟩
      exact ⟨x, dx, n, rfl, upd_same, nl', nn (show (2 : Nat) ≠ 3 by decide), fun H' k1 e1 => ⟨rfl, q x H' (made_same hx hdx k1) ⟨dx, e1⟩⟩⟩
    | cho =>
      refine ⟨.ref t, rfl, t, _, 0, .str "choice", rfl, rfl, tS, rfl, rfl, false, rfl, iteF ?_⟩
      refine ⟨.ref t, rfl, t, _, 0, .str "choice", rfl, rfl, tS, rfl, rfl, false, rfl, iteF ?_⟩
      refine ⟨.ref t, rfl, t, _, 0, .str "choice", rfl, rfl, tS, rfl, rfl, false, rfl, iteF ?_⟩
      intro x dx hx hdx nxd
      exact ⟨x, dx, rfl, upd_same, fun H' k1 e1 => ⟨rfl, q x H' (made_same hx hdx k1) ⟨dx, e1⟩⟩⟩
abbrev nSt : List Str := ["_law_rows_here", "_law_row"]
theorem scSt : FnScope nSt ["_law_rows_here"] (defScope sStackL) := ⟨rfl, rfl, rfl, by decide +kernel, rfl, by decide +kernel, by decide +kernel⟩
abbrev XSt (P : Program) (w : World) (K : PySem.W.Frag) (mg : Str → Option Value) (base : Heap) (f : Addr) (cdv : Value) (A : Around) (outer : List Env) (s : Shared) (H : Hp) (E : XK) : Cx := (cxOf CX0 P w K mg base nSt "_law_stack" (defScope sStackL) f cdv A outer s H E).nox
theorem Rws.at {H : Hp} {rs : List Addr} {ks : List RD} (h : Rws H rs ks) {i : Nat} {x : V} (e : (rs.map V.ref)[i]? = some x) : ∃ a k, rs[i]? = some a ∧ ks[i]? = some k ∧ x = .ref a ∧ H a = some (.tup k.row) := by
  rw [List.getElem?_map] at e
  cases ea : rs[i]? with
  | none => rw [ea] at e; cases e
  | some a =>
    rw [ea] at e
    have hi : i < ks.length := by
      have := (List.getElem?_eq_some_iff.mp ea).1
      rw [h.len] at this
      exact this
    exact ⟨a, ks[i], rfl, List.getElem?_eq_getElem hi, (Option.some.inj e).symm, h.is i a _ ea (List.getElem?_eq_getElem hi)⟩
theorem ok_stacked {A : A4} {C f fM g p : Addr} {fd dM dg : FuncData} {mc : Value} (F : Fun K "_law_stack" "_law_stack" sStackL f fd) (SC : SCls K mg C) (Ma : FnB P w K mg base 6 "_law_one" sOne fM dM ["_law_row"] (spMade A)) (Sm : SMet K C mc "of" p g) (bg : Binds K dg nOf []) (Gg : FnOk P w K mg base CX0 7 g dg nOf (spOf A C)) :
    FnOk P w K mg base CX0 8 f fd ["_law_rows_here"] (spStacked A C) := by
  refine F.ok scSt (fun vs H Q E h => ?_) (fun cdv A0 outer s H vs Q E hr h => ?_)
  · obtain ⟨l, ks, rfl, _⟩ := h
    rfl
  · obtain ⟨l, ks, rfl, ⟨rs, el, rw0⟩, few, all, q⟩ := h
    refine ⟨_, pss_one (ps_ret (pe_smeth (pe_glob (v := .ref C) rfl SC.g rfl) Sm (Gg.raw bg .nil) hr pass0 (pa_cons (pe_lc (own := [("_law_row", 1)]) (g := gName 1) (tt := tYes) rfl scSt.nd (pi_list (pv 0)) (blkOk_by (N := nSt) (sc := defScope sStackL) (by decide +kernel)) (fun _ _ _ _ _ => pg_name (i := 1) scSt.nd rfl (Or.inl rfl)) (fun _ _ _ _ _ => pts_nil)
      (fun s1 H1 C1 cl1 fp1 => pe_call (X := (XSt P w K mg base f cdv A0 outer s H E).blk s1 H1 _ (compEnvC _ cl1 C1 (XSt P w K mg base f cdv A0 outer s H E).env) fp1) Ma.G (hr.mono (by decide)) (by rfl) Ma.g Ma.F.kp Ma.b .nil pass0 (pa_cons (pv 1) pa_nil))) pa_nil))), ?_⟩
    refine ⟨rfl, .ref l, rfl, l, rfl, ⟨_, SqL.of el⟩, fun D hD => ?_⟩
    have few64 := few.n
    rw [kinds, List.length_map] at few64
    refine lc_it (walk_list (K := K) (a := l) (xs := rs.map V.ref)) (fun i H' => Same' H H' ∧ ∃ as : List Addr, H' D = some (.lst (as.map V.ref)) ∧ Hs A H' as (kinds (ks.take i))) ⟨same_new hD, [], upd_same, ⟨rfl, fun i a k e => by simp at e⟩⟩ (fun i H' _ hp => SqL.of (hp.1 _ _ el)) (fun i x H1 H2 hi hp hx => ?_) (fun H1 hp => ?_)
    · obtain ⟨sm, as, ed, hs⟩ := hp
      obtain ⟨rfl, e2⟩ := hx
      obtain ⟨t, k, et, ek, rfl, ht⟩ := (rw0.keep sm).at e2
      refine ⟨rfl, ⟨.ref t, rfl, t, k, rfl, all k (List.mem_of_getElem? ek), ht, fun a H3 s3 ha => ?_⟩⟩
      have ed3 := s3 _ _ ed
      have nD : ∀ b o, H b = some o → b ≠ D := fun b o e => ne_of_none e hD
      have kp : ∀ b o, b ≠ D → H3 b = some o → (upd H3 D (.lst (as.map V.ref ++ [.ref a]))) b = some o := fun b o n e => by rw [upd_ne n]; exact e
      have kh : ∀ {b k}, IsH A H3 b k → IsH A (upd H3 D (.lst (as.map V.ref ++ [.ref a]))) b k := fun {b k} ⟨dx, e⟩ => ⟨dx, kp b _ (fun z => by rw [z, ed3] at e; cases e) e⟩
      refine ⟨_, ed3, ?_, fun b o e => kp b o (nD b o e) (s3 _ _ (sm _ _ e)), as ++ [a], ?_, ?_⟩
      · rw [List.length_map, hs.len, kinds, List.length_map, List.length_take, sizeLine_eq]
        omega
      · rw [upd_same, List.map_append]
        rfl
      · rw [List.take_add_one, ek]
        unfold kinds at hs ⊢
        rw [List.map_append]
        have hs3 := hs.keep s3
        exact Hs.add ⟨hs3.len, fun i b k e1 e2 => kh (hs3.is i b k e1 e2)⟩ (kh ha)
    · obtain ⟨sm, as, ed, hs⟩ := hp
      rw [List.take_of_length_le (by rw [List.length_map, rw0.len]; exact Nat.le_refl _)] at hs
      exact ⟨D, as, kinds ks, rfl, ed, hs, few, fun a H3 s3 st => q a H3 (sm.trans s3) st⟩
theorem scSort : FnScope ["_law_row"] ["_law_row"] (defScope sSort) := ⟨rfl, rfl, rfl, by decide +kernel, rfl, by decide +kernel, by decide +kernel⟩
theorem ok_sort {f : Addr} {fd : FuncData} (F : Fun K "_law_sort" "_law_sort" sSort f fd) : FnOk P w K mg base CX0 1 f fd ["_law_row"] spSort := by
  refine F.ok scSort (fun vs H Q E h => ?_) (fun cdv A0 outer s H vs Q E hr h => ?_)
  · obtain ⟨t, r, rfl, _⟩ := h
    rfl
  · obtain ⟨t, r, rfl, ht, q⟩ := h
    have hu : (cxOf CX0 P w K mg base ["_law_row"] "_law_sort" (defScope sSort) f cdv A0 outer s H E).nox.A.units + 1 < cLine := by
      have h := hr.un
      show (A0.deeper _).units + 1 < cLine
      omega
    refine ⟨_, pss_one (ps_ret (pe_dget hu (pe_disp (pps_cons pe_str pe_int (pps_cons pe_str pe_int (pps_cons pe_str pe_int (pps_cons pe_str pe_int pps_nil)))) (by rfl) (by rfl) (fun z => by cases z) (by decide)) (pe_ix ix_tup (pv 0) pe_int (fun _ _ => rfl)) (fun _ _ => rfl))), ?_⟩
    intro d hd
    refine ⟨upd_same, [(Sum.inr "cell", V.int 0), (Sum.inr "log", .int 0), (Sum.inr "failure", .int 1), (Sum.inr "choice", .int 2)], rfl, by decide, ?_⟩
    have sm : Same' H (upd (upd H d (.dK [])) d (.dK (mergeK [] [(Sum.inr "cell", V.int 0), (Sum.inr "log", .int 0), (Sum.inr "failure", .int 1), (Sum.inr "choice", .int 2)]))) := same_over hd (same_new hd)
    have ed : (upd (upd H d (.dK [])) d (.dK (mergeK [] [(Sum.inr "cell", V.int 0), (Sum.inr "log", .int 0), (Sum.inr "failure", .int 1), (Sum.inr "choice", .int 2)]))) d = some (.dK (mergeK [] [(Sum.inr "cell", V.int 0), (Sum.inr "log", .int 0), (Sum.inr "failure", .int 1), (Sum.inr "choice", .int 2)])) := upd_same
    exact ⟨.ref t, rfl, t, _, 0, .str r.k.wd, rfl, rfl, SqT.of (sm _ _ ht), row_0 r, d, _, rfl, .inl ⟨_, Sum.inr r.k.wd, .inl ed, rfl, (sortK_wd r.k).symm⟩, q _ sm⟩
end
end My
namespace My
open PySem PySem.Spec PyProof.Rows L2
/-! ### the lines of all that meet -/
def lineOf (k k2 : HD) : Str := (k.nm ++ " ") ++ k2.nm
def linesK (k : HD) (r : List HD) : List Str := (r.filter fun k2 => meetB k.ix k2.ix).map (lineOf k)
def linesL : List HD → List Str
  | [] => []
  | k :: r => linesK k r ++ linesL r
theorem linesK_len (k : HD) (r : List HD) : (linesK k r).length ≤ r.length := by
  unfold linesK
  rw [List.length_map]
  exact List.length_filter_le _ _
theorem linesL_len : ∀ ks : List HD, 2 * (linesL ks).length + ks.length ≤ ks.length * ks.length
  | [] => Nat.le_refl _
  | k :: r => by
    have ih := linesL_len r
    have h := linesK_len k r
    have e : (r.length + 1) * (r.length + 1) = r.length * r.length + 2 * r.length + 1 := by
      rw [Nat.succ_mul, Nat.mul_succ]
      omega
    show 2 * (linesK k r ++ linesL r).length + (r.length + 1) ≤ (r.length + 1) * (r.length + 1)
    rw [List.length_append, e]
    omega
theorem linesL_64 {ks : List HD} (h : ks.length ≤ 10) : (linesL ks).length < 64 := by
  have := linesL_len ks
  have h2 : ks.length * ks.length ≤ 10 * 10 := Nat.mul_le_mul h h
  omega
theorem drop_step {ks : List HD} {i : Nat} {k : HD} (h : ks[i]? = some k) : ks.drop i = k :: ks.drop (i + 1) := by
  obtain ⟨hi, e⟩ := List.getElem?_eq_some_iff.mp h
  rw [List.drop_eq_getElem_cons hi, e]
theorem drop_stepR {ks : List RD} {i : Nat} {k : RD} (h : ks[i]? = some k) : ks.drop i = k :: ks.drop (i + 1) := by
  obtain ⟨hi, e⟩ := List.getElem?_eq_some_iff.mp h
  rw [List.drop_eq_getElem_cons hi, e]
theorem kinds_at {rs : List RD} {i : Nat} {r : RD} (h : rs[i]? = some r) : (kinds rs)[i]? = some r.k := by
  unfold kinds
  rw [List.getElem?_map, h]
  rfl
def spPairsL : Sp := fun vs H Q _ => ∃ (l : Addr) (ks : List RD), vs = [.ref l] ∧ RowL H l ks ∧ ks.length ≤ 10 ∧ AllR ks ∧ ∀ (d : Addr) (ys : List Str) (H' : Hp), ys.Perm (linesL (kinds ks)) → sortedS ys = true → Same' H H' → H' d = some (.lst (ys.map V.str)) → Q (.ref d) H'
section
variable {P : Program} {w : World} {K : PySem.W.Frag} {mg : Str → Option Value} {base : Heap}
abbrev nTwo : List Str := ["_law_rows_here", "_law_found", "_law_at", "_law_row", "_law_other", "_law_text"]
theorem scTwo : FnScope nTwo ["_law_rows_here"] (defScope sPairsL) := ⟨rfl, rfl, rfl, by decide +kernel, rfl, by decide +kernel, by decide +kernel⟩
abbrev XTw (P : Program) (w : World) (K : PySem.W.Frag) (mg : Str → Option Value) (base : Heap) (f : Addr) (cdv : Value) (A : Around) (outer : List Env) (s : Shared) (H : Hp) (E : XK) : Cx := (cxOf CX0 P w K mg base nTwo "_law_pairs" (defScope sPairsL) f cdv A outer s H E).nox
theorem ok_pairsL {f fM : Addr} {fd dM : FuncData} (F : Fun K "_law_pairs" "_law_pairs" sPairsL f fd) (T : Txt mg) (So : FnB P w K mg base 1 "_law_sort" sSort fM dM ["_law_row"] spSort) : FnOk P w K mg base CX0 2 f fd ["_law_rows_here"] spPairsL := by
  refine F.ok scTwo (fun vs H Q E h => ?_) (fun cdv A0 outer s H vs Q E hr h => ?_)
  · obtain ⟨l, ks, rfl, _⟩ := h
    rfl
  · obtain ⟨l, ks, rfl, ⟨rs, el, rw0⟩, few, all, q⟩ := h
    refine ⟨_, pss_cons (ps_set (i := 1) scTwo.nd rfl (.inl rfl) (pe_lst pa_nil))
      (pss_cons (ps_for PassesOwn.never rfl (pi_enum (by rfl) T.enum (pa_cons (pv 0) pa_nil)) (pg_tup (n := 2) rfl (pgs_cons (pg_name (i := 2) scTwo.nd rfl (.inl rfl)) (pgs_cons (pg_name (i := 3) scTwo.nd rfl (.inr rfl)) pgs_nil)))
        (pss_one (ps_set (i := 1) scTwo.nd rfl (.inl rfl) (pe_op op_cat (pv 1) (pe_lc (own := [("_law_other", 4)]) (g := gName 4) rfl scTwo.nd (pi_list (pe_slice sl_list (pv 0) (po_some (pe_op op_add (pv 2) pe_int)) po_none)) (blkOk_by (N := nTwo) (sc := defScope sPairsL) (by decide +kernel)) (fun _ _ _ _ _ => pg_name (i := 4) scTwo.nd rfl (Or.inl rfl))
          (fun s1 H1 C1 cl1 fp1 => pts_one (pt_cmpR (show OpR _ (compareOp .NotEq) rNe from op_ne) (pe_call (X := (XTw P w K mg base f cdv A0 outer s H E).blk s1 H1 _ (compEnvC _ cl1 C1 (XTw P w K mg base f cdv A0 outer s H E).env) fp1) So.G hr (by rfl) So.g So.F.kp So.b .nil pass0 (pa_cons (pv 3) pa_nil)) (pe_call (X := (XTw P w K mg base f cdv A0 outer s H E).blk s1 H1 _ (compEnvC _ cl1 C1 (XTw P w K mg base f cdv A0 outer s H E).env) fp1) So.G hr (by rfl) So.g So.F.kp So.b .nil pass0 (pa_cons (pv 4) pa_nil)) (nomark _)))
          (fun _ _ _ _ _ => pe_op op_add_str (pe_op op_add_str (pe_ix (show IxR _ (rIxT K) from ix_tup) (pv 3) pe_int (fun _ _ => rfl)) pe_str) (pe_ix (show IxR _ (rIxT K) from ix_tup) (pv 4) pe_int (fun _ _ => rfl))))))))
      (pss_one (ps_ret (pe_callB cr_sortedS (by rfl) T.sorted (by decide +kernel) (pa_cons (pe_lc (own := [("_law_text", 5)]) (g := gName 5) (tt := tYes) rfl scTwo.nd (pi_list (pv 1)) (blkOk_by (N := nTwo) (sc := defScope sPairsL) (by decide +kernel)) (fun _ _ _ _ _ => pg_name (i := 5) scTwo.nd rfl (Or.inl rfl)) (fun _ _ _ _ _ => pts_nil)
          (fun _ _ _ _ _ => pe_callTy SkE.call_str_str (by rfl) T.str (by decide +kernel) (pa_cons (pv 5) pa_nil))) pa_nil))))), ?_⟩
    refine ⟨by show 0 ≤ sizeLine; decide, fun fl hfl => ?_⟩
    have s0 := same_new (o := .lst []) hfl
    refine ⟨.ref l, rfl, l, rs.map V.ref, rfl, SqL.of (s0 _ _ el), ?_⟩
    have n64 := linesL_64 (ks := kinds ks) (by rw [kinds, List.length_map]; exact few)
    refine for_it (walk_enum (K := K) (a := l) (xs := rs.map V.ref)) (fun i σ H' => Same' H H' ∧ ∃ (fa : Addr) (fs : List Str) (z2 z3 : Option V), σ = [some (.ref l), some (.ref fa), z2, z3, none, none] ∧ H' fa = some (.lst (fs.map V.str)) ∧ fs ++ linesL (kinds (ks.drop i)) = linesL (kinds ks)) ⟨s0, fl, [], none, none, rfl, upd_same, rfl⟩ (fun i σ H' _ hp => SqL.of (hp.1 _ _ el)) (fun i x σ H1 H2 hi hp hy => ?_) (fun σ H1 hp => ?_)
    · obtain ⟨sm, fa, fs, z2, z3, rfl, efa, efs⟩ := hp
      obtain ⟨tt, v1, v2, rfl, htt, rfl, e1, e2⟩ := hy
      injection e1 with e1
      subst e1
      obtain ⟨t, k, et, ek, rfl, ht⟩ := (rw0.keep sm).at e2
      have st := same_new (o := .tup [V.int (i : Int), V.ref t]) htt
      refine ⟨tt, _, rfl, SqT.of upd_same, rfl, _, _, rfl, _, _, rfl, rfl, ?_⟩
      have sm2 := sm.trans st
      have ht2 := st _ _ ht
      have efa2 := st _ _ efa
      generalize upd H1 tt (.tup [V.int (i : Int), V.ref t]) = H3 at *
      refine ⟨.ref fa, rfl, .ref l, rfl, .int (i : Int), rfl, _, _, rfl, rfl, _, rfl, l, _, rfl, SqL.of (sm2 _ _ el), fun u hu => ?_⟩
      have up : ((i : Int) + 1) = ((i + 1 : Nat) : Int) := by omega
      rw [up, cut_from, ← List.map_drop]
      have su := same_new (o := .lst ((rs.drop (i + 1)).map V.ref)) hu
      have eu : (upd H3 u (.lst ((rs.drop (i + 1)).map V.ref))) u = some (.lst ((rs.drop (i + 1)).map V.ref)) := upd_same
      have sm3 := sm2.trans su
      have ht3 := su _ _ ht2
      have efa3 := su _ _ efa2
      generalize upd H3 u (.lst ((rs.drop (i + 1)).map V.ref)) = H4 at *
      have rwd : Rws H4 (rs.drop (i + 1)) (ks.drop (i + 1)) := by
        have r4 := rw0.keep sm3
        refine ⟨by rw [List.length_drop, List.length_drop, r4.len], fun j a y q1 q2 => ?_⟩
        rw [List.getElem?_drop] at q1 q2
        exact r4.is _ a y q1 q2
      have kin : k ∈ rdsK := all k (List.mem_of_getElem? ek)
      refine ⟨u, rfl, ⟨_, SqL.of eu⟩, fun D hD => ?_⟩
      have ld : (ks.drop (i + 1)).length ≤ 10 := by rw [List.length_drop]; omega
      refine lc_it (walk_list (K := K) (a := u) (xs := (rs.drop (i + 1)).map V.ref)) (fun j H' => Same' H4 H' ∧ H' D = some (.lst ((linesK k.k (kinds ((ks.drop (i + 1)).take j))).map V.str))) ⟨same_new hD, upd_same⟩ (fun j H' _ hp => SqL.of (hp.1 _ _ eu)) (fun j x H5 H6 hj hp hx => ?_) (fun H5 hp => ?_)
      · obtain ⟨s5, ed⟩ := hp
        obtain ⟨rfl, e3⟩ := hx
        obtain ⟨t2, k2, et2, ek2, rfl, ht2'⟩ := (rwd.keep s5).at e3
        have k2in : k2 ∈ rdsK := all k2 (List.mem_of_mem_drop (List.mem_of_getElem? ek2))
        refine ⟨rfl, ⟨.ref t, rfl, t, k, rfl, s5 _ _ ht3, fun H7a s7a => ⟨.ref t2, rfl, t2, k2, rfl, s7a _ _ ht2', fun H7 s7b => ⟨rfl, ?_⟩⟩⟩⟩
        have due : (!decide (V.int (sortN k.k.ix : Nat) = V.int (sortN k2.k.ix : Nat))) = meetB k.k.ix k2.k.ix := by
          rw [meet_sort _ k.k.ix_lt _ k2.k.ix_lt, Bool.eq_iff_iff]
          simp
          omega
        rw [due]
        refine ⟨_, rfl, ?_⟩
        have s7 := s7a.trans s7b
        have s57 := s5.trans s7
        have stp : linesK k.k (kinds ((ks.drop (i + 1)).take (j + 1))) = linesK k.k (kinds ((ks.drop (i + 1)).take j)) ++ (if meetB k.k.ix k2.k.ix = true then [lineOf k.k k2.k] else []) := by
          unfold linesK kinds
          rw [List.take_add_one, ek2, List.map_append, List.filter_append, List.map_append]
          congr 1
          show (List.filter _ [k2.k]).map _ = _
          rw [List.filter_cons]
          split <;> rfl
        have ed7 := s7 _ _ ed
        refine ite2 (fun e => ?_) (fun e => ?_)
        · obtain ⟨l1, _, _⟩ := rds_nm k kin
          obtain ⟨l2, _, _⟩ := rds_nm k2 k2in
          have lsp : (" " : Str).length = 1 := by decide
          refine ⟨.ref t, rfl, t, _, 1, .str k.k.nm, rfl, rfl, SqT.of (s57 _ _ ht3), row_1 k, k.k.nm, " ", rfl, rfl, by rw [lsp, sizeLine_eq]; omega, .ref t2, rfl, t2, _, 1, .str k2.k.nm, rfl, rfl, SqT.of (s7 _ _ ht2'), row_1 k2, _, k2.k.nm, rfl, rfl, by rw [len_app, lsp, sizeLine_eq]; omega, _, ed7, ?_, same_over hD s57, ?_⟩
          · have := linesK_len k.k (kinds ((ks.drop (i + 1)).take j))
            have hk : (kinds ((ks.drop (i + 1)).take j)).length ≤ 10 := by
              rw [kinds, List.length_map, List.length_take]
              omega
            rw [List.length_map, sizeLine_eq]
            omega
          · rw [upd_same, stp, if_pos e, List.map_append]
            rfl
        · refine ⟨s57, ?_⟩
          rw [stp, if_neg e, List.append_nil]
          exact ed7
      · obtain ⟨s5, ed⟩ := hp
        rw [List.take_of_length_le (by rw [List.length_map, rwd.len]; exact Nat.le_refl _)] at ed
        have efs2 : (fs ++ linesK k.k (kinds (ks.drop (i + 1)))) ++ linesL (kinds (ks.drop (i + 1))) = linesL (kinds ks) := by
          rw [← efs, drop_stepR ek, List.append_assoc]
          rfl
        have tot : fs.length + (linesK k.k (kinds (ks.drop (i + 1)))).length ≤ (linesL (kinds ks)).length := by
          rw [← efs2, List.length_append, List.length_append]
          omega
        refine ⟨fa, D, _, _, rfl, rfl, s5 _ _ efa3, ed, by rw [List.length_map, List.length_map, sizeLine_eq]; omega, fun D2 hD2 => ?_⟩
        rw [← List.map_append]
        exact ⟨sm3.trans (s5.trans (same_new hD2)), D2, _, _, _, rfl, upd_same, efs2⟩
    · obtain ⟨sm, fa, fs, z2, z3, rfl, efa, efs⟩ := hp
      rw [List.length_map, rw0.len, List.drop_of_length_le (Nat.le_refl _)] at efs
      have efs : fs = linesL (kinds ks) := by
        rw [← efs]
        exact (List.append_nil _).symm
      subst efs
      refine ⟨.ref fa, rfl, fa, rfl, ⟨_, SqL.of efa⟩, fun D hD => ?_⟩
      refine lc_it (walk_list (K := K) (a := fa) (xs := (linesL (kinds ks)).map V.str)) (fun j H' => Same' H1 H' ∧ H' D = some (.lst (((linesL (kinds ks)).take j).map V.str))) ⟨same_new hD, upd_same⟩ (fun j H' _ hp => SqL.of (hp.1 _ _ efa)) (fun j x H5 H6 hj hp hx => ?_) (fun H5 hp => ?_)
      · obtain ⟨s5, ed⟩ := hp
        obtain ⟨rfl, e3⟩ := hx
        rw [List.getElem?_map] at e3
        cases ez : (linesL (kinds ks))[j]? with
        | none => rw [ez] at e3; cases e3
        | some z =>
          rw [ez] at e3
          cases e3
          refine ⟨rfl, ⟨.str z, rfl, z, rfl, _, ed, ?_, same_over hD s5, ?_⟩⟩
          · rw [List.length_map, List.length_take, sizeLine_eq]
            omega
          · rw [upd_same, List.take_add_one, ez, List.map_append]
            rfl
      · obtain ⟨s5, ed⟩ := hp
        rw [List.take_of_length_le (by rw [List.length_map]; exact Nat.le_refl _)] at ed
        exact ⟨D, _, rfl, SqL.of ed, n64, fun ys d2 pm so hd2 => q d2 ys _ pm so (sm.trans (s5.trans (same_new hd2))) upd_same⟩
end
end My
namespace My
open PySem PySem.Spec PyProof.Rows L2
/-! ### the law's normal: insertion within the run -/
def LeS (a b : Str) : Prop := ltCps b.cps.toList a.cps.toList = false
def ltB (a b : Str) : Bool := ltCps a.cps.toList b.cps.toList
theorem leS_iff (a b : Str) : LeS a b ↔ a.cps.toList ≤ b.cps.toList := by
  unfold LeS
  rw [ltCps_eq, decide_eq_false_iff_not]
  exact List.not_lt
theorem leS_trans {a b c : Str} (h : LeS a b) (k : LeS b c) : LeS a c := by
  rw [leS_iff] at *
  exact List.le_trans h k
theorem leS_of_lt {a b : Str} (h : ltB a b = true) : LeS a b := by
  unfold ltB at h
  rw [ltCps_eq, decide_eq_true_iff] at h
  rw [leS_iff]
  exact List.le_of_lt h
def srt (r : RD) : Nat := sortN r.k.ix
def posN (fd : List RD) (r : RD) : Nat → Nat
  | 0 => 0
  | a + 1 => match fd[a]? with
    | some x => if srt x = srt r ∧ ltB r.k.nm x.k.nm = true then posN fd r a else a + 1
    | none => a + 1
def insR (fd : List RD) (r : RD) : List RD := fd.take (posN fd r fd.length) ++ [r] ++ fd.drop (posN fd r fd.length)
def normR (rs : List RD) : List RD := rs.foldl insR []
/-- insertion behind F into f, ascending, of one sort -/
theorem pos_run {F f : List RD} {r : RD} (hF : ∀ x, F.getLast? = some x → srt x ≠ srt r) (hs : ∀ x ∈ f, srt x = srt r) (pw : f.Pairwise fun a b => LeS a.k.nm b.k.nm) : ∀ a, a ≤ f.length → (∀ x ∈ f.drop a, ltB r.k.nm x.k.nm = true) →
    ∃ b, posN (F ++ f) r (F.length + a) = F.length + b ∧ b ≤ f.length ∧ (∀ x ∈ f.drop b, ltB r.k.nm x.k.nm = true) ∧ ∀ x ∈ f.take b, LeS x.k.nm r.k.nm
  | 0, _, hd => by
    refine ⟨0, ?_, Nat.zero_le _, hd, fun x hx => by simp at hx⟩
    rw [Nat.add_zero]
    cases hF' : F with
    | nil => rfl
    | cons y ys =>
      show posN (y :: ys ++ f) r (ys.length + 1) = ys.length + 1
      have e : (y :: ys ++ f)[ys.length]? = some ((y :: ys).getLast (by simp)) := by
        rw [List.getElem?_append_left (by simp), List.getLast_eq_getElem]
        exact List.getElem?_eq_getElem (by simp)
      unfold posN
      rw [e]
      have n := hF _ (by rw [hF']; exact List.getLast?_eq_some_getLast (by simp))
      dsimp only
      rw [if_neg (fun h => n h.1)]
  | a + 1, ha, hd => by
    have hl : a < f.length := by omega
    have e : (F ++ f)[F.length + a]? = some f[a] := by
      rw [List.getElem?_append_right (by omega), Nat.add_sub_cancel_left]
      exact List.getElem?_eq_getElem hl
    have st : posN (F ++ f) r (F.length + (a + 1)) = if srt f[a] = srt r ∧ ltB r.k.nm f[a].k.nm = true then posN (F ++ f) r (F.length + a) else F.length + a + 1 := by
      show posN (F ++ f) r (F.length + a + 1) = _
      conv => lhs; unfold posN
      rw [e]
    by_cases h : ltB r.k.nm f[a].k.nm = true
    · rw [st, if_pos ⟨hs _ (List.getElem_mem hl), h⟩]
      refine pos_run hF hs pw a (by omega) fun x hx => ?_
      rw [List.drop_eq_getElem_cons hl] at hx
      rcases List.mem_cons.mp hx with e | m
      · rw [e]; exact h
      · exact hd x m
    · refine ⟨a + 1, by rw [st, if_neg (fun z => h z.2)]; omega, ha, hd, fun x hx => ?_⟩
      have le : LeS f[a].k.nm r.k.nm := by
        unfold LeS
        exact Bool.eq_false_iff.mpr h
      obtain ⟨i, hi, ex⟩ := List.mem_iff_getElem.mp hx
      rw [List.length_take] at hi
      rw [List.getElem_take] at ex
      subst ex
      rcases Nat.lt_or_ge i a with lt | ge
      · exact leS_trans ((List.pairwise_iff_getElem.mp pw) i a (by omega) hl lt) le
      · have : i = a := by omega
        subst this
        exact le
theorem insR_last {F f : List RD} {r : RD} (hF : ∀ x, F.getLast? = some x → srt x ≠ srt r) (hs : ∀ x ∈ f, srt x = srt r) (pw : f.Pairwise fun a b => LeS a.k.nm b.k.nm) : ∃ f', insR (F ++ f) r = F ++ f' ∧ f'.Perm (f ++ [r]) ∧ f'.Pairwise fun a b => LeS a.k.nm b.k.nm := by
  obtain ⟨b, e, hb, h1, h2⟩ := pos_run hF hs pw f.length (Nat.le_refl _) (fun x hx => by simp at hx)
  refine ⟨f.take b ++ [r] ++ f.drop b, ?_, ?_, ?_⟩
  · unfold insR
    rw [List.length_append, e, List.take_append, List.drop_append]
    rw [List.take_of_length_le (by omega), List.drop_of_length_le (by omega), Nat.add_sub_cancel_left]
    simp
  · have : f ++ [r] = f.take b ++ f.drop b ++ [r] := by rw [List.take_append_drop]
    rw [this, List.append_assoc, List.append_assoc]
    exact List.Perm.append_left _ List.perm_append_comm
  · rw [List.append_assoc]
    refine List.pairwise_append.mpr ⟨List.Pairwise.sublist (List.take_sublist _ _) pw, ?_, fun x hx y hy => ?_⟩
    · refine List.pairwise_cons.mpr ⟨fun y hy => leS_of_lt (h1 y hy), List.Pairwise.sublist (List.drop_sublist _ _) pw⟩
    · rcases List.mem_cons.mp hy with e | m
      · rw [e]; exact h2 x hx
      · exact leS_trans (h2 x hx) (leS_of_lt (h1 y m))
end My
namespace My
open PySem PySem.Spec PyProof.Rows L2
def QR (f : List RD) (g : List HD) : Prop := (kinds f).Perm g ∧ f.Pairwise (fun a b => LeS a.k.nm b.k.nm) ∧ ∃ c, ∀ x ∈ f, srt x = c
inductive PR2 : List (List RD) → List (List HD) → Prop where
  | nil : PR2 [] []
  | snoc {fs : List (List RD)} {gs : List (List HD)} {f : List RD} {g : List HD} : PR2 fs gs → QR f g → (∀ f0, fs.getLast? = some f0 → ∀ x ∈ f0, ∀ y ∈ f, srt x ≠ srt y) → PR2 (fs ++ [f]) (gs ++ [g])
theorem PR2.un {fs : List (List RD)} {gi : List (List HD)} {g : List HD} (h : PR2 fs (gi ++ [g])) : ∃ F f, fs = F ++ [f] ∧ PR2 F gi ∧ QR f g ∧ ∀ f0, F.getLast? = some f0 → ∀ x ∈ f0, ∀ y ∈ f, srt x ≠ srt y := by
  generalize e : gi ++ [g] = gs at h
  cases h with
  | nil => simp at e
  | @snoc fs' gs' f' g' h1 h2 h3 =>
    obtain ⟨e1, e2⟩ := List.append_inj' e rfl
    subst e1
    cases e2
    exact ⟨fs', f', rfl, h1, h2, h3⟩
theorem PR2.nil_of {fs : List (List RD)} (h : PR2 fs []) : fs = [] := by
  generalize e : ([] : List (List HD)) = gs at h
  cases h with
  | nil => rfl
  | snoc _ _ _ => simp at e
theorem PR2.ne {fs : List (List RD)} {gs : List (List HD)} (h : PR2 fs gs) (hg : ∀ g ∈ gs, g ≠ []) : ∀ f ∈ fs, f ≠ [] := by
  induction h with
  | nil => intro f hf; cases hf
  | snoc h1 h2 h3 ih =>
    intro f hf
    rcases List.mem_append.mp hf with h | h
    · exact ih (fun g hg' => hg g (List.mem_append_left _ hg')) f h
    · rw [List.mem_singleton.mp h]
      intro z
      have := h2.1.length_eq
      rw [z] at this
      exact hg _ (List.mem_append_right _ (List.mem_singleton.mpr rfl)) (List.length_eq_zero_iff.mp this.symm)
def NR (rs fd : List RD) : Prop := ∃ fs, fd = fs.flatten ∧ PR2 fs (runsL (kinds rs))
theorem meet_srt (a b : HD) : meetB a.ix b.ix = false ↔ sortN a.ix = sortN b.ix := by
  rw [meet_sort _ a.ix_lt _ b.ix_lt, decide_eq_false_iff_not, Decidable.not_not]
theorem last_flat {F : List (List RD)} (ne : ∀ f ∈ F, f ≠ []) {x : RD} (h : F.flatten.getLast? = some x) : ∃ f0, F.getLast? = some f0 ∧ x ∈ f0 := by
  rcases List.eq_nil_or_concat F with e | ⟨F', f0, e⟩
  · rw [e] at h
    cases h
  · rw [List.concat_eq_append] at e
    subst e
    refine ⟨f0, by simp, ?_⟩
    have n := ne f0 (List.mem_append_right _ (List.mem_singleton.mpr rfl))
    rw [List.flatten_append, List.flatten_cons, List.flatten_nil, List.append_nil, List.getLast?_append, List.getLast?_eq_some_getLast n] at h
    have : f0.getLast n = x := by simpa using h
    rw [← this]
    exact List.getLast_mem n
theorem NR.step {rs fd : List RD} {r : RD} (h : NR rs fd) : NR (rs ++ [r]) (insR fd r) := by
  obtain ⟨fs, rfl, pr⟩ := h
  have stp : runsL (kinds (rs ++ [r])) = addRun (runsL (kinds rs)) r.k := by
    unfold runsL kinds
    rw [List.map_append, List.foldl_append]
    rfl
  have ne := runs_in (kinds rs)
  unfold NR
  rw [stp]
  rcases List.eq_nil_or_concat (runsL (kinds rs)) with e | ⟨gi, g, e⟩
  · rw [e] at pr ⊢
    rw [pr.nil_of]
    exact ⟨[[r]], rfl, PR2.snoc (fs := []) (gs := []) .nil ⟨.refl _, List.pairwise_singleton _ _, _, fun x hx => by rw [List.mem_singleton.mp hx]⟩ fun f0 h => by cases h⟩
  · rw [List.concat_eq_append] at e
    rw [e] at pr ne ⊢
    have hg := (ne g (List.mem_append_right _ (List.mem_singleton.mpr rfl))).1
    have nef := pr.ne fun g hg => (ne g hg).1
    obtain ⟨F, f, rfl, pF, qf, adj⟩ := pr.un
    rcases List.eq_nil_or_concat g with e0 | ⟨g', j, e0⟩
    · exact absurd e0 hg
    rw [List.concat_eq_append] at e0
    subst e0
    obtain ⟨pm, pw, c, hc⟩ := qf
    have neF : ∀ f ∈ F, f ≠ [] := fun f hf => nef f (List.mem_append_left _ hf)
    have cj : sortN j.ix = c := by
      have : j ∈ kinds f := pm.mem_iff.mpr (List.mem_append_right _ (List.mem_singleton.mpr rfl))
      obtain ⟨x, hx, ex⟩ := List.mem_map.mp this
      have := hc x hx
      unfold srt at this
      rw [ex] at this
      exact this
    rw [addRun_last]
    by_cases em : meetB j.ix r.k.ix = false
    · rw [if_pos em]
      have cr : c = srt r := by
        rw [← cj]
        exact (meet_srt j r.k).mp em
      have hF : ∀ x, F.flatten.getLast? = some x → srt x ≠ srt r := fun x hx => by
        obtain ⟨f0, e1, hx0⟩ := last_flat neF hx
        have nf := nef f (List.mem_append_right _ (List.mem_singleton.mpr rfl))
        obtain ⟨y, hy⟩ := List.exists_mem_of_ne_nil f nf
        have := adj f0 e1 x hx0 y hy
        rw [hc y hy, cr] at this
        exact this
      obtain ⟨f', e1, pm', pw'⟩ := insR_last hF (fun x hx => (hc x hx).trans cr) pw
      refine ⟨F ++ [f'], ?_, PR2.snoc pF ⟨?_, pw', c, fun x hx => ?_⟩ fun f0 h x hx y hy => ?_⟩
      · rw [List.flatten_append, List.flatten_append]
        simpa using e1
      · have := pm'.map RD.k
        rw [List.map_append] at this
        exact this.trans (pm.append_right _)
      · rcases List.mem_append.mp (pm'.mem_iff.mp hx) with h | h
        · exact hc x h
        · rw [List.mem_singleton.mp h]; exact cr.symm
      · rcases List.mem_append.mp (pm'.mem_iff.mp hy) with h2 | h2
        · exact adj f0 h x hx y h2
        · rw [List.mem_singleton.mp h2, ← cr]
          have nf := nef f (List.mem_append_right _ (List.mem_singleton.mpr rfl))
          obtain ⟨z, hz⟩ := List.exists_mem_of_ne_nil f nf
          have := adj f0 h x hx z hz
          rw [hc z hz] at this
          exact this
    · rw [if_neg em]
      have cr : c ≠ srt r := fun z => em ((meet_srt j r.k).mpr (cj.trans z))
      have hF : ∀ x, (F ++ [f]).flatten.getLast? = some x → srt x ≠ srt r := fun x hx => by
        obtain ⟨f0, e1, hx0⟩ := last_flat nef hx
        rw [List.getLast?_append] at e1
        have : f0 = f := by simpa using e1.symm
        subst this
        rw [hc x hx0]
        exact cr
      obtain ⟨f', e1, pm', pw'⟩ := insR_last (f := []) hF (fun x hx => by cases hx) List.Pairwise.nil
      rw [List.append_nil] at e1
      have ef : f' = [r] := List.perm_singleton.mp pm'
      refine ⟨(F ++ [f]) ++ [[r]], ?_, PR2.snoc (PR2.snoc pF ⟨pm, pw, c, hc⟩ adj) ⟨.refl _, List.pairwise_singleton _ _, _, fun x hx => by rw [List.mem_singleton.mp hx]⟩ fun f0 h x hx y hy => ?_⟩
      · rw [e1, ef]
        simp
      · rw [List.getLast?_append] at h
        have : f0 = f := by simpa using h.symm
        subst this
        rw [List.mem_singleton.mp hy, hc x hx]
        exact cr
theorem normR_step {rs : List RD} {i : Nat} {r : RD} (h : rs[i]? = some r) : normR (rs.take (i + 1)) = insR (normR (rs.take i)) r := by
  unfold normR
  rw [List.take_add_one, h, List.foldl_append]
  rfl
theorem normR_nr (rs : List RD) : NR rs (normR rs) := by
  have key : ∀ i, i ≤ rs.length → NR (rs.take i) (normR (rs.take i)) := by
    intro i
    induction i with
    | zero => intro _; exact ⟨[], rfl, .nil⟩
    | succ i ih =>
      intro hi
      have e := List.getElem?_eq_getElem (show i < rs.length by omega)
      rw [normR_step e, List.take_add_one, e]
      exact (ih (by omega)).step
  have := key rs.length (Nat.le_refl _)
  rwa [List.take_length] at this
theorem PR2.norm {fs : List (List RD)} {gs : List (List HD)} (h : PR2 fs gs) (nd : ∀ g ∈ gs, (g.map HD.nm).Nodup) : AscR gs (fs.map fun f => f.map fun r => r.k.nm) ∧ (kinds fs.flatten).Perm gs.flatten := by
  induction h with
  | nil => exact ⟨⟨rfl, fun i g y e => by simp at e⟩, .refl _⟩
  | @snoc fs gs f g h1 h2 h3 ih =>
    obtain ⟨a, p⟩ := ih fun g hg => nd g (List.mem_append_left _ hg)
    obtain ⟨pm, pw, _⟩ := h2
    have pn : (f.map fun r => r.k.nm).Perm (g.map HD.nm) := by
      have := pm.map HD.nm
      unfold kinds at this
      rwa [List.map_map] at this
    have last : Asc (g.map HD.nm) (f.map fun r => r.k.nm) := ⟨pn.nodup_iff.mpr (nd g (List.mem_append_right _ (List.mem_singleton.mpr rfl))), sortedS_of_pairwise _ (List.pairwise_map.mpr pw), fun z => pn.mem_iff⟩
    refine ⟨⟨by rw [List.map_append, List.length_append, List.length_append, a.len]; rfl, fun i g2 y e1 e2 => ?_⟩, ?_⟩
    · rw [List.map_append] at e2
      rcases Nat.lt_or_ge i gs.length with lt | ge
      · rw [List.getElem?_append_left lt] at e1
        rw [List.getElem?_append_left (by rw [a.len]; exact lt)] at e2
        exact a.is i g2 y e1 e2
      · rw [List.getElem?_append_right ge] at e1
        rw [List.getElem?_append_right (by rw [a.len]; exact ge), a.len] at e2
        cases hj : i - gs.length with
        | zero =>
          rw [hj] at e1 e2
          cases e1
          cases e2
          exact last
        | succ n =>
          rw [hj] at e1
          simp at e1
    · rw [List.flatten_append, List.flatten_append]
      unfold kinds at p pm ⊢
      rw [List.map_append]
      simpa using p.append pm
/-- the law's normal is the stack's -/
theorem normR_of {rs : List RD} (nd : ((kinds rs).map HD.nm).Nodup) : NormOf (kinds rs) (kinds (normR rs)) ∧ (kinds (normR rs)).Perm (kinds rs) := by
  obtain ⟨fs, e, pr⟩ := normR_nr rs
  obtain ⟨a, p⟩ := pr.norm (runs_nd nd)
  rw [runs_flat] at p
  rw [e]
  refine ⟨⟨_, a, ?_, fun k hk => p.mem_iff.mp hk⟩, p⟩
  unfold kinds
  rw [List.map_map, List.map_flatten]
  rfl
/-- there is one normal stack -/
theorem norm_one {ks a b : List HD} (nd : (ks.map HD.nm).Nodup) (ha : NormOf ks a) (hb : NormOf ks b) : a = b := by
  obtain ⟨ys, asc, ea, sa⟩ := ha
  obtain ⟨zs, asc2, eb, sb⟩ := hb
  have lys : ys = zs := by
    refine List.ext_getElem? fun i => ?_
    cases e1 : ys[i]? with
    | none =>
      have : ys.length ≤ i := List.getElem?_eq_none_iff.mp e1
      rw [List.getElem?_eq_none (by rw [asc2.len, ← asc.len]; exact this)]
    | some y =>
      have hi : i < ys.length := (List.getElem?_eq_some_iff.mp e1).1
      have hz : i < zs.length := by rw [asc2.len, ← asc.len]; exact hi
      have hg : i < (runsL ks).length := by rw [← asc.len]; exact hi
      have e2 := List.getElem?_eq_getElem hz
      have e3 := List.getElem?_eq_getElem hg
      have a1 := asc.is i _ y e3 e1
      have a2 := asc2.is i _ _ e3 e2
      rw [e2]
      have p : y.Perm zs[i] := (List.perm_ext_iff_of_nodup a1.nd a2.nd).mpr fun z => (a1.mem z).trans (a2.mem z).symm
      have pws : ∀ l : List Str, sortedS l = true → l.Pairwise LeS := by
        have key : ∀ (l : List Str) (p : Str), risingS p l = true → (p :: l).Pairwise LeS := by
          intro l
          induction l with
          | nil => intro p _; exact List.pairwise_singleton _ _
          | cons x l ih =>
            intro p h
            unfold risingS at h
            rw [Bool.and_eq_true, Bool.not_eq_true'] at h
            have h2 := ih x h.2
            have px : LeS p x := h.1
            refine List.pairwise_cons.mpr ⟨fun y hy => ?_, h2⟩
            rcases List.mem_cons.mp hy with e | m
            · rw [e]; exact px
            · exact leS_trans px ((List.pairwise_cons.mp h2).1 y m)
        intro l h
        cases l with
        | nil => exact List.Pairwise.nil
        | cons x l => exact key l x h
      have eq : y = zs[i] := List.Perm.eq_of_pairwise (le := LeS) (fun u v _ _ h k => by
        rw [leS_iff] at h k
        have e : u.cps.toList = v.cps.toList := List.le_antisymm h k
        cases u
        cases v
        exact congrArg _ (Array.toList_inj.mp e)) (pws _ a1.so) (pws _ a2.so) p
      rw [eq]
  have en : a.map HD.nm = b.map HD.nm := by rw [ea, eb, lys]
  have inj := nm_inj nd
  clear ea eb asc asc2 lys
  induction a generalizing b with
  | nil =>
    cases b with
    | nil => rfl
    | cons _ _ => simp at en
  | cons x a ih =>
    cases b with
    | nil => simp at en
    | cons y b =>
      rw [List.map_cons, List.map_cons] at en
      injection en with e1 e2
      rw [inj x (sa x List.mem_cons_self) y (sb y List.mem_cons_self) e1, ih (fun k hk => sa k (List.mem_cons_of_mem _ hk)) (fun k hk => sb k (List.mem_cons_of_mem _ hk)) e2]
end My
namespace My
open PySem PySem.Spec PyProof.Rows L2
/-! ### the law's normal -/
def spNormL : Sp := fun vs H Q _ => ∃ (l : Addr) (ks : List RD), vs = [.ref l] ∧ RowL H l ks ∧ ks.length ≤ 10 ∧ AllR ks ∧ ∀ (d : Addr) (H' : Hp), Same' H H' → RowL H' d (normR ks) → Q (.ref d) H'
section
variable {P : Program} {w : World} {K : PySem.W.Frag} {mg : Str → Option Value} {base : Heap}
theorem normR_len (ks : List RD) : (normR ks).length = ks.length := by
  have h : ∀ (ks fd : List RD), (ks.foldl insR fd).length = fd.length + ks.length := by
    intro ks
    induction ks with
    | nil => intro fd; rfl
    | cons k ks ih =>
      intro fd
      show (ks.foldl insR (insR fd k)).length = _
      rw [ih]
      have e : (insR fd k).length = fd.length + 1 := by
        unfold insR
        rw [List.length_append, List.length_append, List.length_take, List.length_drop]
        show _ + 1 + _ = _
        omega
      rw [e]
      show _ = fd.length + (ks.length + 1)
      omega
  have := h ks []
  simpa [normR] using this
theorem posN_step {fd : List RD} {r x : RD} {a : Nat} (e : fd[a]? = some x) : posN fd r (a + 1) = if srt x = srt r ∧ ltB r.k.nm x.k.nm = true then posN fd r a else a + 1 := by
  conv => lhs; unfold posN
  rw [e]
abbrev nNoL : List Str := ["_law_rows_here", "_law_found", "_law_row", "_law_at"]
theorem scNoL : FnScope nNoL ["_law_rows_here"] (defScope sNormalL) := ⟨rfl, rfl, rfl, by decide +kernel, rfl, by decide +kernel, by decide +kernel⟩
theorem ok_normL {f fM : Addr} {fd dM : FuncData} (F : Fun K "_law_normal" "_law_normal" sNormalL f fd) (T : Txt mg) (So : FnB P w K mg base 1 "_law_sort" sSort fM dM ["_law_row"] spSort) : FnOk P w K mg base CX0 2 f fd ["_law_rows_here"] spNormL := by
  refine F.ok scNoL (fun vs H Q E h => ?_) (fun cdv A0 outer s H vs Q E hr h => ?_)
  · obtain ⟨l, ks, rfl, _⟩ := h
    rfl
  · obtain ⟨l, ks, rfl, ⟨rs, el, rw0⟩, few, all, q⟩ := h
    refine ⟨_, pss_cons (ps_set (i := 1) scNoL.nd rfl (.inl rfl) (pe_lst pa_nil))
      (pss_cons (ps_for PassesOwn.never rfl (pi_list (pv 0)) (pg_name (i := 2) scNoL.nd rfl (.inl rfl))
        (pss_cons (ps_set (i := 3) scNoL.nd rfl (.inl rfl) (pe_callB call_len_seq (by rfl) T.len PySem.boot_len (pa_cons (pv 1) pa_nil)))
        (pss_cons (ps_while PassesOwn.never (PW.pt (pw_and (pt_cmpR op_gt (pv 3) pe_int (nomark _)) (pw_and (pt_cmpR op_eq (pe_call So.G hr (by rfl) So.g So.F.kp So.b .nil pass0 (pa_cons (pe_ix ix_list (pv 1) (pe_op op_sub (pv 3) pe_int) (fun _ _ => rfl)) pa_nil)) (pe_call So.G hr (by rfl) So.g So.F.kp So.b .nil pass0 (pa_cons (pv 2) pa_nil)) (nomark _))
            (pw_and1 (pt_cmpR op_gt_str (pe_ix (show IxR _ (rIxT K) from ix_tup) (pe_ix ix_list (pv 1) (pe_op op_sub (pv 3) pe_int) (fun _ _ => rfl)) pe_int (fun _ _ => rfl)) (pe_ix (show IxR _ (rIxT K) from ix_tup) (pv 2) pe_int (fun _ _ => rfl)) (nomark _))))))
          (pss_one (ps_set (i := 3) scNoL.nd rfl (.inl rfl) (pe_op op_sub (pv 3) pe_int))))
        (pss_one (ps_set (i := 1) scNoL.nd rfl (.inl rfl) (pe_op op_cat (pe_op op_cat (pe_slice sl_list (pv 1) po_none (po_some (pv 3))) (pe_lst (pa_cons (pv 2) pa_nil))) (pe_slice sl_list (pv 1) (po_some (pv 3)) po_none)))))))
      (pss_one (ps_ret (pv 1)))), ?_⟩
    refine ⟨by show 0 ≤ sizeLine; decide, fun fl hfl => ?_⟩
    have s0 := same_new (o := .lst []) hfl
    refine ⟨.ref l, rfl, l, rfl, ?_⟩
    refine ⟨⟨_, SqL.of (s0 _ _ el)⟩, ?_⟩
    refine for_it (walk_list (K := K) (a := l) (xs := rs.map V.ref)) (fun i σ H' => Same' H H' ∧ ∃ (fa : Addr) (z2 z3 : Option V), σ = [some (.ref l), some (.ref fa), z2, z3] ∧ RowL H' fa (normR (ks.take i))) ⟨s0, fl, none, none, rfl, [], upd_same, .nil⟩ (fun i σ H' _ hp => SqL.of (hp.1 _ _ el)) (fun i x σ H1 H2 hi hp hy => ?_) (fun σ H1 hp => ?_)
    · obtain ⟨sm, fa, z2, z3, rfl, hrow⟩ := hp
      obtain ⟨rfl, e2⟩ := hy
      obtain ⟨fs, efa, rwf⟩ := hrow.ex
      obtain ⟨t, k, et, ek, rfl, ht⟩ := (rw0.keep sm).at e2
      refine ⟨.ref fa, rfl, fa, _, rfl, .inl (SqL.of efa), ?_⟩
      have stp : normR (ks.take (i + 1)) = insR (normR (ks.take i)) k := by
        unfold normR
        rw [List.take_add_one, ek, List.foldl_append]
        rfl
      have fl10 : (normR (ks.take i)).length ≤ 10 := by
        rw [normR_len, List.length_take]
        omega
      generalize normR (ks.take i) = fd at *
      refine ⟨fun m σ H' => ∃ a : Nat, m = a ∧ a ≤ fd.length ∧ posN fd k a = posN fd k fd.length ∧ Same' H2 H' ∧ σ = [some (.ref l), some (.ref fa), some (.ref t), some (.int (a : Int))], ⟨_, fd.length, rfl, Nat.le_refl _, rfl, fun _ _ e => e, ?_⟩, fun a σ H' hw => ?_⟩
      · rw [List.length_map, rwf.len]
        rfl
      obtain ⟨_, rfl, al, pa, s1, rfl⟩ := hw
      refine ⟨.int (a : Int), rfl, (a : Int), 0, rfl, rfl, _, rfl, ?_⟩
      have fin : ∀ (D : Ends) (H3 : Hp) (a : Nat), a = posN fd k fd.length → a ≤ fd.length → Same' H2 H3 → (∀ (p : Addr) (H4 : Hp), Same' H3 H4 → RowL H4 p (insR fd k) → D.nx [some (.ref l), some (.ref p), some (.ref t), some (.int (a : Int))] H4) →
          tAsg (tOp rCat (tOp rCat (tSl (rSlL K) (tVar 1) tNoPart (tPart (tVar 3))) (tLst (tCons (tVar 2) tNil))) (tSl (rSlL K) (tVar 1) (tPart (tVar 3)) tNoPart)) (gName 1) D [some (.ref l), some (.ref fa), some (.ref t), some (.int (a : Int))] H3 := by
        intro D H3 a ea al s3 h
        have len : (fs.map V.ref).length ≤ 10 := by rw [List.length_map, rwf.len]; exact fl10
        refine ⟨.ref fa, rfl, .int (a : Int), rfl, (a : Int), rfl, fa, _, rfl, SqL.of (s3 _ _ efa), fun u hu => ⟨.ref t, rfl, by show 1 ≤ sizeLine; decide, fun d hd => ⟨u, d, _, _, rfl, rfl, same_new hd _ _ upd_same, upd_same, ?_, fun p hp => ?_⟩⟩⟩
        · rw [cut_to, List.length_take, sizeLine_eq]
          show _ + 1 ≤ _
          omega
        rw [cut_to]
        rw [cut_to] at hd hp
        have sp : Same' H3 (upd (upd (upd H3 u (.lst ((fs.map V.ref).take a))) d (.lst [V.ref t])) p (.lst ((fs.map V.ref).take a ++ [V.ref t]))) := ((same_new hu).trans (same_new hd)).trans (same_new hp)
        have ep : (upd (upd (upd H3 u (.lst ((fs.map V.ref).take a))) d (.lst [V.ref t])) p (.lst ((fs.map V.ref).take a ++ [V.ref t]))) p = some (.lst ((fs.map V.ref).take a ++ [V.ref t])) := upd_same
        generalize upd (upd (upd H3 u (.lst ((fs.map V.ref).take a))) d (.lst [V.ref t])) p (.lst ((fs.map V.ref).take a ++ [V.ref t])) = H4 at *
        refine ⟨.ref fa, rfl, .int (a : Int), rfl, (a : Int), rfl, fa, _, rfl, SqL.of (sp _ _ (s3 _ _ efa)), fun u2 hu2 => ⟨p, u2, _, _, rfl, rfl, same_new hu2 _ _ ep, upd_same, ?_, fun p2 hp2 => ?_⟩⟩
        · rw [cut_from, List.length_append, List.length_take, List.length_drop, sizeLine_eq]
          show _ + 1 + _ ≤ _
          omega
        rw [cut_from]
        rw [cut_from] at hp2
        have s5 := (sp.trans (same_new hu2)).trans (same_new (o := .lst ((fs.map V.ref).take a ++ [V.ref t] ++ (fs.map V.ref).drop a)) hp2)
        refine h p2 _ s5 ⟨fs.take a ++ [t] ++ fs.drop a, ?_, ?_⟩
        · rw [upd_same, List.map_append, List.map_append, List.map_take, List.map_drop]
          rfl
        · have r5 := (rwf.keep s3).keep s5
          have rt : Rws (upd (upd H4 u2 (.lst ((fs.map V.ref).drop a))) p2 (.lst ((fs.map V.ref).take a ++ [V.ref t] ++ (fs.map V.ref).drop a))) (fs.take a) (fd.take a) := ⟨by rw [List.length_take, List.length_take, r5.len], fun j b y q1 q2 => by
            rw [List.getElem?_take] at q1 q2
            split at q1
            · rename_i lt
              rw [if_pos lt] at q2
              exact r5.is j b y q1 q2
            · cases q1⟩
          have rd : Rws (upd (upd H4 u2 (.lst ((fs.map V.ref).drop a))) p2 (.lst ((fs.map V.ref).take a ++ [V.ref t] ++ (fs.map V.ref).drop a))) (fs.drop a) (fd.drop a) := ⟨by rw [List.length_drop, List.length_drop, r5.len], fun j b y q1 q2 => by
            rw [List.getElem?_drop] at q1 q2
            exact r5.is _ b y q1 q2⟩
          unfold insR
          rw [← ea]
          exact (rt.add (s5 _ _ (s3 _ _ ht))).app rd
      have nxt : ∀ (H3 : Hp) (p : Addr) (H4 : Hp), Same' H2 H3 → Same' H3 H4 → RowL H4 p (insR fd k) → ∀ z, (Same' H H4 ∧ ∃ (fa : Addr) (z2 z3 : Option V), [some (.ref l), some (.ref p), some (.ref t), z] = [some (.ref l), some (.ref fa), z2, z3] ∧ RowL H4 fa (normR (ks.take (i + 1)))) := fun H3 p H4 x y r z => ⟨sm.trans (x.trans y), p, _, _, rfl, by rw [stp]; exact r⟩
      cases a with
      | zero =>
        refine iteF (iteF ?_)
        exact fin _ H' 0 pa (Nat.zero_le _) s1 fun p H4 s4 r4 => nxt _ p H4 s1 s4 r4 _
      | succ a =>
        have hl : a < fd.length := by omega
        have ex : fd[a]? = some fd[a] := List.getElem?_eq_getElem hl
        have stq := posN_step (r := k) ex
        rw [decide_eq_true (by omega)]
        have hf : a < fs.length := by rw [rwf.len]; exact hl
        obtain ⟨x, hx⟩ : ∃ x, fs[a]? = some x := ⟨_, List.getElem?_eq_getElem hf⟩
        have tx : H2 x = some (.tup (fd[a]).row) := rwf.is a x _ hx ex
        have sb : (((a + 1 : Nat) : Int) - 1) = (a : Int) := by omega
        have at1 : atI (fs.map V.ref) (((a + 1 : Nat) : Int) - 1) = some (.ref x) := by
          rw [sb]
          refine atI_nat ?_
          rw [List.getElem?_map, hx]
          rfl
        refine iteT ⟨.ref fa, rfl, .int ((a + 1 : Nat) : Int), rfl, ((a + 1 : Nat) : Int), 1, rfl, rfl, fa, _, _, .ref x, rfl, rfl, SqL.of (s1 _ _ efa), at1, x, fd[a], rfl, s1 _ _ tx, fun H3 s3 => ⟨.ref t, rfl, t, k, rfl, s3 _ _ (s1 _ _ ht), fun H4 s4 => ⟨rfl, _, rfl, ?_⟩⟩⟩
        have s14 := s1.trans (s3.trans s4)
        clear s1 s3 s4
        have du : decide (V.int (sortN (fd[a]).k.ix : Nat) = V.int (sortN k.k.ix : Nat)) = decide (srt fd[a] = srt k) := by
          unfold srt
          rw [Bool.eq_iff_iff]
          simp
          try omega
        rw [du]
        have out : ¬ (srt fd[a] = srt k ∧ ltB k.k.nm fd[a].k.nm = true) → a + 1 = posN fd k fd.length := fun n => by rw [← pa, stq, if_neg n]
        by_cases h1 : srt fd[a] = srt k
        · rw [decide_eq_true h1]
          have lt0 : decide (k.k.nm.cps.toList < (fd[a]).k.nm.cps.toList) = ltB k.k.nm (fd[a]).k.nm := by
            unfold ltB
            rw [ltCps_eq]
          refine iteT ⟨.ref fa, rfl, .int ((a + 1 : Nat) : Int), rfl, ((a + 1 : Nat) : Int), 1, rfl, rfl, fa, _, _, .ref x, rfl, rfl, SqL.of (s14 _ _ efa), at1, x, _, 1, .str (fd[a]).k.nm, rfl, rfl, SqT.of (s14 _ _ tx), row_1 _, .ref t, rfl, t, _, 1, .str k.k.nm, rfl, rfl, SqT.of (s14 _ _ ht), row_1 k, (fd[a]).k.nm, k.k.nm, rfl, rfl, _, rfl, ?_⟩
          rw [lt0]
          by_cases h2 : ltB k.k.nm (fd[a]).k.nm = true
          · rw [h2]
            refine iteT ⟨fun σ' H3 => ∃ b : Nat, b < a + 1 ∧ b ≤ fd.length ∧ posN fd k b = posN fd k fd.length ∧ Same' H2 H3 ∧ σ' = [some (.ref l), some (.ref fa), some (.ref t), some (.int (b : Int))], fun σ' H3 ⟨b, lt, r⟩ => ⟨b, lt, b, rfl, r⟩, ?_⟩
            refine ⟨.int ((a + 1 : Nat) : Int), rfl, ((a + 1 : Nat) : Int), 1, rfl, rfl, ?_⟩
            exact ⟨a, Nat.lt_succ_self _, by omega, by rw [← pa, stq, if_pos ⟨h1, h2⟩], s14, by show [some (V.ref l), some (V.ref fa), some (V.ref t), some (V.int (((a + 1 : Nat) : Int) - 1))] = _; rw [sb]⟩
          · rw [Bool.eq_false_iff.mpr h2]
            exact iteF (fin _ H4 (a + 1) (out fun n => h2 n.2) al s14 fun p H5 s5 r5 => nxt _ p H5 s14 s5 r5 _)
        · rw [decide_eq_false h1]
          exact iteF (iteF (fin _ H4 (a + 1) (out fun n => h1 n.1) al s14 fun p H5 s5 r5 => nxt _ p H5 s14 s5 r5 _))
    · obtain ⟨sm, fa, z2, z3, rfl, hrow⟩ := hp
      rw [List.length_map, rw0.len, List.take_of_length_le (Nat.le_refl _)] at hrow
      exact ⟨.ref fa, rfl, q fa _ sm hrow⟩
end
end My
namespace My
open PySem PySem.Spec PyProof.Rows L2
/-! ### rows within the bounds -/
def capN : Nat → Nat
  | 0 => 4
  | 1 => 2
  | 2 => 3
  | _ => 1
def kvL (c : Nat → Int) : List (Key × V) := [(.inr "cell", .int (c 0)), (.inr "log", .int (c 1)), (.inr "failure", .int (c 2)), (.inr "choice", .int (c 3))]
theorem wd_ne : ("cell" : Str) ≠ "log" ∧ ("cell" : Str) ≠ "failure" ∧ ("cell" : Str) ≠ "choice" ∧ ("log" : Str) ≠ "failure" ∧ ("log" : Str) ≠ "choice" ∧ ("failure" : Str) ≠ "choice" := by decide +kernel
theorem kvL_get (c : Nat → Int) (k : HD) : valV (kvL c) (.inr k.wd) = some (.int (c k.ix)) := by
  obtain ⟨a, b, d, e, f, g⟩ := wd_ne
  cases k <;> simp [kvL, valV, HD.wd, HD.ix, a, b, d, e, f, g]
theorem kvL_put (c : Nat → Int) (k : HD) (v : Int) : putK (kvL c) (.inr k.wd) (.int v) = kvL (fun j => if j = k.ix then v else c j) := by
  obtain ⟨a, b, d, e, f, g⟩ := wd_ne
  cases k <;> simp [kvL, putK, HD.wd, HD.ix, a, b, d, e, f, g, a.symm, b.symm, d.symm, e.symm, f.symm, g.symm]
def letS (fd : List RD) (r : RD) : List RD := if cnt (kinds fd) r.k.ix < capN r.k.ix then fd ++ [r] else fd
def letR (rs : List RD) : List RD := rs.foldl letS []
def leftN (fd : List RD) : Nat → Int := fun j => (capN j : Int) - (cnt (kinds fd) j : Nat)
theorem cnt_snoc (fd : List RD) (r : RD) (j : Nat) : cnt (kinds (fd ++ [r])) j = cnt (kinds fd) j + (if r.k.ix = j then 1 else 0) := by
  unfold cnt kinds
  rw [List.map_append, List.filter_append, List.length_append]
  congr 1
  show (List.filter _ [r.k]).length = _
  rw [List.filter_cons]
  by_cases h : r.k.ix = j
  · simp [h]
  · simp [h]
theorem leftN_snoc (fd : List RD) (r : RD) : (fun j => if j = r.k.ix then leftN fd r.k.ix - 1 else leftN fd j) = leftN (fd ++ [r]) := by
  funext j
  unfold leftN
  rw [cnt_snoc]
  by_cases h : j = r.k.ix
  · rw [if_pos h, if_pos h.symm, h]
    omega
  · rw [if_neg h, if_neg (fun z => h z.symm)]
    omega
theorem letR_sub : ∀ (ks fd : List RD), ∃ gs : List RD, gs.Sublist ks ∧ ks.foldl letS fd = fd ++ gs
  | [], fd => ⟨[], .slnil, by simp⟩
  | k :: ks, fd => by
    obtain ⟨gs, s, e⟩ := letR_sub ks (letS fd k)
    show ∃ gs : List RD, gs.Sublist (k :: ks) ∧ ks.foldl letS (letS fd k) = fd ++ gs
    rw [e]
    unfold letS
    split
    · exact ⟨k :: gs, s.cons₂ k, by simp⟩
    · exact ⟨gs, s.cons k, rfl⟩
theorem letR_sublist (ks : List RD) : (letR ks).Sublist ks := by
  obtain ⟨gs, s, e⟩ := letR_sub ks []
  unfold letR
  rw [e]
  exact s
theorem letS_cap (fd : List RD) (h : ∀ j, j < 4 → cnt (kinds fd) j ≤ capN j) (r : RD) : ∀ j, j < 4 → cnt (kinds (letS fd r)) j ≤ capN j := by
  intro j hj
  unfold letS
  split
  · rename_i lt
    rw [cnt_snoc]
    by_cases e : r.k.ix = j
    · rw [if_pos e, ← e]
      exact lt
    · rw [if_neg e]
      exact h j hj
  · exact h j hj
theorem letR_cap (ks : List RD) : ∀ j, j < 4 → cnt (kinds (letR ks)) j ≤ capN j := by
  have key : ∀ (ks fd : List RD), (∀ j, j < 4 → cnt (kinds fd) j ≤ capN j) → ∀ j, j < 4 → cnt (kinds (ks.foldl letS fd)) j ≤ capN j := by
    intro ks
    induction ks with
    | nil => intro fd h; exact h
    | cons k ks ih => intro fd h; exact ih _ (letS_cap fd h k)
  exact key ks [] (fun j _ => by simp [kinds, cnt])
/-- what is let through is few -/
theorem letR_few {ks : List RD} (few : ks.length ≤ 10) (nd : ((kinds ks).map HD.nm).Nodup) : Few (kinds (letR ks)) := by
  have s := letR_sublist ks
  refine ⟨?_, letR_cap ks 0 (by decide), letR_cap ks 1 (by decide), letR_cap ks 2 (by decide), ?_⟩
  · exact List.Nodup.sublist ((s.map RD.k).map HD.nm) nd
  · have := s.length_le
    rw [kinds, List.length_map]
    omega
end My
namespace My
open PySem PySem.Spec PyProof.Rows L2
def spLet : Sp := fun vs H Q _ => ∃ (l : Addr) (ks : List RD), vs = [.ref l] ∧ RowL H l ks ∧ ks.length ≤ 10 ∧ ∀ (d : Addr) (H' : Hp), Same' H H' → RowL H' d (letR ks) → Q (.ref d) H'
section
variable {P : Program} {w : World} {K : PySem.W.Frag} {mg : Str → Option Value} {base : Heap}
abbrev nLet : List Str := ["_law_rows_here", "_law_left", "_law_found", "_law_row"]
theorem scLet : FnScope nLet ["_law_rows_here"] (defScope sLet) := ⟨rfl, rfl, rfl, by decide +kernel, rfl, by decide +kernel, by decide +kernel⟩
theorem merge4 : mergeK [] [(Sum.inr "cell", V.int 4), (Sum.inr "log", .int 2), (Sum.inr "failure", .int 3), (Sum.inr "choice", .int 1)] = kvL (leftN []) := by
  obtain ⟨a, b, d, e, f, g⟩ := wd_ne
  simp [mergeK, putK, kvL, leftN, kinds, cnt, capN, a, b, d, e, f, g]
theorem letR_step {ks : List RD} {i : Nat} {k : RD} (h : ks[i]? = some k) : letR (ks.take (i + 1)) = letS (letR (ks.take i)) k := by
  unfold letR
  rw [List.take_add_one, h, List.foldl_append]
  rfl
theorem ok_let {f : Addr} {fd : FuncData} (F : Fun K "_law_let" "_law_let" sLet f fd) : FnOk P w K mg base CX0 1 f fd ["_law_rows_here"] spLet := by
  refine F.ok scLet (fun vs H Q E h => ?_) (fun cdv A0 outer s H vs Q E hr h => ?_)
  · obtain ⟨l, ks, rfl, _⟩ := h
    rfl
  · obtain ⟨l, ks, rfl, ⟨rs, el, rw0⟩, few, q⟩ := h
    have hu : (cxOf CX0 P w K mg base nLet "_law_let" (defScope sLet) f cdv A0 outer s H E).nox.A.units + 1 < cLine := by
      have h := hr.un
      show (A0.deeper _).units + 1 < cLine
      omega
    refine ⟨_, pss_cons (ps_par (i := 1) (j := 2) rfl scLet.nd rfl rfl (by decide) rfl rfl (pa_cons (pe_disp (pps_cons pe_str pe_int (pps_cons pe_str pe_int (pps_cons pe_str pe_int (pps_cons pe_str pe_int pps_nil)))) (by rfl) (by rfl) (fun z => by cases z) (by decide)) (pa_cons (pe_lst pa_nil) pa_nil)) (by rfl))
      (pss_cons (ps_for PassesOwn.never rfl (pi_list (pv 0)) (pg_name (i := 3) scLet.nd rfl (.inl rfl))
        (pss_one (ps_if (pt_cmpR op_gt (pe_dget hu (pv 1) (pe_ix (show IxR _ (rIxT K) from ix_tup) (pv 3) pe_int (fun _ _ => rfl)) (fun _ _ => rfl)) pe_int (nomark _))
          (pss_cons (ps_dput hu (pv 1) (pe_ix (show IxR _ (rIxT K) from ix_tup) (pv 3) pe_int (fun _ _ => rfl)) (pe_op op_sub (pe_dget hu (pv 1) (pe_ix (show IxR _ (rIxT K) from ix_tup) (pv 3) pe_int (fun _ _ => rfl)) (fun _ _ => rfl)) pe_int) rfl)
            (pss_one (ps_expr (pe_bm PySem.F.plainAttrs_list PySem.F.slot_list_append PySem.F.type_list_append mt_append (pv 2) (pa_cons (pv 3) pa_nil)))))
          pss_nil)))
      (pss_one (ps_ret (pv 2)))), ?_⟩
    intro d hd
    refine ⟨upd_same, [(Sum.inr "cell", V.int 4), (Sum.inr "log", .int 2), (Sum.inr "failure", .int 3), (Sum.inr "choice", .int 1)], rfl, by decide, by show 0 ≤ sizeLine; decide, fun fa hfa => ⟨_, _, rfl, .ref l, rfl, l, rfl, ?_⟩⟩
    rw [merge4] at hfa ⊢
    have sd : Same' H (upd (upd H d (.dK [])) d (.dK (kvL (leftN [])))) := same_over hd (same_new hd)
    have dfa : d ≠ fa := fun z => by rw [z, upd_same] at hfa; cases hfa
    have fH : H fa = none := by
      rw [upd_ne dfa.symm, upd_ne dfa.symm] at hfa
      exact hfa
    have s0 := sd.trans (same_new (o := .lst []) hfa)
    have e0 : (upd (upd (upd H d (.dK [])) d (.dK (kvL (leftN [])))) fa (.lst [])) d = some (.dK (kvL (leftN []))) := by rw [upd_ne dfa, upd_same]
    have f0 : (upd (upd (upd H d (.dK [])) d (.dK (kvL (leftN [])))) fa (.lst [])) fa = some (.lst []) := upd_same
    generalize upd (upd (upd H d (.dK [])) d (.dK (kvL (leftN [])))) fa (.lst []) = H1 at s0 e0 f0
    refine ⟨⟨_, SqL.of (s0 _ _ el)⟩, ?_⟩
    refine for_it (walk_list (K := K) (a := l) (xs := rs.map V.ref)) (fun i σ H' => Same' H H' ∧ ∃ (fs : List Addr) (z3 : Option V), σ = [some (.ref l), some (.ref d), some (.ref fa), z3] ∧ H' d = some (.dK (kvL (leftN (letR (ks.take i))))) ∧ H' fa = some (.lst (fs.map V.ref)) ∧ Rws H fs (letR (ks.take i))) ⟨s0, [], none, rfl, e0, f0, .nil⟩ (fun i σ H' _ hp => SqL.of (hp.1 _ _ el)) (fun i x σ H1 H2 hi hp hy => ?_) (fun σ H1 hp => ?_)
    · obtain ⟨sm, fs, z3, rfl, ed, ef, rwf⟩ := hp
      obtain ⟨rfl, e2⟩ := hy
      obtain ⟨t, k, et, ek, rfl, ht⟩ := rw0.at e2
      have stp := letR_step ek
      have n10 : (letR (ks.take i)).length ≤ 10 := by
        have := (letR_sublist (ks.take i)).length_le
        rw [List.length_take] at this
        omega
      generalize letR (ks.take i) = fd at *
      have ht2 := sm _ _ ht
      refine ⟨.ref d, rfl, .ref t, rfl, t, _, 0, .str k.k.wd, rfl, rfl, SqT.of ht2, row_0 k, d, .int (leftN fd k.k.ix), rfl, by rw [← kvL_get]; exact DGet.k (k := .inr k.k.wd) ed, leftN fd k.k.ix, 0, rfl, rfl, _, rfl, ?_⟩
      by_cases lt : cnt (kinds fd) k.k.ix < capN k.k.ix
      · rw [decide_eq_true (by unfold leftN; omega)]
        refine iteT ?_
        refine ⟨.ref d, rfl, .ref t, rfl, t, _, 0, .str k.k.wd, rfl, rfl, SqT.of ht2, row_0 k, d, .int (leftN fd k.k.ix), rfl, by rw [← kvL_get]; exact DGet.k (k := .inr k.k.wd) ed, leftN fd k.k.ix, 1, rfl, rfl, ?_⟩
        refine ⟨.ref d, rfl, .ref t, rfl, t, _, 0, .str k.k.wd, rfl, rfl, SqT.of ht2, row_0 k, d, _, rfl, DPut.k (k := .inr k.k.wd) ed (by show 4 < sizeLine; decide), ?_⟩
        rw [kvL_put, leftN_snoc]
        have ef2 : (upd H2 d (.dK (kvL (leftN (fd ++ [k]))))) fa = some (.lst (fs.map V.ref)) := by rw [upd_ne dfa.symm]; exact ef
        refine ⟨.ref fa, rfl, .inl ⟨rfl, _, SqL.of ef2⟩, .ref t, rfl, fa, _, .ref t, rfl, rfl, ef2, by rw [List.length_map, rwf.len, sizeLine_eq]; omega, fun b o e => ?_, fs ++ [t], _, rfl, ?_, ?_, ?_⟩
        · have h1 : b ≠ fa := ne_of_none e fH
          have h2 : b ≠ d := ne_of_none e hd
          rw [upd_ne h1, upd_ne h2]
          exact sm _ _ e
        · rw [stp, upd_ne dfa, upd_same, letS, if_pos lt]
        · rw [upd_same, List.map_append]
          rfl
        · rw [stp, letS, if_pos lt]
          exact rwf.add ht
      · rw [decide_eq_false (by unfold leftN; omega)]
        refine iteF ⟨sm, fs, _, rfl, ?_, ef, ?_⟩
        · rw [stp, letS, if_neg lt]; exact ed
        · rw [stp, letS, if_neg lt]; exact rwf
    · obtain ⟨sm, fs, z3, rfl, ed, ef, rwf⟩ := hp
      rw [List.length_map, rw0.len, List.take_of_length_le (Nat.le_refl _)] at rwf
      exact ⟨.ref fa, rfl, q fa _ sm ⟨fs, ef, rwf.keep sm⟩⟩
end
end My
namespace My
open PySem PySem.Spec PyProof.Rows L2
/-! ### the product of the factorials -/
def spProd : Sp := fun vs H Q _ => ∃ (T : Addr) (ts : List Addr) (yss : List (List Str)), vs = [.ref T] ∧ H T = some (.tup (ts.map V.ref)) ∧ TupsT H ts yss ∧ (∀ y ∈ yss, y.length ≤ 10) ∧ Q (.int (manyL yss : Nat)) H
theorem fac_succ (j : Nat) : fac (j + 1) = fac j * (j + 1) := PySem.W.mc_fac_succ j
section
variable {P : Program} {w : World} {K : PySem.W.Frag} {mg : Str → Option Value} {base : Heap}
abbrev nPr : List Str := ["_law_runs_so", "_law_found", "_law_run", "_law_factor"]
theorem scPr : FnScope nPr ["_law_runs_so"] (defScope sProduct) := ⟨rfl, rfl, rfl, by decide +kernel, rfl, by decide +kernel, by decide +kernel⟩
theorem ok_prod {f : Addr} {fd : FuncData} (F : Fun K "_law_product" "_law_product" sProduct f fd) (T : Txt mg) : FnOk P w K mg base CX0 1 f fd ["_law_runs_so"] spProd := by
  refine F.ok scPr (fun vs H Q E h => ?_) (fun cdv A0 outer s H vs Q E hr h => ?_)
  · obtain ⟨l, ts, yss, rfl, _⟩ := h
    rfl
  · obtain ⟨T', ts, yss, rfl, eT, tt, few, q⟩ := h
    refine ⟨_, pss_cons (ps_set (i := 1) scPr.nd rfl (.inl rfl) pe_int)
      (pss_cons (ps_for PassesOwn.never rfl (pi_tup (pv 0)) (pg_name (i := 2) scPr.nd rfl (.inl rfl))
        (pss_one (ps_for PassesOwn.never rfl (pi_range2 (by rfl) T.range (pa_cons pe_int (pa_cons (pe_op op_add (pe_callB call_len_seq (by rfl) T.len PySem.boot_len (pa_cons (pv 2) pa_nil)) pe_int) pa_nil))) (pg_name (i := 3) scPr.nd rfl (.inl rfl))
          (pss_one (ps_set (i := 1) scPr.nd rfl (.inl rfl) (pe_op op_mul (pv 1) (pv 3)))))))
      (pss_one (ps_ret (pv 1)))), ?_⟩
    refine ⟨.ref T', rfl, T', rfl, ⟨_, SqT.of eT⟩, ?_⟩
    refine for_it (walk_tup (K := K) (a := T') (xs := ts.map V.ref)) (fun i σ H' => H' = H ∧ ∃ z2 z3 : Option V, σ = [some (.ref T'), some (.int (manyL (yss.take i) : Nat)), z2, z3]) ⟨rfl, none, none, rfl⟩ (fun i σ H' _ hp => by rw [hp.1]; exact SqT.of eT) (fun i x σ H2 H3 hi hp hy => ?_) (fun σ H2 hp => ?_)
    · obtain ⟨rfl, z2, z3, rfl⟩ := hp
      obtain ⟨rfl, e2⟩ := hy
      rw [List.length_map] at hi
      rw [List.getElem?_map, List.getElem?_eq_getElem hi] at e2
      cases e2
      have hyl : i < yss.length := by rw [← tt.len]; exact hi
      have ey := List.getElem?_eq_getElem hyl
      have et := tt.is i _ _ (List.getElem?_eq_getElem hi) ey
      have yl := few _ (List.getElem_mem hyl)
      generalize hyy : yss[i] = y at ey et yl
      have stp := manyL_step ey
      have tn : ((y.length : Int) + 1 - 1).toNat = y.length := by omega
      refine ⟨.ref ts[i], rfl, _, _, rfl, .inr (SqT.of et), _, _, rfl, rfl, 1, _, rfl, ⟨by omega, by omega, ?_, ?_⟩, ?_⟩
      · rw [List.length_map]; omega
      · rw [List.length_map]; omega
      rw [List.length_map, tn]
      refine for_range (lo := 1) (n := y.length) (fun j σ H' => H' = H3 ∧ ∃ z3 : Option V, σ = [some (.ref T'), some (.int (manyL (yss.take i) * fac j : Nat)), some (.ref ts[i]), z3]) ⟨rfl, z3, by rw [show fac 0 = 1 from rfl, Nat.mul_one]; rfl⟩ (fun j σ H' hj hp => ?_) (fun σ H' hp => ?_)
      · obtain ⟨rfl, z3, rfl⟩ := hp
        refine ⟨.int (manyL (yss.take i) * fac j : Nat), rfl, .int (1 + (j : Nat)), rfl, _, _, rfl, rfl, .inr ⟨by omega, by omega⟩, rfl, some (.int (1 + (j : Nat))), ?_⟩
        rw [fac_succ, ← Nat.mul_assoc, Int.natCast_mul (manyL (yss.take i) * fac j), show (((j + 1 : Nat)) : Int) = 1 + (j : Nat) by omega]
        rfl
      · obtain ⟨rfl, z3, rfl⟩ := hp
        exact ⟨rfl, some (V.ref ts[i]), z3, by rw [stp]⟩
    · obtain ⟨rfl, z2, z3, rfl⟩ := hp
      rw [List.length_map, tt.len, List.take_of_length_le (Nat.le_refl _)]
      exact ⟨_, rfl, q⟩
end
end My
namespace My
open PySem PySem.Spec PyProof.Rows L2
/-! ### drawn rows -/
def spRowsL : Sp := fun vs H Q _ => ∃ (p c : Addr) (ns : List Int) (B : Int) (a b : Nat), vs = [.ref p, .int (a : Int), .int (b : Int)] ∧ PenAt H p c ns B ∧ B + 45 ≤ 2000 ∧ a ≤ b ∧ b ≤ 10 ∧
  ∀ (d : Addr) (rs : List RD) (H' : Hp) (B' : Int), PenAt H' p c ns B' → B' ≤ B + 45 → Off p H H' → d ≠ p → RowL H' d rs → rs.length ≤ b → AllR rs → Few (kinds rs) → Q (.ref d) H'
theorem RowL.np {H : Hp} {p c d : Addr} {ns : List Int} {B : Int} {ks : List RD} (h : RowL H d ks) (P : PenAt H p c ns B) : d ≠ p := by
  intro z
  subst z
  obtain ⟨b, g, e, _⟩ := P.pen
  obtain ⟨rs, e2, _⟩ := h.ex
  rw [e] at e2
  cases rs with
  | nil => simp at e2
  | cons x rs =>
    cases rs with
    | nil => simp at e2
    | cons y rs => simp at e2
def wds6 : List V := [.str "cell", .str "cell", .str "log", .str "failure", .str "failure", .str "cell"]
theorem rd_of {n : Str} {wv : V} {z : Int} (hn : n ∈ pool10) (hw : wv ∈ wds6) (h0 : 2 ≤ z) (h1 : z ≤ 4) : ∃ r : RD, r ∈ rdsK ∧ r.row = [wv, .str n, .int z] ∧ r.k.nm = n := by
  have hz : z = 2 ∨ z = 3 ∨ z = 4 := by omega
  have hw' : wv = .str "cell" ∨ wv = .str "log" ∨ wv = .str "failure" := by
    simp only [wds6, List.mem_cons, List.not_mem_nil, or_false] at hw
    rcases hw with h | h | h | h | h | h
    · exact .inl h
    · exact .inl h
    · exact .inr (.inl h)
    · exact .inr (.inr h)
    · exact .inr (.inr h)
    · exact .inl h
  rcases hw' with rfl | rfl | rfl
  · refine ⟨⟨.cell n z, z⟩, List.mem_append_left _ (List.mem_flatMap.mpr ⟨n, hn, ?_⟩), rfl, rfl⟩
    rcases hz with rfl | rfl | rfl <;> simp
  · refine ⟨⟨.log n, z⟩, List.mem_append_left _ (List.mem_flatMap.mpr ⟨n, hn, ?_⟩), rfl, rfl⟩
    rcases hz with rfl | rfl | rfl <;> simp
  · refine ⟨⟨.fail n, z⟩, List.mem_append_left _ (List.mem_flatMap.mpr ⟨n, hn, ?_⟩), rfl, rfl⟩
    rcases hz with rfl | rfl | rfl <;> simp
section
variable {P : Program} {w : World} {K : PySem.W.Frag} {mg : Str → Option Value} {base : Heap}
abbrev nRwL : List Str := ["_law_pen_here", "_law_least", "_law_most", "_law_names_here", "_law_found", "_law_name", "_law_word", "_law_spot"]
theorem scRwL : FnScope nRwL ["_law_pen_here", "_law_least", "_law_most"] (defScope sRows) := ⟨rfl, rfl, rfl, by decide +kernel, rfl, by decide +kernel, by decide +kernel⟩
theorem ok_rowsL {f fD fM fP fL : Addr} {fd dD dM dP dL : FuncData} (F : Fun K "_law_rows" "_law_rows" sRows f fd) (T : Txt mg) (Dr : FnB P w K mg base 1 "_law_draw" sDraw fD dD ["_law_pen_here", "_law_many"] spDraw) (Mx : FnB P w K mg base 2 "_law_mixed" sMixed fM dM ["_law_pen_here", "_law_some"] (spMixed K))
    (Pk : FnB P w K mg base 2 "_law_pick" sPick fP dP ["_law_pen_here", "_law_some"] spPick) (Lt : FnB P w K mg base 1 "_law_let" sLet fL dL ["_law_rows_here"] spLet) : FnOk P w K mg base CX0 3 f fd ["_law_pen_here", "_law_least", "_law_most"] spRowsL := by
  refine F.ok scRwL (fun vs H Q E h => ?_) (fun cdv A0 outer s H vs Q E hr h => ?_)
  · obtain ⟨p, c, ns, B, a, b, rfl, _⟩ := h
    rfl
  · obtain ⟨p, c, ns, B, a, b, rfl, PA, hB, ab, b10, q⟩ := h
    have hu : (cxOf CX0 P w K mg base nRwL "_law_rows" (defScope sRows) f cdv A0 outer s H E).nox.A.units < cLine := hr.units0
    refine ⟨_, pss_cons (ps_par (i := 3) (j := 4) rfl scRwL.nd rfl rfl (by decide) rfl rfl (pa_cons (pe_call Mx.G hr (by rfl) Mx.g Mx.F.kp Mx.b .nil pass0 (pa_cons (pv 0) (pa_cons (pe_lst (pa_cons pe_str (pa_cons pe_str (pa_cons pe_str (pa_cons pe_str (pa_cons pe_str (pa_cons pe_str (pa_cons pe_str (pa_cons pe_str (pa_cons pe_str (pa_cons pe_str pa_nil))))))))))) pa_nil))) (pa_cons (pe_lst pa_nil) pa_nil)) (by rfl))
      (pss_cons (ps_for PassesOwn.never rfl (pi_list (pe_slice sl_list (pv 3) po_none (po_some (pe_op op_add (pv 1) (pe_call Dr.G (hr.mono (by decide)) (by rfl) Dr.g Dr.F.kp Dr.b .nil pass0 (pa_cons (pv 0) (pa_cons (pe_op op_add (pe_op op_sub (pv 2) (pv 1)) pe_int) pa_nil))))))) (pg_name (i := 5) scRwL.nd rfl (.inl rfl))
        (pss_cons (ps_set (i := 6) scRwL.nd rfl (.inl rfl) (pe_call Pk.G hr (by rfl) Pk.g Pk.F.kp Pk.b .nil pass0 (pa_cons (pv 0) (pa_cons (pe_lst (pa_cons pe_str (pa_cons pe_str (pa_cons pe_str (pa_cons pe_str (pa_cons pe_str (pa_cons pe_str pa_nil))))))) pa_nil))))
        (pss_one (ps_expr (pe_bm PySem.F.plainAttrs_list PySem.F.slot_list_append PySem.F.type_list_append mt_append (pv 4) (pa_cons (pe_tup (pa_cons (pv 6) (pa_cons (pv 5) (pa_cons (pe_op op_add pe_int (pe_call Dr.G (hr.mono (by decide)) (by rfl) Dr.g Dr.F.kp Dr.b .nil pass0 (pa_cons (pv 0) (pa_cons pe_int pa_nil)))) pa_nil)))) pa_nil))))))
      (pss_cons (ps_if (PW.pt (pw_and (pt_cmpR (op_neNil hu) (pv 4) (pe_lst pa_nil) (nomark _)) (pw_and1 (pt_cmpR op_gt (pe_call Dr.G (hr.mono (by decide)) (by rfl) Dr.g Dr.F.kp Dr.b .nil pass0 (pa_cons (pv 0) (pa_cons pe_int pa_nil))) pe_int (nomark _)))))
        (pss_cons (ps_set (i := 7) scRwL.nd rfl (.inl rfl) (pe_call Dr.G (hr.mono (by decide)) (by rfl) Dr.g Dr.F.kp Dr.b .nil pass0 (pa_cons (pv 0) (pa_cons (pe_callB call_len_seq (by rfl) T.len PySem.boot_len (pa_cons (pv 4) pa_nil)) pa_nil))))
        (pss_one (ps_set (i := 4) scRwL.nd rfl (.inl rfl) (pe_op op_cat (pe_op op_cat (pe_slice sl_list (pv 4) po_none (po_some (pv 7))) (pe_lst (pa_cons (pe_tup (pa_cons pe_str (pa_cons pe_str (pa_cons pe_int pa_nil)))) pa_nil))) (pe_slice sl_list (pv 4) (po_some (pe_op op_add (pv 7) pe_int)) po_none)))))
        pss_nil)
      (pss_one (ps_ret (pe_call Lt.G (hr.mono (by decide)) (by rfl) Lt.g Lt.F.kp Lt.b .nil pass0 (pa_cons (pv 4) pa_nil)))))), ?_⟩
    refine ⟨.ref p, rfl, by show 10 ≤ sizeLine; decide, fun u0 hu0 => ?_⟩
    have o0 := Off.new (p := p) (o := .lst (pool10.map V.str)) hu0
    refine ⟨p, c, u0, ns, B, pool10.map V.str, rfl, PA.new hu0, SqL.of upd_same, by decide, by show B + 10 ≤ 2000; omega, fun ys0 d0 H1 pm P1 o1 dp dn ed => ?_⟩
    obtain ⟨ys, rfl, pmy⟩ := perm_strs pm
    have o01 := o0.trans o1
    have P1 : PenAt H1 p c ns (B + 10) := P1
    refine ⟨by show 0 ≤ sizeLine; decide, fun fa hfa => ⟨_, _, rfl, ?_⟩⟩
    have P2 := P1.new (o := .lst []) hfa
    have hcf : c ≠ fa := ne_of_none P1.cells hfa
    have ed2 := same_new (o := .lst []) hfa _ _ ed
    have o2 := o01.trans (Off.new (p := p) (o := .lst []) hfa)
    have fp : fa ≠ p := P1.np hfa
    have ef : (upd H1 fa (.lst [])) fa = some (.lst []) := upd_same
    generalize upd H1 fa (.lst []) = H2 at P2 ed2 o2 ef
    refine ⟨.ref d0, rfl, .int (a : Int), rfl, .ref p, rfl, .int (b : Int), rfl, .int (a : Int), rfl, (b : Int), (a : Int), rfl, rfl, _, _, rfl, rfl, p, c, ns, B + 10, _, rfl, P2, by omega, by omega, by omega, fun dd H3 dd0 dd1 P3 o3 => ?_⟩
    obtain ⟨e, rfl⟩ : ∃ e : Nat, dd = (e : Int) := ⟨dd.toNat, by omega⟩
    refine ⟨_, _, rfl, rfl, _, rfl, d0, _, rfl, SqL.of (o3 _ _ dp ed2), fun u hu => ⟨u, rfl, ⟨_, SqL.of upd_same⟩, ?_⟩⟩
    have ae : (a : Int) + (e : Int) = ((a + e : Nat) : Int) := by omega
    have ae10 : a + e ≤ b := by omega
    rw [ae, cut_to, ← List.map_take]
    have up : u ≠ p := P3.np hu
    have ef3 := o3 _ _ fp ef
    have fu : fa ≠ u := ne_of_none ef3 hu
    have P4 := P3.new (o := .lst ((ys.take (a + e)).map V.str)) hu
    have eu : (upd H3 u (.lst ((ys.take (a + e)).map V.str))) u = some (.lst ((ys.take (a + e)).map V.str)) := upd_same
    have ef4 := same_new (o := .lst ((ys.take (a + e)).map V.str)) hu _ _ ef3
    have o4 := (o2.trans o3).trans (Off.new (p := p) (o := .lst ((ys.take (a + e)).map V.str)) hu)
    have fH : H fa = none := by
      cases z : H fa with
      | none => rfl
      | some x =>
        rw [o01 fa x fp z] at hfa
        cases hfa
    generalize upd H3 u (.lst ((ys.take (a + e)).map V.str)) = H4 at P4 eu ef4 o4
    have yl : ys.length = 10 := pmy.length_eq
    have wl : (ys.take (a + e)).length = a + e := by rw [List.length_take]; omega
    refine for_it (walk_list (K := K) (a := u) (xs := (ys.take (a + e)).map V.str)) (fun i σ H' => ∃ (fs : List Addr) (gs : List RD) (z5 z6 : Option V), σ = [some (.ref p), some (.int (a : Int)), some (.int (b : Int)), some (.ref d0), some (.ref fa), z5, z6, none] ∧ i ≤ 10 ∧ H' u = some (.lst ((ys.take (a + e)).map V.str)) ∧ PenAt H' p c ns (B + 11 + 2 * (i : Nat)) ∧ Off p H H' ∧ H' fa = some (.lst (fs.map V.ref)) ∧ Rws H' fs gs ∧ AllR gs ∧ (kinds gs).map HD.nm = (ys.take (a + e)).take i) ⟨[], [], none, none, rfl, by omega, eu, by rw [show B + 11 + 2 * ((0 : Nat) : Int) = B + 10 + 1 by omega]; exact P4, o4, ef4, .nil, (fun r hr => nomatch hr), rfl⟩ (fun i σ H' _ hp => by obtain ⟨_, _, _, _, _, _, z, _⟩ := hp; exact SqL.of z) (fun i x σ H5 H6 hi hp hy => ?_) (fun σ H5 hp => ?_)
    · obtain ⟨fs, gs, z5, z6, rfl, i10, eu5, P5, o5, ef5, rw5, al5, nm5⟩ := hp
      obtain ⟨rfl, e2⟩ := hy
      rw [List.getElem?_map] at e2
      cases ez : (ys.take (a + e))[i]? with
      | none => rw [ez] at e2; cases e2
      | some n =>
        rw [ez] at e2
        cases e2
        have hi' := (List.getElem?_eq_some_iff.mp ez).1
        have hn : n ∈ pool10 := pmy.mem_iff.mp (List.mem_of_mem_take (List.mem_of_getElem? ez))
        have gl : gs.length ≤ 10 := by
          have := congrArg List.length nm5
          rw [List.length_map, kinds, List.length_map, List.length_take] at this
          omega
        refine ⟨.ref p, rfl, by show 6 ≤ sizeLine; decide, fun v hv => ?_⟩
        have vp := P5.np hv
        refine ⟨p, c, ns, B + 11 + 2 * (i : Nat), .ref v, wds6, rfl, P5.new hv, by omega, .inl ⟨v, rfl, vp, upd_same⟩, by decide, by decide, fun wv H7 hw P7 o7 => ?_⟩
        have o57 := (Off.new (p := p) (o := .lst wds6) hv).trans o7
        have ef7 := o57 _ _ fp ef5
        have rw7 := rw5.off P5 o57
        refine ⟨.ref fa, rfl, .inl ⟨rfl, _, SqL.of ef7⟩, wv, rfl, .str n, rfl, .ref p, rfl, p, c, ns, B + 11 + 2 * (i : Nat) + 1, 3, rfl, P7, by omega, by decide, by decide, fun z H8 z0 z1 P8 o8 => ⟨2, z, rfl, rfl, by show 3 ≤ sizeLine; decide, fun t ht => ?_⟩⟩
        obtain ⟨r, hrk, er, nr⟩ := rd_of hn hw (show 2 ≤ 2 + z by omega) (by omega)
        have ef8 := o8 _ _ fp ef7
        have ft : fa ≠ t := ne_of_none ef8 ht
        have st := same_new (o := .tup [wv, .str n, .int (2 + z)]) ht
        have P9 := P8.new (o := .tup [wv, .str n, .int (2 + z)]) ht
        have rw9 := (rw7.off P7 o8).keep st
        have et : (upd H8 t (.tup [wv, .str n, .int (2 + z)])) t = some (.tup r.row) := by rw [er]; exact upd_same
        have ef9 := st _ _ ef8
        have eu9 := st _ _ (o8 u _ up (o57 u _ up eu5))
        have o9 : Off p H (upd H8 t (.tup [wv, .str n, .int (2 + z)])) := fun x o n ex => st _ _ (o8 x _ n (o57 x _ n (o5 x _ n ex)))
        generalize upd H8 t (.tup [wv, .str n, .int (2 + z)]) = H9 at *
        have tk : ∀ (q : Addr) xs, H9 q = some (.tup xs) → (upd H9 fa (.lst (fs.map V.ref ++ [.ref t]))) q = some (.tup xs) := fun q xs e => by rw [upd_ne (fun z => by rw [z, ef9] at e; cases e)]; exact e
        refine ⟨fa, _, .ref t, rfl, rfl, ef9, by rw [List.length_map, rw5.len, sizeLine_eq]; omega, fs ++ [t], gs ++ [r], _, _, rfl, by omega, ?_, ?_, ?_, ?_, (rw9.to tk).add (tk _ _ et), ?_, ?_⟩
        · rw [upd_ne fu.symm]; exact eu9
        · rw [show B + 11 + 2 * ((i + 1 : Nat) : Int) = B + 11 + 2 * (i : Nat) + 1 + 1 by omega]
          obtain ⟨b', g, e1, e2, e3, e4⟩ := P9.pen
          exact ⟨⟨b', g, by rw [upd_ne fp.symm]; exact e1, e2, e3, e4⟩, by rw [upd_ne hcf]; exact P9.cells, P9.few⟩
        · exact fun x o n ex => by rw [upd_ne (ne_of_none ex fH)]; exact o9 x o n ex
        · rw [upd_same, List.map_append]; rfl
        · intro x hx
          rcases List.mem_append.mp hx with h | h
          · exact al5 x h
          · rw [List.mem_singleton.mp h]; exact hrk
        · rw [List.take_add_one, ez, ← nm5, kinds, kinds, List.map_append, List.map_append]
          show _ ++ [r.k.nm] = _
          rw [nr]
          rfl
    · obtain ⟨fs, gs, z5, z6, rfl, i10, eu5, P5, o5, ef5, rw5, al5, nm5⟩ := hp
      rw [List.length_map, wl] at P5 i10 nm5
      rw [List.take_of_length_le (by rw [wl]; exact Nat.le_refl _)] at nm5
      have gl : gs.length = a + e := by
        have := congrArg List.length nm5
        rwa [List.length_map, kinds, List.length_map, wl] at this
      have ndp : pool10.Nodup := by decide +kernel
      have nd5 : ((kinds gs).map HD.nm).Nodup := by
        rw [nm5]
        exact List.Nodup.sublist (List.take_sublist _ _) (pmy.nodup_iff.mpr ndp)
      have fin : ∀ (D : Ends) (fa' : Addr) (fs' : List Addr) (gs' : List RD) (H' : Hp) (B' : Int) (y7 : Option V), D.rt = Q → PenAt H' p c ns B' → B' ≤ B + 45 → Off p H H' → H' fa' = some (.lst (fs'.map V.ref)) → Rws H' fs' gs' → gs'.length ≤ b → AllR gs' → ((kinds gs').map HD.nm).Nodup →
          tRet (tCall spLet [] E0 (tCons (tVar 4) tNil)) D [some (.ref p), some (.int (a : Int)), some (.int (b : Int)), some (.ref d0), some (.ref fa'), z5, z6, y7] H' := by
        intro D fa' fs' gs' H' B' y7 hQ PA' hB' of' ef' rw' l' al' nd'
        rw [← hQ] at q
        refine ⟨.ref fa', rfl, fa', gs', rfl, ⟨fs', ef', rw'⟩, by omega, fun dd H'' s'' r'' => ?_⟩
        have PP : PenAt H'' p c ns B' := PA'.keep s''
        exact q dd (letR gs') H'' B' PP hB' (of'.trans (fun x o n ex => s'' _ _ ex)) (r''.np PP) r'' (Nat.le_trans (letR_sublist gs').length_le l') (fun r hr => al' r ((letR_sublist gs').subset hr)) (letR_few (by omega) nd')
      refine ⟨.ref fa, rfl, by show 0 ≤ sizeLine; decide, fun e2 he => ⟨fa, e2, fs.map V.ref, rfl, rfl, same_new he _ _ ef5, upd_same, _, rfl, ?_⟩⟩
      have P6 := P5.new (o := .lst []) he
      have o6 := o5.trans (Off.new (p := p) (o := .lst []) he)
      have ef6 := same_new (o := .lst []) he _ _ ef5
      have rw6 := rw5.keep (same_new (o := .lst []) he)
      generalize upd H5 e2 (.lst []) = H6 at *
      cases hfs : fs with
      | nil =>
        subst hfs
        exact iteF (iteF (fin _ fa [] gs H6 _ _ rfl P6 (by omega) o6 ef6 rw6 (by omega) al5 nd5))
      | cons f0 fr =>
        subst hfs
        refine iteT ?_
        have f1 : 1 ≤ (f0 :: fr).length := Nat.succ_le_succ (Nat.zero_le _)
        generalize f0 :: fr = fs at *
        have fl : fs.length = a + e := by rw [rw5.len, gl]
        refine ⟨.ref p, rfl, p, c, ns, _, 3, rfl, P6, by omega, by decide, by decide, fun dd H7 d0 d1 P7 o7 => ⟨dd, 0, rfl, rfl, _, rfl, ?_⟩⟩
        have ef7 := o7 _ _ fp ef6
        have o67 := o6.trans o7
        have rw7 := rw6.off P6 o7
        by_cases hd0 : 0 < dd
        · rw [decide_eq_true hd0]
          refine iteT ⟨.ref p, rfl, .ref fa, rfl, fa, _, rfl, .inl (SqL.of ef7), p, c, ns, _, _, rfl, P7, by omega, by rw [List.length_map]; omega, by rw [List.length_map]; omega, fun sp H8 s0 s1 P8 o8 => ?_⟩
          have ef8 := o8 _ _ fp ef7
          have o78 := o67.trans o8
          have rw8 := rw7.off P7 o8
          obtain ⟨j, rfl⟩ : ∃ j : Nat, sp = (j : Int) := ⟨sp.toNat, by omega⟩
          rw [List.length_map] at s1
          have jl : j < fs.length := by omega
          refine ⟨.ref fa, rfl, .int (j : Int), rfl, (j : Int), rfl, fa, _, rfl, SqL.of ef8, fun u2 hu2 => ?_⟩
          rw [cut_to]
          have sA : Same' H8 (upd H8 u2 (.lst ((fs.map V.ref).take j))) := same_new hu2
          have PA1 : PenAt (upd H8 u2 (.lst ((fs.map V.ref).take j))) p c ns _ := P8.keep sA
          have eA : (upd H8 u2 (.lst ((fs.map V.ref).take j))) u2 = some (.lst ((fs.map V.ref).take j)) := upd_same
          clear hu2
          generalize upd H8 u2 (.lst ((fs.map V.ref).take j)) = HA at *
          refine ⟨by show 3 ≤ sizeLine; decide, fun t ht => ⟨by show 1 ≤ sizeLine; decide, fun l1 hl1 => ?_⟩⟩
          have sB := (same_new (o := .tup [V.str "choice", V.str "choice", V.int 0]) ht)
          have eB : (upd HA t (.tup [V.str "choice", V.str "choice", V.int 0])) t = some (.tup (RD.row ⟨.cho, 0⟩)) := upd_same
          generalize upd HA t (.tup [V.str "choice", V.str "choice", V.int 0]) = HB at *
          have sC := same_new (o := .lst [V.ref t]) hl1
          have eC : (upd HB l1 (.lst [V.ref t])) l1 = some (.lst [V.ref t]) := upd_same
          generalize upd HB l1 (.lst [V.ref t]) = HC at *
          refine ⟨u2, l1, _, _, rfl, rfl, sC _ _ (sB _ _ eA), eC, by rw [List.length_take, sizeLine_eq, List.length_map]; show _ + 1 ≤ _; omega, fun p1 hp1 => ?_⟩
          have sD := same_new (o := .lst ((fs.map V.ref).take j ++ [V.ref t])) hp1
          have eD : (upd HC p1 (.lst ((fs.map V.ref).take j ++ [V.ref t]))) p1 = some (.lst ((fs.map V.ref).take j ++ [V.ref t])) := upd_same
          generalize upd HC p1 (.lst ((fs.map V.ref).take j ++ [V.ref t])) = HD' at *
          have s8 : Same' H8 HD' := ((sA.trans sB).trans sC).trans sD
          have jc : ((j : Int) + 1) = ((j + 1 : Nat) : Int) := by omega
          refine ⟨.ref fa, rfl, .int (j : Int), rfl, (j : Int), 1, rfl, rfl, _, rfl, fa, _, rfl, SqL.of (s8 _ _ ef8), fun u3 hu3 => ?_⟩
          rw [jc, cut_from]
          have sE := same_new (o := .lst ((fs.map V.ref).drop (j + 1))) hu3
          have eE : (upd HD' u3 (.lst ((fs.map V.ref).drop (j + 1)))) u3 = some (.lst ((fs.map V.ref).drop (j + 1))) := upd_same
          clear hu3
          generalize upd HD' u3 (.lst ((fs.map V.ref).drop (j + 1))) = HE at *
          refine ⟨p1, u3, _, _, rfl, rfl, sE _ _ eD, eE, by rw [List.length_append, List.length_take, List.length_drop, sizeLine_eq, List.length_map]; show _ + 1 + _ ≤ _; omega, fun p2 hp2 => ?_⟩
          have sF := same_new (o := .lst ((fs.map V.ref).take j ++ [V.ref t] ++ (fs.map V.ref).drop (j + 1))) hp2
          have eF : (upd HE p2 (.lst ((fs.map V.ref).take j ++ [V.ref t] ++ (fs.map V.ref).drop (j + 1)))) p2 = some (.lst ((fs.take j ++ [t] ++ fs.drop (j + 1)).map V.ref)) := by
            rw [upd_same, List.map_append, List.map_append, List.map_take, List.map_drop]
            rfl
          generalize upd HE p2 (.lst ((fs.map V.ref).take j ++ [V.ref t] ++ (fs.map V.ref).drop (j + 1))) = HF at *
          have s8F : Same' H8 HF := (s8.trans sE).trans sF
          have r5 := rw8.keep s8F
          have rt : Rws HF (fs.take j) (gs.take j) := ⟨by rw [List.length_take, List.length_take, r5.len], fun m b' y q1 q2 => by
            rw [List.getElem?_take] at q1 q2
            split at q1
            · rename_i lt
              rw [if_pos lt] at q2
              exact r5.is m b' y q1 q2
            · cases q1⟩
          have rd : Rws HF (fs.drop (j + 1)) (gs.drop (j + 1)) := ⟨by rw [List.length_drop, List.length_drop, r5.len], fun m b' y q1 q2 => by
            rw [List.getElem?_drop] at q1 q2
            exact r5.is _ b' y q1 q2⟩
          have et : HF t = some (.tup (RD.row ⟨.cho, 0⟩)) := sF _ _ (sE _ _ (sD _ _ (sC _ _ eB)))
          refine fin _ p2 _ (gs.take j ++ [⟨.cho, 0⟩] ++ gs.drop (j + 1)) HF _ _ rfl (P8.keep s8F) (by omega) (o78.trans (fun x o n ex => s8F _ _ ex)) eF ((rt.add et).app rd) ?_ ?_ ?_
          · rw [List.length_append, List.length_append, List.length_take, List.length_drop]
            show _ + 1 + _ ≤ _
            omega
          · intro r hr
            rcases List.mem_append.mp hr with h | h
            · rcases List.mem_append.mp h with h | h
              · exact al5 r (List.mem_of_mem_take h)
              · rw [List.mem_singleton.mp h]
                exact List.mem_append_right _ (List.mem_singleton.mpr rfl)
            · exact al5 r (List.mem_of_mem_drop h)
          · have eN : (kinds (gs.take j ++ [⟨.cho, 0⟩] ++ gs.drop (j + 1))).map HD.nm = ((kinds gs).map HD.nm).take j ++ ("choice" : Str) :: ((kinds gs).map HD.nm).drop (j + 1) := by
              unfold kinds
              rw [List.map_append, List.map_append, List.map_append, List.map_append, List.map_take, List.map_take, List.map_drop, List.map_drop, List.append_assoc]
              rfl
            rw [eN]
            have hm : ∀ x ∈ (kinds gs).map HD.nm, x ∈ pool10 := fun x hx => by
              rw [nm5] at hx
              exact pmy.mem_iff.mp (List.mem_of_mem_take hx)
            have nc : ("choice" : Str) ∉ pool10 := by decide +kernel
            generalize (kinds gs).map HD.nm = N at nd5 hm
            rw [List.perm_middle.nodup_iff, List.nodup_cons]
            refine ⟨fun h => ?_, ?_⟩
            · rcases List.mem_append.mp h with h | h
              · exact nc (hm _ (List.mem_of_mem_take h))
              · exact nc (hm _ (List.mem_of_mem_drop h))
            · rw [← List.eraseIdx_eq_take_drop_succ]
              exact nd5.sublist (List.eraseIdx_sublist _ _)
        · rw [decide_eq_false hd0]
          exact iteF (fin _ fa fs gs H7 _ _ rfl P7 (by omega) o67 ef7 rw7 (by omega) al5 nd5)
end
end My
namespace My
open PySem PySem.Spec PyProof.Rows L2
/-! ### lists of names, in a list -/
structure GrpN (H0 H : Hp) (fa : Addr) (ls : List Addr) (ys : List (List Str)) : Prop where
  f : H fa = some (.lst (ls.map V.ref))
  len : ls.length = ys.length
  is : ∀ (i : Nat) (l : Addr) (y : List Str), ls[i]? = some l → ys[i]? = some y → H l = some (.lst (y.map V.str))
  nd : (fa :: ls).Nodup
  new : ∀ l ∈ fa :: ls, H0 l = none
theorem GrpN.keep {H0 H H' : Hp} {fa : Addr} {ls : List Addr} {ys : List (List Str)} (g : GrpN H0 H fa ls ys) (s : Same' H H') : GrpN H0 H' fa ls ys := ⟨s _ _ g.f, g.len, fun i l y e1 e2 => s _ _ (g.is i l y e1 e2), g.nd, g.new⟩
/-- a new run -/
theorem GrpN.push {H0 H : Hp} {fa u : Addr} {ls : List Addr} {ys : List (List Str)} {n : Str} (g : GrpN H0 H fa ls ys) (hu : H u = none) (h0 : H0 u = none) :
    GrpN H0 (upd (upd H u (.lst [V.str n])) fa (.lst (ls.map V.ref ++ [V.ref u]))) fa (ls ++ [u]) (ys ++ [[n]]) := by
  have s1 := same_new (o := .lst [V.str n]) hu
  have ef := s1 _ _ g.f
  have uf : u ≠ fa := (ne_of_none g.f hu).symm
  have ul : u ∉ ls := fun h => by
    obtain ⟨i, e⟩ := List.getElem?_of_mem h
    have hi : i < ys.length := by rw [← g.len]; exact (List.getElem?_eq_some_iff.mp e).1
    have e2 := g.is i u ys[i] e (List.getElem?_eq_getElem hi)
    rw [hu] at e2
    cases e2
  have fl : fa ∉ ls := (List.nodup_cons.mp g.nd).1
  refine ⟨by rw [upd_same, List.map_append]; rfl, by rw [List.length_append, List.length_append, g.len]; rfl, fun i l q e1 e2 => ?_, ?_, fun l hl => ?_⟩
  · rcases Nat.lt_or_ge i ls.length with lt | ge
    · rw [List.getElem?_append_left lt] at e1
      rw [List.getElem?_append_left (by rw [← g.len]; exact lt)] at e2
      have hl : l ≠ fa := fun z => fl (z ▸ List.mem_of_getElem? e1)
      rw [upd_ne hl]
      exact s1 _ _ (g.is i l q e1 e2)
    · rw [List.getElem?_append_right ge] at e1
      rw [List.getElem?_append_right (by rw [← g.len]; exact ge), ← g.len] at e2
      cases hj : i - ls.length with
      | zero =>
        rw [hj] at e1 e2
        cases e1
        cases e2
        rw [upd_ne uf]
        exact upd_same
      | succ j =>
        rw [hj] at e1
        simp at e1
  · have := List.nodup_cons.mp g.nd
    rw [List.nodup_cons, List.nodup_append]
    refine ⟨fun h => ?_, this.2, by simp, fun a ha c hc e => ?_⟩
    · rcases List.mem_append.mp h with h | h
      · exact fl h
      · exact uf (List.mem_singleton.mp h).symm
    · rw [List.mem_singleton] at hc
      exact ul (hc ▸ e ▸ ha)
  · rcases List.mem_cons.mp hl with e | h
    · exact g.new l (e ▸ List.mem_cons_self)
    · rcases List.mem_append.mp h with h | h
      · exact g.new l (List.mem_cons_of_mem _ h)
      · rw [List.mem_singleton.mp h]; exact h0
/-- one more in the last run -/
theorem GrpN.more {H0 H : Hp} {fa l : Addr} {li : List Addr} {yi : List (List Str)} {y : List Str} {n : Str} (r : GrpN H0 H fa (li ++ [l]) (yi ++ [y])) :
    GrpN H0 (upd H l (.lst (y.map V.str ++ [V.str n]))) fa (li ++ [l]) (yi ++ [y ++ [n]]) := by
  have lg : li.length = yi.length := by
    have := r.len
    simpa using this
  have nd := List.nodup_cons.mp r.nd
  have nl : l ∉ li := by
    have := (List.nodup_append.mp nd.2).2.2
    exact fun h => this l h l (List.mem_singleton.mpr rfl) rfl
  have fl : fa ≠ l := fun z => nd.1 (z ▸ List.mem_append_right _ (List.mem_singleton.mpr rfl))
  refine ⟨by rw [upd_ne fl]; exact r.f, by rw [List.length_append, List.length_append, lg]; rfl, fun i x q e1 e2 => ?_, r.nd, r.new⟩
  rcases Nat.lt_or_ge i li.length with lt | ge
  · have e1' := e1
    have e2' := e2
    rw [List.getElem?_append_left lt] at e1'
    rw [List.getElem?_append_left (by rw [← lg]; exact lt)] at e2'
    have hx : x ≠ l := fun z => nl (z ▸ List.mem_of_getElem? e1')
    rw [upd_ne hx]
    exact r.is i x q e1 (by rw [List.getElem?_append_left (by rw [← lg]; exact lt)]; exact e2')
  · rw [List.getElem?_append_right ge] at e1
    rw [List.getElem?_append_right (by rw [← lg]; exact ge), ← lg] at e2
    cases hj : i - li.length with
    | zero =>
      rw [hj] at e1 e2
      cases e1
      cases e2
      rw [upd_same, List.map_append]
      rfl
    | succ j =>
      rw [hj] at e1
      simp at e1
/-- the runs of rows, by name -/
def runsN (rs : List RD) : List (List Str) := (runsL (kinds rs)).map (·.map HD.nm)
theorem runsN_step {rs : List RD} {i : Nat} {r : RD} (h : rs[i]? = some r) : runsN (rs.take (i + 1)) = (addRun (runsL (kinds (rs.take i))) r.k).map (·.map HD.nm) := by
  unfold runsN runsL kinds
  rw [List.take_add_one, h, List.map_append, List.foldl_append]
  rfl
end My
namespace My
open PySem PySem.Spec PyProof.Rows L2
def spRunsLaw : Sp := fun vs H Q _ => ∃ (l : Addr) (ks : List RD), vs = [.ref l] ∧ RowL H l ks ∧ ks.length ≤ 10 ∧ ∀ (T : Addr) (ts : List Addr) (H' : Hp), Same' H H' → H' T = some (.tup (ts.map V.ref)) → TupsT H' ts (runsN ks) → Q (.ref T) H'
theorem runs_snoc (ks : List HD) (k : HD) : ∃ gi g', runsL (ks ++ [k]) = gi ++ [g' ++ [k]] := by
  have fl := runs_flat (ks ++ [k])
  rcases List.eq_nil_or_concat (runsL (ks ++ [k])) with e | ⟨gi, g0, e⟩
  · rw [e] at fl
    simp at fl
  · rw [List.concat_eq_append] at e
    have hne := (runs_in (ks ++ [k]) g0 (by rw [e]; exact List.mem_append_right _ (List.mem_singleton.mpr rfl))).1
    rcases List.eq_nil_or_concat g0 with e1 | ⟨g', x, e1⟩
    · exact absurd e1 hne
    · rw [List.concat_eq_append] at e1
      subst e1
      rw [e, List.flatten_append, List.flatten_cons, List.flatten_nil, List.append_nil, ← List.append_assoc] at fl
      have := (List.append_inj' fl rfl).2
      cases this
      exact ⟨gi, g', e⟩
section
variable {P : Program} {w : World} {K : PySem.W.Frag} {mg : Str → Option Value} {base : Heap}
abbrev nRuL : List Str := ["_law_rows_here", "_law_found", "_law_at", "_law_row", "_law_run"]
theorem scRuL : FnScope nRuL ["_law_rows_here"] (defScope sRunsL) := ⟨rfl, rfl, rfl, by decide +kernel, rfl, by decide +kernel, by decide +kernel⟩
abbrev XRuL (P : Program) (w : World) (K : PySem.W.Frag) (mg : Str → Option Value) (base : Heap) (f : Addr) (cdv : Value) (A : Around) (outer : List Env) (s : Shared) (H : Hp) (E : XK) : Cx := (cxOf CX0 P w K mg base nRuL "_law_runs" (defScope sRunsL) f cdv A outer s H E).nox
theorem ok_runsLaw {f fM : Addr} {fd dM : FuncData} (F : Fun K "_law_runs" "_law_runs" sRunsL f fd) (T : Txt mg) (So : FnB P w K mg base 1 "_law_sort" sSort fM dM ["_law_row"] spSort) : FnOk P w K mg base CX0 2 f fd ["_law_rows_here"] spRunsLaw := by
  refine F.ok scRuL (fun vs H Q E h => ?_) (fun cdv A0 outer s H vs Q E hr h => ?_)
  · obtain ⟨l, ks, rfl, _⟩ := h
    rfl
  · obtain ⟨l, ks, rfl, ⟨rs, el, rw0⟩, few, q⟩ := h
    refine ⟨_, pss_cons (ps_set (i := 1) scRuL.nd rfl (.inl rfl) (pe_lst pa_nil))
      (pss_cons (ps_for PassesOwn.never rfl (pi_enum (by rfl) T.enum (pa_cons (pv 0) pa_nil)) (pg_tup (n := 2) rfl (pgs_cons (pg_name (i := 2) scRuL.nd rfl (.inl rfl)) (pgs_cons (pg_name (i := 3) scRuL.nd rfl (.inl rfl)) pgs_nil)))
        (pss_one (ps_if (PW.pt (pw_and (pt_cmpR op_gt (pv 2) pe_int (nomark _)) (pw_and1 (pt_cmpR op_eq (pe_call So.G hr (by rfl) So.g So.F.kp So.b .nil pass0 (pa_cons (pe_ix ix_list (pv 0) (pe_op op_sub (pv 2) pe_int) (fun _ _ => rfl)) pa_nil)) (pe_call So.G hr (by rfl) So.g So.F.kp So.b .nil pass0 (pa_cons (pv 3) pa_nil)) (nomark _)))))
          (pss_one (ps_expr (pe_bm PySem.F.plainAttrs_list PySem.F.slot_list_append PySem.F.type_list_append mt_append (pe_ix ix_list (pv 1) (pe_un un_neg pe_int) (fun _ _ => rfl)) (pa_cons (pe_ix (show IxR _ (rIxT K) from ix_tup) (pv 3) pe_int (fun _ _ => rfl)) pa_nil))))
          (pss_one (ps_expr (pe_bm PySem.F.plainAttrs_list PySem.F.slot_list_append PySem.F.type_list_append mt_append (pv 1) (pa_cons (pe_lst (pa_cons (pe_ix (show IxR _ (rIxT K) from ix_tup) (pv 3) pe_int (fun _ _ => rfl)) pa_nil)) pa_nil)))))))
      (pss_one (ps_ret (pe_callTy call_tuple_of (by rfl) T.tuple (by decide +kernel) (pa_cons
        (pe_lc (own := [("_law_run", 4)]) (g := gName 4) (tt := tYes) rfl scRuL.nd (pi_list (pv 1)) (blkOk_by (N := nRuL) (sc := defScope sRunsL) (by decide +kernel)) (fun _ _ _ _ _ => pg_name (i := 4) scRuL.nd rfl (Or.inl rfl)) (fun _ _ _ _ _ => pts_nil)
          (fun s1 H1 C1 cl1 fp1 => show PE ((XRuL P w K mg base f cdv A0 outer s H E).blk s1 H1 _ (compEnvC _ cl1 C1 (XRuL P w K mg base f cdv A0 outer s H E).env) fp1) _ (tCB (fun xs H Q => ∃ p ys, xs = [.ref p] ∧ ((SqL K H p ys ∧ ∀ l : Addr, H l = none → Q (.ref l) (upd H l (.tup ys))) ∨ SqT K H p ys ∧ Q (.ref p) H)) (tCons (tVar 4) tNil)) from
            pe_callTy call_tuple_of (by rfl) T.tuple (by decide +kernel) (pa_cons (pv 4) pa_nil))) pa_nil))))), ?_⟩
    refine ⟨by show 0 ≤ sizeLine; decide, fun fa hfa => ?_⟩
    have s0 := same_new (o := .lst []) hfa
    refine ⟨.ref l, rfl, l, rs.map V.ref, rfl, SqL.of (s0 _ _ el), ?_⟩
    refine for_it (walk_enum (K := K) (a := l) (xs := rs.map V.ref)) (fun i σ H' => Same' H H' ∧ ∃ (ls : List Addr) (z2 z3 : Option V), σ = [some (.ref l), some (.ref fa), z2, z3, none] ∧ GrpN H H' fa ls (runsN (ks.take i))) ⟨s0, [], none, none, rfl, ⟨upd_same, rfl, fun i l g e => by simp at e, by simp, fun l hl => by rw [List.mem_singleton.mp hl]; exact hfa⟩⟩ (fun i σ H' _ hp => SqL.of (hp.1 _ _ el)) (fun i x σ H1 H2 hi hp hy => ?_) (fun σ H1 hp => ?_)
    · obtain ⟨sm, ls, z2, z3, rfl, gr⟩ := hp
      obtain ⟨tt, v1, v2, rfl, htt, rfl, e1, e2⟩ := hy
      injection e1 with e1
      subst e1
      obtain ⟨t, k, et, ek, rfl, ht⟩ := (rw0.keep sm).at e2
      have st := same_new (o := .tup [V.int (i : Int), V.ref t]) htt
      refine ⟨tt, _, rfl, SqT.of upd_same, rfl, _, _, rfl, _, _, rfl, rfl, ?_⟩
      have sm2 := sm.trans st
      have ht2 := st _ _ ht
      have gr2 := gr.keep st
      generalize upd H1 tt (.tup [V.int (i : Int), V.ref t]) = H3 at *
      refine ⟨.int (i : Int), rfl, (i : Int), 0, rfl, rfl, _, rfl, ?_⟩
      have stp := runsN_step ek
      have ik := runs_len (kinds (ks.take i))
      rw [kinds, List.length_map, List.length_take] at ik
      have lsl : ls.length = (runsL (kinds (ks.take i))).length := by rw [gr2.len, runsN, List.length_map]
      have ls10 : ls.length < sizeLine := by rw [lsl, sizeLine_eq]; unfold kinds; omega
      have same_fa : ∀ {H4 : Hp} {o : HO}, Same' H H4 → Same' H (upd H4 fa o) := fun s b o' e => by
        rw [upd_ne (fun z => by
          have := gr2.new fa List.mem_cons_self
          rw [← z, e] at this
          cases this)]
        exact s _ _ e
      have fresh : ∀ (H4 : Hp) (u : Addr), Same' H H4 → H4 u = none → H u = none := fun H4 u s hu => by
        cases e : H u with
        | none => rfl
        | some o =>
          have := s _ _ e
          rw [hu] at this
          cases this
      cases i with
      | zero =>
        have hn : runsN (ks.take (0 + 1)) = runsN (ks.take 0) ++ [[k.k.nm]] := by rw [stp]; rfl
        refine iteF (iteF ?_)
        refine ⟨.ref fa, rfl, .inl ⟨rfl, _, SqL.of gr2.f⟩, .ref t, rfl, t, _, 1, .str k.k.nm, rfl, rfl, SqT.of ht2, row_1 k, by show 1 ≤ sizeLine; decide, fun u hu => ⟨fa, _, .ref u, rfl, rfl, same_new hu _ _ gr2.f, by rw [List.length_map]; exact ls10, same_fa (sm2.trans (same_new hu)), ls ++ [u], _, _, rfl, ?_⟩⟩
        rw [hn]
        exact gr2.push hu (fresh H3 u sm2 hu)
      | succ i =>
        have hki : i < ks.length := by have := (List.getElem?_eq_some_iff.mp ek).1; omega
        obtain ⟨j, ej⟩ : ∃ j, ks[i]? = some j := ⟨_, List.getElem?_eq_getElem hki⟩
        have hri : i < rs.length := by rw [rw0.len]; exact hki
        obtain ⟨tj, etj⟩ : ∃ x, rs[i]? = some x := ⟨_, List.getElem?_eq_getElem hri⟩
        have htj : H3 tj = some (.tup j.row) := sm2 _ _ (rw0.is i tj j etj ej)
        have tke : kinds (ks.take (i + 1)) = kinds (ks.take i) ++ [j.k] := by
          unfold kinds
          rw [List.take_add_one, ej, List.map_append]
          rfl
        obtain ⟨gi, g', eg⟩ := runs_snoc (kinds (ks.take i)) j.k
        rw [← tke] at eg
        rw [eg, addRun_last] at stp
        have rn : runsN (ks.take (i + 1)) = gi.map (·.map HD.nm) ++ [(g' ++ [j.k]).map HD.nm] := by
          unfold runsN
          rw [eg, List.map_append]
          rfl
        have sb : (((i + 1 : Nat) : Int) - 1) = (i : Int) := by omega
        have at1 : atI (rs.map V.ref) (((i + 1 : Nat) : Int) - 1) = some (.ref tj) := by
          rw [sb]
          refine atI_nat ?_
          rw [List.getElem?_map, etj]
          rfl
        rw [decide_eq_true (by omega)]
        refine iteT ⟨.ref l, rfl, .int ((i + 1 : Nat) : Int), rfl, ((i + 1 : Nat) : Int), 1, rfl, rfl, l, _, _, .ref tj, rfl, rfl, SqL.of (sm2 _ _ el), at1, tj, j, rfl, htj, fun H4 s4 => ⟨.ref t, rfl, t, k, rfl, s4 _ _ ht2, fun H5 s5 => ⟨rfl, _, rfl, ?_⟩⟩⟩
        have s35 := s4.trans s5
        have gr5 := gr2.keep s35
        have sm5 := sm2.trans s35
        have du : decide (V.int (sortN j.k.ix : Nat) = V.int (sortN k.k.ix : Nat)) = !meetB j.k.ix k.k.ix := by
          rw [meet_sort _ j.k.ix_lt _ k.k.ix_lt, Bool.eq_iff_iff]
          simp
          try omega
        rw [du]
        cases em : meetB j.k.ix k.k.ix with
        | false =>
          rw [if_pos em] at stp
          refine iteT ?_
          rcases List.eq_nil_or_concat ls with e0 | ⟨li, lq, e0⟩
          · have h0 := gr5.len
            rw [e0, rn] at h0
            simp at h0
          rw [List.concat_eq_append] at e0
          subst e0
          rw [rn] at gr5
          have lg : li.length = (gi.map (·.map HD.nm)).length := by
            have := gr5.len
            simpa using this
          have elq := gr5.is li.length lq ((g' ++ [j.k]).map HD.nm) (by simp) (by rw [lg]; simp)
          have atf : atI ((li ++ [lq]).map V.ref) (-1) = some (V.ref lq) := by rw [List.map_append]; exact atI_last _ _
          have hn : runsN (ks.take (i + 1 + 1)) = gi.map (·.map HD.nm) ++ [(g' ++ [j.k]).map HD.nm ++ [k.k.nm]] := by
            rw [stp, List.map_append]
            simp
          have gl : (g' ++ [j.k]).length ≤ 10 := by
            have fl := congrArg List.length (runs_flat (kinds (ks.take (i + 1))))
            rw [eg, kinds, List.length_map, List.length_take] at fl
            simp only [List.flatten_append, List.flatten_cons, List.flatten_nil, List.length_append, List.append_nil] at fl ⊢
            omega
          refine ⟨.ref fa, rfl, 1, rfl, fa, _, _, .ref lq, rfl, rfl, SqL.of gr5.f, atf, .inl ⟨rfl, _, SqL.of elq⟩, .ref t, rfl, t, _, 1, .str k.k.nm, rfl, rfl, SqT.of (s35 _ _ ht2), row_1 k, lq, _, .str k.k.nm, rfl, rfl, elq, ?_, fun x o e => ?_, li ++ [lq], _, _, rfl, ?_⟩
          · rw [List.length_map, List.length_map, sizeLine_eq]
            omega
          · have h1 : x ≠ lq := fun z => by
              have := gr5.new lq (List.mem_cons_of_mem _ (List.mem_append_right _ (List.mem_singleton.mpr rfl)))
              rw [← z, e] at this
              cases this
            rw [upd_ne h1]
            exact sm5 _ _ e
          · rw [hn]
            exact gr5.more
        | true =>
          rw [if_neg (by rw [em]; exact fun z => (nomatch z))] at stp
          have hn : runsN (ks.take (i + 1 + 1)) = runsN (ks.take (i + 1)) ++ [[k.k.nm]] := by
            rw [stp, List.map_append, rn, List.map_append]
            rfl
          refine iteF ?_
          refine ⟨.ref fa, rfl, .inl ⟨rfl, _, SqL.of gr5.f⟩, .ref t, rfl, t, _, 1, .str k.k.nm, rfl, rfl, SqT.of (s35 _ _ ht2), row_1 k, by show 1 ≤ sizeLine; decide, fun u hu => ⟨fa, _, .ref u, rfl, rfl, same_new hu _ _ gr5.f, by rw [List.length_map]; exact ls10, same_fa (sm5.trans (same_new hu)), ls ++ [u], _, _, rfl, ?_⟩⟩
          rw [hn]
          exact gr5.push hu (fresh H5 u sm5 hu)
    · obtain ⟨sm, ls, z2, z3, rfl, gr⟩ := hp
      rw [List.length_map, rw0.len, List.take_of_length_le (Nat.le_refl _)] at gr
      refine ⟨.ref fa, rfl, fa, rfl, ⟨_, SqL.of gr.f⟩, fun D hD => ?_⟩
      refine lc_it (walk_list (K := K) (a := fa) (xs := ls.map V.ref)) (fun i H' => Same' H1 H' ∧ ∃ (ts : List Addr), H' D = some (.lst (ts.map V.ref)) ∧ TupsT H' ts ((runsN ks).take i) ∧ ts.length = i) ⟨same_new hD, [], upd_same, .nil, rfl⟩ (fun i H' _ hp => SqL.of (hp.1 _ _ gr.f)) (fun i x H2 H3 hi hp hx => ?_) (fun H2 hp => ?_)
      · obtain ⟨s2, ts, ed, tt, tl⟩ := hp
        obtain ⟨rfl, e2⟩ := hx
        rw [List.length_map] at hi
        rw [List.getElem?_map, List.getElem?_eq_getElem hi] at e2
        cases e2
        have hg : i < (runsN ks).length := by rw [← gr.len]; exact hi
        have eg := List.getElem?_eq_getElem hg
        have ey := gr.is i _ _ (List.getElem?_eq_getElem hi) eg
        generalize (runsN ks)[i] = y at eg ey
        refine ⟨rfl, ⟨.ref ls[i], rfl, ls[i], y.map V.str, rfl, .inl ⟨SqL.of (s2 _ _ ey), fun p hp => ?_⟩⟩⟩
        have s3 := same_new (o := .tup (y.map V.str)) hp
        have e6 : (upd H3 p (.tup (y.map V.str))) p = some (.tup (y.map V.str)) := upd_same
        generalize upd H3 p (.tup (y.map V.str)) = H6 at *
        have ed6 := s3 _ _ ed
        have kt : ∀ b xs, H6 b = some (.tup xs) → (upd H6 D (.lst (ts.map V.ref ++ [.ref p]))) b = some (.tup xs) := fun b xs e => by
          rw [upd_ne (fun z => by rw [z, ed6] at e; cases e)]
          exact e
        refine ⟨_, ed6, ?_, same_over hD (s2.trans s3), ts ++ [p], ?_, ?_, by rw [List.length_append, tl]; rfl⟩
        · have := gr.len
          rw [runsN, List.length_map] at this
          have := runs_len (kinds ks)
          rw [kinds, List.length_map] at this
          unfold kinds at *
          rw [List.length_map, tl, sizeLine_eq]
          omega
        · rw [upd_same, List.map_append]
          rfl
        · rw [List.take_add_one, eg]
          exact ((tt.keep s3).to kt).add (kt _ _ e6)
      · obtain ⟨s2, ts, ed, tt, tl⟩ := hp
        rw [List.length_map, gr.len, List.take_length] at tt
        refine ⟨D, _, rfl, .inl ⟨SqL.of ed, fun T hT => ?_⟩⟩
        have sT := same_new (o := .tup (ts.map V.ref)) hT
        exact q T ts _ (sm.trans (s2.trans sT)) upd_same (tt.keep sT)
end
end My
namespace My
open PySem PySem.Spec PyProof.Rows L2
/-! ### the runs of the law's normal are the layers -/
theorem fold_same {c : Nat} : ∀ (f : List RD) (gi : List (List HD)) (g' : List HD) (j : HD), sortN j.ix = c → (∀ x ∈ f, srt x = c) → (kinds f).foldl addRun (gi ++ [g' ++ [j]]) = gi ++ [g' ++ [j] ++ kinds f]
  | [], gi, g', j, _, _ => by
    show gi ++ [g' ++ [j]] = gi ++ [g' ++ [j] ++ []]
    rw [List.append_nil]
  | x :: f, gi, g', j, hj, hf => by
    have hx : sortN x.k.ix = c := hf x List.mem_cons_self
    show (kinds f).foldl addRun (addRun (gi ++ [g' ++ [j]]) x.k) = _
    rw [addRun_last, if_pos ((meet_srt _ _).mpr (by rw [hj, hx])), fold_same f gi (g' ++ [j]) x.k hx fun y hy => hf y (List.mem_cons_of_mem _ hy)]
    show _ = gi ++ [g' ++ [j] ++ (x.k :: kinds f)]
    simp
theorem PR2.runs {fs : List (List RD)} {gs : List (List HD)} (h : PR2 fs gs) (ne : ∀ g ∈ gs, g ≠ []) : runsL (kinds fs.flatten) = fs.map kinds := by
  have hne := h.ne ne
  induction h with
  | nil => rfl
  | @snoc fs gs f g h1 h2 h3 ih =>
    have i1 := ih (fun g hg => ne g (List.mem_append_left _ hg)) (fun f hf => hne f (List.mem_append_left _ hf))
    obtain ⟨_, _, c, hc⟩ := h2
    have fne := hne f (List.mem_append_right _ (List.mem_singleton.mpr rfl))
    cases f with
    | nil => exact absurd rfl fne
    | cons x f =>
      have e : runsL (kinds (fs ++ [x :: f]).flatten) = (kinds f).foldl addRun (addRun (fs.map kinds) x.k) := by
        rw [← i1, List.flatten_append, List.flatten_cons, List.flatten_nil, List.append_nil]
        unfold kinds runsL
        rw [List.map_append, List.foldl_append]
        rfl
      have e2 : addRun (fs.map kinds) x.k = fs.map kinds ++ [[] ++ [x.k]] := by
        rcases List.eq_nil_or_concat fs with e0 | ⟨F, f0, e0⟩
        · rw [e0]; rfl
        · rw [List.concat_eq_append] at e0
          subst e0
          have f0ne := hne f0 (List.mem_append_left _ (List.mem_append_right _ (List.mem_singleton.mpr rfl)))
          rcases List.eq_nil_or_concat f0 with e1 | ⟨q, y, e1⟩
          · exact absurd e1 f0ne
          · rw [List.concat_eq_append] at e1
            subst e1
            have hm := h3 (q ++ [y]) (by simp) y (by simp) x List.mem_cons_self
            have ek : (F ++ [q ++ [y]]).map kinds = F.map kinds ++ [kinds q ++ [y.k]] := by
              unfold kinds
              simp
            rw [ek, addRun_last, if_neg (fun z => hm ((meet_srt _ _).mp z))]
            rfl
      rw [e, e2, fold_same f (fs.map kinds) [] x.k (hc x List.mem_cons_self) fun y hy => hc y (List.mem_cons_of_mem _ hy), List.map_append]
      rfl
/-- what the law's runs of its normal are -/
theorem runsN_asc {rs : List RD} (nd : ((kinds rs).map HD.nm).Nodup) : AscR (runsL (kinds rs)) (runsN (normR rs)) := by
  obtain ⟨fs, e, pr⟩ := normR_nr rs
  have a := (pr.norm (runs_nd nd)).1
  have r := pr.runs fun g hg => (runs_in (kinds rs) g hg).1
  unfold runsN
  rw [e, r, List.map_map]
  have : (fs.map fun f => f.map fun r => r.k.nm) = fs.map ((fun x => x.map HD.nm) ∘ kinds) := by
    refine List.map_congr_left fun f _ => ?_
    show _ = (f.map RD.k).map HD.nm
    rw [List.map_map]
    rfl
  rw [← this]
  exact a
end My
namespace My
open PySem PySem.Spec PyProof.Rows L2
/-- the names of the runs, ascending, are one -/
theorem ascR_one {gs : List (List HD)} {ys zs : List (List Str)} (asc : AscR gs ys) (asc2 : AscR gs zs) : ys = zs := by
  refine List.ext_getElem? fun i => ?_
  cases e1 : ys[i]? with
  | none =>
    have : ys.length ≤ i := List.getElem?_eq_none_iff.mp e1
    rw [List.getElem?_eq_none (by rw [asc2.len, ← asc.len]; exact this)]
  | some y =>
    have hi : i < ys.length := (List.getElem?_eq_some_iff.mp e1).1
    have hz : i < zs.length := by rw [asc2.len, ← asc.len]; exact hi
    have hg : i < gs.length := by rw [← asc.len]; exact hi
    have e2 := List.getElem?_eq_getElem hz
    have e3 := List.getElem?_eq_getElem hg
    have a1 := asc.is i _ y e3 e1
    have a2 := asc2.is i _ _ e3 e2
    rw [e2]
    have p : y.Perm zs[i] := (List.perm_ext_iff_of_nodup a1.nd a2.nd).mpr fun z => (a1.mem z).trans (a2.mem z).symm
    have pws : ∀ l : List Str, sortedS l = true → l.Pairwise LeS := by
      have key : ∀ (l : List Str) (p : Str), risingS p l = true → (p :: l).Pairwise LeS := by
        intro l
        induction l with
        | nil => intro p _; exact List.pairwise_singleton _ _
        | cons x l ih =>
          intro p h
          unfold risingS at h
          rw [Bool.and_eq_true, Bool.not_eq_true'] at h
          have h2 := ih x h.2
          have px : LeS p x := h.1
          refine List.pairwise_cons.mpr ⟨fun y hy => ?_, h2⟩
          rcases List.mem_cons.mp hy with e | m
          · rw [e]; exact px
          · exact leS_trans px ((List.pairwise_cons.mp h2).1 y m)
      intro l h
      cases l with
      | nil => exact List.Pairwise.nil
      | cons x l => exact key l x h
    have eq : y = zs[i] := List.Perm.eq_of_pairwise (le := LeS) (fun u v _ _ h k => by
      rw [leS_iff] at h k
      have e : u.cps.toList = v.cps.toList := List.le_antisymm h k
      cases u
      cases v
      exact congrArg _ (Array.toList_inj.mp e)) (pws _ a1.so) (pws _ a2.so) p
    rw [eq]
/-- what the stack's layers and the law's runs of its normal are -/
theorem layers_runs {rs : List RD} {yss : List (List Str)} (nd : ((kinds rs).map HD.nm).Nodup) (a : AscR (runsL (kinds rs)) yss) : yss = runsN (normR rs) := ascR_one a (runsN_asc nd)
theorem runs_len10 {rs : List RD} (few : rs.length ≤ 10) : ∀ y ∈ runsN rs, y.length ≤ 10 := by
  intro y hy
  unfold runsN at hy
  obtain ⟨g, hg, e⟩ := List.mem_map.mp hy
  have h := (List.sublist_flatten_of_mem hg).length_le
  rw [runs_flat, kinds, List.length_map] at h
  rw [← e, List.length_map]
  omega
end My
namespace My
/-! ### all orders, pairs and runs, of anything -/
def permsG {α : Type} : Nat → List α → List (List α)
  | 0, _ => [[]]
  | n + 1, xs => (List.range xs.length).flatMap fun i => match xs[i]? with
    | none => []
    | some x => (permsG n (xs.take i ++ xs.drop (i + 1))).map (x :: ·)
def prsG {α : Type} (m : α → α → Bool) : List α → List (α × α)
  | [] => []
  | k :: r => (r.filter (m k)).map (fun x => (k, x)) ++ prsG m r
def addG {α : Type} (m : α → α → Bool) (gs : List (List α)) (k : α) : List (List α) := match gs.getLast? with
  | none => gs ++ [[k]]
  | some g => match g.getLast? with
    | none => gs ++ [[k]]
    | some j => if m j k = false then gs.dropLast ++ [g ++ [k]] else gs ++ [[k]]
def runsG {α : Type} (m : α → α → Bool) (ks : List α) : List (List α) := ks.foldl (addG m) []
def patM (sg : List Nat) (a b : Nat) : Bool := !(sg.getD a 0 == sg.getD b 0)
def pats : Nat → List (List Nat)
  | 0 => [[]]
  | n + 1 => [0, 1, 2].flatMap fun c => (pats n).map (c :: ·)
def orderB (m : Nat → Nat → Bool) : List Nat → Bool
  | [] => true
  | k :: r => (r.all fun x => !m k x || k.blt x) && orderB m r
def facN : Nat → Nat
  | 0 => 1
  | n + 1 => facN n * (n + 1)
def zipP : List (List Nat) → List (List Nat) → Bool
  | [], [] => true
  | a :: r, b :: q => a.isPerm b && zipP r q
  | _, _ => false
def checkB (n : Nat) (P : List (List Nat)) (sg : List Nat) : Bool :=
  (P.filter (orderB (patM sg))).length == (runsG (patM sg) (List.range n)).foldl (fun m y => m * facN y.length) 1 &&
    (P.filter (orderB (patM sg))).all fun p => (prsG (patM sg) p).isPerm (prsG (patM sg) (List.range n)) && zipP (runsG (patM sg) p) (runsG (patM sg) (List.range n))
theorem check_all : ([0, 1, 2, 3, 4, 5].all fun n => (pats n).all (checkB n (permsG n (List.range n)))) = true := by decide +kernel
theorem check_at {n : Nat} {sg : List Nat} (hn : n ≤ 5) (hs : sg ∈ pats n) : checkB n (permsG n (List.range n)) sg = true := by
  have h := check_all
  rw [List.all_eq_true] at h
  have m : n ∈ [0, 1, 2, 3, 4, 5] := by
    match n, hn with
    | 0, _ => decide
    | 1, _ => decide
    | 2, _ => decide
    | 3, _ => decide
    | 4, _ => decide
    | 5, _ => decide
  exact List.all_eq_true.mp (h n m) sg hs
theorem pats_mem : ∀ sg : List Nat, (∀ c ∈ sg, c ≤ 2) → sg ∈ pats sg.length
  | [], _ => List.mem_cons_self
  | c :: sg, h => by
    have ih := pats_mem sg fun c hc => h c (List.mem_cons_of_mem _ hc)
    refine List.mem_flatMap.mpr ⟨c, ?_, List.mem_map.mpr ⟨sg, ih, rfl⟩⟩
    have := h c List.mem_cons_self
    match c, this with
    | 0, _ => decide
    | 1, _ => decide
    | 2, _ => decide
theorem permsG_map {α β : Type} (g : α → β) : ∀ (n : Nat) (os : List α), permsG n (os.map g) = (permsG n os).map (·.map g)
  | 0, os => rfl
  | n + 1, os => by
    show (List.range (os.map g).length).flatMap _ = ((List.range os.length).flatMap _).map _
    rw [List.length_map, List.map_flatMap]
    refine congrArg (fun F => (List.range os.length).flatMap F) (funext fun i => ?_)
    rw [List.getElem?_map]
    cases os[i]? with
    | none => rfl
    | some x =>
      show (permsG n ((os.map g).take i ++ (os.map g).drop (i + 1))).map _ = ((permsG n (os.take i ++ os.drop (i + 1))).map _).map _
      rw [← List.map_take, ← List.map_drop, ← List.map_append, permsG_map g n, List.map_map, List.map_map]
      rfl
theorem permsG_perm {α : Type} : ∀ (n : Nat) (xs : List α), xs.length = n → ∀ p ∈ permsG n xs, p.Perm xs
  | 0, xs, h, p, hp => by
    rw [List.length_eq_zero_iff.mp h]
    rw [List.mem_singleton.mp hp]
  | n + 1, xs, h, p, hp => by
    obtain ⟨i, hi, hp⟩ := List.mem_flatMap.mp hp
    have hi : i < xs.length := List.mem_range.mp hi
    rw [List.getElem?_eq_getElem hi] at hp
    obtain ⟨q, hq, rfl⟩ := List.mem_map.mp hp
    have ih := permsG_perm n (xs.take i ++ xs.drop (i + 1)) (by rw [List.length_append, List.length_take, List.length_drop]; omega) q hq
    have e : xs = xs.take i ++ (xs[i] :: xs.drop (i + 1)) := by rw [← List.drop_eq_getElem_cons hi, List.take_append_drop]
    refine (ih.cons _).trans ?_
    conv => rhs; rw [e]
    exact List.perm_middle.symm
theorem prsG_map {α β : Type} (g : α → β) (m : β → β → Bool) : ∀ os : List α, prsG m (os.map g) = (prsG (fun a b => m (g a) (g b)) os).map fun z => (g z.1, g z.2)
  | [] => rfl
  | k :: r => by
    show ((r.map g).filter _).map _ ++ prsG m (r.map g) = (((r.filter _).map _) ++ prsG _ r).map _
    rw [prsG_map g m r, List.map_append, List.filter_map, List.map_map, List.map_map]
    rfl
theorem addG_map {α β : Type} (g : α → β) (m : β → β → Bool) (gs : List (List α)) (k : α) : addG m (gs.map (·.map g)) (g k) = (addG (fun a b => m (g a) (g b)) gs k).map (·.map g) := by
  rcases List.eq_nil_or_concat gs with e | ⟨gi, g0, e⟩
  · rw [e]; rfl
  · rw [List.concat_eq_append] at e
    subst e
    unfold addG
    rw [List.map_append, List.map_cons, List.map_nil, List.getLast?_concat, List.getLast?_concat]
    dsimp only
    rw [List.getLast?_map]
    cases g0.getLast? with
    | none => simp
    | some j =>
      dsimp only [Option.map]
      split
      · rw [List.dropLast_concat, List.dropLast_concat]; simp
      · simp
theorem runsG_map {α β : Type} (g : α → β) (m : β → β → Bool) (os : List α) : runsG m (os.map g) = (runsG (fun a b => m (g a) (g b)) os).map (·.map g) := by
  have key : ∀ (os : List α) (gs : List (List α)), (os.map g).foldl (addG m) (gs.map (·.map g)) = (os.foldl (addG fun a b => m (g a) (g b)) gs).map (·.map g) := by
    intro os
    induction os with
    | nil => intro gs; rfl
    | cons k r ih =>
      intro gs
      show (r.map g).foldl (addG m) (addG m (gs.map (·.map g)) (g k)) = _
      rw [addG_map, ih]
      rfl
  exact key os []
theorem orderB_of {m : Nat → Nat → Bool} : ∀ p : List Nat, (∀ z ∈ prsG m p, z.1 < z.2) → orderB m p = true
  | [], _ => rfl
  | k :: r, h => by
    show ((r.all fun x => !m k x || k.blt x) && orderB m r) = true
    rw [Bool.and_eq_true]
    refine ⟨List.all_eq_true.mpr fun x hx => ?_, orderB_of r fun z hz => h z (List.mem_append_right _ hz)⟩
    cases e : m k x with
    | false => rfl
    | true =>
      have := h (k, x) (List.mem_append_left _ (List.mem_map.mpr ⟨x, List.mem_filter.mpr ⟨hx, e⟩, rfl⟩))
      show k.blt x = true
      exact Nat.blt_eq.mpr this
theorem prsG_in {α : Type} {m : α → α → Bool} : ∀ (p : List α), ∀ z ∈ prsG m p, z.1 ∈ p ∧ z.2 ∈ p
  | [], z, h => (nomatch h)
  | k :: r, z, h => by
    rcases List.mem_append.mp h with h | h
    · obtain ⟨x, hx, rfl⟩ := List.mem_map.mp h
      exact ⟨List.mem_cons_self, List.mem_cons_of_mem _ (List.mem_filter.mp hx).1⟩
    · have := prsG_in r z h
      exact ⟨List.mem_cons_of_mem _ this.1, List.mem_cons_of_mem _ this.2⟩
theorem prsG_pw {α : Type} {m : α → α → Bool} {R : α → α → Prop} : ∀ (p : List α), p.Pairwise R → ∀ z ∈ prsG m p, R z.1 z.2
  | [], _, z, h => (nomatch h)
  | k :: r, pw, z, h => by
    have pw := List.pairwise_cons.mp pw
    rcases List.mem_append.mp h with h | h
    · obtain ⟨x, hx, rfl⟩ := List.mem_map.mp h
      exact pw.1 x (List.mem_filter.mp hx).1
    · exact prsG_pw r pw.2 z h
theorem zipP_len : ∀ {a b : List (List Nat)}, zipP a b = true → a.length = b.length
  | [], [], _ => rfl
  | [], _ :: _, h => (nomatch h)
  | _ :: _, [], h => (nomatch h)
  | a :: r, b :: q, h => by
    have : (a.isPerm b && zipP r q) = true := h
    rw [Bool.and_eq_true] at this
    rw [List.length_cons, List.length_cons, zipP_len this.2]
theorem zipP_at : ∀ {a b : List (List Nat)}, zipP a b = true → ∀ (i : Nat) (x y : List Nat), a[i]? = some x → b[i]? = some y → x.Perm y
  | [], _, _, i, x, y, e, _ => by simp at e
  | _ :: _, [], _, i, x, y, _, e => by simp at e
  | a :: r, b :: q, h, i, x, y, e1, e2 => by
    have : (a.isPerm b && zipP r q) = true := h
    rw [Bool.and_eq_true] at this
    cases i with
    | zero =>
      cases e1
      cases e2
      exact List.isPerm_iff.mp this.1
    | succ i => exact zipP_at this.2 i x y (by simpa using e1) (by simpa using e2)
end My
namespace My
open PySem PySem.Spec PyProof.Rows L2
/-! ### all orders with the same lines: how many, and their runs -/
theorem leS_antisymm {a b : Str} (h : LeS a b) (k : LeS b a) : a = b := by
  rw [leS_iff] at *
  have e : a.cps.toList = b.cps.toList := List.le_antisymm h k
  cases a
  cases b
  exact congrArg _ (Array.toList_inj.mp e)
theorem pw_rising : ∀ (l : List Str) (p : Str), risingS p l = true → (p :: l).Pairwise LeS
  | [], p, _ => List.pairwise_singleton _ _
  | x :: l, p, h => by
    unfold risingS at h
    rw [Bool.and_eq_true, Bool.not_eq_true'] at h
    have ih := pw_rising l x h.2
    have px : LeS p x := h.1
    refine List.pairwise_cons.mpr ⟨fun y hy => ?_, ih⟩
    rcases List.mem_cons.mp hy with e | m
    · rw [e]; exact px
    · exact leS_trans px ((List.pairwise_cons.mp ih).1 y m)
theorem pw_sorted : ∀ l : List Str, sortedS l = true → l.Pairwise LeS
  | [], _ => List.Pairwise.nil
  | x :: l, h => pw_rising l x h
theorem sorted_one {ys zs : List Str} (p : ys.Perm zs) (a : sortedS ys = true) (b : sortedS zs = true) : ys = zs :=
  List.Perm.eq_of_pairwise (le := LeS) (fun _ _ _ _ h k => leS_antisymm h k) (pw_sorted _ a) (pw_sorted _ b) p
def pool11 : List Str := pool10 ++ [("choice" : Str)]
def lineZ (z : Str × Str) : Str := (z.1 ++ " ") ++ z.2
theorem line_split : ∀ a ∈ pool11, ∀ b ∈ pool11, Txt.split (lineZ (a, b)) " " = [a, b] := by decide +kernel
theorem line_inj {a b c d : Str} (h1 : a ∈ pool11) (h2 : b ∈ pool11) (h3 : c ∈ pool11) (h4 : d ∈ pool11) (e : lineZ (a, b) = lineZ (c, d)) : a = c ∧ b = d := by
  have q1 := line_split a h1 b h2
  have q2 := line_split c h3 d h4
  rw [e, q2] at q1
  injection q1 with e1 q1
  injection q1 with e2 _
  exact ⟨e1.symm, e2.symm⟩
theorem rds_pool : ∀ r ∈ rdsK, r.k.nm ∈ pool11 := by decide +kernel
def mH (a b : HD) : Bool := meetB a.ix b.ix
theorem addRun_G (gs : List (List HD)) (k : HD) : addRun gs k = addG mH gs k := by
  unfold addRun addG
  cases gs.getLast? with
  | none => rfl
  | some g =>
    dsimp only
    cases g.getLast? with
    | none => rfl
    | some j => rfl
theorem runsL_G (ks : List HD) : runsL ks = runsG mH ks := by
  have e : addRun = addG mH := funext fun gs => funext fun k => addRun_G gs k
  unfold runsL runsG
  rw [e]
theorem linesL_G : ∀ ks : List HD, linesL ks = (prsG mH ks).map fun z => lineOf z.1 z.2
  | [] => rfl
  | k :: r => by
    show linesK k r ++ linesL r = (((r.filter _).map _) ++ prsG mH r).map _
    rw [linesL_G r, List.map_append, List.map_map]
    rfl
def d0 : RD := ⟨.cell "x" 2, 2⟩
def gR (ks : List RD) (i : Nat) : RD := ks.getD i d0
def sgR (ks : List RD) : List Nat := ks.map srt
theorem srt_g (ks : List RD) (i : Nat) : srt (gR ks i) = (sgR ks).getD i 0 := by
  unfold gR sgR
  rw [List.getD_eq_getElem?_getD, List.getD_eq_getElem?_getD, List.getElem?_map]
  cases ks[i]? with
  | none => rfl
  | some x => rfl
theorem mH_pat (ks : List RD) : (fun a b => mH (gR ks a).k (gR ks b).k) = patM (sgR ks) := by
  funext a b
  unfold mH patM
  rw [meet_sort _ (gR ks a).k.ix_lt _ (gR ks b).k.ix_lt, ← srt_g, ← srt_g]
  unfold srt
  rw [Bool.eq_iff_iff]
  simp
theorem ks_range (ks : List RD) : ks = (List.range ks.length).map (gR ks) := by
  refine List.ext_getElem (by simp) fun i h1 h2 => ?_
  rw [List.getElem_map, List.getElem_range]
  unfold gR
  rw [List.getD_eq_getElem?_getD, List.getElem?_eq_getElem h1]
  rfl
theorem kinds_map (ks : List RD) (p : List Nat) : kinds (p.map (gR ks)) = p.map fun i => (gR ks i).k := by
  unfold kinds
  rw [List.map_map]
  rfl
theorem runs_pat (ks : List RD) (p : List Nat) : runsL (kinds (p.map (gR ks))) = (runsG (patM (sgR ks)) p).map (·.map fun i => (gR ks i).k) := by
  rw [runsL_G, kinds_map, runsG_map, ← mH_pat]
theorem lines_pat (ks : List RD) (p : List Nat) : linesL (kinds (p.map (gR ks))) = (prsG (patM (sgR ks)) p).map fun z => lineOf (gR ks z.1).k (gR ks z.2).k := by
  rw [linesL_G, kinds_map, prsG_map, List.map_map, ← mH_pat]
  rfl
def nearR (ks : List RD) : List (List RD) := (permsG ks.length ks).filter fun js => (linesL (kinds js)).isPerm (linesL (kinds ks))
theorem g_in {ks : List RD} {i : Nat} (h : i < ks.length) : gR ks i = ks[i] := by
  unfold gR
  rw [List.getD_eq_getElem?_getD, List.getElem?_eq_getElem h]
  rfl
theorem g_inj {ks : List RD} (nd : ((kinds ks).map HD.nm).Nodup) {i j : Nat} (hi : i < ks.length) (hj : j < ks.length) (e : (gR ks i).k.nm = (gR ks j).k.nm) : i = j := by
  rw [g_in hi, g_in hj] at e
  have l1 : i < ((kinds ks).map HD.nm).length := by unfold kinds; simpa using hi
  have l2 : j < ((kinds ks).map HD.nm).length := by unfold kinds; simpa using hj
  have g : ((kinds ks).map HD.nm)[i] = ((kinds ks).map HD.nm)[j] := by
    rw [List.getElem_map, List.getElem_map]
    unfold kinds
    rw [List.getElem_map, List.getElem_map]
    exact e
  rcases Nat.lt_trichotomy i j with lt | eq | gt
  · exact absurd g ((List.pairwise_iff_getElem.mp nd) i j l1 l2 lt)
  · exact eq
  · exact absurd g.symm ((List.pairwise_iff_getElem.mp nd) j i l2 l1 gt)
theorem srt_le (r : RD) : srt r ≤ 2 := by
  unfold srt sortN
  split
  · omega
  · split <;> omega
theorem sg_check {ks : List RD} (few : ks.length ≤ 5) : checkB ks.length (permsG ks.length (List.range ks.length)) (sgR ks) = true := by
  refine check_at few ?_
  have := pats_mem (sgR ks) fun c hc => by
    obtain ⟨r, _, rfl⟩ := List.mem_map.mp hc
    exact srt_le r
  unfold sgR at this ⊢
  rwa [List.length_map] at this
theorem perms_map (ks : List RD) : permsG ks.length ks = (permsG ks.length (List.range ks.length)).map (·.map (gR ks)) := (congrArg (permsG ks.length) (ks_range ks)).trans (permsG_map _ _ _)
theorem near_map {ks : List RD} (hR : AllR ks) (nd : ((kinds ks).map HD.nm).Nodup) (few : ks.length ≤ 5) : nearR ks = ((permsG ks.length (List.range ks.length)).filter (orderB (patM (sgR ks)))).map (·.map (gR ks)) := by
  unfold nearR
  rw [perms_map, List.filter_map]
  congr 1
  refine List.filter_congr fun p hp => ?_
  have ch := sg_check few
  unfold checkB at ch
  rw [Bool.and_eq_true] at ch
  have pr := permsG_perm ks.length (List.range ks.length) List.length_range p hp
  have lt : ∀ a ∈ p, a < ks.length := fun a ha => List.mem_range.mp (pr.mem_iff.mp ha)
  have lk : linesL (kinds ks) = (prsG (patM (sgR ks)) (List.range ks.length)).map fun z => lineOf (gR ks z.1).k (gR ks z.2).k := (congrArg (fun x => linesL (kinds x)) (ks_range ks)).trans (lines_pat ks _)
  have lp := lines_pat ks p
  show (linesL (kinds (p.map (gR ks)))).isPerm (linesL (kinds ks)) = _
  rw [lk, lp, Bool.eq_iff_iff, List.isPerm_iff]
  constructor
  · intro h
    refine orderB_of p fun z hz => ?_
    have m : lineOf (gR ks z.1).k (gR ks z.2).k ∈ (prsG (patM (sgR ks)) p).map fun z => lineOf (gR ks z.1).k (gR ks z.2).k := List.mem_map.mpr ⟨z, hz, rfl⟩
    obtain ⟨y, hy, e⟩ := List.mem_map.mp (h.mem_iff.mp m)
    have z1 := prsG_in p z hz
    have y1 := prsG_in _ y hy
    have a1 := lt _ z1.1
    have a2 := lt _ z1.2
    have b1 := List.mem_range.mp y1.1
    have b2 := List.mem_range.mp y1.2
    have po : ∀ i, i < ks.length → (gR ks i).k.nm ∈ pool11 := fun i hi => by
      rw [g_in hi]
      exact rds_pool _ (hR _ (List.getElem_mem hi))
    obtain ⟨e1, e2⟩ := line_inj (po _ b1) (po _ b2) (po _ a1) (po _ a2) e
    have q := prsG_pw (R := fun a b => a < b) _ List.pairwise_lt_range y hy
    rw [← g_inj nd b1 a1 e1, ← g_inj nd b2 a2 e2]
    exact q
  · intro h
    have := List.all_eq_true.mp ch.2 p (List.mem_filter.mpr ⟨hp, h⟩)
    rw [Bool.and_eq_true, List.isPerm_iff] at this
    exact this.1.map _
theorem facN_fac : ∀ n, facN n = fac n
  | 0 => rfl
  | n + 1 => by
    rw [fac_succ, ← facN_fac n]
    rfl
theorem asc_lens {gs : List (List HD)} {yss : List (List Str)} (asc : AscR gs yss) (nd : ∀ g ∈ gs, (g.map HD.nm).Nodup) : yss.map List.length = gs.map List.length := by
  refine List.ext_getElem? fun i => ?_
  rw [List.getElem?_map, List.getElem?_map]
  cases e1 : yss[i]? with
  | none =>
    have : yss.length ≤ i := List.getElem?_eq_none_iff.mp e1
    rw [List.getElem?_eq_none (by rw [← asc.len]; exact this)]
    rfl
  | some y =>
    have hi : i < gs.length := by rw [← asc.len]; exact (List.getElem?_eq_some_iff.mp e1).1
    have e2 := List.getElem?_eq_getElem hi
    rw [e2]
    have p := (asc_perm (nd _ (List.getElem_mem hi)) (asc.is i _ y e2 e1)).length_eq
    rw [List.length_map] at p
    show some y.length = some gs[i].length
    rw [p]
/-- how many -/
theorem near_len {ks : List RD} {yss : List (List Str)} (hR : AllR ks) (nd : ((kinds ks).map HD.nm).Nodup) (few : ks.length ≤ 5) (asc : AscR (runsL (kinds ks)) yss) : (nearR ks).length = manyL yss := by
  rw [near_map hR nd few, List.length_map]
  have ch := sg_check few
  unfold checkB at ch
  rw [Bool.and_eq_true, beq_iff_eq] at ch
  rw [ch.1]
  have l := asc_lens asc (runs_nd nd)
  have rk : runsL (kinds ks) = (runsG (patM (sgR ks)) (List.range ks.length)).map (·.map fun i => (gR ks i).k) := (congrArg (fun x => runsL (kinds x)) (ks_range ks)).trans (runs_pat ks _)
  rw [rk, List.map_map] at l
  have e1 : manyL yss = (yss.map List.length).foldl (fun m l => m * fac l) 1 := by
    unfold manyL
    rw [List.foldl_map]
  have e2 : (runsG (patM (sgR ks)) (List.range ks.length)).foldl (fun m y => m * facN y.length) 1 = ((runsG (patM (sgR ks)) (List.range ks.length)).map List.length).foldl (fun m l => m * fac l) 1 := by
    rw [List.foldl_map]
    have : (fun (m : Nat) (y : List Nat) => m * facN y.length) = fun m y => m * fac y.length := funext fun m => funext fun y => by rw [facN_fac]
    rw [this]
  rw [e1, e2, l]
  congr 1
  refine List.map_congr_left fun g _ => ?_
  show g.length = (g.map _).length
  rw [List.length_map]
theorem near_perm {ks js : List RD} (h : js ∈ nearR ks) : js.Perm ks := permsG_perm _ _ rfl js (List.mem_filter.mp h).1
/-- the same runs, up to order within -/
theorem near_asc {ks js : List RD} {yss : List (List Str)} (hR : AllR ks) (nd : ((kinds ks).map HD.nm).Nodup) (few : ks.length ≤ 5) (h : js ∈ nearR ks) (asc : AscR (runsL (kinds js)) yss) : AscR (runsL (kinds ks)) yss := by
  rw [near_map hR nd few] at h
  obtain ⟨p, hp, rfl⟩ := List.mem_map.mp h
  have ch := sg_check few
  unfold checkB at ch
  rw [Bool.and_eq_true] at ch
  have := List.all_eq_true.mp ch.2 p hp
  rw [Bool.and_eq_true] at this
  have rk : runsL (kinds ks) = (runsG (patM (sgR ks)) (List.range ks.length)).map (·.map fun i => (gR ks i).k) := (congrArg (fun x => runsL (kinds x)) (ks_range ks)).trans (runs_pat ks _)
  rw [runs_pat] at asc
  rw [rk]
  have zl := zipP_len this.2
  refine ⟨by rw [asc.len, List.length_map, List.length_map, zl], fun i g y e1 e2 => ?_⟩
  rw [List.getElem?_map] at e1
  cases e3 : (runsG (patM (sgR ks)) (List.range ks.length))[i]? with
  | none => rw [e3] at e1; cases e1
  | some q =>
    rw [e3] at e1
    cases e1
    have hi : i < (runsG (patM (sgR ks)) p).length := by rw [zl]; exact (List.getElem?_eq_some_iff.mp e3).1
    have e4 := List.getElem?_eq_getElem hi
    have pm := zipP_at this.2 i _ q e4 e3
    have a := asc.is i _ y (by rw [List.getElem?_map, e4]; rfl) e2
    exact ⟨a.nd, a.so, fun z => (a.mem z).trans (((pm.map _).map _).mem_iff)⟩
theorem near_norm {ks js : List RD} {k1 k2 : List HD} (hR : AllR ks) (nd : ((kinds ks).map HD.nm).Nodup) (few : ks.length ≤ 5) (h : js ∈ nearR ks) (h1 : NormOf (kinds js) k1) (h2 : NormOf (kinds ks) k2) : k1 = k2 := by
  obtain ⟨yss, asc, en, sub⟩ := h1
  refine norm_one nd ⟨yss, near_asc hR nd few h asc, en, fun k hk => ?_⟩ h2
  exact (((near_perm h).map RD.k).mem_iff).mp (sub k hk)
end My
namespace My
open PySem PySem.Spec PyProof.Rows L2
/-! ### all orders -/
structure RwsL (H : Hp) (ls : List Addr) (jss : List (List RD)) : Prop where
  len : ls.length = jss.length
  is : ∀ (i : Nat) (l : Addr) (js : List RD), ls[i]? = some l → jss[i]? = some js → RowL H l js
theorem RwsL.nil {H : Hp} : RwsL H [] [] := ⟨rfl, fun i a k e => by simp at e⟩
theorem RwsL.keep {H H' : Hp} {ls : List Addr} {jss : List (List RD)} (h : RwsL H ls jss) (s : Same' H H') : RwsL H' ls jss := ⟨h.len, fun i l js e1 e2 => (h.is i l js e1 e2).keep s⟩
theorem RowL.upd {H : Hp} {l D : Addr} {js : List RD} {xs ys : List V} (h : RowL H l js) (n : l ≠ D) (e : H D = some (.lst xs)) : RowL (upd H D (.lst ys)) l js :=
  let ⟨rs, el, r⟩ := h.ex
  ⟨rs, by rw [upd_ne n]; exact el, r.to fun b zs e' => by rw [upd_ne (fun z => by rw [z, e] at e'; cases e')]; exact e'⟩
theorem RwsL.upd {H : Hp} {D : Addr} {ls : List Addr} {jss : List (List RD)} {xs ys : List V} (h : RwsL H ls jss) (n : ∀ l ∈ ls, l ≠ D) (e : H D = some (.lst xs)) : RwsL (upd H D (.lst ys)) ls jss :=
  ⟨h.len, fun i l js e1 e2 => (h.is i l js e1 e2).upd (n l (List.mem_of_getElem? e1)) e⟩
theorem RwsL.add {H : Hp} {ls : List Addr} {jss : List (List RD)} {l : Addr} {js : List RD} (h : RwsL H ls jss) (e : RowL H l js) : RwsL H (ls ++ [l]) (jss ++ [js]) := by
  refine ⟨by rw [List.length_append, List.length_append, h.len]; rfl, fun i b y e1 e2 => ?_⟩
  rcases Nat.lt_or_ge i ls.length with lt | ge
  · rw [List.getElem?_append_left lt] at e1
    rw [List.getElem?_append_left (by rw [← h.len]; exact lt)] at e2
    exact h.is i b y e1 e2
  · rw [List.getElem?_append_right ge] at e1
    rw [List.getElem?_append_right (by rw [← h.len]; exact ge), ← h.len] at e2
    cases hj : i - ls.length with
    | zero =>
      rw [hj] at e1 e2
      cases e1
      cases e2
      exact e
    | succ j =>
      rw [hj] at e1
      simp at e1
theorem RwsL.app {H : Hp} {ls ls2 : List Addr} {jss jss2 : List (List RD)} (h : RwsL H ls jss) (h2 : RwsL H ls2 jss2) : RwsL H (ls ++ ls2) (jss ++ jss2) := by
  refine ⟨by rw [List.length_append, List.length_append, h.len, h2.len], fun i b y e1 e2 => ?_⟩
  rcases Nat.lt_or_ge i ls.length with lt | ge
  · rw [List.getElem?_append_left lt] at e1
    rw [List.getElem?_append_left (by rw [← h.len]; exact lt)] at e2
    exact h.is i b y e1 e2
  · rw [List.getElem?_append_right ge] at e1
    rw [List.getElem?_append_right (by rw [← h.len]; exact ge), ← h.len] at e2
    exact h2.is _ b y e1 e2
theorem RwsL.at {H : Hp} {ls : List Addr} {jss : List (List RD)} (h : RwsL H ls jss) {i : Nat} {x : V} (e : (ls.map V.ref)[i]? = some x) : ∃ a js, ls[i]? = some a ∧ jss[i]? = some js ∧ x = .ref a ∧ RowL H a js := by
  rw [List.getElem?_map] at e
  cases ea : ls[i]? with
  | none => rw [ea] at e; cases e
  | some a =>
    rw [ea] at e
    have hi : i < jss.length := by
      have := (List.getElem?_eq_some_iff.mp ea).1
      rw [h.len] at this
      exact this
    exact ⟨a, jss[i], rfl, List.getElem?_eq_getElem hi, (Option.some.inj e).symm, h.is i a _ ea (List.getElem?_eq_getElem hi)⟩
/-- a list of lists of rows -/
def ListsL (H : Hp) (d : Addr) (jss : List (List RD)) : Prop := ∃ ls, H d = some (.lst (ls.map V.ref)) ∧ RwsL H ls jss
theorem ListsL.keep {H H' : Hp} {d : Addr} {jss : List (List RD)} (h : ListsL H d jss) (s : Same' H H') : ListsL H' d jss := let ⟨ls, e, r⟩ := h; ⟨ls, s _ _ e, r.keep s⟩
theorem Rws.take {H : Hp} {rs : List Addr} {ks : List RD} (h : Rws H rs ks) (n : Nat) : Rws H (rs.take n) (ks.take n) := by
  refine ⟨by rw [List.length_take, List.length_take, h.len], fun i a k e1 e2 => ?_⟩
  rw [List.getElem?_take] at e1 e2
  split at e1
  · rename_i lt
    rw [if_pos lt] at e2
    exact h.is i a k e1 e2
  · cases e1
theorem Rws.drop {H : Hp} {rs : List Addr} {ks : List RD} (h : Rws H rs ks) (n : Nat) : Rws H (rs.drop n) (ks.drop n) := by
  refine ⟨by rw [List.length_drop, List.length_drop, h.len], fun i a k e1 e2 => ?_⟩
  rw [List.getElem?_drop] at e1 e2
  exact h.is _ a k e1 e2
/-- the orders that begin with one of the first i -/
def partG {α : Type} (n : Nat) (xs : List α) (i : Nat) : List (List α) := (List.range i).flatMap fun i => match xs[i]? with
  | none => []
  | some x => (permsG n (xs.take i ++ xs.drop (i + 1))).map (x :: ·)
theorem partG_step {α : Type} {n : Nat} {xs : List α} {i : Nat} {x : α} (h : xs[i]? = some x) : partG n xs (i + 1) = partG n xs i ++ (permsG n (xs.take i ++ xs.drop (i + 1))).map (x :: ·) := by
  unfold partG
  rw [List.range_succ, List.flatMap_append, List.flatMap_singleton, h]
theorem permsG_len {α : Type} : ∀ (n : Nat) (xs : List α), xs.length = n → (permsG n xs).length = facN n
  | 0, xs, h => rfl
  | n + 1, xs, h => by
    have key : ∀ i, i ≤ xs.length → (partG n xs i).length = i * facN n := by
      intro i
      induction i with
      | zero => intro _; rw [Nat.zero_mul]; rfl
      | succ i ih =>
        intro hi
        have hi' : i < xs.length := hi
        rw [partG_step (List.getElem?_eq_getElem hi'), List.length_append, ih (by omega), List.length_map, permsG_len n _ (by rw [List.length_append, List.length_take, List.length_drop]; omega), Nat.succ_mul]
    show (partG n xs xs.length).length = facN n * (n + 1)
    rw [key _ (Nat.le_refl _), h, Nat.mul_comm]
theorem partG_le {α : Type} {n : Nat} {xs : List α} (h : xs.length = n + 1) : ∀ i, i ≤ xs.length → (partG n xs i).length ≤ facN (n + 1) := by
  intro i
  induction i with
  | zero => intro _; exact Nat.zero_le _
  | succ i ih =>
    intro hi
    have : ∀ j, j ≤ xs.length → (partG n xs j).length = j * facN n := by
      intro j
      induction j with
      | zero => intro _; rw [Nat.zero_mul]; rfl
      | succ j ih2 =>
        intro hj
        have hj' : j < xs.length := hj
        rw [partG_step (List.getElem?_eq_getElem hj'), List.length_append, ih2 (by omega), List.length_map, permsG_len n _ (by rw [List.length_append, List.length_take, List.length_drop]; omega), Nat.succ_mul]
    rw [this _ hi]
    show _ ≤ facN n * (n + 1)
    rw [Nat.mul_comm]
    exact Nat.mul_le_mul_left _ (by omega)
def spAll (n : Nat) : Sp := fun vs H Q _ => ∃ (l : Addr) (ks : List RD), vs = [.ref l] ∧ RowL H l ks ∧ ks.length = n ∧ n ≤ 5 ∧ ∀ (d : Addr) (H' : Hp), Same' H H' → ListsL H' d (permsG n ks) → Q (.ref d) H'
section
variable {P : Program} {w : World} {K : PySem.W.Frag} {mg : Str → Option Value} {base : Heap}
abbrev nAl : List Str := ["_law_rows_here", "_law_found", "_law_at", "_law_row", "_law_rest"]
theorem scAl : FnScope nAl ["_law_rows_here"] (defScope sAll) := ⟨rfl, rfl, rfl, by decide +kernel, rfl, by decide +kernel, by decide +kernel⟩
abbrev XAl (P : Program) (w : World) (K : PySem.W.Frag) (mg : Str → Option Value) (base : Heap) (f : Addr) (cdv : Value) (A : Around) (outer : List Env) (s : Shared) (H : Hp) (E : XK) : Cx := (cxOf CX0 P w K mg base nAl "_law_all" (defScope sAll) f cdv A outer s H E).nox
theorem ok_all0 {f : Addr} {fd : FuncData} (F : Fun K "_law_all" "_law_all" sAll f fd) : FnOk P w K mg base CX0 1 f fd ["_law_rows_here"] (spAll 0) := by
  refine F.ok scAl (fun vs H Q E h => ?_) (fun cdv A0 outer s H vs Q E hr h => ?_)
  · obtain ⟨l, ks, rfl, _⟩ := h
    rfl
  · obtain ⟨l, ks, rfl, ⟨rs, el, rw0⟩, kl, _, q⟩ := h
    have hu : (XAl P w K mg base f cdv A0 outer s H E).A.units < cLine := by
      have h := hr.un
      show (A0.deeper _).units < cLine
      omega
    refine ⟨_, pss_cons (ps_if (pt_cmpR (op_eqNil hu) (pv 0) (pe_lst pa_nil) (nomark _)) (pss_one (ps_ret (pe_lst (pa_cons (pe_lst pa_nil) pa_nil)))) pss_nil) pss_never, ?_⟩
    refine ⟨.ref l, rfl, by show 0 ≤ sizeLine; decide, fun e he => ?_⟩
    have s0 := same_new (o := .lst []) he
    have r0 : rs = [] := List.length_eq_zero_iff.mp (by rw [rw0.len, kl])
    subst r0
    refine ⟨l, e, [], rfl, rfl, s0 _ _ el, upd_same, true, rfl, iteT ?_⟩
    refine ⟨by show 0 ≤ sizeLine; decide, fun u hu => ⟨by show 1 ≤ sizeLine; decide, fun d hd => ?_⟩⟩
    have s1 := same_new (o := .lst []) hu
    have s2 := same_new (o := .lst [V.ref u]) hd
    exact q d _ (s0.trans (s1.trans s2)) ⟨[u], upd_same, RwsL.nil.add (js := []) ⟨[], s2 _ _ upd_same, Rws.nil⟩⟩
theorem ok_allS {f : Addr} {fd : FuncData} {n : Nat} (F : Fun K "_law_all" "_law_all" sAll f fd) (b : Binds K fd ["_law_rows_here"] []) (g : mg "_law_all" = some (.ref f)) (T : Txt mg) (G : FnOk P w K mg base CX0 (n + 1) f fd ["_law_rows_here"] (spAll n)) : FnOk P w K mg base CX0 (n + 2) f fd ["_law_rows_here"] (spAll (n + 1)) := by
  refine F.ok scAl (fun vs H Q E h => ?_) (fun cdv A0 outer s H vs Q E hr h => ?_)
  · obtain ⟨l, ks, rfl, _⟩ := h
    rfl
  · obtain ⟨l, ks, rfl, ⟨rs, el, rw0⟩, kl, n5, q⟩ := h
    have hu : (XAl P w K mg base f cdv A0 outer s H E).A.units < cLine := by
      have h := hr.un
      show (A0.deeper _).units < cLine
      omega
    refine ⟨_, pss_cons (ps_if (pt_cmpR (op_eqNil hu) (pv 0) (pe_lst pa_nil) (nomark _)) (pss_one (ps_ret (pe_lst (pa_cons (pe_lst pa_nil) pa_nil)))) pss_nil)
      (pss_cons (ps_set (i := 1) scAl.nd rfl (.inl rfl) (pe_lst pa_nil))
      (pss_cons (ps_for PassesOwn.never rfl (pi_enum (by rfl) T.enum (pa_cons (pv 0) pa_nil)) (pg_tup (n := 2) rfl (pgs_cons (pg_name (i := 2) scAl.nd rfl (.inl rfl)) (pgs_cons (pg_name (i := 3) scAl.nd rfl (.inr rfl)) pgs_nil)))
        (pss_one (ps_set (i := 1) scAl.nd rfl (.inl rfl) (pe_op op_cat (pv 1) (pe_lc (own := [("_law_rest", 4)]) (g := gName 4) (tt := tYes) rfl scAl.nd (pi_list (pe_call G hr (by rfl) g F.kp b .nil pass0 (pa_cons (pe_op op_cat (pe_slice sl_list (pv 0) po_none (po_some (pv 2))) (pe_slice sl_list (pv 0) (po_some (pe_op op_add (pv 2) pe_int)) po_none)) pa_nil)))
          (blkOk_by (N := nAl) (sc := defScope sAll) (by decide +kernel)) (fun _ _ _ _ _ => pg_name (i := 4) scAl.nd rfl (Or.inl rfl)) (fun _ _ _ _ _ => pts_nil)
          (fun _ _ _ _ _ => pe_op op_cat (pe_lst (pa_cons (pv 3) pa_nil)) (pv 4)))))))
      (pss_one (ps_ret (pv 1))))), ?_⟩
    refine ⟨.ref l, rfl, by show 0 ≤ sizeLine; decide, fun e he => ?_⟩
    have s0 := same_new (o := .lst []) he
    have rne : (rs.map V.ref).isEmpty = false := by
      cases rs with
      | nil => have := rw0.len; rw [kl] at this; cases this
      | cons _ _ => rfl
    refine ⟨l, e, _, rfl, rfl, s0 _ _ el, upd_same, false, by rw [rne]; rfl, iteF ?_⟩
    refine ⟨by show 0 ≤ sizeLine; decide, fun fa hfa => ?_⟩
    have s1 := s0.trans (same_new (o := .lst []) hfa)
    have efa : (upd (upd H e (.lst [])) fa (.lst [])) fa = some (.lst []) := upd_same
    generalize upd (upd H e (.lst [])) fa (.lst []) = H1 at s1 efa ⊢
    refine ⟨.ref l, rfl, l, rs.map V.ref, rfl, SqL.of (s1 _ _ el), ?_⟩
    have f5 : facN (n + 1) ≤ 120 := by
      have : n ≤ 4 := by omega
      match n, this with
      | 0, _ => decide
      | 1, _ => decide
      | 2, _ => decide
      | 3, _ => decide
      | 4, _ => decide
    refine for_it (walk_enum (K := K) (a := l) (xs := rs.map V.ref)) (fun i σ H' => Same' H H' ∧ ∃ (fa : Addr) (ls : List Addr) (z2 z3 : Option V), σ = [some (.ref l), some (.ref fa), z2, z3, none] ∧ H' fa = some (.lst (ls.map V.ref)) ∧ RwsL H' ls (partG n ks i)) ⟨s1, fa, [], none, none, rfl, efa, RwsL.nil⟩ (fun i σ H' _ hp => SqL.of (hp.1 _ _ el)) (fun i x σ H1 H2 hi hp hy => ?_) (fun σ H1 hp => ?_)
    · obtain ⟨sm, fa, ls, z2, z3, rfl, ef, rl⟩ := hp
      obtain ⟨tt, v1, v2, rfl, htt, rfl, e1, e2⟩ := hy
      injection e1 with e1
      subst e1
      obtain ⟨t, k, et, ek, rfl, ht⟩ := (rw0.keep sm).at e2
      have st := same_new (o := .tup [V.int (i : Int), V.ref t]) htt
      refine ⟨tt, _, rfl, SqT.of upd_same, rfl, _, _, rfl, _, _, rfl, rfl, ?_⟩
      have sm2 := sm.trans st
      have ht2 := st _ _ ht
      have ef2 := st _ _ ef
      have rl2 := rl.keep st
      generalize upd H1 tt (.tup [V.int (i : Int), V.ref t]) = H3 at *
      refine ⟨.ref fa, rfl, .ref l, rfl, .int (i : Int), rfl, (i : Int), rfl, l, _, rfl, SqL.of (sm2 _ _ el), fun u1 hu1 => ?_⟩
      rw [cut_to, ← List.map_take] at *
      have t1 := same_new (o := .lst ((rs.take i).map V.ref)) hu1
      have e1 : (upd H3 u1 (.lst ((rs.take i).map V.ref))) u1 = some (.lst ((rs.take i).map V.ref)) := upd_same
      generalize upd H3 u1 (.lst ((rs.take i).map V.ref)) = H4 at *
      refine ⟨.ref l, rfl, .int (i : Int), rfl, _, _, rfl, rfl, _, rfl, l, _, rfl, SqL.of (t1 _ _ (sm2 _ _ el)), fun u2 hu2 => ?_⟩
      have up : ((i : Int) + 1) = ((i + 1 : Nat) : Int) := by omega
      rw [up, cut_from, ← List.map_drop] at *
      have t2 := same_new (o := .lst ((rs.drop (i + 1)).map V.ref)) hu2
      have e2 : (upd H4 u2 (.lst ((rs.drop (i + 1)).map V.ref))) u2 = some (.lst ((rs.drop (i + 1)).map V.ref)) := upd_same
      have e1 := t2 _ _ e1
      generalize upd H4 u2 (.lst ((rs.drop (i + 1)).map V.ref)) = H5 at *
      refine ⟨u1, u2, _, _, rfl, rfl, e1, e2, ?_, fun u3 hu3 => ?_⟩
      · rw [List.length_map, List.length_map, List.length_take, List.length_drop, rw0.len, sizeLine_eq]
        omega
      rw [← List.map_append] at *
      have t3 := same_new (o := .lst ((rs.take i ++ rs.drop (i + 1)).map V.ref)) hu3
      have e3 : (upd H5 u3 (.lst ((rs.take i ++ rs.drop (i + 1)).map V.ref))) u3 = some (.lst ((rs.take i ++ rs.drop (i + 1)).map V.ref)) := upd_same
      generalize upd H5 u3 (.lst ((rs.take i ++ rs.drop (i + 1)).map V.ref)) = H6 at *
      have t36 := t1.trans (t2.trans t3)
      have sm6 := sm2.trans t36
      have ki : i < ks.length := (List.getElem?_eq_some_iff.mp ek).1
      refine ⟨u3, ks.take i ++ ks.drop (i + 1), rfl, ⟨_, e3, ((rw0.keep sm6).take i).app ((rw0.keep sm6).drop (i + 1))⟩, by rw [List.length_append, List.length_take, List.length_drop]; omega, by omega, fun dd H7 s7 ⟨l2, ed, r7⟩ => ?_⟩
      have t7 := t36.trans s7
      have sm7 := sm6.trans s7
      have ht7 := t7 _ _ ht2
      have ef7 := t7 _ _ ef2
      have rl7 := rl2.keep t7
      have stp := partG_step (n := n) ek
      have tot := partG_le (n := n) kl (i + 1) (by omega)
      rw [stp, List.length_append, List.length_map] at tot
      rw [stp]
      have rr : ∀ (j : Nat) (a : Addr) (js : List RD), l2[j]? = some a → (permsG n (ks.take i ++ ks.drop (i + 1)))[j]? = some js → ∃ rs : List Addr, H7 a = some (.lst (rs.map V.ref)) ∧ Rws H7 rs js := fun j a js h1 h2 => (r7.is j a js h1 h2).ex
      have pl : ∀ js ∈ permsG n (ks.take i ++ ks.drop (i + 1)), js.length ≤ 5 := fun js hj => by
        rw [(permsG_perm n _ (by rw [List.length_append, List.length_take, List.length_drop]; omega) js hj).length_eq, List.length_append, List.length_take, List.length_drop]
        omega
      generalize permsG n (ks.take i ++ ks.drop (i + 1)) = PP at *
      refine ⟨dd, rfl, ⟨_, SqL.of ed⟩, fun D hD => ?_⟩
      refine lc_it (walk_list (K := K) (a := dd) (xs := l2.map V.ref)) (fun j H' => Same' H7 H' ∧ ∃ (cs : List Addr), H' D = some (.lst (cs.map V.ref)) ∧ (∀ c ∈ cs, c ≠ D) ∧ RwsL H' cs ((PP.take j).map (k :: ·))) ⟨same_new hD, [], upd_same, (fun c h => nomatch h), RwsL.nil⟩ (fun j H' _ hp => SqL.of (hp.1 _ _ ed)) (fun j x H8 H9 hj hp hx => ?_) (fun H8 hp => ?_)
      · obtain ⟨s8, cs, ec, nc, rc⟩ := hp
        obtain ⟨rfl, e4⟩ := hx
        obtain ⟨a, js, ea, ej, rfl, hrow⟩ := (r7.keep s8).at e4
        obtain ⟨qs, eq, rq⟩ := rr j a js ea ej
        have jl := pl js (List.mem_of_getElem? ej)
        refine ⟨rfl, ⟨.ref t, rfl, by show 1 ≤ sizeLine; decide, fun v hv => ?_⟩⟩
        have s9 := same_new (o := .lst [V.ref t]) hv
        refine ⟨.ref a, rfl, v, a, _, _, rfl, rfl, upd_same, s9 _ _ (s8 _ _ eq), ?_, fun w hw => ?_⟩
        · rw [List.length_map, rq.len, sizeLine_eq]
          show 1 + _ ≤ _
          omega
        have s10 := s9.trans (same_new (o := .lst ([V.ref t] ++ qs.map V.ref)) hw)
        have wD : w ≠ D := (ne_of_none (s9 _ _ ec) hw).symm
        have ew : (upd (upd H9 v (.lst [V.ref t])) w (.lst ([V.ref t] ++ qs.map V.ref))) w = some (.lst ((t :: qs).map V.ref)) := upd_same
        generalize upd (upd H9 v (.lst [V.ref t])) w (.lst ([V.ref t] ++ qs.map V.ref)) = H10 at *
        have ec10 := s10 _ _ ec
        have cl := rc.len
        rw [List.length_map, List.length_take] at cl
        have rw10 : Rws H10 (t :: qs) (k :: js) := (Rws.nil.add (k := k) ((s8.trans s10) _ _ ht7)).app (rq.keep (s8.trans s10))
        have row10 : RowL H10 w (k :: js) := ⟨t :: qs, ew, rw10⟩
        refine ⟨_, ec10, ?_, same_over hD (s8.trans s10), cs ++ [w], by rw [upd_same, List.map_append]; rfl, fun c hc => ?_, ?_⟩
        · rw [List.length_map, sizeLine_eq]
          omega
        · rcases List.mem_append.mp hc with h | h
          · exact nc c h
          · rw [List.mem_singleton.mp h]; exact wD
        · rw [List.take_add_one, ej, List.map_append]
          exact ((rc.keep s10).upd nc ec10).add (row10.upd wD ec10)
      · obtain ⟨s8, cs, ec, nc, rc⟩ := hp
        rw [List.take_of_length_le (by rw [List.length_map, r7.len]; exact Nat.le_refl _)] at rc
        have cl := rc.len
        rw [List.length_map] at cl
        have ll := rl7.len
        refine ⟨fa, D, _, _, rfl, rfl, s8 _ _ ef7, ec, by rw [List.length_map, List.length_map, cl, ll, sizeLine_eq]; omega, fun D2 hD2 => ?_⟩
        rw [← List.map_append] at *
        have s9 := same_new (o := .lst ((ls ++ cs).map V.ref)) hD2
        exact ⟨sm7.trans (s8.trans s9), D2, ls ++ cs, _, _, rfl, upd_same, ((rl7.keep s8).app rc).keep s9⟩
    · obtain ⟨sm, fa, ls, z2, z3, rfl, ef, rl⟩ := hp
      rw [List.length_map, rw0.len] at rl
      exact ⟨.ref fa, rfl, q fa _ sm ⟨ls, ef, rl⟩⟩
end
end My
namespace My
open PySem PySem.Spec PyProof.Rows L2
section
variable {P : Program} {w : World} {K : PySem.W.Frag} {mg : Str → Option Value} {base : Heap}
/-- a def by its body, the guards known, nothing raised -/
theorem okGn {x qual : Str} {st : Stmt} {f : Addr} {fd : FuncData} {N ps : List Str} {k : Nat} {sp : Sp} (F : Fun K x qual st f fd) (S : FnScope N ps (defScope st)) (len : ∀ vs H Q E, sp vs H Q E → vs.length = ps.length)
    (body : ∀ (cdv : Value) (A : Around) (outer : List Env) (s : Shared) (H : Hp) (vs : List V) (Q : VK) (E : XK), Room k (A.deeper (envOfC qual (defScope st) s.heap.objs.size f cdv)) → (A.deeper (envOfC qual (defScope st) s.heap.objs.size f cdv)).guards = some [] → sp vs H Q E →
      ∃ t, PSs (cxOf CX0 P w K mg base N qual (defScope st) f cdv A outer s H E).nox (defBody st) t ∧ t { nx := fun _ H' => Q .non H', rt := Q } (start N vs) H) : FnG P w K mg base CX0 (k + 1) f fd ps sp :=
  okG F S len fun cdv A outer s H vs Q E hr hg h => let ⟨t, ht, hq⟩ := body cdv A outer s H vs Q E hr hg h; ⟨t, ht.nox, hq⟩
structure FnBG (P : Program) (w : World) (K : PySem.W.Frag) (mg : Str → Option Value) (base : Heap) (k : Nat) (x : Str) (f : Addr) (fd : FuncData) (ps : List Str) (sp : Sp) : Prop where
  kp : PySem.W.keepIn K (.ref f) = true
  b : Binds K fd ps []
  g : mg x = some (.ref f)
  G : FnG P w K mg base CX0 k f fd ps sp
end
/-! ### what is shown, what is compared -/
def dT (ys : List Str) : PyData := .tuple (ys.map .str)
structure Shw (n m : Nat) (yss : List (List Str)) : Prop where
  n : yss.length ≤ n
  m : ∀ ys ∈ yss, ys.length ≤ m ∧ ∀ z ∈ ys, z.length ≤ 8 ∧ PyData.strOk z = true
theorem dTs {n m : Nat} : ∀ (yss : List (List Str)), Shw n m yss → PyData.showableAll (yss.map dT) = true ∧ PyData.leavesShortAll 8 (yss.map dT) = true ∧ PyData.depthAll (yss.map dT) ≤ 2 ∧ PyData.bulkAll (yss.map dT) ≤ yss.length * (m * 9 + 1) ∧ PyData.hasDictAll (yss.map dT) = false
  | [], _ => ⟨rfl, rfl, by decide, Nat.zero_le _, rfl⟩
  | ys :: yss, h => by
    obtain ⟨h1, h2, h3, h4, h5⟩ := dTs (n := yss.length) (m := m) yss ⟨Nat.le_refl _, fun y hy => h.m y (List.mem_cons_of_mem _ hy)⟩
    obtain ⟨hl, hz⟩ := h.m ys List.mem_cons_self
    have flat : ∀ zs : List Str, (∀ z ∈ zs, z.length ≤ 8 ∧ PyData.strOk z = true) → PyData.showableAll (zs.map .str) = true ∧ PyData.leavesShortAll 8 (zs.map .str) = true ∧ PyData.depthAll (zs.map .str) ≤ 0 ∧ PyData.bulkAll (zs.map .str) ≤ zs.length * 9 ∧ PyData.hasDictAll (zs.map .str) = false := by
      intro zs
      induction zs with
      | nil => intro _; exact ⟨rfl, rfl, Nat.le_refl _, Nat.zero_le _, rfl⟩
      | cons z zs ih =>
        intro hz
        obtain ⟨i1, i2, i3, i4, i5⟩ := ih fun y hy => hz y (List.mem_cons_of_mem _ hy)
        obtain ⟨z1, z2⟩ := hz z List.mem_cons_self
        have z3 : (z.cps.toList.all fun c => decide (c < 16 ^ 8)) = true := by
          unfold PyData.strOk at z2
          rw [List.all_eq_true]
          intro c hc
          have := Array.all_eq_true'.mp z2 c (by simpa using hc)
          simp only [decide_eq_true_eq] at this ⊢
          exact Nat.lt_trans this (by decide)
        have z4 : z.cps.size ≤ 8 := z1
        rw [List.map_cons]
        refine ⟨?_, ?_, ?_, ?_, ?_⟩
        · simp only [PyData.showableAll, PyData.showable, i1, Bool.and_self]
        · simp only [PyData.leavesShortAll, PyData.leavesShort, z3, i2, Bool.and_self]
        · simp only [PyData.depthAll, PyData.depth]
          omega
        · simp only [PyData.bulkAll, PyData.bulk, List.length_cons]
          omega
        · simp only [PyData.hasDictAll, PyData.hasDict, i5, Bool.or_self]
    obtain ⟨f1, f2, f3, f4, f5⟩ := flat ys hz
    rw [List.map_cons]
    refine ⟨?_, ?_, ?_, ?_, ?_⟩
    · simp only [PyData.showableAll, dT, PyData.showable, f1, h1, Bool.and_self]
    · simp only [PyData.leavesShortAll, dT, PyData.leavesShort, f2, h2, Bool.and_self]
    · simp only [PyData.depthAll, dT, PyData.depth]
      omega
    · simp only [PyData.bulkAll, dT, PyData.bulk, List.length_cons, Nat.succ_mul]
      have : ys.length * 9 ≤ m * 9 := Nat.mul_le_mul_right 9 hl
      omega
    · simp only [PyData.hasDictAll, dT, PyData.hasDict, f5, h5, Bool.or_self]
theorem shw_fine {n m : Nat} {yss : List (List Str)} (h : Shw n m yss) (b : n * (m * 9 + 1) ≤ 100000) : (Fine (.list (yss.map dT)) ∧ (PyData.list (yss.map dT)).hasDict = false) ∧ Fine (.tuple (yss.map dT)) ∧ (PyData.tuple (yss.map dT)).hasDict = false := by
  obtain ⟨h1, h2, h3, h4, h5⟩ := dTs yss h
  have hb : yss.length * (m * 9 + 1) ≤ n * (m * 9 + 1) := Nat.mul_le_mul_right _ h.n
  have s1 := PyData.shown_le_bulk 8 (Nat.le_refl _) (.list (yss.map dT)) (by simpa only [PyData.leavesShort] using h2)
  have s2 := PyData.shown_le_bulk 8 (Nat.le_refl _) (.tuple (yss.map dT)) (by simpa only [PyData.leavesShort] using h2)
  simp only [PyData.bulk] at s1 s2
  refine ⟨⟨⟨by simpa only [PyData.showable] using h1, by simp only [PyData.depth]; omega, by rw [sizeLine_eq]; omega⟩, by simpa only [PyData.hasDict] using h5⟩, ⟨by simpa only [PyData.showable] using h1, by simp only [PyData.depth]; omega, by rw [sizeLine_eq]; omega⟩, by simpa only [PyData.hasDict] using h5⟩
theorem dp_strs {K : PySem.W.Frag} {H : Hp} : ∀ ys : List Str, DpAll K H (ys.map V.str) (ys.map .str)
  | [] => .nil
  | y :: ys => .cons (.str y) (dp_strs ys)
theorem dp_dT {K : PySem.W.Frag} {H : Hp} {a : Addr} {ys : List Str} (h : H a = some (.tup (ys.map V.str))) : Dp K H (.ref a) (dT ys) := .tup (SqT.of h) (dp_strs ys)
theorem tups_dp {K : PySem.W.Frag} {H : Hp} : ∀ {ts : List Addr} {yss : List (List Str)}, TupsT H ts yss → DpAll K H (ts.map V.ref) (yss.map dT)
  | [], [], _ => .nil
  | [], _ :: _, h => absurd h.len (by simp)
  | _ :: _, [], h => absurd h.len (by simp)
  | t :: ts, y :: yss, h => .cons (dp_dT (h.is 0 t y rfl rfl)) (tups_dp ⟨by simpa using h.len, fun i b z e1 e2 => h.is (i + 1) b z (by simpa using e1) (by simpa using e2)⟩)
theorem lay_strs : ∀ zs : List Str, (∀ z ∈ zs, PyData.strOk z = true) → PyData.canLayAll0 (zs.map PyData.str) = true
  | [], _ => rfl
  | z :: zs, h => by
    rw [List.map_cons]
    simp [PyData.canLayAll0, PyData.canLay0, h z List.mem_cons_self, lay_strs zs fun y hy => h y (List.mem_cons_of_mem _ hy)]
theorem lay_tups : ∀ yss : List (List Str), (∀ ys ∈ yss, ∀ z ∈ ys, PyData.strOk z = true) → PyData.canLayAll0 (yss.map dT) = true
  | [], _ => rfl
  | ys :: yss, h => by
    rw [List.map_cons]
    simp [PyData.canLayAll0, dT, PyData.canLay0, lay_strs ys (h ys List.mem_cons_self), lay_tups yss fun y hy => h y (List.mem_cons_of_mem _ hy)]
theorem shw_shaped {n m : Nat} {yss : List (List Str)} (h : Shw n m yss) : SeqAt.shaped (.tuple (yss.map dT)) = true := by
  have h1 := lay_tups yss fun ys hy z hz => ((h.m ys hy).2 z hz).2
  have h2 := (dTs yss h).2.2.1
  unfold SeqAt.shaped
  rw [Bool.and_eq_true, decide_eq_true_eq]
  refine ⟨by simpa [PyData.canLay0] using h1, ?_⟩
  simp only [PyData.depth]
  omega
theorem eqvAll_strsD : ∀ ys zs : List Str, PyData.eqvAll (ys.map PyData.str) (zs.map PyData.str) = decide (ys = zs)
  | [], [] => by simp [PyData.eqvAll]
  | [], z :: zs => by simp [PyData.eqvAll]
  | y :: ys, [] => by simp [PyData.eqvAll]
  | y :: ys, z :: zs => by
    have := eqvAll_strsD ys zs
    rw [Bool.eq_iff_iff]
    simp [PyData.eqvAll, PyData.eqv, this]
theorem eqv_strsD (ys zs : List Str) : PyData.eqv (.list (ys.map PyData.str)) (.list (zs.map PyData.str)) = decide (ys = zs) := by
  have := eqvAll_strsD ys zs
  simp [PyData.eqv, this]
theorem strs_shaped {zs : List Str} (h : ∀ z ∈ zs, PyData.strOk z = true) : SeqAt.shaped (.list (zs.map PyData.str)) = true := by
  have h1 := lay_strs zs h
  have h2 : ∀ zs : List Str, PyData.depthAll (zs.map PyData.str) ≤ 0 := by
    intro zs
    induction zs with
    | nil => exact Nat.le_refl _
    | cons z zs ih =>
      rw [List.map_cons]
      simp only [PyData.depthAll, PyData.depth]
      omega
  have := h2 zs
  unfold SeqAt.shaped
  rw [Bool.and_eq_true, decide_eq_true_eq]
  refine ⟨by simpa [PyData.canLay0] using h1, ?_⟩
  simp only [PyData.depth]
  omega
end My
namespace My
open PySem PySem.Spec PyProof.Rows L2
/-! ### the normal of the normal -/
theorem insR_perm (fd : List RD) (r : RD) : (insR fd r).Perm (fd ++ [r]) := by
  unfold insR
  have : fd ++ [r] = fd.take (posN fd r fd.length) ++ fd.drop (posN fd r fd.length) ++ [r] := by rw [List.take_append_drop]
  rw [this, List.append_assoc, List.append_assoc]
  exact List.Perm.append_left _ List.perm_append_comm
theorem normR_perm (rs : List RD) : (normR rs).Perm rs := by
  have key : ∀ (rs fd : List RD), (rs.foldl insR fd).Perm (fd ++ rs) := by
    intro rs
    induction rs with
    | nil => intro fd; rw [List.append_nil]; exact .refl _
    | cons r rs ih =>
      intro fd
      refine (ih (insR fd r)).trans ?_
      have := (insR_perm fd r).append_right rs
      rwa [List.append_assoc] at this
  exact key rs []
theorem kinds_perm {a b : List RD} (h : a.Perm b) : (kinds a).Perm (kinds b) := h.map RD.k
theorem few_perm {a b : List HD} (h : b.Perm a) (few : Few a) : Few b := ⟨(h.map HD.nm).nodup_iff.mpr few.nd, by rw [cnt_perm h]; exact few.c, by rw [cnt_perm h]; exact few.l, by rw [cnt_perm h]; exact few.f, by rw [h.length_eq]; exact few.n⟩
theorem allR_perm {a b : List RD} (h : b.Perm a) (all : AllR a) : AllR b := fun r hr => all r (h.mem_iff.mp hr)
/-- the runs of the normal stand ascending -/
theorem runsN_self {rs : List RD} (nd : ((kinds rs).map HD.nm).Nodup) : AscR (runsL (kinds (normR rs))) (runsN (normR rs)) := by
  have a := runsN_asc nd
  refine ⟨by unfold runsN; rw [List.length_map], fun i g y e1 e2 => ?_⟩
  have hi : i < (runsL (kinds rs)).length := by
    rw [← a.len]
    exact (List.getElem?_eq_some_iff.mp e2).1
  have b := a.is i _ y (List.getElem?_eq_getElem hi) e2
  have e3 := e2
  unfold runsN at e3
  rw [List.getElem?_map, e1] at e3
  cases e3
  exact ⟨b.nd, b.so, fun z => Iff.rfl⟩
theorem norm_self {rs : List RD} (nd : ((kinds rs).map HD.nm).Nodup) : NormOf (kinds (normR rs)) (kinds (normR rs)) := by
  refine ⟨_, runsN_self nd, ?_, fun k hk => hk⟩
  unfold runsN
  rw [← List.map_flatten, runs_flat]
theorem runs_shw {rs : List RD} (few : rs.length ≤ 10) (all : AllR rs) : Shw 10 10 (runsN rs) := by
  refine ⟨?_, fun y hy => ⟨runs_len10 few y hy, fun z hz => ?_⟩⟩
  · unfold runsN
    rw [List.length_map]
    have h := congrArg List.length (runs_flat (kinds rs))
    have h2 : (runsL (kinds rs)).length ≤ (runsL (kinds rs)).flatten.length := by
      have key : ∀ gs : List (List HD), (∀ g ∈ gs, g ≠ []) → gs.length ≤ gs.flatten.length := by
        intro gs
        induction gs with
        | nil => intro _; exact Nat.le_refl _
        | cons g gs ih =>
          intro hg
          have := ih fun x hx => hg x (List.mem_cons_of_mem _ hx)
          have g1 : 0 < g.length := List.length_pos_iff.mpr (hg g List.mem_cons_self)
          rw [List.flatten_cons, List.length_append, List.length_cons]
          omega
      exact key _ fun g hg => (runs_in (kinds rs) g hg).1
    rw [h, kinds, List.length_map] at h2
    unfold kinds
    omega
  · unfold runsN at hy
    obtain ⟨g, hg, rfl⟩ := List.mem_map.mp hy
    obtain ⟨k, hk, rfl⟩ := List.mem_map.mp hz
    have m := (runs_in (kinds rs) g hg).2 k hk
    unfold kinds at m
    obtain ⟨r, hr, rfl⟩ := List.mem_map.mp m
    obtain ⟨r1, _, r2⟩ := rds_nm r (all r hr)
    exact ⟨r1, r2⟩
end My
namespace My
open PySem PySem.Spec PyProof.Rows L2
/-! ### what the law tells of rows -/
structure TolK (P : Program) (w : World) (K : PySem.W.Frag) (mg : Str → Option Value) (base : Heap) (A : A4) (C : Addr) (fX : Nat → Addr) (dX : Nat → FuncData) : Prop where
  T : Txt mg
  S : Hand K mg A
  SC : SCls K mg C
  Si : SIs K C
  stk : FnB P w K mg base 8 "_law_stack" sStackL (fX 0) (dX 0) ["_law_rows_here"] (spStacked A C)
  nrm : FnB P w K mg base 2 "_law_normal" sNormalL (fX 1) (dX 1) ["_law_rows_here"] spNormL
  run : FnB P w K mg base 2 "_law_runs" sRunsL (fX 2) (dX 2) ["_law_rows_here"] spRunsLaw
  prod : FnB P w K mg base 1 "_law_product" sProduct (fX 3) (dX 3) ["_law_runs_so"] spProd
  ly : FnB P w K mg base 4 "layers" sLayers (fX 4) (dX 4) ["stack"] (spLayers A C)
  lyk : KBinds K (dX 4) ["stack"] ["stack"] kwG kwG
  no : FnB P w K mg base 7 "normal" sNormal (fX 5) (dX 5) ["stack"] (spNormal A C)
  nok : KBinds K (dX 5) ["stack"] ["stack"] kwG kwG
  ma : FnB P w K mg base 5 "many_in" sManyIn (fX 6) (dX 6) ["stack"] (spMany A C)
  mak : KBinds K (dX 6) ["stack"] ["stack"] kwG kwG
  eqG : FnG P w K mg base CX0 4 (fX 7) (dX 7) ["self", "other"] (spEqS A C)
  eqb : Binds K (dX 7) ["self", "other"] []
  eqs : PySem.W.findIn K (.ref C) "__eq__" = some (some (.ref (fX 7)))
  eqf : PySem.W.isFn K (.ref (fX 7)) = true
  nes : PySem.W.findIn K (.ref C) "__ne__" = some (some (.builtin "object.__ne__"))
  nf : PySem.W.notFirst K C (.ref C) = true
def spTold : Sp := fun vs H Q _ => ∃ (l : Addr) (ks : List RD), vs = [.ref l] ∧ RowL H l ks ∧ ks.length ≤ 10 ∧ AllR ks ∧ Few (kinds ks) ∧ ∀ H', Same' H H' → Q (.bl true) H'
theorem eq_own {K : PySem.W.Frag} {mg : Str → Option Value} {A : A4} {C : Addr} (S : Hand K mg A) (SC : SCls K mg C) (Si : SIs K C) (nf : PySem.W.notFirst K C (.ref C) = true) {H : Hp} {a b : Addr} {ks : List HD} {Q : VK} (st : StkAt A C H a ks) (st2 : StkAt A C H b ks)
    (q : ∀ H', Same' H H' → Q (.bl true) H') : rEqOwn K C (spEqS A C) E0 (.ref a) (.ref b) H Q := by
  obtain ⟨dx, t, n, p1, p2, p3, p4, as, ps, y1, y2, y3, ys, os, st'⟩ := id st
  exact ⟨a, dx, _, .ref C, rfl, st'.o, ty_stk S SC Si st2, nf, a, b, ks, rfl, st, st2, fun H' s' => ⟨true, rfl, q H' s'⟩⟩
theorem dpT {K : PySem.W.Frag} {H : Hp} {T : Addr} {ts : List Addr} {yss : List (List Str)} (e : H T = some (.tup (ts.map V.ref))) (tt : TupsT H ts yss) : Dp K H (.ref T) (.tuple (yss.map dT)) := .tup (SqT.of e) (tups_dp tt)
theorem runsN_flat (rs : List RD) : (runsN rs).flatten.length = rs.length := by
  unfold runsN
  rw [← List.map_flatten, runs_flat, List.length_map, kinds, List.length_map]
theorem many_log {rs : List RD} (few : rs.length ≤ 10) : (((manyL (runsN rs) : Nat) : Int)).natAbs.log2 < 1920 := by
  have b := Nat.le_trans (many_le (runsN rs)) (fac_mono (b := 10) (by rw [runsN_flat]; exact few))
  have f10 : fac 10 = 3628800 := by decide +kernel
  rw [f10] at b
  rw [Int.natAbs_natCast]
  by_cases h : manyL (runsN rs) = 0
  · rw [h]; decide
  · refine (Nat.log2_lt h).mpr (Nat.lt_of_le_of_lt b ?_)
    exact Nat.lt_of_lt_of_le (by decide : 3628800 < 2 ^ 22) (Nat.pow_le_pow_right (by decide) (by decide))
section
variable {P : Program} {w : World} {K : PySem.W.Frag} {mg : Str → Option Value} {base : Heap}
abbrev nTo : List Str := ["_law_rows_here", "_law_made", "_law_due", "_law_runs_so"]
theorem scTo : FnScope nTo ["_law_rows_here"] (defScope sTold) := ⟨rfl, rfl, rfl, by decide +kernel, rfl, by decide +kernel, by decide +kernel⟩
abbrev XTo (P : Program) (w : World) (K : PySem.W.Frag) (mg : Str → Option Value) (base : Heap) (f : Addr) (cdv : Value) (A : Around) (outer : List Env) (s : Shared) (H : Hp) (E : XK) : Cx := (cxOf CX0 P w K mg base nTo "_law_told_right" (defScope sTold) f cdv A outer s H E).nox
theorem ok_told {A : A4} {C f : Addr} {fd : FuncData} {fX : Nat → Addr} {dX : Nat → FuncData} (F : Fun K "_law_told_right" "_law_told_right" sTold f fd) (Y : TolK P w K mg base A C fX dX) : FnG P w K mg base CX0 9 f fd ["_law_rows_here"] spTold := by
  refine okGn F scTo (fun vs H Q E h => ?_) (fun cdv A0 outer s H vs Q E hr hg h => ?_)
  · obtain ⟨l, ks, rfl, _⟩ := h
    rfl
  · obtain ⟨l, ks, rfl, rl, n10, all, few, q⟩ := h
    have hu : (XTo P w K mg base f cdv A0 outer s H E).A.units + 64 < cLine := by
      have h := hr.un
      show (A0.deeper _).units + 64 < cLine
      omega
    refine ⟨_, pss_cons (ps_par (i := 1) (j := 2) rfl scTo.nd rfl rfl (by decide) rfl rfl (pa_cons (pe_call Y.stk.G hr (by rfl) Y.stk.g Y.stk.F.kp Y.stk.b .nil pass0 (pa_cons (pv 0) pa_nil)) (pa_cons (pe_call Y.nrm.G (hr.mono (by decide)) (by rfl) Y.nrm.g Y.nrm.F.kp Y.nrm.b .nil pass0 (pa_cons (pv 0) pa_nil)) pa_nil)) (by rfl))
      (pss_cons (ps_set (i := 3) scTo.nd rfl (.inl rfl) (pe_call Y.run.G (hr.mono (by decide)) (by rfl) Y.run.g Y.run.F.kp Y.run.b .nil pass0 (pa_cons (pv 2) pa_nil)))
      (pss_cons (ps_if (PW.pt (pw_or (pt_cmpR op_ne (pe_callB (call_reprD hg hu) (by rfl) Y.T.repr (by decide +kernel) (pa_cons (pe_call Y.ly.G (hr.mono (by decide)) (by rfl) Y.ly.g Y.ly.F.kp Y.ly.b .nil pass0 (pa_cons (pv 1) pa_nil)) pa_nil)) (pe_callB (call_reprD hg hu) (by rfl) Y.T.repr (by decide +kernel) (pa_cons (pv 3) pa_nil)) (nomark _))
          (pw_or1 (pt_cmpR (op_neOwn Y.eqG (hr.mono (by decide)) hg Y.eqs Y.eqf Y.nes Y.Si.mo Y.eqb pass0) (pe_call Y.no.G (hr.mono (by decide)) (by rfl) Y.no.g Y.no.F.kp Y.no.b .nil pass0 (pa_cons (pv 1) pa_nil)) (pe_call Y.stk.G hr (by rfl) Y.stk.g Y.stk.F.kp Y.stk.b .nil pass0 (pa_cons (pv 2) pa_nil)) (nomark _)))))
        (pss_one (ps_ret pe_bl)) pss_nil)
      (pss_cons (ps_if (PW.pt (pw_or (pt_cmpR op_ne (pe_callB SkE.call_repr_int (by rfl) Y.T.repr (by decide +kernel) (pa_cons (pe_call Y.ma.G (hr.mono (by decide)) (by rfl) Y.ma.g Y.ma.F.kp Y.ma.b .nil pass0 (pa_cons (pv 1) pa_nil)) pa_nil)) (pe_callB SkE.call_repr_int (by rfl) Y.T.repr (by decide +kernel) (pa_cons (pe_call Y.prod.G (hr.mono (by decide)) (by rfl) Y.prod.g Y.prod.F.kp Y.prod.b .nil pass0 (pa_cons (pv 3) pa_nil)) pa_nil)) (nomark _))
          (pw_or1 (pt_cmpR (op_neOwn Y.eqG (hr.mono (by decide)) hg Y.eqs Y.eqf Y.nes Y.Si.mo Y.eqb pass0) (pv 1) (pe_call Y.stk.G hr (by rfl) Y.stk.g Y.stk.F.kp Y.stk.b .nil pass0 (pa_cons (pv 0) pa_nil)) (nomark _)))))
        (pss_one (ps_ret pe_bl)) pss_nil)
      (pss_one (ps_ret (pe_and (pe_cmpR (op_eqD hu) (pe_callKw Y.ly.G (hr.mono (by decide)) (by rfl) Y.ly.g Y.ly.F.kp Y.lyk pass0 (pk_cons (pv 1) pk_nil)) (pe_call Y.ly.G (hr.mono (by decide)) (by rfl) Y.ly.g Y.ly.F.kp Y.ly.b .nil pass0 (pa_cons (pe_callKw Y.no.G (hr.mono (by decide)) (by rfl) Y.no.g Y.no.F.kp Y.nok pass0 (pk_cons (pv 1) pk_nil)) pa_nil)) (nomark _))
        (pe_one (pe_cmpR (op_eqOwn Y.eqG (hr.mono (by decide)) hg Y.eqs Y.eqf Y.eqb pass0) (pe_call Y.no.G (hr.mono (by decide)) (by rfl) Y.no.g Y.no.F.kp Y.no.b .nil pass0 (pa_cons (pe_call Y.no.G (hr.mono (by decide)) (by rfl) Y.no.g Y.no.F.kp Y.no.b .nil pass0 (pa_cons (pv 1) pa_nil)) pa_nil)) (pe_call Y.no.G (hr.mono (by decide)) (by rfl) Y.no.g Y.no.F.kp Y.no.b .nil pass0 (pa_cons (pv 1) pa_nil)) (nomark _))))))))), ?_⟩
    have nd := few.nd
    have n63 : (kinds ks).length ≤ 63 := by unfold kinds; rw [List.length_map]; omega
    have n10k : (kinds ks).length ≤ 10 := by unfold kinds; rw [List.length_map]; omega
    have pr := normR_perm ks
    have few2 := few_perm (kinds_perm pr) few
    have all2 := allR_perm pr all
    have n10r : (normR ks).length ≤ 10 := by rw [normR_len]; exact n10
    have shw := runs_shw n10r all2
    obtain ⟨_, fin, ndd⟩ := shw_fine shw (by decide)
    have shp := shw_shaped shw
    have no1 := (normR_of nd).1
    -- made, due
    refine ⟨.ref l, rfl, l, ks, rfl, rl, few, all, fun m H1 s1 st1 => ⟨.ref l, rfl, l, ks, rfl, rl.keep s1, n10, all, fun du H2 s2 rd2 => ⟨_, _, rfl, ?_⟩⟩⟩
    have st2 := st1.keep s2
    -- runs
    refine ⟨.ref du, rfl, du, normR ks, rfl, rd2, n10r, fun T ts H3 s3 eT tt => ?_⟩
    have st3 := st2.keep s3
    have rd3 := rd2.keep s3
    have s13 := s1.trans (s2.trans s3)
    clear st1 st2 rd2
    have n63r : (kinds (normR ks)).length ≤ 63 := by unfold kinds; rw [List.length_map]; omega
    have eqv := SeqAt.eqv_refl _ (SeqAt.canLay_of_shaped shp)
    have own : ∀ {H : Hp} {a b : Addr} {ks : List HD} {Q : VK}, StkAt A C H a ks → StkAt A C H b ks → (∀ H', Same' H H' → Q (.bl true) H') → rEqOwn K C (spEqS A C) E0 (.ref a) (.ref b) H Q := fun st st2 q => eq_own Y.S Y.SC Y.Si Y.nf st st2 q
    -- repr(layers(made)) != repr(runs)
    refine ⟨.ref m, rfl, m, _, rfl, st3, n63, fun T2 H4 ⟨ts2, yss, eT2, tt2, asc⟩ s4 => ?_⟩
    obtain rfl := layers_runs nd asc
    have eT := s4 _ _ eT
    have tt := tt.keep s4
    refine ⟨T2, _, rfl, dpT eT2 tt2, ndd, fin, .ref T, rfl, T, _, rfl, dpT eT tt, ndd, fin, rfl, false, by rw [decide_eq_true rfl]; rfl, iteF ?_⟩
    -- normal(made) != stack(due)
    refine ⟨.ref m, rfl, m, _, rfl, st3.keep s4, few, fun a5 k5 H5 no5 s5 st5 => ?_⟩
    obtain rfl := norm_one nd no5 no1
    refine ⟨.ref du, rfl, du, normR ks, rfl, rd3.keep (s4.trans s5), few2, all2, fun b6 H6 s6 st6 => ?_⟩
    refine own (st5.keep s6) st6 fun H7 s7 => ⟨true, rfl, false, rfl, iteF ?_⟩
    have u7 := s4.trans (s5.trans (s6.trans s7))
    have st7 := st3.keep u7
    have w7 := s5.trans (s6.trans s7)
    have eT := w7 _ _ eT
    have tt := tt.keep w7
    have s07 := s13.trans u7
    -- repr(many_in(made)) != repr(product(runs))
    refine ⟨.ref m, rfl, m, _, rfl, st7, few, n10k, fun yss H8 asc s8 => ?_⟩
    obtain rfl := layers_runs nd asc
    refine ⟨_, rfl, many_log n10r, .ref T, rfl, T, ts, _, rfl, s8 _ _ eT, tt.keep s8, runs_len10 n10r, _, rfl, many_log n10r, rfl, false, by rw [decide_eq_true rfl]; rfl, iteF ?_⟩
    have st8 := st7.keep s8
    have s08 := s07.trans s8
    -- made != stack(rows)
    refine ⟨.ref m, rfl, .ref l, rfl, l, ks, rfl, rl.keep s08, few, all, fun b9 H9 s9 st9 => ?_⟩
    refine own (st8.keep s9) st9 fun H10 s10 => ⟨true, rfl, false, rfl, iteF ?_⟩
    have u10 := s9.trans s10
    have st10 := st8.keep u10
    have s010 := s08.trans u10
    clear st8 st9 st7 st5 st6 st3
    -- layers(stack = made) == layers(normal(stack = made))
    refine ⟨.ref m, rfl, m, _, rfl, st10, n63, fun T3 H11 ⟨ts3, yss3, eT3, tt3, asc3⟩ s11 => ?_⟩
    obtain rfl := layers_runs nd asc3
    have st11 := st10.keep s11
    refine ⟨.ref m, rfl, m, _, rfl, st11, few, fun a12 k12 H12 no12 s12 st12 => ?_⟩
    obtain rfl := norm_one nd no12 no1
    refine ⟨a12, _, rfl, st12, n63r, fun T4 H13 ⟨ts4, yss4, eT4, tt4, asc4⟩ s13' => ?_⟩
    obtain rfl := ascR_one asc4 (runsN_self nd)
    have u13 := s12.trans s13'
    refine ⟨_, _, dpT (u13 _ _ eT3) (tt3.keep u13), dpT eT4 tt4, shp, shp, ?_⟩
    rw [eqv]
    refine ⟨true, rfl, iteT ?_⟩
    have st13 := st11.keep u13
    have s013 := s010.trans (s11.trans u13)
    -- normal(normal(made)) == normal(made)
    refine ⟨.ref m, rfl, m, _, rfl, st13, few, fun a14 k14 H14 no14 s14 st14 => ?_⟩
    obtain rfl := norm_one nd no14 no1
    refine ⟨a14, _, rfl, st14, few2, fun a15 k15 H15 no15 s15 st15 => ?_⟩
    obtain rfl := norm_one few2.nd no15 (norm_self nd)
    refine ⟨.ref m, rfl, m, _, rfl, st13.keep (s14.trans s15), few, fun a16 k16 H16 no16 s16 st16 => ?_⟩
    obtain rfl := norm_one nd no16 no1
    refine own (st15.keep s16) st16 fun H17 s17 => ?_
    exact q H17 (s013.trans (s14.trans (s15.trans (s16.trans s17))))
end
end My
namespace My
open PySem PySem.Spec PyProof.Rows L2
/-! ### all orders with the same pairs have one normal -/
def spSmall : Sp := fun vs H Q _ => ∃ (l : Addr) (ks : List RD), vs = [.ref l] ∧ RowL H l ks ∧ ks.length ≤ 5 ∧ AllR ks ∧ Few (kinds ks) ∧ ∀ H', Same' H H' → Q (.bl true) H'
theorem line_ok : ∀ a ∈ pool11, ∀ b ∈ pool11, PyData.strOk (lineZ (a, b)) = true := by decide +kernel
theorem lines_ok {ks : List RD} (all : AllR ks) : ∀ z ∈ linesL (kinds ks), PyData.strOk z = true := fun z hz => by
  rw [linesL_G] at hz
  obtain ⟨y, hy, rfl⟩ := List.mem_map.mp hz
  have m := prsG_in _ y hy
  have po : ∀ k ∈ kinds ks, k.nm ∈ pool11 := fun k hk => by
    unfold kinds at hk
    obtain ⟨r, hr, rfl⟩ := List.mem_map.mp hk
    exact rds_pool r (all r hr)
  exact line_ok _ (po _ m.1) _ (po _ m.2)
theorem lines_dec {ks js : List RD} {ys zs : List Str} (p : ys.Perm (linesL (kinds js))) (so : sortedS ys = true) (p2 : zs.Perm (linesL (kinds ks))) (so2 : sortedS zs = true) : decide (ys = zs) = (linesL (kinds js)).isPerm (linesL (kinds ks)) := by
  rw [Bool.eq_iff_iff, decide_eq_true_iff, List.isPerm_iff]
  constructor
  · intro e
    subst e
    exact p.symm.trans p2
  · intro h
    exact sorted_one (p.trans (h.trans p2.symm)) so so2
structure SmlK (P : Program) (w : World) (K : PySem.W.Frag) (mg : Str → Option Value) (base : Heap) (fA fP : Addr) (dA dP : FuncData) : Prop where
  aF : Fun K "_law_all" "_law_all" sAll fA dA
  ab : Binds K dA ["_law_rows_here"] []
  ag : mg "_law_all" = some (.ref fA)
  aG : ∀ n, FnOk P w K mg base CX0 (n + 1) fA dA ["_law_rows_here"] (spAll n)
  prs : FnB P w K mg base 2 "_law_pairs" sPairsL fP dP ["_law_rows_here"] spPairsL
section
variable {P : Program} {w : World} {K : PySem.W.Frag} {mg : Str → Option Value} {base : Heap}
abbrev nSm : List Str := ["_law_rows_here", "_law_near", "_law_due", "_law_other"]
theorem scSm : FnScope nSm ["_law_rows_here"] (defScope sSmall) := ⟨rfl, rfl, rfl, by decide +kernel, rfl, by decide +kernel, by decide +kernel⟩
abbrev XSm (P : Program) (w : World) (K : PySem.W.Frag) (mg : Str → Option Value) (base : Heap) (f : Addr) (cdv : Value) (A : Around) (outer : List Env) (s : Shared) (H : Hp) (E : XK) : Cx := (cxOf CX0 P w K mg base nSm "_law_small_right" (defScope sSmall) f cdv A outer s H E).nox
abbrev XSmB (P : Program) (w : World) (K : PySem.W.Frag) (mg : Str → Option Value) (base : Heap) (f : Addr) (cdv : Value) (A : Around) (outer : List Env) (s : Shared) (H : Hp) (E : XK) (s1 : Shared) (H1 : Hp) (sc : Scope) (C1 : Addr) (cl1 : List (Str × Addr)) (fp1 : List Addr) : Cx := (XSm P w K mg base f cdv A outer s H E).blk s1 H1 sc (compEnvC sc cl1 C1 (XSm P w K mg base f cdv A outer s H E).env) fp1
theorem ok_small {A : A4} {C f fA fP : Addr} {fd dA dP : FuncData} {fX : Nat → Addr} {dX : Nat → FuncData} (F : Fun K "_law_small_right" "_law_small_right" sSmall f fd) (Y : TolK P w K mg base A C fX dX) (Z : SmlK P w K mg base fA fP dA dP) : FnG P w K mg base CX0 9 f fd ["_law_rows_here"] spSmall := by
  refine okGn F scSm (fun vs H Q E h => ?_) (fun cdv A0 outer s H vs Q E hr hg h => ?_)
  · obtain ⟨l, ks, rfl, _⟩ := h
    rfl
  · obtain ⟨l, ks, rfl, rl, n5, all, few, q⟩ := h
    have hu : (XSm P w K mg base f cdv A0 outer s H E).A.units + 64 < cLine := by
      have h := hr.un
      show (A0.deeper _).units + 64 < cLine
      omega
    have hu0 : (XSm P w K mg base f cdv A0 outer s H E).A.units < cLine := by omega
    refine ⟨_, pss_cons (ps_setLc (i := 1) (own := [("_law_other", 3)]) (g := gName 3) rfl scSm.nd rfl rfl (sw_true rfl rfl rfl (by decide +kernel)) (pi_list (pe_call (Z.aG ks.length) (hr.mono (by omega)) (by rfl) Z.ag Z.aF.kp Z.ab .nil pass0 (pa_cons (pv 0) pa_nil))) (blkOk_by (N := nSm) (sc := defScope sSmall) (by decide +kernel)) (fun _ _ _ _ _ => pg_name (i := 3) scSm.nd rfl (Or.inl rfl))
        (fun s1 H1 C1 cl1 fp1 => pts_one (pt_cmpR (show OpR (XSmB P w K mg base f cdv A0 outer s H E s1 H1 _ C1 cl1 fp1) (compareOp .Eq) (rEqD K) from op_eqD hu) (pe_call (X := XSmB P w K mg base f cdv A0 outer s H E s1 H1 _ C1 cl1 fp1) Z.prs.G (hr.mono (by decide)) (by rfl) Z.prs.g Z.prs.F.kp Z.prs.b .nil pass0 (pa_cons (pv 3) pa_nil)) (pe_call (X := XSmB P w K mg base f cdv A0 outer s H E s1 H1 _ C1 cl1 fp1) Z.prs.G (hr.mono (by decide)) (by rfl) Z.prs.g Z.prs.F.kp Z.prs.b .nil pass0 (pa_cons (pv 0) pa_nil)) (nomark _)))
        (fun _ _ _ _ _ => pv 3))
      (pss_cons (ps_if (pt_cmpR op_ne (pe_callKw Y.ma.G (hr.mono (by decide)) (by rfl) Y.ma.g Y.ma.F.kp Y.mak pass0 (pk_cons (pe_call Y.stk.G hr (by rfl) Y.stk.g Y.stk.F.kp Y.stk.b .nil pass0 (pa_cons (pv 0) pa_nil)) pk_nil)) (pe_callB call_len_seq (by rfl) Y.T.len PySem.boot_len (pa_cons (pv 1) pa_nil)) (nomark _)) (pss_one (ps_ret pe_bl)) pss_nil)
      (pss_cons (ps_set (i := 2) scSm.nd rfl (.inr rfl) (pe_call Y.no.G (hr.mono (by decide)) (by rfl) Y.no.g Y.no.F.kp Y.no.b .nil pass0 (pa_cons (pe_call Y.stk.G hr (by rfl) Y.stk.g Y.stk.F.kp Y.stk.b .nil pass0 (pa_cons (pv 0) pa_nil)) pa_nil)))
      (pss_one (ps_ret (pe_cmpR (op_eqNil hu0) (pe_lc (own := [("_law_other", 3)]) (g := gName 3) rfl scSm.nd (pi_list (pe_slice sl_list (pv 1) po_none (po_some pe_int))) (blkOk_by (N := nSm) (sc := defScope sSmall) (by decide +kernel)) (fun _ _ _ _ _ => pg_name (i := 3) scSm.nd rfl (Or.inl rfl))
        (fun s1 H1 C1 cl1 fp1 => pts_one (pt_cmpR (show OpR (XSmB P w K mg base f cdv A0 outer s H E s1 H1 _ C1 cl1 fp1) (compareOp .NotEq) (fun x y H Q => rEqOwn K C (spEqS A C) E0 x y H fun v H' => ∃ b, v = .bl b ∧ Q (.bl (!b)) H') from op_neOwn Y.eqG (hr.mono (by decide)) hg Y.eqs Y.eqf Y.nes Y.Si.mo Y.eqb pass0) (pe_call (X := XSmB P w K mg base f cdv A0 outer s H E s1 H1 _ C1 cl1 fp1) Y.no.G (hr.mono (by decide)) (by rfl) Y.no.g Y.no.F.kp Y.no.b .nil pass0 (pa_cons (pe_call (X := XSmB P w K mg base f cdv A0 outer s H E s1 H1 _ C1 cl1 fp1) Y.stk.G hr (by rfl) Y.stk.g Y.stk.F.kp Y.stk.b .nil pass0 (pa_cons (pv 3) pa_nil)) pa_nil)) (pv 2) (nomark _)))
        (fun _ _ _ _ _ => pv 3)) (pe_lst pa_nil) (nomark _)))))), ?_⟩
    have own : ∀ {H : Hp} {a b : Addr} {ks : List HD} {Q : VK}, StkAt A C H a ks → StkAt A C H b ks → (∀ H', Same' H H' → Q (.bl true) H') → rEqOwn K C (spEqS A C) E0 (.ref a) (.ref b) H Q := fun st st2 q => eq_own Y.S Y.SC Y.Si Y.nf st st2 q
    have nd := few.nd
    have n10 : ks.length ≤ 10 := by omega
    have n10k : (kinds ks).length ≤ 10 := by unfold kinds; rw [List.length_map]; omega
    -- near
    refine ⟨.ref l, rfl, l, ks, rfl, rl, rfl, n5, fun dd H1 s1 ⟨ls, ed, r1⟩ => ?_⟩
    have pl : ∀ js ∈ permsG ks.length ks, js.Perm ks := permsG_perm _ _ rfl
    have p120 : (permsG ks.length ks).length ≤ 120 := by
      rw [permsG_len _ _ rfl]
      match ks.length, n5 with
      | 0, _ => decide
      | 1, _ => decide
      | 2, _ => decide
      | 3, _ => decide
      | 4, _ => decide
      | 5, _ => decide
    obtain ⟨nb, hnb⟩ : ∃ nb : List RD → Bool, nb = fun js => (linesL (kinds js)).isPerm (linesL (kinds ks)) := ⟨_, rfl⟩
    have hn : nearR ks = (permsG ks.length ks).filter nb := by rw [hnb]; rfl
    generalize permsG ks.length ks = PP at *
    refine ⟨dd, rfl, ⟨_, SqL.of ed⟩, fun D hD => ?_⟩
    have nD : ∀ c ∈ ls, c ≠ D := fun c hc => by
      obtain ⟨i, hi⟩ := List.getElem?_of_mem hc
      have hj : i < PP.length := by rw [← r1.len]; exact (List.getElem?_eq_some_iff.mp hi).1
      obtain ⟨rs, e, _⟩ := (r1.is i c _ hi (List.getElem?_eq_getElem hj)).ex
      exact ne_of_none e hD
    refine lc_it (walk_list (K := K) (a := dd) (xs := ls.map V.ref)) (fun j H' => Same' H1 H' ∧ ∃ cs : List Addr, H' D = some (.lst (cs.map V.ref)) ∧ (∀ c ∈ cs, c ∈ ls) ∧ RwsL H' cs ((PP.take j).filter nb)) ⟨same_new hD, [], upd_same, (fun c h => nomatch h), RwsL.nil⟩ (fun j H' _ hp => SqL.of (hp.1 _ _ ed)) (fun j x H2 H3 hj hp hx => ?_) (fun H2 hp => ?_)
    · obtain ⟨s2, cs, ec, sub, rc⟩ := hp
      obtain ⟨rfl, e4⟩ := hx
      obtain ⟨a, js, ea, ej, rfl, hrow⟩ := (r1.keep s2).at e4
      have pj := pl js (List.mem_of_getElem? ej)
      have aj := allR_perm pj all
      have nj : js.length ≤ 10 := by rw [pj.length_eq]; exact n10
      have stp : (PP.take (j + 1)).filter nb = (PP.take j).filter nb ++ (if nb js = true then [js] else []) := by
        rw [List.take_add_one, ej, List.filter_append]
        congr 1
        show List.filter nb [js] = _
        rw [List.filter_cons]
        split <;> rfl
      refine ⟨rfl, ⟨.ref a, rfl, a, js, rfl, hrow, nj, aj, fun d1 y1 H4 pm1 so1 s4 e1 => ⟨.ref l, rfl, l, ks, rfl, rl.keep (s1.trans (s2.trans s4)), n10, all, fun d2 y2 H5 pm2 so2 s5 e2 => ?_⟩⟩⟩
      refine ⟨_, _, .lst (SqL.of (s5 _ _ e1)) (dp_strs y1), .lst (SqL.of e2) (dp_strs y2), strs_shaped fun z hz => lines_ok aj z (pm1.mem_iff.mp hz), strs_shaped fun z hz => lines_ok all z (pm2.mem_iff.mp hz), _, rfl, ?_⟩
      have nbj : decide (y1 = y2) = nb js := by rw [hnb]; exact lines_dec pm1 so1 pm2 so2
      rw [eqv_strsD, nbj]
      have s45 := s4.trans s5
      have ec5 := s45 _ _ ec
      refine ite2 (fun e => ?_) (fun e => ?_)
      · refine ⟨.ref a, rfl, _, ec5, ?_, same_over hD (s2.trans s45), cs ++ [a], by rw [upd_same, List.map_append]; rfl, fun c hc => ?_, ?_⟩
        · have h1 := rc.len
          have h2 : ((PP.take j).filter nb).length ≤ (PP.take j).length := List.length_filter_le _ _
          rw [List.length_take] at h2
          rw [List.length_map, sizeLine_eq]
          omega
        · rcases List.mem_append.mp hc with h | h
          · exact sub c h
          · rw [List.mem_singleton.mp h]; exact List.mem_of_getElem? ea
        · rw [stp, if_pos e]
          exact ((rc.keep s45).upd (fun c hc => nD c (sub c hc)) ec5).add ((hrow.keep s45).upd (nD a (List.mem_of_getElem? ea)) ec5)
      · refine ⟨s2.trans s45, cs, ec5, sub, ?_⟩
        rw [stp, if_neg e, List.append_nil]
        exact rc.keep s45
    obtain ⟨s2, cs, ec, sub, rc⟩ := hp
    rw [List.take_of_length_le (by rw [List.length_map, r1.len]; exact Nat.le_refl _), ← hn] at rc
    have s02 := s1.trans s2
    -- many_in(stack = stack(rows)) != len(near)
    refine ⟨.ref l, rfl, l, ks, rfl, rl.keep s02, few, all, fun b3 H3 s3 st3 => ?_⟩
    refine ⟨b3, _, rfl, st3, few, n10k, fun yss H4 asc s4 => ?_⟩
    have s24 := s3.trans s4
    have hml := near_len all nd n5 asc
    have cl := rc.len
    refine ⟨.ref D, rfl, D, _, rfl, .inl (SqL.of (s24 _ _ ec)), ?_⟩
    rw [List.length_map, cl, hml]
    refine ⟨rfl, false, by rw [decide_eq_true rfl]; rfl, iteF ?_⟩
    -- due
    refine ⟨.ref l, rfl, l, ks, rfl, rl.keep (s02.trans s24), few, all, fun b5 H5 s5 st5 => ?_⟩
    refine ⟨b5, _, rfl, st5, few, fun a6 k6 H6 no6 s6 st6 => ?_⟩
    have s26 := s24.trans (s5.trans s6)
    have ec6 := s26 _ _ ec
    have rc6 := rc.keep s26
    have s06 := s02.trans s26
    -- all of near[:24]
    have c24 : cutV (cs.map V.ref) none (some 24) = (cs.take 24).map V.ref := by
      rw [List.map_take]
      exact cut_to _ 24
    refine ⟨.ref D, rfl, 24, rfl, D, _, rfl, SqL.of ec6, fun u hu => ?_⟩
    rw [c24]
    have s7 := same_new (o := .lst ((cs.take 24).map V.ref)) hu
    have eu : (upd H6 u (.lst ((cs.take 24).map V.ref))) u = some (.lst ((cs.take 24).map V.ref)) := upd_same
    generalize upd H6 u (.lst ((cs.take 24).map V.ref)) = H7 at *
    refine ⟨u, rfl, ⟨_, SqL.of eu⟩, fun D2 hD2 => ?_⟩
    refine lc_it (walk_list (K := K) (a := u) (xs := (cs.take 24).map V.ref)) (fun j H' => Same' H7 H' ∧ H' D2 = some (.lst [])) ⟨same_new hD2, upd_same⟩ (fun j H' _ hp => SqL.of (hp.1 _ _ eu)) (fun j x H8 H9 hj hp hx => ?_) (fun H8 hp => ?_)
    · obtain ⟨s8, e8⟩ := hp
      obtain ⟨rfl, e4⟩ := hx
      have e5 : (cs.map V.ref)[j]? = some x := by
        rw [List.map_take, List.getElem?_take] at e4
        split at e4
        · exact e4
        · cases e4
      obtain ⟨c, js, ea, ej, rfl, hrow⟩ := ((rc6.keep s7).keep s8).at e5
      have mj := List.mem_of_getElem? ej
      have pj := near_perm mj
      have aj := allR_perm pj all
      have fj := few_perm (kinds_perm pj) few
      refine ⟨rfl, ⟨.ref c, rfl, c, js, rfl, hrow, fj, aj, fun b9 H10 s10 st10 => ⟨b9, _, rfl, st10, fj, fun a11 k11 H11 no11 s11 st11 => ?_⟩⟩⟩
      obtain rfl := near_norm all nd n5 mj no11 no6
      have u11 := s8.trans (s10.trans s11)
      refine ⟨.ref a6, rfl, own st11 (st6.keep (s7.trans u11)) fun H12 s12 => ⟨true, rfl, false, rfl, iteF ?_⟩⟩
      exact ⟨u11.trans s12, (s10.trans (s11.trans s12)) _ _ e8⟩
    · obtain ⟨s8, e8⟩ := hp
      refine ⟨by show 0 ≤ sizeLine; decide, fun e he => ?_⟩
      have s9 := same_new (o := .lst []) he
      exact ⟨D2, e, [], rfl, rfl, s9 _ _ e8, upd_same, q _ (s06.trans (s7.trans (s8.trans s9)))⟩
end
end My
namespace My
open PySem PySem.Spec PyProof.Rows L2
/-! ### the law -/
abbrev PR : Program := PySem.Challenge.rw_layerseen_k38_runs_and_normal_stacks.prog
abbrev nLaw : List Str := ["_law_script", "_law_pen_here", "_law_turn", "_law_rows_here", "_law_told"]
theorem scLaw : FnScope nLaw ["_law_script"] (defScope sLaw) := ⟨rfl, rfl, rfl, by decide +kernel, rfl, by decide +kernel, by decide +kernel⟩
abbrev XL (w : World) (K : PySem.W.Frag) (mg : Str → Option Value) (base : Heap) (fa : Addr) (cdv : Value) (s : Shared) (H0 : Hp) : Cx := (cxOf CX0 PR w K mg base nLaw "law" (defScope sLaw) fa cdv callerA [] s H0 E0).nox
structure Parts (w : World) (K : PySem.W.Frag) (mg : Str → Option Value) (base : Heap) (A : A4) (C fS : Addr) (fX fI fL : Nat → Addr) (dX dI dL : Nat → FuncData) : Prop where
  Y : TolK PR w K mg base A C fX dX
  MH : MkH PR w K mg base A fI dI
  bD : ∃ ds, Vals [.int 2] ds ∧ Binds K (dI 0) ["self", "name", "size"] ds
  M : Mk K C fS
  GI : FnR PR w K mg base (L2.CX PR w) 5 fS (spIni A C)
  pen : FnB PR w K mg base 1 "_law_pen" sPen (fL 0) (dL 0) ["_law_script"] (spPen K)
  rows : FnB PR w K mg base 3 "_law_rows" sRows (fL 1) (dL 1) ["_law_pen_here", "_law_least", "_law_most"] spRowsL
  told : FnBG PR w K mg base 9 "_law_told_right" (fL 2) (dL 2) ["_law_rows_here"] spTold
  small : FnBG PR w K mg base 9 "_law_small_right" (fL 3) (dL 3) ["_law_rows_here"] spSmall
def six : List RD := [⟨.cell "y" 2, 2⟩, ⟨.log "a", 2⟩, ⟨.cho, 0⟩, ⟨.cell "x" 2, 2⟩, ⟨.fail "g", 2⟩, ⟨.fail "f", 2⟩]
def sixY : List (List Str) := [["a", "y"], ["choice"], ["x"], ["f", "g"]]
theorem six_runs : runsN (normR six) = sixY := by decide +kernel
theorem six_few : Few (kinds six) := ⟨by decide +kernel, by decide +kernel, by decide +kernel, by decide +kernel, by decide +kernel⟩
theorem six_shw : Shw 10 10 sixY := by rw [← six_runs]; exact runs_shw (by decide) (allR_perm (normR_perm six) (by unfold AllR; decide +kernel))
theorem few_nil : Few [] := ⟨by simp, by decide, by decide, by decide, by decide⟩
theorem Rws.rev {H : Hp} : ∀ {rs : List Addr} {ks : List RD}, Rws H rs ks → Rws H rs.reverse ks.reverse
  | [], [], _ => .nil
  | [], _ :: _, h => absurd h.len (by simp)
  | _ :: _, [], h => absurd h.len (by simp)
  | a :: rs, k :: ks, h => by
    have ih := Rws.rev (rs := rs) (ks := ks) ⟨by simpa using h.len, fun i b y e1 e2 => h.is (i + 1) b y (by simpa using e1) (by simpa using e2)⟩
    rw [List.reverse_cons, List.reverse_cons]
    exact ih.add (h.is 0 a k rfl rfl)
section
variable {w : World} {K : PySem.W.Frag} {mg : Str → Option Value} {base : Heap} {A : A4} {C fS : Addr} {fX fI fL : Nat → Addr} {dX dI dL : Nat → FuncData} {fa : Addr}
theorem hrX {cdv : Value} {s : Shared} {H0 : Hp} : Room 9 (XL w K mg base fa cdv s H0).A := ⟨rfl, by show 1 + claimMargin + 1 + 3 * 9 + 5 < recursionLimit; decide +kernel, by show 4 + 3 + 16 * 9 + 200 < cLine; decide +kernel⟩
theorem hgX {cdv : Value} {s : Shared} {H0 : Hp} : (XL w K mg base fa cdv s H0).A.guards = some [] := rfl
theorem law_body (Z : ∀ base : Heap, K.In base → base.Ns mainGlobals mg → Parts w K mg base A C fS fX fI fL dX dI dL) : LawBody PySem.Challenge.rw_layerseen_k38_runs_and_normal_stacks w K mg 63 nLaw "law" sLaw fa := by
  intro base hKb hNb cdv s H a ns hn hO hS
  have Z := Z base hKb hNb
  have Y := Z.Y
  have S := Y.S
  have MH := Z.MH
  obtain ⟨dsD, vD, bD⟩ := Z.bD
  have hr : Room 9 (XL w K mg base fa cdv s H).A := hrX
  have hg : (XL w K mg base fa cdv s H).A.guards = some [] := hgX
  have hu : (XL w K mg base fa cdv s H).A.units + 64 < cLine := hr.units
  refine ⟨_, pss_cons (ps_set (i := 1) scLaw.nd rfl (.inl rfl) (pe_call Z.pen.G (hr.mono (by decide)) (by rfl) Z.pen.g Z.pen.F.kp Z.pen.b .nil pass0 (pa_cons (pv 0) pa_nil)))
    (pss_cons (ps_for PassesOwn.never rfl (pi_range1 (by rfl) Y.T.range (pa_cons pe_int pa_nil)) (pg_name (i := 2) scLaw.nd rfl (.inl rfl))
      (pss_cons (ps_set (i := 3) scLaw.nd rfl (.inl rfl) (pe_call Z.rows.G (hr.mono (by decide)) (by rfl) Z.rows.g Z.rows.F.kp Z.rows.b .nil pass0 (pa_cons (pv 1) (pa_cons pe_int (pa_cons pe_int pa_nil)))))
      (pss_one (ps_if (PW.pt (pw_or (pt_not (pt_val (pe_callG Z.told.G hr hg (by rfl) Z.told.g Z.told.kp Z.told.b .nil pass0 (pa_cons (pv 3) pa_nil))))
        (pw_or1 (pt_not (pt_val (pe_callG Z.told.G hr hg (by rfl) Z.told.g Z.told.kp Z.told.b .nil pass0 (pa_cons (pe_revL (pv 3)) pa_nil))))))) (pss_one (ps_ret pe_bl)) pss_nil))))
    (pss_cons (ps_for PassesOwn.never rfl (pi_range1 (by rfl) Y.T.range (pa_cons pe_int pa_nil)) (pg_name (i := 2) scLaw.nd rfl (.inl rfl))
      (pss_cons (ps_set (i := 3) scLaw.nd rfl (.inl rfl) (pe_call Z.rows.G (hr.mono (by decide)) (by rfl) Z.rows.g Z.rows.F.kp Z.rows.b .nil pass0 (pa_cons (pv 1) (pa_cons pe_int (pa_cons pe_int pa_nil)))))
      (pss_one (ps_if (PW.pt (pw_or (pt_not (pt_val (pe_callG Z.told.G hr hg (by rfl) Z.told.g Z.told.kp Z.told.b .nil pass0 (pa_cons (pv 3) pa_nil))))
        (pw_or1 (pt_not (pt_val (pe_callG Z.small.G hr hg (by rfl) Z.small.g Z.small.kp Z.small.b .nil pass0 (pa_cons (pv 3) pa_nil))))))) (pss_one (ps_ret pe_bl)) pss_nil))))
    (pss_cons (ps_set (i := 4) scLaw.nd rfl (.inl rfl) (pe_call Y.ly.G (hr.mono (by decide)) (by rfl) Y.ly.g Y.ly.F.kp Y.ly.b .nil pass0 (pa_cons
      (StX.pe_makeR Z.M Z.GI (hr.mono (by decide)) (by rfl) Y.SC.g passF (pa_cons (pe_make MH.m0 MH.G0 (hr.mono (by decide)) (by rfl) S.cC.g bD vD pass0 (pa_cons pe_str pa_nil))
        (pa_cons (pe_make MH.m1 MH.G1 (hr.mono (by decide)) (by rfl) S.cL.g MH.b1 .nil pass0 (pa_cons pe_str pa_nil))
        (pa_cons (pe_make0 MH.m3 MH.G3 (hr.mono (by decide)) (by rfl) S.cH.g MH.b3 .nil pass0)
        (pa_cons (pe_make MH.m0 MH.G0 (hr.mono (by decide)) (by rfl) S.cC.g bD vD pass0 (pa_cons pe_str pa_nil))
        (pa_cons (pe_make MH.m2 MH.G2 (hr.mono (by decide)) (by rfl) S.cF.g MH.b2 .nil pass0 (pa_cons pe_str pa_nil))
        (pa_cons (pe_make MH.m2 MH.G2 (hr.mono (by decide)) (by rfl) S.cF.g MH.b2 .nil pass0 (pa_cons pe_str pa_nil)) pa_nil))))))) pa_nil)))
    (pss_cons (ps_if (pt_cmpR (op_neD hu) (pv 4) (pe_tup (pa_cons (pe_tup (pa_cons pe_str (pa_cons pe_str pa_nil))) (pa_cons (pe_tup (pa_cons pe_str pa_nil)) (pa_cons (pe_tup (pa_cons pe_str pa_nil)) (pa_cons (pe_tup (pa_cons pe_str (pa_cons pe_str pa_nil))) pa_nil))))) (nomark _)) (pss_one (ps_ret pe_bl)) pss_nil)
    (pss_one (ps_ret (pe_and (pe_cmpR (op_eqD hu) (pe_call Y.ly.G (hr.mono (by decide)) (by rfl) Y.ly.g Y.ly.F.kp Y.ly.b .nil pass0 (pa_cons (pe_makeR0 Z.M Z.GI (hr.mono (by decide)) (by rfl) Y.SC.g passF) pa_nil)) (pe_tup pa_nil) (nomark _))
      (pe_and (pe_cmpR op_eq (pe_call Y.ma.G (hr.mono (by decide)) (by rfl) Y.ma.g Y.ma.F.kp Y.ma.b .nil pass0 (pa_cons (pe_makeR0 Z.M Z.GI (hr.mono (by decide)) (by rfl) Y.SC.g passF) pa_nil)) pe_int (nomark _))
      (pe_one (pe_cmpR (op_eqOwn Y.eqG (hr.mono (by decide)) hg Y.eqs Y.eqf Y.eqb pass0) (pe_call Y.no.G (hr.mono (by decide)) (by rfl) Y.no.g Y.no.F.kp Y.no.b .nil pass0 (pa_cons (pe_makeR0 Z.M Z.GI (hr.mono (by decide)) (by rfl) Y.SC.g passF) pa_nil)) (pe_makeR0 Z.M Z.GI (hr.mono (by decide)) (by rfl) Y.SC.g passF) (nomark _))))))))))), ?_⟩
  refine ⟨.ref a, rfl, a, ns, rfl, hS, hn, fun p cc H1 sm1 PA1 => ?_⟩
  refine ⟨6, rfl, by decide, by decide, for_range (lo := 0) (n := 6) (fun i σ H' => ∃ y2 y3 : Option V, σ = [some (.ref a), some (.ref p), y2, y3, none] ∧ PenAt H' p cc ns (45 * (i : Int))) ⟨none, none, rfl, PA1.more (by decide)⟩ (fun i σ H2 hi hp => ?_) (fun σ H2 hp => ?_)⟩
  · obtain ⟨y2, y3, rfl, PA2⟩ := hp
    refine ⟨.ref p, rfl, p, cc, ns, 45 * (i : Int), 0, 10, rfl, PA2, by omega, by decide, by decide, fun l rs H3 B' PA3 hB off nlp rl n10 all few => ?_⟩
    refine ⟨.ref l, rfl, l, rs, rfl, rl, n10, all, few, fun H4 s4 => ⟨true, rfl, iteF ?_⟩⟩
    obtain ⟨qs, el, rq⟩ := rl.ex
    refine ⟨.ref l, rfl, l, qs.map V.ref, rfl, SqL.of (s4 _ _ el), fun u hu => ?_⟩
    have s5 := same_new (o := .lst (qs.map V.ref).reverse) hu
    refine ⟨u, rs.reverse, rfl, ⟨qs.reverse, by rw [upd_same, List.map_reverse], (rq.keep (s4.trans s5)).rev⟩, by rw [List.length_reverse]; exact n10, allR_perm (List.reverse_perm rs) all, few_perm (kinds_perm (List.reverse_perm rs)) few, fun H5 s6 => ⟨true, rfl, iteF ?_⟩⟩
    exact ⟨_, _, rfl, (PA3.keep (s4.trans (s5.trans s6))).more (by omega)⟩
  obtain ⟨y2, y3, rfl, PA2⟩ := hp
  refine ⟨3, rfl, by decide, by decide, for_range (lo := 0) (n := 3) (fun i σ H' => ∃ y2 y3 : Option V, σ = [some (.ref a), some (.ref p), y2, y3, none] ∧ PenAt H' p cc ns (270 + 45 * (i : Int))) ⟨_, _, rfl, PA2.more (by decide)⟩ (fun i σ H3 hi hp => ?_) (fun σ H3 hp => ?_)⟩
  · obtain ⟨y2, y3, rfl, PA2⟩ := hp
    refine ⟨.ref p, rfl, p, cc, ns, 270 + 45 * (i : Int), 1, 5, rfl, PA2, by omega, by decide, by decide, fun l rs H3 B' PA3 hB off nlp rl n5 all few => ?_⟩
    refine ⟨.ref l, rfl, l, rs, rfl, rl, by omega, all, few, fun H4 s4 => ⟨true, rfl, iteF ?_⟩⟩
    refine ⟨.ref l, rfl, l, rs, rfl, rl.keep s4, n5, all, few, fun H5 s5 => ⟨true, rfl, iteF ?_⟩⟩
    exact ⟨_, _, rfl, (PA3.keep (s4.trans s5)).more (by omega)⟩
  obtain ⟨y2, y3, rfl, PA3⟩ := hp
  clear PA1 PA2 sm1
  have nmk : (nm "y" = true ∧ nm "a" = true) ∧ nm "x" = true ∧ nm "g" = true ∧ nm "f" = true := by decide +kernel
  -- the six handlers
  refine fun x0 dx0 hx0 hd0 nx0 => ⟨x0, dx0, "y", 2, rfl, upd_same, by decide, nmk.1.1, by decide, by decide, fun G0 k0 e0 => ⟨rfl, ?_⟩⟩
  have s0 := made_same hx0 hd0 k0
  have i0 : IsH A G0 x0 (.cell "y" 2) := ⟨dx0, e0⟩
  refine fun x1 dx1 hx1 hd1 nx1 => ⟨x1, dx1, "a", rfl, upd_same, by decide, nmk.1.2, fun G1 k1 e1 => ⟨rfl, ?_⟩⟩
  have s1 := made_same hx1 hd1 k1
  have i1 : IsH A G1 x1 (.log "a") := ⟨dx1, e1⟩
  refine fun x2 dx2 hx2 hd2 nx2 => ⟨x2, dx2, rfl, upd_same, fun G2 k2 e2 => ⟨rfl, ?_⟩⟩
  have s2 := made_same hx2 hd2 k2
  have i2 : IsH A G2 x2 .cho := ⟨dx2, e2⟩
  refine fun x3 dx3 hx3 hd3 nx3 => ⟨x3, dx3, "x", 2, rfl, upd_same, by decide, nmk.2.1, by decide, by decide, fun G3 k3 e3 => ⟨rfl, ?_⟩⟩
  have s3 := made_same hx3 hd3 k3
  have i3 : IsH A G3 x3 (.cell "x" 2) := ⟨dx3, e3⟩
  refine fun x4 dx4 hx4 hd4 nx4 => ⟨x4, dx4, "g", rfl, upd_same, by decide, nmk.2.2.1, fun G4 k4 e4 => ⟨rfl, ?_⟩⟩
  have s4 := made_same hx4 hd4 k4
  have i4 : IsH A G4 x4 (.fail "g") := ⟨dx4, e4⟩
  refine fun x5 dx5 hx5 hd5 nx5 => ⟨x5, dx5, "f", rfl, upd_same, by decide, nmk.2.2.2, fun G5 k5 e5 => ⟨rfl, ?_⟩⟩
  have s5 := made_same hx5 hd5 k5
  have i5 : IsH A G5 x5 (.fail "f") := ⟨dx5, e5⟩
  have hs : Hs A G5 [x0, x1, x2, x3, x4, x5] (kinds six) := ((((((Hs.one (i0.keep s1)).add i1).keep s2 |>.add i2).keep s3 |>.add i3).keep s4 |>.add i4).keep s5 |>.add i5)
  -- the stack and its layers
  refine fun x dx hx hd nx => ⟨x, dx, [x0, x1, x2, x3, x4, x5], kinds six, rfl, upd_same, hs.keep (made_same (o := .ins C dx []) hx hd (fun _ _ _ e => e)), six_few, fun G6 k6 st6 => ⟨rfl, ?_⟩⟩
  refine ⟨x, _, rfl, st6, by decide, fun T G7 ⟨ts, yss, eT, tt, asc⟩ s7 => ?_⟩
  obtain rfl : yss = sixY := (layers_runs six_few.nd asc).trans six_runs
  have shp := shw_shaped six_shw
  have eqv := SeqAt.eqv_refl _ (SeqAt.canLay_of_shaped shp)
  clear k0 k1 k2 k3 k4 k5 e0 e1 e2 e3 e4 e5 i0 i1 i2 i3 i4 i5 s0 s1 s2 s3 s4 s5 hs
  -- told != ..
  refine ⟨.ref T, rfl, by show 2 ≤ sizeLine; decide, fun t1 h1 => ⟨by show 1 ≤ sizeLine; decide, fun t2 h2 => ⟨by show 1 ≤ sizeLine; decide, fun t3 h3 => ⟨by show 2 ≤ sizeLine; decide, fun t4 h4 => ⟨by show 4 ≤ sizeLine; decide, fun t5 h5 => ?_⟩⟩⟩⟩⟩
  have n1 := same_new (o := .tup [V.str "a", V.str "y"]) h1
  have n2 := same_new (o := .tup [V.str "choice"]) h2
  have n3 := same_new (o := .tup [V.str "x"]) h3
  have n4 := same_new (o := .tup [V.str "f", V.str "g"]) h4
  have n5 := same_new (o := .tup [V.ref t1, V.ref t2, V.ref t3, V.ref t4]) h5
  have n35 := n3.trans (n4.trans n5)
  have tt2 : TupsT _ [t1, t2, t3, t4] sixY := (((TupsT.nil.add ((n2.trans n35) _ _ upd_same)).add (n35 _ _ upd_same)).add ((n4.trans n5) _ _ upd_same)).add (n5 _ _ upd_same)
  have nn := n1.trans (n2.trans n35)
  refine ⟨_, _, dpT (nn _ _ eT) (tt.keep nn), dpT (ts := [t1, t2, t3, t4]) upd_same tt2, shp, shp, ?_⟩
  rw [eqv]
  refine ⟨false, rfl, iteF ?_⟩
  -- the empty stack
  have hnil : ∀ {H : Hp}, Hs A H [] [] := fun {H} => ⟨rfl, fun i a k e => by simp at e⟩
  refine fun x6 dx6 hx6 hd6 nx6 => ⟨x6, dx6, [], [], rfl, upd_same, hnil, few_nil, fun G8 k8 st8 => ⟨rfl, ?_⟩⟩
  refine ⟨x6, _, rfl, st8, by decide, fun T2 G9 ⟨ts2, yss2, eT2, tt3, asc2⟩ s9 => ?_⟩
  obtain rfl : yss2 = [] := List.length_eq_zero_iff.mp asc2.len
  refine ⟨by show 0 ≤ sizeLine; decide, fun u hu => ?_⟩
  have s10 := same_new (o := .tup []) hu
  refine ⟨.tuple [], .tuple [], dpT (yss := []) (s10 _ _ eT2) (tt3.keep s10), .tup (SqT.of upd_same) .nil, by decide, by decide, ?_⟩
  have en : PyData.eqv (.tuple []) (.tuple []) = true := SeqAt.eqv_refl _ (by decide)
  rw [en]
  refine ⟨true, rfl, iteT ?_⟩
  refine fun x7 dx7 hx7 hd7 nx7 => ⟨x7, dx7, [], [], rfl, upd_same, hnil, few_nil, fun G11 k11 st11 => ⟨rfl, ?_⟩⟩
  refine ⟨x7, [], rfl, st11, few_nil, by decide, fun yss3 G12 asc3 s12 => ?_⟩
  obtain rfl : yss3 = [] := List.length_eq_zero_iff.mp asc3.len
  refine ⟨rfl, true, by rw [show manyL [] = 1 from rfl]; rfl, iteT ?_⟩
  refine fun x8 dx8 hx8 hd8 nx8 => ⟨x8, dx8, [], [], rfl, upd_same, hnil, few_nil, fun G13 k13 st13 => ⟨rfl, ?_⟩⟩
  refine ⟨x8, [], rfl, st13, few_nil, fun x9 k9 G14 no14 s14 st14 => ?_⟩
  obtain rfl : k9 = [] := by
    have := (norm_perm few_nil.nd no14).length_eq
    exact List.length_eq_zero_iff.mp this
  refine fun x10 dx10 hx10 hd10 nx10 => ⟨x10, dx10, [], [], rfl, upd_same, hnil, few_nil, fun G15 k15 st15 => ⟨rfl, ?_⟩⟩
  have s15 := made_same hx10 hd10 k15
  exact eq_own Y.S Y.SC Y.Si Y.nf (st14.keep s15) st15 fun G16 s16 => rfl
end
end My
namespace My
open PySem PySem.Spec PyProof.Rows L2
def sayB : List Str → List Value → Bool
  | [], [] => true
  | k :: ks, .str x _ :: vs => decide (x = k) && sayB ks vs
  | _, _ => false
theorem say_of : ∀ (ks : List Str) (vs : List Value), sayB ks vs = true → Vals (ks.map V.str) vs
  | [], [], _ => .nil
  | k :: ks, .str x t :: vs, h => by
    unfold sayB at h
    rw [Bool.and_eq_true] at h
    have e : x = k := of_decide_eq_true h.1
    subst e
    exact .cons ⟨t, rfl⟩ (say_of ks vs h.2)
abbrev t4 {α : Type} (a0 a1 a2 a3 : α) : Nat → α
  | 0 => a0 | 1 => a1 | 2 => a2 | _ => a3
abbrev q8 {α : Type} (a0 a1 a2 a3 a4 a5 a6 a7 : α) : Nat → α
  | 0 => a0 | 1 => a1 | 2 => a2 | 3 => a3 | 4 => a4 | 5 => a5 | 6 => a6 | _ => a7
/-! ### what is asked of the written part, decided at once -/
def objB (K : PySem.W.Frag) : Bool := decide (PySem.W.specialIn K (.builtin "object.__class__") "__get__" = some (some (.builtin "getset_descriptor.__get__"))) && decide (PySem.W.takesIn K (.builtin "object.__class__") = some true)
def rdB (K : PySem.W.Frag) (C : Addr) : Bool := PySem.W.readsIn K C (.type "type") && decide (PySem.W.specialIn K (.ref C) "__getattribute__" = some (some (.builtin "type.__getattribute__")))
theorem rd_mk {K : PySem.W.Frag} {C : Addr} (h : rdB K C = true) : ClX.CRead K C (.type "type") := by
  unfold rdB at h
  simp only [Bool.and_eq_true, decide_eq_true_eq] at h
  exact ⟨h.1, h.2⟩
def clsB (K : PySem.W.Frag) (C : Addr) (fs : List Str) : Bool := PySem.W.plainGet K C Str.empty && (PySem.W.hasDictIn K C && (PySem.W.plainOver K C && (decide (PySem.W.findIn K (.ref C) "__setattr__" = some (some (.builtin "object.__setattr__"))) && ((fs.all fun f => decide (PySem.W.findIn K (.ref C) f = some none))
  && (decide (PySem.W.findIn K (.ref C) "__class__" = some (some (.builtin "object.__class__"))) && (decide (PySem.W.mroIn K C (.type "object") = some true) && (PySem.W.makesIn K C && PySem.W.keepIn K (.ref C))))))))
structure ClsF (K : PySem.W.Frag) (C : Addr) (fs : List Str) : Prop where
  c : Cls K C
  no : ∀ f ∈ fs, NoAttr K C f
  dc : PySem.W.findIn K (.ref C) "__class__" = some (some (.builtin "object.__class__"))
  mo : PySem.W.mroIn K C (.type "object") = some true
  ms : PySem.W.makesIn K C = true
  kp : PySem.W.keepIn K (.ref C) = true
theorem cls_mk {K : PySem.W.Frag} {C : Addr} {fs : List Str} (h : clsB K C fs = true) : ClsF K C fs := by
  unfold clsB at h
  simp only [Bool.and_eq_true, decide_eq_true_eq, List.all_eq_true] at h
  obtain ⟨h1, h2, h3, h4, h5, h6, h7, h8, h9⟩ := h
  exact ⟨⟨h1, h2, h3, h4⟩, h5, h6, h7, h8, h9⟩
abbrev tys : List String := ["NoneType", "bool", "int", "str", "list", "tuple", "dict"]
def pairB (K : PySem.W.Frag) (A : A4) (bK bT bH : Addr) : Bool := ((List.range 4).all fun i => ((List.range 4).all fun j => decide (PySem.W.kitOne K (.ref (A.at i)) (.ref (A.at j)) = some (decide (i = j))) && PySem.W.notFirst K (A.at i) (.ref (A.at j)))
  && (decide (PySem.W.kitOne K (.ref (A.at i)) (.ref bK) = some (decide (i < 2))) && (decide (PySem.W.kitOne K (.ref (A.at i)) (.ref bT) = some (decide (2 ≤ i))) && decide (PySem.W.kitOne K (.ref (A.at i)) (.ref bH) = some true))))
  && (tys.all fun T => decide (PySem.W.kitOne K (.type T) (.ref bK) = some false) && (decide (PySem.W.kitOne K (.type T) (.ref A.f) = some false) && (decide (PySem.W.kitOne K (.type T) (.ref bT) = some false) && decide (PySem.W.kitOne K (.type T) (.ref A.h) = some false))))
theorem pair_mk {K : PySem.W.Frag} {A : A4} {bK bT bH : Addr} (h : pairB K A bK bT bH = true) : (∀ i j, i < 4 → j < 4 → PySem.W.kitOne K (.ref (A.at i)) (.ref (A.at j)) = some (decide (i = j))) ∧ (∀ i j, i < 4 → j < 4 → PySem.W.notFirst K (A.at i) (.ref (A.at j)) = true) ∧
    (∀ i, i < 4 → PySem.W.kitOne K (.ref (A.at i)) (.ref bK) = some (decide (i < 2))) ∧ (∀ i, i < 4 → PySem.W.kitOne K (.ref (A.at i)) (.ref bT) = some (decide (2 ≤ i))) ∧ (∀ i, i < 4 → PySem.W.kitOne K (.ref (A.at i)) (.ref bH) = some true) ∧
    (∀ T ∈ tys, PySem.W.kitOne K (.type T) (.ref bK) = some false) ∧ (∀ T ∈ tys, PySem.W.kitOne K (.type T) (.ref A.f) = some false) ∧ (∀ T ∈ tys, PySem.W.kitOne K (.type T) (.ref bT) = some false) ∧ (∀ T ∈ tys, PySem.W.kitOne K (.type T) (.ref A.h) = some false) := by
  unfold pairB at h
  simp only [List.all_eq_true, List.mem_range, Bool.and_eq_true, decide_eq_true_eq] at h
  obtain ⟨h, g⟩ := h
  exact ⟨fun i j hi hj => ((h i hi).1 j hj).1, fun i j hi hj => ((h i hi).1 j hj).2, fun i hi => (h i hi).2.1, fun i hi => (h i hi).2.2.1, fun i hi => (h i hi).2.2.2, fun T hT => (g T hT).1, fun T hT => (g T hT).2.1, fun T hT => (g T hT).2.2.1, fun T hT => (g T hT).2.2.2⟩
abbrev fdOf {K : PySem.W.Frag} {x q : Str} {st : Stmt} {f : Addr} {fd : FuncData} (_ : Fun K x q st f fd) : FuncData := fd
abbrev fdD {K : PySem.W.Frag} {x q : Str} {params : Arguments} {body : List Stmt} {scope : Scope} {dvs : List V} {kws : List (Str × V)} {f : Addr} {fd : FuncData} (_ : FunD K x q params body scope dvs kws f fd) : FuncData := fd
theorem all_mk {w : World} {K : PySem.W.Frag} {h : Heap} {mg : Str → Option Value} {fa : Addr} (X : K.In h) (G : h.Ns mainGlobals mg) (hfa : mg "law" = some (.ref fa))
    {f_W : Addr} {od_W an_W : Option Addr} {sl_W : Array (Option Value)} {oc_W kV_W dc_W pm_W cd_W ct_W : Value}
    {f_D : Addr} {od_D an_D : Option Addr} {sl_D : Array (Option Value)} {oc_D kV_D dc_D pm_D cd_D ct_D : Value}
    {f_N : Addr} {od_N an_N : Option Addr} {sl_N : Array (Option Value)} {oc_N kV_N dc_N pm_N cd_N ct_N : Value}
    {f_C : Addr} {od_C an_C : Option Addr} {sl_C : Array (Option Value)} {oc_C kV_C dc_C pm_C cd_C ct_C : Value}
    {f_as : Addr} {od_as an_as : Option Addr} {sl_as : Array (Option Value)} {oc_as kV_as dc_as pm_as cd_as ct_as : Value}
    {f_mo : Addr} {od_mo an_mo : Option Addr} {sl_mo : Array (Option Value)} {oc_mo kV_mo dc_mo pm_mo cd_mo ct_mo : Value}
    {f_ck : Addr} {od_ck an_ck : Option Addr} {sl_ck : Array (Option Value)} {oc_ck kV_ck dc_ck pm_ck cd_ck ct_ck : Value}
    {f_pa : Addr} {od_pa an_pa : Option Addr} {sl_pa : Array (Option Value)} {oc_pa kV_pa dc_pa pm_pa cd_pa ct_pa : Value}
    {f_cs : Addr} {od_cs an_cs : Option Addr} {sl_cs : Array (Option Value)} {oc_cs kV_cs dc_cs pm_cs cd_cs ct_cs : Value}
    {f_ly : Addr} {od_ly an_ly : Option Addr} {sl_ly : Array (Option Value)} {oc_ly kV_ly dc_ly pm_ly cd_ly ct_ly : Value}
    {f_no : Addr} {od_no an_no : Option Addr} {sl_no : Array (Option Value)} {oc_no kV_no dc_no pm_no cd_no ct_no : Value}
    {f_my : Addr} {od_my an_my : Option Addr} {sl_my : Array (Option Value)} {oc_my kV_my dc_my pm_my cd_my ct_my : Value}
    {f_ru : Addr} {od_ru an_ru : Option Addr} {sl_ru : Array (Option Value)} {oc_ru kV_ru dc_ru pm_ru cd_ru ct_ru : Value}
    {f_pe : Addr} {od_pe an_pe : Option Addr} {sl_pe : Array (Option Value)} {oc_pe kV_pe dc_pe pm_pe cd_pe ct_pe : Value}
    {f_dr : Addr} {od_dr an_dr : Option Addr} {sl_dr : Array (Option Value)} {oc_dr kV_dr dc_dr pm_dr cd_dr ct_dr : Value}
    {f_pi : Addr} {od_pi an_pi : Option Addr} {sl_pi : Array (Option Value)} {oc_pi kV_pi dc_pi pm_pi cd_pi ct_pi : Value}
    {f_mx : Addr} {od_mx an_mx : Option Addr} {sl_mx : Array (Option Value)} {oc_mx kV_mx dc_mx pm_mx cd_mx ct_mx : Value}
    {f_lt : Addr} {od_lt an_lt : Option Addr} {sl_lt : Array (Option Value)} {oc_lt kV_lt dc_lt pm_lt cd_lt ct_lt : Value}
    {f_ro : Addr} {od_ro an_ro : Option Addr} {sl_ro : Array (Option Value)} {oc_ro kV_ro dc_ro pm_ro cd_ro ct_ro : Value}
    {f_on : Addr} {od_on an_on : Option Addr} {sl_on : Array (Option Value)} {oc_on kV_on dc_on pm_on cd_on ct_on : Value}
    {f_st : Addr} {od_st an_st : Option Addr} {sl_st : Array (Option Value)} {oc_st kV_st dc_st pm_st cd_st ct_st : Value}
    {f_so : Addr} {od_so an_so : Option Addr} {sl_so : Array (Option Value)} {oc_so kV_so dc_so pm_so cd_so ct_so : Value}
    {f_pl : Addr} {od_pl an_pl : Option Addr} {sl_pl : Array (Option Value)} {oc_pl kV_pl dc_pl pm_pl cd_pl ct_pl : Value}
    {f_nl : Addr} {od_nl an_nl : Option Addr} {sl_nl : Array (Option Value)} {oc_nl kV_nl dc_nl pm_nl cd_nl ct_nl : Value}
    {f_al : Addr} {od_al an_al : Option Addr} {sl_al : Array (Option Value)} {oc_al kV_al dc_al pm_al cd_al ct_al : Value}
    {f_rl : Addr} {od_rl an_rl : Option Addr} {sl_rl : Array (Option Value)} {oc_rl kV_rl dc_rl pm_rl cd_rl ct_rl : Value}
    {f_pd : Addr} {od_pd an_pd : Option Addr} {sl_pd : Array (Option Value)} {oc_pd kV_pd dc_pd pm_pd cd_pd ct_pd : Value}
    {f_td : Addr} {od_td an_td : Option Addr} {sl_td : Array (Option Value)} {oc_td kV_td dc_td pm_td cd_td ct_td : Value}
    {f_sm : Addr} {od_sm an_sm : Option Addr} {sl_sm : Array (Option Value)} {oc_sm kV_sm dc_sm pm_sm cd_sm ct_sm : Value}
    {f_la : Addr} {od_la an_la : Option Addr} {sl_la : Array (Option Value)} {oc_la kV_la dc_la pm_la cd_la ct_la : Value}
    {c0 : Addr}
    {c1 : Addr}
    {c2 : Addr}
    {c3 : Addr}
    {bN : Addr}
    {bK : Addr}
    {bT : Addr}
    {bH : Addr}
    {cS : Addr}
    {f_i0 : Addr} {od_i0 an_i0 : Option Addr} {sl_i0 : Array (Option Value)} {oc_i0 kV_i0 dc_i0 pm_i0 cd_i0 ct_i0 : Value}
    {f_i1 : Addr} {od_i1 an_i1 : Option Addr} {sl_i1 : Array (Option Value)} {oc_i1 kV_i1 dc_i1 pm_i1 cd_i1 ct_i1 : Value}
    {f_i2 : Addr} {od_i2 an_i2 : Option Addr} {sl_i2 : Array (Option Value)} {oc_i2 kV_i2 dc_i2 pm_i2 cd_i2 ct_i2 : Value}
    {f_i3 : Addr} {od_i3 an_i3 : Option Addr} {sl_i3 : Array (Option Value)} {oc_i3 kV_i3 dc_i3 pm_i3 cd_i3 ct_i3 : Value}
    {f_e0 : Addr} {od_e0 an_e0 : Option Addr} {sl_e0 : Array (Option Value)} {oc_e0 kV_e0 dc_e0 pm_e0 cd_e0 ct_e0 : Value}
    {f_e1 : Addr} {od_e1 an_e1 : Option Addr} {sl_e1 : Array (Option Value)} {oc_e1 kV_e1 dc_e1 pm_e1 cd_e1 ct_e1 : Value}
    {f_e2 : Addr} {od_e2 an_e2 : Option Addr} {sl_e2 : Array (Option Value)} {oc_e2 kV_e2 dc_e2 pm_e2 cd_e2 ct_e2 : Value}
    {f_e3 : Addr} {od_e3 an_e3 : Option Addr} {sl_e3 : Array (Option Value)} {oc_e3 kV_e3 dc_e3 pm_e3 cd_e3 ct_e3 : Value}
    {f_mt : Addr} {od_mt an_mt : Option Addr} {sl_mt : Array (Option Value)} {oc_mt kV_mt dc_mt pm_mt cd_mt ct_mt : Value}
    {f_si : Addr} {od_si an_si : Option Addr} {sl_si : Array (Option Value)} {oc_si kV_si dc_si pm_si cd_si ct_si : Value}
    {f_sp : Addr} {od_sp an_sp : Option Addr} {sl_sp : Array (Option Value)} {oc_sp kV_sp dc_sp pm_sp cd_sp ct_sp : Value}
    {f_sq : Addr} {od_sq an_sq : Option Addr} {sl_sq : Array (Option Value)} {oc_sq kV_sq dc_sq pm_sq cd_sq ct_sq : Value}
    {f_it : Addr} {od_it an_it : Option Addr} {sl_it : Array (Option Value)} {oc_it kV_it dc_it pm_it cd_it ct_it : Value}
    {f_hn : Addr} {od_hn an_hn : Option Addr} {sl_hn : Array (Option Value)} {oc_hn kV_hn dc_hn pm_hn cd_hn ct_hn : Value}
    {p_of : Addr} {rs_of : List Value}
    {f_of : Addr} {od_of an_of : Option Addr} {sl_of : Array (Option Value)} {oc_of kV_of dc_of pm_of cd_of ct_of : Value}
    {T0 aK aL b0 b1 b2 : Addr} {LT : Str} {tl tn t2d u0 u1 u2 u3 u4 u5 u6 u7 u8 : Tok} {dK0 dT0 dL0 d0 d1 d2 : Option Addr} {itsK : Array Value} {nTu nT0 nL0 n0 n1 n2 : Nat} {slTu slT0 slL0 sl0 sl1 sl2 : Array (Option Value)} {oT0 : Value}
    {tv0 : Tok}
    {tv1 : Tok}
    {tv2 : Tok}
    {tv3 : Tok}
    {tle tmo : Tok}
    (a_W : PySem.W.nsIn K mainGlobals "is_whole" = some (some (.ref f_W)))
    (l_W : K.lookup f_W = some ⟨oc_W, od_W, .func (PySem.W.fnOf "is_whole" "is_whole" (defArgs sWhole) (defBody sWhole) (defScope sWhole) .none kV_W dc_W pm_W an_W cd_W ct_W), sl_W⟩)
    (c_W : PySem.W.codeIn K cd_W "is_whole" = true)
    (k_W : PySem.W.keepIn K (.ref f_W) = true)
    (a_D : PySem.W.nsIn K mainGlobals "is_word" = some (some (.ref f_D)))
    (l_D : K.lookup f_D = some ⟨oc_D, od_D, .func (PySem.W.fnOf "is_word" "is_word" (defArgs sWord) (defBody sWord) (defScope sWord) .none kV_D dc_D pm_D an_D cd_D ct_D), sl_D⟩)
    (c_D : PySem.W.codeIn K cd_D "is_word" = true)
    (k_D : PySem.W.keepIn K (.ref f_D) = true)
    (a_N : PySem.W.nsIn K mainGlobals "is_name" = some (some (.ref f_N)))
    (l_N : K.lookup f_N = some ⟨oc_N, od_N, .func (PySem.W.fnOf "is_name" "is_name" (defArgs sName) (defBody sName) (defScope sName) .none kV_N dc_N pm_N an_N cd_N ct_N), sl_N⟩)
    (c_N : PySem.W.codeIn K cd_N "is_name" = true)
    (k_N : PySem.W.keepIn K (.ref f_N) = true)
    (a_C : PySem.W.nsIn K mainGlobals "check_name" = some (some (.ref f_C)))
    (l_C : K.lookup f_C = some ⟨oc_C, od_C, .func (PySem.W.fnOf "check_name" "check_name" (defArgs sCheck) (defBody sCheck) (defScope sCheck) .none kV_C dc_C pm_C an_C cd_C ct_C), sl_C⟩)
    (c_C : PySem.W.codeIn K cd_C "check_name" = true)
    (k_C : PySem.W.keepIn K (.ref f_C) = true)
    (a_as : PySem.W.nsIn K mainGlobals "ascending" = some (some (.ref f_as)))
    (l_as : K.lookup f_as = some ⟨oc_as, od_as, .func (PySem.W.fnOf "ascending" "ascending" (defArgs sAsc) (defBody sAsc) (defScope sAsc) .none kV_as dc_as pm_as an_as cd_as ct_as), sl_as⟩)
    (c_as : PySem.W.codeIn K cd_as "ascending" = true)
    (k_as : PySem.W.keepIn K (.ref f_as) = true)
    (a_mo : PySem.W.nsIn K mainGlobals "_meet_one_way" = some (some (.ref f_mo)))
    (l_mo : K.lookup f_mo = some ⟨oc_mo, od_mo, .func (PySem.W.fnOf "_meet_one_way" "_meet_one_way" (defArgs sMeet1) (defBody sMeet1) (defScope sMeet1) .none kV_mo dc_mo pm_mo an_mo cd_mo ct_mo), sl_mo⟩)
    (c_mo : PySem.W.codeIn K cd_mo "_meet_one_way" = true)
    (k_mo : PySem.W.keepIn K (.ref f_mo) = true)
    (a_ck : PySem.W.nsIn K mainGlobals "_check_handlers" = some (some (.ref f_ck)))
    (l_ck : K.lookup f_ck = some ⟨oc_ck, od_ck, .func (PySem.W.fnOf "_check_handlers" "_check_handlers" (defArgs sChkH) (defBody sChkH) (defScope sChkH) .none kV_ck dc_ck pm_ck an_ck cd_ck ct_ck), sl_ck⟩)
    (c_ck : PySem.W.codeIn K cd_ck "_check_handlers" = true)
    (k_ck : PySem.W.keepIn K (.ref f_ck) = true)
    (a_pa : PySem.W.nsIn K mainGlobals "_pairs_of" = some (some (.ref f_pa)))
    (l_pa : K.lookup f_pa = some ⟨oc_pa, od_pa, .func (PySem.W.fnOf "_pairs_of" "_pairs_of" (defArgs sPairs) (defBody sPairs) (defScope sPairs) .none kV_pa dc_pa pm_pa an_pa cd_pa ct_pa), sl_pa⟩)
    (c_pa : PySem.W.codeIn K cd_pa "_pairs_of" = true)
    (k_pa : PySem.W.keepIn K (.ref f_pa) = true)
    (a_cs : PySem.W.nsIn K mainGlobals "check_stack" = some (some (.ref f_cs)))
    (l_cs : K.lookup f_cs = some ⟨oc_cs, od_cs, .func (PySem.W.fnOf "check_stack" "check_stack" (defArgs sCheckS) (defBody sCheckS) (defScope sCheckS) .none kV_cs dc_cs pm_cs an_cs cd_cs ct_cs), sl_cs⟩)
    (c_cs : PySem.W.codeIn K cd_cs "check_stack" = true)
    (k_cs : PySem.W.keepIn K (.ref f_cs) = true)
    (a_ly : PySem.W.nsIn K mainGlobals "layers" = some (some (.ref f_ly)))
    (l_ly : K.lookup f_ly = some ⟨oc_ly, od_ly, .func (PySem.W.fnOf "layers" "layers" (defArgs sLayers) (defBody sLayers) (defScope sLayers) .none kV_ly dc_ly pm_ly an_ly cd_ly ct_ly), sl_ly⟩)
    (c_ly : PySem.W.codeIn K cd_ly "layers" = true)
    (k_ly : PySem.W.keepIn K (.ref f_ly) = true)
    (a_no : PySem.W.nsIn K mainGlobals "normal" = some (some (.ref f_no)))
    (l_no : K.lookup f_no = some ⟨oc_no, od_no, .func (PySem.W.fnOf "normal" "normal" (defArgs sNormal) (defBody sNormal) (defScope sNormal) .none kV_no dc_no pm_no an_no cd_no ct_no), sl_no⟩)
    (c_no : PySem.W.codeIn K cd_no "normal" = true)
    (k_no : PySem.W.keepIn K (.ref f_no) = true)
    (a_my : PySem.W.nsIn K mainGlobals "many_in" = some (some (.ref f_my)))
    (l_my : K.lookup f_my = some ⟨oc_my, od_my, .func (PySem.W.fnOf "many_in" "many_in" (defArgs sManyIn) (defBody sManyIn) (defScope sManyIn) .none kV_my dc_my pm_my an_my cd_my ct_my), sl_my⟩)
    (c_my : PySem.W.codeIn K cd_my "many_in" = true)
    (k_my : PySem.W.keepIn K (.ref f_my) = true)
    (a_ru : PySem.W.nsIn K mainGlobals "_runs" = some (some (.ref f_ru)))
    (l_ru : K.lookup f_ru = some ⟨oc_ru, od_ru, .func (PySem.W.fnOf "_runs" "_runs" (defArgs sRuns) (defBody sRuns) (defScope sRuns) .none kV_ru dc_ru pm_ru an_ru cd_ru ct_ru), sl_ru⟩)
    (c_ru : PySem.W.codeIn K cd_ru "_runs" = true)
    (k_ru : PySem.W.keepIn K (.ref f_ru) = true)
    (a_pe : PySem.W.nsIn K mainGlobals "_law_pen" = some (some (.ref f_pe)))
    (l_pe : K.lookup f_pe = some ⟨oc_pe, od_pe, .func (PySem.W.fnOf "_law_pen" "_law_pen" (defArgs sPen) (defBody sPen) (defScope sPen) .none kV_pe dc_pe pm_pe an_pe cd_pe ct_pe), sl_pe⟩)
    (c_pe : PySem.W.codeIn K cd_pe "_law_pen" = true)
    (k_pe : PySem.W.keepIn K (.ref f_pe) = true)
    (a_dr : PySem.W.nsIn K mainGlobals "_law_draw" = some (some (.ref f_dr)))
    (l_dr : K.lookup f_dr = some ⟨oc_dr, od_dr, .func (PySem.W.fnOf "_law_draw" "_law_draw" (defArgs sDraw) (defBody sDraw) (defScope sDraw) .none kV_dr dc_dr pm_dr an_dr cd_dr ct_dr), sl_dr⟩)
    (c_dr : PySem.W.codeIn K cd_dr "_law_draw" = true)
    (k_dr : PySem.W.keepIn K (.ref f_dr) = true)
    (a_pi : PySem.W.nsIn K mainGlobals "_law_pick" = some (some (.ref f_pi)))
    (l_pi : K.lookup f_pi = some ⟨oc_pi, od_pi, .func (PySem.W.fnOf "_law_pick" "_law_pick" (defArgs sPick) (defBody sPick) (defScope sPick) .none kV_pi dc_pi pm_pi an_pi cd_pi ct_pi), sl_pi⟩)
    (c_pi : PySem.W.codeIn K cd_pi "_law_pick" = true)
    (k_pi : PySem.W.keepIn K (.ref f_pi) = true)
    (a_mx : PySem.W.nsIn K mainGlobals "_law_mixed" = some (some (.ref f_mx)))
    (l_mx : K.lookup f_mx = some ⟨oc_mx, od_mx, .func (PySem.W.fnOf "_law_mixed" "_law_mixed" (defArgs sMixed) (defBody sMixed) (defScope sMixed) .none kV_mx dc_mx pm_mx an_mx cd_mx ct_mx), sl_mx⟩)
    (c_mx : PySem.W.codeIn K cd_mx "_law_mixed" = true)
    (k_mx : PySem.W.keepIn K (.ref f_mx) = true)
    (a_lt : PySem.W.nsIn K mainGlobals "_law_let" = some (some (.ref f_lt)))
    (l_lt : K.lookup f_lt = some ⟨oc_lt, od_lt, .func (PySem.W.fnOf "_law_let" "_law_let" (defArgs sLet) (defBody sLet) (defScope sLet) .none kV_lt dc_lt pm_lt an_lt cd_lt ct_lt), sl_lt⟩)
    (c_lt : PySem.W.codeIn K cd_lt "_law_let" = true)
    (k_lt : PySem.W.keepIn K (.ref f_lt) = true)
    (a_ro : PySem.W.nsIn K mainGlobals "_law_rows" = some (some (.ref f_ro)))
    (l_ro : K.lookup f_ro = some ⟨oc_ro, od_ro, .func (PySem.W.fnOf "_law_rows" "_law_rows" (defArgs sRows) (defBody sRows) (defScope sRows) .none kV_ro dc_ro pm_ro an_ro cd_ro ct_ro), sl_ro⟩)
    (c_ro : PySem.W.codeIn K cd_ro "_law_rows" = true)
    (k_ro : PySem.W.keepIn K (.ref f_ro) = true)
    (a_on : PySem.W.nsIn K mainGlobals "_law_one" = some (some (.ref f_on)))
    (l_on : K.lookup f_on = some ⟨oc_on, od_on, .func (PySem.W.fnOf "_law_one" "_law_one" (defArgs sOne) (defBody sOne) (defScope sOne) .none kV_on dc_on pm_on an_on cd_on ct_on), sl_on⟩)
    (c_on : PySem.W.codeIn K cd_on "_law_one" = true)
    (k_on : PySem.W.keepIn K (.ref f_on) = true)
    (a_st : PySem.W.nsIn K mainGlobals "_law_stack" = some (some (.ref f_st)))
    (l_st : K.lookup f_st = some ⟨oc_st, od_st, .func (PySem.W.fnOf "_law_stack" "_law_stack" (defArgs sStackL) (defBody sStackL) (defScope sStackL) .none kV_st dc_st pm_st an_st cd_st ct_st), sl_st⟩)
    (c_st : PySem.W.codeIn K cd_st "_law_stack" = true)
    (k_st : PySem.W.keepIn K (.ref f_st) = true)
    (a_so : PySem.W.nsIn K mainGlobals "_law_sort" = some (some (.ref f_so)))
    (l_so : K.lookup f_so = some ⟨oc_so, od_so, .func (PySem.W.fnOf "_law_sort" "_law_sort" (defArgs sSort) (defBody sSort) (defScope sSort) .none kV_so dc_so pm_so an_so cd_so ct_so), sl_so⟩)
    (c_so : PySem.W.codeIn K cd_so "_law_sort" = true)
    (k_so : PySem.W.keepIn K (.ref f_so) = true)
    (a_pl : PySem.W.nsIn K mainGlobals "_law_pairs" = some (some (.ref f_pl)))
    (l_pl : K.lookup f_pl = some ⟨oc_pl, od_pl, .func (PySem.W.fnOf "_law_pairs" "_law_pairs" (defArgs sPairsL) (defBody sPairsL) (defScope sPairsL) .none kV_pl dc_pl pm_pl an_pl cd_pl ct_pl), sl_pl⟩)
    (c_pl : PySem.W.codeIn K cd_pl "_law_pairs" = true)
    (k_pl : PySem.W.keepIn K (.ref f_pl) = true)
    (a_nl : PySem.W.nsIn K mainGlobals "_law_normal" = some (some (.ref f_nl)))
    (l_nl : K.lookup f_nl = some ⟨oc_nl, od_nl, .func (PySem.W.fnOf "_law_normal" "_law_normal" (defArgs sNormalL) (defBody sNormalL) (defScope sNormalL) .none kV_nl dc_nl pm_nl an_nl cd_nl ct_nl), sl_nl⟩)
    (c_nl : PySem.W.codeIn K cd_nl "_law_normal" = true)
    (k_nl : PySem.W.keepIn K (.ref f_nl) = true)
    (a_al : PySem.W.nsIn K mainGlobals "_law_all" = some (some (.ref f_al)))
    (l_al : K.lookup f_al = some ⟨oc_al, od_al, .func (PySem.W.fnOf "_law_all" "_law_all" (defArgs sAll) (defBody sAll) (defScope sAll) .none kV_al dc_al pm_al an_al cd_al ct_al), sl_al⟩)
    (c_al : PySem.W.codeIn K cd_al "_law_all" = true)
    (k_al : PySem.W.keepIn K (.ref f_al) = true)
    (a_rl : PySem.W.nsIn K mainGlobals "_law_runs" = some (some (.ref f_rl)))
    (l_rl : K.lookup f_rl = some ⟨oc_rl, od_rl, .func (PySem.W.fnOf "_law_runs" "_law_runs" (defArgs sRunsL) (defBody sRunsL) (defScope sRunsL) .none kV_rl dc_rl pm_rl an_rl cd_rl ct_rl), sl_rl⟩)
    (c_rl : PySem.W.codeIn K cd_rl "_law_runs" = true)
    (k_rl : PySem.W.keepIn K (.ref f_rl) = true)
    (a_pd : PySem.W.nsIn K mainGlobals "_law_product" = some (some (.ref f_pd)))
    (l_pd : K.lookup f_pd = some ⟨oc_pd, od_pd, .func (PySem.W.fnOf "_law_product" "_law_product" (defArgs sProduct) (defBody sProduct) (defScope sProduct) .none kV_pd dc_pd pm_pd an_pd cd_pd ct_pd), sl_pd⟩)
    (c_pd : PySem.W.codeIn K cd_pd "_law_product" = true)
    (k_pd : PySem.W.keepIn K (.ref f_pd) = true)
    (a_td : PySem.W.nsIn K mainGlobals "_law_told_right" = some (some (.ref f_td)))
    (l_td : K.lookup f_td = some ⟨oc_td, od_td, .func (PySem.W.fnOf "_law_told_right" "_law_told_right" (defArgs sTold) (defBody sTold) (defScope sTold) .none kV_td dc_td pm_td an_td cd_td ct_td), sl_td⟩)
    (c_td : PySem.W.codeIn K cd_td "_law_told_right" = true)
    (k_td : PySem.W.keepIn K (.ref f_td) = true)
    (a_sm : PySem.W.nsIn K mainGlobals "_law_small_right" = some (some (.ref f_sm)))
    (l_sm : K.lookup f_sm = some ⟨oc_sm, od_sm, .func (PySem.W.fnOf "_law_small_right" "_law_small_right" (defArgs sSmall) (defBody sSmall) (defScope sSmall) .none kV_sm dc_sm pm_sm an_sm cd_sm ct_sm), sl_sm⟩)
    (c_sm : PySem.W.codeIn K cd_sm "_law_small_right" = true)
    (k_sm : PySem.W.keepIn K (.ref f_sm) = true)
    (a_la : PySem.W.nsIn K mainGlobals "law" = some (some (.ref f_la)))
    (l_la : K.lookup f_la = some ⟨oc_la, od_la, .func (PySem.W.fnOf "law" "law" (defArgs sLaw) (defBody sLaw) (defScope sLaw) .none kV_la dc_la pm_la an_la cd_la ct_la), sl_la⟩)
    (c_la : PySem.W.codeIn K cd_la "law" = true)
    (k_la : PySem.W.keepIn K (.ref f_la) = true)
    (g_c0 : PySem.W.nsIn K mainGlobals "Cell" = some (some (.ref c0)))
    (g_c1 : PySem.W.nsIn K mainGlobals "Log" = some (some (.ref c1)))
    (g_c2 : PySem.W.nsIn K mainGlobals "Failure" = some (some (.ref c2)))
    (g_c3 : PySem.W.nsIn K mainGlobals "Choice" = some (some (.ref c3)))
    (g_bN : PySem.W.nsIn K mainGlobals "Named" = some (some (.ref bN)))
    (g_bK : PySem.W.nsIn K mainGlobals "Keeping" = some (some (.ref bK)))
    (g_bT : PySem.W.nsIn K mainGlobals "Turning" = some (some (.ref bT)))
    (g_bH : PySem.W.nsIn K mainGlobals "Handler" = some (some (.ref bH)))
    (g_cS : PySem.W.nsIn K mainGlobals "Stack" = some (some (.ref cS)))
    (m_i0 : PySem.W.findIn K (.ref c0) "__init__" = some (some (.ref f_i0)))
    (l_i0 : K.lookup f_i0 = some ⟨oc_i0, od_i0, .func (PySem.W.fnOf "__init__" "Cell.__init__" (defArgs sCellI) (defBody sCellI) (defScope sCellI) (.ref T0) kV_i0 dc_i0 pm_i0 an_i0 cd_i0 ct_i0), sl_i0⟩)
    (c_i0 : PySem.W.codeIn K cd_i0 "Cell.__init__" = true)
    (k_i0 : PySem.W.keepIn K (.ref f_i0) = true)
    (n_i0 : PySem.W.isFn K (.ref f_i0) = true)
    (m_i1 : PySem.W.findIn K (.ref c1) "__init__" = some (some (.ref f_i1)))
    (l_i1 : K.lookup f_i1 = some ⟨oc_i1, od_i1, .func (PySem.W.fnOf "__init__" "Log.__init__" (defArgs sLogI) (defBody sLogI) (defScope sLogI) .none kV_i1 dc_i1 pm_i1 an_i1 cd_i1 ct_i1), sl_i1⟩)
    (c_i1 : PySem.W.codeIn K cd_i1 "Log.__init__" = true)
    (k_i1 : PySem.W.keepIn K (.ref f_i1) = true)
    (n_i1 : PySem.W.isFn K (.ref f_i1) = true)
    (m_i2 : PySem.W.findIn K (.ref c2) "__init__" = some (some (.ref f_i2)))
    (l_i2 : K.lookup f_i2 = some ⟨oc_i2, od_i2, .func (PySem.W.fnOf "__init__" "Failure.__init__" (defArgs sFailI) (defBody sFailI) (defScope sFailI) .none kV_i2 dc_i2 pm_i2 an_i2 cd_i2 ct_i2), sl_i2⟩)
    (c_i2 : PySem.W.codeIn K cd_i2 "Failure.__init__" = true)
    (k_i2 : PySem.W.keepIn K (.ref f_i2) = true)
    (n_i2 : PySem.W.isFn K (.ref f_i2) = true)
    (m_i3 : PySem.W.findIn K (.ref c3) "__init__" = some (some (.ref f_i3)))
    (l_i3 : K.lookup f_i3 = some ⟨oc_i3, od_i3, .func (PySem.W.fnOf "__init__" "Choice.__init__" (defArgs sChoI) (defBody sChoI) (defScope sChoI) .none kV_i3 dc_i3 pm_i3 an_i3 cd_i3 ct_i3), sl_i3⟩)
    (c_i3 : PySem.W.codeIn K cd_i3 "Choice.__init__" = true)
    (k_i3 : PySem.W.keepIn K (.ref f_i3) = true)
    (n_i3 : PySem.W.isFn K (.ref f_i3) = true)
    (m_e0 : PySem.W.findIn K (.ref c0) "__eq__" = some (some (.ref f_e0)))
    (l_e0 : K.lookup f_e0 = some ⟨oc_e0, od_e0, .func (PySem.W.fnOf "__eq__" "Cell.__eq__" (defArgs sCellE) (defBody sCellE) (defScope sCellE) .none kV_e0 dc_e0 pm_e0 an_e0 cd_e0 ct_e0), sl_e0⟩)
    (c_e0 : PySem.W.codeIn K cd_e0 "Cell.__eq__" = true)
    (k_e0 : PySem.W.keepIn K (.ref f_e0) = true)
    (n_e0 : PySem.W.isFn K (.ref f_e0) = true)
    (m_e1 : PySem.W.findIn K (.ref c1) "__eq__" = some (some (.ref f_e1)))
    (l_e1 : K.lookup f_e1 = some ⟨oc_e1, od_e1, .func (PySem.W.fnOf "__eq__" "Log.__eq__" (defArgs sLogE) (defBody sLogE) (defScope sLogE) .none kV_e1 dc_e1 pm_e1 an_e1 cd_e1 ct_e1), sl_e1⟩)
    (c_e1 : PySem.W.codeIn K cd_e1 "Log.__eq__" = true)
    (k_e1 : PySem.W.keepIn K (.ref f_e1) = true)
    (n_e1 : PySem.W.isFn K (.ref f_e1) = true)
    (m_e2 : PySem.W.findIn K (.ref c2) "__eq__" = some (some (.ref f_e2)))
    (l_e2 : K.lookup f_e2 = some ⟨oc_e2, od_e2, .func (PySem.W.fnOf "__eq__" "Failure.__eq__" (defArgs sFailE) (defBody sFailE) (defScope sFailE) .none kV_e2 dc_e2 pm_e2 an_e2 cd_e2 ct_e2), sl_e2⟩)
    (c_e2 : PySem.W.codeIn K cd_e2 "Failure.__eq__" = true)
    (k_e2 : PySem.W.keepIn K (.ref f_e2) = true)
    (n_e2 : PySem.W.isFn K (.ref f_e2) = true)
    (m_e3 : PySem.W.findIn K (.ref c3) "__eq__" = some (some (.ref f_e3)))
    (l_e3 : K.lookup f_e3 = some ⟨oc_e3, od_e3, .func (PySem.W.fnOf "__eq__" "Choice.__eq__" (defArgs sChoE) (defBody sChoE) (defScope sChoE) .none kV_e3 dc_e3 pm_e3 an_e3 cd_e3 ct_e3), sl_e3⟩)
    (c_e3 : PySem.W.codeIn K cd_e3 "Choice.__eq__" = true)
    (k_e3 : PySem.W.keepIn K (.ref f_e3) = true)
    (n_e3 : PySem.W.isFn K (.ref f_e3) = true)
    (m_mt : PySem.W.findIn K (.ref c0) "meets" = some (some (.ref f_mt)))
    (l_mt : K.lookup f_mt = some ⟨oc_mt, od_mt, .func (PySem.W.fnOf "meets" "Handler.meets" (defArgs sMeets) (defBody sMeets) (defScope sMeets) .none kV_mt dc_mt pm_mt an_mt cd_mt ct_mt), sl_mt⟩)
    (c_mt : PySem.W.codeIn K cd_mt "Handler.meets" = true)
    (k_mt : PySem.W.keepIn K (.ref f_mt) = true)
    (n_mt : PySem.W.isFn K (.ref f_mt) = true)
    (m_si : PySem.W.findIn K (.ref cS) "__init__" = some (some (.ref f_si)))
    (l_si : K.lookup f_si = some ⟨oc_si, od_si, .func (PySem.W.fnOf "__init__" "Stack.__init__" (defArgs (sStk 0)) (defBody (sStk 0)) (defScope (sStk 0)) .none kV_si dc_si pm_si an_si cd_si ct_si), sl_si⟩)
    (c_si : PySem.W.codeIn K cd_si "Stack.__init__" = true)
    (k_si : PySem.W.keepIn K (.ref f_si) = true)
    (n_si : PySem.W.isFn K (.ref f_si) = true)
    (m_sp : PySem.W.findIn K (.ref cS) "place" = some (some (.ref f_sp)))
    (l_sp : K.lookup f_sp = some ⟨oc_sp, od_sp, .func (PySem.W.fnOf "place" "Stack.place" (defArgs (sStk 9)) (defBody (sStk 9)) (defScope (sStk 9)) .none kV_sp dc_sp pm_sp an_sp cd_sp ct_sp), sl_sp⟩)
    (c_sp : PySem.W.codeIn K cd_sp "Stack.place" = true)
    (k_sp : PySem.W.keepIn K (.ref f_sp) = true)
    (n_sp : PySem.W.isFn K (.ref f_sp) = true)
    (m_sq : PySem.W.findIn K (.ref cS) "__eq__" = some (some (.ref f_sq)))
    (l_sq : K.lookup f_sq = some ⟨oc_sq, od_sq, .func (PySem.W.fnOf "__eq__" "Stack.__eq__" (defArgs (sStk 7)) (defBody (sStk 7)) (defScope (sStk 7)) .none kV_sq dc_sq pm_sq an_sq cd_sq ct_sq), sl_sq⟩)
    (c_sq : PySem.W.codeIn K cd_sq "Stack.__eq__" = true)
    (k_sq : PySem.W.keepIn K (.ref f_sq) = true)
    (n_sq : PySem.W.isFn K (.ref f_sq) = true)
    (m_it : PySem.W.findIn K (.ref cS) "__iter__" = some (some (.ref f_it)))
    (l_it : K.lookup f_it = some ⟨oc_it, od_it, .func (PySem.W.fnOf "__iter__" "Stack.__iter__" (defArgs (sStk 4)) (defBody (sStk 4)) (defScope (sStk 4)) .none kV_it dc_it pm_it an_it cd_it ct_it), sl_it⟩)
    (c_it : PySem.W.codeIn K cd_it "Stack.__iter__" = true)
    (k_it : PySem.W.keepIn K (.ref f_it) = true)
    (n_it : PySem.W.isFn K (.ref f_it) = true)
    (m_hn : PySem.W.findIn K (.ref cS) "handler" = some (some (.ref f_hn)))
    (l_hn : K.lookup f_hn = some ⟨oc_hn, od_hn, .func (PySem.W.fnOf "handler" "Stack.handler" (defArgs (sStk 10)) (defBody (sStk 10)) (defScope (sStk 10)) .none kV_hn dc_hn pm_hn an_hn cd_hn ct_hn), sl_hn⟩)
    (c_hn : PySem.W.codeIn K cd_hn "Stack.handler" = true)
    (k_hn : PySem.W.keepIn K (.ref f_hn) = true)
    (n_hn : PySem.W.isFn K (.ref f_hn) = true)
    (mt1 : PySem.W.findIn K (.ref c1) "meets" = some (some (.ref f_mt)))
    (mt2 : PySem.W.findIn K (.ref c2) "meets" = some (some (.ref f_mt)))
    (mt3 : PySem.W.findIn K (.ref c3) "meets" = some (some (.ref f_mt)))
    (cm_of : PySem.W.findCls K (.ref cS) (.type "type") "of" = some (.get (.builtin "staticmethod.__get__") (.ref p_of) .none (.ref cS)))
    (rc_of : PySem.W.recIn K p_of "staticmethod" = some (.ref f_of :: rs_of))
    (l_of : K.lookup f_of = some ⟨oc_of, od_of, .func (PySem.W.fnOf "of" "Stack.of" (defArgs (sStk 1)) (defBody (sStk 1)) (defScope (sStk 1)) .none kV_of dc_of pm_of an_of cd_of ct_of), sl_of⟩)
    (c_of : PySem.W.codeIn K cd_of "Stack.of" = true)
    (k_of : PySem.W.keepIn K (.ref f_of) = true)
    (lT0 : K.lookup T0 = some ⟨oT0, dT0, .seq #[.int 2 t2d] nT0, slT0⟩)
    (gL : PySem.W.nsIn K mainGlobals "LETTERS" = some (some (.str LT tl)))
    (eL : decide (LT = abc) = true)
    (gLo : PySem.W.nsIn K mainGlobals "LONGEST" = some (some (.int 8 tn)))
    (gK : PySem.W.nsIn K mainGlobals "KEPT_WORDS" = some (some (.ref aK)))
    (lK0 : K.lookup aK = some ⟨.type "tuple", dK0, .seq itsK nTu, slTu⟩)
    (vK : sayB kept itsK.toList = true)
    (zK : decide (itsK.size ≤ sizeLine) = true)
    (gLi : PySem.W.nsIn K mainGlobals "LIMITS" = some (some (.ref aL)))
    (lL0 : K.lookup aL = some ⟨.type "tuple", dL0, .seq #[.ref b0, .ref b1, .ref b2] nL0, slL0⟩)
    (lb0 : K.lookup b0 = some ⟨.type "tuple", d0, .seq #[.str "cell" u0, .str "cells" u1, .int 4 u2] n0, sl0⟩)
    (lb1 : K.lookup b1 = some ⟨.type "tuple", d1, .seq #[.str "log" u3, .str "logs" u4, .int 2 u5] n1, sl1⟩)
    (lb2 : K.lookup b2 = some ⟨.type "tuple", d2, .seq #[.str "failure" u6, .str "failures" u7, .int 3 u8] n2, sl2⟩)
    (z_iter : PySem.W.nsIn K mainGlobals "iter" = some none)
    (gfa : PySem.W.nsIn K mainGlobals "factorial" = some (some (.builtin "math.factorial")))
    (nes : PySem.W.findIn K (.ref cS) "__ne__" = some (some (.builtin "object.__ne__")))
    (z_int : PySem.W.nsIn K mainGlobals "int" = some none)
    (z_bool : PySem.W.nsIn K mainGlobals "bool" = some none)
    (z_len : PySem.W.nsIn K mainGlobals "len" = some none)
    (z_abs : PySem.W.nsIn K mainGlobals "abs" = some none)
    (z_list : PySem.W.nsIn K mainGlobals "list" = some none)
    (z_tuple : PySem.W.nsIn K mainGlobals "tuple" = some none)
    (z_dict : PySem.W.nsIn K mainGlobals "dict" = some none)
    (z_range : PySem.W.nsIn K mainGlobals "range" = some none)
    (z_isinstance : PySem.W.nsIn K mainGlobals "isinstance" = some none)
    (z_str : PySem.W.nsIn K mainGlobals "str" = some none)
    (z_all : PySem.W.nsIn K mainGlobals "all" = some none)
    (z_repr : PySem.W.nsIn K mainGlobals "repr" = some none)
    (z_any : PySem.W.nsIn K mainGlobals "any" = some none)
    (z_enumerate : PySem.W.nsIn K mainGlobals "enumerate" = some none)
    (z_set : PySem.W.nsIn K mainGlobals "set" = some none)
    (z_sorted : PySem.W.nsIn K mainGlobals "sorted" = some none)
    (z_ValueError : PySem.W.nsIn K mainGlobals "ValueError" = some none)
    (v0 : PySem.W.findIn K (.ref c0) "WORD" = some (some (.str "cell" tv0)))
    (vg0 : PySem.W.specialIn K (.str "cell" tv0) "__get__" = some none)
    (v1 : PySem.W.findIn K (.ref c1) "WORD" = some (some (.str "log" tv1)))
    (vg1 : PySem.W.specialIn K (.str "log" tv1) "__get__" = some none)
    (v2 : PySem.W.findIn K (.ref c2) "WORD" = some (some (.str "failure" tv2)))
    (vg2 : PySem.W.specialIn K (.str "failure" tv2) "__get__" = some none)
    (v3 : PySem.W.findIn K (.ref c3) "WORD" = some (some (.str "choice" tv3)))
    (vg3 : PySem.W.specialIn K (.str "choice" tv3) "__get__" = some none)
    (vle : PySem.W.findCls K (.ref c0) (.type "type") "LEAST" = some (.val (.int 2 tle)))
    (vmo : PySem.W.findCls K (.ref c0) (.type "type") "MOST" = some (.val (.int 4 tmo)))
    (hB0 : clsB K c0 ["name", "size"] = true)
    (hB1 : clsB K c1 ["name", "size"] = true)
    (hB2 : clsB K c2 ["name", "size"] = true)
    (hB3 : clsB K c3 ["name", "size"] = true)
    (hBS : clsB K cS ["handlers", "names", "shared", "own", "gathering", "pairs"] = true)
    (rd_c0 : rdB K c0 = true)
    (rd_cS : rdB K cS = true)
    (kSS : PySem.W.kitOne K (.ref cS) (.ref cS) = some true)
    (nfS : PySem.W.notFirst K cS (.ref cS) = true)
    (hP : pairB K ⟨c0, c1, c2, c3⟩ bK bT bH = true)
    (hO : objB K = true) :
    ∃ fd : FuncData, Fun K "law" "law" sLaw fa fd ∧ FnScope nLaw ["_law_script"] (defScope sLaw) ∧ (∀ (s : Shared) (u : Value), BindsTo s fd ⟨[u], []⟩ [("_law_script", u)]) ∧ LawBody PySem.Challenge.rw_layerseen_k38_runs_and_normal_stacks w K mg 63 nLaw "law" sLaw fa := by
  have e := hfa.symm.trans (PySem.W.mg_of X G a_la)
  cases e
  have eL' : LT = abc := of_decide_eq_true eL
  subst eL'
  have F_W := fun_mk (st := sWhole) l_W c_W k_W
  have F_D := fun_mk (st := sWord) l_D c_D k_D
  have F_N := fun_mk (st := sName) l_N c_N k_N
  have F_C := fun_mk (st := sCheck) l_C c_C k_C
  have F_as := fun_mk (st := sAsc) l_as c_as k_as
  have F_mo := fun_mk (st := sMeet1) l_mo c_mo k_mo
  have F_ck := fun_mk (st := sChkH) l_ck c_ck k_ck
  have F_pa := fun_mk (st := sPairs) l_pa c_pa k_pa
  have F_cs := fun_mk (st := sCheckS) l_cs c_cs k_cs
  have F_ly := fun_mk (st := sLayers) l_ly c_ly k_ly
  have F_no := fun_mk (st := sNormal) l_no c_no k_no
  have F_my := fun_mk (st := sManyIn) l_my c_my k_my
  have F_ru := fun_mk (st := sRuns) l_ru c_ru k_ru
  have F_pe := fun_mk (st := sPen) l_pe c_pe k_pe
  have F_dr := fun_mk (st := sDraw) l_dr c_dr k_dr
  have F_pi := fun_mk (st := sPick) l_pi c_pi k_pi
  have F_mx := fun_mk (st := sMixed) l_mx c_mx k_mx
  have F_lt := fun_mk (st := sLet) l_lt c_lt k_lt
  have F_ro := fun_mk (st := sRows) l_ro c_ro k_ro
  have F_on := fun_mk (st := sOne) l_on c_on k_on
  have F_st := fun_mk (st := sStackL) l_st c_st k_st
  have F_so := fun_mk (st := sSort) l_so c_so k_so
  have F_pl := fun_mk (st := sPairsL) l_pl c_pl k_pl
  have F_nl := fun_mk (st := sNormalL) l_nl c_nl k_nl
  have F_al := fun_mk (st := sAll) l_al c_al k_al
  have F_rl := fun_mk (st := sRunsL) l_rl c_rl k_rl
  have F_pd := fun_mk (st := sProduct) l_pd c_pd k_pd
  have F_td := fun_mk (st := sTold) l_td c_td k_td
  have F_sm := fun_mk (st := sSmall) l_sm c_sm k_sm
  have F_la := fun_mk (st := sLaw) l_la c_la k_la
  have F_i1 := fun_mk (st := sLogI) l_i1 c_i1 k_i1
  have F_i2 := fun_mk (st := sFailI) l_i2 c_i2 k_i2
  have F_i3 := fun_mk (st := sChoI) l_i3 c_i3 k_i3
  have F_e0 := fun_mk (st := sCellE) l_e0 c_e0 k_e0
  have F_e1 := fun_mk (st := sLogE) l_e1 c_e1 k_e1
  have F_e2 := fun_mk (st := sFailE) l_e2 c_e2 k_e2
  have F_e3 := fun_mk (st := sChoE) l_e3 c_e3 k_e3
  have F_mt := fun_mk (st := sMeets) l_mt c_mt k_mt
  have F_si := fun_mk (st := (sStk 0)) l_si c_si k_si
  have F_sp := fun_mk (st := (sStk 9)) l_sp c_sp k_sp
  have F_sq := fun_mk (st := (sStk 7)) l_sq c_sq k_sq
  have F_it := fun_mk (st := (sStk 4)) l_it c_it k_it
  have F_hn := fun_mk (st := (sStk 10)) l_hn c_hn k_hn
  have F_of := fun_mk (st := (sStk 1)) l_of c_of k_of
  have B_W := F_W.binds (ps := ["value"]) fun _ _ _ _ _ _ us hl => match us, hl with | [_], _ => rfl
  have B_D := F_D.binds (ps := ["value"]) fun _ _ _ _ _ _ us hl => match us, hl with | [_], _ => rfl
  have B_N := F_N.binds (ps := ["value"]) fun _ _ _ _ _ _ us hl => match us, hl with | [_], _ => rfl
  have B_C := F_C.binds (ps := ["value"]) fun _ _ _ _ _ _ us hl => match us, hl with | [_], _ => rfl
  have B_as := F_as.binds (ps := ["names"]) fun _ _ _ _ _ _ us hl => match us, hl with | [_], _ => rfl
  have B_mo := F_mo.binds (ps := ["one", "other"]) fun _ _ _ _ _ _ us hl => match us, hl with | [_, _], _ => rfl
  have B_ck := F_ck.binds (ps := ["handlers"]) fun _ _ _ _ _ _ us hl => match us, hl with | [_], _ => rfl
  have B_pa := F_pa.binds (ps := ["handlers", "names"]) fun _ _ _ _ _ _ us hl => match us, hl with | [_, _], _ => rfl
  have B_cs := F_cs.binds (ps := ["value", "part"]) fun _ _ _ _ _ _ us hl => match us, hl with | [_, _], _ => rfl
  have B_ly := F_ly.binds (ps := ["stack"]) fun _ _ _ _ _ _ us hl => match us, hl with | [_], _ => rfl
  have B_no := F_no.binds (ps := ["stack"]) fun _ _ _ _ _ _ us hl => match us, hl with | [_], _ => rfl
  have B_my := F_my.binds (ps := ["stack"]) fun _ _ _ _ _ _ us hl => match us, hl with | [_], _ => rfl
  have B_ru := F_ru.binds (ps := ["handlers"]) fun _ _ _ _ _ _ us hl => match us, hl with | [_], _ => rfl
  have B_pe := F_pe.binds (ps := ["_law_script"]) fun _ _ _ _ _ _ us hl => match us, hl with | [_], _ => rfl
  have B_dr := F_dr.binds (ps := ["_law_pen_here", "_law_many"]) fun _ _ _ _ _ _ us hl => match us, hl with | [_, _], _ => rfl
  have B_pi := F_pi.binds (ps := ["_law_pen_here", "_law_some"]) fun _ _ _ _ _ _ us hl => match us, hl with | [_, _], _ => rfl
  have B_mx := F_mx.binds (ps := ["_law_pen_here", "_law_some"]) fun _ _ _ _ _ _ us hl => match us, hl with | [_, _], _ => rfl
  have B_lt := F_lt.binds (ps := ["_law_rows_here"]) fun _ _ _ _ _ _ us hl => match us, hl with | [_], _ => rfl
  have B_ro := F_ro.binds (ps := ["_law_pen_here", "_law_least", "_law_most"]) fun _ _ _ _ _ _ us hl => match us, hl with | [_, _, _], _ => rfl
  have B_on := F_on.binds (ps := ["_law_row"]) fun _ _ _ _ _ _ us hl => match us, hl with | [_], _ => rfl
  have B_st := F_st.binds (ps := ["_law_rows_here"]) fun _ _ _ _ _ _ us hl => match us, hl with | [_], _ => rfl
  have B_so := F_so.binds (ps := ["_law_row"]) fun _ _ _ _ _ _ us hl => match us, hl with | [_], _ => rfl
  have B_pl := F_pl.binds (ps := ["_law_rows_here"]) fun _ _ _ _ _ _ us hl => match us, hl with | [_], _ => rfl
  have B_nl := F_nl.binds (ps := ["_law_rows_here"]) fun _ _ _ _ _ _ us hl => match us, hl with | [_], _ => rfl
  have B_al := F_al.binds (ps := ["_law_rows_here"]) fun _ _ _ _ _ _ us hl => match us, hl with | [_], _ => rfl
  have B_rl := F_rl.binds (ps := ["_law_rows_here"]) fun _ _ _ _ _ _ us hl => match us, hl with | [_], _ => rfl
  have B_pd := F_pd.binds (ps := ["_law_runs_so"]) fun _ _ _ _ _ _ us hl => match us, hl with | [_], _ => rfl
  have B_td := F_td.binds (ps := ["_law_rows_here"]) fun _ _ _ _ _ _ us hl => match us, hl with | [_], _ => rfl
  have B_sm := F_sm.binds (ps := ["_law_rows_here"]) fun _ _ _ _ _ _ us hl => match us, hl with | [_], _ => rfl
  have B_i1 := F_i1.binds (ps := ["self", "name"]) fun _ _ _ _ _ _ us hl => match us, hl with | [_, _], _ => rfl
  have B_i2 := F_i2.binds (ps := ["self", "name"]) fun _ _ _ _ _ _ us hl => match us, hl with | [_, _], _ => rfl
  have B_i3 := F_i3.binds (ps := ["self"]) fun _ _ _ _ _ _ us hl => match us, hl with | [_], _ => rfl
  have B_e0 := F_e0.binds (ps := ["self", "other"]) fun _ _ _ _ _ _ us hl => match us, hl with | [_, _], _ => rfl
  have B_e1 := F_e1.binds (ps := ["self", "other"]) fun _ _ _ _ _ _ us hl => match us, hl with | [_, _], _ => rfl
  have B_e2 := F_e2.binds (ps := ["self", "other"]) fun _ _ _ _ _ _ us hl => match us, hl with | [_, _], _ => rfl
  have B_e3 := F_e3.binds (ps := ["self", "other"]) fun _ _ _ _ _ _ us hl => match us, hl with | [_, _], _ => rfl
  have B_mt := F_mt.binds (ps := ["self", "other"]) fun _ _ _ _ _ _ us hl => match us, hl with | [_, _], _ => rfl
  have B_sp := F_sp.binds (ps := ["self", "name"]) fun _ _ _ _ _ _ us hl => match us, hl with | [_, _], _ => rfl
  have B_sq := F_sq.binds (ps := ["self", "other"]) fun _ _ _ _ _ _ us hl => match us, hl with | [_, _], _ => rfl
  have B_it := F_it.binds (ps := ["self"]) fun _ _ _ _ _ _ us hl => match us, hl with | [_], _ => rfl
  have B_hn := F_hn.binds (ps := ["self", "name"]) fun _ _ _ _ _ _ us hl => match us, hl with | [_, _], _ => rfl
  have B_of := F_of.binds (ps := ["handlers"]) fun _ _ _ _ _ _ us hl => match us, hl with | [_], _ => rfl
  have T : Txt mg := ⟨PySem.W.mg_none_of X G z_int, PySem.W.mg_none_of X G z_bool, PySem.W.mg_none_of X G z_len, PySem.W.mg_none_of X G z_abs, PySem.W.mg_none_of X G z_list, PySem.W.mg_none_of X G z_tuple, PySem.W.mg_none_of X G z_dict, PySem.W.mg_none_of X G z_range, PySem.W.mg_none_of X G z_isinstance, PySem.W.mg_none_of X G z_str, PySem.W.mg_none_of X G z_all, PySem.W.mg_none_of X G z_repr, PySem.W.mg_none_of X G z_any, PySem.W.mg_none_of X G z_enumerate, PySem.W.mg_none_of X G z_set, PySem.W.mg_none_of X G z_sorted, PySem.W.mg_none_of X G z_ValueError⟩
  have FD0 : FunD K "__init__" "Cell.__init__" (defArgs sCellI) (defBody sCellI) (defScope sCellI) [.int 2] [] f_i0 _ := ⟨⟨oc_i0, od_i0, .ref T0, kV_i0, dc_i0, pm_i0, an_i0, cd_i0, ct_i0, sl_i0, rfl, l_i0, c_i0, .inr ⟨by simp, T0, _, [.int 2 t2d], nT0, rfl, lT0, rfl, .cons ⟨t2d, rfl⟩ .nil⟩, .inl rfl⟩, k_i0⟩
  have tK : ∀ H, SqT K H aK (kept.map V.str) := fun H => .inr ⟨_, itsK, nTu, lK0, rfl, rfl, of_decide_eq_true zK, say_of _ _ vK⟩
  have Li : Lims K mg aL b0 b1 b2 := ⟨PySem.W.mg_of X G gLi, fun H => .inr ⟨_, #[.ref b0, .ref b1, .ref b2], nL0, lL0, rfl, rfl, (by show 3 ≤ sizeLine; decide), .cons rfl (.cons rfl (.cons rfl .nil))⟩,
    fun H => .inr ⟨_, #[.str "cell" u0, .str "cells" u1, .int 4 u2], n0, lb0, rfl, rfl, (by show 3 ≤ sizeLine; decide), .cons ⟨u0, rfl⟩ (.cons ⟨u1, rfl⟩ (.cons ⟨u2, rfl⟩ .nil))⟩,
    fun H => .inr ⟨_, #[.str "log" u3, .str "logs" u4, .int 2 u5], n1, lb1, rfl, rfl, (by show 3 ≤ sizeLine; decide), .cons ⟨u3, rfl⟩ (.cons ⟨u4, rfl⟩ (.cons ⟨u5, rfl⟩ .nil))⟩,
    fun H => .inr ⟨_, #[.str "failure" u6, .str "failures" u7, .int 3 u8], n2, lb2, rfl, rfl, (by show 3 ≤ sizeLine; decide), .cons ⟨u6, rfl⟩ (.cons ⟨u7, rfl⟩ (.cons ⟨u8, rfl⟩ .nil))⟩⟩
  obtain ⟨dsA, vA, B_i0⟩ := FD0.binds1 (ps := ["self", "name", "size"]) 3 1 (by simp) rfl (fun T kV doc pm an cdv ct us its e1 e2 => match us, its, e1, e2 with | [_, _, _], [_], _, _ => ⟨_, rfl, rfl⟩)
  obtain rfl : dsA = [] := by cases vA; rfl
  have bD : ∃ ds, Vals [V.int 2] ds ∧ Binds K (fdD FD0) ["self", "name", "size"] ds := FD0.binds1 (ps := ["self", "name", "size"]) 2 0 (by simp) rfl (fun T kV doc pm an cdv ct us its e1 e2 => match us, its, e1, e2 with | [_, _], [_], _, _ => ⟨_, rfl, rfl⟩)
  obtain ⟨p1, p2, p3, p4, p5, p6, p7, p8, p9⟩ := pair_mk hP
  have C0 := cls_mk hB0
  have C1 := cls_mk hB1
  have C2 := cls_mk hB2
  have C3 := cls_mk hB3
  have CS := cls_mk hBS
  have hO' := hO
  unfold objB at hO'
  simp only [Bool.and_eq_true, decide_eq_true_eq] at hO'
  have H0' : HCls K mg "Cell" c0 := ⟨PySem.W.mg_of X G g_c0, C0.c, C0.no _ (by simp), C0.no _ (by simp)⟩
  have H1' : HCls K mg "Log" c1 := ⟨PySem.W.mg_of X G g_c1, C1.c, C1.no _ (by simp), C1.no _ (by simp)⟩
  have H2' : HCls K mg "Failure" c2 := ⟨PySem.W.mg_of X G g_c2, C2.c, C2.no _ (by simp), C2.no _ (by simp)⟩
  have H3' : HCls K mg "Choice" c3 := ⟨PySem.W.mg_of X G g_c3, C3.c, C3.no _ (by simp), C3.no _ (by simp)⟩
  have S : Hand K mg ⟨c0, c1, c2, c3⟩ := ⟨H0', H1', H2', H3', fun i hi => match i, hi with | 0, _ => C0.dc | 1, _ => C1.dc | 2, _ => C2.dc | 3, _ => C3.dc, fun i hi => match i, hi with | 0, _ => C0.mo | 1, _ => C1.mo | 2, _ => C2.mo | 3, _ => C3.mo, hO'.1, hO'.2, p1⟩
  have Ba : Bases K mg ⟨c0, c1, c2, c3⟩ bN bK bT bH := ⟨PySem.W.mg_of X G g_bN, PySem.W.mg_of X G g_bK, PySem.W.mg_of X G g_bT, PySem.W.mg_of X G g_bH, p3, p4, p5, p6, p7, p8, p9⟩
  have WC : WCon K ⟨c0, c1, c2, c3⟩ := fun i hi => match i, hi with | 0, _ => ⟨_, v0, ⟨_, rfl⟩, vg0, by decide +kernel⟩ | 1, _ => ⟨_, v1, ⟨_, rfl⟩, vg1, by decide +kernel⟩ | 2, _ => ⟨_, v2, ⟨_, rfl⟩, vg2, by decide +kernel⟩ | 3, _ => ⟨_, v3, ⟨_, rfl⟩, vg3, by decide +kernel⟩
  have SC : SCls K mg cS := ⟨PySem.W.mg_of X G g_cS, CS.c, CS.no⟩
  have Si : SIs K cS := ⟨CS.dc, CS.mo, kSS⟩
  have MS : Mk K cS f_si := ⟨CS.ms, m_si, n_si, CS.kp⟩
  have SM : SMet K cS (.type "type") "of" p_of f_of := ⟨rd_mk rd_cS, cm_of, ⟨_, rc_of⟩, k_of⟩
  refine ⟨_, F_la, scLaw, fun s v => .of_eq rfl, ?_⟩
  refine law_body (A := ⟨c0, c1, c2, c3⟩) (C := cS) (fS := f_si) (fX := (q8 f_st f_nl f_rl f_pd f_ly f_no f_my f_sq)) (fI := (t4 f_i0 f_i1 f_i2 f_i3)) (fL := (t4 f_pe f_ro f_td f_sm)) (dX := (q8 (fdOf F_st) (fdOf F_nl) (fdOf F_rl) (fdOf F_pd) (fdOf F_ly) (fdOf F_no) (fdOf F_my) (fdOf F_sq))) (dI := (t4 (fdD FD0) (fdOf F_i1) (fdOf F_i2) (fdOf F_i3))) (dL := (t4 (fdOf F_pe) (fdOf F_ro) (fdOf F_td) (fdOf F_sm))) fun base hKb hNb => ?_
  have G_D : FnOk PR w K mg base CX0 1 f_D (fdOf F_D) ["value"] (spWord K wd) := ok_word F_D T (PySem.W.mg_of X G gL) (PySem.W.mg_of X G gLo)
  have G_N : FnOk PR w K mg base CX0 2 f_N (fdOf F_N) ["value"] (spWord K nm) := ok_name F_N F_D B_D (PySem.W.mg_of X G a_D) G_D (PySem.W.mg_of X G gK) tK
  have G_C : FnOk PR w K mg base CX0 3 f_C (fdOf F_C) ["value"] spCheck := ok_check F_C F_N B_N (PySem.W.mg_of X G a_N) G_N
  have G_W : FnOk PR w K mg base CX0 1 f_W (fdOf F_W) ["value"] spWhole := ok_whole F_W T
  have G_i0 : FnOk PR w K mg base CX0 4 f_i0 (fdD FD0) ["self", "name", "size"] (spCellI c0) := ok_cellI FD0 H0' F_C B_C (PySem.W.mg_of X G a_C) G_C F_W B_W (PySem.W.mg_of X G a_W) G_W (rd_mk rd_c0) ⟨vle, ⟨_, rfl⟩⟩ ⟨vmo, ⟨_, rfl⟩⟩
  have G_i1 : FnOk PR w K mg base CX0 4 f_i1 (fdOf F_i1) ["self", "name"] (spNamed c1) := ok_logI F_i1 H1' F_C B_C (PySem.W.mg_of X G a_C) G_C
  have G_i2 : FnOk PR w K mg base CX0 4 f_i2 (fdOf F_i2) ["self", "name"] (spNamed c2) := ok_failI F_i2 H2' F_C B_C (PySem.W.mg_of X G a_C) G_C
  have G_i3 : FnOk PR w K mg base CX0 1 f_i3 (fdOf F_i3) ["self"] (spChoI c3) := ok_choI F_i3 H3'
  have MH : MkH PR w K mg base (⟨c0, c1, c2, c3⟩ : A4) (t4 f_i0 f_i1 f_i2 f_i3) (t4 (fdD FD0) (fdOf F_i1) (fdOf F_i2) (fdOf F_i3)) := ⟨⟨C0.ms, m_i0, n_i0, C0.kp⟩, B_i0, G_i0, ⟨C1.ms, m_i1, n_i1, C1.kp⟩, B_i1, G_i1, ⟨C2.ms, m_i2, n_i2, C2.kp⟩, B_i2, G_i2, ⟨C3.ms, m_i3, n_i3, C3.kp⟩, B_i3, G_i3⟩
  have G_mo : FnOk PR w K mg base CX0 1 f_mo (fdOf F_mo) ["one", "other"] (spOneWay K (⟨c0, c1, c2, c3⟩ : A4) bK bT) := ok_oneWay F_mo S T Ba
  have G_mt : FnOk PR w K mg base CX0 2 f_mt (fdOf F_mt) ["self", "other"] (spMeets K (⟨c0, c1, c2, c3⟩ : A4) bK bT) := ok_meets F_mt F_mo B_mo (PySem.W.mg_of X G a_mo) G_mo
  have MM : MeetK PR w K mg base (⟨c0, c1, c2, c3⟩ : A4) bK bT f_mt (fdOf F_mt) := ⟨fun i hi => match i, hi with | 0, _ => ⟨m_mt, n_mt, k_mt⟩ | 1, _ => ⟨mt1, n_mt, k_mt⟩ | 2, _ => ⟨mt2, n_mt, k_mt⟩ | 3, _ => ⟨mt3, n_mt, k_mt⟩, B_mt, G_mt⟩
  have G_as : FnOk PR w K mg base CX0 1 f_as (fdOf F_as) ["names"] (spAsc K) := ok_asc F_as T
  have G_ck : FnOk PR w K mg base CX0 1 f_ck (fdOf F_ck) ["handlers"] (spChk K (⟨c0, c1, c2, c3⟩ : A4)) := ok_chk F_ck S T Ba WC Li
  have G_pa : FnOk PR w K mg base CX0 3 f_pa (fdOf F_pa) ["handlers", "names"] (spPairs (⟨c0, c1, c2, c3⟩ : A4)) := ok_pairs F_pa S T Ba ⟨F_as, B_as, (PySem.W.mg_of X G a_as), G_as⟩ MM
  have G_si : FnR PR w K mg base (L2.CX PR w) 5 f_si (spIni (⟨c0, c1, c2, c3⟩ : A4) cS) := ok_ini F_si ⟨S, T, Ba, SC, ⟨F_ck, B_ck, (PySem.W.mg_of X G a_ck), G_ck⟩, ⟨F_as, B_as, (PySem.W.mg_of X G a_as), G_as⟩, ⟨F_pa, B_pa, (PySem.W.mg_of X G a_pa), G_pa⟩⟩
  have G_of : FnOk PR w K mg base CX0 7 f_of (fdOf F_of) ["handlers"] (spOf (⟨c0, c1, c2, c3⟩ : A4) cS) := ok_of F_of T SC MS G_si
  have G_sp : FnOk PR w K mg base CX0 1 f_sp (fdOf F_sp) ["self", "name"] (spPlace (⟨c0, c1, c2, c3⟩ : A4) cS) := ok_place F_sp SC
  have Ow : OwnsE PR w K mg base ⟨c0, c1, c2, c3⟩ := fun i hi => match i, hi with
    | 0, _ => ⟨f_e0, _, m_e0, n_e0, B_e0, ok_eqCell F_e0 S T, fun j hj => p2 0 j (by decide) hj⟩
    | 1, _ => ⟨f_e1, _, m_e1, n_e1, B_e1, ok_eqLog F_e1 S T, fun j hj => p2 1 j (by decide) hj⟩
    | 2, _ => ⟨f_e2, _, m_e2, n_e2, B_e2, ok_eqFail F_e2 S T, fun j hj => p2 2 j (by decide) hj⟩
    | 3, _ => ⟨f_e3, _, m_e3, n_e3, B_e3, ok_eqCho F_e3 S T, fun j hj => p2 3 j (by decide) hj⟩
  have G_sq : FnOk PR w K mg base CX0 4 f_sq (fdOf F_sq) ["self", "other"] (spEqS (⟨c0, c1, c2, c3⟩ : A4) cS) := ok_eqS F_sq T S SC Si Ow
  have It : ItS PR w K mg base (⟨c0, c1, c2, c3⟩ : A4) cS f_it (fdOf F_it) := ⟨m_it, n_it, ok_iterS F_it SC (PySem.W.mg_none_of X G z_iter), B_it⟩
  have G_hn : FnOk PR w K mg base CX0 2 f_hn (fdOf F_hn) ["self", "name"] (spHandler (⟨c0, c1, c2, c3⟩ : A4) cS) := ok_handler F_hn SC ⟨⟨m_sp, n_sp, k_sp⟩, B_sp, G_sp⟩
  have G_cs : FnOk PR w K mg base CX0 1 f_cs (fdOf F_cs) ["value", "part"] (spCheckS (⟨c0, c1, c2, c3⟩ : A4) cS) := ok_checkS F_cs T S SC Si
  have G_ru : FnOk PR w K mg base CX0 3 f_ru (fdOf F_ru) ["handlers"] (spRuns (⟨c0, c1, c2, c3⟩ : A4) cS) := ok_runs F_ru S Ba SC It MM
  have G_ly : FnOk PR w K mg base CX0 4 f_ly (fdOf F_ly) ["stack"] (spLayers (⟨c0, c1, c2, c3⟩ : A4) cS) := ok_layers F_ly T S ⟨F_cs, B_cs, (PySem.W.mg_of X G a_cs), G_cs⟩ ⟨F_ru, B_ru, (PySem.W.mg_of X G a_ru), G_ru⟩ ⟨F_as, B_as, (PySem.W.mg_of X G a_as), G_as⟩
  have G_no : FnOk PR w K mg base CX0 7 f_no (fdOf F_no) ["stack"] (spNormal (⟨c0, c1, c2, c3⟩ : A4) cS) := ok_normal F_no SC ⟨F_ly, B_ly, (PySem.W.mg_of X G a_ly), G_ly⟩ ⟨⟨m_hn, n_hn, k_hn⟩, B_hn, G_hn⟩ MS G_si
  have G_my : FnOk PR w K mg base CX0 5 f_my (fdOf F_my) ["stack"] (spMany (⟨c0, c1, c2, c3⟩ : A4) cS) := ok_many F_my T (PySem.W.mg_of X G gfa) ⟨F_ly, B_ly, (PySem.W.mg_of X G a_ly), G_ly⟩
  have G_pe : FnOk PR w K mg base CX0 1 f_pe (fdOf F_pe) ["_law_script"] (spPen K) := ok_pen F_pe T
  have G_dr : FnOk PR w K mg base CX0 1 f_dr (fdOf F_dr) ["_law_pen_here", "_law_many"] spDraw := ok_draw F_dr T
  have G_pi : FnOk PR w K mg base CX0 2 f_pi (fdOf F_pi) ["_law_pen_here", "_law_some"] spPick := ok_pick F_pi T F_dr B_dr (PySem.W.mg_of X G a_dr) G_dr
  have G_mx : FnOk PR w K mg base CX0 2 f_mx (fdOf F_mx) ["_law_pen_here", "_law_some"] (spMixed K) := ok_mixed F_mx T ⟨F_dr, B_dr, (PySem.W.mg_of X G a_dr), G_dr⟩
  have G_lt : FnOk PR w K mg base CX0 1 f_lt (fdOf F_lt) ["_law_rows_here"] spLet := ok_let F_lt
  have G_ro : FnOk PR w K mg base CX0 3 f_ro (fdOf F_ro) ["_law_pen_here", "_law_least", "_law_most"] spRowsL := ok_rowsL F_ro T ⟨F_dr, B_dr, (PySem.W.mg_of X G a_dr), G_dr⟩ ⟨F_mx, B_mx, (PySem.W.mg_of X G a_mx), G_mx⟩ ⟨F_pi, B_pi, (PySem.W.mg_of X G a_pi), G_pi⟩ ⟨F_lt, B_lt, (PySem.W.mg_of X G a_lt), G_lt⟩
  have G_on : FnOk PR w K mg base CX0 6 f_on (fdOf F_on) ["_law_row"] (spMade (⟨c0, c1, c2, c3⟩ : A4)) := ok_one F_on S MH
  have G_st : FnOk PR w K mg base CX0 8 f_st (fdOf F_st) ["_law_rows_here"] (spStacked (⟨c0, c1, c2, c3⟩ : A4) cS) := ok_stacked F_st SC ⟨F_on, B_on, (PySem.W.mg_of X G a_on), G_on⟩ SM B_of G_of
  have G_so : FnOk PR w K mg base CX0 1 f_so (fdOf F_so) ["_law_row"] spSort := ok_sort F_so
  have G_pl : FnOk PR w K mg base CX0 2 f_pl (fdOf F_pl) ["_law_rows_here"] spPairsL := ok_pairsL F_pl T ⟨F_so, B_so, (PySem.W.mg_of X G a_so), G_so⟩
  have G_nl : FnOk PR w K mg base CX0 2 f_nl (fdOf F_nl) ["_law_rows_here"] spNormL := ok_normL F_nl T ⟨F_so, B_so, (PySem.W.mg_of X G a_so), G_so⟩
  have G_rl : FnOk PR w K mg base CX0 2 f_rl (fdOf F_rl) ["_law_rows_here"] spRunsLaw := ok_runsLaw F_rl T ⟨F_so, B_so, (PySem.W.mg_of X G a_so), G_so⟩
  have G_pd : FnOk PR w K mg base CX0 1 f_pd (fdOf F_pd) ["_law_runs_so"] spProd := ok_prod F_pd T
  have G_al : ∀ n, FnOk PR w K mg base CX0 (n + 1) f_al (fdOf F_al) ["_law_rows_here"] (spAll n) := fun n => Nat.rec (ok_all0 F_al) (fun n G' => ok_allS F_al B_al (PySem.W.mg_of X G a_al) T G') n
  have TK : TolK PR w K mg base (⟨c0, c1, c2, c3⟩ : A4) cS (q8 f_st f_nl f_rl f_pd f_ly f_no f_my f_sq) (q8 (fdOf F_st) (fdOf F_nl) (fdOf F_rl) (fdOf F_pd) (fdOf F_ly) (fdOf F_no) (fdOf F_my) (fdOf F_sq)) := { T := T, S := S, SC := SC, Si := Si, stk := ⟨F_st, B_st, (PySem.W.mg_of X G a_st), G_st⟩, nrm := ⟨F_nl, B_nl, (PySem.W.mg_of X G a_nl), G_nl⟩, run := ⟨F_rl, B_rl, (PySem.W.mg_of X G a_rl), G_rl⟩, prod := ⟨F_pd, B_pd, (PySem.W.mg_of X G a_pd), G_pd⟩, ly := ⟨F_ly, B_ly, (PySem.W.mg_of X G a_ly), G_ly⟩, lyk := kwOne F_ly (fun _ _ _ _ _ _ _ => rfl), no := ⟨F_no, B_no, (PySem.W.mg_of X G a_no), G_no⟩, nok := kwOne F_no (fun _ _ _ _ _ _ _ => rfl), ma := ⟨F_my, B_my, (PySem.W.mg_of X G a_my), G_my⟩, mak := kwOne F_my (fun _ _ _ _ _ _ _ => rfl), eqG := toG G_sq, eqb := B_sq, eqs := m_sq, eqf := n_sq, nes := nes, nf := nfS }
  have SK : SmlK PR w K mg base f_al f_pl (fdOf F_al) (fdOf F_pl) := ⟨F_al, B_al, (PySem.W.mg_of X G a_al), G_al, ⟨F_pl, B_pl, (PySem.W.mg_of X G a_pl), G_pl⟩⟩
  have G_td : FnG PR w K mg base CX0 9 f_td (fdOf F_td) ["_law_rows_here"] spTold := ok_told F_td TK
  have G_sm : FnG PR w K mg base CX0 9 f_sm (fdOf F_sm) ["_law_rows_here"] spSmall := ok_small F_sm TK SK
  exact { Y := TK, MH := MH, bD := bD, M := MS, GI := G_si, pen := ⟨F_pe, B_pe, (PySem.W.mg_of X G a_pe), G_pe⟩, rows := ⟨F_ro, B_ro, (PySem.W.mg_of X G a_ro), G_ro⟩, told := ⟨k_td, B_td, (PySem.W.mg_of X G a_td), G_td⟩, small := ⟨k_sm, B_sm, (PySem.W.mg_of X G a_sm), G_sm⟩ }
end My
/-! The head writes an equation for each tree of objects on the way of the top and for each heap, some n * n nodes each, and the compiled file would be over the 256 MiB that are kept. These names stand where it would write them: it goes on without them, and the kernel reads those trees as they are. -/
def PySem.W.Fast.tw2302698085670985920 : Unit := ()
def PySem.W.Fast.tw7131342019136160481 : Unit := ()
def PySem.W.Fast.tw14371279963075968962 : Unit := ()
def PySem.W.Fast.tw16226348518106468579 : Unit := ()
def PySem.W.Fast.tw17744773618387385859 : Unit := ()
def PySem.W.Fast.tw15070489658321600099 : Unit := ()
def PySem.W.Fast.tw1281827006559910692 : Unit := ()
def PySem.W.Fast.tw5689345784067511108 : Unit := ()
def PySem.W.Fast.tw17689360308354659429 : Unit := ()
def PySem.W.Fast.tw7294601603889093925 : Unit := ()
def PySem.W.Fast.tw5294879542458658213 : Unit := ()
def PySem.W.Fast.tw817698121073221349 : Unit := ()
def PySem.W.Fast.tw17491150365176738661 : Unit := ()
def PySem.W.Fast.tw5535666877243689990 : Unit := ()
def PySem.W.Fast.tw13013364355283523782 : Unit := ()
def PySem.W.Fast.tw9014813294699857510 : Unit := ()
def PySem.W.Fast.tw4011313147253205287 : Unit := ()
def PySem.W.Fast.tw7571913218186450600 : Unit := ()
def PySem.W.Fast.tw16417122469771602985 : Unit := ()
def PySem.W.Fast.tw304853590835826890 : Unit := ()
def PySem.W.Fast.tw17616736382189168874 : Unit := ()
def PySem.W.Fast.tw7132188530985146762 : Unit := ()
def PySem.W.Fast.tw12757696318036036010 : Unit := ()
def PySem.W.Fast.tw11387569904072541739 : Unit := ()
def PySem.W.Fast.tw16309665060700399211 : Unit := ()
def PySem.W.Fast.tw563423879887652204 : Unit := ()
def PySem.W.Fast.tw11632937371145729740 : Unit := ()
def PySem.W.Fast.tw11282637552522663565 : Unit := ()
def PySem.W.Fast.tw2387178374810287278 : Unit := ()
def PySem.W.Fast.tw717608579179816782 : Unit := ()
def PySem.W.Fast.tw1527400979089710927 : Unit := ()
def PySem.W.Fast.tw2650439268316587440 : Unit := ()
def PySem.W.Fast.tw5025561901579262481 : Unit := ()
def PySem.W.Fast.tw17651494244672485554 : Unit := ()
def PySem.W.Fast.tw3727266705744425522 : Unit := ()
def PySem.W.Fast.tw10043603904356883282 : Unit := ()
def PySem.W.Fast.tw7441494571175104211 : Unit := ()
def PySem.W.Fast.tw12026954938333937716 : Unit := ()
def PySem.W.Fast.tw6789529366182212436 : Unit := ()
def PySem.W.Fast.tw4764381963365790548 : Unit := ()
def PySem.W.Fast.tw16047821232623603637 : Unit := ()
def PySem.W.Fast.tw13831787784106445398 : Unit := ()
def PySem.W.Fast.tw16445791692100902518 : Unit := ()
def PySem.W.Fast.tw13803021549411672918 : Unit := ()
def PySem.W.Fast.tw6268997810856635735 : Unit := ()
def PySem.W.Fast.tw1269554670455025848 : Unit := ()
def PySem.W.Fast.tw11272050793782361560 : Unit := ()
def PySem.W.Fast.tw3637820303621981176 : Unit := ()
def PySem.W.Fast.tw8326348421654387929 : Unit := ()
def PySem.W.Fast.tw4205118862890363226 : Unit := ()
def PySem.W.Fast.tw13512940453629349402 : Unit := ()
def PySem.W.Fast.tw3334043944791723738 : Unit := ()
def PySem.W.Fast.tw18406701748336779994 : Unit := ()
def PySem.W.Fast.tw12805219250368220026 : Unit := ()
def PySem.W.Fast.tw3140811087300418812 : Unit := ()
def PySem.W.Fast.tw16764100978915555740 : Unit := ()
def PySem.W.Fast.tw4450214589956334076 : Unit := ()
def PySem.W.Fast.tw4499431923142946430 : Unit := ()
def PySem.W.Fast.tw3947394844083516191 : Unit := ()
def PySem.W.Fast.tw16149080754285576095 : Unit := ()
def PySem.W.Fast.tw3650952823446454271 : Unit := ()
open PySem PySem.W PyProof.Rows
set_option maxHeartbeats 0 in
theorem PySem.Challenge.cw_layerseen_k38_runs_and_normal_stacks_holds : PySem.Challenge.rw_layerseen_k38_runs_and_normal_stacks.Holds := by
  w_on; o_law; k_head; (case hw => w_witness2)
  k_fill
  refine My.law_top (l := PySem.Challenge.rw_layerseen_k38_runs_and_normal_stacks) (n := 63) (N := My.nLaw) (x := "_law_script") (nm := "law") (qual := "law") (st := My.sLaw) rfl (by decide) rfl (fun w h Y => PySem.W.kIn_of Y) ?Z
  case Z =>
    intro w mg fa h KX G hmg
    refine' My.all_mk KX G hmg ?a_W ?l_W ?c_W ?k_W ?a_D ?l_D ?c_D ?k_D ?a_N ?l_N ?c_N ?k_N ?a_C ?l_C ?c_C ?k_C ?a_as ?l_as ?c_as ?k_as ?a_mo ?l_mo ?c_mo ?k_mo ?a_ck ?l_ck ?c_ck ?k_ck ?a_pa ?l_pa ?c_pa ?k_pa ?a_cs ?l_cs ?c_cs ?k_cs ?a_ly ?l_ly ?c_ly ?k_ly ?a_no ?l_no ?c_no ?k_no ?a_my ?l_my ?c_my ?k_my ?a_ru ?l_ru ?c_ru ?k_ru ?a_pe ?l_pe ?c_pe ?k_pe ?a_dr ?l_dr ?c_dr ?k_dr ?a_pi ?l_pi ?c_pi ?k_pi ?a_mx ?l_mx ?c_mx ?k_mx ?a_lt ?l_lt ?c_lt ?k_lt ?a_ro ?l_ro ?c_ro ?k_ro ?a_on ?l_on ?c_on ?k_on ?a_st ?l_st ?c_st ?k_st ?a_so ?l_so ?c_so ?k_so ?a_pl ?l_pl ?c_pl ?k_pl ?a_nl ?l_nl ?c_nl ?k_nl ?a_al ?l_al ?c_al ?k_al ?a_rl ?l_rl ?c_rl ?k_rl ?a_pd ?l_pd ?c_pd ?k_pd ?a_td ?l_td ?c_td ?k_td ?a_sm ?l_sm ?c_sm ?k_sm ?a_la ?l_la ?c_la ?k_la ?g_c0 ?g_c1 ?g_c2 ?g_c3 ?g_bN ?g_bK ?g_bT ?g_bH ?g_cS ?m_i0 ?l_i0 ?c_i0 ?k_i0 ?n_i0 ?m_i1 ?l_i1 ?c_i1 ?k_i1 ?n_i1 ?m_i2 ?l_i2 ?c_i2 ?k_i2 ?n_i2 ?m_i3 ?l_i3 ?c_i3 ?k_i3 ?n_i3 ?m_e0 ?l_e0 ?c_e0 ?k_e0 ?n_e0 ?m_e1 ?l_e1 ?c_e1 ?k_e1 ?n_e1 ?m_e2 ?l_e2 ?c_e2 ?k_e2 ?n_e2 ?m_e3 ?l_e3 ?c_e3 ?k_e3 ?n_e3 ?m_mt ?l_mt ?c_mt ?k_mt ?n_mt ?m_si ?l_si ?c_si ?k_si ?n_si ?m_sp ?l_sp ?c_sp ?k_sp ?n_sp ?m_sq ?l_sq ?c_sq ?k_sq ?n_sq ?m_it ?l_it ?c_it ?k_it ?n_it ?m_hn ?l_hn ?c_hn ?k_hn ?n_hn ?mt1 ?mt2 ?mt3 ?cm_of ?rc_of ?l_of ?c_of ?k_of ?lT0 ?gL ?eL ?gLo ?gK ?lK0 ?vK ?zK ?gLi ?lL0 ?lb0 ?lb1 ?lb2 ?z_iter ?gfa ?nes ?z_int ?z_bool ?z_len ?z_abs ?z_list ?z_tuple ?z_dict ?z_range ?z_isinstance ?z_str ?z_all ?z_repr ?z_any ?z_enumerate ?z_set ?z_sorted ?z_ValueError ?v0 ?vg0 ?v1 ?vg1 ?v2 ?vg2 ?v3 ?vg3 ?vle ?vmo ?hB0 ?hB1 ?hB2 ?hB3 ?hBS ?rd_c0 ?rd_cS ?kSS ?nfS ?hP ?hO
    (case a_W => k_is)
    (case l_W => k_is)
    (case c_W => k_is)
    (case k_W => k_is)
    (case a_D => k_is)
    (case l_D => k_is)
    (case c_D => k_is)
    (case k_D => k_is)
    (case a_N => k_is)
    (case l_N => k_is)
    (case c_N => k_is)
    (case k_N => k_is)
    (case a_C => k_is)
    (case l_C => k_is)
    (case c_C => k_is)
    (case k_C => k_is)
    (case a_as => k_is)
    (case l_as => k_is)
    (case c_as => k_is)
    (case k_as => k_is)
    (case a_mo => k_is)
    (case l_mo => k_is)
    (case c_mo => k_is)
    (case k_mo => k_is)
    (case a_ck => k_is)
    (case l_ck => k_is)
    (case c_ck => k_is)
    (case k_ck => k_is)
    (case a_pa => k_is)
    (case l_pa => k_is)
    (case c_pa => k_is)
    (case k_pa => k_is)
    (case a_cs => k_is)
    (case l_cs => k_is)
    (case c_cs => k_is)
    (case k_cs => k_is)
    (case a_ly => k_is)
    (case l_ly => k_is)
    (case c_ly => k_is)
    (case k_ly => k_is)
    (case a_no => k_is)
    (case l_no => k_is)
    (case c_no => k_is)
    (case k_no => k_is)
    (case a_my => k_is)
    (case l_my => k_is)
    (case c_my => k_is)
    (case k_my => k_is)
    (case a_ru => k_is)
    (case l_ru => k_is)
    (case c_ru => k_is)
    (case k_ru => k_is)
    (case a_pe => k_is)
    (case l_pe => k_is)
    (case c_pe => k_is)
    (case k_pe => k_is)
    (case a_dr => k_is)
    (case l_dr => k_is)
    (case c_dr => k_is)
    (case k_dr => k_is)
    (case a_pi => k_is)
    (case l_pi => k_is)
    (case c_pi => k_is)
    (case k_pi => k_is)
    (case a_mx => k_is)
    (case l_mx => k_is)
    (case c_mx => k_is)
    (case k_mx => k_is)
    (case a_lt => k_is)
    (case l_lt => k_is)
    (case c_lt => k_is)
    (case k_lt => k_is)
    (case a_ro => k_is)
    (case l_ro => k_is)
    (case c_ro => k_is)
    (case k_ro => k_is)
    (case a_on => k_is)
    (case l_on => k_is)
    (case c_on => k_is)
    (case k_on => k_is)
    (case a_st => k_is)
    (case l_st => k_is)
    (case c_st => k_is)
    (case k_st => k_is)
    (case a_so => k_is)
    (case l_so => k_is)
    (case c_so => k_is)
    (case k_so => k_is)
    (case a_pl => k_is)
    (case l_pl => k_is)
    (case c_pl => k_is)
    (case k_pl => k_is)
    (case a_nl => k_is)
    (case l_nl => k_is)
    (case c_nl => k_is)
    (case k_nl => k_is)
    (case a_al => k_is)
    (case l_al => k_is)
    (case c_al => k_is)
    (case k_al => k_is)
    (case a_rl => k_is)
    (case l_rl => k_is)
    (case c_rl => k_is)
    (case k_rl => k_is)
    (case a_pd => k_is)
    (case l_pd => k_is)
    (case c_pd => k_is)
    (case k_pd => k_is)
    (case a_td => k_is)
    (case l_td => k_is)
    (case c_td => k_is)
    (case k_td => k_is)
    (case a_sm => k_is)
    (case l_sm => k_is)
    (case c_sm => k_is)
    (case k_sm => k_is)
    (case a_la => k_is)
    (case l_la => k_is)
    (case c_la => k_is)
    (case k_la => k_is)
    (case g_c0 => k_is)
    (case g_c1 => k_is)
    (case g_c2 => k_is)
    (case g_c3 => k_is)
    (case g_bN => k_is)
    (case g_bK => k_is)
    (case g_bT => k_is)
    (case g_bH => k_is)
    (case g_cS => k_is)
    (case m_i0 => k_is)
    (case l_i0 => k_is)
    (case c_i0 => k_is)
    (case k_i0 => k_is)
    (case n_i0 => k_is)
    (case m_i1 => k_is)
    (case l_i1 => k_is)
    (case c_i1 => k_is)
    (case k_i1 => k_is)
    (case n_i1 => k_is)
    (case m_i2 => k_is)
    (case l_i2 => k_is)
    (case c_i2 => k_is)
    (case k_i2 => k_is)
    (case n_i2 => k_is)
    (case m_i3 => k_is)
    (case l_i3 => k_is)
    (case c_i3 => k_is)
    (case k_i3 => k_is)
    (case n_i3 => k_is)
    (case m_e0 => k_is)
    (case l_e0 => k_is)
    (case c_e0 => k_is)
    (case k_e0 => k_is)
    (case n_e0 => k_is)
    (case m_e1 => k_is)
    (case l_e1 => k_is)
    (case c_e1 => k_is)
    (case k_e1 => k_is)
    (case n_e1 => k_is)
    (case m_e2 => k_is)
    (case l_e2 => k_is)
    (case c_e2 => k_is)
    (case k_e2 => k_is)
    (case n_e2 => k_is)
    (case m_e3 => k_is)
    (case l_e3 => k_is)
    (case c_e3 => k_is)
    (case k_e3 => k_is)
    (case n_e3 => k_is)
    (case m_mt => k_is)
    (case l_mt => k_is)
    (case c_mt => k_is)
    (case k_mt => k_is)
    (case n_mt => k_is)
    (case m_si => k_is)
    (case l_si => k_is)
    (case c_si => k_is)
    (case k_si => k_is)
    (case n_si => k_is)
    (case m_sp => k_is)
    (case l_sp => k_is)
    (case c_sp => k_is)
    (case k_sp => k_is)
    (case n_sp => k_is)
    (case m_sq => k_is)
    (case l_sq => k_is)
    (case c_sq => k_is)
    (case k_sq => k_is)
    (case n_sq => k_is)
    (case m_it => k_is)
    (case l_it => k_is)
    (case c_it => k_is)
    (case k_it => k_is)
    (case n_it => k_is)
    (case m_hn => k_is)
    (case l_hn => k_is)
    (case c_hn => k_is)
    (case k_hn => k_is)
    (case n_hn => k_is)
    (case mt1 => k_is)
    (case mt2 => k_is)
    (case mt3 => k_is)
    (case cm_of => k_is)
    (case rc_of => k_is)
    (case l_of => k_is)
    (case c_of => k_is)
    (case k_of => k_is)
    (case lT0 => k_is)
    (case gL => k_is)
    (case eL => decide +kernel)
    (case gLo => k_is)
    (case gK => k_is)
    (case lK0 => k_is)
    (case vK => decide +kernel)
    (case zK => decide +kernel)
    (case gLi => k_is)
    (case lL0 => k_is)
    (case lb0 => k_is)
    (case lb1 => k_is)
    (case lb2 => k_is)
    (case z_iter => k_is)
    (case gfa => k_is)
    (case nes => k_is)
    (case z_int => k_is)
    (case z_bool => k_is)
    (case z_len => k_is)
    (case z_abs => k_is)
    (case z_list => k_is)
    (case z_tuple => k_is)
    (case z_dict => k_is)
    (case z_range => k_is)
    (case z_isinstance => k_is)
    (case z_str => k_is)
    (case z_all => k_is)
    (case z_repr => k_is)
    (case z_any => k_is)
    (case z_enumerate => k_is)
    (case z_set => k_is)
    (case z_sorted => k_is)
    (case z_ValueError => k_is)
    (case v0 => k_is)
    (case vg0 => k_is)
    (case v1 => k_is)
    (case vg1 => k_is)
    (case v2 => k_is)
    (case vg2 => k_is)
    (case v3 => k_is)
    (case vg3 => k_is)
    (case vle => k_is)
    (case vmo => k_is)
    (case hB0 => kernel_rfl)
    (case hB1 => kernel_rfl)
    (case hB2 => kernel_rfl)
    (case hB3 => kernel_rfl)
    (case hBS => kernel_rfl)
    (case rd_c0 => kernel_rfl)
    (case rd_cS => kernel_rfl)
    (case kSS => kernel_rfl)
    (case nfS => kernel_rfl)
    (case hP => kernel_rfl)
    (case hO => kernel_rfl)
