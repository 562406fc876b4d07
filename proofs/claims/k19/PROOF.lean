import PyProof.Rows.All
import Wide.All
import OpenK.AllK
import Wide.FinOn
import HandS.ForMost
import HandS.Lambda
import HandS.EndTab
import KE.KDictCopyH
import HandS.ForExc
import HandS.ExcIs
import HandS.ExcField
import KE.KExcIs
import HandS.IsInst
import KE.KCallOwn
import PyProof.InstNe
import HandS.RaiseMore
import HandS.DictEq
import HandS.DeepEq
import HandS.Strs
import HandS.SetFor
import HandS.SetTxt0
import HandS.OwnEq
import HandS.Deep
import HandS.Star
import HandS.ClsMeth
import HandS.DictComp
import HandS.Walk
import HandS.Iter
import HandS.Comp
import HandS.Text
import HandS.ExcInit
import HandS.ExcValue
import HandS.Gcd
import HandS.Wide
import HandS.MakeKw
import HandS.MakeKwOnly
import HandS.Defaults
import HandS.Dict
import HandS.MethStar
import HandS.CallLocal
import HandS.IterVal
import HandS.ListItems
import HandS.FStr
import HandS.Flow
import HandS.AnyAll
import HandS.TupAny
import HandS.Style
import KE.GoesMore
import PyProof.Draws
import PyProof.NeKinds
import PySem.Challenge.RW_layerseen_k19_sides_of_stacks
set_option Elab.async false
set_option linter.all false
set_option maxRecDepth 100000
set_option maxHeartbeats 4000000

namespace My
open PySem PySem.Spec PyProof.Rows L2

/-- what the walk of the law's body has to give, the guards being known -/
def LawBody (l : PySem.W.OpenLaw) (w : World) (K : PySem.W.Frag) (mg : Str → Option Value) (n : Nat) (N : List Str) (qual : Str) (st : Stmt) (fa : Addr) : Prop :=
  ∀ base : Heap, K.In base → base.Ns mainGlobals mg → ∀ (cdv : Value) (s : Shared) (H : Hp) (a : Addr) (ns : List Int), ns.length ≤ n → Only H → SqL K H a (ns.map V.int) →
    ∃ t, PSs (cxOf CX0 l.prog w K mg base N qual (defScope st) fa cdv callerA [] s H E0).nox (defBody st) t ∧
      t { nx := fun _ _ => False, rt := fun v _ => v = .bl true } (start N [.ref a]) H

/-- one call of the law from an abstract heap -/
theorem enter {l : PySem.W.OpenLaw} {w : World} {K : PySem.W.Frag} {mg : Str → Option Value} {n : Nat} {N : List Str} {x nm qual : Str} {st : Stmt} {fa a : Addr} {fd : FuncData}
    {base : Heap} {s : Shared} {H : Hp} {ns : List Int}
    (F : Fun K nm qual st fa fd) (S : FnScope N [x] (defScope st)) (hb : ∀ (s : Shared) (u : Value), BindsTo s fd ⟨[u], []⟩ [(x, u)])
    (B : LawBody l w K mg n N qual st fa) (hKb : K.In base) (hNb : base.Ns mainGlobals mg) (hn : ns.length ≤ n) (hO : Only H) (hS : SqL K H a (ns.map V.int))
    (e0 : Env0 l.prog w K mg base callerA [] s H) :
    codeAny (model l.prog w) callerA (.call (.ref fa) ⟨[.ref a], []⟩)
      (fun r s' => r = .ok (.ret (.bool true)) ∧ ∃ H', s'.os = s.os ∧ AllBare s'.gens ∧ Un [] [] H H' s.heap s'.heap ∧ HOk l.prog w H' s'.heap) s := by
  obtain ⟨oc, od, kV, doc, pm, an, cdv, ct, osl, rfl, lk, hcd⟩ := F.ex
  have stays : ∀ b o, base.get? b = some o → s.heap.get? b = some o := fun b o z => (e0.bs b o z).1
  have KS : K.In s.heap := e0.mod.kin.keeps stays
  have NL : s.heap.NoLimit := e0.mod.nolimit.keeps stays
  have kinds : ∀ y ∈ [x].zip [Value.ref a], (defScope st).names.lookup y.1 = some .local ∨ ((defScope st).names.lookup y.1 = some .cell ∧ ((cellsFrom (s.heap.objs.size + 1) (defScope st).names []).lookup y.1).isSome = true) := by
    intro y hy
    obtain rfl : y = (x, Value.ref a) := List.mem_singleton.mp hy
    cases S.par x (List.mem_singleton.mpr rfl) with
    | inl q => exact .inl q
    | inr q => exact .inr ⟨q, PySem.W.cellsFrom_some _ _ _ (.inl q)⟩
  refine codeAny_call_function (by decide) (KS _ _ lk) rfl S.co S.gen rfl (PySem.W.codeRec_of KS hcd) (hb s (.ref a) _ _ _ _ ?_)
  refine wpAny_newFunctionEnv_cells S.kind kinds fun env he s2 ic => ?_
  subst he
  refine ⟨NL.keeps ic.toInCall.keep, codeAny_func ?_⟩
  obtain ⟨t, ht, hq⟩ := B base hKb hNb cdv s H a ns hn hO hS
  have J0 := inv_start (E := E0) (CX := CX0) S (show callerA.handled = none from rfl) e0 (vs := [.ref a]) (us := [.ref a]) rfl (.cons rfl .nil) ic
  refine wpAny_mono (ht.run [] s2 (start N [.ref a]) H _ (J0.wish _) hq) (fun fl s' hs => ?_) fun e s' hs => hs.elim
  cases fl with
  | ret u =>
    obtain ⟨v, σ', H', J, rv, q⟩ := hs
    subst q
    obtain rfl : u = Value.bool true := rv
    exact ⟨rfl, H', J.os, J.bare, J.base, J.hok⟩
  | next => exact (let ⟨_, _, _, q⟩ := hs; q).elim
  | brk => exact (let ⟨_, _, _, q⟩ := hs; q).elim
  | cont => exact (let ⟨_, _, _, q⟩ := hs; q).elim

/-- the object of the script, looked at through its abstract heap -/
def scriptHp (a : Addr) (vs : List Value) (ns : List Int) : Hp := fun b => if b = a then some (.frz { cls := .type "list", data := .seq vs.toArray } (.lst (ns.map V.int))) else none

/-- from one call in an abstract heap to the call that is asked for -/
theorem settle {l : PySem.W.OpenLaw} {w : World} {K : PySem.W.Frag} {mg mb : Str → Option Value} {n : Nat} {N : List Str} {x nm qual : Str} {st : Stmt} {fa a : Addr} {fd : FuncData} {s : Shared} {H : Hp} {ns : List Int} {vs : List Value}
    (KX : K.In s.heap) (hns : s.heap.Ns mainGlobals mg) (hb : s.heap.Ns builtinsNs mb) (hbb : ∀ x : Str, x ≠ "__name__" → mb x = bootBuiltins x) (hlim : s.heap.NoLimit) (hg : s.gens = #[])
    (ha : s.heap.get? a = some { cls := .type "list", data := .seq vs.toArray }) (hn : ns.length ≤ n)
    (F : Fun K nm qual st fa fd) (S : FnScope N [x] (defScope st)) (hbi : ∀ (s : Shared) (u : Value), BindsTo s fd ⟨[u], []⟩ [(x, u)]) (B : LawBody l w K mg n N qual st fa)
    (hO : Only H) (hS : SqL K H a (ns.map V.int)) (hok : HOk l.prog w H s.heap) (one : ∀ b, H b ≠ none → b = a) (out : H a ≠ none → K.lookup a = none) :
    codeAny (model l.prog w) callerA (.call (.ref fa) ⟨[.ref a], []⟩) (fun r s' => r = .ok (.ret (.bool true)) ∧ OldK s.heap s'.heap ∧ s'.os = s.os ∧ AllBare s'.gens) s := by
  have seen : ∀ {b : Addr} {o : Obj}, H b = none → s.heap.get? b = some o → (hidT s.heap H).get? b = some o := fun q e => hidT_get e q
  have free : ∀ {b : Addr} {o : Obj}, s.heap.get? b = some o → (∀ xs k, o.data ≠ .seq xs k) → H b = none := by
    intro b o e nd
    by_cases z : H b = none
    · exact z
    · have eb := one b z
      rw [eb, ha] at e
      injection e with e
      exact absurd (by rw [← e]) (nd vs.toArray 0)
  have names : ∀ {b : Addr} {m : Str → Option Value}, s.heap.Ns b m → (hidT s.heap H).Ns b m := by
    intro b m nb
    obtain ⟨o, es, ep, e, d, rest⟩ := nb
    exact ⟨o, es, ep, seen (free e fun xs k z => by rw [d] at z; injection z) e, d, rest⟩
  have KB : K.In (hidT s.heap H) := by
    intro b o e
    refine seen ?_ (KX b o e)
    by_cases z : H b = none
    · exact z
    · have eb := one b z
      subst eb
      rw [out z] at e
      injection e
  have E0' : Env0 l.prog w K mg (hidT s.heap H) callerA [] s H := by
    refine ⟨rfl, ⟨KB, names hns, ⟨mb, names hb, hbb⟩, ?_⟩, fun b o e => of_hidT e, Nat.le_of_eq (hidT_size _ _), trivial, ?_, hok, .of_eq hg⟩
    · obtain ⟨mc, c1, c2⟩ := hlim
      exact ⟨mc, names c1, c2⟩
    · intro b z
      exact absurd (show b ∈ ([] : List Addr) from z) List.not_mem_nil
  refine codeAny_mono (enter F S hbi B KB (names hns) hn hO hS E0') fun r s' h => ?_
  obtain ⟨e1, H', os, bare, un, hok'⟩ := h
  refine ⟨e1, OldK.of_keep fun b o e => ?_, os, bare⟩
  by_cases z : H b = none
  · exact un.keep b o e z (show b ∉ ([] : List Addr) from List.not_mem_nil) List.not_mem_nil
  · rcases hO b with y | ⟨ob, xs, y⟩
    · exact absurd y z
    · have g1 := (hok b _ y).1
      have g2 := (hok' b _ (un.frzs b ob _ y)).1
      rw [g1] at e
      injection e with e
      rw [← e]
      exact g2

/-- the goal that the head leaves, from the law's body walked with known guards -/
theorem law_top {l : PySem.W.OpenLaw} {n : Nat} {q : Program} {loose : List Str} {XP : (Str → Option Value) → Heap → Prop} {YP : World → Heap → Prop} {d : DefRec} {K : Params → PySem.W.Frag} {N : List Str} {x nm qual : Str} {st : Stmt}
    (hn : l.most = some n) (hn2 : n ≤ sizeLine) (hdf : d.params.defaults = []) (hY : ∀ (w : World) (h : Heap), YP w h → (K w.params).In h)
    (Z : ∀ (w : World) (mg : Str → Option Value) (fa : Addr) (h : Heap), (K w.params).In h → h.Ns mainGlobals mg → mg d.name = some (.ref fa) →
      ∃ fd : FuncData, Fun (K w.params) nm qual st fa fd ∧ FnScope N [x] (defScope st) ∧ (∀ (s : Shared) (u : Value), BindsTo s fd ⟨[u], []⟩ [(x, u)]) ∧ LawBody l w (K w.params) mg n N qual st fa) :
    PySem.W.WalkO q loose XP YP l.row.toRowW d [] (fun f vs => PySem.call f vs) := by
  refine Att.attach_call hn hdf ?_
  intro w s₀ s mg mb fa o pm cd doc a vs ns G Y ho hd hcd hmg hobj hints hlen hg
  have KX : (K w.params).In s.heap := hY w _ Y
  obtain ⟨fd, F, S, hbi, B⟩ := Z w mg fa _ KX G.T.g hmg
  have rv : Vals (ns.map V.int) vs := vals_ints hints
  have top : ns.length ≤ sizeLine := Nat.le_trans hlen hn2
  have plain := @settle l w (K w.params) mg mb n N x nm qual st fa a fd s
  cases hk : (K w.params).lookup a with
  | some u =>
    have e := KX a u hk
    rw [hobj] at e
    injection e with e
    subst e
    refine plain (H := fun _ => none) (ns := ns) (vs := vs) KX G.T.g G.T.b G.T.builtins G.T.nolimit hg hobj hlen F S hbi B (fun _ => .inl rfl) (.inr ⟨_, vs.toArray, _, hk, rfl, rfl, rfl, ?_, ?_⟩) (fun b u z => ?_) (fun b z => absurd rfl z) (fun z => absurd rfl z)
    · rw [List.size_toArray, hints.length]
      exact top
    · simpa using rv
    · injection z
  | none =>
    refine plain (H := scriptHp a vs ns) (ns := ns) (vs := vs) KX G.T.g G.T.b G.T.builtins G.T.nolimit hg hobj hlen F S hbi B (fun b => ?_) (.inl (.inr ⟨_, if_pos rfl⟩)) (fun b u z => ?_) (fun b z => ?_) (fun _ => hk)
    · by_cases eb : b = a
      · exact .inr ⟨_, _, if_pos eb⟩
      · exact .inl (if_neg eb)
    · by_cases eb : b = a
      · have y := (if_pos eb).symm.trans z
        injection y with y
        subst y
        subst eb
        exact ⟨hobj, by rw [List.length_map]; exact top, vs, _, rv, hobj⟩
      · have y := (if_neg eb).symm.trans z
        injection y
    · by_cases eb : b = a
      · exact eb
      · exact absurd (if_neg eb) z
end My
namespace My
open PySem PySem.Spec PyProof.Rows L2
/-- what the walk of the law's body has to give where one def of the text makes lambdas: its code object at c, the table of that one at P, empty so far -/
def LawBodyT (l : PySem.W.OpenLaw) (w : World) (K : PySem.W.Frag) (mg : Str → Option Value) (n : Nat) (N : List Str) (qual : Str) (st : Stmt) (fa c P : Addr) : Prop :=
  ∀ base : Heap, K.In base → base.Ns mainGlobals mg → LamX.TabB base mg c P → ∀ (cdv : Value) (s : Shared) (H : Hp) (a : Addr) (ns : List Int), ns.length ≤ n → H P = some (.tbl #[]) → SqL K H a (ns.map V.int) →
    ∃ t, PSs (cxOf CX0 l.prog w K mg base N qual (defScope st) fa cdv callerA [] s H E0).nox (defBody st) t ∧
      t { nx := fun _ _ => False, rt := fun v _ => v = .bl true } (start N [.ref a]) H
theorem enterB {l : PySem.W.OpenLaw} {w : World} {K : PySem.W.Frag} {mg : Str → Option Value} {N : List Str} {x nm qual : Str} {st : Stmt} {fa a : Addr} {fd : FuncData}
    {base : Heap} {s : Shared} {H : Hp} (F : Fun K nm qual st fa fd) (S : FnScope N [x] (defScope st)) (hb : ∀ (s : Shared) (u : Value), BindsTo s fd ⟨[u], []⟩ [(x, u)])
    (B : ∀ cdv : Value, ∃ t, PSs (cxOf CX0 l.prog w K mg base N qual (defScope st) fa cdv callerA [] s H E0).nox (defBody st) t ∧ t { nx := fun _ _ => False, rt := fun v _ => v = .bl true } (start N [.ref a]) H)
    (e0 : Env0 l.prog w K mg base callerA [] s H) :
    codeAny (model l.prog w) callerA (.call (.ref fa) ⟨[.ref a], []⟩)
      (fun r s' => r = .ok (.ret (.bool true)) ∧ ∃ H', s'.os = s.os ∧ AllBare s'.gens ∧ Un [] [] H H' s.heap s'.heap ∧ HOk l.prog w H' s'.heap) s := by
  obtain ⟨oc, od, kV, doc, pm, an, cdv, ct, osl, rfl, lk, hcd⟩ := F.ex
  have stays : ∀ b o, base.get? b = some o → s.heap.get? b = some o := fun b o z => (e0.bs b o z).1
  have KS : K.In s.heap := e0.mod.kin.keeps stays
  have NL : s.heap.NoLimit := e0.mod.nolimit.keeps stays
  have kinds : ∀ y ∈ [x].zip [Value.ref a], (defScope st).names.lookup y.1 = some .local ∨ ((defScope st).names.lookup y.1 = some .cell ∧ ((cellsFrom (s.heap.objs.size + 1) (defScope st).names []).lookup y.1).isSome = true) := by
    intro y hy
    obtain rfl : y = (x, Value.ref a) := List.mem_singleton.mp hy
    cases S.par x (List.mem_singleton.mpr rfl) with
    | inl q => exact .inl q
    | inr q => exact .inr ⟨q, PySem.W.cellsFrom_some _ _ _ (.inl q)⟩
  refine codeAny_call_function (by decide) (KS _ _ lk) rfl S.co S.gen rfl (PySem.W.codeRec_of KS hcd) (hb s (.ref a) _ _ _ _ ?_)
  refine wpAny_newFunctionEnv_cells S.kind kinds fun env he s2 ic => ?_
  subst he
  refine ⟨NL.keeps ic.toInCall.keep, codeAny_func ?_⟩
  obtain ⟨t, ht, hq⟩ := B cdv
  have J0 := inv_start (E := E0) (CX := CX0) S (show callerA.handled = none from rfl) e0 (vs := [.ref a]) (us := [.ref a]) rfl (.cons rfl .nil) ic
  refine wpAny_mono (ht.run [] s2 (start N [.ref a]) H _ (J0.wish _) hq) (fun fl s' hs => ?_) fun e s' hs => hs.elim
  cases fl with
  | ret u =>
    obtain ⟨v, σ', H', J, rv, q⟩ := hs
    subst q
    obtain rfl : u = Value.bool true := rv
    exact ⟨rfl, H', J.os, J.bare, J.base, J.hok⟩
  | next => exact (let ⟨_, _, _, q⟩ := hs; q).elim
  | brk => exact (let ⟨_, _, _, q⟩ := hs; q).elim
  | cont => exact (let ⟨_, _, _, q⟩ := hs; q).elim
/-- a table that is empty so far -/
abbrev tab0 : Obj := { cls := .none, data := .fields #[] }
theorem settleT {l : PySem.W.OpenLaw} {w : World} {K : PySem.W.Frag} {mg mb : Str → Option Value} {n : Nat} {N : List Str} {x nm qual : Str} {st : Stmt} {fa a c P : Addr} {fd : FuncData} {s : Shared} {H : Hp} {ns : List Int} {vs : List Value}
    (KX : K.In s.heap) (hns : s.heap.Ns mainGlobals mg) (hb : s.heap.Ns builtinsNs mb) (hbb : ∀ x : Str, x ≠ "__name__" → mb x = bootBuiltins x) (hlim : s.heap.NoLimit) (hg : s.gens = #[])
    (ha : s.heap.get? a = some { cls := .type "list", data := .seq vs.toArray }) (hn : ns.length ≤ n)
    (hT : s.heap.get? P = some tab0) (nT : K.lookup P = none) (C : PySem.W.CodeHd s.heap c P) (bm : s.heap.BuiltinsAt mg P)
    (F : Fun K nm qual st fa fd) (S : FnScope N [x] (defScope st)) (hbi : ∀ (s : Shared) (u : Value), BindsTo s fd ⟨[u], []⟩ [(x, u)]) (B : LawBodyT l w K mg n N qual st fa c P)
    (hP : H P = some (.tbl #[])) (hO : ∀ b, b ≠ P → H b = none ∨ ∃ o xs, H b = some (.frz o (.lst xs))) (hS : SqL K H a (ns.map V.int)) (hok : HOk l.prog w H s.heap) (one : ∀ b, H b ≠ none → b = a ∨ b = P) (out : H a ≠ none → K.lookup a = none) :
    codeAny (model l.prog w) callerA (.call (.ref fa) ⟨[.ref a], []⟩) (fun r s' => r = .ok (.ret (.bool true)) ∧ OldK s.heap s'.heap ∧ s'.os = s.os ∧ AllBare s'.gens) s := by
  -- what is neither the script nor the table is not tracked
  have free : ∀ {b : Addr} {o : Obj}, s.heap.get? b = some o → (∀ xs k, o.data ≠ .seq xs k) → o.data ≠ .fields #[] → H b = none := by
    intro b o e nd nf
    by_cases z : H b = none
    · exact z
    · rcases one b z with eb | eb
      · rw [eb, ha] at e
        injection e with e
        exact absurd (by rw [← e]) (nd vs.toArray 0)
      · rw [eb, hT] at e
        injection e with e
        exact absurd (by rw [← e]) nf
  have seen : ∀ {b : Addr} {o : Obj}, s.heap.get? b = some o → (∀ xs k, o.data ≠ .seq xs k) → o.data ≠ .fields #[] → (hidT s.heap H).get? b = some o := fun e h1 h2 => hidT_get e (free e h1 h2)
  have names : ∀ {b : Addr} {m : Str → Option Value}, s.heap.Ns b m → (hidT s.heap H).Ns b m := by
    intro b m nb
    obtain ⟨o, es, ep, e, d, rest⟩ := nb
    exact ⟨o, es, ep, seen e (fun xs k z => by rw [d] at z; injection z) (fun z => by rw [d] at z; injection z), d, rest⟩
  have KB : K.In (hidT s.heap H) := by
    intro b o e
    refine hidT_get (KX b o e) ?_
    by_cases z : H b = none
    · exact z
    · rcases one b z with eb | eb
      · subst eb
        rw [out z] at e
        injection e
      · subst eb
        rw [nT] at e
        injection e
  have E0' : Env0 l.prog w K mg (hidT s.heap H) callerA [] s H := by
    refine ⟨rfl, ⟨KB, names hns, ⟨mb, names hb, hbb⟩, ?_⟩, fun b o e => of_hidT e, Nat.le_of_eq (hidT_size _ _), trivial, ?_, hok, .of_eq hg⟩
    · obtain ⟨mc, c1, c2⟩ := hlim
      exact ⟨mc, names c1, c2⟩
    · intro b z
      exact absurd (show b ∈ ([] : List Addr) from z) List.not_mem_nil
  have TB : LamX.TabB (hidT s.heap H) mg c P := by
    refine ⟨?_, ?_, fun z => ?_⟩
    · obtain ⟨o, us, file, tf, flags, tg, inF, text, tt, e1, r1, r2, r3, rest⟩ := C
      refine ⟨o, us, file, tf, flags, tg, inF, text, tt, seen e1 (fun xs k z => by rw [r2] at z; injection z) (fun z => ?_), r1, r2, r3, rest⟩
      rw [r2] at z
      injection z with z
      rw [z] at r3
      simp at r3
    · obtain ⟨b, ob, b1, b2, b3, b4, b5, b6, b7, b8⟩ := bm
      exact ⟨b, ob, b1, b2, b3, b4, seen b5 (fun xs k z => by rw [b8] at z; injection z) (fun z => by rw [b8] at z; injection z), b6, b7, b8⟩
    · obtain ⟨o, es, ep, e, d, _⟩ := hns
      rw [z, hT] at e
      injection e with e
      rw [← e] at d
      injection d
  refine codeAny_mono (enterB F S hbi (fun cdv => B _ KB (names hns) TB cdv s H a ns hn hP hS) E0') fun r s' h => ?_
  obtain ⟨e1, H', os, bare, un, hok'⟩ := h
  obtain ⟨more, eP⟩ := un.tbls P #[] hP
  have grown : s'.heap.get? P = some { cls := .none, data := .fields (#[] ++ more) } := hok' P _ eP
  have kept : ∀ b o, b ≠ P → s.heap.get? b = some o → s'.heap.get? b = some o := by
    intro b o nb e
    by_cases z : H b = none
    · exact un.keep b o e z (show b ∉ ([] : List Addr) from List.not_mem_nil) List.not_mem_nil
    · rcases hO b nb with y | ⟨ob, xs, y⟩
      · exact absurd y z
      · have g1 := (hok b _ y).1
        have g2 := (hok' b _ (un.frzs b ob _ y)).1
        rw [g1] at e
        injection e with e
        rw [← e]
        exact g2
  refine ⟨e1, ⟨fun b o e => ?_, fun b o e => ?_⟩, os, bare⟩
  · by_cases nb : b = P
    · subst nb
      rw [hT] at e
      injection e with e
      subst e
      exact .inr (.inl ⟨(C.tab hT).isCodeTable, rfl, #[], more, rfl, grown⟩)
    · exact .inl (kept b o nb e)
  · by_cases nb : b = P
    · subst nb
      exact ⟨_, grown⟩
    · exact ⟨o, kept b o nb e⟩
/-- the goal that the head leaves, from the law's body walked with known guards and one table -/
theorem law_topT {l : PySem.W.OpenLaw} {n : Nat} {q : Program} {loose : List Str} {XP : (Str → Option Value) → Heap → Prop} {YP : World → Heap → Prop} {d : DefRec} {K : Params → PySem.W.Frag} {N : List Str} {x nm qual : Str} {st : Stmt}
    (hn : l.most = some n) (hn2 : n ≤ sizeLine) (hdf : d.params.defaults = []) (hY : ∀ (w : World) (h : Heap), YP w h → (K w.params).In h)
    (Z : ∀ (w : World) (mg : Str → Option Value) (fa : Addr) (h : Heap), YP w h → (K w.params).In h → h.Ns mainGlobals mg → mg d.name = some (.ref fa) →
      ∃ (fd : FuncData) (c P : Addr), h.get? P = some tab0 ∧ (K w.params).lookup P = none ∧ PySem.W.CodeHd h c P ∧ Fun (K w.params) nm qual st fa fd ∧ FnScope N [x] (defScope st) ∧ (∀ (s : Shared) (u : Value), BindsTo s fd ⟨[u], []⟩ [(x, u)]) ∧ LawBodyT l w (K w.params) mg n N qual st fa c P) :
    PySem.W.WalkO q loose XP YP l.row.toRowW d [] (fun f vs => PySem.call f vs) := by
  refine Att.attach_call hn hdf ?_
  intro w s₀ s mg mb fa o pm cd doc a vs ns G Y ho hd hcd hmg hobj hints hlen hg
  have KX : (K w.params).In s.heap := hY w _ Y
  obtain ⟨fd, c, P, hT, nT, C, F, S, hbi, B⟩ := Z w mg fa _ Y KX G.T.g hmg
  have bmP : s.heap.BuiltinsAt mg P := by
    obtain ⟨bm, ob, b1, b2, b3, b4, b5, b6⟩ := G.T.bmain
    refine ⟨bm, ob, b1, b2, fun z => ?_, fun z => ?_, b3, b4, b5, b6⟩
    · obtain ⟨o', es, ep, e, hd', _⟩ := G.T.g
      rw [z, e] at b3
      injection b3 with b3
      rw [b3, b6] at hd'
      injection hd'
    · rw [z, hT] at b3
      injection b3 with b3
      rw [← b3] at b6
      injection b6
  have rv : Vals (ns.map V.int) vs := vals_ints hints
  have top : ns.length ≤ sizeLine := Nat.le_trans hlen hn2
  have naP : a ≠ P := fun z => by
    rw [z, hT] at hobj
    injection hobj with hobj
    have := congrArg Obj.data hobj
    injection this
  have plain := @settleT l w (K w.params) mg mb n N x nm qual st fa a c P fd s
  cases hk : (K w.params).lookup a with
  | some u =>
    have e := KX a u hk
    rw [hobj] at e
    injection e with e
    subst e
    refine plain (H := fun b => if b = P then some (.tbl #[]) else none) (ns := ns) (vs := vs) KX G.T.g G.T.b G.T.builtins G.T.nolimit hg hobj hlen hT nT C bmP F S hbi B (if_pos rfl) (fun b nb => .inl (if_neg nb)) (.inr ⟨_, vs.toArray, _, hk, rfl, rfl, rfl, ?_, ?_⟩) (fun b u z => ?_) (fun b z => ?_) (fun z => absurd (if_neg naP) z)
    · rw [List.size_toArray, hints.length]
      exact top
    · simpa using rv
    · by_cases hb : b = P
      · have y := (if_pos hb).symm.trans z
        injection y with y
        subst y
        subst hb
        exact hT
      · have y := (if_neg hb).symm.trans z
        injection y
    · by_cases hb : b = P
      · exact .inr hb
      · exact absurd (if_neg hb) z
  | none =>
    refine plain (H := fun b => if b = P then some (.tbl #[]) else scriptHp a vs ns b) (ns := ns) (vs := vs) KX G.T.g G.T.b G.T.builtins G.T.nolimit hg hobj hlen hT nT C bmP F S hbi B (if_pos rfl) (fun b nb => ?_) (.inl (.inr ⟨_, (if_neg naP).trans (if_pos rfl)⟩)) (fun b u z => ?_) (fun b z => ?_) (fun _ => hk)
    · by_cases eb : b = a
      · exact .inr ⟨_, _, (if_neg nb).trans (if_pos eb)⟩
      · exact .inl ((if_neg nb).trans (if_neg eb))
    · by_cases hb : b = P
      · have y := (if_pos hb).symm.trans z
        injection y with y
        subst y
        subst hb
        exact hT
      · have z1 := (if_neg hb).symm.trans z
        by_cases eb : b = a
        · have y := (if_pos eb).symm.trans z1
          injection y with y
          subst y
          subst eb
          exact ⟨hobj, by rw [List.length_map]; exact top, vs, _, rv, hobj⟩
        · have y := (if_neg eb).symm.trans z1
          injection y
    · by_cases hb : b = P
      · exact .inr hb
      · by_cases eb : b = a
        · exact .inl eb
        · exact absurd ((if_neg hb).trans (if_neg eb)) z
end My
namespace My
open PySem PySem.Spec PyProof.Rows L2
/-! ### a dict that remembers ints, its keys tuples of ints, texts and None -/
def lV : Leaf → V
  | .none => .non
  | .num i => .int i
  | .text z => .str z
theorem lV_is {P : Program} {w : World} {k : Leaf} {u : Value} (r : RelV (lV k) u) : (leafKind P w).is k u = true := by
  cases k with
  | none => obtain rfl : u = Value.none := r; rfl
  | num i => obtain ⟨t, rfl⟩ := (show ∃ t, u = Value.int i t from r); exact decide_eq_true rfl
  | text x =>
    obtain ⟨t, rfl⟩ := (show ∃ t, u = Value.str x t from r)
    show Value.isStrOf x (.str x t) = true
    simp [Value.isStrOf]
theorem leaves_are {P : Program} {w : World} : ∀ {ks : List Leaf} {us : List Value}, Vals (ks.map lV) us → ItemsAre (leafKind P w) ks us
  | [], _, r => by rw [List.map_nil] at r; cases r; exact .nil
  | k :: ks, _, r => by
    rw [List.map_cons] at r
    cases r with
    | cons h t => exact .cons (lV_is h) (leaves_are t)
theorem keyL_of {P : Program} {w : World} {H : Hp} {h : Heap} {b : Addr} {ks : List Leaf} (ok : HOk P w H h) (e : H b = some (.tup (ks.map lV))) : (tupleKind (leafKind P w)).is h ks b := by
  obtain ⟨_, its, r, o, h1, h2, n, h3⟩ := (show ObjOk P w H h b (.tup (ks.map lV)) from ok b _ e)
  exact ⟨o, its.toArray, n, h1, h2, h3, by simpa using leaves_are r⟩
/-- the dict at a by its own object: its entries -/
def MemO (P : Program) (w : World) (a : Addr) (xs : List (List Leaf × Addr × Value)) : HO := .ext fun h => ∃ o es ep, h.get? a = some o ∧ o.ExactDict ∧ o.data = .dict es ep ∧ es.toList = xs.map (entryOfKey (tupleKind (leafKind P w))) ∧ (xs.map (·.1)).Nodup
/-- what stands in it: R tells of each key's int; n entries at most -/
structure MemAt (P : Program) (w : World) (H : Hp) (a : Addr) (R : List Leaf → Int → Prop) (n : Nat) (xs : List (List Leaf × Addr × Value)) : Prop where
  ex : H a = some (MemO P w a xs)
  few : xs.length ≤ n
  key : ∀ x ∈ xs, H x.2.1 = some (.tup (x.1.map lV)) ∧ ∃ i t, x.2.2 = Value.int i t ∧ R x.1 i
  sys : (a == sysModules) = false
theorem MemAt.keep {P : Program} {w : World} {H H' : Hp} {a : Addr} {R : List Leaf → Int → Prop} {n : Nat} {xs : List (List Leaf × Addr × Value)} (M : MemAt P w H a R n xs) (k : ∀ q o, H q = some o → H' q = some o) : MemAt P w H' a R n xs :=
  ⟨k _ _ M.ex, M.few, fun x hx => ⟨k _ _ (M.key x hx).1, (M.key x hx).2⟩, M.sys⟩
theorem MemAt.more {P : Program} {w : World} {H : Hp} {a : Addr} {R : List Leaf → Int → Prop} {n m : Nat} {xs : List (List Leaf × Addr × Value)} (M : MemAt P w H a R n xs) (h : n ≤ m) : MemAt P w H a R m xs :=
  ⟨M.ex, Nat.le_trans M.few h, M.key, M.sys⟩
section
variable {X : Cx} {pins : List (Addr × Obj)} {σ : L2.St} {H : Hp} {s : Shared} {a : Addr} {R : List Leaf → Int → Prop} {n : Nat} {xs : List (List Leaf × Addr × Value)}
theorem mem_dict (I : Inv X pins σ H s) (M : MemAt X.prog X.w H a R n xs) : s.heap.DictOfH (tupleKind (leafKind X.prog X.w)) a xs := by
  obtain ⟨⟨o, es, ep, h1, h2, h3, h4, h5⟩, _, _⟩ := I.hok a _ M.ex
  exact ⟨o, es, ep, h1, h2, h3, h4, fun x hx => keyL_of I.hok (M.key x hx).1, h5⟩
theorem atKey_mem {K : Type} [DecidableEq K] : ∀ {xs : List (K × Addr × Value)} {k : K} {p : Addr × Value}, atKey xs k = some p → ∃ x ∈ xs, x.1 = k ∧ x.2 = p := by
  intro xs k p h
  unfold atKey at h
  obtain ⟨x, hx, e⟩ := Option.map_eq_some_iff.mp h
  have hm := List.mem_of_find?_eq_some hx
  have hp := List.find?_some hx
  exact ⟨x, hm, of_decide_eq_true hp, e⟩
def rMemNotIn (P : Program) (w : World) : R2 := fun x y H Q => ∃ (a b : Addr) (k : List Leaf) (R : List Leaf → Int → Prop) (n : Nat) (xs : List (List Leaf × Addr × Value)), x = .ref b ∧ y = .ref a ∧ H b = some (.tup (k.map lV)) ∧ MemAt P w H a R n xs ∧ Q (.bl (!(atKey xs k).isSome)) H
theorem op_memNotIn (hu : X.A.units + 1 < cLine) : OpR X (compareOp .NotIn) (rMemNotIn X.prog X.w) := by
  intro pins s σ H x y v u Q I rx ry h
  obtain ⟨a, b, k, R, n, xs, rfl, rfl, eb, M, q⟩ := h
  cases rx
  cases ry
  exact wpAny_notIn_heap (tupleKind_room_in1 hu) (keyL_of I.hok eb) M.sys (mem_dict I M) ⟨.bl (!(atKey xs k).isSome), H, I.tok _, rfl, q⟩
/-- d[key] of such a dict -/
def tMemGet (P : Program) (w : World) (td ty : TE) : TE := fun σ H Q => td σ H fun x H1 => ty σ H1 fun y H2 => ∃ (a b : Addr) (k : List Leaf) (R : List Leaf → Int → Prop) (n : Nat) (xs : List (List Leaf × Addr × Value)), x = .ref a ∧ y = .ref b ∧ H2 b = some (.tup (k.map lV)) ∧ MemAt P w H2 a R n xs ∧ (atKey xs k).isSome = true ∧
  ∀ i : Int, R k i → Q (.int i) H2
theorem pe_memget {o i : Expr} {td ty : TE} {pos : Pos} (hu : X.A.units + 1 < cLine) (ho : PE X o td) (hi : PE X i ty) (hs : NoSl i) : PE X (.Subscript o i pos) (tMemGet X.prog X.w td ty) := by
  refine ⟨fun pins s σ H Q I h => ?_⟩
  refine subD_of PySem.F.slot_dict_getitem.lookup hs (thn (ho.run pins s σ H _ I h) fun u s1 ⟨x, H1, I1, rx, q1⟩ => thn (hi.run pins s1 σ H1 _ I1 q1) fun iv s2 ⟨y, H2, I2, ry, a, b, k, R, n, xs, ex, ey, eb, M, sm, q2⟩ => ?_)
  subst ex ey
  obtain rfl : u = Value.ref a := rx
  obtain rfl : iv = Value.ref b := ry
  have dd := mem_dict I2 M
  obtain ⟨p, hp⟩ := Option.isSome_iff_exists.mp sm
  obtain ⟨x, hx, e1, e2⟩ := atKey_mem hp
  obtain ⟨_, i, t, e3, r⟩ := M.key x hx
  refine ⟨dd.typeIs, wpAny_getItem_heap (tupleKind_room_in1 hu) (keyL_of I2.hok eb) dd hp ⟨.int i, H2, I2.tok _, ?_, q2 i (e1 ▸ r)⟩⟩
  rw [← e2, e3]
  exact ⟨t, rfl⟩
/-- d[key] = i of such a dict, the key not yet in it -/
def rMemPut (P : Program) (w : World) : TSet := fun o y v H Q => ∃ (a b : Addr) (k : List Leaf) (R : List Leaf → Int → Prop) (n : Nat) (xs : List (List Leaf × Addr × Value)) (i : Int), o = .ref a ∧ y = .ref b ∧ v = .int i ∧ H b = some (.tup (k.map lV)) ∧ MemAt P w H a R n xs ∧ n < 1000000 ∧ R k i ∧
  ∀ (H' : Hp) (xs' : List (List Leaf × Addr × Value)), MemAt P w H' a R (n + 1) xs' → (∀ q u, q ≠ a → H q = some u → H' q = some u) → (atKey xs' k).isSome = true → Q H'
theorem atKey_put {K : Type} [DecidableEq K] (k : K) (v : Value) : ∀ {xs : List (K × Addr × Value)}, (atKey xs k).isSome = true → (atKey (xs.map (putAt k v)) k).isSome = true := by
  intro xs h
  obtain ⟨p, hp⟩ := Option.isSome_iff_exists.mp h
  obtain ⟨x, hx, e1, _⟩ := atKey_mem hp
  unfold atKey
  rw [Option.isSome_map, List.find?_isSome]
  refine ⟨putAt k v x, List.mem_map.mpr ⟨x, hx, rfl⟩, ?_⟩
  unfold putAt
  rw [if_pos e1]
  exact decide_eq_true e1
theorem set_mem (hu : X.A.units + 1 < cLine) : PSet X (rMemPut X.prog X.w) := by
  intro pins s σ H o y v ov iv u Q I ro ri rv h
  obtain ⟨a, b, k, R, n, xs, i, rfl, rfl, rfl, eb, M, hn, r, q⟩ := h
  cases ro
  cases ri
  obtain ⟨t, rfl⟩ := rv
  have dd := mem_dict I M
  have hz : xs.length ≤ sizeLine := by rw [sizeLine_eq]; have := M.few; omega
  refine wpAny_setItem_heap (hsz := hz) (tupleKind_room_in1 hu) (keyL_of I.hok eb) dd fun h' dd' hs => ?_
  obtain ⟨ob, es, ep, hq, h2, h3, h4, _, h5⟩ := dd'
  obtain ⟨_, _, _⟩ := I.hok a _ M.ex
  have new : ObjOk X.prog X.w (upd H a (MemO X.prog X.w a (storedH xs k b (.int i t)))) h' a (MemO X.prog X.w a (storedH xs k b (.int i t))) := by
    refine ⟨⟨ob, es, ep, hq, h2, h3, h4, h5⟩, ⟨ob, hq⟩, fun h1 h2' ⟨o1, es1, ep1, g1, g2⟩ kk => ⟨o1, es1, ep1, kk _ g1, g2⟩⟩
  have far : ∀ q u, q ≠ a → H q = some u → (upd H a (MemO X.prog X.w a (storedH xs k b (.int i t)))) q = some u := fun q u ne e => by rw [upd_ne ne]; exact e
  have tupNe : ∀ {c : Addr} {ys : List V}, H c = some (.tup ys) → c ≠ a := fun ec => ne_of ec M.ex (fun z => nomatch z)
  refine ⟨_, d_write I (by rw [M.ex]; exact True.intro) hs ⟨ob, hq⟩ new, ?_⟩
  by_cases there : (atKey xs k).isSome = true
  · obtain ⟨p, hp⟩ := Option.isSome_iff_exists.mp there
    have es' := storedH_old hp b (.int i t)
    refine q _ (xs.map (putAt k (.int i t))) ⟨by rw [← es']; exact upd_same, by rw [List.length_map]; have := M.few; omega, fun x hx => ?_, M.sys⟩ far (atKey_put k _ there)
    obtain ⟨x0, hx0, rfl⟩ := List.mem_map.mp hx
    obtain ⟨m1, i0, t0, m2, m3⟩ := M.key x0 hx0
    unfold putAt
    by_cases e : x0.1 = k
    · rw [if_pos e]
      exact ⟨far _ _ (tupNe m1) m1, i, t, rfl, e ▸ r⟩
    · rw [if_neg e]
      exact ⟨far _ _ (tupNe m1) m1, i0, t0, m2, m3⟩
  · have hno : atKey xs k = none := by
      cases e : atKey xs k with
      | none => rfl
      | some p => rw [e] at there; exact absurd rfl there
    have es' := storedH_new hno b (.int i t)
    refine q _ (xs ++ [(k, b, .int i t)]) ⟨by rw [← es']; exact upd_same, by rw [List.length_append, List.length_singleton]; have := M.few; omega, fun x hx => ?_, M.sys⟩ far ?_
    · rcases List.mem_append.mp hx with hx | hx
      · obtain ⟨m1, m2⟩ := M.key x hx
        exact ⟨far _ _ (tupNe m1) m1, m2⟩
      · obtain rfl := List.mem_singleton.mp hx
        exact ⟨far _ _ (tupNe eb) eb, i, t, rfl, r⟩
    · unfold atKey
      rw [Option.isSome_map, List.find?_isSome]
      exact ⟨(k, b, .int i t), List.mem_append_right _ (List.mem_singleton.mpr rfl), decide_eq_true rfl⟩
/-- {} as such a dict -/
def tMemNew (P : Program) (w : World) : TE := fun _ H Q => ∀ a, H a = none → (∀ R, MemAt P w (upd H a (MemO P w a [])) a R 0 []) → Q (.ref a) (upd H a (MemO P w a []))
theorem pe_memnew {pos : Pos} : PE X (.Dict [] [] pos) (tMemNew X.prog X.w) := ⟨fun pins s σ H Q I h => by
  have hb := I.big
  have hn := I.hok.fresh (Nat.le_refl s.heap.objs.size)
  have sys : (s.heap.objs.size == sysModules) = false := beq_eq_false_iff_ne.mpr (Ne.symm (Nat.ne_of_lt hb))
  have new : ObjOk X.prog X.w (upd H s.heap.objs.size (MemO X.prog X.w s.heap.objs.size [])) (s.heap.push { cls := .type "dict", data := .dict #[] }) s.heap.objs.size (MemO X.prog X.w s.heap.objs.size []) :=
    ⟨⟨_, #[], 0, Heap.get?_push_size _ rfl, ⟨rfl, rfl, rfl⟩, rfl, rfl, List.nodup_nil⟩, ⟨_, Heap.get?_push_size _ rfl⟩, fun h1 h2' ⟨o1, es1, ep1, g1, g2⟩ kk => ⟨o1, es1, ep1, kk _ g1, g2⟩⟩
  refine wpAny_Dict_empty ⟨.ref s.heap.objs.size, _, I.laid (a := s.heap.objs.size) (o := MemO X.prog X.w s.heap.objs.size []) (t' := s.toks) (fun _ _ q => Heap.get?_push_of_some _ q) (Nat.le_refl _) new, rfl, h _ hn fun R => ⟨upd_same, Nat.le_refl _, fun x hx => absurd hx List.not_mem_nil, sys⟩⟩⟩
end
end My
namespace My
open PySem PySem.Spec PyProof.Rows L2
/-- an exception of the class cls that was caught and is still held, its own dict at d -/
def KeptO (cls : Value) (d : Option Addr) (a : Addr) : HO := .ext fun h => ∃ oe vs, h.get? a = some oe ∧ Zc cls d oe ∧ oe.data = .fields vs
theorem kept_ok {P : Program} {w : World} {H : Hp} {h : Heap} {cls : Value} {d : Option Addr} {a : Addr} {oe : Obj} {vs : Array Value} (e : h.get? a = some oe) (z : Zc cls d oe) (f : oe.data = .fields vs) : ObjOk P w H h a (KeptO cls d a) :=
  ⟨⟨oe, vs, e, z, f⟩, ⟨oe, e⟩, fun _ _ ⟨o, v, q, r⟩ k => ⟨o, v, k o q, r⟩⟩
section
variable {X : Cx} {pins : List (Addr × Obj)} {σ : L2.St} {H : Hp} {s : Shared}
/-- an object of ours, made since the entry and not tracked so far, is tracked from now on -/
theorem track {a : Addr} {o : HO} (I : Inv X pins σ H s) (na : H a = none) (n0 : X.s_0.heap.get? a = none) (nL : a ≠ X.env.locals) (nC : ∀ x c, X.env.cells.lookup x = some c → c ≠ a) (nP : ∀ p ∈ X.pn ++ pins, p.1 ≠ a)
    (ok : ObjOk X.prog X.w (upd H a o) s.heap a o) : Inv X pins σ (upd H a o) s := by
  have far : ∀ {b : Addr} {u : HO}, H b = some u → b ≠ a := fun q z => by
    rw [z, na] at q
    cases q
  have up : ∀ {b : Addr} {u : HO}, H b = some u → (upd H a o) b = some u := fun q => by
    rw [upd_ne (far q)]
    exact q
  refine ⟨I.ok, I.os, I.bare, ⟨I.base.keep, I.base.slot, fun b u q n hx => ?_, I.base.there, fun b xs q => up (I.base.tups b xs q), fun b u xs q => up (I.base.frzs b u xs q), fun b ps q => ?_⟩, I.loc, I.cell, ?_, fun x c q => ?_, fun p hp => ?_, fun b u q => ?_, I.len⟩
  · have nb : b ≠ a := fun z => by
      rw [z, n0] at q
      cases q
    rw [upd_ne nb]
    exact I.base.free b u q n hx
  · obtain ⟨more, q1⟩ := I.base.tbls b ps q
    exact ⟨more, up q1⟩
  · rw [upd_ne (Ne.symm nL)]
    exact I.free
  · rw [upd_ne (nC x c q)]
    exact I.freeC x c q
  · obtain ⟨h1, h2, h3⟩ := I.pin p hp
    refine ⟨h1, ?_, h3⟩
    rw [upd_ne (nP p hp)]
    exact h2
  · by_cases hb : b = a
    · subst hb
      rw [upd_same] at q
      injection q with q
      subst q
      exact ok
    · rw [upd_ne hb] at q
      exact (I.hok b u q).stay (fun _ _ _ r => r) (fun _ r => up r) fun _ _ r => up r
end
/-- what `except x as n: suite` wishes of an exception of the body: slot i is n's; behind the suite the exception is held -/
def wKeep (K : PySem.W.Frag) (c : Value) (i : Nat) (ts : Addr → Value → Option Addr → TS) (D : Ends) : WX := fun cls d σ H =>
  PySem.W.exmOne K cls c = some true ∧ ∀ a, H a = none → ts a cls d { nx := fun σ' H' => D.nx (σ'.set i none) (upd H' a (KeptO cls d a)), rt := fun _ _ => False, bk := fun _ _ => False, ct := fun _ _ => False } (σ.set i (some (.ref a))) H
section
variable {X : Cx} {x n : Str} {c : Value} {i : Nat} {body suite : List Stmt} {b₀ : Stmt} {np pos pos' : Pos} {tb : WX → TS} {ts : Addr → Value → Option Addr → TS}
theorem ps_try_keep (hex : X.ex = []) (hs : X.stack = X.env :: X.outer) (hf : X.env.frame = some X.env.locals) (hN : X.N.Nodup) (hi : X.N[i]? = some n) (hln : X.env.kindOf n = some .local) (hc : Names X x c)
    (hb : ∀ (W : WX) (pn : List (Addr × Obj)) (xe : Value → Shared → Prop), Takes (X.tr pn xe) W → PassesOwn (model X.prog X.w) X.A X.env xe → PSs (X.tr pn xe) body (tb W))
    (hsu : ∀ (a : Addr) (oe : Obj) (cls : Value) (d : Option Addr) (pn : List (Addr × Obj)), Zc cls d oe → (∃ vs, oe.data = .fields vs) → PSs (X.suite a ((a, oe) :: pn)) (b₀ :: suite) (ts a cls d)) :
    PS X (.Try body [.ExceptHandler (some (.Name x np)) (some n) (b₀ :: suite) pos'] [] [] pos) (fun D σ H => tb (wKeep X.K c i ts D) D σ H) := by
  constructor
  intro pins s σ H D I h
  have ok := I.ok
  have hfr : X.A.frames = some (X.env :: X.outer) := by rw [ok.frames, hs]
  -- what the body's exceptions are told to
  have caught : Takes (X.tr (X.pn ++ pins) fun e s₁ => wpAny (model X.prog X.w) X.A (noteFrame e X.env) (fun _ s₂ => wpAny (model X.prog X.w) X.A (setFlight e none) (fun _ s₃ =>
      wpAny (model X.prog X.w) X.A (handleBy e X.env [.ExceptHandler (some (.Name x np)) (some n) (b₀ :: suite) pos']) (SP X pins D) X.xe s₃) X.xe s₂) X.xe s₁) (wKeep X.K c i ts D) := by
    intro u s' xx
    obtain ⟨a, B, sI, pins', σ', H', cls, d, rfl, J', nb, up, sky, na, os, ag, hm, go⟩ := xx
    have J : Inv X pins σ' H' sI := J'.ofTry ok
    rw [show (X.tr (X.pn ++ pins) _).stack = X.env :: X.outer from hs] at sky
    show wpAny (model X.prog X.w) X.A (noteFrame (.ref a) X.env) _ _ _
    refine Sky.land Zc.steady hfr hf sky fun h3 fl3 up3 => ?_
    have none_B : B.get? a = none := fl3.2.1
    obtain ⟨oe3, vs3, he3, hz3, hd3⟩ := fl3.there
    have J3 : Inv X pins σ' H' { s' with heap := h3 } := J.landed nb fl3.1 (up.trans up3) os ag
    have out : a ∉ frs (X.env :: X.outer) := by
      intro z
      obtain ⟨_, o, e1, e2⟩ := (fl3.2.2.1).mem z
      have e3 := he3.symm.trans e1
      injection e3 with e3
      exact e2 vs3 (e3 ▸ hd3)
    have nL : a ≠ X.env.locals := fun z => out (List.mem_filterMap.mpr ⟨X.env, List.mem_cons_self, by rw [hf, z]⟩)
    have nF : a ∉ X.fs := fun z => by
      obtain ⟨e, he, e1⟩ := List.mem_filterMap.mp z
      exact out (List.mem_filterMap.mpr ⟨e, List.mem_cons_of_mem _ he, e1⟩)
    have notI : ∀ o, sI.heap.get? a ≠ some o := fun o z => by
      have e1 := nb a o z (by rw [hs]; exact out)
      rw [none_B] at e1
      cases e1
    have n0 : X.s_0.heap.get? a = none := by
      cases z : X.s_0.heap.get? a with
      | none => rfl
      | some o =>
        obtain ⟨o', e1⟩ := J.base.there a o z (by rw [hex]; exact List.not_mem_nil)
        exact absurd e1 (notI o')
    have nP : ∀ p ∈ X.pn ++ pins, p.1 ≠ a := fun p hp z => notI p.2 (z ▸ (J.pin p hp).1)
    have nC : ∀ v cc, X.env.cells.lookup v = some cc → cc ≠ a := fun v cc q z => by
      obtain ⟨_, o, e1, e2⟩ := J3.cell v cc q
      have e3 : h3.get? cc = some o := e1
      rw [z, he3] at e3
      injection e3 with e3
      rw [← e3, hd3] at e2
      cases e2
    have S3 := J3.suite he3 hd3 na nL nF
    refine wpAny_handleBy_cons (codeAny_handlers_test ?_) (by intro q; cases q)
    have kind : PySem.W.Looks (model X.prog X.w) h3 (typeOf (.ref a)) cls := fun A Q E s k q => wpAny_typeOf_ref (k _ _ he3) (by rw [hz3.1]; exact q)
    have fits := PySem.W.exm_one (M := model X.prog X.w) J3.kIn kind hm
    have named : ∀ {Q : Value → Shared → Prop} {E : Value → Shared → Prop}, Q c { s' with heap := h3 } → wpAny (model X.prog X.w) (X.A.mark (some (.ref a))) (eval (.Name x np) X.env) Q E { s' with heap := h3 } := by
      intro Q E q
      obtain ⟨g, db, hx | ⟨hx, hv, hnn⟩⟩ := hc
      · exact ld_glob (X := X.suite a ((a, oe3) :: (X.pn ++ pins))) S3 g hx q db
      · exact ld_blt (X := X.suite a ((a, oe3) :: (X.pn ++ pins))) S3 g hx hv q hnn db
    refine named (fits.here (codeAny_handlers_suite_as (HandSPX.lands_againZ fl3 fun h4 fl4 up4 => ?_)))
    obtain ⟨oe4, vs4, he4, hz4, hd4⟩ := fl4.there
    have J4 : Inv X pins σ' H' { s' with heap := h4 } := J.landed nb fl4.1 ((up.trans up3).trans up4) os ag
    have S4 := J4.suite he4 hd4 na nL nF
    refine store_ok (X := X.suite a ((a, oe4) :: (X.pn ++ pins))) (v := .ref a) S4 hN hi (.inl hln) rfl (fun s5 S5 => ?_) (.inr hln)
    refine wpAny_mono ((hsu a oe4 cls d (X.pn ++ pins) hz4 ⟨_, hd4⟩).run [] s5 _ H' _ S5 (go a na)) (fun f s6 q => ?_) fun _ _ z => z.elim
    cases f with
    | brk => exact (let ⟨_, _, _, q⟩ := q; q).elim
    | cont => exact (let ⟨_, _, _, q⟩ := q; q).elim
    | ret u => exact (let ⟨_, _, _, _, _, q⟩ := q; q).elim
    | next =>
      obtain ⟨σ6, H6, S6, q6⟩ := q
      refine gone_ok (X := X.suite a ((a, oe4) :: (X.pn ++ pins))) S6 hN hi hln fun s7 S7 => ?_
      obtain ⟨e7, n7, _⟩ := S7.pin (a, oe4) (List.mem_append_left _ List.mem_cons_self)
      exact ⟨_, _, track (S7.unsuite ok) n7 n0 nL nC nP (kept_ok e7 hz4 hd4), q6⟩
  refine wpAny_Try_except (wpAny_mono ((hb (wKeep X.K c i ts D) (X.pn ++ pins) _ caught PassesOwn.looking).run [] s σ H D (I.toTry _) h) (fun f s1 q => ?_) fun e s1 q => q)
  cases f with
  | next => exact (let ⟨σ', H', J, q⟩ := q; wpAny_execs_nil ⟨σ', H', J.ofTry ok, q⟩)
  | brk => exact (let ⟨σ', H', J, q⟩ := q; ⟨σ', H', J.ofTry ok, q⟩)
  | cont => exact (let ⟨σ', H', J, q⟩ := q; ⟨σ', H', J.ofTry ok, q⟩)
  | ret u => exact (let ⟨v, σ', H', J, r, q⟩ := q; ⟨v, σ', H', J.ofTry ok, r, q⟩)
end
end My
namespace My
open PySem PySem.Spec PyProof.Rows L2
section
variable {X : Cx} {pins : List (Addr × Obj)} {σ : L2.St} {H : Hp} {s : Shared} {a C : Addr} {d : Option Addr}
/-- the held exception as the library's rules for instances want it; its own dict, if it has one, is tracked -/
theorem held_inst (I : Inv X pins σ H s) (h : H a = some (KeptO (.ref C) d a)) (hd : ∀ dd, d = some dd → ∃ fs, H dd = some (.xd fs)) : ∃ oe od, PySem.W.InstAt s.heap a oe C od := by
  obtain ⟨⟨oe, vs, e, z, f⟩, _, _⟩ := I.hok a _ h
  have plain : PySem.W.notCls oe = true := by
    unfold PySem.W.notCls
    rw [f] <;> rfl
  cases d with
  | none => exact ⟨oe, none, e, z.1, plain, by rw [z.2]; trivial⟩
  | some dd =>
    obtain ⟨fs, hx⟩ := hd dd rfl
    obtain ⟨mA, ns, _⟩ := (show ObjOk X.prog X.w H s.heap dd (.xd fs) from I.hok dd _ hx)
    obtain ⟨od, ho, _⟩ := lookIn_ns ns
    exact ⟨oe, some od, e, z.1, plain, by rw [z.2]; exact ho⟩
/-- isinstance(e, c), e an exception that is held, c an own class or a built-in one -/
def rHeldIs (K : PySem.W.Frag) : List V → Hp → VK → Prop := fun xs H Q => ∃ (a D : Addr) (d : Option Addr) (c : V) (u : Value) (b : Bool), xs = [.ref a, c] ∧ ClsV c u ∧ H a = some (KeptO (.ref D) d a) ∧ (∀ dd, d = some dd → ∃ fs, H dd = some (.xd fs)) ∧
  ExcC K D ∧ PySem.W.kitOne K (.ref D) u = some b ∧ Q (.bl b) H
theorem call_heldIs : CallR X (.builtin "isinstance") (rHeldIs X.K) := by
  intro pins s σ H xs us Q I r h
  obtain ⟨a, D, d, c, u, b, rfl, k, ha, hd, T, e, q⟩ := h
  obtain ⟨u1, u2, rfl, r1, r2⟩ := vals2 r
  cases r1
  have e2 := k.eq r2
  subst e2
  obtain ⟨oe, od, J⟩ := held_inst I ha hd
  have cls : (PySem.W.clsIn X.K D).isSome = true := by
    obtain ⟨cd, hc, _⟩ := PySem.W.any_some T.hd
    rw [hc] <;> rfl
  exact PySem.W.kia_one (PySem.W.kitx_exc cls T.hg T.hk T.hs T.ha T.hn T.ht T.hm) I.kIn J e (fun z => nomatch z) fun tk => ⟨.bl b, H, I.tok tk, rfl, q⟩
/-- e.f of a held exception -/
def tHeldF (K : PySem.W.Frag) (f : Str) (te : TE) : TE := fun σ H Q => te σ H fun x H1 => ∃ (a C dd : Addr) (fs : List (Str × V)) (v : V), x = .ref a ∧ H1 a = some (KeptO (.ref C) (some dd) a) ∧ H1 dd = some (.xd fs) ∧ XfC K C ∧ PySem.W.findIn K (.ref C) f = some none ∧ fs.lookup f = some v ∧ Q v H1
theorem pe_heldF {te : TE} {n : Str} {e : Expr} {pos : Pos} (he : PE X e te) (hb : attributeBase e n X.env (eval e X.env) = eval e X.env := by rfl) : PE X (.Attribute e n pos) (tHeldF X.K n te) := by
  constructor
  intro pins s σ H Q I h
  refine attr_of hb (thn (he.run pins s σ H _ I h) ?_)
  intro u s1 hu
  obtain ⟨x, H1, I1, rx, a, C, dd, fs, v, ex, ea, ed, T, hno, l, q⟩ := hu
  subst ex
  obtain rfl : u = Value.ref a := rx
  obtain ⟨⟨oe, vs, e1, z, f1⟩, _, _⟩ := I1.hok a _ ea
  obtain ⟨mA, ns, rel⟩ := (show ObjOk X.prog X.w H1 s1.heap dd (.xd fs) from I1.hok dd _ ed)
  obtain ⟨od, ho, hl⟩ := lookIn_ns ns
  obtain ⟨w, hw, rw'⟩ := RelO.some_of (v := v) (o := mA n) (by rw [← l]; exact rel n)
  have plain : PySem.W.notCls oe = true := by
    unfold PySem.W.notCls
    rw [f1] <;> rfl
  have J : PySem.W.InstAt s1.heap a oe C (some od) := ⟨e1, z.1, plain, by rw [z.2]; exact ho⟩
  exact HandSPX.exc_get I1.kIn J T.ga T.gg T.exC (PySem.W.findObj_own T.hdC hno rfl (by rw [hl, hw])) (handed_of rw') ⟨v, H1, I1.tok _, rw', q⟩
end
end My
namespace My
open PySem PySem.Spec PyProof.Rows L2
/-- a def's promise where it is known that no repr is under way -/
structure FnG (P : Program) (w : World) (K : PySem.W.Frag) (mg : Str → Option Value) (base : Heap) (CX : CXT) (k : Nat) (f : Addr) (fd : FuncData) (ps : List Str) (sp : Sp) : Prop where
  len : ∀ vs H Q E, sp vs H Q E → vs.length = ps.length
  run : ∀ (A : Around) (outer : List Env) (s : Shared) (H : Hp) (args : Args) (us : List Value) (vs : List V) (Q : VK) (E : XK), Room k A → A.guards = some [] → Env0 P w K mg base A outer s H → BindsTo s fd args (ps.zip us) → Vals vs us → sp vs H Q E →
    codeAny (model P w) A (.call (.ref f) args) (CR CX outer P w H s Q E) s
theorem toG {P : Program} {w : World} {K : PySem.W.Frag} {mg : Str → Option Value} {base : Heap} {CX : CXT} {k : Nat} {f : Addr} {fd : FuncData} {ps : List Str} {sp : Sp} (F : FnOk P w K mg base CX k f fd ps sp) : FnG P w K mg base CX k f fd ps sp :=
  ⟨F.len, fun A outer s H args us vs Q E r _ => F.run A outer s H args us vs Q E r⟩
section
variable {P : Program} {w : World} {K : PySem.W.Frag} {mg : Str → Option Value} {base : Heap}
/-- a def by its body, the guards known -/
theorem okG {CX : CXT} {x qual : Str} {st : Stmt} {f : Addr} {fd : FuncData} {N ps : List Str} {k : Nat} {sp : Sp} (F : Fun K x qual st f fd) (S : FnScope N ps (defScope st)) (len : ∀ vs H Q E, sp vs H Q E → vs.length = ps.length)
    (body : ∀ (cdv : Value) (A : Around) (outer : List Env) (s : Shared) (H : Hp) (vs : List V) (Q : VK) (E : XK), Room k (A.deeper (envOfC qual (defScope st) s.heap.objs.size f cdv)) → (A.deeper (envOfC qual (defScope st) s.heap.objs.size f cdv)).guards = some [] → sp vs H Q E →
      ∃ t, PSs (cxOf CX P w K mg base N qual (defScope st) f cdv A outer s H E) (defBody st) t ∧ t { nx := fun _ H' => Q .non H', rt := Q } (start N vs) H) : FnG P w K mg base CX (k + 1) f fd ps sp := by
  obtain ⟨oc, od, kV, doc, pm, an, cdv, ct, osl, rfl, lk, hcd⟩ := F.ex
  refine ⟨len, ?_⟩
  intro A outer s H args us vs Q E room guard e0 bind rel prom
  have stays : ∀ b o, base.get? b = some o → s.heap.get? b = some o := fun b o z => (e0.bs b o z).1
  have KS : K.In s.heap := e0.mod.kin.keeps stays
  have many := len _ _ _ _ prom
  have kinds : ∀ y ∈ ps.zip us, (defScope st).names.lookup y.1 = some .local ∨ ((defScope st).names.lookup y.1 = some .cell ∧ ((cellsFrom (s.heap.objs.size + 1) (defScope st).names []).lookup y.1).isSome = true) := by
    intro y hy
    cases S.par y.1 (List.of_mem_zip hy).1 with
    | inl q => exact .inl q
    | inr q => exact .inr ⟨q, PySem.W.cellsFrom_some _ _ _ (.inl q)⟩
  refine codeAny_call_function room.depth (KS _ _ lk) rfl S.co S.gen rfl (PySem.W.codeRec_of KS hcd) (bind _ _ _ _ ?_)
  refine wpAny_newFunctionEnv_cells S.kind kinds fun env he s2 ic => ?_
  subst he
  refine ⟨(e0.mod.nolimit.keeps stays).keeps ic.toInCall.keep, codeAny_func ?_⟩
  have guard' : (A.deeper (envOfC qual (defScope st) s.heap.objs.size f cdv)).guards = some [] := by
    obtain ⟨a1, a2, a3, a4, a5⟩ := A
    first | exact guard | simpa [Around.deeper, Code.guards, Code.isGuard, pushGuards, guardIds] using guard
  obtain ⟨t, ht, hq⟩ := body cdv A outer s H vs Q E (room.deeper _) guard' prom
  refine wpAny_mono (ht.run [] s2 (start N vs) H _ (inv_start S room.hd e0 many rel ic) hq) (fun fl s' hs => ?_) fun e s' hs => hs
  cases fl with
  | ret u => exact (let ⟨v, _, H', J, rv, q⟩ := hs; ⟨v, H', J.os, J.bare, J.base, J.hok, rv, q⟩)
  | next => exact (let ⟨_, H', J, q⟩ := hs; ⟨.non, H', J.os, J.bare, J.base, J.hok, rfl, q⟩)
  | brk => exact (let ⟨_, _, _, q⟩ := hs; q).elim
  | cont => exact (let ⟨_, _, _, q⟩ := hs; q).elim
end
section
variable {X : Cx} {CX : CXT} {k : Nat} {f : Addr} {fd : FuncData} {ps : List Str} {ds : List Value} {dvs : List V} {sp : Sp} {E : XK} {x : Str} {p pos : Pos} {e : Expr} {es : List Expr} {t : TA}
theorem runG {pins : List (Addr × Obj)} {σ : L2.St} {H : Hp} {s : Shared} {Q : VK} {us : List Value} {vs : List V} (F : FnG X.prog X.w X.K X.mg X.base CX k f fd ps sp) (hr : Room k X.A) (hg : X.A.guards = some []) (hb : Binds X.K fd ps ds) (hd : Vals dvs ds) (hx : Passes CX X E)
    (I : Inv X pins σ H s) (r : Vals vs us) (h : sp (vs ++ dvs) H Q E) : wpAny (model X.prog X.w) X.A (call (.ref f) us) (EP X pins σ Q) X.xe s := by
  have rel : Vals (vs ++ dvs) (us ++ ds) := r.append hd
  have many : (us ++ ds).length = ps.length := rel.length ▸ F.len _ _ _ _ h
  refine wpAny_call (codeAny_mono (F.run X.A X.stack s H ⟨us, []⟩ (us ++ ds) (vs ++ dvs) Q E hr hg I.env0 (hb s us I.kIn many) rel h) ?_)
  intro r s' hq
  match r, hq with
  | .error e, hq => exact hx pins σ H s e s' I hq
  | .ok (.ret u), hq => exact I.after hq
/-- f(e, ..) where it is known that no repr is under way -/
theorem pe_callG (F : FnG X.prog X.w X.K X.mg X.base CX k f fd ps sp) (hr : Room k X.A) (hgu : X.A.guards = some []) (hg : Gl X x) (hm : X.mg x = some (.ref f)) (hk : PySem.W.keepIn X.K (.ref f) = true) (hb : Binds X.K fd ps ds) (hd : Vals dvs ds) (hx : Passes CX X E)
    (ha : PA X (e :: es) t) (hdb : (x == ("__debug__" : Str)) = false := by decide) (he : starEach (e :: es) X.env = (false, eval e X.env) :: starEach es X.env := by rfl) (hpl : (backTo pos (starEach es X.env)).any (·.1) = false := by rfl) :
    PE X (.Call (.Name x p) (e :: es) [] pos) (tCall sp dvs E t) := by
  constructor
  intro pins s σ H Q I h
  refine wpAny_Call_Name_kw (ld_glob I hg hm (PySem.W.callWith_K (h₀ := X.base) I.ok.mod.kin hk (thn (ha.run pos pins s σ H _ I h) ?_) he hpl) hdb)
  intro us s1 hu
  obtain ⟨vs, H1, I1, r, q⟩ := hu
  exact ⟨I1.kIn, runG F hr hgu hb hd hx I1 r q⟩
/-- x == y where x is of an own class with an own __eq__ that answers True or False, y anything that is not of a class below x's -/
def rEqOwn (K : PySem.W.Frag) (C : Addr) (sp : Sp) (E : XK) : R2 := fun x y H Q => ∃ (a dx : Addr) (fs : List (Str × V)) (t : Value), x = .ref a ∧ H a = some (.ins C dx fs) ∧ TyX K H y t ∧ PySem.W.notFirst K C t = true ∧ sp [x, y] H (fun v H' => ∃ b, v = .bl b ∧ Q (.bl b) H') E
theorem op_eqOwn {C : Addr} (F : FnG X.prog X.w X.K X.mg X.base CX k f fd ps sp) (hr : Room k X.A) (hgu : X.A.guards = some []) (hs : PySem.W.findIn X.K (.ref C) "__eq__" = some (some (.ref f))) (hf : PySem.W.isFn X.K (.ref f) = true) (hb : Binds X.K fd ps []) (hx : Passes CX X E) :
    OpR X (compareOp .Eq) (rEqOwn X.K C sp E) := by
  intro pins s σ H x y v u Q I rx ry h
  obtain ⟨a, dx, fs, t, rfl, ha, ty, nf, q⟩ := h
  cases rx
  obtain ⟨mA, J, _⟩ := ins_get I.hok ha
  obtain ⟨od, J, _⟩ := J.look
  obtain ⟨m, hF⟩ := I.fr
  obtain ⟨Pp, Z, pz, _⟩ := kit_of I ry ty
  show wpAny (model X.prog X.w) X.A (richCompare .Eq (.ref a) u) (EP X pins σ Q) X.xe s
  refine PySem.W.cmp_K (op := .Eq) (tb := t) hr.units0 hF I.ok.mod.kin J (Z.ty _ _ I.kIn pz) nf hs hf ?_
  refine wpAny_mono (runG (vs := [.ref a, y]) (us := [.ref a, u]) (dvs := []) (ds := []) F hr hgu hb .nil hx I (.cons rfl (.cons ry .nil)) q) (fun r s' z => ?_) fun _ _ z => z
  obtain ⟨w1, H1, I1, r1, b, rfl, q1⟩ := z
  cases r1
  exact ⟨.bl b, H1, I1, rfl, q1⟩
end
end My
namespace My
open PySem PySem.Spec PyProof.Rows L2
section
variable {X : Cx} {CX : CXT} {k : Nat} {f : Addr} {fd : FuncData} {ps : List Str} {sp : Sp} {E : XK}
/-- a def called from within a built-in -/
theorem runAt {A : Around} {pins : List (Addr × Obj)} {σ : L2.St} {H : Hp} {s : Shared} {Q : VK} {us : List Value} {vs : List V} (F : FnG X.prog X.w X.K X.mg X.base CX k f fd ps sp) (hr : Room k A) (hg : A.guards = some []) (fr : A.frames = X.A.frames) (hb : Binds X.K fd ps []) (hx : Passes CX X E)
    (I : Inv X pins σ H s) (r : Vals vs us) (h : sp vs H Q E) : wpAny (model X.prog X.w) A (call (.ref f) us) (EP X pins σ Q) X.xe s := by
  have many : us.length = ps.length := r.length ▸ F.len _ _ _ _ h
  have e0 : Env0 X.prog X.w X.K X.mg X.base A X.stack s H := by
    obtain ⟨h1, h2, h3, h4, h5, h6, h7, h8⟩ := I.env0
    exact ⟨fr.trans h1, h2, h3, h4, h5, h6, h7, h8⟩
  have bind := hb s us I.kIn (by simpa using many)
  rw [List.append_nil] at bind
  refine wpAny_call (codeAny_mono (F.run A X.stack s H ⟨us, []⟩ us vs Q E hr hg e0 bind r h) ?_)
  intro r s' hq
  match r, hq with
  | .error e, hq => exact hx pins σ H s e s' I hq
  | .ok (.ret u), hq => exact I.after hq
/-- x != y where x is of an own class with an own __eq__ that answers True or False and without an own __ne__ -/
theorem op_neOwn {C : Addr} (F : FnG X.prog X.w X.K X.mg X.base CX k f fd ps sp) (hr : Room (k + 1) X.A) (hgu : X.A.guards = some []) (hs : PySem.W.findIn X.K (.ref C) "__eq__" = some (some (.ref f))) (hf : PySem.W.isFn X.K (.ref f) = true)
    (hn : PySem.W.findIn X.K (.ref C) "__ne__" = some (some (.builtin "object.__ne__"))) (hm : PySem.W.mroIn X.K C (.type "object") = some true) (hb : Binds X.K fd ps []) (hx : Passes CX X E) :
    OpR X (compareOp .NotEq) (fun x y H Q => rEqOwn X.K C sp E x y H fun v H' => ∃ b, v = .bl b ∧ Q (.bl (!b)) H') := by
  intro pins s σ H x y v u Q I rx ry h
  obtain ⟨a, dx, fs, t, rfl, ha, ty, nf, q⟩ := h
  cases rx
  obtain ⟨mA, J, _⟩ := ins_get I.hok ha
  obtain ⟨od, J, _⟩ := J.look
  obtain ⟨Pp, Z, pz, _⟩ := kit_of I ry ty
  have KS := I.kIn
  have own : wpAny (model X.prog X.w) X.A.in1 (callSpecialIfBound? (.ref a) "__eq__" [u]) (fun r s' => ∃ b, r = some (.bool b) ∧ EP X pins σ Q (.bool (!b)) s') X.xe s := by
    refine PySem.W.ifBound_K KS J hs hf (wpAny_mono (runAt (vs := [.ref a, y]) (us := [.ref a, u]) F hr.in1 hgu rfl hb hx I (.cons rfl (.cons ry .nil)) q) (fun r s' z => ?_) fun _ _ z => z)
    obtain ⟨w1, H1, I1, r1, b, rfl, b', e, q1⟩ := z
    cases r1
    cases e
    exact ⟨b, rfl, .bl (!b), H1, I1, rfl, q1⟩
  have entry : wpAny (model X.prog X.w) X.A.in1 (Builtin.«object.__ne__» ⟨[.ref a, u], []⟩) (fun r s' => ∃ b, r = .done (.ret (.bool (!b))) ∧ EP X pins σ Q (.bool (!b)) s') X.xe s := by
    unfold Builtin.«object.__ne__»
    refine wpAny_bind (wpAny_of_eq (a := ((Value.ref a : Value), [u])) (by first | rfl | (simp only [slotArgs]; rfl)) ?_)
    refine wpAny_bind (wpAny_cRoomFor hr.in1.units0 (wpAny_bind (wpAny_mono own (fun r s' z => ?_) fun _ _ z => z)))
    obtain ⟨b, rfl, ep⟩ := z
    exact wpAny_bind (wpAny_truthy_bool (wpAny_pure ⟨b, rfl, ep⟩))
  have slot : wpAny (model X.prog X.w) X.A (call (.builtin "object.__ne__") [.ref a, u]) (fun v s' => ∃ b, v = .bool b ∧ EP X pins σ Q (.bool b) s') X.xe s := by
    refine wpAny_call (codeAny_call_builtin PySem.F.cmp_object.ne.plain PySem.F.cmpEntry_ne (PySem.W.check_slot PySem.F.cmpKind_ne PySem.F.cmpSplit_ne (J.type.andThen (PySem.W.looks_mroIn KS hm)) (PySem.F.cmpArgs_ne _ _) (wpAny_mono entry (fun r s' z => ?_) fun _ _ z => z)))
    obtain ⟨b, rfl, ep⟩ := z
    exact ⟨!b, rfl, ep⟩
  have one : wpAny (model X.prog X.w) X.A (tryCompare (.ref a) "__ne__" u) (fun r s' => ∃ b, r = some (.bool b) ∧ EP X pins σ Q (.bool b) s') X.xe s := by
    unfold tryCompare
    have asked : wpAny (model X.prog X.w) X.A (callSpecialIfBound? (.ref a) "__ne__" [u]) (fun r s' => ∃ b, r = some (.bool b) ∧ EP X pins σ Q (.bool b) s') X.xe s := by
      have last : wpAny (model X.prog X.w) X.A (call (.builtin "object.__ne__") ([.ref a] ++ [u]) >>= fun v => pure (some v)) (fun r s' => ∃ b, r = some (.bool b) ∧ EP X pins σ Q (.bool b) s') X.xe s :=
        wpAny_bind (wpAny_mono slot (fun v s' z => wpAny_pure (let ⟨b, e, ep⟩ := z; ⟨b, congrArg some e, ep⟩)) fun _ _ z => z)
      unfold callSpecialIfBound? bindSpecialIfBound?
      refine wpAny_holding (wpAny_bind (wpAny_bind (wpAny_bind (J.type.here ((PySem.W.looks_findIn KS hn).here (wpAny_bind (wpAny_askSetting (wpAny_ite ?_))))))))
      split
      · exact wpAny_bind (wpAny_of_eq (PySem.F.cmp_object.ne.bind _) (wpAny_pure last))
      · exact wpAny_tryCatch (wpAny_bind (wpAny_of_eq (PySem.F.cmp_object.ne.bind _) (wpAny_pure last)))
    refine wpAny_bind (wpAny_mono asked (fun r s' z => ?_) fun _ _ z => z)
    obtain ⟨b, rfl, ep⟩ := z
    exact wpAny_pure ⟨b, rfl, ep⟩
  show wpAny (model X.prog X.w) X.A (richCompare .NotEq (.ref a) u) (EP X pins σ Q) X.xe s
  unfold richCompare
  simp only [oneThing_ref]
  refine wpAny_holding (wpAny_bind (wpAny_cRoomFor hr.units0 (wpAny_bind (J.type.here (wpAny_bind ((Z.ty _ _ KS pz).here ?_))))))
  have fin : ∀ (rest : Option Value → Sem Value), (∀ b, rest (some (.bool b)) = pure (.bool b)) → wpAny (model X.prog X.w) X.A (tryCompare (.ref a) (cmpInfo CmpOp.NotEq).2.1 u >>= rest) (EP X pins σ Q) X.xe s := fun rest hrest => by
    refine wpAny_bind (wpAny_mono one (fun r s' z => ?_) fun _ _ z => z)
    obtain ⟨b, rfl, ep⟩ := z
    rw [hrest]
    exact wpAny_pure ep
  unfold PySem.W.notFirst at nf
  split
  · rename_i ne
    have sub : PySem.W.subIn X.K t (.ref C) = some false := by
      cases e : (t == Value.ref C) with
      | true =>
        rw [eq_of_beq e] at ne
        simp at ne
      | false =>
        rw [e, Bool.false_or] at nf
        exact eq_of_beq nf
    refine wpAny_bind ((PySem.W.looks_subIn KS sub).here ?_)
    simp only [Bool.false_eq_true, if_false]
    exact fin _ fun b => rfl
  · refine wpAny_bind (wpAny_pure ?_)
    simp only [Bool.false_eq_true, if_false]
    exact fin _ fun b => rfl
end
end My
namespace My
open PySem PySem.Spec PyProof.Rows L2
section
variable {X : Cx} {CX : CXT} {k : Nat} {f : Addr} {fd : FuncData} {ps : List Str} {sp : Sp} {E : XK}
/-- str(x), x of an own class with an own __str__ -/
theorem call_strOwn {C : Addr} (F : FnG X.prog X.w X.K X.mg X.base CX k f fd ps sp) (hr : Room (k + 2) X.A) (hgu : X.A.guards = some []) (hs : PySem.W.findIn X.K (.ref C) "__str__" = some (some (.ref f))) (hf : PySem.W.isFn X.K (.ref f) = true) (hb : Binds X.K fd ps []) (hx : Passes CX X E) :
    CallR X (.type "str") (fun xs H Q => ∃ (a dx : Addr) (fs : List (Str × V)), xs = [.ref a] ∧ H a = some (.ins C dx fs) ∧ sp [.ref a] H (fun v H' => ∃ z : Str, v = .str z ∧ Q (.str z) H') E) := by
  intro pins s σ H xs us Q I r h
  obtain ⟨a, dx, fs, rfl, ha, q⟩ := h
  obtain ⟨u, rfl, ru⟩ := vals1 r
  cases ru
  obtain ⟨mA, J, _⟩ := ins_get I.hok ha
  obtain ⟨od, J, _⟩ := J.look
  refine PySem.W.kso_call (Room.units0 (hr.in1.in1)) I.kIn J hs hf (wpAny_mono (runAt (vs := [.ref a]) (us := [.ref a]) F hr.in1.in1 hgu rfl hb hx I (.cons rfl .nil) q) (fun r s' z => ?_) fun _ _ z => z)
  obtain ⟨w1, H1, I1, r1, y, rfl, q1⟩ := z
  obtain ⟨t, rfl⟩ := r1
  exact ⟨.str y, H1, I1, ⟨t, rfl⟩, q1⟩
end
/-- a value without parts, and what it is -/
inductive Fl : V → PyData → Prop
  | non : Fl .non .none
  | bl (b : Bool) : Fl (.bl b) (.bool b)
  | int (i : Int) : Fl (.int i) (.int i)
  | str (x : Str) : Fl (.str x) (.str x)
/-- values without parts, and what they are -/
abbrev Fls : List V → List PyData → Prop := Paired Fl
/-- what a value is: without parts, a list or tuple of such, the dict without entries -/
inductive Th (H : Hp) : V → PyData → Prop
  | flat {x : V} {d : PyData} (h : Fl x d) : Th H x d
  | lst {a : Addr} {xs : List V} {ds : List PyData} (h : H a = some (.lst xs)) (k : Fls xs ds) (n : xs.length ≤ 1000) : Th H (.ref a) (.list ds)
  | tup {a : Addr} {xs : List V} {ds : List PyData} (h : H a = some (.tup xs)) (k : Fls xs ds) (n : xs.length ≤ 1000) : Th H (.ref a) (.tuple ds)
  | dct {a : Addr} (h : H a = some (.dK [])) : Th H (.ref a) (.dict [])
theorem Th.keep {H H' : Hp} {x : V} {d : PyData} (h : Th H x d) (k : ∀ b o, H b = some o → H' b = some o) : Th H' x d := by
  cases h with
  | flat h => exact .flat h
  | lst h r n => exact .lst (k _ _ h) r n
  | tup h r n => exact .tup (k _ _ h) r n
  | dct h => exact .dct (k _ _ h)
theorem fl_dp {K : PySem.W.Frag} {H : Hp} {x : V} {d : PyData} (h : Fl x d) : Dp K H x d := by
  cases h with
  | non => exact .non
  | bl b => exact .bl b
  | int i => exact .int i
  | str x => exact .str x
theorem fls_dp {K : PySem.W.Frag} {H : Hp} : ∀ {xs : List V} {ds : List PyData}, Fls xs ds → DpAll K H xs ds
  | _, _, .nil => .nil
  | _, _, .cons h r => .cons (fl_dp h) (fls_dp r)
theorem fls_noDict : ∀ {xs : List V} {ds : List PyData}, Fls xs ds → PyData.hasDictAll ds = false
  | _, _, .nil => rfl
  | _, _, .cons h r => by
    unfold PyData.hasDictAll
    rw [fls_noDict r]
    cases h <;> rfl
/-- what can be shown in bounds -/
structure Fine (d : PyData) : Prop where
  show_ : d.showable = true
  deep : d.depth ≤ 8
  size : d.shown.length ≤ sizeLine
section
variable {X : Cx}
theorem call_reprT (hg : X.A.guards = some []) (hu : X.A.units + 64 < cLine) : CallR X (.builtin "repr") (fun xs H Q => ∃ x d, xs = [x] ∧ Th H x d ∧ Fine d ∧ Q (.str d.shown) H) := by
  intro pins s σ H xs us Q I r h
  obtain ⟨x, d, rfl, th, fine, q⟩ := h
  obtain ⟨u, rfl, ru⟩ := vals1 r
  have fin : ∀ t tk, EP X pins σ Q (.str d.shown t) { s with toks := tk } := fun t tk => ⟨.str d.shown, H, I.tok tk, ⟨t, rfl⟩, q⟩
  have obj : ∀ a (as : List Addr), Reads s.heap (.ref a) d as → (d.hasDict = true → sysModules ∉ as) → wpAny (model X.prog X.w) X.A (call (.builtin "repr") [.ref a]) (EP X pins σ Q) X.xe s := fun a as rd nd =>
    repr_of_reads' rd fine.show_ nd hg (by have := fine.deep; omega) (fun _ _ e => e) (fun h' u tk hk => ⟨.str d.shown, H, I.kept hk, ⟨u, rfl⟩, q⟩) fine.size
  cases th with
  | flat h =>
    cases h with
    | non =>
      cases ru
      exact PySem.P.repr_of_none (fin _ _)
    | bl b =>
      cases ru
      exact PySem.P.repr_of_bool (by
        have e : (PyData.bool b).shown = if b then ("True" : Str) else "False" := by unfold PyData.shown; rfl
        rw [e] at fin
        cases b <;> exact fin _ _)
    | int i =>
      obtain ⟨t, rfl⟩ := ru
      have sm : i.natAbs.log2 < 1920 := by
        have z := fine.show_
        unfold PyData.showable at z
        exact of_decide_eq_true z
      exact PySem.P.repr_of_int sm (by
        have e : (PyData.int i).shown = (toString i : Str) := by unfold PyData.shown; rfl
        rw [e] at fin
        exact fin _ _)
    | str z =>
      obtain ⟨t, rfl⟩ := ru
      have e : (PyData.str z).shown = reprText z := by unfold PyData.shown; rfl
      have sz := fine.size
      rw [e] at fin sz
      exact PySem.P.repr_of_str (fin _ _) sz
  | @lst a xs ds h k n =>
    cases ru
    obtain ⟨as, rd⟩ := Dp.reads I _ _ _ (Dp.lst (K := X.K) (SqL.of h) (fls_dp k)) rfl
    refine obj a as rd (fun z => ?_)
    unfold PyData.hasDict at z
    rw [fls_noDict k] at z
    cases z
  | @tup a xs ds h k n =>
    cases ru
    obtain ⟨as, rd⟩ := Dp.reads I _ _ _ (Dp.tup (K := X.K) (SqT.of h) (fls_dp k)) rfl
    refine obj a as rd (fun z => ?_)
    unfold PyData.hasDict at z
    rw [fls_noDict k] at z
    cases z
  | @dct a h =>
    cases ru
    obtain ⟨_, nsys, vs, kv, o, es, ep, ho, ex, hd, _, pr, _⟩ := dk_of I.hok h
    cases kv
    have es0 : es.toList = [] := by
      obtain ⟨l⟩ := es
      have pr' : PySem.Pairs _ l [] := pr
      cases l with
      | nil => rfl
      | cons _ _ => cases pr'
    refine obj a _ (Reads.dict (kvs := []) (as := []) (bs := []) ho ex.1 hd (by rw [es0]; exact .nil) (by rw [es0]; exact .nil)) (fun _ => ?_)
    simp only [List.append_nil, List.mem_singleton]
    intro z
    rw [z] at nsys
    simp at nsys
end
end My
namespace My
open PySem PySem.Spec PyProof.Rows L2
/-- what the walk of the law's body has to give, the guards being known -/
def LawBodyS (l : PySem.W.OpenLaw) (w : World) (K : PySem.W.Frag) (mg : Str → Option Value) (n : Nat) (N : List Str) (qual : Str) (st : Stmt) (fa : Addr) : Prop :=
  ∀ base : Heap, K.In base → base.Ns mainGlobals mg → (∃ m, base.Ns sysModules m) → ∀ (cdv : Value) (s : Shared) (H : Hp) (a : Addr) (ns : List Int), ns.length ≤ n → Only H → SqL K H a (ns.map V.int) →
    ∃ t, PSs (cxOf CX0 l.prog w K mg base N qual (defScope st) fa cdv callerA [] s H E0).nox (defBody st) t ∧
      t { nx := fun _ _ => False, rt := fun v _ => v = .bl true } (start N [.ref a]) H

/-- one call of the law from an abstract heap -/
theorem enterS {l : PySem.W.OpenLaw} {w : World} {K : PySem.W.Frag} {mg : Str → Option Value} {n : Nat} {N : List Str} {x nm qual : Str} {st : Stmt} {fa a : Addr} {fd : FuncData}
    {base : Heap} {s : Shared} {H : Hp} {ns : List Int}
    (F : Fun K nm qual st fa fd) (S : FnScope N [x] (defScope st)) (hb : ∀ (s : Shared) (u : Value), BindsTo s fd ⟨[u], []⟩ [(x, u)])
    (B : LawBodyS l w K mg n N qual st fa) (hKb : K.In base) (hNb : base.Ns mainGlobals mg) (hSb : ∃ m, base.Ns sysModules m) (hn : ns.length ≤ n) (hO : Only H) (hS : SqL K H a (ns.map V.int))
    (e0 : Env0 l.prog w K mg base callerA [] s H) :
    codeAny (model l.prog w) callerA (.call (.ref fa) ⟨[.ref a], []⟩)
      (fun r s' => r = .ok (.ret (.bool true)) ∧ ∃ H', s'.os = s.os ∧ AllBare s'.gens ∧ Un [] [] H H' s.heap s'.heap ∧ HOk l.prog w H' s'.heap) s := by
  obtain ⟨oc, od, kV, doc, pm, an, cdv, ct, osl, rfl, lk, hcd⟩ := F.ex
  have stays : ∀ b o, base.get? b = some o → s.heap.get? b = some o := fun b o z => (e0.bs b o z).1
  have KS : K.In s.heap := e0.mod.kin.keeps stays
  have NL : s.heap.NoLimit := e0.mod.nolimit.keeps stays
  have kinds : ∀ y ∈ [x].zip [Value.ref a], (defScope st).names.lookup y.1 = some .local ∨ ((defScope st).names.lookup y.1 = some .cell ∧ ((cellsFrom (s.heap.objs.size + 1) (defScope st).names []).lookup y.1).isSome = true) := by
    intro y hy
    obtain rfl : y = (x, Value.ref a) := List.mem_singleton.mp hy
    cases S.par x (List.mem_singleton.mpr rfl) with
    | inl q => exact .inl q
    | inr q => exact .inr ⟨q, PySem.W.cellsFrom_some _ _ _ (.inl q)⟩
  refine codeAny_call_function (by decide) (KS _ _ lk) rfl S.co S.gen rfl (PySem.W.codeRec_of KS hcd) (hb s (.ref a) _ _ _ _ ?_)
  refine wpAny_newFunctionEnv_cells S.kind kinds fun env he s2 ic => ?_
  subst he
  refine ⟨NL.keeps ic.toInCall.keep, codeAny_func ?_⟩
  obtain ⟨t, ht, hq⟩ := B base hKb hNb hSb cdv s H a ns hn hO hS
  have J0 := inv_start (E := E0) (CX := CX0) S (show callerA.handled = none from rfl) e0 (vs := [.ref a]) (us := [.ref a]) rfl (.cons rfl .nil) ic
  refine wpAny_mono (ht.run [] s2 (start N [.ref a]) H _ (J0.wish _) hq) (fun fl s' hs => ?_) fun e s' hs => hs.elim
  cases fl with
  | ret u =>
    obtain ⟨v, σ', H', J, rv, q⟩ := hs
    subst q
    obtain rfl : u = Value.bool true := rv
    exact ⟨rfl, H', J.os, J.bare, J.base, J.hok⟩
  | next => exact (let ⟨_, _, _, q⟩ := hs; q).elim
  | brk => exact (let ⟨_, _, _, q⟩ := hs; q).elim
  | cont => exact (let ⟨_, _, _, q⟩ := hs; q).elim

/-- from one call in an abstract heap to the call that is asked for -/
theorem settleS {l : PySem.W.OpenLaw} {w : World} {K : PySem.W.Frag} {mg mb : Str → Option Value} {n : Nat} {N : List Str} {x nm qual : Str} {st : Stmt} {fa a : Addr} {fd : FuncData} {s : Shared} {H : Hp} {ns : List Int} {vs : List Value}
    (KX : K.In s.heap) (hns : s.heap.Ns mainGlobals mg) (hb : s.heap.Ns builtinsNs mb) (hbb : ∀ x : Str, x ≠ "__name__" → mb x = bootBuiltins x) (hsy : ∃ m, s.heap.Ns sysModules m) (hlim : s.heap.NoLimit) (hg : s.gens = #[])
    (ha : s.heap.get? a = some { cls := .type "list", data := .seq vs.toArray }) (hn : ns.length ≤ n)
    (F : Fun K nm qual st fa fd) (S : FnScope N [x] (defScope st)) (hbi : ∀ (s : Shared) (u : Value), BindsTo s fd ⟨[u], []⟩ [(x, u)]) (B : LawBodyS l w K mg n N qual st fa)
    (hO : Only H) (hS : SqL K H a (ns.map V.int)) (hok : HOk l.prog w H s.heap) (one : ∀ b, H b ≠ none → b = a) (out : H a ≠ none → K.lookup a = none) :
    codeAny (model l.prog w) callerA (.call (.ref fa) ⟨[.ref a], []⟩) (fun r s' => r = .ok (.ret (.bool true)) ∧ OldK s.heap s'.heap ∧ s'.os = s.os ∧ AllBare s'.gens) s := by
  have seen : ∀ {b : Addr} {o : Obj}, H b = none → s.heap.get? b = some o → (hidT s.heap H).get? b = some o := fun q e => hidT_get e q
  have free : ∀ {b : Addr} {o : Obj}, s.heap.get? b = some o → (∀ xs k, o.data ≠ .seq xs k) → H b = none := by
    intro b o e nd
    by_cases z : H b = none
    · exact z
    · have eb := one b z
      rw [eb, ha] at e
      injection e with e
      exact absurd (by rw [← e]) (nd vs.toArray 0)
  have names : ∀ {b : Addr} {m : Str → Option Value}, s.heap.Ns b m → (hidT s.heap H).Ns b m := by
    intro b m nb
    obtain ⟨o, es, ep, e, d, rest⟩ := nb
    exact ⟨o, es, ep, seen (free e fun xs k z => by rw [d] at z; injection z) e, d, rest⟩
  have KB : K.In (hidT s.heap H) := by
    intro b o e
    refine seen ?_ (KX b o e)
    by_cases z : H b = none
    · exact z
    · have eb := one b z
      subst eb
      rw [out z] at e
      injection e
  have E0' : Env0 l.prog w K mg (hidT s.heap H) callerA [] s H := by
    refine ⟨rfl, ⟨KB, names hns, ⟨mb, names hb, hbb⟩, ?_⟩, fun b o e => of_hidT e, Nat.le_of_eq (hidT_size _ _), trivial, ?_, hok, .of_eq hg⟩
    · obtain ⟨mc, c1, c2⟩ := hlim
      exact ⟨mc, names c1, c2⟩
    · intro b z
      exact absurd (show b ∈ ([] : List Addr) from z) List.not_mem_nil
  refine codeAny_mono (enterS F S hbi B KB (names hns) (hsy.imp fun _ z => names z) hn hO hS E0') fun r s' h => ?_
  obtain ⟨e1, H', os, bare, un, hok'⟩ := h
  refine ⟨e1, OldK.of_keep fun b o e => ?_, os, bare⟩
  by_cases z : H b = none
  · exact un.keep b o e z (show b ∉ ([] : List Addr) from List.not_mem_nil) List.not_mem_nil
  · rcases hO b with y | ⟨ob, xs, y⟩
    · exact absurd y z
    · have g1 := (hok b _ y).1
      have g2 := (hok' b _ (un.frzs b ob _ y)).1
      rw [g1] at e
      injection e with e
      rw [← e]
      exact g2

/-- the goal that the head leaves, from the law's body walked with known guards -/
theorem lawS_top {l : PySem.W.OpenLaw} {n : Nat} {q : Program} {loose : List Str} {XP : (Str → Option Value) → Heap → Prop} {YP : World → Heap → Prop} {d : DefRec} {K : Params → PySem.W.Frag} {N : List Str} {x nm qual : Str} {st : Stmt}
    (hseer : importsNone q = true) (hn : l.most = some n) (hn2 : n ≤ sizeLine) (hdf : d.params.defaults = []) (hY : ∀ (w : World) (h : Heap), YP w h → (K w.params).In h)
    (Z : ∀ (w : World) (mg : Str → Option Value) (fa : Addr) (h : Heap), (K w.params).In h → h.Ns mainGlobals mg → mg d.name = some (.ref fa) →
      ∃ fd : FuncData, Fun (K w.params) nm qual st fa fd ∧ FnScope N [x] (defScope st) ∧ (∀ (s : Shared) (u : Value), BindsTo s fd ⟨[u], []⟩ [(x, u)]) ∧ LawBodyS l w (K w.params) mg n N qual st fa) :
    PySem.W.WalkO q loose XP YP l.row.toRowW d [] (fun f vs => PySem.call f vs) := by
  refine Att.attach_call hn hdf ?_
  intro w s₀ s mg mb fa o pm cd doc a vs ns G Y ho hd hcd hmg hobj hints hlen hg
  have KX : (K w.params).In s.heap := hY w _ Y
  obtain ⟨fd, F, S, hbi, B⟩ := Z w mg fa _ KX G.T.g hmg
  have rv : Vals (ns.map V.int) vs := vals_ints hints
  have top : ns.length ≤ sizeLine := Nat.le_trans hlen hn2
  have plain := @settleS l w (K w.params) mg mb n N x nm qual st fa a fd s
  cases hk : (K w.params).lookup a with
  | some u =>
    have e := KX a u hk
    rw [hobj] at e
    injection e with e
    subst e
    refine plain (H := fun _ => none) (ns := ns) (vs := vs) KX G.T.g G.T.b G.T.builtins ((G.T.seer hseer).mods.imp fun _ z => z.1) G.T.nolimit hg hobj hlen F S hbi B (fun _ => .inl rfl) (.inr ⟨_, vs.toArray, _, hk, rfl, rfl, rfl, ?_, ?_⟩) (fun b u z => ?_) (fun b z => absurd rfl z) (fun z => absurd rfl z)
    · rw [List.size_toArray, hints.length]
      exact top
    · simpa using rv
    · injection z
  | none =>
    refine plain (H := scriptHp a vs ns) (ns := ns) (vs := vs) KX G.T.g G.T.b G.T.builtins ((G.T.seer hseer).mods.imp fun _ z => z.1) G.T.nolimit hg hobj hlen F S hbi B (fun b => ?_) (.inl (.inr ⟨_, if_pos rfl⟩)) (fun b u z => ?_) (fun b z => ?_) (fun _ => hk)
    · by_cases eb : b = a
      · exact .inr ⟨_, _, if_pos eb⟩
      · exact .inl (if_neg eb)
    · by_cases eb : b = a
      · have y := (if_pos eb).symm.trans z
        injection y with y
        subst y
        subst eb
        exact ⟨hobj, by rw [List.length_map]; exact top, vs, _, rv, hobj⟩
      · have y := (if_neg eb).symm.trans z
        injection y
    · by_cases eb : b = a
      · exact eb
      · exact absurd (if_neg eb) z
end My
/-! == where a dict stands beside another kind -/
namespace MyQ
open PySem PySem.SeqAt PySem.Calls
open AutoSeq1 (wpAny_loadPart')
open MeetsSeq
section
variable {A : Around} {s : Shared}
/-- the object of a dict -/
structure IsD (s : Shared) (a : Addr) : Prop where
  ex : ∃ dd es ep sl, s.heap.get? a = some ({ cls := .type "dict", dict := dd, data := .dict es ep, slots := sl } : Obj)
theorem IsD.ty {a : Addr} (h : IsD s a) : s.TypeIs (.ref a) "dict" := by
  obtain ⟨dd, es, ep, sl, e⟩ := h.ex
  exact ⟨_, e, rfl⟩
theorem d_declines {prog : Program} {w : World} {E : Value → Shared → Prop} {Q : Value → Shared → Prop} {a : Addr} {u : Value} {T : String} (d : IsD s a) (ty : s.TypeIs u T) (no : isSubtype (.type T) (.type "dict") = pure false) (q : Q .notImplemented s) :
    wpAny (model prog w) A (call (.builtin "dict.__eq__") [.ref a, u]) Q E s := by
  refine wpAny_call_entry PySem.F.slot_dict_eq d.ty PySem.F.entry_dict_eq ?_ (PySem.F.args_dict_eq_2 _ _)
  show wpAny _ _ (Builtin.Dict.dictSlotArgs "__eq__" ⟨[.ref a, u], []⟩ >>= _) _ _ s
  refine wpAny_bind ?_
  unfold Builtin.Dict.dictSlotArgs
  refine wpAny_bind (wpAny_notOrdered_dict d.ty (wpAny_pure (wpAny_bind (wpAny_isInstance (T := T) ty no ?_))))
  rw [if_pos (by rfl)]
  wp_walk
  exact ⟨_, rfl, q⟩
theorem none_declines (l : Addr) : Gives (Builtin.«NoneType.__eq__» ⟨[.none, .ref l], []⟩) (.val (Value.notImplemented)) := NoneType___eq___none_ref_0 l
theorem bool_declines (b : Bool) (l : Addr) (es : Array DictEntry) (n : Nat) (dd : Option Addr) (sl : Array (Option Value)) :
    Meets (Builtin.«int.__eq__» ⟨[.bool b, .ref l], []⟩) (fun _ R s => s.heap.get? l = some { cls := .type "dict", dict := dd, data := .dict es n, slots := sl } ∧ R (.ok (.ret .notImplemented)) s) := by
  refine .of_wp fun prog w A R s h => ?_
  obtain ⟨hp, g, d, tk, os⟩ := s
  obtain ⟨hl, h⟩ := h
  wp_walk using wpAny_loadPart' hl, wpAny_load hl
  exact ⟨_, rfl, h⟩
theorem int_declines (b : Int) (u : Tok) (l : Addr) (es : Array DictEntry) (n : Nat) (dd : Option Addr) (sl : Array (Option Value)) :
    Meets (Builtin.«int.__eq__» ⟨[.int b u, .ref l], []⟩) (fun _ R s => s.heap.get? l = some { cls := .type "dict", dict := dd, data := .dict es n, slots := sl } ∧ R (.ok (.ret .notImplemented)) s) := by
  refine .of_wp fun prog w A R s h => ?_
  obtain ⟨hp, g, d, tk, os⟩ := s
  obtain ⟨hl, h⟩ := h
  wp_walk using wpAny_loadPart' hl, wpAny_load hl
  exact ⟨_, rfl, h⟩
theorem str_declines (b : Str) (u : Tok) (l : Addr) (es : Array DictEntry) (n : Nat) (dd : Option Addr) (sl : Array (Option Value)) :
    Meets (Builtin.«str.__eq__» ⟨[.str b u, .ref l], []⟩) (fun _ R s => s.heap.get? l = some { cls := .type "dict", dict := dd, data := .dict es n, slots := sl } ∧ R (.ok (.ret .notImplemented)) s) := by
  refine .of_wp fun prog w A R s h => ?_
  obtain ⟨hp, g, d, tk, os⟩ := s
  obtain ⟨hl, h⟩ := h
  wp_walk using wpAny_loadPart' hl, wpAny_load hl
  exact ⟨_, rfl, h⟩
theorem list_declines (a : Addr) (items : Array Value) (m : Nat) (dd : Option Addr) (sl : Array (Option Value)) (l : Addr) (es : Array DictEntry) (n : Nat) (dd2 : Option Addr) (sl2 : Array (Option Value)) :
    Meets (Builtin.«list.__eq__» ⟨[.ref a, .ref l], []⟩) (fun _ R s => s.heap.get? a = some { cls := .type "list", dict := dd, data := .seq items m, slots := sl } ∧ s.heap.get? l = some { cls := .type "dict", dict := dd2, data := .dict es n, slots := sl2 } ∧ R (.ok (.ret .notImplemented)) s) := by
  refine .of_wp fun prog w A R s h => ?_
  obtain ⟨hp, g, d, tk, os⟩ := s
  obtain ⟨ha, hl, h⟩ := h
  have f1 := PySem.F.sub_dict_list
  wp_walk using wpAny_loadPart' ha, wpAny_loadPart' hl, wpAny_load hl
  exact ⟨_, rfl, h⟩
theorem tuple_declines (a : Addr) (items : Array Value) (m : Nat) (dd : Option Addr) (sl : Array (Option Value)) (l : Addr) (es : Array DictEntry) (n : Nat) (dd2 : Option Addr) (sl2 : Array (Option Value)) :
    Meets (Builtin.«tuple.__eq__» ⟨[.ref a, .ref l], []⟩) (fun _ R s => s.heap.get? a = some { cls := .type "tuple", dict := dd, data := .seq items m, slots := sl } ∧ s.heap.get? l = some { cls := .type "dict", dict := dd2, data := .dict es n, slots := sl2 } ∧ R (.ok (.ret .notImplemented)) s) := by
  refine .of_wp fun prog w A R s h => ?_
  obtain ⟨hp, g, d, tk, os⟩ := s
  obtain ⟨ha, hl, h⟩ := h
  have f1 := PySem.F.sub_dict_tuple
  wp_walk using wpAny_loadPart' ha, wpAny_loadPart' hl, wpAny_load hl
  exact ⟨_, rfl, h⟩
/-- a value of another kind -/
inductive Oth (s : Shared) : Value → Prop
  | non : Oth s .none
  | bl (b : Bool) : Oth s (.bool b)
  | int (i : Int) (t : Tok) : Oth s (.int i t)
  | str (x : Str) (t : Tok) : Oth s (.str x t)
  | lst {l : Addr} {items : Array Value} (h : s.heap.IsList l items) : Oth s (.ref l)
  | tup {l : Addr} {items : Array Value} (h : s.heap.IsTuple l items) : Oth s (.ref l)
theorem rc_dict_oth {a : Addr} {u : Value} (d : IsD s a) (o : Oth s u) (hu : A.units < cLine) : RcAt A s (.ref a) u false := fun prog w E Q h => by
  obtain ⟨dd, es, ep, sl, e⟩ := d.ex
  cases o with
  | non =>
    exact rc_eq_decline_or (k := false) d.ty rfl (by decide) PySem.F.sub_NoneType_dict PySem.F.slot_dict_eq PySem.F.slot_NoneType_eq_refl (fun _ hq => d_declines d (T := "NoneType") rfl PySem.F.sub_NoneType_dict hq)
      (fun _ hq => call_gives PySem.F.slot_NoneType_eq_refl rfl PySem.F.entry_NoneType_eq (PySem.F.args_NoneType_eq_2 _ _) (none_declines a) hq) (fun _ hq => wpAny_of_eq (rfl : isSame (.ref a) .none = pure false) hq) (.inr hu) h
  | bl b =>
    exact rc_eq_decline_or (k := false) d.ty (typeIs_bool s b) (by decide) PySem.F.sub_bool_dict PySem.F.slot_dict_eq PySem.F.slot_bool_eq_refl (fun _ hq => d_declines d (typeIs_bool s b) PySem.F.sub_bool_dict hq)
      (fun _ hq => call_meets PySem.F.slot_bool_eq_refl (typeIs_bool s b) PySem.F.entry_int_eq (PySem.F.args_int_eq_2 _ _) (bool_declines b a es ep dd sl) ⟨e, hq⟩) (fun _ hq => wpAny_of_eq (rfl : isSame (.ref a) (.bool b) = pure false) hq) (.inr hu) h
  | int i t =>
    exact rc_eq_decline_or (k := false) d.ty (typeIs_int s i t) (by decide) PySem.F.sub_int_dict PySem.F.slot_dict_eq PySem.F.slot_int_eq_refl (fun _ hq => d_declines d (typeIs_int s i t) PySem.F.sub_int_dict hq)
      (fun _ hq => call_meets PySem.F.slot_int_eq_refl (typeIs_int s i t) PySem.F.entry_int_eq (PySem.F.args_int_eq_2 _ _) (int_declines i t a es ep dd sl) ⟨e, hq⟩) (fun _ hq => wpAny_of_eq (rfl : isSame (.ref a) (.int i t) = pure false) hq) (.inr hu) h
  | str x t =>
    exact rc_eq_decline_or (k := false) d.ty (typeIs_str s x t) (by decide) PySem.F.sub_str_dict PySem.F.slot_dict_eq PySem.F.slot_str_eq_refl (fun _ hq => d_declines d (typeIs_str s x t) PySem.F.sub_str_dict hq)
      (fun _ hq => call_meets PySem.F.slot_str_eq_refl (typeIs_str s x t) PySem.F.entry_str_eq (PySem.F.args_str_eq_2 _ _) (str_declines x t a es ep dd sl) ⟨e, hq⟩) (fun _ hq => wpAny_of_eq (rfl : isSame (.ref a) (.str x t) = pure false) hq) (.inr hu) h
  | @lst l items hl =>
    obtain ⟨⟨cls, d2, data, sl2⟩, ho, hc, n, hd⟩ := id hl
    simp only at hc hd
    subst hc hd
    have ne : a ≠ l := fun z => by
      rw [z, ho] at e
      simp at e
    have tl : s.TypeIs (.ref l) "list" := ⟨_, ho, rfl⟩
    exact rc_eq_decline_or (k := false) d.ty tl (by decide) PySem.F.sub_list_dict PySem.F.slot_dict_eq PySem.F.slot_list_eq_refl (fun _ hq => d_declines d tl PySem.F.sub_list_dict hq)
      (fun _ hq => call_meets PySem.F.slot_list_eq_refl tl PySem.F.entry_list_eq (PySem.F.args_list_eq_2 _ _) (list_declines l items n d2 sl2 a es ep dd sl) ⟨ho, e, hq⟩) (fun _ hq => wpAny_isSame_ref_other' ne e ho (by simp) hq) (.inr hu) h
  | @tup l items hl =>
    obtain ⟨⟨cls, d2, data, sl2⟩, ho, hc, n, hd⟩ := id hl
    simp only at hc hd
    subst hc hd
    have ne : a ≠ l := fun z => by
      rw [z, ho] at e
      simp at e
    have tl : s.TypeIs (.ref l) "tuple" := ⟨_, ho, rfl⟩
    refine rc_eq_decline_or (k := false) d.ty tl (by decide) PySem.F.sub_tuple_dict PySem.F.slot_dict_eq PySem.F.slot_tuple_eq_refl (fun _ hq => d_declines d tl PySem.F.sub_tuple_dict hq)
      (fun _ hq => call_meets PySem.F.slot_tuple_eq_refl tl PySem.F.entry_tuple_eq (PySem.F.args_tuple_eq_2 _ _) (tuple_declines l items n d2 sl2 a es ep dd sl) ⟨ho, e, hq⟩) (fun _ hq => wpAny_isSame_ref_other ne e ho (by simp) hq) (.inr hu) h
theorem rc_oth_dict {a : Addr} {u : Value} (d : IsD s a) (o : Oth s u) (hu : A.units < cLine) : RcAt A s u (.ref a) false := fun prog w E Q h => by
  obtain ⟨dd, es, ep, sl, e⟩ := d.ex
  cases o with
  | non =>
    exact rc_eq_decline_or (k := false) rfl d.ty (by decide) PySem.F.sub_dict_NoneType PySem.F.slot_NoneType_eq PySem.F.slot_dict_eq_refl
      (fun _ hq => call_gives PySem.F.slot_NoneType_eq rfl PySem.F.entry_NoneType_eq (PySem.F.args_NoneType_eq_2 _ _) (none_declines a) hq) (fun _ hq => d_declines d (T := "NoneType") rfl PySem.F.sub_NoneType_dict hq) (fun _ hq => wpAny_of_eq (rfl : isSame .none (.ref a) = pure false) hq) (.inr hu) h
  | bl b =>
    exact rc_eq_decline_or (k := false) (typeIs_bool s b) d.ty (by decide) PySem.F.sub_dict_bool PySem.F.slot_bool_eq PySem.F.slot_dict_eq_refl
      (fun _ hq => call_meets PySem.F.slot_bool_eq (typeIs_bool s b) PySem.F.entry_int_eq (PySem.F.args_int_eq_2 _ _) (bool_declines b a es ep dd sl) ⟨e, hq⟩) (fun _ hq => d_declines d (typeIs_bool s b) PySem.F.sub_bool_dict hq) (fun _ hq => wpAny_of_eq (rfl : isSame (.bool b) (.ref a) = pure false) hq) (.inr hu) h
  | int i t =>
    exact rc_eq_decline_or (k := false) (typeIs_int s i t) d.ty (by decide) PySem.F.sub_dict_int PySem.F.slot_int_eq PySem.F.slot_dict_eq_refl
      (fun _ hq => call_meets PySem.F.slot_int_eq (typeIs_int s i t) PySem.F.entry_int_eq (PySem.F.args_int_eq_2 _ _) (int_declines i t a es ep dd sl) ⟨e, hq⟩) (fun _ hq => d_declines d (typeIs_int s i t) PySem.F.sub_int_dict hq) (fun _ hq => wpAny_of_eq (rfl : isSame (.int i t) (.ref a) = pure false) hq) (.inr hu) h
  | str x t =>
    exact rc_eq_decline_or (k := false) (typeIs_str s x t) d.ty (by decide) PySem.F.sub_dict_str PySem.F.slot_str_eq PySem.F.slot_dict_eq_refl
      (fun _ hq => call_meets PySem.F.slot_str_eq (typeIs_str s x t) PySem.F.entry_str_eq (PySem.F.args_str_eq_2 _ _) (str_declines x t a es ep dd sl) ⟨e, hq⟩) (fun _ hq => d_declines d (typeIs_str s x t) PySem.F.sub_str_dict hq) (fun _ hq => wpAny_of_eq (rfl : isSame (.str x t) (.ref a) = pure false) hq) (.inr hu) h
  | @lst l items hl =>
    obtain ⟨⟨cls, d2, data, sl2⟩, ho, hc, n, hd⟩ := id hl
    simp only at hc hd
    subst hc hd
    have ne : l ≠ a := fun z => by
      rw [← z, ho] at e
      simp at e
    have tl : s.TypeIs (.ref l) "list" := ⟨_, ho, rfl⟩
    exact rc_eq_decline_or (k := false) tl d.ty (by decide) PySem.F.sub_dict_list PySem.F.slot_list_eq PySem.F.slot_dict_eq_refl
      (fun _ hq => call_meets PySem.F.slot_list_eq tl PySem.F.entry_list_eq (PySem.F.args_list_eq_2 _ _) (list_declines l items n d2 sl2 a es ep dd sl) ⟨ho, e, hq⟩) (fun _ hq => d_declines d tl PySem.F.sub_list_dict hq) (fun _ hq => wpAny_isSame_ref_other ne ho e (by simp) hq) (.inr hu) h
  | @tup l items hl =>
    obtain ⟨⟨cls, d2, data, sl2⟩, ho, hc, n, hd⟩ := id hl
    simp only at hc hd
    subst hc hd
    have ne : l ≠ a := fun z => by
      rw [← z, ho] at e
      simp at e
    have tl : s.TypeIs (.ref l) "tuple" := ⟨_, ho, rfl⟩
    exact rc_eq_decline_or (k := false) tl d.ty (by decide) PySem.F.sub_dict_tuple PySem.F.slot_tuple_eq PySem.F.slot_dict_eq_refl
      (fun _ hq => call_meets PySem.F.slot_tuple_eq tl PySem.F.entry_tuple_eq (PySem.F.args_tuple_eq_2 _ _) (tuple_declines l items n d2 sl2 a es ep dd sl) ⟨ho, e, hq⟩) (fun _ hq => d_declines d tl PySem.F.sub_tuple_dict hq) (fun _ hq => wpAny_isSame_ref_other' ne ho e (by simp) hq) (.inr hu) h
end
end MyQ
/-! sorted(set(l)) of a list of texts -/
namespace My
open PySem PySem.Spec PyProof.Rows L2
open PySem.Froz (SD sObj TxOk addTx tailTx add_x add_ok is_str)
/-- the set of the texts l, each once -/
structure TSet (P : Program) (w : World) (h : Heap) (a : Addr) (l : List Str) : Prop where
  ex : ∃ D : SD, h.get? a = some (sObj "set" D) ∧ TxOk P w D l ∧ Ris D.2.2.place.toList ∧ (w.params.followText "set-order" = true ∨ D.2.2.led = true)
  nd : l.Nodup
theorem TSet.at {P : Program} {w : World} {h h' : Heap} {a : Addr} {l : List Str} (T : TSet P w h a l) (k : ∀ o, h.get? a = some o → h'.get? a = some o) : TSet P w h' a l := by
  obtain ⟨D, e, r⟩ := T.ex
  exact ⟨⟨D, k _ e, r⟩, T.nd⟩
theorem tail_ris {w : World} {ep : Nat} {es : Array (Int × Value)} {t : SetTable} {b : Bool} (h : Ris t.place.toList) (hl : w.params.followText "set-order" = true ∨ t.led = true) :
    Ris (tailTx ep es t b).2.2.place.toList ∧ (w.params.followText "set-order" = true ∨ (tailTx ep es t b).2.2.led = true) := by
  unfold tailTx
  split
  · exact ⟨relayAll_ris t es _, hl.imp id fun z => (relayAll_led t es _).trans z⟩
  · exact ⟨h, hl⟩
theorem add_ris {w : World} {x : Int} {v : Value} {D : SD} (h : Ris D.2.2.place.toList) (hl : w.params.followText "set-order" = true ∨ D.2.2.led = true) :
    Ris (addTx x v D).2.2.place.toList ∧ (w.params.followText "set-order" = true ∨ (addTx x v D).2.2.led = true) := by
  unfold addTx
  have h1 := layNew_ris D.2.2 D.1 x v h
  have h2 := layNew_led D.2.2 D.1 x v
  refine tail_ris ?_ ?_
  · split
    · exact h1
    · exact h1
  · refine hl.imp id fun z => ?_
    split
    · exact h2.trans z
    · exact h2.trans z
section
variable {P : Program} {w : World} {A : Around} {E : Value → Shared → Prop} {s : Shared}
theorem add_old {a : Addr} {l : List Str} {k : Str} {u : Tok} {Q : Bool → Shared → Prop} (T : TSet P w s.heap a l) (hk : k ∈ l) (hb : l.length < scanBound) (h : Q false s) :
    wpAny (model P w) A (setAddHashed a (.str k u) (hashStr w k)) Q E s := by
  obtain ⟨⟨D, ho, F, _⟩, _⟩ := T
  obtain ⟨es, ep, t⟩ := D
  have hd : (sObj "set" (es, ep, t)).data = .set es ep t := rfl
  have hf : t.fits es.size = true := F.fit
  have hel : ElemsOf (PySem.strKind P w) es.toList := F.el
  have hsz : es.size = l.length := F.sz
  have hb0 : es.size < scanBound := by omega
  have hkey : (PySem.strKind P w).is k (.str k u) = true := is_str k u
  unfold setAddHashed setAddHashedIn
  refine wpAny_holding (wpAny_bind (wpAny_setState_of ho hd hf ?_))
  dsimp only
  rw [byScan_of rfl hb0 hel]
  simp only [↓reduceIte]
  unfold setAddByScan
  refine wpAny_bind ?_
  refine wpAny_bind (wpAny_rule ?_)
  refine wpAny_bind (wpAny_setScan_of (knd := PySem.strKind P w) (k := k) hkey ho hd hf hel ?_)
  cases hfi : List.findIdx? (fun e => (PySem.strKind P w).is k e.2) es.toList with
  | some j =>
    dsimp only
    exact wpAny_pure (wpAny_pure h)
  | none =>
    obtain ⟨e, he, q⟩ := (F.mem k).mp hk
    have c := List.findIdx?_eq_none_iff.mp hfi e he
    rw [q] at c
    cases c
theorem add_any {a : Addr} {l : List Str} {k : Str} {u : Tok} {Q : Bool → Shared → Prop} (T : TSet P w s.heap a l) (hb : l.length + 1 < scanBound)
    (h : ∀ b h' l', Heap.SameBut a s.heap h' → TSet P w h' a l' → (∀ z, z ∈ l' ↔ z = k ∨ z ∈ l) → l'.length ≤ l.length + 1 → Q b { s with heap := h' }) :
    wpAny (model P w) A (setAddHashed a (.str k u) (hashStr w k)) Q E s := by
  by_cases hk : k ∈ l
  · refine add_old T hk (by omega) ?_
    exact h false s.heap l (Heap.SameBut.refl a s.heap) T (fun z => ⟨.inr, fun q => q.elim (fun e => e ▸ hk) id⟩) (Nat.le_succ _)
  · obtain ⟨⟨D, ho, F, r, hl⟩, nd⟩ := T
    refine add_x ho F hk hb ?_
    have sb := Heap.SameBut.update s.heap a (fun _ => sObj "set" (addTx (hashStr w k) (.str k u) D))
    obtain ⟨r2, l2⟩ := add_ris (x := hashStr w k) (v := .str k u) r hl
    refine h true _ (k :: l) sb ⟨⟨_, PySem.Froz.get_upd _ ho rfl, add_ok u F, r2, l2⟩, List.nodup_cons.mpr ⟨hk, nd⟩⟩ (fun z => List.mem_cons) (Nat.le_refl _)
/-- set.update's loop -/
theorem upd_loop {I : Addr} {fp wr : List Addr} {G : Array GenState → Array GenState → Prop} {n : Nat} {Pv : Nat → Value → Prop} {St : Nat → Shared → Prop} {R : Result → Shared → Prop}
    (W : WalksS P w A.in1 I fp wr G n Pv St) (S : Addr) (hSf : S ∉ fp) (xs : List Str) (hn : xs.length = n) (hb : n + 1 < scanBound) (hval : ∀ i v, Pv i v → ∃ t, v = .str (xs.getD i Str.empty) t) :
    ∀ (k i : Nat) (s : Shared) (l : List Str), n - i = k → i ≤ n → St i s → TSet P w s.heap S l → (∀ z, z ∈ l ↔ z ∈ xs.take i) → l.length ≤ i →
      (∀ s' l', Moved (S :: wr) G s s' → TSet P w s'.heap S l' → (∀ z, z ∈ l' ↔ z ∈ xs) → R (.ok (.ret .none)) s') →
      codeAny (model P w) A (.builtin "set.update.loop" ⟨[.ref S, .ref I], []⟩) R s := by
  have hSw : S ∉ wr := fun h => hSf (W.sub _ h)
  have hsub : ∀ b ∈ wr, b ∈ S :: wr := fun b hb => List.mem_cons_of_mem _ hb
  intro k
  induction k with
  | zero =>
    intro i s l hk hi hst hS hm hlen hR
    have hin : i = n := by omega
    subst hin
    refine codeAny_builtin F.entry_set_update_loop ?_
    rw [Around.under_plainId F.plain_set_update_loop _]
    show wpAny _ A.in1 (pyNext (.ref I) >>= _) _ _ s
    refine wpAny_bind (W.done s _ _ hst fun s' hmv => ?_)
    show wpAny _ A.in1 (ret Value.none) _ _ s'
    refine wpAny_pure (hR s' l (hmv.mono hsub) (hS.at fun o e => hmv.heap S o hSw e) fun z => ?_)
    rw [hm z, ← hn, List.take_length]
  | succ k ih =>
    intro i s l hk hi hst hS hm hlen hR
    have hlt : i < n := by omega
    refine codeAny_builtin F.entry_set_update_loop ?_
    rw [Around.under_plainId F.plain_set_update_loop _]
    show wpAny _ A.in1 (pyNext (.ref I) >>= _) _ _ s
    refine wpAny_bind (W.item i s _ _ hlt hst fun v s' hP hst' hmv => ?_)
    obtain ⟨t, rfl⟩ := hval i v hP
    have hS' : TSet P w s'.heap S l := hS.at fun o e => hmv.heap S o hSw e
    show wpAny _ A.in1 (holding [Value.str (xs.getD i Str.empty) t] (setAdd S (.str (xs.getD i Str.empty) t)) >>= _) _ _ s'
    refine wpAny_bind (wpAny_holding ?_)
    unfold setAdd
    refine wpAny_holding ?_
    refine wpAny_bind ((PySem.strKind P w).pyHash (k := xs.getD i Str.empty) (is_str _ _) ?_)
    refine add_any (s := { s' with toks := s'.toks + 1 }) hS' (by omega) fun b h' l' hsb hS2 hm2 hl2 => ?_
    have hxi : i < xs.length := by omega
    have hm3 : ∀ z, z ∈ l' ↔ z ∈ xs.take (i + 1) := fun z => by
      rw [hm2 z, hm z, List.take_add_one, List.getElem?_eq_getElem hxi, List.mem_append, List.getD_eq_getElem?_getD, List.getElem?_eq_getElem hxi]
      simp [Or.comm]
    refine wpAny_pure ⟨plainId_quiet F.plain_set_update_loop _, ih (i + 1) _ l' (by omega) hlt (W.frame _ s' _ _ hst' (Nat.le_succ _) fun b hb o e => ?_) hS2 hm3 (by omega) fun s'' l2 hm'' hS'' hz => ?_⟩
    · rw [hsb.2 b (fun h : b = S => hSf (by rw [← h]; exact hb))]; exact e
    · refine hR s'' l2 (Moved.trans W.gtrans ((hmv.mono hsub).then_heap (Nat.le_succ _) fun b o hb e => ?_) hm'') hS'' hz
      rw [hsb.2 b (fun h : b = S => hb (by rw [h]; exact List.mem_cons_self))]; exact e
/-- set(l), l a list of texts -/
theorem call_set_texts {l : Addr} {items : Array Value} {xs : List Str} {Q : Value → Shared → Prop} (hh : A.handled = none) (hl : s.heap.IsList l items) (hi : StrsAre items.toList xs) (hb : xs.length + 1 < scanBound)
    (h : ∀ (h' : Heap) (tk : Nat) (ys : List Str), TSet P w h' s.heap.objs.size ys → (∀ z, z ∈ ys ↔ z ∈ xs) → (∀ b o, s.heap.get? b = some o → h'.get? b = some o) → Q (.ref s.heap.objs.size) { s with heap := h', toks := tk }) :
    wpAny (model P w) A (call (.type "set") [.ref l]) Q E s := by
  obtain ⟨c, tl, hmro⟩ := F.called_set.mro
  have hmade := F.called_set.made
  have hsub := F.called_set.sub
  refine wpAny_call (codeAny_of_tree ?_)
  show wpAny _ _ (callAny (.type "set") _) _ _ _
  refine wpAny_pure ⟨Code.quiet_builtin _ (by decide +kernel), codeAny_builtin F.entry_type_call ?_⟩
  rw [Around.under_plain (weight_type_call_type "set" [.ref l] []) rfl]
  have h1 := F.called_set.notType
  have h2 := F.called_set.canCreate
  have hct := F.typeCall_set_1 (.ref l)
  repeat (any_goals (first | assumption | wp_step))
  refine codeAny_mono (code_set_led1 (.ref l) (E := E) (Q₁ := fun obj s₁ => obj = .ref s.heap.objs.size ∧ s₁ = { s with heap := s.heap.push { cls := .type "set", dict := none, data := .set #[] 0 (.fresh 0 0 (!w.params.followText "set-order")) } }) ⟨rfl, rfl⟩) fun r s₁ hr => ?_
  cases r with
  | error e => exact hr
  | ok fl =>
    cases fl with
    | ret obj =>
      obtain ⟨rfl, rfl⟩ := hr
      have hS : (s.heap.push { cls := .type "set", dict := none, data := .set #[] 0 (.fresh 0 0 (!w.params.followText "set-order")) }).get? s.heap.objs.size = some { cls := .type "set", dict := none, data := .set #[] 0 (.fresh 0 0 (!w.params.followText "set-order")) } := Heap.get?_push_size _ rfl
      have hT : Shared.TypeIs { s with heap := s.heap.push { cls := .type "set", dict := none, data := .set #[] 0 (.fresh 0 0 (!w.params.followText "set-order")) } } (.ref s.heap.objs.size) "set" := ⟨_, hS, rfl⟩
      have hli := F.called_set.init.lookup
      have hbi := F.called_set.init.bind (.ref s.heap.objs.size)
      repeat (any_goals (first | assumption | wp_step))
      refine codeAny_mono (codeAny_call_builtin (R := wants (fun r s₂ => r = .none ∧ ∃ h' tk ys, s₂ = { s with heap := h', toks := tk } ∧ TSet P w h' s.heap.objs.size ys ∧ (∀ z, z ∈ ys ↔ z ∈ xs) ∧
          (∀ b o, s.heap.get? b = some o → h'.get? b = some o)) E) F.called_set.init.plain F.entry_set_init (check_set_init_1 hT ?_)) fun r₂ s₂ hr₂ => ?_
      · obtain ⟨ol, hol, hcl, nl, hdl⟩ := hl
        obtain ⟨ocls, odict, odata, oslots⟩ := ol
        simp only at hcl hdl
        subst hcl; subst hdl
        have hol' : (s.heap.push { cls := .type "set", dict := none, data := .set #[] 0 (.fresh 0 0 (!w.params.followText "set-order")) }).get? l = some { cls := .type "list", dict := odict, data := .seq items nl, slots := oslots } := Heap.get?_push_of_some _ hol
        have hsls := F.sub_list_set
        have hslf := F.sub_list_frozenset
        have hne : (Value.type "list" == Value.type "dict") = false := by decide
        have hl1 : (s.heap.push { cls := .type "set", dict := none, data := .set #[] 0 (.fresh 0 0 (!w.params.followText "set-order")) }).IsList l items := ⟨_, hol', rfl, nl, rfl⟩
        unfold Builtin.«set.__init__» noKeywords Builtin.Frozenset.updateFrom
        generalize hPI : pyIter = PI
        wp_walk
        subst hPI
        refine wpAny_pyIter_list hl1 ?_
        refine wpAny_bind (wpAny_runValue ?_)
        have hlS : l < s.heap.objs.size := Heap.lt_size hol
        have hh3 : A.in1.in1.in1.handled = none := by simp [hh]
        have hneI : l ≠ (s.heap.push { cls := .type "set", dict := none, data := .set #[] 0 (.fresh 0 0 (!w.params.followText "set-order")) }).objs.size := by
          rw [Heap.size_push]; exact Nat.ne_of_lt (Nat.lt_succ_of_lt hlS)
        have hSf : s.heap.objs.size ∉ [(s.heap.push { cls := .type "set", dict := none, data := .set #[] 0 (.fresh 0 0 (!w.params.followText "set-order")) }).objs.size, l] := by
          rw [Heap.size_push]; simp only [List.mem_cons, List.mem_singleton, List.not_mem_nil, or_false, not_or]
          exact ⟨Nat.ne_of_lt (Nat.lt_succ_self _), Nat.ne_of_gt hlS⟩
        have hsz : xs.length = items.size := by rw [← StrsAre.len_eq hi, Array.length_toList]
        have hval : ∀ (i : Nat) (v : Value), items[i]? = some v → ∃ t, v = .str (xs.getD i Str.empty) t := fun i v hv => SS.strs_at hi i v (by rw [Array.getElem?_toList]; exact hv)
        refine upd_loop ((Walks.list hh3 _ l hneI items).toS) s.heap.objs.size hSf xs hsz (by rw [← hsz]; exact hb) hval (items.size - 0) 0 _ [] (by omega) (Nat.zero_le _)
          ⟨⟨_, Heap.get?_push_size _ rfl, rfl, rfl⟩, (hl1.push _)⟩ ?hS0 (fun z => by simp) (Nat.le_refl _) ?hR
        case hS0 =>
          have hget : ((s.heap.push { cls := .type "set", dict := none, data := .set #[] 0 (.fresh 0 0 (!w.params.followText "set-order")) }).push { cls := .type "list_iterator", data := .fields #[.ref l, .int 0 0] }).get? s.heap.objs.size = some { cls := .type "set", dict := none, data := .set #[] 0 (.fresh 0 0 (!w.params.followText "set-order")) } := Heap.get?_push_of_some _ hS
          refine ⟨⟨(#[], 0, .fresh 0 0 (!w.params.followText "set-order")), ?_, PySem.Froz.TxOk.nil (by rfl), List.Pairwise.nil, ?_⟩, List.nodup_nil⟩
          · exact hget
          · show _ ∨ (!w.params.followText "set-order") = true
            cases w.params.followText "set-order"
            · exact .inr rfl
            · exact .inl rfl
        case hR =>
          intro s' ys hm hS' hz
          obtain ⟨h', g2, d', tk', os'⟩ := s'
          have eg : g2 = s.gens := hm.gens
          have ed : d' = s.drawn := hm.drawn
          have eo : os' = s.os := hm.os
          subst eg; subst ed; subst eo
          show wpAny _ _ _ _ _ _
          refine wpAny_pure ?_
          show wpAny _ _ (ret Value.none) _ _ _
          refine wpAny_pure ⟨rfl, h', tk', ys, rfl, hS', hz, fun b o e => ?_⟩
          have hlt := Heap.lt_size e
          have hb1 : b ≠ s.heap.objs.size := Nat.ne_of_lt hlt
          have hb2 : b ≠ (s.heap.push { cls := .type "set", dict := none, data := .set #[] 0 (.fresh 0 0 (!w.params.followText "set-order")) }).objs.size := by
            rw [Heap.size_push]; exact Nat.ne_of_lt (Nat.lt_succ_of_lt hlt)
          exact hm.heap b o (by simp only [List.mem_cons, List.mem_singleton, List.not_mem_nil, or_false, not_or]; exact ⟨hb1, hb2⟩) (Heap.get?_push_of_some _ (Heap.get?_push_of_some _ e))
      · cases r₂ with
        | error e => exact hr₂
        | ok fl₂ =>
          cases fl₂ with
          | ret r =>
            obtain ⟨rfl, h', tk, ys, rfl, hS', hz, hk'⟩ := hr₂
            repeat (any_goals (first | assumption | wp_step))
            exact h _ _ _ hS' hz hk'
          | _ => exact hr₂.elim
    | _ => exact hr.elim
theorem nodup_len : ∀ (l ys : List Str), l.Nodup → (∀ z ∈ l, z ∈ ys) → l.length ≤ ys.length
  | [], ys, _, _ => Nat.zero_le _
  | x :: l, ys, nd, sub => by
    obtain ⟨hx, nd2⟩ := List.nodup_cons.mp nd
    have p1 : ys.Perm (x :: ys.erase x) := List.perm_cons_erase (sub x List.mem_cons_self)
    have r := nodup_len l (ys.erase x) nd2 fun z hz => (List.mem_cons.mp (p1.mem_iff.mp (sub z (List.mem_cons_of_mem _ hz)))).elim (fun q => absurd q fun e => hx (e ▸ hz)) id
    have := p1.length_eq
    simp only [List.length_cons] at this ⊢
    omega
theorem perm_full : ∀ (l ys : List Str), l.Nodup → (∀ z ∈ l, z ∈ ys) → ys.length ≤ l.length → ys.Perm l
  | [], ys, _, _, h => by
    have : ys = [] := List.eq_nil_of_length_eq_zero (by simpa using h)
    rw [this]
  | x :: l, ys, nd, sub, h => by
    obtain ⟨hx, nd2⟩ := List.nodup_cons.mp nd
    have hm := sub x List.mem_cons_self
    have p1 : ys.Perm (x :: ys.erase x) := List.perm_cons_erase hm
    have hl : (ys.erase x).length ≤ l.length := by
      have := p1.length_eq
      simp only [List.length_cons] at this h
      omega
    refine p1.trans (.cons x (perm_full l (ys.erase x) nd2 (fun z hz => ?_) hl))
    have hzx : z ≠ x := fun e => hx (e ▸ hz)
    rcases List.mem_cons.mp (p1.mem_iff.mp (sub z (List.mem_cons_of_mem _ hz))) with q | q
    · exact absurd q hzx
    · exact q
theorem texts_of : ∀ vs : List Value, (∀ v ∈ vs, ∃ k t, v = Value.str k t) → ∃ ys, StrsAre vs ys ∧ ys.length = vs.length ∧ ∀ k t, Value.str k t ∈ vs → k ∈ ys
  | [], _ => ⟨[], .nil, rfl, fun k t h => by cases h⟩
  | v :: vs, h => by
    obtain ⟨k, t, rfl⟩ := h v List.mem_cons_self
    obtain ⟨ys, h1, h2, h3⟩ := texts_of vs fun u hu => h u (List.mem_cons_of_mem _ hu)
    refine ⟨k :: ys, .cons k t h1, by simp [h2], fun k2 t2 hm => ?_⟩
    rcases List.mem_cons.mp hm with q | q
    · injection q with q1 q2
      rw [q1]
      exact List.mem_cons_self
    · exact List.mem_cons_of_mem _ (h3 k2 t2 q)
/-- sorted(set) -/
theorem sorted_texts {a : Addr} {l : List Str} {Q : Value → Shared → Prop} (T : TSet P w s.heap a l) (hh : A.handled = none) (h64 : l.length < 64)
    (hQ : ∀ s' p (out : Array Value) (c : Nat) (ys : List Str), (∀ b o, s.heap.get? b = some o → s'.heap.get? b = some o) → s'.gens = s.gens → s'.os = s.os → s.heap.objs.size ≤ p →
      s'.heap.get? p = some (seqObj "list" out c) → StrsAre out.toList ys → ys.Perm l → sortedS ys = true → Q (.ref p) s') :
    wpAny (model P w) A (call (.builtin "sorted") [.ref a]) Q E s := by
  obtain ⟨⟨D, ho, F0, hr, hl⟩, nd⟩ := T
  obtain ⟨es, ep, t⟩ := D
  have hsz : es.size = l.length := F0.sz
  refine Calls.call_function_entry kind_sorted plain_sorted entry_sorted (args_sorted1 _) ?_
  unfold Builtin.«sorted»
  refine wpAny_bind (m := checkCount "sorted" 1 1 _) (wpAny_pure ?_)
  refine wpAny_bind (collect_set (A := A.in1) (es := es) (ep := ep) (t := t) hh ⟨_, ho, rfl, rfl⟩ F0.fit (by unfold scanBound; omega) hr hl fun s1 vs k1 hz g1 o1 pm => ?_)
  have hvl : vs.length = l.length := by rw [pm.length_eq, List.length_map, Array.length_toList]; exact hsz
  obtain ⟨ys, hS, hyl, hin⟩ := texts_of vs fun v hv => by
    obtain ⟨e, he, q⟩ := List.mem_map.mp (pm.mem_iff.mp hv)
    obtain ⟨⟨k, hk, _⟩, _⟩ := F0.el e he
    obtain ⟨t, ev⟩ := Value.isStrOf_shape (x := k) (v := e.2) hk
    exact ⟨k, t, by rw [← q]; exact ev⟩
  have pl : ys.Perm l := perm_full l ys nd (fun z hz => by
    obtain ⟨e, he, q⟩ := (F0.mem z).mp hz
    obtain ⟨t, ev⟩ := Value.isStrOf_shape (x := z) (v := e.2) q
    refine hin z t (pm.mem_iff.mpr (List.mem_map.mpr ⟨e, he, ev⟩))) (by omega)
  refine wpAny_bind (wpAny_newList ?_ (by rw [hvl, sizeLine_eq]; omega))
  have hoL : (s1.heap.push (seqObj "list" vs.toArray 0)).get? s1.heap.objs.size = some (seqObj "list" vs.toArray 0) := Heap.get?_push_size _ rfl
  refine wpAny_bind (wpAny_holding (wpAny_call_entry slot_list_sort ⟨_, hoL, rfl⟩ entry_list_sort (list_sort_treeK strKind_oneLt hoL hS.keysOf (fun v₁ v₂ rest e => keyKind_strs (by rw [← e]; exact hS)) (by rw [hvl]; exact h64) fun st' hp hs => ⟨_, rfl, ?_⟩) (args_list_sort _)))
  obtain ⟨ss', b1, b2, b3⟩ := sorted_out_str hS hp hs
  obtain ⟨c, hc⟩ := sortedHeap_at (vs := vs) (out := (arrOf st').map (·.2)) hoL
  refine wpAny_pure ⟨_, rfl, hQ _ s1.heap.objs.size ((arrOf st').map (·.2)) c ss' (fun b u e => ?_) g1 o1 hz hc b1 (b2.trans pl) b3⟩
  have q := k1 b u e
  have hlt := Heap.lt_size q
  show (sortedHeap (s1.heap.push (seqObj "list" vs.toArray 0)) s1.heap.objs.size vs ((arrOf st').map (·.2))).get? b = some u
  rw [sortedHeap_old (Nat.ne_of_lt hlt) (by rw [size_push']; exact Nat.lt_succ_of_lt hlt)]
  exact Heap.get?_push_of_some _ q
end
def TSetO (P : Program) (w : World) (a : Addr) (l : List Str) : HO := .ext fun h => TSet P w h a l
theorem tsetO_new {P : Program} {w : World} {H : Hp} {h : Heap} {a : Addr} {l : List Str} (T : TSet P w h a l) : ObjOk P w H h a (TSetO P w a l) := by
  obtain ⟨D, e, r⟩ := T.ex
  exact ⟨T, ⟨_, e⟩, fun h1 h2 p k => TSet.at p k⟩
section
variable {X : Cx}
theorem cr_setTexts (hc : X.calm = true) : CallR X (.type "set") (fun xs H Q => ∃ (l : Addr) (zs : List Str), xs = [V.ref l] ∧ SqL X.K H l (zs.map V.str) ∧ zs.length < 64 ∧
    ∀ a ys, H a = none → ys.Nodup → (∀ z, z ∈ ys ↔ z ∈ zs) → Q (.ref a) (upd H a (TSetO X.prog X.w a ys))) := by
  intro pins s σ H xs us Q I r h
  obtain ⟨l, zs, rfl, hl, hf, q⟩ := h
  rw [Vals.ref1 r]
  obtain ⟨its, rv, pl, hz⟩ := I.list hl
  refine call_set_texts (P := X.prog) (w := X.w) (xs := zs) (I.ok.hd hc) pl.isList (by simpa using rv.strs) (by unfold scanBound; omega) fun h' tk ys T hm k => ?_
  exact ⟨.ref s.heap.objs.size, upd H s.heap.objs.size (TSetO X.prog X.w s.heap.objs.size ys), I.laid (t' := tk) k (Nat.le_refl _) (tsetO_new T), rfl, q _ ys (I.hok.fresh (Nat.le_refl _)) T.nd hm⟩
theorem cr_sortedTexts (hc : X.calm = true) : CallR X (.builtin "sorted") (fun xs H Q => ∃ (a : Addr) (l : List Str), xs = [V.ref a] ∧ H a = some (TSetO X.prog X.w a l) ∧ l.length < 64 ∧
    ∀ (ys : List Str) (p : Addr), ys.Perm l → sortedS ys = true → H p = none → Q (.ref p) (upd H p (.lst (ys.map V.str)))) := by
  intro pins s σ H vs us Q I r h
  obtain ⟨a, l, rfl, ha, hf, q⟩ := h
  have T : TSet X.prog X.w s.heap a l := (I.hok a _ ha).1
  rw [Vals.ref1 r]
  refine sorted_texts T (I.ok.hd hc) hf fun s' p out c ys k g o hp hg hS pm so => ?_
  have hlen : (ys.map V.str).length ≤ sizeLine := by rw [List.length_map, pm.length_eq, sizeLine_eq]; omega
  have hn : H p = none := I.hok.fresh hp
  have J : Inv X pins σ (upd H p (.lst (ys.map V.str))) { s with heap := s'.heap, gens := s'.gens, drawn := s'.drawn, toks := s'.toks } :=
    I.call (ch := []) (Un.laid k hp hn) (I.hok.laid k hp ⟨hlen, out.toList, c, vals_of_strs hS, hg⟩) (by rw [g]; exact I.bare) (fun _ z => nomatch z)
  have e : s' = { s with heap := s'.heap, gens := s'.gens, drawn := s'.drawn, toks := s'.toks } := by
    cases s'
    cases s
    cases o
    rfl
  rw [e]
  exact ⟨.ref p, _, J, rfl, q ys p pm so hn⟩
end
end My
/-! C( *e), C() of a starred __init__, static methods, <= by an own __le__, x in a tuple by own ==, repr and in of nested data -/
namespace MyO
open PySem PySem.SeqAt
open AutoSeq1 (wpAny_loadPart')
open MeetsSeq MeetsSeq2 MeetsSeq3 SeqRoads2
section
variable {prog : Program} {w : World} {A : Around} {R : Result → Shared → Prop} {s : Shared}
theorem contains_J (l : Addr) (items : Array Value) (n : Nat) (dd : Option Addr) (sl : Array (Option Value)) (x : Value) (e : Value → Bool) (J : Shared → Prop)
    (hl : s.heap.get? l = some { cls := .type "tuple", dict := dd, data := .seq items n, slots := sl }) (h0 : J s)
    (he : ∀ y, y ∈ items → ∀ s', J s' → wpAny (model prog w) A.in1 (eqBool y x) (fun r s2 => r = e y ∧ J s2) (fun e s' => R (.error e) s') s')
    (h : ∀ s', J s' → R (.ok (.ret (.bool (items.any e)))) s') :
    wpAny (model prog w) A.in1 (Builtin.«tuple.__contains__» ⟨[.ref l, x], []⟩) (GQ.FinOf prog w A R) (fun e s' => R (.error e) s') s := by
  obtain ⟨hp, g, d, tk, os⟩ := s
  wp_walk using wpAny_loadPart' hl, wpAny_forIn_array _ (fun rest b s' => b.1 = none ∧ J s' ∧ (∀ y, y ∈ rest → y ∈ items) ∧ (rest.any e = items.any e)) _
  case turn =>
    rintro y rest b s' ⟨hb, hJ, hmem, hR⟩
    refine wpAny_bind (wpAny_mono (he y (hmem y (List.mem_cons_self ..)) s' hJ) (fun r s2 z => ?_) fun _ _ q => q)
    obtain ⟨rfl, J2⟩ := z
    rw [List.any_cons] at hR
    cases hy : e y with
    | true =>
      rw [hy] at hR
      wp_walk
      have q := h _ J2
      rw [← hR] at q
      exact q
    | false =>
      rw [hy] at hR
      wp_walk
      exact ⟨rfl, J2, fun z hz => hmem z (List.mem_cons_of_mem _ hz), by simpa using hR⟩
  case fin =>
    rintro ⟨b1, b2⟩ s' ⟨hb, hJ, -, hR⟩
    simp only at hb
    subst hb
    wp_walk
    have q := h _ hJ
    rw [← hR] at q
    exact q
  case h =>
    exact ⟨rfl, h0, fun y hy => by simpa using hy, by simp⟩
end
section
variable {prog : Program} {w : World} {A : Around} {E : Value → Shared → Prop} {s : Shared}
theorem in_tupJ {l : Addr} {items : Array Value} {x : Value} {Q : Value → Shared → Prop} (e : Value → Bool) (J : Shared → Prop) (hl : s.heap.IsTuple l items) (h0 : J s)
    (he : ∀ y, y ∈ items → ∀ s', J s' → wpAny (model prog w) A.in1 (eqBool y x) (fun r s2 => r = e y ∧ J s2) E s') (h : ∀ s', J s' → Q (.bool (items.any e)) s') :
    wpAny (model prog w) A (compareOp .In x (.ref l)) Q E s := by
  obtain ⟨⟨cls, dd, data, sl⟩, ho, hc, n, hd⟩ := id hl
  simp only at hc hd
  subst hc hd
  show wpAny _ A (do return .bool (← contains (.ref l) x)) Q E s
  have slot := GQ.call_here (self := .ref l) (rest := [x]) (s := s) F.slot_tuple_contains (Q := fun v s' => ∃ b, v = .bool b ∧ Q (.bool b) s') (E := E) ⟨_, ho, rfl⟩ F.entry_tuple_contains (F.args_tuple_contains_2 _ _)
    (contains_J (R := wants (fun v s' => ∃ b, v = .bool b ∧ Q (.bool b) s') E) l items n dd sl x e J ho h0 he (fun s' z => ⟨_, rfl, h s' z⟩))
  refine wpAny_bind (wpAny_contains_slot (T := "tuple") ⟨_, ho, rfl⟩ F.slot_tuple_contains (wpAny_mono slot (fun v s' hv => ?_) fun _ _ e => e))
  obtain ⟨b, rfl, hq⟩ := hv
  exact wpAny_truthy_bool (wpAny_pure hq)
end
end MyO
namespace My
open PySem PySem.Spec PyProof.Rows L2
section
variable {X : Cx} {CX : CXT} {k : Nat} {f g p C : Addr} {fd : FuncData} {ps : List Str} {sp : Sp} {E : XK} {x m : Str} {p1 p2 p3 apos pos : Pos} {e ob : Expr} {es : List Expr} {te to : TE} {t : TA} {mc : Value}
/-- C( *e) -/
def tMakeS (K : PySem.W.Frag) (C : Addr) (sp : Sp) (E : XK) (te : TE) : TE := fun σ H Q => te σ H fun y H1 => ∃ a xs, y = V.ref a ∧ (SqT K H1 a xs ∨ SqL K H1 a xs) ∧ ∀ x dx, H1 x = Option.none → H1 dx = Option.none → dx ≠ x →
  sp (V.ref x :: xs) (upd (upd H1 dx (.own x)) x (.ins C dx [])) (fun v H2 => v = .non ∧ Q (.ref x) H2) E
theorem pe_makeS (M : Mk X.K C f) (F : FnR X.prog X.w X.K X.mg X.base CX k f sp) (hr : Room (k + 1) X.A) (hg : Gl X x) (hm : X.mg x = some (.ref C)) (hx : Passes CX X E) (he : PE X e te) (hdb : (x == ("__debug__" : Str)) = false := by decide)
    (hst : starEach [.Starred e p2] X.env = [(true, eval e X.env)] := by rfl) : PE X (.Call (.Name x p1) [.Starred e p2] [] pos) (tMakeS X.K C sp E te) := by
  refine ⟨fun pins s σ H Q I h => ?_⟩
  refine wpAny_Call_Name_kw (ld_glob I hg hm ?_ hdb)
  refine PySem.W.callWith_S (h₀ := X.base) I.ok.mod.kin M.kp (thn (he.run pins s σ H _ I h) fun v s1 ⟨y, H1, I1, ry, a, xs, ey, hxs, q⟩ => ?_) hst
  subst ey
  obtain rfl : v = Value.ref a := ry
  exact StX.star_any I1 hxs fun us s2 I2 rv => ⟨I2.kIn, StX.run_makeR M F hr hx I2 rv q⟩
/-- C() -/
theorem pe_makeR0 (M : Mk X.K C f) (F : FnR X.prog X.w X.K X.mg X.base CX k f sp) (hr : Room (k + 1) X.A) (hg : Gl X x) (hm : X.mg x = some (.ref C)) (hx : Passes CX X E) (hdb : (x == ("__debug__" : Str)) = false := by decide) :
    PE X (.Call (.Name x p1) [] [] pos) (StX.tMakeR C sp E tNil) := by
  refine ⟨fun pins s σ H Q I h => ?_⟩
  refine wpAny_Call_Name_kw (ld_glob I hg hm ?_ hdb)
  exact PySem.W.callWith_K0 I.kIn M.kp (StX.run_makeR (us := []) M F hr hx I .nil h)
/-- C.m is a static method: its record at p, its def at g -/
structure SMet (K : PySem.W.Frag) (C : Addr) (mc : Value) (m : Str) (p g : Addr) : Prop where
  rd : ClX.CRead K C mc
  at_ : PySem.W.findCls K (.ref C) mc m = some (.get (.builtin "staticmethod.__get__") (.ref p) .none (.ref C))
  rc : ∃ rest, PySem.W.recIn K p "staticmethod" = some (.ref g :: rest)
  kp : PySem.W.keepIn K (.ref g) = true
/-- C.m(e, ..) -/
def tSMeth (C : Addr) (sp : Sp) (E : XK) (to : TE) (t : TA) : TE := fun σ H Q => to σ H fun x H1 => x = .ref C ∧ t σ H1 fun vs H2 => sp vs H2 Q E
theorem pe_smeth {pl : Sem Bool} (ho : PE X ob to) (c : SMet X.K C mc m p g) (F : FnR X.prog X.w X.K X.mg X.base CX k g sp) (hr : Room k X.A) (hx : Passes CX X E) (ha : PA X (e :: es) t)
    (hst : starEach (e :: es) X.env = (false, eval e X.env) :: starEach es X.env := by rfl) (hpl : (backTo pos (starEach es X.env)).any (·.1) = false := by rfl)
    (ht : eval (.Call (.Attribute ob m apos) (e :: es) [] pos) X.env = (do
      let ov ← eval ob X.env
      standAt apos.atName
      let (f, first) ← holding [ov] (getMethod ov m pl)
      callWith pos f first (backTo pos (starEach (e :: es) X.env)) (backToKw pos (keywordEach [] X.env))) := by rfl) :
    PE X (.Call (.Attribute ob m apos) (e :: es) [] pos) (tSMeth C sp E to t) := by
  refine ⟨fun pins s σ H Q I h => ?_⟩
  refine PySem.W.methodCall_KW (pl := pl) (thn (ho.run pins s σ H _ I h) fun u s1 ⟨x, H1, I1, rx, ex, q⟩ => ?_) ht
  subst ex
  obtain rfl : u = Value.ref C := rx
  obtain ⟨rest, hp⟩ := c.rc
  refine PySem.W.method_cls I1.kIn c.rd.ga (PySem.W.cls_bind I1.kIn c.rd.rd c.at_ ?_)
  refine wpAny_call (PySem.W.sm_get (s := { s1 with toks := s1.toks + 1 }) I1.kIn hp (PySem.W.handed_on rfl ?_))
  have I2 : Inv X pins σ H1 { s1 with toks := s1.toks + 1 } := I1.tok _
  refine PySem.W.callWith_K (h₀ := X.base) (first := []) I2.ok.mod.kin c.kp (thn (ha.run pos pins _ σ H1 _ I2 q) fun us s3 ⟨vs, H2, I3, rv, q2⟩ => ⟨I3.kIn, ?_⟩) hst hpl
  exact wpAny_call (run_fnR F hr hx I3 rv q2)
/-- x <= y by an own __le__ -/
theorem op_leOwn {C : Addr} (F : FnG X.prog X.w X.K X.mg X.base CX k f fd ps sp) (hr : Room k X.A) (hgu : X.A.guards = some []) (hs : PySem.W.findIn X.K (.ref C) "__le__" = some (some (.ref f))) (hf : PySem.W.isFn X.K (.ref f) = true) (hb : Binds X.K fd ps []) (hx : Passes CX X E) :
    OpR X (compareOp .LtE) (rEqOwn X.K C sp E) := by
  intro pins s σ H x y v u Q I rx ry h
  obtain ⟨a, dx, fs, t, rfl, ha, ty, nf, q⟩ := h
  cases rx
  obtain ⟨mA, J, _⟩ := ins_get I.hok ha
  obtain ⟨od, J, _⟩ := J.look
  obtain ⟨m, hF⟩ := I.fr
  obtain ⟨Pp, Z, pz, _⟩ := kit_of I ry ty
  show wpAny (model X.prog X.w) X.A (richCompare .LtE (.ref a) u) (EP X pins σ Q) X.xe s
  refine PySem.W.cmp_K (op := .LtE) (tb := t) hr.units0 hF I.ok.mod.kin J (Z.ty _ _ I.kIn pz) nf hs hf ?_
  refine wpAny_mono (runG (vs := [.ref a, y]) (us := [.ref a, u]) (dvs := []) (ds := []) F hr hgu hb .nil hx I (.cons rfl (.cons ry .nil)) q) (fun r s' z => ?_) fun _ _ z => z
  obtain ⟨w1, H1, I1, r1, b, rfl, q1⟩ := z
  cases r1
  exact ⟨.bl b, H1, I1, rfl, q1⟩
/-- y == x answers b, the heap stays -/
def EqB (X : Cx) (D : V → V → Bool → Hp → Prop) : Prop := ∀ (pins : List (Addr × Obj)) (s : Shared) (σ : L2.St) (H : Hp) (y x : V) (u v : Value) (b : Bool), Inv X pins σ H s → RelV y u → RelV x v → D y x b H →
  wpAny (model X.prog X.w) X.A.in1 (eqBool u v) (fun r s2 => r = b ∧ Inv X pins σ H s2) X.xe s
def rInG (K : PySem.W.Frag) (D : V → V → Bool → Hp → Prop) : R2 := fun x y H Q => ∃ (p : Addr) (xs : List V) (bs : List Bool), y = .ref p ∧ SqT K H p xs ∧ Paired (fun y b => D y x b H) xs bs ∧ Q (.bl (bs.any id)) H
theorem op_inG {D : V → V → Bool → Hp → Prop} (hD : EqB X D) (one : ∀ y x b b' H, D y x b H → D y x b' H → b = b') (flat : ∀ y x b H, D y x b H → ∃ a, y = .ref a) : OpR X (compareOp .In) (rInG X.K D) := by
  intro pins s σ H x y v u Q I rx ry h
  obtain ⟨q, xs, bs, rfl, hq, pr, h⟩ := h
  cases ry
  obtain ⟨its, r, pl, hz⟩ := I.tuple hq
  have ex : ∃ e : Value → Bool, (∀ w ∈ its, ∃ y b, RelV y w ∧ D y x b H ∧ e w = b) ∧ its.any e = bs.any id := by
    clear hz pl hq h
    have key : ∀ (xs : List V) (bs : List Bool) (its : List Value), Vals xs its → Paired (fun y b => D y x b H) xs bs → ∃ L : List (Value × Bool), L.map (·.1) = its ∧ L.map (·.2) = bs ∧ ∀ z ∈ L, ∃ y, RelV y z.1 ∧ D y x z.2 H := by
      intro xs
      induction xs with
      | nil =>
        intro bs its r pr
        cases r
        cases pr
        exact ⟨[], rfl, rfl, fun z h => by cases h⟩
      | cons y ys ih =>
        intro bs its r pr
        cases r with
        | cons r1 r2 =>
          cases pr with
          | cons p1 p2 =>
            obtain ⟨L, e1, e2, h⟩ := ih _ _ r2 p2
            refine ⟨(_, _) :: L, by rw [List.map_cons, e1], by rw [List.map_cons, e2], fun z hz => ?_⟩
            rcases List.mem_cons.mp hz with q | q
            · rw [q]; exact ⟨y, r1, p1⟩
            · exact h z q
    obtain ⟨L, e1, e2, h⟩ := key xs bs its r pr
    refine ⟨fun w => ((L.find? fun z => z.1 == w).map (·.2)).getD false, fun w hw => ?_, ?_⟩
    · rw [← e1] at hw
      obtain ⟨z, hz, ez⟩ := List.mem_map.mp hw
      cases hf : L.find? (fun z => z.1 == w) with
      | none =>
        have := List.find?_eq_none.mp hf z hz
        simp [ez] at this
      | some z2 =>
        have m2 := List.mem_of_find?_eq_some hf
        have e3 : z2.1 = w := by simpa using List.find?_some hf
        obtain ⟨y2, r2, d2⟩ := h z2 m2
        exact ⟨y2, z2.2, e3 ▸ r2, d2, by dsimp only; rw [hf] <;> rfl⟩
    · rw [← e1, ← e2, List.any_map, List.any_map]
      refine Bool.eq_iff_iff.mpr ?_
      rw [List.any_eq_true, List.any_eq_true]
      have same : ∀ z ∈ L, ((L.find? fun z' => z'.1 == z.1).map (·.2)).getD false = z.2 := fun z hz => by
        cases hf : L.find? (fun z' => z'.1 == z.1) with
        | none =>
          have := List.find?_eq_none.mp hf z hz
          simp at this
        | some z2 =>
          have m2 := List.mem_of_find?_eq_some hf
          have e3 : z2.1 = z.1 := by simpa using List.find?_some hf
          obtain ⟨y2, r2, d2⟩ := h z2 m2
          obtain ⟨y1, r1, d1⟩ := h z hz
          obtain ⟨a2, rfl⟩ := flat _ _ _ _ d2
          obtain ⟨a1, rfl⟩ := flat _ _ _ _ d1
          have u2 : z2.1 = Value.ref a2 := r2
          have u1 : z.1 = Value.ref a1 := r1
          rw [u2, u1] at e3
          injection e3 with e3
          subst e3
          exact one _ _ _ _ _ d2 d1
      constructor
      · rintro ⟨z, hz, q⟩
        exact ⟨z, hz, by have := same z hz; simp only [Function.comp] at q ⊢; rw [this] at q; exact q⟩
      · rintro ⟨z, hz, q⟩
        exact ⟨z, hz, by have := same z hz; simp only [Function.comp] at q ⊢; rw [this]; exact q⟩
  obtain ⟨e, h1, h2⟩ := ex
  refine MyO.in_tupJ e (fun s' => Inv X pins σ H s') pl I (fun w hw s' I' => ?_) (fun s' I' => ?_)
  · obtain ⟨y, b, ry, d, eb⟩ := h1 w (by simpa using hw)
    rw [eb]
    exact hD pins s' σ H y x w v b I' ry rx d
  · refine ⟨.bl (bs.any id), H, I', ?_, h⟩
    rw [show its.toArray.any e = its.any e by simp, h2]
    rfl
/-- x in a tuple of data -/
def rInDT (K : PySem.W.Frag) : R2 := fun x y H Q => ∃ d ds, Dp K H x d ∧ Dp K H y (.tuple ds) ∧ SeqAt.shaped d = true ∧ SeqAt.shaped (.list ds) = true ∧ Q (.bl (ds.any fun z => PyData.eqv z d)) H
theorem op_inDT (hu : X.A.units + 65 < cLine) : OpR X (compareOp .In) (rInDT X.K) := by
  intro pins s σ H x y v u Q I rx ry h
  obtain ⟨d, ds, hd, he, sd, se, q⟩ := h
  obtain ⟨as, r1⟩ := Dp.reads I d x v hd rx
  obtain ⟨bs, r2⟩ := Dp.reads I (.tuple ds) y u he ry
  exact SeqAt.in_tuple_reads r2 r1 (SeqAt.canLay_of_shaped se) (SeqAt.canLay_of_shaped sd) (room_in_shaped sd hu) ⟨.bl _, H, I, rfl, q⟩
/-- repr of a list or a tuple of data without dicts -/
theorem call_reprD (hg : X.A.guards = some []) (hu : X.A.units + 64 < cLine) : CallR X (.builtin "repr") (fun xs H Q => ∃ (a : Addr) (d : PyData), xs = [.ref a] ∧ Dp X.K H (.ref a) d ∧ d.hasDict = false ∧ Fine d ∧ Q (.str d.shown) H) := by
  intro pins s σ H xs us Q I r h
  obtain ⟨a, d, rfl, hd, nd, fine, q⟩ := h
  obtain ⟨u, rfl, ru⟩ := vals1 r
  cases ru
  obtain ⟨as, rd⟩ := Dp.reads I _ _ _ hd rfl
  refine repr_of_reads' rd fine.show_ (fun z => by rw [nd] at z; cases z) hg (by have := fine.deep; omega) (fun _ _ e => e) (fun h' u tk hk => ⟨.str d.shown, H, I.kept hk, ⟨u, rfl⟩, q⟩) fine.size
end
end My
namespace My
open PySem PySem.Spec PyProof.Rows L2
def topS (i : Nat) : Stmt := PySem.Challenge.pw_layerseen_k19_sides_of_stacks.main.body.getD i (.Pass ⟨0, 0, 0, 0⟩)
abbrev sWhole : Stmt := topS 3
abbrev sAsc : Stmt := topS 5
abbrev sWord : Stmt := topS 20
abbrev sName : Stmt := topS 21
abbrev sCheck : Stmt := topS 22
abbrev sMeet1 : Stmt := topS 36
abbrev sChkH : Stmt := topS 40
abbrev sPairs : Stmt := topS 41
abbrev sPen : Stmt := topS 44
abbrev sDraw : Stmt := topS 45
abbrev sPick : Stmt := topS 46
abbrev sMixed : Stmt := topS 47
abbrev sRows : Stmt := topS 48
abbrev sMade : Stmt := topS 49
abbrev sStacked : Stmt := topS 50
abbrev sLMeet : Stmt := topS 51
abbrev sNamed : Stmt := topS 52
abbrev sTwo : Stmt := topS 53
abbrev sRight : Stmt := topS 54
abbrev sIsPart : Stmt := topS 55
abbrev sPartsR : Stmt := topS 56
abbrev sLaw : Stmt := topS 57
structure Txt (mg : Str → Option Value) : Prop where
  int : mg "int" = none
  bool : mg "bool" = none
  len : mg "len" = none
  abs : mg "abs" = none
  list : mg "list" = none
  tuple : mg "tuple" = none
  dict : mg "dict" = none
  range : mg "range" = none
  isi : mg "isinstance" = none
  str : mg "str" = none
  all : mg "all" = none
  repr : mg "repr" = none
  any : mg "any" = none
  enum : mg "enumerate" = none
  set : mg "set" = none
  sorted : mg "sorted" = none
  ve : mg "ValueError" = none
theorem pe_never {X : Cx} {e : Expr} : PE X e (fun _ _ _ => False) := ⟨fun _ _ _ _ _ _ h => h.elim⟩
def Same' (H H' : Hp) : Prop := ∀ q o, H q = some o → H' q = some o
theorem Same'.trans {H1 H2 H3 : Hp} (h : Same' H1 H2) (k : Same' H2 H3) : Same' H1 H3 := fun b o e => k b o (h b o e)
theorem same_new {H : Hp} {p : Addr} {o : HO} (h : H p = none) : Same' H (upd H p o) := fun b x e => by
  rw [upd_ne (ne_of_none e h)]
  exact e
theorem same_over {H H1 : Hp} {p : Addr} {o : HO} (h : H p = none) (k : Same' H H1) : Same' H (upd H1 p o) := fun b x e => by
  rw [upd_ne (ne_of_none e h)]
  exact k _ _ e
end My
namespace My
open PySem PySem.Spec PyProof.Rows L2
/-! ### words and names, as they are said here -/
def low (c : Nat) : Bool := decide (97 ≤ c) && decide (c ≤ 122)
def wd (z : Str) : Bool := decide (1 ≤ z.length) && decide (z.length ≤ 8) && z.cps.toList.all low
def abc : Str := "abcdefghijklmnopqrstuvwxyz"
theorem low_abc (c : Nat) : decide (c ∈ abc.cps.toList) = low c := by
  have e : abc.cps.toList = [97, 98, 99, 100, 101, 102, 103, 104, 105, 106, 107, 108, 109, 110, 111, 112, 113, 114, 115, 116, 117, 118, 119, 120, 121, 122] := by decide +kernel
  rw [e]
  unfold low
  rw [← Bool.decide_and]
  apply decide_eq_decide.mpr
  simp only [List.mem_cons, List.not_mem_nil, or_false]
  omega
theorem sign_at {z : Str} {i : Nat} {c : Nat} (h : z.cps[i]? = some c) : z.cps.toList[i]? = some c := by simpa using h
/-- what is no text: None, a number, a truth, a tuple, a list, a dict -/
def NoText (K : PySem.W.Frag) (H : Hp) (x : V) : Prop := ∃ T : String, TyX K H x (.type T) ∧ kitB T "str" = some false
def spWord (K : PySem.W.Frag) (ans : Str → Bool) : Sp := fun vs H Q _ => ∃ x : V, vs = [x] ∧
  ((∃ z : Str, x = .str z ∧ z.length ≤ 1000 ∧ ∀ H', Same' H H' → Q (.bl (ans z)) H') ∨ (NoText K H x ∧ Q (.bl false) H))
def kept : List Str := ["put", "copy", "if", "else", "say", "fail", "catch", "choose", "or", "none", "stop", "skip", "cell", "log", "failure", "choice"]
def nm (z : Str) : Bool := wd z && !inV (.str z) (kept.map V.str)
section
variable {P : Program} {w : World} {K : PySem.W.Frag} {mg : Str → Option Value} {base : Heap}
abbrev nWord : List Str := ["value", "sign"]
theorem scWord : FnScope nWord ["value"] (defScope sWord) := ⟨rfl, rfl, rfl, by decide +kernel, rfl, by decide +kernel, by decide +kernel⟩
theorem ok_word {f : Addr} {fd : FuncData} {tl tn : Tok} (F : Fun K "is_word" "is_word" sWord f fd) (T : Txt mg) (mL : mg "LETTERS" = some (.str abc tl)) (mN : mg "LONGEST" = some (.int 8 tn)) : FnOk P w K mg base CX0 1 f fd ["value"] (spWord K wd) := by
  refine F.ok scWord (fun vs H Q E h => ?_) (fun cdv A outer s H vs Q E hr h => ?_)
  · obtain ⟨x, rfl, _⟩ := h
    rfl
  · obtain ⟨x, rfl, h⟩ := h
    refine ⟨_, pss_one (ps_ret (pe_and (pe_callB call_isi (by rfl) T.isi (by decide +kernel) (pa_cons (pv 0) (pa_cons (pe_bltn (by rfl) T.str (by decide +kernel) (show RelV (.ty "str") _ from rfl)) pa_nil)))
      (pe_and (pe_chain op_le op_le pe_int (pe_callB call_len_str (by rfl) T.len PySem.boot_len (pa_cons (pv 0) pa_nil)) (pe_glob (v := .int 8) rfl mN ⟨_, rfl⟩))
      (pe_one (pe_callB (cr_all rfl) (by rfl) T.all (by decide +kernel) (pa_cons
        (pe_lc (own := [("sign", 1)]) (g := gName 1) (tt := tYes) rfl scWord.nd (pi_str (pv 0)) (blkOk_by (N := nWord) (sc := defScope sWord) (by decide +kernel)) (fun _ _ _ _ _ => pg_name (i := 1) scWord.nd rfl (Or.inl rfl)) (fun _ _ _ _ _ => pts_nil)
          (fun _ _ _ _ _ => pe_cmpR op_in_sign (pv 1) (pe_glob (v := .str abc) rfl mL ⟨_, rfl⟩) rfl)) pa_nil)))))), ?_⟩
    refine ⟨x, rfl, ?_⟩
    rcases h with ⟨z, rfl, zl, q⟩ | ⟨⟨T, ty, kt⟩, q⟩
    · refine ⟨.str z, .ty "str", .type "str", .type "str", true, rfl, .ty "str", .base (.str z), kit_ty (by decide +kernel), true, rfl, iteT ?_⟩
      have zs : z.length < sizeLine := small1000 zl
      refine ⟨.str z, rfl, z, rfl, Nat.le_of_lt zs, 1, _, rfl, rfl, _, rfl, ite2 (fun e => ?_) (fun e => ?_)⟩
      · refine ⟨_, 8, rfl, rfl, _, rfl, ite2 (fun e2 => ?_) (fun e2 => ?_)⟩
        · have l1 := of_decide_eq_true e
          have l2 := of_decide_eq_true e2
          refine ⟨.str z, rfl, z, rfl, fun D hD => ?_⟩
          refine lc_it walk_str (fun i H' => Same' H H' ∧ H' D = some (.lst ((z.cps.toList.take i).map fun c => V.bl (low c)))) ⟨same_new hD, upd_same⟩ (fun _ _ _ _ => trivial) (fun i x H1 H2 hi hp hy => ?_) (fun H' hp => ?_)
          · obtain ⟨sm, ed⟩ := hp
            obtain ⟨rfl, c, hc, rfl⟩ := hy
            have hc' := sign_at hc
            refine ⟨rfl, ?_⟩
            refine ⟨_, rfl, c, abc, rfl, rfl, _, ed, ?_, same_over hD sm, ?_⟩
            · rw [List.length_map, List.length_take]
              exact Nat.lt_of_le_of_lt (Nat.min_le_right _ _) (by rw [Array.length_toList]; exact zs)
            · rw [upd_same, List.take_add_one, hc', low_abc, List.map_append]
              rfl
          · obtain ⟨sm, ed⟩ := hp
            refine ⟨D, z.cps.toList.map low, rfl, SqL.of ?_, ?_⟩
            · rw [ed, List.take_of_length_le (by rw [Array.length_toList]; exact Nat.le_refl _), List.map_map]
              rfl
            · have ez : (z.cps.toList.map low).all id = wd z := by
                unfold wd
                rw [decide_eq_true (show 1 ≤ z.length by omega), decide_eq_true (show z.length ≤ 8 by omega), List.all_map]
                rfl
              rw [ez]
              exact q _ sm
        · have ez : wd z = false := by
            have := of_decide_eq_false (Bool.eq_false_iff.mpr e2)
            unfold wd
            rw [decide_eq_false (show ¬ z.length ≤ 8 by omega), Bool.and_false, Bool.false_and]
          exact ez ▸ q H fun _ _ e => e
      · refine ⟨false, rfl, iteF ?_⟩
        have ez : wd z = false := by
          have := of_decide_eq_false (Bool.eq_false_iff.mpr e)
          unfold wd
          rw [decide_eq_false (show ¬ 1 ≤ z.length by omega), Bool.false_and, Bool.false_and]
        exact ez ▸ q H fun _ _ e => e
    · refine ⟨x, .ty "str", .type T, .type "str", false, rfl, .ty "str", ty, kit_ty kt, false, rfl, iteF q⟩
abbrev nName : List Str := ["value"]
theorem scName : FnScope nName ["value"] (defScope sName) := ⟨rfl, rfl, rfl, by decide +kernel, rfl, by decide +kernel, by decide +kernel⟩
theorem ok_name {f fW aK : Addr} {fd fdW : FuncData} (F : Fun K "is_name" "is_name" sName f fd) (FW : Fun K "is_word" "is_word" sWord fW fdW) (bW : Binds K fdW ["value"] []) (gW : mg "is_word" = some (.ref fW)) (G : FnOk P w K mg base CX0 1 fW fdW ["value"] (spWord K wd))
    (mK : mg "KEPT_WORDS" = some (.ref aK)) (hK : ∀ H, SqT K H aK (kept.map V.str)) : FnOk P w K mg base CX0 2 f fd ["value"] (spWord K nm) := by
  refine F.ok scName (fun vs H Q E h => ?_) (fun cdv A outer s H vs Q E hr h => ?_)
  · obtain ⟨x, rfl, _⟩ := h
    rfl
  · obtain ⟨x, rfl, h⟩ := h
    refine ⟨_, pss_one (ps_ret (pe_and (pe_call G hr (by rfl) gW FW.kp bW .nil pass0 (pa_cons (pv 0) pa_nil))
      (pe_one (pe_cmpR op_notIn_seq (pv 0) (pe_glob (v := .ref aK) rfl mK rfl) (by rfl))))), ?_⟩
    refine ⟨x, rfl, x, rfl, ?_⟩
    rcases h with ⟨z, rfl, zl, q⟩ | ⟨nt, q⟩
    · refine .inl ⟨z, rfl, zl, fun H' sm => ?_⟩
      cases hz : wd z with
      | true =>
        refine ⟨true, rfl, iteT ⟨.str z, rfl, aK, _, rfl, .inr (hK _), rfl, by decide +kernel, ?_⟩⟩
        have e : nm z = !inV (.str z) (kept.map V.str) := by
          unfold nm
          rw [hz, Bool.true_and]
        exact e ▸ q H' sm
      | false =>
        refine ⟨false, rfl, iteF ?_⟩
        have e : nm z = false := by
          unfold nm
          rw [hz, Bool.false_and]
        exact e ▸ q H' sm
    · exact .inr ⟨nt, false, rfl, iteF q⟩

end
end My
namespace My
open PySem PySem.Spec PyProof.Rows L2
/-! ### a name is looked at, and stands -/
def spCheck : Sp := fun vs H Q _ => ∃ z : Str, vs = [.str z] ∧ z.length ≤ 1000 ∧ nm z = true ∧ ∀ H', Same' H H' → Q .non H'
section
variable {P : Program} {w : World} {K : PySem.W.Frag} {mg : Str → Option Value} {base : Heap}
theorem scCheck : FnScope ["value"] ["value"] (defScope sCheck) := ⟨rfl, rfl, rfl, by decide +kernel, rfl, by decide +kernel, by decide +kernel⟩
theorem ok_check {f fN : Addr} {fd fdN : FuncData} (F : Fun K "check_name" "check_name" sCheck f fd) (FN : Fun K "is_name" "is_name" sName fN fdN) (bN : Binds K fdN ["value"] []) (gN : mg "is_name" = some (.ref fN)) (GN : FnOk P w K mg base CX0 2 fN fdN ["value"] (spWord K nm)) :
    FnOk P w K mg base CX0 3 f fd ["value"] spCheck := by
  refine F.ok scCheck (fun vs H Q E h => ?_) (fun cdv A outer s H vs Q E hr h => ?_)
  · obtain ⟨z, rfl, _⟩ := h
    rfl
  · obtain ⟨z, rfl, zl, hz, q⟩ := h
    refine ⟨_, pss_one (ps_if (pt_not (pt_val (pe_call GN hr (by rfl) gN FN.kp bN .nil pass0 (pa_cons (pv 0) pa_nil)))) (pss_one ps_never) pss_nil), ?_⟩
    refine ⟨.str z, rfl, .str z, rfl, .inl ⟨z, rfl, zl, fun H1 sm => ⟨nm z, rfl, ?_⟩⟩⟩
    rw [hz]
    exact iteF (q H1 sm)
end
end My
namespace My
open PySem PySem.Spec PyProof.Rows L2
abbrev sCellI : Stmt := inClass (topS 30) 3
abbrev sLogI : Stmt := inClass (topS 31) 1
abbrev sFailI : Stmt := inClass (topS 32) 1
abbrev sChoI : Stmt := inClass (topS 33) 1
/-- a handler class -/
structure HCls (K : PySem.W.Frag) (mg : Str → Option Value) (name : String) (C : Addr) : Prop where
  g : mg name = some (.ref C)
  c : Cls K C
  nn : NoAttr K C "name"
  ns : NoAttr K C "size"
def Keep1 (a : Addr) (H H' : Hp) : Prop := ∀ b o, b ≠ a → H b = some o → H' b = some o
def spWhole : Sp := fun vs H Q _ => ∃ i : Int, vs = [.int i] ∧ Q (.bl true) H
section
variable {P : Program} {w : World} {K : PySem.W.Frag} {mg : Str → Option Value} {base : Heap}
theorem scWhole : FnScope ["value"] ["value"] (defScope sWhole) := ⟨rfl, rfl, rfl, by decide +kernel, rfl, by decide +kernel, by decide +kernel⟩
theorem ok_whole {f : Addr} {fd : FuncData} (F : Fun K "is_whole" "is_whole" sWhole f fd) (T : Txt mg) : FnOk P w K mg base CX0 1 f fd ["value"] spWhole := by
  refine F.ok scWhole (fun vs H Q E h => ?_) (fun cdv A outer s H vs Q E hr h => ?_)
  · obtain ⟨i, rfl, _⟩ := h
    rfl
  · obtain ⟨i, rfl, q⟩ := h
    refine ⟨_, pss_one (ps_ret (pe_and (pe_callB call_isi (by rfl) T.isi (by decide +kernel) (pa_cons (pv 0) (pa_cons (pe_bltn (by rfl) T.int (by decide +kernel) (show RelV (.ty "int") _ from rfl)) pa_nil)))
      (pe_one (pe_not (pe_callB call_isi (by rfl) T.isi (by decide +kernel) (pa_cons (pv 0) (pa_cons (pe_bltn (by rfl) T.bool (by decide +kernel) (show RelV (.ty "bool") _ from rfl)) pa_nil))))))), ?_⟩
    refine ⟨.int i, rfl, .int i, .ty "int", .type "int", .type "int", true, rfl, .ty "int", .base (.int i), kit_ty (by decide +kernel), true, rfl, ?_⟩
    exact iteT ⟨.int i, rfl, .int i, .ty "bool", .type "int", .type "bool", false, rfl, .ty "bool", .base (.int i), kit_ty (by decide +kernel), false, rfl, q⟩
/-- Log(name), Failure(name) -/
def spNamed (C : Addr) : Sp := fun vs H Q _ => ∃ (a dx : Addr) (z : Str), vs = [.ref a, .str z] ∧ H a = some (.ins C dx []) ∧ z.length ≤ 1000 ∧ nm z = true ∧ ∀ H', Keep1 a H H' → H' a = some (.ins C dx [("name", .str z)]) → Q .non H'
theorem scLogI : FnScope ["self", "name"] ["self", "name"] (defScope sLogI) := ⟨rfl, rfl, rfl, by decide +kernel, rfl, by decide +kernel, by decide +kernel⟩
theorem scFailI : FnScope ["self", "name"] ["self", "name"] (defScope sFailI) := ⟨rfl, rfl, rfl, by decide +kernel, rfl, by decide +kernel, by decide +kernel⟩
theorem named_body {C : Addr} {nm' : String} (HC : HCls K mg nm' C) {vs : List V} {H : Hp} {Q : VK} {E E2 : XK} (h : spNamed C vs H Q E) :
    tDrop (tCall spCheck [] E2 (tCons (tVar 1) tNil)) { nx := fun σ H1 => sFld K (tVar 0) (tVar 1) "name" { nx := fun _ H' => Q .non H', rt := Q } σ H1, rt := Q } (start ["self", "name"] vs) H := by
  obtain ⟨a, dx, z, rfl, ha, zl, hz, q⟩ := h
  refine ⟨.str z, rfl, z, rfl, zl, hz, fun H1 sm => ?_⟩
  refine ⟨.str z, rfl, .ref a, rfl, a, C, dx, [], rfl, sm _ _ ha, HC.c, HC.nn, by decide, ?_⟩
  exact q _ (fun b o n e => by rw [upd_ne n]; exact sm b o e) upd_same
theorem ok_logI {f fCh C : Addr} {fd fdCh : FuncData} {nm' : String} (F : Fun K "__init__" "Log.__init__" sLogI f fd) (HC : HCls K mg nm' C) (FC : Fun K "check_name" "check_name" sCheck fCh fdCh) (bC : Binds K fdCh ["value"] []) (gC : mg "check_name" = some (.ref fCh)) (G : FnOk P w K mg base CX0 3 fCh fdCh ["value"] spCheck) :
    FnOk P w K mg base CX0 4 f fd ["self", "name"] (spNamed C) := by
  refine F.ok scLogI (fun vs H Q E h => ?_) (fun cdv A outer s H vs Q E hr h => ?_)
  · obtain ⟨a, dx, z, rfl, _⟩ := h
    rfl
  · exact ⟨_, pss_cons (ps_expr (pe_call G hr (by rfl) gC FC.kp bC .nil pass0 (pa_cons (pv 1) pa_nil))) (pss_one (ps_fld (pv 0) (pv 1) (by rfl))), named_body HC h⟩
theorem ok_failI {f fCh C : Addr} {fd fdCh : FuncData} {nm' : String} (F : Fun K "__init__" "Failure.__init__" sFailI f fd) (HC : HCls K mg nm' C) (FC : Fun K "check_name" "check_name" sCheck fCh fdCh) (bC : Binds K fdCh ["value"] []) (gC : mg "check_name" = some (.ref fCh)) (G : FnOk P w K mg base CX0 3 fCh fdCh ["value"] spCheck) :
    FnOk P w K mg base CX0 4 f fd ["self", "name"] (spNamed C) := by
  refine F.ok scFailI (fun vs H Q E h => ?_) (fun cdv A outer s H vs Q E hr h => ?_)
  · obtain ⟨a, dx, z, rfl, _⟩ := h
    rfl
  · exact ⟨_, pss_cons (ps_expr (pe_call G hr (by rfl) gC FC.kp bC .nil pass0 (pa_cons (pv 1) pa_nil))) (pss_one (ps_fld (pv 0) (pv 1) (by rfl))), named_body HC h⟩
/-- Choice() -/
def spChoI (C : Addr) : Sp := fun vs H Q _ => ∃ (a dx : Addr), vs = [.ref a] ∧ H a = some (.ins C dx []) ∧ ∀ H', Keep1 a H H' → H' a = some (.ins C dx [("name", .str "choice")]) → Q .non H'
theorem scChoI : FnScope ["self"] ["self"] (defScope sChoI) := ⟨rfl, rfl, rfl, by decide +kernel, rfl, by decide +kernel, by decide +kernel⟩
theorem ok_choI {f C : Addr} {fd : FuncData} {nm' : String} (F : Fun K "__init__" "Choice.__init__" sChoI f fd) (HC : HCls K mg nm' C) : FnOk P w K mg base CX0 1 f fd ["self"] (spChoI C) := by
  refine F.ok scChoI (fun vs H Q E h => ?_) (fun cdv A outer s H vs Q E hr h => ?_)
  · obtain ⟨a, dx, rfl, _⟩ := h
    rfl
  · obtain ⟨a, dx, rfl, ha, q⟩ := h
    refine ⟨_, pss_one (ps_fld (pv 0) pe_str (by rfl)), .ref a, rfl, a, C, dx, [], rfl, ha, HC.c, HC.nn, by decide, ?_⟩
    exact q _ (fun b o n e => by rw [upd_ne n]; exact e) upd_same
/-- Cell(name, size) -/
def spCellI (C : Addr) : Sp := fun vs H Q _ => ∃ (a dx : Addr) (z : Str) (i : Int), vs = [.ref a, .str z, .int i] ∧ H a = some (.ins C dx []) ∧ z.length ≤ 1000 ∧ nm z = true ∧ 2 ≤ i ∧ i ≤ 4 ∧
  ∀ H', Keep1 a H H' → H' a = some (.ins C dx [("name", .str z), ("size", .int i)]) → Q .non H'
theorem scCellI : FnScope ["self", "name", "size"] ["self", "name", "size"] (defScope sCellI) := ⟨rfl, rfl, rfl, by decide +kernel, rfl, by decide +kernel, by decide +kernel⟩
theorem ok_cellI {f fCh fW C : Addr} {fd fdCh fdW : FuncData} {mc : Value} {u2 u4 : Value} (F : FunD K "__init__" "Cell.__init__" (defArgs sCellI) (defBody sCellI) (defScope sCellI) [.int 2] [] f fd) (HC : HCls K mg "Cell" C) (FC : Fun K "check_name" "check_name" sCheck fCh fdCh) (bC : Binds K fdCh ["value"] []) (gC : mg "check_name" = some (.ref fCh)) (G : FnOk P w K mg base CX0 3 fCh fdCh ["value"] spCheck)
    (FW : Fun K "is_whole" "is_whole" sWhole fW fdW) (bW : Binds K fdW ["value"] []) (gW : mg "is_whole" = some (.ref fW)) (GW : FnOk P w K mg base CX0 1 fW fdW ["value"] spWhole)
    (rd : ClX.CRead K C mc) (v2 : ClX.CVal K C mc "LEAST" (.int 2) u2) (v4 : ClX.CVal K C mc "MOST" (.int 4) u4) :
    FnOk P w K mg base CX0 4 f fd ["self", "name", "size"] (spCellI C) := by
  refine F.ok scCellI (fun vs H Q E h => ?_) (fun cdv A outer s H vs Q E hr h => ?_)
  · obtain ⟨a, dx, z, i, rfl, _⟩ := h
    rfl
  · obtain ⟨a, dx, z, i, rfl, ha, zl, hz, i2, i4, q⟩ := h
    refine ⟨_, pss_cons (ps_expr (pe_call G hr (by rfl) gC FC.kp bC .nil pass0 (pa_cons (pv 1) pa_nil)))
      (pss_cons (ps_if (PW.pt (pw_or (pt_not (pt_val (pe_call GW (hr.mono (by decide)) (by rfl) gW FW.kp bW .nil pass0 (pa_cons (pv 2) pa_nil))))
          (pw_or1 (pt_not (pt_chain op_le op_le (ClX.pe_cval (pe_glob (v := .ref C) rfl HC.g rfl)) (pv 2) (ClX.pe_cval (pe_glob (v := .ref C) rfl HC.g rfl)))))))
        (pss_one ps_never) pss_nil)
      (pss_cons (ps_fld (pv 0) (pv 1) (by rfl)) (pss_one (ps_fld (pv 0) (pv 2) (by rfl))))), ?_⟩
    refine ⟨.str z, rfl, z, rfl, zl, hz, fun H1 sm => ?_⟩
    refine ⟨.int i, rfl, i, rfl, true, rfl, ?_⟩
    refine iteF ⟨C, mc, .int 2, _, rfl, rd, v2, .int i, rfl, 2, i, rfl, rfl, _, rfl, ite2 (fun e => ?_) (fun e => absurd (decide_eq_true i2) e)⟩
    refine ⟨C, mc, .int 4, _, rfl, rd, v4, i, 4, rfl, rfl, _, rfl, ite2 (fun e2 => ?_) (fun e2 => ?_)⟩
    · rw [Bool.not_eq_true', decide_eq_true i4] at e2
      cases e2
    · refine ⟨.str z, rfl, .ref a, rfl, a, C, dx, [], rfl, sm _ _ ha, HC.c, HC.nn, by decide, ?_⟩
      refine ⟨.int i, rfl, .ref a, rfl, a, C, dx, [("name", .str z)], rfl, upd_same, HC.c, HC.ns, by show 1 < 1000; decide, ?_⟩
      exact q _ (fun b o n e => by rw [upd_ne n, upd_ne n]; exact sm b o e) upd_same
end
end My
namespace My
open PySem PySem.Spec PyProof.Rows L2
/-! ### handlers as they lie -/
theorem len_app (x y : Str) : (x ++ y).length = x.length + y.length := by
  show (x.cps ++ y.cps).size = x.cps.size + y.cps.size
  simp
structure A4 where
  c : Addr
  l : Addr
  f : Addr
  h : Addr
def A4.at (A : A4) : Nat → Addr
  | 0 => A.c
  | 1 => A.l
  | 2 => A.f
  | _ => A.h
inductive HD where
  | cell (n : Str) (z : Int)
  | log (n : Str)
  | fail (n : Str)
  | cho
  deriving DecidableEq
def HD.ix : HD → Nat
  | .cell _ _ => 0
  | .log _ => 1
  | .fail _ => 2
  | .cho => 3
def HD.nm : HD → Str
  | .cell n _ => n
  | .log n => n
  | .fail n => n
  | .cho => "choice"
def HD.wd : HD → Str
  | .cell _ _ => "cell"
  | .log _ => "log"
  | .fail _ => "failure"
  | .cho => "choice"
def HD.flds : HD → List (Str × V)
  | .cell n z => [("name", .str n), ("size", .int z)]
  | .log n => [("name", .str n)]
  | .fail n => [("name", .str n)]
  | .cho => [("name", .str "choice")]
def IsH (A : A4) (H : Hp) (a : Addr) (k : HD) : Prop := ∃ dx, H a = some (.ins (A.at k.ix) dx k.flds)
/-- what is no handler -/
def NotH (K : PySem.W.Frag) (A : A4) (H : Hp) (y : V) : Prop := ∃ S : String, TyX K H y (.type S) ∧ ∀ i, i < 4 → PySem.W.kitOne K (.type S) (.ref (A.at i)) = some false ∧ PySem.W.notFirst K (A.at i) (.type S) = true
def Other (K : PySem.W.Frag) (A : A4) (H : Hp) (y : V) (k : HD) (r : Bool) : Prop := (∃ b k2, y = .ref b ∧ IsH A H b k2 ∧ r = decide (k = k2)) ∨ (NotH K A H y ∧ r = false)
structure Hand (K : PySem.W.Frag) (mg : Str → Option Value) (A : A4) : Prop where
  cC : HCls K mg "Cell" A.c
  cL : HCls K mg "Log" A.l
  cF : HCls K mg "Failure" A.f
  cH : HCls K mg "Choice" A.h
  dc : ∀ i, i < 4 → PySem.W.findIn K (.ref (A.at i)) "__class__" = some (some (.builtin "object.__class__"))
  mo : ∀ i, i < 4 → PySem.W.mroIn K (A.at i) (.type "object") = some true
  hn : PySem.W.specialIn K (.builtin "object.__class__") "__get__" = some (some (.builtin "getset_descriptor.__get__"))
  tk : PySem.W.takesIn K (.builtin "object.__class__") = some true
  kit : ∀ i j, i < 4 → j < 4 → PySem.W.kitOne K (.ref (A.at i)) (.ref (A.at j)) = some (decide (i = j))
theorem Hand.cls {K : PySem.W.Frag} {mg : Str → Option Value} {A : A4} (S : Hand K mg A) : ∀ k : HD, Cls K (A.at k.ix) ∧ NoAttr K (A.at k.ix) "name" ∧ NoAttr K (A.at k.ix) "size"
  | .cell _ _ => ⟨S.cC.c, S.cC.nn, S.cC.ns⟩
  | .log _ => ⟨S.cL.c, S.cL.nn, S.cL.ns⟩
  | .fail _ => ⟨S.cF.c, S.cF.nn, S.cF.ns⟩
  | .cho => ⟨S.cH.c, S.cH.nn, S.cH.ns⟩
theorem HD.ix_lt : ∀ k : HD, k.ix < 4
  | .cell _ _ => (by decide : 0 < 4)
  | .log _ => (by decide : 1 < 4)
  | .fail _ => (by decide : 2 < 4)
  | .cho => (by decide : 3 < 4)
theorem Hand.ty {K : PySem.W.Frag} {mg : Str → Option Value} {A : A4} (S : Hand K mg A) {H : Hp} {a : Addr} {k : HD} (h : IsH A H a k) : TyX K H (.ref a) (.ref (A.at k.ix)) := by
  obtain ⟨dx, e⟩ := h
  exact .base (.ins e (S.cls k).1 (S.dc _ k.ix_lt) S.hn S.tk (S.mo _ k.ix_lt))
theorem IsH.fun {A : A4} {H : Hp} {a : Addr} {k : HD} (h : IsH A H a k) {H' : Hp} (e : H' a = H a) : IsH A H' a k := by
  obtain ⟨dx, q⟩ := h
  exact ⟨dx, e.trans q⟩
theorem IsH.keep {A : A4} {H H' : Hp} {a : Addr} {k : HD} (h : IsH A H a k) (sm : Same' H H') : IsH A H' a k := by
  obtain ⟨dx, q⟩ := h
  exact ⟨dx, sm _ _ q⟩
abbrev sCellE : Stmt := inClass (topS 30) 4
abbrev sLogE : Stmt := inClass (topS 31) 2
abbrev sFailE : Stmt := inClass (topS 32) 2
abbrev sChoE : Stmt := inClass (topS 33) 2
def spEq (K : PySem.W.Frag) (A : A4) (i : Nat) : Sp := fun vs H Q _ => ∃ (a : Addr) (k : HD) (y : V) (r : Bool), vs = [.ref a, y] ∧ k.ix = i ∧ IsH A H a k ∧ Other K A H y k r ∧ Q (.bl r) H
section
variable {P : Program} {w : World} {K : PySem.W.Frag} {mg : Str → Option Value} {base : Heap} {A4' : A4}
abbrev nEq : List Str := ["self", "other"]
theorem scCellE : FnScope nEq nEq (defScope sCellE) := ⟨rfl, rfl, rfl, by decide +kernel, rfl, by decide +kernel, by decide +kernel⟩
theorem scLogE : FnScope nEq nEq (defScope sLogE) := ⟨rfl, rfl, rfl, by decide +kernel, rfl, by decide +kernel, by decide +kernel⟩
theorem scFailE : FnScope nEq nEq (defScope sFailE) := ⟨rfl, rfl, rfl, by decide +kernel, rfl, by decide +kernel, by decide +kernel⟩
theorem scChoE : FnScope nEq nEq (defScope sChoE) := ⟨rfl, rfl, rfl, by decide +kernel, rfl, by decide +kernel, by decide +kernel⟩
/-- isinstance(other, C), C the class of self -/
theorem other_kit {A : A4} {H : Hp} {y : V} {k : HD} {r : Bool} (S : Hand K mg A) (h : Other K A H y k r) : ∃ (t : Value) (b : Bool), TyX K H y t ∧ PySem.W.kitOne K t (.ref (A.at k.ix)) = some b ∧ (b = true → ∃ c k2, y = .ref c ∧ IsH A H c k2 ∧ k2.ix = k.ix ∧ r = decide (k = k2)) ∧ (b = false → r = false) := by
  rcases h with ⟨c, k2, rfl, h2, e⟩ | ⟨⟨T, ty, kk⟩, e⟩
  · refine ⟨_, _, S.ty h2, S.kit _ _ k2.ix_lt k.ix_lt, fun z => ⟨c, k2, rfl, h2, of_decide_eq_true z, e⟩, fun z => ?_⟩
    rw [e, decide_eq_false]
    intro q
    exact absurd (by rw [q]) (of_decide_eq_false z)
  · exact ⟨_, _, ty, (kk _ k.ix_lt).1, (fun z => nomatch z), fun _ => e⟩
theorem ok_eqCell {A : A4} {f : Addr} {fd : FuncData} (F : Fun K "__eq__" "Cell.__eq__" sCellE f fd) (S : Hand K mg A) (T : Txt mg) : FnOk P w K mg base CX0 1 f fd nEq (spEq K A 0) := by
  refine F.ok scCellE (fun vs H Q E h => ?_) (fun cdv A0 outer s H vs Q E hr h => ?_)
  · obtain ⟨a, k, y, r, rfl, _⟩ := h
    rfl
  · obtain ⟨a, k, y, r, rfl, hk, ha, o, q⟩ := h
    refine ⟨_, pss_one (ps_ret (pe_and (pe_callB call_isi (by rfl) T.isi (by decide +kernel) (pa_cons (pv 1) (pa_cons (pe_glob (v := .ref A.c) rfl S.cC.g rfl) pa_nil)))
      (pe_and (pe_cmpR op_eq (pe_fld (pv 0) (by rfl)) (pe_fld (pv 1) (by rfl)) (nomark _)) (pe_one (pe_cmpR op_eq (pe_fld (pv 0) (by rfl)) (pe_fld (pv 1) (by rfl)) (nomark _)))))), ?_⟩
    obtain ⟨t, b, ty, kt, h1, h2⟩ := other_kit S o
    rw [hk] at kt
    refine ⟨y, rfl, y, .ref A.c, t, .ref A.c, b, rfl, .own _, ty, kt, b, rfl, ?_⟩
    cases b with
    | false => exact iteF (h2 rfl ▸ q)
    | true =>
      obtain ⟨c, k2, rfl, hc, e2, er⟩ := h1 rfl
      obtain ⟨c1, c2, c3⟩ := S.cls k
      cases k with
      | cell n z =>
        cases k2 with
        | cell n2 z2 =>
          obtain ⟨dx, ea⟩ := ha
          obtain ⟨dx2, ec⟩ := hc
          refine iteT ⟨.ref a, rfl, a, _, dx, _, .str n, rfl, ea, c1, c2, rfl, .ref c, rfl, c, _, dx2, _, .str n2, rfl, ec, c1, c2, rfl, rfl, decide (V.str n = V.str n2), rfl, ite2 (fun e => ?_) (fun e => ?_)⟩
          · refine ⟨.ref a, rfl, a, _, dx, _, .int z, rfl, ea, c1, c3, rfl, .ref c, rfl, c, _, dx2, _, .int z2, rfl, ec, c1, c3, rfl, rfl, ?_⟩
            have en : n = n2 := by simpa using e
            have er' : r = decide (V.int z = V.int z2) := by
              rw [er, en]
              simp
            exact er' ▸ q
          · have er' : r = false := by
              have en : n ≠ n2 := by simpa using e
              rw [er]
              simp [en]
            exact er' ▸ q
        | _ => cases e2
      | _ => cases hk
theorem ok_eqLog {A : A4} {f : Addr} {fd : FuncData} (F : Fun K "__eq__" "Log.__eq__" sLogE f fd) (S : Hand K mg A) (T : Txt mg) : FnOk P w K mg base CX0 1 f fd nEq (spEq K A 1) := by
  refine F.ok scLogE (fun vs H Q E h => ?_) (fun cdv A0 outer s H vs Q E hr h => ?_)
  · obtain ⟨a, k, y, r, rfl, _⟩ := h
    rfl
  · obtain ⟨a, k, y, r, rfl, hk, ha, o, q⟩ := h
    refine ⟨_, pss_one (ps_ret (pe_and (pe_callB call_isi (by rfl) T.isi (by decide +kernel) (pa_cons (pv 1) (pa_cons (pe_glob (v := .ref A.l) rfl S.cL.g rfl) pa_nil)))
      (pe_one (pe_cmpR op_eq (pe_fld (pv 0) (by rfl)) (pe_fld (pv 1) (by rfl)) (nomark _))))), ?_⟩
    obtain ⟨t, b, ty, kt, h1, h2⟩ := other_kit S o
    rw [hk] at kt
    refine ⟨y, rfl, y, .ref A.l, t, .ref A.l, b, rfl, .own _, ty, kt, b, rfl, ?_⟩
    cases b with
    | false => exact iteF (h2 rfl ▸ q)
    | true =>
      obtain ⟨c, k2, rfl, hc, e2, er⟩ := h1 rfl
      obtain ⟨c1, c2, c3⟩ := S.cls k
      cases k with
      | log n =>
        cases k2 with
        | log n2 =>
          obtain ⟨dx, ea⟩ := ha
          obtain ⟨dx2, ec⟩ := hc
          have er' : r = decide (V.str n = V.str n2) := by
            rw [er]
            simp
          exact iteT ⟨.ref a, rfl, a, _, dx, _, .str n, rfl, ea, c1, c2, rfl, .ref c, rfl, c, _, dx2, _, .str n2, rfl, ec, c1, c2, rfl, rfl, er' ▸ q⟩
        | _ => cases e2
      | _ => cases hk
theorem ok_eqFail {A : A4} {f : Addr} {fd : FuncData} (F : Fun K "__eq__" "Failure.__eq__" sFailE f fd) (S : Hand K mg A) (T : Txt mg) : FnOk P w K mg base CX0 1 f fd nEq (spEq K A 2) := by
  refine F.ok scFailE (fun vs H Q E h => ?_) (fun cdv A0 outer s H vs Q E hr h => ?_)
  · obtain ⟨a, k, y, r, rfl, _⟩ := h
    rfl
  · obtain ⟨a, k, y, r, rfl, hk, ha, o, q⟩ := h
    refine ⟨_, pss_one (ps_ret (pe_and (pe_callB call_isi (by rfl) T.isi (by decide +kernel) (pa_cons (pv 1) (pa_cons (pe_glob (v := .ref A.f) rfl S.cF.g rfl) pa_nil)))
      (pe_one (pe_cmpR op_eq (pe_fld (pv 0) (by rfl)) (pe_fld (pv 1) (by rfl)) (nomark _))))), ?_⟩
    obtain ⟨t, b, ty, kt, h1, h2⟩ := other_kit S o
    rw [hk] at kt
    refine ⟨y, rfl, y, .ref A.f, t, .ref A.f, b, rfl, .own _, ty, kt, b, rfl, ?_⟩
    cases b with
    | false => exact iteF (h2 rfl ▸ q)
    | true =>
      obtain ⟨c, k2, rfl, hc, e2, er⟩ := h1 rfl
      obtain ⟨c1, c2, c3⟩ := S.cls k
      cases k with
      | fail n =>
        cases k2 with
        | fail n2 =>
          obtain ⟨dx, ea⟩ := ha
          obtain ⟨dx2, ec⟩ := hc
          have er' : r = decide (V.str n = V.str n2) := by
            rw [er]
            simp
          exact iteT ⟨.ref a, rfl, a, _, dx, _, .str n, rfl, ea, c1, c2, rfl, .ref c, rfl, c, _, dx2, _, .str n2, rfl, ec, c1, c2, rfl, rfl, er' ▸ q⟩
        | _ => cases e2
      | _ => cases hk
theorem ok_eqCho {A : A4} {f : Addr} {fd : FuncData} (F : Fun K "__eq__" "Choice.__eq__" sChoE f fd) (S : Hand K mg A) (T : Txt mg) : FnOk P w K mg base CX0 1 f fd nEq (spEq K A 3) := by
  refine F.ok scChoE (fun vs H Q E h => ?_) (fun cdv A0 outer s H vs Q E hr h => ?_)
  · obtain ⟨a, k, y, r, rfl, _⟩ := h
    rfl
  · obtain ⟨a, k, y, r, rfl, hk, ha, o, q⟩ := h
    refine ⟨_, pss_one (ps_ret (pe_callB call_isi (by rfl) T.isi (by decide +kernel) (pa_cons (pv 1) (pa_cons (pe_glob (v := .ref A.h) rfl S.cH.g rfl) pa_nil)))), ?_⟩
    obtain ⟨t, b, ty, kt, h1, h2⟩ := other_kit S o
    rw [hk] at kt
    refine ⟨y, rfl, y, .ref A.h, t, .ref A.h, b, rfl, .own _, ty, kt, ?_⟩
    cases b with
    | false => exact h2 rfl ▸ q
    | true =>
      obtain ⟨c, k2, rfl, hc, e2, er⟩ := h1 rfl
      cases k with
      | cho =>
        cases k2 with
        | cho => exact (show r = true from by rw [er]; rfl) ▸ q
        | _ => cases e2
      | _ => cases hk
end
end My
namespace My
open PySem PySem.Spec PyProof.Rows L2
/-! ### the pen: a list of a list of ints, of how many were taken, of what is left of a great one -/
structure PenAt (H : Hp) (p c : Addr) (ns : List Int) (B : Int) : Prop where
  pen : ∃ b g : Int, H p = some (.lst [.ref c, .int b, .int g]) ∧ 0 ≤ b ∧ b ≤ B ∧ 0 ≤ g
  cells : H c = some (.lst (ns.map V.int))
  few : ns.length ≤ 63
def Off (p : Addr) (H H' : Hp) : Prop := ∀ q o, q ≠ p → H q = some o → H' q = some o
theorem Off.trans {p : Addr} {H1 H2 H3 : Hp} (h : Off p H1 H2) (k : Off p H2 H3) : Off p H1 H3 := fun q o n e => k q o n (h q o n e)
theorem Off.rfl' {p : Addr} {H : Hp} : Off p H H := fun _ _ _ e => e
theorem Off.new {p a : Addr} {H : Hp} {o : HO} (h : H a = none) : Off p H (upd H a o) := fun q _ _ e => by
  rw [upd_ne (ne_of_none e h)]
  exact e
theorem PenAt.ne {H : Hp} {p c : Addr} {ns : List Int} {B : Int} (P : PenAt H p c ns B) : c ≠ p := by
  obtain ⟨b, g, e, _⟩ := P.pen
  intro z
  have y := P.cells
  rw [z, e] at y
  injection y with y
  injection y with y
  cases ns with
  | nil => cases y
  | cons x r => injection y with y1 y2; cases y1
theorem PenAt.more {H : Hp} {p c : Addr} {ns : List Int} {B C : Int} (P : PenAt H p c ns B) (h : B ≤ C) : PenAt H p c ns C := by
  obtain ⟨b, g, e, h1, h2, h3⟩ := P.pen
  exact ⟨⟨b, g, e, h1, by omega, h3⟩, P.cells, P.few⟩
theorem PenAt.keep {H H' : Hp} {p c : Addr} {ns : List Int} {B : Int} (P : PenAt H p c ns B) (h : ∀ q o, H q = some o → H' q = some o) : PenAt H' p c ns B := by
  obtain ⟨b, g, e, h1, h2, h3⟩ := P.pen
  exact ⟨⟨b, g, h _ _ e, h1, h2, h3⟩, h _ _ P.cells, P.few⟩

/-! ### numbers -/
theorem fm {x m : Int} (h : 0 < m) : 0 ≤ x.fmod m ∧ x.fmod m < m := by
  rw [Int.fmod_eq_emod_of_nonneg _ (by omega)]
  exact ⟨Int.emod_nonneg _ (by omega), Int.emod_lt_of_pos _ h⟩
theorem fd0 {x m : Int} (h : 0 < m) (hx : 0 ≤ x) : 0 ≤ x.fdiv m := by
  rw [Int.fdiv_eq_ediv_of_nonneg _ (by omega)]
  exact Int.ediv_nonneg hx (by omega)
theorem mulB {x y a b : Int} (h0 : 0 ≤ x) (h1 : x ≤ a) (k0 : 0 ≤ y) (k1 : y ≤ b) : 0 ≤ x * y ∧ x * y ≤ a * b :=
  ⟨Int.mul_nonneg h0 k0, Int.mul_le_mul h1 k1 k0 (by omega)⟩
theorem nz1 : (2147483549 : Int) ≠ 0 := by decide
theorem nz2 : (2147483629 : Int) ≠ 0 := by decide
theorem nz3 : (2147483587 : Int) ≠ 0 := by decide
theorem natAbs_lt {x : Int} (h0 : 0 ≤ x) (h1 : x < 18446744073709551616) : x.natAbs < 2 ^ 64 := by
  show x.natAbs < 18446744073709551616
  omega
theorem dpInts {K : PySem.W.Frag} {H : Hp} : ∀ ns : List Int, DpAll K H (ns.map V.int) (ns.map PyData.int)
  | [] => .nil
  | _ :: r => .cons (.int _) (dpInts r)
theorem shaped_ints : ∀ ns : List Int, SeqAt.shaped (.list (ns.map PyData.int)) = true
  | [] => rfl
  | _ :: r => shaped_ints r

theorem at_in {xs : List V} {j : Int} (h0 : 0 ≤ j) (h1 : j < (xs.length : Nat)) : ∃ v, v ∈ xs ∧ atI xs j = some v := by
  obtain ⟨k, rfl⟩ : ∃ k : Nat, j = (k : Int) := ⟨j.toNat, by omega⟩
  have hk : k < xs.length := by omega
  exact ⟨xs[k], List.getElem_mem hk, atI_nat (List.getElem?_eq_getElem hk)⟩
/-! ### the draw -/
def spDraw : Sp := fun vs H Q _ => ∃ (p c : Addr) (ns : List Int) (B m : Int), vs = [.ref p, .int m] ∧ PenAt H p c ns B ∧ B ≤ 2000 ∧ 1 ≤ m ∧ m ≤ 1000 ∧
  ∀ (d : Int) (H' : Hp), 0 ≤ d → d < m → PenAt H' p c ns (B + 1) → Off p H H' → Q (.int d) H'
section
variable {P : Program} {w : World} {K : PySem.W.Frag} {mg : Str → Option Value} {base : Heap}
abbrev nDraw : List Str := ["_law_pen_here", "_law_many", "_law_digit", "_law_spot", "_law_cell", "_law_great", "_law_mixed_here"]
theorem scDraw : FnScope nDraw ["_law_pen_here", "_law_many"] (defScope sDraw) := ⟨rfl, rfl, rfl, by decide +kernel, rfl, by decide +kernel, by decide +kernel⟩
theorem tail2 {f : Addr} {cdv : Value} {A : Around} {outer : List Env} {s : Shared} {H0 : Hp} {E : XK} (T : Txt mg) :
    ∃ t, PSs (cxOf CX0 P w K mg base nDraw "_law_draw" (defScope sDraw) f cdv A outer s H0 E).nox ((defBody sDraw).drop 6) t ∧
      ∀ (Q : VK) (nx : L2.St → Hp → Prop) (p : Addr) (m b raw : Int) (y2 y5 y6 : Option V) (H : Hp), 0 ≤ b → b ≤ 2000 → 1 ≤ m → (∀ d : Int, 0 ≤ d → d < m → Q (.int d) H) →
        t { nx := nx, rt := Q } [some (.ref p), some (.int m), y2, some (.int b), some (.int raw), y5, y6] H := by
  refine ⟨_, pss_cons (ps_set (i := 6) scDraw.nd rfl (.inl rfl) (pe_op op_modN (pe_callTy call_int1 (by rfl) T.int (by decide +kernel) (pa_cons (pe_op op_pow
          (pe_op op_add (pe_op op_add (pe_op op_modN (pe_callTy call_int1 (by rfl) T.int (by decide +kernel) (pa_cons (pv 4) pa_nil)) pe_int) (pe_op op_mul pe_int (pv 3))) pe_int) pe_int) pa_nil)) pe_int))
      (pss_cons (ps_set (i := 6) scDraw.nd rfl (.inl rfl) (pe_op op_modN (pe_callTy call_int1 (by rfl) T.int (by decide +kernel) (pa_cons (pe_op op_pow
          (pe_op op_add (pe_op op_add (pe_op op_mul (pv 6) (pe_op op_add (pe_op op_mul pe_int (pv 3)) pe_int)) (pe_op op_mul (pe_op op_mul pe_int (pv 3)) (pv 3))) pe_int) pe_int) pa_nil)) pe_int))
      (pss_one (ps_ret (pe_op op_modN (pe_callTy call_int1 (by rfl) T.int (by decide +kernel) (pa_cons (pe_op op_fdivN (pv 6) pe_int) pa_nil)) (pv 1))))), ?_⟩
  intro Q nx p m b raw y2 y5 y6 H b0 bB hm q
  have f1 := fm (x := raw) (m := 2147483549) (by decide)
  refine ⟨.int raw, rfl, .inl ⟨raw, rfl, raw, _, rfl, rfl, nz1, .int b, rfl, _, b, rfl, rfl, .inl ⟨by decide, by decide⟩, _, _, rfl, rfl, _, _, rfl, rfl, _, 5, rfl, rfl, ⟨by decide, by decide, natAbs_lt (by omega) (by omega)⟩, .inl ⟨_, rfl, _, _, rfl, rfl, nz2, ?_⟩⟩⟩
  obtain ⟨z, hz⟩ : ∃ z : Int, ((raw.fmod 2147483549 + 64743 * b + 5979) ^ (5 : Int).toNat).fmod 2147483629 = z := ⟨_, rfl⟩
  have f2 := fm (x := ((raw.fmod 2147483549 + 64743 * b + 5979) ^ (5 : Int).toNat)) (m := 2147483629) (by decide)
  rw [hz] at f2
  have f3 := mulB (x := z) (y := 2 * b + 739) (a := 2147483629) (b := 4000 + 739) f2.1 (by omega) (by omega) (by omega)
  have f4 := mulB (x := 61287 * b) (y := b) (a := 61287 * 2000) (b := 2000) (by omega) (by omega) b0 bB
  refine ⟨.int z, by rw [← hz]; rfl, .int b, rfl, 2, b, rfl, rfl, .inl ⟨by decide, by decide⟩, _, _, rfl, rfl, z, _, rfl, rfl, .inl ⟨by omega, by omega⟩, .int b, rfl, _, b, rfl, rfl, .inl ⟨by decide, by decide⟩, .int b, rfl, _, b, rfl, rfl, .inl ⟨by omega, by omega⟩, _, _, rfl, rfl, _, _, rfl, rfl, _, 3, rfl, rfl, ⟨by decide, by decide, natAbs_lt (by omega) (by omega)⟩, .inl ⟨_, rfl, _, _, rfl, rfl, nz3, ?_⟩⟩
  obtain ⟨v, hv⟩ : ∃ v : Int, ((z * (2 * b + 739) + 61287 * b * b + 64743) ^ (3 : Int).toNat).fmod 2147483587 = v := ⟨_, rfl⟩
  refine ⟨.int v, by rw [← hv]; rfl, v, 32, rfl, rfl, ⟨by decide, by decide⟩, .inl ⟨_, rfl, .int m, rfl, _, m, rfl, rfl, by omega, ?_⟩⟩
  exact q _ (fm (by omega)).1 (fm (by omega)).2
theorem tail1 {f : Addr} {cdv : Value} {A : Around} {outer : List Env} {s : Shared} {H0 : Hp} {E : XK} (T : Txt mg) :
    ∃ t, PSs (cxOf CX0 P w K mg base nDraw "_law_draw" (defScope sDraw) f cdv A outer s H0 E).nox ((defBody sDraw).drop 5) t ∧
      ∀ (Q : VK) (nx : L2.St → Hp → Prop) (p c : Addr) (ns : List Int) (m b b1 g raw : Int) (y2 y5 y6 : Option V) (H : Hp), H p = some (.lst [.ref c, .int b1, .int g]) → H c = some (.lst (ns.map V.int)) → 0 ≤ b → b ≤ 2000 → 0 ≤ g → 1 ≤ m → m ≤ 1000 →
        (∀ (d : Int) (H' : Hp), 0 ≤ d → d < m → (∃ g' : Int, 0 ≤ g' ∧ H' p = some (.lst [.ref c, .int b1, .int g'])) → Off p H H' → Q (.int d) H') →
        t { nx := nx, rt := Q } [some (.ref p), some (.int m), y2, some (.int b), some (.int raw), y5, y6] H := by
  obtain ⟨t2, h2, q2⟩ := tail2 (P := P) (w := w) (K := K) (base := base) (f := f) (cdv := cdv) (A := A) (outer := outer) (s := s) (H0 := H0) (E := E) T
  refine ⟨_, pss_cons (ps_if (PW.pt (pw_and (pt_cmpR op_lt (pv 3) (pe_callB call_len_seq (by rfl) T.len PySem.boot_len (pa_cons (pe_ix ix_list (pv 0) pe_int (fun _ _ => rfl)) pa_nil)) (nomark _))
            (pw_and1 (pt_cmpR op_ge (pe_callB call_abs (by rfl) T.abs (by decide +kernel) (pa_cons (pv 4) pa_nil)) (pe_op op_pow pe_int pe_int) (nomark _)))))
        (pss_cons (ps_set (i := 5) scDraw.nd rfl (.inl rfl) (pe_op op_add (pe_op op_mul pe_int (pe_op op_sub (pe_callB call_abs (by rfl) T.abs (by decide +kernel) (pa_cons (pv 4) pa_nil)) (pe_op op_pow pe_int pe_int)))
            (pe_callTy call_int1 (by rfl) T.int (by decide +kernel) (pa_cons (pe_cmpR op_lt (pv 4) pe_int (nomark _)) pa_nil))))
        (pss_cons (ps_asg (pe_op op_fdivN (pe_callTy call_int1 (by rfl) T.int (by decide +kernel) (pa_cons (pv 5) pa_nil)) (pv 1)) (pg_sub (pv 0) pe_int set_list))
        (pss_one (ps_ret (pe_op op_modN (pe_callTy call_int1 (by rfl) T.int (by decide +kernel) (pa_cons (pv 5) pa_nil)) (pv 1)))))) pss_nil) h2, ?_⟩
  intro Q nx p c ns m b b1 g raw y2 y5 y6 H hp hc b0 bB g0 hm hm2 q
  have last : t2 { nx := nx, rt := Q } [some (.ref p), some (.int m), y2, some (.int b), some (.int raw), y5, y6] H :=
    q2 Q nx p m b raw y2 y5 y6 H b0 bB hm fun d d0 d1 => q d H d0 d1 ⟨g, g0, hp⟩ Off.rfl'
  refine ⟨.int b, rfl, .ref p, rfl, p, _, 0, .ref c, rfl, rfl, SqL.of hp, rfl, c, _, rfl, .inl (SqL.of hc), _, _, rfl, rfl, _, rfl, ite2 (fun e => ?_) (fun e => iteF last)⟩
  refine ⟨.int raw, rfl, raw, rfl, 10, 18, rfl, rfl, ⟨by decide, by decide, by decide⟩, _, _, rfl, rfl, _, rfl, ite2 (fun e2 => ?_) (fun e2 => last)⟩
  have big := of_decide_eq_true e2
  obtain ⟨r, hr⟩ : ∃ r : Int, (if raw < 0 then -raw else raw) = r := ⟨_, rfl⟩
  obtain ⟨u, hu⟩ : ∃ u : Int, 2 * ((if raw < 0 then -raw else raw) - (10 : Int) ^ (18 : Int).toNat) + (if decide (raw < 0) = true then 1 else 0) = u := ⟨_, rfl⟩
  have u0 : 0 ≤ u := by
    rw [← hu]
    have k : (0 : Int) ≤ if decide (raw < 0) = true then 1 else 0 := by split <;> decide
    omega
  refine ⟨.int raw, rfl, raw, rfl, 10, 18, rfl, rfl, ⟨by decide, by decide, by decide⟩, _, _, rfl, rfl, 2, _, rfl, rfl, .inl ⟨by decide, by decide⟩, .int raw, rfl, raw, 0, rfl, rfl, .inr ⟨_, rfl, _, _, rfl, rfl, ?_⟩⟩
  refine ⟨.int u, by rw [← hu]; rfl, .inl ⟨u, rfl, .int m, rfl, u, m, rfl, rfl, ⟨by omega, by omega⟩, ?_⟩⟩
  refine ⟨.ref p, rfl, p, _, 2, 2, rfl, rfl, hp, rfl, ?_⟩
  refine ⟨.int u, by rw [← hu]; rfl, .inl ⟨u, rfl, .int m, rfl, u, m, rfl, rfl, by omega, ?_⟩⟩
  exact q _ _ (fm (by omega)).1 (fm (by omega)).2 ⟨u.fdiv m, fd0 (by omega) u0, upd_same⟩ fun a o n e => by rw [upd_ne n]; exact e
theorem ok_draw {f : Addr} {fd : FuncData} (F : Fun K "_law_draw" "_law_draw" sDraw f fd) (T : Txt mg) : FnOk P w K mg base CX0 1 f fd ["_law_pen_here", "_law_many"] spDraw := by
  refine F.ok scDraw (fun vs H Q E h => ?_) (fun cdv A outer s H vs Q E hr h => ?_)
  · obtain ⟨p, c, ns, B, m, rfl, _⟩ := h
    rfl
  · obtain ⟨p, c, ns, B, m, rfl, PA0, hB, hm, hm2, q⟩ := h
    obtain ⟨b, g, hp, b0, bB, g0⟩ := PA0.pen
    have hc := PA0.cells
    have few := PA0.few
    have ncp := PA0.ne
    obtain ⟨t1, h1, q1⟩ := tail1 (P := P) (w := w) (K := K) (base := base) (f := f) (cdv := cdv) (A := A) (outer := outer) (s := s) (H0 := H) (E := E) T
    refine ⟨_, pss_cons (ps_if (pt_cmpR op_gt (pe_ix ix_list (pv 0) pe_int (fun _ _ => rfl)) pe_int (nomark _))
        (pss_cons (ps_set (i := 2) scDraw.nd rfl (.inl rfl) (pe_op op_modN (pe_callTy call_int1 (by rfl) T.int (by decide +kernel) (pa_cons (pe_ix ix_list (pv 0) pe_int (fun _ _ => rfl)) pa_nil)) (pv 1)))
        (pss_cons (ps_asg (pe_op op_fdivN (pe_callTy call_int1 (by rfl) T.int (by decide +kernel) (pa_cons (pe_ix ix_list (pv 0) pe_int (fun _ _ => rfl)) pa_nil)) (pv 1)) (pg_sub (pv 0) pe_int set_list))
        (pss_one (ps_ret (pv 2))))) pss_nil)
      (pss_cons (ps_set (i := 3) scDraw.nd rfl (.inl rfl) (pe_ix ix_list (pv 0) pe_int (fun _ _ => rfl)))
      (pss_cons (ps_asg (pe_op op_add (pv 3) pe_int) (pg_sub (pv 0) pe_int set_list))
      (pss_cons (ps_set (i := 4) scDraw.nd rfl (.inl rfl) (pe_op op_add (pe_op op_mul pe_int (pv 3)) pe_int))
      (pss_cons (ps_if (pt_cmpR (op_neD hr.units) (pe_ix ix_list (pv 0) pe_int (fun _ _ => rfl)) (pe_lst pa_nil) (nomark _))
        (pss_one (ps_set (i := 4) scDraw.nd rfl (.inl rfl) (pe_ix ix_list (pe_ix ix_list (pv 0) pe_int (fun _ _ => rfl))
          (pe_op op_modN (pe_callTy call_int1 (by rfl) T.int (by decide +kernel) (pa_cons (pv 3) pa_nil)) (pe_callB call_len_seq (by rfl) T.len PySem.boot_len (pa_cons (pe_ix ix_list (pv 0) pe_int (fun _ _ => rfl)) pa_nil))) (fun _ _ => rfl)))) pss_nil) h1)))), ?_⟩
    -- if pen[2] > 0
    refine ⟨.ref p, rfl, p, _, 2, .int g, rfl, rfl, SqL.of hp, rfl, g, 0, rfl, rfl, _, rfl, ite2 (fun e => ?_) (fun e => ?_)⟩
    · refine ⟨.ref p, rfl, p, _, 2, .int g, rfl, rfl, SqL.of hp, rfl, .inl ⟨_, rfl, .int m, rfl, g, m, rfl, rfl, by omega, ?_⟩⟩
      refine ⟨.ref p, rfl, p, _, 2, .int g, rfl, rfl, SqL.of hp, rfl, .inl ⟨_, rfl, .int m, rfl, g, m, rfl, rfl, ⟨by omega, by omega⟩, ?_⟩⟩
      refine ⟨.ref p, rfl, p, _, 2, 2, rfl, rfl, hp, rfl, ?_⟩
      refine ⟨_, rfl, q (g.fmod m) _ (fm (by omega)).1 (fm (by omega)).2 ⟨⟨b, g.fdiv m, upd_same, b0, by omega, fd0 (by omega) g0⟩, by rw [upd_ne ncp]; exact hc, few⟩ fun a o n e => by rw [upd_ne n]; exact e⟩
    · -- begun = pen[1]; pen[1] = begun + 1; raw = ..
      refine ⟨.ref p, rfl, p, _, 1, .int b, rfl, rfl, SqL.of hp, rfl, ?_⟩
      refine ⟨_, rfl, b, 1, rfl, rfl, .ref p, rfl, p, _, 1, 1, rfl, rfl, hp, rfl, ?_⟩
      refine ⟨_, rfl, 45489, b, rfl, rfl, .inl ⟨by decide, by decide⟩, _, _, rfl, rfl, ?_⟩
      obtain ⟨H1, eH⟩ : ∃ H1 : Hp, upd H p (.lst [.ref c, .int (b + 1), .int g]) = H1 := ⟨_, rfl⟩
      have hp1 : H1 p = some (.lst [.ref c, .int (b + 1), .int g]) := by rw [← eH, upd_same]
      have hc1 : H1 c = some (.lst (ns.map V.int)) := by rw [← eH, upd_ne ncp]; exact hc
      have off1 : Off p H H1 := fun a o n e => by rw [← eH, upd_ne n]; exact e
      have eH' : upd H p (.lst (([.ref c, .int b, .int g] : List V).set 1 (.int (b + 1)))) = H1 := eH
      rw [eH']
      clear eH eH'
      -- if pen[0] != []
      refine ⟨.ref p, rfl, p, _, 0, .ref c, rfl, rfl, SqL.of hp1, rfl, Nat.zero_le _, fun l hl => ?_⟩
      have npl : p ≠ l := ne_of_none hp1 hl
      have ncl : c ≠ l := ne_of_none hc1 hl
      have hp2 : (upd H1 l (.lst [])) p = some (.lst [.ref c, .int (b + 1), .int g]) := by rw [upd_ne npl]; exact hp1
      have hc2 : (upd H1 l (.lst [])) c = some (.lst (ns.map V.int)) := by rw [upd_ne ncl]; exact hc1
      have off2 : Off p H (upd H1 l (.lst [])) := off1.trans (Off.new hl)
      refine ⟨.list (ns.map PyData.int), .list [], .lst (SqL.of hc2) (dpInts ns), .lst (SqL.of upd_same) .nil, shaped_ints ns, rfl, _, rfl, ?_⟩
      have last : ∀ (raw : Int) (y2 y5 y6 : Option V) (nx : L2.St → Hp → Prop), t1 { nx := nx, rt := Q } [some (.ref p), some (.int m), y2, some (.int b), some (.int raw), y5, y6] (upd H1 l (.lst [])) := by
        intro raw y2 y5 y6 nx
        refine q1 Q nx p c ns m b (b + 1) g raw y2 y5 y6 _ hp2 hc2 b0 (by omega) g0 hm hm2 fun d H' d0 d1 z off => ?_
        obtain ⟨g', z0, e1⟩ := z
        exact q d H' d0 d1 ⟨⟨b + 1, g', e1, by omega, by omega, z0⟩, off c _ ncp hc2, few⟩ (off2.trans off)
      cases ns with
      | nil => exact iteF (last _ _ _ _ _)
      | cons x r =>
        have lz : ((x :: r).map V.int).length = r.length + 1 := by rw [List.length_map]; rfl
        have lp : (0 : Int) < (((x :: r).map V.int).length : Nat) := by rw [lz]; omega
        obtain ⟨j, ej⟩ : ∃ j : Int, b.fmod (((x :: r).map V.int).length : Nat) = j := ⟨_, rfl⟩
        have j0 := (fm (x := b) lp).1
        have j1 := (fm (x := b) lp).2
        rw [ej] at j0 j1
        obtain ⟨v, hv, at1⟩ := at_in j0 j1
        obtain ⟨y, _, rfl⟩ := List.mem_map.mp hv
        refine iteT ⟨.ref p, rfl, p, _, 0, .ref c, rfl, rfl, SqL.of hp2, rfl, .int b, rfl, .inl ⟨b, rfl, .ref p, rfl, p, _, 0, .ref c, rfl, rfl, SqL.of hp2, rfl, c, _, rfl, .inl (SqL.of hc2), b, _, rfl, rfl, by omega, c, _, _, _, rfl, rfl, SqL.of hc2, (by rw [ej]; exact at1), ?_⟩⟩
        exact last _ _ _ _ _
end
/-! ### the pen is made -/
theorem cut63 {α : Type} (xs : List V) (h : xs.length ≤ 63) : cutV xs none (some 63) = xs := by
  unfold cutV
  rw [show HT.sIx xs.length 0 none = 0 from rfl, show HT.sIx xs.length xs.length (some 63) = min 63 xs.length from HT.sIx_nat xs.length xs.length 63, List.drop_zero, Nat.min_eq_right h, Nat.sub_zero]
  exact List.take_length
def spPen (K : PySem.W.Frag) : Sp := fun vs H Q _ => ∃ (a : Addr) (ns : List Int), vs = [.ref a] ∧ SqL K H a (ns.map V.int) ∧ ns.length ≤ 63 ∧ ∀ (p c : Addr) (H' : Hp), Same' H H' → PenAt H' p c ns 0 → Q (.ref p) H'
def Src (H : Hp) (p : Addr) (s : V) (src : List V) : Prop := (∃ l, s = .ref l ∧ l ≠ p ∧ H l = some (.lst src)) ∨ (∃ z : Str, s = .str z ∧ src = z.cps.toList.map (fun c => V.str ⟨#[c]⟩))
def spPick : Sp := fun vs H Q _ => ∃ (p c : Addr) (ns : List Int) (B : Int) (s : V) (src : List V), vs = [.ref p, s] ∧ PenAt H p c ns B ∧ B ≤ 2000 ∧ Src H p s src ∧ 1 ≤ src.length ∧ src.length ≤ 1000 ∧
  ∀ (v : V) (H' : Hp), v ∈ src → PenAt H' p c ns (B + 1) → Off p H H' → Q v H'
section
variable {P : Program} {w : World} {K : PySem.W.Frag} {mg : Str → Option Value} {base : Heap}
theorem scPen : FnScope ["_law_script"] ["_law_script"] (defScope sPen) := ⟨rfl, rfl, rfl, by decide +kernel, rfl, by decide +kernel, by decide +kernel⟩
theorem ok_pen {f : Addr} {fd : FuncData} (F : Fun K "_law_pen" "_law_pen" sPen f fd) (T : Txt mg) : FnOk P w K mg base CX0 1 f fd ["_law_script"] (spPen K) := by
  refine F.ok scPen (fun vs H Q E h => ?_) (fun cdv A outer s H vs Q E hr h => ?_)
  · obtain ⟨a, ns, rfl, _⟩ := h
    rfl
  · obtain ⟨a, ns, rfl, hS, few, q⟩ := h
    refine ⟨_, pss_one (ps_ret (pe_lst (pa_cons (pe_callTy call_list_of (by rfl) T.list (by decide +kernel) (pa_cons (pe_slice sl_list (pv 0) po_none (po_some pe_int)) pa_nil)) (pa_cons pe_int (pa_cons pe_int pa_nil))))), ?_⟩
    refine ⟨.ref a, rfl, 63, rfl, a, _, rfl, hS, fun u hu => ?_⟩
    rw [cut63 (α := Unit) _ (by rw [List.length_map]; exact few)]
    refine ⟨u, _, rfl, .inl (SqL.of upd_same), fun c hc => ⟨by show 3 ≤ sizeLine; decide, fun p hp => ?_⟩⟩
    have ncp : c ≠ p := fun z => by
      rw [← z, upd_same] at hp
      cases hp
    refine q p c _ (fun b o e => ?_) ⟨⟨0, 0, upd_same, Int.le_refl _, Int.le_refl _, Int.le_refl _⟩, by rw [upd_ne ncp, upd_same], few⟩
    have e1 : (upd H u (.lst (ns.map V.int))) b = some o := by
      rw [upd_ne (ne_of_none e hu)]
      exact e
    have e2 : (upd (upd H u (.lst (ns.map V.int))) c (.lst (ns.map V.int))) b = some o := by
      rw [upd_ne (ne_of_none e1 hc)]
      exact e1
    rw [upd_ne (ne_of_none e2 hp)]
    exact e2
theorem scPick : FnScope ["_law_pen_here", "_law_some"] ["_law_pen_here", "_law_some"] (defScope sPick) := ⟨rfl, rfl, rfl, by decide +kernel, rfl, by decide +kernel, by decide +kernel⟩
theorem ok_pick {f fD : Addr} {fd fdD : FuncData} (F : Fun K "_law_pick" "_law_pick" sPick f fd) (T : Txt mg) (FD : Fun K "_law_draw" "_law_draw" sDraw fD fdD) (bD : Binds K fdD ["_law_pen_here", "_law_many"] []) (gD : mg "_law_draw" = some (.ref fD))
    (G : FnOk P w K mg base CX0 1 fD fdD ["_law_pen_here", "_law_many"] spDraw) : FnOk P w K mg base CX0 2 f fd ["_law_pen_here", "_law_some"] spPick := by
  refine F.ok scPick (fun vs H Q E h => ?_) (fun cdv A outer s H vs Q E hr h => ?_)
  · obtain ⟨p, c, ns, B, s, src, rfl, _⟩ := h
    rfl
  · obtain ⟨p, c, ns, B, x, src, rfl, PA0, hB, hs, n1, n2, q⟩ := h
    refine ⟨_, pss_one (ps_ret (pe_ix ix_seq (pv 1) (pe_call G hr (by rfl) gD FD.kp bD .nil pass0 (pa_cons (pv 0) (pa_cons (pe_callB (CallR.or call_len_seq call_len_str) (by rfl) T.len PySem.boot_len (pa_cons (pv 1) pa_nil)) pa_nil))) (fun _ _ => rfl))), ?_⟩
    refine ⟨x, rfl, .ref p, rfl, x, rfl, ?_⟩
    have fin : ∀ (d : Int), 0 ≤ d → d < (src.length : Nat) → ∃ v, v ∈ src ∧ atI src d = some v := fun d h0 h1 => at_in h0 h1
    rcases hs with ⟨l, rfl, nlp, hl⟩ | ⟨z, rfl, rfl⟩
    · refine .inl ⟨l, src, rfl, .inl (SqL.of hl), ?_⟩
      refine ⟨p, c, ns, B, _, rfl, PA0, hB, by omega, by omega, fun d H' d0 d1 PA1 off => ?_⟩
      obtain ⟨v, hv, at1⟩ := fin d d0 d1
      exact .inl ⟨l, src, d, v, rfl, rfl, SqL.of (off l _ nlp hl), at1, q v H' hv PA1 off⟩
    · rw [List.length_map] at n1 n2
      have ez : z.cps.toList.length = z.length := Array.length_toList
      have zs : z.length < sizeLine := small1000 (by omega)
      refine .inr ⟨z, rfl, Nat.le_of_lt zs, ?_⟩
      refine ⟨p, c, ns, B, _, rfl, PA0, hB, by omega, by omega, fun d H' d0 d1 PA1 off => ?_⟩
      have d1' : d < (z.cps.toList.length : Nat) := by rw [ez]; exact d1
      obtain ⟨k, rfl⟩ : ∃ k : Nat, d = (k : Int) := ⟨d.toNat, by omega⟩
      have hk : k < z.cps.toList.length := by omega
      refine .inr (.inr ⟨z, _, z.cps.toList[k], rfl, rfl, Nat.le_of_lt zs, atI_nat (List.getElem?_eq_getElem hk), ?_⟩)
      exact q _ H' (List.mem_map.mpr ⟨_, List.getElem_mem hk, rfl⟩) PA1 off
end
end My
namespace My
open PySem PySem.Spec PyProof.Rows L2
section
variable {X : Cx}
variable {CX : CXT} {k : Nat} {f : Addr} {fd : FuncData} {ps ks : List Str} {sp : Sp} {E : XK} {x : Str} {p pos : Pos} {kws : List Keyword} {tk : TA} {g : List Value → List Value → List Value} {gV : List V → List V → List V}
/-- f(k = v), keywords alone -/
theorem pe_callKw (F : FnOk X.prog X.w X.K X.mg X.base CX k f fd ps sp) (hr : Room k X.A) (hg : Gl X x) (hm : X.mg x = some (.ref f)) (hk : PySem.W.keepIn X.K (.ref f) = true) (hb : KBinds X.K fd ps ks g gV) (hx : Passes CX X E) (hkw : PK X kws tk)
    (hall : (backToKw pos (keywordEach kws X.env)).all (·.1.isSome) = true := by rfl) (hks : (backToKw pos (keywordEach kws X.env)).filterMap (·.1) = ks := by rfl) (hdb : (x == ("__debug__" : Str)) = false := by decide)
    (hpl : ((backTo pos (starEach [] X.env)).any (·.1) || (backToKw pos (keywordEach kws X.env)).any (·.1.isNone)) = false := by rfl) : PE X (.Call (.Name x p) [] kws pos) (tCallK sp gV E tNil tk) := by
  constructor
  intro pins s σ H Q I h
  refine wpAny_Call_Name_kw (ld_glob I hg hm (PySem.W.callWith_KW0 (h₀ := X.base) I.ok.mod.kin hk hall (thn (hkw.run pos pins s σ H _ I h) ?_) hpl) hdb)
  intro ws s2 hz
  obtain ⟨zs, H2, I2, rz, q2⟩ := hz
  refine ⟨I2.kIn, ?_⟩
  rw [hks]
  exact run_fnk (us := []) (vs := []) F hr hb hx I2 .nil rz q2
end
/-- one parameter, passed by its name -/
abbrev kwG {α : Type} (us ws : List α) : List α := us ++ us ++ ws
theorem kwRel {vs : List V} {us : List Value} {zs : List V} {ws : List Value} (h : Vals vs us) (k : Vals zs ws) : Vals (kwG vs zs) (kwG us ws) := by
  have app : ∀ {a : List V} {b : List Value} {c : List V} {d : List Value}, Vals a b → Vals c d → Vals (a ++ c) (b ++ d) := by
    intro a b c d h1 h2
    induction h1 with
    | nil => exact h2
    | cons r _ ih => exact .cons r ih
  exact app (app h h) k
theorem kwOne {K : PySem.W.Frag} {nm qual y : Str} {st : Stmt} {f : Addr} {fd : FuncData} (F : Fun K nm qual st f fd)
    (h : ∀ (kV doc pm : Value) (an : Option Addr) (cdv ct w : Value), bindArgs (PySem.W.fnOf nm qual (defArgs st) (defBody st) (defScope st) .none kV doc pm an cdv ct) ⟨[], [(y, w)]⟩ = pure [(y, w)]) : KBinds K fd [y] [y] kwG kwG := by
  obtain ⟨oc, od, kV, doc, pm, an, cdv, ct, osl, rfl, lk, hcd⟩ := F.ex
  refine ⟨fun s us ws _ hl => ?_, kwRel⟩
  match us, ws, hl with
  | [], [w], _ => exact .of_eq (h kV doc pm an cdv ct w)
  | [], [], hl => exact absurd hl (by simp)
  | [], _ :: _ :: _, hl => exact absurd hl (by simp)
  | _ :: _, _, hl =>
    simp at hl
end My
namespace My
open PySem PySem.Spec PyProof.Rows L2
/-! o.m(e, ..) and o.m(k = e), the class of o known where it is read; C.m(k = e), m a classmethod -/
def tMethA (m : Str) (f : Addr) (K : PySem.W.Frag) (sp : Sp) (dvs : List V) (E : XK) (ta : TE) (t : TA) : TE := fun σ H Q => ta σ H fun x H1 => ∃ a C dx fs, x = .ref a ∧ H1 a = some (.ins C dx fs) ∧ Cls K C ∧ Meth K C m f ∧ fs.lookup m = none ∧
  t σ H1 fun vs H2 => sp (x :: (vs ++ dvs)) H2 Q E
def tMethAK (m : Str) (f : Addr) (K : PySem.W.Frag) (sp : Sp) (gV : List V → List V → List V) (E : XK) (ta : TE) (tk : TA) : TE := fun σ H Q => ta σ H fun x H1 => ∃ a C dx fs, x = .ref a ∧ H1 a = some (.ins C dx fs) ∧ Cls K C ∧ Meth K C m f ∧ fs.lookup m = none ∧
  tk σ H1 fun zs H2 => sp (gV [x] zs) H2 Q E
def tCMethK (C : Addr) (sp : Sp) (gV : List V → List V → List V) (E : XK) (ta : TE) (tk : TA) : TE := fun σ H Q => ta σ H fun x H1 => x = .ref C ∧ tk σ H1 fun zs H2 => sp (gV [.ref C] zs) H2 Q E
section
variable {X : Cx} {CX : CXT} {k : Nat} {f C p q : Addr} {mc : Value} {fd : FuncData} {ps ks : List Str} {ds : List Value} {dvs : List V} {sp : Sp} {E : XK} {m : Str} {pos apos : Pos} {o e : Expr} {es : List Expr} {kws : List Keyword} {ta : TE} {t tk : TA} {g : List Value → List Value → List Value} {gV : List V → List V → List V}
theorem pe_methA {pl : Sem Bool} (he : PE X o ta) (F : FnOk X.prog X.w X.K X.mg X.base CX k f fd ps sp) (hr : Room k X.A) (hb : Binds X.K fd ps ds) (hd : Vals dvs ds) (hx : Passes CX X E) (ha : PA X (e :: es) t)
    (hst : starEach (e :: es) X.env = (false, eval e X.env) :: starEach es X.env := by rfl) (hpl : (backTo pos (starEach es X.env)).any (·.1) = false := by rfl)
    (ht : eval (.Call (.Attribute o m apos) (e :: es) [] pos) X.env = (do
      let ov ← eval o X.env
      standAt apos.atName
      let (f, first) ← holding [ov] (getMethod ov m pl)
      callWith pos f first (backTo pos (starEach (e :: es) X.env)) (backToKw pos (keywordEach [] X.env))) := by rfl) :
    PE X (.Call (.Attribute o m apos) (e :: es) [] pos) (tMethA m f X.K sp dvs E ta t) := by
  refine ⟨fun pins s σ H Q I h => ?_⟩
  refine PySem.W.methodCall_KW (pl := pl) (thn (he.run pins s σ H _ I h) fun u s1 ⟨x, H1, I1, rx, a, C, dx, fs, ex, ea, c, hm, l, q⟩ => ?_) ht
  subst ex
  obtain rfl : u = Value.ref a := rx
  refine getmeth_ok I1 ea c hm l ?_
  refine PySem.W.callWith_K (first := [.ref a]) (h₀ := X.base) I.ok.mod.kin hm.kp (thn (ha.run pos pins s1 σ H1 _ I1 q) fun us s2 ⟨vs, H2, I2, r, q2⟩ => ⟨I2.kIn, ?_⟩) hst hpl
  exact run_fn (us := .ref a :: us) (vs := .ref a :: vs) F hr hb hd hx I2 (.cons rfl r) q2
theorem pe_methAK {pl : Sem Bool} (he : PE X o ta) (F : FnOk X.prog X.w X.K X.mg X.base CX k f fd ps sp) (hr : Room k X.A) (hb : KBinds X.K fd ps ks g gV) (hx : Passes CX X E) (hkw : PK X kws tk)
    (hall : (backToKw pos (keywordEach kws X.env)).all (·.1.isSome) = true := by rfl) (hks : (backToKw pos (keywordEach kws X.env)).filterMap (·.1) = ks := by rfl)
    (hpl : ((backTo pos (starEach [] X.env)).any (·.1) || (backToKw pos (keywordEach kws X.env)).any (·.1.isNone)) = false := by rfl)
    (ht : eval (.Call (.Attribute o m apos) [] kws pos) X.env = (do
      let ov ← eval o X.env
      standAt apos.atName
      let (f, first) ← holding [ov] (getMethod ov m pl)
      callWith pos f first (backTo pos (starEach [] X.env)) (backToKw pos (keywordEach kws X.env))) := by rfl) :
    PE X (.Call (.Attribute o m apos) [] kws pos) (tMethAK m f X.K sp gV E ta tk) := by
  refine ⟨fun pins s σ H Q I h => ?_⟩
  refine PySem.W.methodCall_KW (pl := pl) (thn (he.run pins s σ H _ I h) fun u s1 ⟨x, H1, I1, rx, a, C, dx, fs, ex, ea, c, hm, l, q⟩ => ?_) ht
  subst ex
  obtain rfl : u = Value.ref a := rx
  refine getmeth_ok I1 ea c hm l ?_
  refine PySem.W.callWith_KW0 (first := [.ref a]) (h₀ := X.base) I.ok.mod.kin hm.kp hall (thn (hkw.run pos pins s1 σ H1 _ I1 q) ?_) hpl
  intro ws s2 hz
  obtain ⟨zs, H2, I2, rz, q2⟩ := hz
  refine ⟨I2.kIn, ?_⟩
  rw [hks]
  exact run_fnk (us := [.ref a]) (vs := [.ref a]) F hr hb hx I2 (.cons rfl .nil) rz q2
theorem pe_cmethK {pl : Sem Bool} (he : PE X o ta) (r : ClX.CRead X.K C mc) (c : ClX.CMet X.K C mc m p q) (F : FnOk X.prog X.w X.K X.mg X.base CX k q fd ps sp) (hr : Room k X.A) (hb : KBinds X.K fd ps ks g gV) (hx : Passes CX X E) (hkw : PK X kws tk)
    (hall : (backToKw pos (keywordEach kws X.env)).all (·.1.isSome) = true := by rfl) (hks : (backToKw pos (keywordEach kws X.env)).filterMap (·.1) = ks := by rfl)
    (hpl : ((backTo pos (starEach [] X.env)).any (·.1) || (backToKw pos (keywordEach kws X.env)).any (·.1.isNone)) = false := by rfl)
    (ht : eval (.Call (.Attribute o m apos) [] kws pos) X.env = (do
      let ov ← eval o X.env
      standAt apos.atName
      let (f, first) ← holding [ov] (getMethod ov m pl)
      callWith pos f first (backTo pos (starEach [] X.env)) (backToKw pos (keywordEach kws X.env))) := by rfl) :
    PE X (.Call (.Attribute o m apos) [] kws pos) (tCMethK C sp gV E ta tk) := by
  refine ⟨fun pins s σ H Q I h => ?_⟩
  refine PySem.W.methodCall_KW (pl := pl) (thn (he.run pins s σ H _ I h) fun u s1 ⟨x, H1, I1, rx, ex, z⟩ => ?_) ht
  subst ex
  obtain rfl : u = Value.ref C := rx
  refine ClX.getmethcm_ok I1 r c fun s2 I2 => ?_
  refine PySem.W.callWith_of hpl (PySem.W.keeps_M (K := X.K) (f := q) (self := .ref C) (q := s1.heap.objs.size) c.fi) (evalArgs_kw2_nil hall (thn (hkw.run pos _ s2 σ H1 _ I2 z) ?_))
  intro ws s3 hz
  obtain ⟨zs, H2, I3, rz, q2⟩ := hz
  refine ⟨⟨ClX.pin_at I3, I3.kIn⟩, ?_⟩
  rw [hks]
  have hl : (g [.ref C] ws).length = ps.length := by
    have r2 := hb.rel (vs := [.ref C]) (us := [.ref C]) (.cons rfl .nil) rz
    rw [← r2.length]
    exact F.len _ _ _ _ q2
  have z2 : wpAny (model X.prog X.w) X.A (call (.ref s1.heap.objs.size) [] (ks.zip ws)) (EP X ((s1.heap.objs.size, PySem.W.methodObj (.ref q) (.ref C)) :: pins) σ Q) X.xe s3 := by
    refine wpAny_call (PySem.W.method_call (ClX.pin_at I3) ?_)
    refine codeAny_mono (F.run X.A X.stack s3 H2 ⟨[.ref C], ks.zip ws⟩ (g [.ref C] ws) (gV [.ref C] zs) Q E hr I3.env0 (hb.to s3 [.ref C] ws I3.kIn hl) (hb.rel (.cons rfl .nil) rz) q2) fun r s' hq => ?_
    cases r with
    | error e => exact hx _ σ H2 s3 e s' I3 hq
    | ok fl =>
      cases fl with
      | ret u => exact I3.after hq
      | next => exact False.elim hq
      | brk => exact False.elim hq
      | cont => exact False.elim hq
  exact thn z2 fun _ _ y => ClX.unpinE y
end
end My
namespace My
open PySem PySem.Spec PyProof.Rows L2
/-! ### which meet -/
structure Bases (K : PySem.W.Frag) (mg : Str → Option Value) (A : A4) (bN bK bT bH : Addr) : Prop where
  gN : mg "Named" = some (.ref bN)
  gK : mg "Keeping" = some (.ref bK)
  gT : mg "Turning" = some (.ref bT)
  gH : mg "Handler" = some (.ref bH)
  kK : ∀ i, i < 4 → PySem.W.kitOne K (.ref (A.at i)) (.ref bK) = some (decide (i < 2))
  kT : ∀ i, i < 4 → PySem.W.kitOne K (.ref (A.at i)) (.ref bT) = some (decide (2 ≤ i))
  kH : ∀ i, i < 4 → PySem.W.kitOne K (.ref (A.at i)) (.ref bH) = some true
  oK : ∀ T ∈ ["NoneType", "bool", "int", "str", "list", "tuple", "dict"], PySem.W.kitOne K (.type T) (.ref bK) = some false
  oF : ∀ T ∈ ["NoneType", "bool", "int", "str", "list", "tuple", "dict"], PySem.W.kitOne K (.type T) (.ref A.f) = some false
  oT : ∀ T ∈ ["NoneType", "bool", "int", "str", "list", "tuple", "dict"], PySem.W.kitOne K (.type T) (.ref bT) = some false
  oC : ∀ T ∈ ["NoneType", "bool", "int", "str", "list", "tuple", "dict"], PySem.W.kitOne K (.type T) (.ref A.h) = some false
/-- of what kind a value is: 0 to 3 the handlers, 4 what is none -/
structure Knd (K : PySem.W.Frag) (A : A4) (bK bT : Addr) (H : Hp) (x : V) (i : Nat) : Prop where
  ex : ∃ t, TyX K H x t ∧ PySem.W.kitOne K t (.ref bK) = some (decide (i < 2)) ∧ PySem.W.kitOne K t (.ref bT) = some (decide (i = 2) || decide (i = 3)) ∧ PySem.W.kitOne K t (.ref A.f) = some (decide (i = 2)) ∧ PySem.W.kitOne K t (.ref A.h) = some (decide (i = 3))
def oneWay (i j : Nat) : Bool := if decide (i < 2) = true then (decide (j = 2) || decide (j = 3)) else (decide (i = 2) && decide (j = 3))
def meetB (i j : Nat) : Bool := oneWay i j || oneWay j i
def sortN (i : Nat) : Nat := if i = 3 then 2 else if i = 2 then 1 else 0
theorem meet_sort : ∀ i, i < 4 → ∀ j, j < 4 → meetB i j = decide (sortN i ≠ sortN j) := by decide +kernel
theorem meet_odd : ∀ i, i < 4 → meetB i 4 = false := by decide +kernel
theorem meet_self : ∀ i, i < 4 → meetB i i = false := by decide +kernel
theorem knd_h {K : PySem.W.Frag} {mg : Str → Option Value} {A : A4} {bN bK bT bH : Addr} (S : Hand K mg A) (Ba : Bases K mg A bN bK bT bH) {H : Hp} {a : Addr} {k : HD} (h : IsH A H a k) : Knd K A bK bT H (.ref a) k.ix := by
  have il := k.ix_lt
  refine ⟨_, S.ty h, Ba.kK _ il, ?_, S.kit _ 2 il (by decide), S.kit _ 3 il (by decide)⟩
  rw [Ba.kT _ il]
  generalize k.ix = i at il
  revert i
  decide
theorem knd_o {K : PySem.W.Frag} {mg : Str → Option Value} {A : A4} {bN bK bT bH : Addr} (Ba : Bases K mg A bN bK bT bH) {H : Hp} {x : V} {T : String} (h : TyX K H x (.type T)) (m : T ∈ ["NoneType", "bool", "int", "str", "list", "tuple", "dict"]) : Knd K A bK bT H x 4 :=
  ⟨_, h, Ba.oK T m, Ba.oT T m, Ba.oF T m, Ba.oC T m⟩
def spOneWay (K : PySem.W.Frag) (A : A4) (bK bT : Addr) : Sp := fun vs H Q _ => ∃ (x y : V) (i j : Nat), vs = [x, y] ∧ Knd K A bK bT H x i ∧ Knd K A bK bT H y j ∧ Q (.bl (oneWay i j)) H
def spMeets (K : PySem.W.Frag) (A : A4) (bK bT : Addr) : Sp := fun vs H Q _ => ∃ (x y : V) (i j : Nat), vs = [x, y] ∧ Knd K A bK bT H x i ∧ Knd K A bK bT H y j ∧ Q (.bl (meetB i j)) H
abbrev sMeets : Stmt := inClass (topS 26) 1
section
variable {P : Program} {w : World} {K : PySem.W.Frag} {mg : Str → Option Value} {base : Heap}
theorem scOneWay : FnScope ["one", "other"] ["one", "other"] (defScope sMeet1) := ⟨rfl, rfl, rfl, by decide +kernel, rfl, by decide +kernel, by decide +kernel⟩
theorem scMeets : FnScope ["self", "other"] ["self", "other"] (defScope sMeets) := ⟨rfl, rfl, rfl, by decide +kernel, rfl, by decide +kernel, by decide +kernel⟩
theorem ok_oneWay {A : A4} {f bN bK bT bH : Addr} {fd : FuncData} (F : Fun K "_meet_one_way" "_meet_one_way" sMeet1 f fd) (S : Hand K mg A) (T : Txt mg) (Ba : Bases K mg A bN bK bT bH) : FnOk P w K mg base CX0 1 f fd ["one", "other"] (spOneWay K A bK bT) := by
  refine F.ok scOneWay (fun vs H Q E h => ?_) (fun cdv A0 outer s H vs Q E hr h => ?_)
  · obtain ⟨x, y, i, j, rfl, _⟩ := h
    rfl
  · obtain ⟨x, y, i, j, rfl, ⟨tx, tyx, xK, xT, xF, xC⟩, ⟨u, tyy, yK, yT, yF, yC⟩, q⟩ := h
    refine ⟨_, pss_cons (ps_if (pt_val (pe_callB call_isi (by rfl) T.isi (by decide +kernel) (pa_cons (pv 0) (pa_cons (pe_glob (v := .ref bK) rfl Ba.gK rfl) pa_nil)))) (pss_one (ps_ret (pe_callB call_isi (by rfl) T.isi (by decide +kernel) (pa_cons (pv 1) (pa_cons (pe_glob (v := .ref bT) rfl Ba.gT rfl) pa_nil))))) pss_nil)
      (pss_one (ps_ret (pe_and (pe_callB call_isi (by rfl) T.isi (by decide +kernel) (pa_cons (pv 0) (pa_cons (pe_glob (v := .ref A.f) rfl S.cF.g rfl) pa_nil))) (pe_one (pe_callB call_isi (by rfl) T.isi (by decide +kernel) (pa_cons (pv 1) (pa_cons (pe_glob (v := .ref A.h) rfl S.cH.g rfl) pa_nil))))))), ?_⟩
    unfold oneWay at q
    refine ⟨x, rfl, x, .ref bK, tx, .ref bK, _, rfl, .own _, tyx, xK, _, rfl, ite2 (fun e => ?_) (fun e => ?_)⟩
    · rw [if_pos e] at q
      exact ⟨y, rfl, y, .ref bT, u, .ref bT, _, rfl, .own _, tyy, yT, q⟩
    · rw [if_neg e] at q
      refine ⟨x, rfl, x, .ref A.f, tx, .ref A.f, _, rfl, .own _, tyx, xF, _, rfl, ite2 (fun e2 => ?_) (fun e2 => ?_)⟩
      · rw [e2, Bool.true_and] at q
        exact ⟨y, rfl, y, .ref A.h, u, .ref A.h, _, rfl, .own _, tyy, yC, q⟩
      · rw [Bool.eq_false_iff.mpr e2, Bool.false_and] at q
        exact q
theorem ok_meets {A : A4} {f f1 bK bT : Addr} {fd d1 : FuncData} (F : Fun K "meets" "Handler.meets" sMeets f fd) (F1 : Fun K "_meet_one_way" "_meet_one_way" sMeet1 f1 d1) (b1 : Binds K d1 ["one", "other"] []) (g1 : mg "_meet_one_way" = some (.ref f1)) (G1 : FnOk P w K mg base CX0 1 f1 d1 ["one", "other"] (spOneWay K A bK bT)) :
    FnOk P w K mg base CX0 2 f fd ["self", "other"] (spMeets K A bK bT) := by
  refine F.ok scMeets (fun vs H Q E h => ?_) (fun cdv A0 outer s H vs Q E hr h => ?_)
  · obtain ⟨x, y, i, j, rfl, _⟩ := h
    rfl
  · obtain ⟨x, y, i, j, rfl, hx, hy, q⟩ := h
    refine ⟨_, pss_one (ps_ret (pe_or (pe_call G1 hr (by rfl) g1 F1.kp b1 .nil pass0 (pa_cons (pv 0) (pa_cons (pv 1) pa_nil))) (pe_one (pe_call G1 hr (by rfl) g1 F1.kp b1 .nil pass0 (pa_cons (pv 1) (pa_cons (pv 0) pa_nil)))))), ?_⟩
    unfold meetB at q
    refine ⟨x, rfl, y, rfl, x, y, i, j, rfl, hx, hy, _, rfl, ite2 (fun e => ?_) (fun e => ?_)⟩
    · rw [e, Bool.true_or] at q
      exact q
    · rw [Bool.eq_false_iff.mpr e, Bool.false_or] at q
      exact ⟨y, rfl, x, rfl, y, x, j, i, rfl, hy, hx, q⟩
end
end My
/-! enumerate of a tuple; for over a list or a tuple -/
namespace MyE
open PySem
open Sem (wp)
open AutoSeq1 (wpAny_loadPart')
theorem enum_new (l : Addr) (items : Array Value) (n : Nat) (dct : Option Addr) (sl : Array (Option Value)) :
    Meets (Builtin.«enumerate.__new__» ⟨[.type "enumerate", .ref l], []⟩) (fun _ R s => s.heap.get? l = some { cls := .type "tuple", dict := dct, data := .seq items n, slots := sl } ∧
      R (.ok (.ret (.ref (s.heap.push { cls := .type "tuple_iterator", data := .fields #[.ref l, .int 0 0] }).objs.size)))
        { s with heap := (s.heap.push { cls := .type "tuple_iterator", data := .fields #[.ref l, .int 0 0] }).push { cls := .type "enumerate", data := .fields #[.none, .bool false, .ref s.heap.objs.size, rawInt 0, .none, .none] } }) :=
  .of_wp fun prog w A R s h => by
    obtain ⟨hh, gg, dd, tt, oo⟩ := s
    obtain ⟨at_, out⟩ := h
    have below := sub_enumerate
    have tup : Heap.IsTuple (Shared.heap ⟨hh, gg, dd, tt, oo⟩) l items := ⟨_, at_, rfl, n, rfl⟩
    wp_walk using wpAny_loadPart' at_
    refine wpAny_stack_any fun st => wpAny_pure ?_
    split
    · rename_i c _ _ _ _ _
      cases (c == Value.type "enumerate") <;> (wp_walk using wpAny_loadPart' at_, wpAny_pyIter_tuple tup; exact ⟨_, rfl, out⟩)
    · wp_walk using wpAny_loadPart' at_, wpAny_pyIter_tuple tup
      exact ⟨_, rfl, out⟩
section
variable {prog : Program} {w : World} {A : Around} {E : Value → Shared → Prop} {s : Shared}
theorem call_enum {l : Addr} {items : Array Value} {Q : Value → Shared → Prop} (tup : s.heap.IsTuple l items)
    (out : ∀ h', IsEnum h' (s.heap.objs.size + 1) s.heap.objs.size 0 .none → h'.IsTupleIter s.heap.objs.size l 0 → (∀ b o, s.heap.get? b = some o → h'.get? b = some o) → Q (.ref (s.heap.objs.size + 1)) { s with heap := h' }) :
    wpAny (model prog w) A (call (.type "enumerate") [.ref l]) Q E s := by
  obtain ⟨⟨c, dct, dt, sl⟩, at_, hc, n, hd⟩ := tup
  simp only at hc hd
  subst hc
  subst hd
  refine callType_new F.called_enumerate (by decide) (F.typeCall_enumerate_1 _) (F.newCall_enumerate_1 _) (fun obj => F.args_object_init_2 obj _) F.entry_enumerate_new (enum_new l items n dct sl) ⟨at_, ?_⟩
  have one : (s.heap.push { cls := .type "tuple_iterator", data := .fields #[.ref l, .int 0 0] }).objs.size = s.heap.objs.size + 1 := Heap.size_push ..
  show _ ∧ _
  rw [one]
  have en : IsEnum ((s.heap.push { cls := .type "tuple_iterator", data := .fields #[.ref l, .int 0 0] }).push { cls := .type "enumerate", data := .fields #[.none, .bool false, .ref s.heap.objs.size, rawInt 0, .none, .none] }) (s.heap.objs.size + 1) s.heap.objs.size 0 .none := by
    have z := Heap.get?_push_size (s.heap.push { cls := .type "tuple_iterator", data := .fields #[.ref l, .int 0 0] }) (o := { cls := .type "enumerate", data := .fields #[.none, .bool false, .ref s.heap.objs.size, rawInt 0, .none, .none] }) rfl
    rw [one] at z
    exact z
  exact ⟨⟨_, en, rfl⟩, out _ en ⟨_, Heap.get?_push_of_some _ (Heap.get?_push_size _ rfl), rfl, rfl⟩ fun b o x => Heap.get?_push_of_some _ (Heap.get?_push_of_some _ x)⟩
end
end MyE
namespace My
open PySem PySem.Spec PyProof.Rows L2
def IteT (K : PySem.W.Frag) (a : Addr) : It :=
  ⟨fun i H => ∃ (xs : List V) (x : V), SqT K H a xs ∧ xs[i]? = some x, fun i H v H' => ∃ T x, v = .ref T ∧ H T = none ∧ H' = upd H T (.tup [.int (i : Nat), x]) ∧ ∀ xs, SqT K H a xs → xs[i]? = some x, fun i H => ∃ xs : List V, SqT K H a xs ∧ xs.length ≤ i⟩
theorem tup_ne {h : Heap} {it a : Addr} {i : Nat} {items : Array Value} (x : h.IsTupleIter it a i) (y : h.IsTuple a items) : a ≠ it := fun e => by
  obtain ⟨o, ho, hc, _⟩ := x
  obtain ⟨o2, ho2, hc2, _⟩ := y
  rw [e, ho] at ho2
  cases ho2
  rw [hc] at hc2
  revert hc2
  decide
theorem turn_enumT {P : Program} {w : World} {K : PySem.W.Frag} {elts : List Expr} {kk : Nat} {tpos : Pos} (a e it : Addr) :
    Turn P w K (.Tuple elts kk tpos) (IteT K a) [e, it] e (fun i h => (∃ old, IsEnum h e it ((i : Nat) : Int) old) ∧ h.IsTupleIter it a i ∧ e ≠ it) where
  mem := by simp
  obj := fun i h st b hb => by
    obtain ⟨⟨old, en⟩, ⟨o, ho, hc, hd⟩, _⟩ := st
    have which : b = e ∨ b = it := by simpa using hb
    rcases which with z | z <;> rw [z]
    · exact ⟨_, en, fun v q => nomatch q⟩
    · exact ⟨o, ho, fun v q => by rw [hd] at q; cases q⟩
  keep := fun i h h' st k => let ⟨⟨old, en⟩, ti, ne⟩ := st; ⟨⟨old, k e (by simp) _ en⟩, ti.at fun o q => k it (by simp) o q, ne⟩
  item := by
    intro X hP hw hK hc i pins s σ H E I hf st hg
    subst hP hw hK
    obtain ⟨⟨old, en⟩, ti, ne⟩ := st
    obtain ⟨xs, x, hq, hx⟩ := hg
    obtain ⟨its, rv, tp, _⟩ := I.tuple hq
    obtain ⟨u, hu, ru⟩ := rv.get hx
    have tp2 : s.heap.IsTuple a its.toArray := tp
    have le : e < s.heap.objs.size := Heap.lt_size en
    have li : it < s.heap.objs.size := let ⟨_, q, _⟩ := ti; Heap.lt_size q
    have ane := tup_ne ti tp2
    have ae : e ≠ a := fun z => by
      obtain ⟨o2, ho2, hc2, _⟩ := tp2
      have en2 : s.heap.get? e = some _ := en
      rw [z, ho2] at en2
      cases en2
      exact absurd (show Value.type "enumerate" = Value.type "tuple" from hc2) (by decide)
    have lu : i < its.toArray.size := by
      rw [List.size_toArray]
      exact (List.getElem?_eq_some_iff.mp hu).1
    refine wpAny_pyNext_enum_itemD (Draws.tuple (A := X.A.in1) (by exact I.ok.hd hc) it a ane its.toArray) en ⟨ti, tp2⟩ lu ne (by simp only [List.mem_cons, List.not_mem_nil, or_false, not_or]; exact ⟨ne, ae⟩) fun y h' tk hy ho st' hT hsz hk => ?_
    have ey : y = u := by
      have : its.toArray[i]? = some u := by simpa using hu
      rw [this] at hy
      cases hy
      rfl
    subst ey
    refine ⟨_, rfl, wpAny_letOwnedTupleGo_enum (s := { s with heap := h', toks := tk + 1 }) ho fun h'' he' sb => ?_⟩
    have hT2 : h''.get? s.heap.objs.size = some { cls := .type "tuple", data := .seq #[.int i tk, y] } := (sb.2 _ (Nat.ne_of_gt le)).trans hT
    have new : ObjOk X.prog X.w (upd H s.heap.objs.size (.tup [.int (i : Nat), x])) h'' s.heap.objs.size (.tup [.int (i : Nat), x]) :=
      ⟨by show 2 ≤ sizeLine; decide, [.int i tk, y], .cons ⟨_, rfl⟩ (.cons ru .nil), ⟨_, hT2, rfl, _, rfl⟩⟩
    have I1 : Inv X pins σ (upd H s.heap.objs.size (.tup [.int (i : Nat), x])) { s with heap := h'', toks := tk + 1 } :=
      I.turnedNew (ch := [e, it]) (fun b ob hb q => (sb.2 b (fun z => hb (by simp [z]))).trans (hk b ob (fun z => hb (by simp [z])) (fun z => hb (by simp [z])) q)) hf (Nat.le_refl _) new
    have up : ((i + 1 : Nat) : Int) = (i : Int) + 1 := by omega
    refine ⟨.ref s.heap.objs.size, _, I1, rfl, ⟨_, x, rfl, I.hok.fresh (Nat.le_refl _), rfl, fun ys hy => by rw [I.tuple_inj hy hq]; exact hx⟩, ⟨⟨y, by rw [up]; exact he'⟩, st'.1.at fun o q => (sb.2 it (Ne.symm ne)).trans q, ne⟩, fun b hb => ?_⟩
    have which : b = e ∨ b = it := by simpa using hb
    have lb : b < s.heap.objs.size := which.elim (fun z => z ▸ le) fun z => z ▸ li
    rw [upd_ne (Nat.ne_of_lt lb)]
    exact (hf b hb).1
  done := by
    intro X hP hw hK hc i pins s σ H E I hf st hg
    subst hP hw hK
    obtain ⟨⟨old, en⟩, ti, ne⟩ := st
    obtain ⟨xs, hq, hx⟩ := hg
    obtain ⟨its, rv, tp, _⟩ := I.tuple hq
    have tp2 : s.heap.IsTuple a its.toArray := tp
    obtain ⟨f0, f1, f2, f3, f4, f5⟩ := hf it (by simp)
    have hl := rv.length
    have none_ : its.toArray[i]? = none := by
      simp only [List.getElem?_toArray]
      exact List.getElem?_eq_none (by omega)
    have D : Draws X.prog X.w X.A.in1 it [it, a] i (fun _ _ => True) (fun j h => j = i ∧ h.IsTupleIter it a i ∧ h.IsTuple a its.toArray) :=
      { live := fun _ _ st => let ⟨o, ho, _⟩ := st.2.1; ⟨o, ho⟩
        frame := fun _ _ _ st k => ⟨st.1, st.2.1.at fun o q => k it (by simp) o q, st.2.2.at fun o q => k a (by simp) o q⟩
        item := fun j s Q E lt st _ => absurd lt (by rw [st.1]; exact Nat.lt_irrefl _)
        done := fun s Q E st out => wpAny_nextOf_tuple_end (by exact I.ok.hd hc) st.2.1 st.2.2 none_ out }
    exact wpAny_pyNext_enum_endD (i := ((i : Nat) : Int)) D en ⟨rfl, ti, tp2⟩ fun h' eb => ⟨rfl, I.turned (t' := s.toks) (fun b o hb q => eb b o hb q) f0 f1 f3 f4 f5⟩
  self := fun A i s Q E st h => let ⟨⟨_, en⟩, _⟩ := st; wpAny_pyIter_enum en h
def iEnumT (K : PySem.W.Frag) (ta : TA) : TI := fun σ H R => ta σ H fun vs H1 => ∃ a xs, vs = [.ref a] ∧ SqT K H1 a xs ∧ R (IteT K a) H1
theorem pi_enumT {X : Cx} {e : Expr} {ta : TA} {p pos tpos : Pos} {elts : List Expr} {kk : Nat} (hg : Gl X "enumerate") (hm : X.mg "enumerate" = none) (ha : PA X [e] ta) (hs : starEach [e] X.env = [(false, eval e X.env)] := by rfl) :
    PI X (.Tuple elts kk tpos) (.Call (.Name "enumerate" p) [e] [] pos) (iEnumT X.K ta) := by
  refine ⟨fun pins s σ H R I h => Call_ (ld_blt I hg hm boot_enumerate (PyProof.Rows.callWith_type1 (thn (ha.run pos pins s σ H _ I h) fun us s1 z => ?_) hs rfl))⟩
  obtain ⟨vs, H1, I1, r1, a, xs, rfl, hq, q⟩ := z
  obtain ⟨u, rfl, r⟩ := vals1 r1
  obtain rfl : u = Value.ref a := r
  obtain ⟨its, rv, tp, _⟩ := I1.tuple hq
  refine MyE.call_enum (show s1.heap.IsTuple a its.toArray from tp) fun h' en ti hk => wpAny_pyIter_enum en ?_
  have I2 : Inv X pins σ H1 { s1 with heap := h' } := I1.kept (t' := s1.toks) hk
  refine ⟨s1.heap.objs.size + 1, [s1.heap.objs.size + 1, s1.heap.objs.size], _, _, H1, rfl, I2, turn_enumT a (s1.heap.objs.size + 1) s1.heap.objs.size, ⟨⟨.none, en⟩, ti, Nat.succ_ne_self _⟩, fun b hb => ?_, q⟩
  have big : s1.heap.objs.size ≤ b := by
    have which : b = s1.heap.objs.size + 1 ∨ b = s1.heap.objs.size := by simpa using hb
    exact which.elim (fun z => z ▸ Nat.le_succ _) fun z => z ▸ Nat.le_refl _
  exact I1.fpOk big (I1.hok.fresh big)
/-- for over a list or a tuple -/
def iSeq (K : PySem.W.Frag) (tl : TE) : TI := fun σ H R => tl σ H fun x H1 => ∃ a, x = .ref a ∧ (((∃ xs, SqL K H1 a xs) ∧ R (Itl K a) H1) ∨ ((∃ xs, SqT K H1 a xs) ∧ R (Itt K a) H1))
theorem pi_seq {X : Cx} {tg l : Expr} {tl : TE} (hl : PE X l tl) : PI X tg l (iSeq X.K tl) := by
  refine ⟨fun pins s σ H R I h => thn (hl.run pins s σ H _ I h) fun v s1 z => ?_⟩
  obtain ⟨x, H1, I1, r1, a, rfl, q⟩ := z
  obtain rfl : v = Value.ref a := r1
  have mine : ∀ b ∈ [s1.heap.objs.size], FpOk X pins H1 b := fun b hb => by
    rw [List.mem_singleton.mp hb]
    exact I1.fpOk (Nat.le_refl _) (I1.hok.fresh (Nat.le_refl _))
  rcases q with ⟨⟨xs, hq⟩, q⟩ | ⟨⟨xs, hq⟩, q⟩
  · obtain ⟨its, rv, p, _⟩ := I1.list hq
    exact wpAny_pyIter_list p.isList ⟨s1.heap.objs.size, _, _, _, H1, rfl, I1.kept (t' := s1.toks) fun b o e => Heap.get?_push_of_some _ e, turn_list a _, ⟨_, Heap.get?_push_size _ rfl, rfl, rfl⟩, mine, q⟩
  · obtain ⟨its, rv, p, _⟩ := I1.tuple hq
    exact wpAny_pyIter_tuple (show s1.heap.IsTuple a its.toArray from p) ⟨s1.heap.objs.size, _, _, _, H1, rfl, I1.kept (t' := s1.toks) fun b o e => Heap.get?_push_of_some _ e, turn_tuple a _, ⟨_, Heap.get?_push_size _ rfl, rfl, rfl⟩, mine, q⟩
end My
namespace My
open PySem PySem.Spec PyProof.Rows L2
theorem walk_enumT {K : PySem.W.Frag} {a : Addr} {xs : List V} : Walk (IteT K a) xs.length (fun H => SqT K H a xs) (YPair (fun i => some (.int (i : Nat))) (fun i => xs[i]?)) := by
  refine ⟨fun i _ hi q => ⟨xs, xs[i], q, by simp [hi]⟩, fun _ q => ⟨xs, q, Nat.le_refl _⟩, fun i H v H' _ q y => ?_⟩
  obtain ⟨t, x, h1, h2, h3, h4⟩ := y
  exact ⟨t, .int (i : Nat), x, h1, h2, h3, rfl, h4 xs q⟩
end My
namespace My
open PySem PySem.Spec PyProof.Rows L2
/-- ys: the texts of xs, ascending, each once -/
structure Asc (xs ys : List Str) : Prop where
  nd : ys.Nodup
  so : sortedS ys = true
  mem : ∀ z, z ∈ ys ↔ z ∈ xs
def Sq (K : PySem.W.Frag) (H : Hp) (l : Addr) (xs : List V) : Prop := SqL K H l xs ∨ SqT K H l xs
theorem Sq.keep {K : PySem.W.Frag} {H H' : Hp} {l : Addr} {xs : List V} (h : Sq K H l xs) (s : Same' H H') : Sq K H' l xs := h.imp (fun q => q.ext s) fun q => q.ext s
def spAsc (K : PySem.W.Frag) : Sp := fun vs H Q _ => ∃ (l : Addr) (xs : List Str), vs = [.ref l] ∧ Sq K H l (xs.map V.str) ∧ xs.length < 64 ∧ ∀ (p : Addr) (ys : List Str) (H' : Hp), Asc xs ys → Same' H H' → H' p = some (.tup (ys.map V.str)) → Q (.ref p) H'
section
variable {P : Program} {w : World} {K : PySem.W.Frag} {mg : Str → Option Value} {base : Heap}
abbrev nAsc : List Str := ["names", "name"]
theorem scAsc : FnScope nAsc ["names"] (defScope sAsc) := ⟨rfl, rfl, rfl, by decide +kernel, rfl, by decide +kernel, by decide +kernel⟩
theorem ok_asc {f : Addr} {fd : FuncData} (F : Fun K "ascending" "ascending" sAsc f fd) (T : Txt mg) : FnOk P w K mg base CX0 1 f fd ["names"] (spAsc K) := by
  refine F.ok scAsc (fun vs H Q E h => ?_) (fun cdv A outer s H vs Q E hr h => ?_)
  · obtain ⟨l, xs, rfl, _⟩ := h
    rfl
  · obtain ⟨l, xs, rfl, hl, few, q⟩ := h
    refine ⟨_, pss_one (ps_ret (pe_callTy call_tuple_of (by rfl) T.tuple (by decide +kernel) (pa_cons (pe_callB (cr_sortedTexts rfl) (by rfl) T.sorted (by decide +kernel) (pa_cons (pe_callTy (cr_setTexts rfl) (by rfl) T.set (by decide +kernel) (pa_cons
      (pe_lc (own := [("name", 1)]) (g := gName 1) (tt := tYes) rfl scAsc.nd (pi_seq (pv 0)) (blkOk_by (N := nAsc) (sc := defScope sAsc) (by decide +kernel)) (fun _ _ _ _ _ => pg_name (i := 1) scAsc.nd rfl (Or.inl rfl)) (fun _ _ _ _ _ => pts_nil)
        (fun _ _ _ _ _ => pe_callTy SkE.call_str_str (by rfl) T.str (by decide +kernel) (pa_cons (pv 1) pa_nil))) pa_nil)) pa_nil)) pa_nil))), ?_⟩
    have lz : (xs.map V.str).length = xs.length := List.length_map ..
    have fin : ∀ (H1 : Hp) (D : Addr), Same' H H1 → H1 D = some (.lst (xs.map V.str)) → ∃ (l : Addr) (zs : List Str), [V.ref D] = [V.ref l] ∧ SqL K H1 l (zs.map V.str) ∧ zs.length < 64 ∧
        ∀ a ys, H1 a = none → ys.Nodup → (∀ z, z ∈ ys ↔ z ∈ zs) → ∃ (a2 : Addr) (l2 : List Str), [V.ref a] = [V.ref a2] ∧ (upd H1 a (TSetO P w a ys)) a2 = some (TSetO P w a2 l2) ∧ l2.length < 64 ∧
          ∀ (ys2 : List Str) (p : Addr), ys2.Perm l2 → sortedS ys2 = true → (upd H1 a (TSetO P w a ys)) p = none → ∃ p2 zs2, [V.ref p] = [V.ref p2] ∧
            ((SqL K (upd (upd H1 a (TSetO P w a ys)) p (.lst (ys2.map V.str))) p2 zs2 ∧ ∀ l, (upd (upd H1 a (TSetO P w a ys)) p (.lst (ys2.map V.str))) l = none → Q (.ref l) (upd (upd (upd H1 a (TSetO P w a ys)) p (.lst (ys2.map V.str))) l (.tup zs2))) ∨
              (SqT K (upd (upd H1 a (TSetO P w a ys)) p (.lst (ys2.map V.str))) p2 zs2 ∧ Q (.ref p2) (upd (upd H1 a (TSetO P w a ys)) p (.lst (ys2.map V.str))))) := by
      intro H1 D sm eD
      refine ⟨D, xs, rfl, SqL.of eD, few, fun a ys ha nd mem => ⟨a, ys, rfl, upd_same, ?_, fun ys2 p pm so hp => ⟨p, _, rfl, .inl ⟨SqL.of upd_same, fun l hl => ?_⟩⟩⟩⟩
      · exact Nat.lt_of_le_of_lt (nodup_len ys xs nd fun z hz => (mem z).mp hz) few
      · refine q l ys2 _ ⟨pm.nodup_iff.mpr nd, so, fun z => pm.mem_iff.trans (mem z)⟩ ?_ upd_same
        exact sm.trans ((same_new ha).trans ((same_new hp).trans (same_new hl)))
    refine ⟨.ref l, rfl, l, rfl, ?_⟩
    have lap : ∀ (D : Addr), H D = none → ∀ (i : Nat) (x : V) (H' H2 : Hp), (Same' H H' ∧ H' D = some (.lst ((xs.take i).map V.str))) → YAt (xs.map V.str) i H' x H2 → i < (xs.map V.str).length →
        ∃ z, x = .str z ∧ H2 = H' ∧ (xs.take (i + 1)).map V.str = (xs.take i).map V.str ++ [.str z] ∧ ((xs.take i).map V.str).length < sizeLine := by
      rintro D hD i x H' H2 ⟨sm, ed⟩ ⟨rfl, hx⟩ hi
      rw [List.getElem?_map] at hx
      cases ez : xs[i]? with
      | none => rw [ez] at hx; cases hx
      | some z =>
        rw [ez] at hx
        refine ⟨z, (Option.some.inj hx).symm, rfl, ?_, ?_⟩
        · rw [List.take_add_one, ez, List.map_append]
          rfl
        · rw [List.length_map, List.length_take, sizeLine_eq]
          omega
    rcases hl with hl | hl
    · refine .inl ⟨⟨_, hl⟩, fun D hD => ?_⟩
      refine lc_it walk_list (fun i H' => Same' H H' ∧ H' D = some (.lst ((xs.take i).map V.str))) ⟨same_new hD, upd_same⟩ (fun i H' _ p => hl.ext p.1) (fun i x H' H2 hi hp hy => ?_) (fun H' hp => ?_)
      · obtain ⟨z, rfl, rfl, e1, e2⟩ := lap D hD i x H' H2 hp hy hi
        refine ⟨rfl, ⟨.str z, rfl, z, rfl, _, hp.2, e2, same_over hD hp.1, ?_⟩⟩
        rw [upd_same, e1]
      · refine fin H' D hp.1 ?_
        rw [hp.2, List.take_of_length_le (by rw [lz]; exact Nat.le_refl _)]
    · refine .inr ⟨⟨_, hl⟩, fun D hD => ?_⟩
      refine lc_it walk_tup (fun i H' => Same' H H' ∧ H' D = some (.lst ((xs.take i).map V.str))) ⟨same_new hD, upd_same⟩ (fun i H' _ p => hl.ext p.1) (fun i x H' H2 hi hp hy => ?_) (fun H' hp => ?_)
      · obtain ⟨z, rfl, rfl, e1, e2⟩ := lap D hD i x H' H2 hp hy hi
        refine ⟨rfl, ⟨.str z, rfl, z, rfl, _, hp.2, e2, same_over hD hp.1, ?_⟩⟩
        rw [upd_same, e1]
      · refine fin H' D hp.1 ?_
        rw [hp.2, List.take_of_length_le (by rw [lz]; exact Nat.le_refl _)]
end
end My
namespace My
open PySem PySem.Spec PyProof.Rows L2
/-- handlers of these kinds lie there -/
structure Hs (A : A4) (H : Hp) (as : List Addr) (ks : List HD) : Prop where
  len : as.length = ks.length
  is : ∀ (i : Nat) (a : Addr) (k : HD), as[i]? = some a → ks[i]? = some k → IsH A H a k
theorem Hs.keep {A : A4} {H H' : Hp} {as : List Addr} {ks : List HD} (h : Hs A H as ks) (s : Same' H H') : Hs A H' as ks := ⟨h.len, fun i a k e1 e2 => (h.is i a k e1 e2).keep s⟩
theorem Hs.at {A : A4} {H : Hp} {as : List Addr} {ks : List HD} (h : Hs A H as ks) {i : Nat} {x : V} (e : (as.map V.ref)[i]? = some x) : ∃ a k, as[i]? = some a ∧ ks[i]? = some k ∧ x = .ref a ∧ IsH A H a k := by
  rw [List.getElem?_map] at e
  cases ea : as[i]? with
  | none => rw [ea] at e; cases e
  | some a =>
    rw [ea] at e
    have hi : i < ks.length := by
      have := (List.getElem?_eq_some_iff.mp ea).1
      rw [h.len] at this
      exact this
    exact ⟨a, ks[i], rfl, List.getElem?_eq_getElem hi, (Option.some.inj e).symm, h.is i a _ ea (List.getElem?_eq_getElem hi)⟩
def wdN : Nat → Str
  | 0 => "cell"
  | 1 => "log"
  | 2 => "failure"
  | _ => "choice"
/-- the class constants WORD, read through an instance -/
def WCon (K : PySem.W.Frag) (A : A4) : Prop := ∀ i, i < 4 → ∃ u, Con K (A.at i) "WORD" (.str (wdN i)) u
def cnt (ks : List HD) (i : Nat) : Nat := (ks.filter fun k => decide (k.ix = i)).length
structure Few (ks : List HD) : Prop where
  nd : (ks.map HD.nm).Nodup
  c : cnt ks 0 ≤ 4
  l : cnt ks 1 ≤ 2
  f : cnt ks 2 ≤ 3
  n : ks.length < 64
/-- the table of the bounds -/
structure Lims (K : PySem.W.Frag) (mg : Str → Option Value) (L l0 l1 l2 : Addr) : Prop where
  g : mg "LIMITS" = some (.ref L)
  h : ∀ H, SqT K H L [.ref l0, .ref l1, .ref l2]
  h0 : ∀ H, SqT K H l0 [.str "cell", .str "cells", .int 4]
  h1 : ∀ H, SqT K H l1 [.str "log", .str "logs", .int 2]
  h2 : ∀ H, SqT K H l2 [.str "failure", .str "failures", .int 3]
def spChk (K : PySem.W.Frag) (A : A4) : Sp := fun vs H Q _ => ∃ (t : Addr) (as : List Addr) (ks : List HD), vs = [.ref t] ∧ H t = some (.tup (as.map V.ref)) ∧ Hs A H as ks ∧ Few ks ∧ ∀ H', Same' H H' → Q .non H'
theorem flat_strs : ∀ zs : List Str, (zs.map V.str).all flatV = true
  | [] => rfl
  | _ :: r => by rw [List.map_cons, List.all_cons, flat_strs r]; rfl
theorem inV_strs (z : Str) : ∀ zs : List Str, inV (.str z) (zs.map V.str) = decide (z ∈ zs)
  | [] => by simp [inV]
  | y :: r => by
    have ih := inV_strs z r
    unfold inV at ih ⊢
    rw [List.map_cons, List.any_cons, ih]
    show ((y == z) || _) = _
    by_cases e : z = y
    · subst e
      simp
    · have : (y == z) = false := beq_eq_false_iff_ne.mpr fun q => e q.symm
      rw [this]
      simp [e]
theorem flds_nm (k : HD) : k.flds.lookup ("name" : Str) = some (.str k.nm) := by cases k <;> rfl
theorem flds_wd (k : HD) : k.flds.lookup ("WORD" : Str) = none := by cases k <;> rfl
theorem wdN_eq : ∀ i, i < 4 → ∀ j, j < 4 → decide (V.str (wdN i) = V.str (wdN j)) = decide (i = j) := by decide +kernel
theorem cnt_step {ks : List HD} {j i : Nat} {k : HD} (h : ks[j]? = some k) : cnt (ks.take (j + 1)) i = cnt (ks.take j) i + (if k.ix = i then 1 else 0) := by
  unfold cnt
  rw [List.take_add_one, h, List.filter_append, List.length_append]
  congr 1
  show (List.filter _ [k]).length = _
  rw [List.filter_cons]
  by_cases e : k.ix = i <;> simp [e]
theorem notin_take {zs : List Str} (nd : zs.Nodup) {i : Nat} {z : Str} (h : zs[i]? = some z) : z ∉ zs.take i := fun m => by
  obtain ⟨hi, e⟩ := List.getElem?_eq_some_iff.mp h
  obtain ⟨j, hj, e2⟩ := List.mem_iff_getElem.mp m
  rw [List.length_take] at hj
  rw [List.getElem_take] at e2
  have := (List.pairwise_iff_getElem.mp nd) j i (by omega) hi (by omega)
  exact this (by rw [e2, e])
section
variable {P : Program} {w : World} {K : PySem.W.Frag} {mg : Str → Option Value} {base : Heap}
abbrev nChk : List Str := ["handlers", "at", "handler", "names", "kind", "what", "most"]
theorem scChk : FnScope nChk ["handlers"] (defScope sChkH) := ⟨rfl, rfl, rfl, by decide +kernel, rfl, by decide +kernel, by decide +kernel⟩
theorem ok_chk {A : A4} {f bN bK bT bH L l0 l1 l2 : Addr} {fd : FuncData} (F : Fun K "_check_handlers" "_check_handlers" sChkH f fd) (S : Hand K mg A) (T : Txt mg) (Ba : Bases K mg A bN bK bT bH) (W : WCon K A) (Li : Lims K mg L l0 l1 l2) :
    FnOk P w K mg base CX0 1 f fd ["handlers"] (spChk K A) := by
  refine F.ok scChk (fun vs H Q E h => ?_) (fun cdv A0 outer s H vs Q E hr h => ?_)
  · obtain ⟨t, as, ks, rfl, _⟩ := h
    rfl
  · obtain ⟨t, as, ks, rfl, ht, hs, few, q⟩ := h
    refine ⟨_, pss_cons (ps_for PassesOwn.never rfl (pi_enumT (by rfl) T.enum (pa_cons (pv 0) pa_nil)) (pg_tup (n := 2) rfl (pgs_cons (pg_name (i := 1) scChk.nd rfl (.inl rfl)) (pgs_cons (pg_name (i := 2) scChk.nd rfl (.inl rfl)) pgs_nil)))
        (pss_one (ps_if (pt_not (pt_val (pe_callB call_isi (by rfl) T.isi (by decide +kernel) (pa_cons (pv 2) (pa_cons (pe_glob (v := .ref bH) rfl Ba.gH rfl) pa_nil))))) (pss_one ps_never) pss_nil)))
      (pss_cons (ps_set (i := 3) scChk.nd rfl (.inl rfl) (pe_lst pa_nil))
      (pss_cons (ps_for PassesOwn.never rfl (pi_tup (pv 0)) (pg_name (i := 2) scChk.nd rfl (.inl rfl))
        (pss_cons (ps_if (pt_cmpR op_in_seq (pe_fld (pv 2) (by rfl)) (pv 3) (by rfl)) (pss_one ps_never) pss_nil)
        (pss_one (ps_expr (pe_bm PySem.F.plainAttrs_list PySem.F.slot_list_append PySem.F.type_list_append mt_append (pv 3) (pa_cons (pe_fld (pv 2) (by rfl)) pa_nil))))))
      (pss_one (ps_for PassesOwn.never rfl (pi_tup (pe_glob (v := .ref L) rfl Li.g rfl)) (pg_tup (n := 3) rfl (pgs_cons (pg_name (i := 4) scChk.nd rfl (.inr rfl)) (pgs_cons (pg_name (i := 5) scChk.nd rfl (.inl rfl)) (pgs_cons (pg_name (i := 6) scChk.nd rfl (.inl rfl)) pgs_nil))))
        (pss_one (ps_if (pt_cmpR op_gt (pe_callB call_len_seq (by rfl) T.len PySem.boot_len (pa_cons (pe_lc (own := [("handler", 2)]) (g := gName 2) rfl scChk.nd (pi_tup (pv 0)) (blkOk_by (N := nChk) (sc := defScope sChkH) (by decide +kernel))
            (fun _ _ _ _ _ => pg_name (i := 2) scChk.nd rfl (Or.inl rfl)) (fun _ _ _ _ _ => pts_one (pt_cmpR op_eq (show PE _ _ (tCon K (tVar 2) "WORD") from pe_con (pv 2) (by rfl)) (pv 4) (nomark _))) (fun _ _ _ _ _ => pv 2)) pa_nil)) (pv 6) (nomark _)) (pss_one ps_never) pss_nil)))))), ?_⟩
    refine ⟨.ref t, rfl, t, as.map V.ref, rfl, SqT.of ht, ?_⟩
    refine for_it (walk_enumT (K := K) (a := t) (xs := as.map V.ref)) (fun i σ H' => Same' H H' ∧ ∃ z1 z2, σ = [some (.ref t), z1, z2, none, none, none, none]) ⟨fun _ _ e => e, none, none, rfl⟩ (fun i σ H' _ hp => SqT.of (hp.1 _ _ ht)) (fun i x σ H5 H6 hi hp hy => ?_) (fun σ H1 hp => ?_)
    · obtain ⟨sm, z1, z2, rfl⟩ := hp
      obtain ⟨tt, v1, v2, rfl, htt, rfl, e1, e2⟩ := hy
      obtain ⟨a, k, ea, ek, rfl, ha⟩ := (hs.keep sm).at e2
      have st := same_new (o := .tup [v1, V.ref a]) htt
      refine ⟨tt, _, rfl, SqT.of upd_same, rfl, _, _, rfl, _, _, rfl, rfl, ?_⟩
      refine ⟨.ref a, rfl, .ref a, .ref bH, _, .ref bH, true, rfl, .own _, S.ty (ha.keep st), Ba.kH _ k.ix_lt, true, rfl, iteF ?_⟩
      exact ⟨sm.trans st, _, _, rfl⟩
    obtain ⟨s1, z1, z2, rfl⟩ := hp
    refine ⟨Nat.zero_le _, fun nl hnl => ?_⟩
    have s2 := s1.trans (same_new (o := .lst []) hnl)
    have nd := few.nd
    refine ⟨.ref t, rfl, t, rfl, ⟨_, SqT.of (s2 _ _ ht)⟩, ?_⟩
    refine for_it (walk_tup (K := K) (a := t) (xs := as.map V.ref)) (fun i σ H' => Same' H H' ∧ H' nl = some (.lst (((ks.map HD.nm).take i).map V.str)) ∧ ∃ z1 z2, σ = [some (.ref t), z1, z2, some (.ref nl), none, none, none]) ⟨s2, upd_same, z1, z2, rfl⟩ (fun i σ H' _ hp => SqT.of (hp.1 _ _ ht)) (fun i x σ H5 H6 hi hp hy => ?_) (fun σ H3 hp => ?_)
    · obtain ⟨sm, hn, z1, z2, rfl⟩ := hp
      obtain ⟨rfl, e2⟩ := hy
      obtain ⟨a, k, ea, ek, rfl, dx, ha⟩ := (hs.keep sm).at e2
      obtain ⟨c1, c2, _⟩ := S.cls k
      have en : (ks.map HD.nm)[i]? = some k.nm := by rw [List.getElem?_map, ek] <;> rfl
      have sz : (((ks.map HD.nm).take i).map V.str).length < sizeLine := by
        have := few.n
        rw [List.length_map, List.length_take, List.length_map, sizeLine_eq]
        omega
      refine ⟨.ref a, rfl, a, _, dx, _, .str k.nm, rfl, ha, c1, c2, flds_nm k, .ref nl, rfl, nl, _, rfl, .inl (SqL.of hn), rfl, flat_strs _, _, rfl, ?_⟩
      show if inV _ _ = true then _ else _
      rw [inV_strs, decide_eq_false (notin_take nd en)]
      refine iteF ?_
      refine ⟨.ref nl, rfl, .inl ⟨rfl, _, SqL.of hn⟩, .ref a, rfl, a, _, dx, _, .str k.nm, rfl, ha, c1, c2, flds_nm k, nl, _, _, rfl, rfl, hn, sz, ?_⟩
      have nnl : ∀ b o, H b = some o → b ≠ nl := fun b o e z => by
        rw [z] at e
        rw [s1 _ _ e] at hnl
        cases hnl
      refine ⟨fun b o e => ?_, ?_, _, _, rfl⟩
      · rw [upd_ne (nnl b o e)]
        exact sm b o e
      · rw [upd_same, List.take_add_one, en, List.map_append]
        rfl
    obtain ⟨s3, hn3, z1', z2', rfl⟩ := hp
    refine ⟨L, rfl, ⟨_, Li.h _⟩, ?_⟩
    refine for_it (walk_tup (K := K) (a := L) (xs := [.ref l0, .ref l1, .ref l2])) (fun i σ H' => Same' H H' ∧ ∃ z1 z2 z4 z5 z6, σ = [some (.ref t), z1, z2, some (.ref nl), z4, z5, z6]) ⟨s3, _, _, none, none, none, rfl⟩ (fun i σ H' _ hp => Li.h H') (fun i x σ H5 H6 hi hp hy => ?_) (fun σ H3 hp => q _ hp.1)
    obtain ⟨sm, z1, z2, z4, z5, z6, rfl⟩ := hp
    obtain ⟨rfl, e2⟩ := hy
    have row : ∃ (lj : Addr) (wh : Str) (m : Nat), x = .ref lj ∧ SqT K H6 lj [.str (wdN i), .str wh, .int (m : Int)] ∧ cnt ks i ≤ m := by
      match i, hi, e2 with
      | 0, _, e2 => exact ⟨l0, _, 4, (Option.some.inj e2).symm, Li.h0 _, few.c⟩
      | 1, _, e2 => exact ⟨l1, _, 2, (Option.some.inj e2).symm, Li.h1 _, few.l⟩
      | 2, _, e2 => exact ⟨l2, _, 3, (Option.some.inj e2).symm, Li.h2 _, few.f⟩
    obtain ⟨lj, wh, m, rfl, hrow, hm⟩ := row
    have i3 : i < 3 := hi
    refine ⟨lj, _, rfl, hrow, rfl, _, _, rfl, _, _, rfl, _, _, rfl, rfl, ?_⟩
    refine ⟨.ref t, rfl, t, rfl, ⟨_, SqT.of (sm _ _ ht)⟩, fun D hD => ?_⟩
    refine lc_it walk_tup (fun j H' => Same' H6 H' ∧ ∃ ys, H' D = some (.lst ys) ∧ ys.length = cnt (ks.take j) i) ⟨same_new hD, [], upd_same, rfl⟩ (fun j H' _ hp => SqT.of (hp.1 _ _ (sm _ _ ht))) (fun j x H7 H8 hj hp hy => ?_) (fun H7 hp => ?_)
    · obtain ⟨sj, ys, ed, ey⟩ := hp
      obtain ⟨rfl, e3⟩ := hy
      obtain ⟨a, k, ea, ek, rfl, dx, ha⟩ := ((hs.keep sm).keep sj).at e3
      obtain ⟨c1, _, _⟩ := S.cls k
      obtain ⟨u, cw⟩ := W k.ix k.ix_lt
      refine ⟨rfl, ⟨.ref a, rfl, a, _, dx, _, .str (wdN k.ix), u, rfl, ha, c1, cw, flds_wd k, .str (wdN i), rfl, rfl, _, rfl, ?_⟩⟩
      have ew := wdN_eq k.ix k.ix_lt i (by omega)
      rw [ew]
      refine ite2 (fun e => ?_) (fun e => ?_)
      · have e := of_decide_eq_true e
        refine ⟨.ref a, rfl, ys, ed, ?_, same_over hD sj, ys ++ [.ref a], upd_same, ?_⟩
        · rw [ey, sizeLine_eq]
          have : cnt (ks.take j) i ≤ ks.length := Nat.le_trans (List.length_filter_le _ _) (by rw [List.length_take]; exact Nat.min_le_right _ _)
          have := few.n
          omega
        · rw [List.length_append, ey, cnt_step ek, if_pos e]
          rfl
      · have e : ¬ k.ix = i := fun z => e (decide_eq_true z)
        exact ⟨sj, ys, ed, by rw [ey, cnt_step ek, if_neg e]; rfl⟩
    · obtain ⟨sj, ys, ed, ey⟩ := hp
      rw [List.take_of_length_le (by rw [List.length_map, hs.len]; exact Nat.le_refl _)] at ey
      refine ⟨D, ys, rfl, .inl (SqL.of ed), .int (m : Int), rfl, _, _, rfl, rfl, _, rfl, ?_⟩
      rw [decide_eq_false (by rw [ey]; omega)]
      exact iteF ⟨sm.trans sj, _, _, _, _, _, rfl⟩
end
end My
/-! new tuples that are known to have no dict, and their methods -/
namespace My
open PySem PySem.Spec PyProof.Rows L2
def TupZ (H : Hp) (p : Addr) (xs : List V) : Prop := ∃ o : Obj, H p = some (.frz o (.tup xs)) ∧ o.dict = none
theorem TupZ.sq {K : PySem.W.Frag} {H : Hp} {p : Addr} {xs : List V} (h : TupZ H p xs) : SqT K H p xs := let ⟨o, e, _⟩ := h; .inl (.inr ⟨o, e⟩)
theorem TupZ.keep {H H' : Hp} {p : Addr} {xs : List V} (h : TupZ H p xs) (k : ∀ b o, H b = some o → H' b = some o) : TupZ H' p xs := let ⟨o, e, d⟩ := h; ⟨o, k _ _ e, d⟩
section
variable {X : Cx}
theorem cr_tupZ : CallR X (.type "tuple") (fun xs H Q => ∃ p ys, xs = [.ref p] ∧ SqL X.K H p ys ∧ ∀ (l : Addr) (o : Obj), H l = none → o.dict = none → Q (.ref l) (upd H l (.frz o (.tup ys)))) := by
  intro pins s σ H xs us Q I r h
  obtain ⟨p, ys, rfl, hq, q⟩ := h
  obtain ⟨u, rfl, ru⟩ := vals1 r
  obtain rfl : u = Value.ref p := ru
  obtain ⟨its, rv, pl, hz⟩ := I.list hq
  have hlen := rv.length
  refine call_tuple_list pl.isList (fun h' kp => ?_) (by simp only [List.size_toArray] <;> omega)
  have I1 : Inv X pins σ H { s with heap := h' } := I.kept (t' := s.toks) kp
  have I2 : Inv X pins σ (upd H h'.objs.size (.frz { cls := .type "tuple", data := .seq its.toArray } (.tup ys))) { s with heap := h'.push { cls := .type "tuple", data := .seq its.toArray } } :=
    I1.laid (t' := s.toks) (fun b o e => Heap.get?_push_of_some _ e) (Nat.le_refl _) ⟨Heap.get?_push_size _ rfl, hz, its, rv, IsTup.new _ _⟩
  exact ⟨.ref h'.objs.size, _, I2, rfl, q _ _ (I1.hok.fresh (Nat.le_refl _)) rfl⟩
variable {o e : Expr} {es : List Expr} {to : TE} {t : TA} {name : Str} {apos cpos : Pos} {id : String} {r : V → List V → Hp → VK → Prop}
/-- t.m(..), t such a tuple -/
def tTM (r : V → List V → Hp → VK → Prop) (to : TE) (t : TA) : TE := fun σ H Q => to σ H fun x H1 => (∃ p xs, x = .ref p ∧ TupZ H1 p xs) ∧ t σ H1 fun xs H2 => r x xs H2 Q
theorem pe_tm (slot : Slot "tuple" name id) (hty : typeOf (.builtin id) = pure (.type "method_descriptor")) (hm : MtR X id r) (ho : PE X o to) (ha : PA X (e :: es) t)
    (hbase : attributeBase o name X.env (eval o X.env) = eval o X.env := by rfl)
    (hfew : ((backTo cpos (starEach (e :: es) X.env)).all (fun x => !x.1) && (backToKw cpos (keywordEach [] X.env)).all (fun x => x.1.isSome)
      && decide ((e :: es).length + ([] : List Keyword).length + (if ([] : List Keyword).isEmpty then 0 else 1) < 30)) = true := by rfl)
    (hline : (apos.endLine == cpos.line) = true := by rfl) (hs : starEach (e :: es) X.env = (false, eval e X.env) :: starEach es X.env := by rfl) (hplain : (backTo cpos (starEach es X.env)).any (·.1) = false := by rfl) :
    PE X (.Call (.Attribute o name apos) (e :: es) [] cpos) (tTM r to t) := by
  refine ⟨fun pins s σ H Q I h => wpAny_Call_method_late hbase hfew hline rfl (thn (ho.run pins s σ H _ I h) fun v s1 z => ?_)⟩
  obtain ⟨x, H1, I1, r1, ⟨p, xs, rfl, ob, hp, hd⟩, q1⟩ := z
  obtain rfl : v = Value.ref p := r1
  obtain ⟨at_, _, its, _, tp⟩ := I1.hok p _ hp
  obtain ⟨o2, ho2, hc2, _⟩ := tp
  refine ⟨"tuple", id, PySem.F.plainAttrs_tuple, slot, hty, ⟨o2, ho2, hc2⟩, fun a e => ?_, ?_⟩
  · cases e
    exact ⟨ob, at_, hd⟩
  · have hA := ha.run cpos pins s1 σ H1 _ I1 q1
    rw [hs] at hA ⊢
    refine Calls.callWith_builtin (by show (false || (backTo cpos (starEach es X.env)).any (·.1)) = false; rw [hplain] <;> rfl) (Calls.evalArgs_plain ?_)
    exact thn hA fun us s2 ⟨vs, H2, I2, r2, q2⟩ => hm pins s2 σ H2 (.ref p) vs (.ref p) us Q I2 rfl r2 q2
end
end My
namespace My
open PySem PySem.Spec PyProof.Rows L2
structure FnB (P : Program) (w : World) (K : PySem.W.Frag) (mg : Str → Option Value) (base : Heap) (k : Nat) (x : Str) (st : Stmt) (f : Addr) (fd : FuncData) (ps : List Str) (sp : Sp) : Prop where
  F : Fun K x x st f fd
  b : Binds K fd ps []
  g : mg x = some (.ref f)
  G : FnOk P w K mg base CX0 k f fd ps sp
/-! ### two walks in one comprehension -/
section
variable {J : It} {n : Nat} {G : Hp → Prop} {Y : Nat → Hp → V → Hp → Prop} {wi1 : TI} {g g1 : TG} {tt tt1 : TT} {te : TE} {vs vs1 : List Nat} {σ : L2.St} {H1 : Hp} {D : Addr} {Qd : Hp → Prop}
def InW (J1 : It) (g1 : TG) (tt1 : TT) (te : TE) (vs1 : List Nat) (D : Addr) (Nx : Hp → Prop) (σ2 : L2.St) (H4 : Hp) : Prop := ∃ W1 : Nat → Nat → Hp → Prop, (∃ m, W1 0 m H4) ∧ ∀ j k H, W1 j k H →
  (J1.stop j H ∧ Nx H) ∨ (J1.go j H ∧ ∃ Nx1 : Hp → Prop, (∀ H', Nx1 H' → ∃ k', k' < k ∧ W1 (j + 1) k' H') ∧ ∀ x H', J1.yld j H x H' → g1 x (wipe σ2 vs1) H' fun σ3 H5 => wipe σ3 vs1 = wipe σ2 vs1 ∧ tt1 σ3 H5 fun b H6 =>
    if b = true then te σ3 H6 fun y H7 => ∃ acc, H7 D = some (.lst acc) ∧ acc.length < sizeLine ∧ Nx1 (upd H7 D (.lst (acc ++ [y]))) else Nx1 H6)
theorem lc2_in {J1 : It} {n1 : Nat} {G1 : Hp → Prop} {Y1 : Nat → Hp → V → Hp → Prop} {Nx : Hp → Prop} {σ2 : L2.St} {H4 : Hp} (w : Walk J1 n1 G1 Y1) (Pw : Nat → Hp → Prop) (h0 : Pw 0 H4) (hG : ∀ j H, j ≤ n1 → Pw j H → G1 H)
    (hs : ∀ j x H H', j < n1 → Pw j H → Y1 j H x H' → g1 x (wipe σ2 vs1) H' fun σ3 H5 => wipe σ3 vs1 = wipe σ2 vs1 ∧ tt1 σ3 H5 fun b H6 =>
      if b = true then te σ3 H6 fun y H7 => ∃ acc, H7 D = some (.lst acc) ∧ acc.length < sizeLine ∧ Pw (j + 1) (upd H7 D (.lst (acc ++ [y]))) else Pw (j + 1) H6) (hd : ∀ H, Pw n1 H → Nx H) : InW J1 g1 tt1 te vs1 D Nx σ2 H4 := by
  refine ⟨fun j k H => k = n1 - j ∧ j ≤ n1 ∧ Pw j H, ⟨n1, by simp, Nat.zero_le _, h0⟩, ?_⟩
  rintro j k H ⟨rfl, hj, p⟩
  have q := hG j H hj p
  rcases Nat.lt_or_ge j n1 with lt | ge
  · exact .inr ⟨w.goes j H lt q, Pw (j + 1), fun H' p' => ⟨n1 - (j + 1), by omega, rfl, lt, p'⟩, fun x H' y => hs j x H H' lt p (w.yields j H x H' lt q y)⟩
  · obtain rfl : j = n1 := by omega
    exact .inl ⟨w.stops H q, hd H p⟩
theorem lc2_out (w : Walk J n G Y) (Pv : Nat → Hp → Prop) (h0 : Pv 0 (upd H1 D (.lst []))) (hG : ∀ i H, i ≤ n → Pv i H → G H)
    (hs : ∀ i x H H', i < n → Pv i H → Y i H x H' → g x (wipe σ vs) H' fun σ2 H2 => wipe σ2 vs = wipe σ vs ∧ tt σ2 H2 fun b H3 => if b = true then wi1 σ2 H3 fun J1 H4 => InW J1 g1 tt1 te vs1 D (Pv (i + 1)) σ2 H4 else Pv (i + 1) H3) (hd : ∀ H, Pv n H → Qd H) :
    ∃ W : Nat → Nat → Hp → Prop, (∃ m, W 0 m (upd H1 D (.lst []))) ∧ ∀ i m H, W i m H → (J.stop i H ∧ Qd H) ∨ (J.go i H ∧ ∃ Nx : Hp → Prop, (∀ H', Nx H' → ∃ m', m' < m ∧ W (i + 1) m' H') ∧ ∀ x H', J.yld i H x H' → g x (wipe σ vs) H' fun σ2 H2 => wipe σ2 vs = wipe σ vs ∧ tt σ2 H2 fun b H3 =>
      if b = true then wi1 σ2 H3 fun J1 H4 => InW J1 g1 tt1 te vs1 D Nx σ2 H4 else Nx H3) := by
  refine ⟨fun i m H => m = n - i ∧ i ≤ n ∧ Pv i H, ⟨n, by simp, Nat.zero_le _, h0⟩, ?_⟩
  rintro i m H ⟨rfl, hi, p⟩
  have q := hG i H hi p
  rcases Nat.lt_or_ge i n with lt | ge
  · exact .inr ⟨w.goes i H lt q, Pv (i + 1), fun H' p' => ⟨n - (i + 1), by omega, rfl, lt, p'⟩, fun x H' y => hs i x H H' lt p (w.yields i H x H' lt q y)⟩
  · obtain rfl : i = n := by omega
    exact .inl ⟨w.stops H q, hd H p⟩
end
/-! ### the pairs that interact -/
def nmAt (ks : List HD) (o : Nat) : Str := (ks.map HD.nm).getD o Str.empty
def ixAt (ks : List HD) (o : Nat) : Nat := (ks.map HD.ix).getD o 4
def okP (ks : List HD) (o i : Nat) : Bool := decide (o < i) && meetB (ixAt ks o) (ixAt ks i)
def pairsO (ks : List HD) (os : List Nat) (o : Nat) : List (Str × Str) := (os.filter fun i => okP ks o i).map fun i => (nmAt ks o, nmAt ks i)
def pairsL (ks : List HD) (os us : List Nat) : List (Str × Str) := us.flatMap fun o => pairsO ks os o
/-- tuples of two texts lie there -/
structure Prs (H : Hp) (ps : List Addr) (L : List (Str × Str)) : Prop where
  len : ps.length = L.length
  is : ∀ (i : Nat) (a : Addr) (z : Str × Str), ps[i]? = some a → L[i]? = some z → H a = some (.tup [.str z.1, .str z.2])
theorem Prs.keep {H H' : Hp} {ps : List Addr} {L : List (Str × Str)} (h : Prs H ps L) (s : Same' H H') : Prs H' ps L := ⟨h.len, fun i a z e1 e2 => s _ _ (h.is i a z e1 e2)⟩
theorem Prs.add {H : Hp} {ps : List Addr} {L : List (Str × Str)} {a : Addr} {z : Str × Str} (h : Prs H ps L) (e : H a = some (.tup [.str z.1, .str z.2])) : Prs H (ps ++ [a]) (L ++ [z]) := by
  refine ⟨by rw [List.length_append, List.length_append, h.len]; rfl, fun i b y e1 e2 => ?_⟩
  rcases Nat.lt_or_ge i ps.length with lt | ge
  · rw [List.getElem?_append_left lt] at e1
    rw [List.getElem?_append_left (by rw [← h.len]; exact lt)] at e2
    exact h.is i b y e1 e2
  · rw [List.getElem?_append_right ge] at e1
    rw [List.getElem?_append_right (by rw [← h.len]; exact ge), ← h.len] at e2
    cases hj : i - ps.length with
    | zero =>
      rw [hj] at e1 e2
      cases e1
      cases e2
      exact e
    | succ j =>
      rw [hj] at e1
      simp at e1
theorem Prs.nil {H : Hp} : Prs H [] [] := ⟨rfl, fun i a z e => by simp at e⟩
theorem Hs.get {A : A4} {H : Hp} {as : List Addr} {ks : List HD} (h : Hs A H as ks) {o : Nat} (ho : o < ks.length) : ∃ a k, (as.map V.ref)[o]? = some (.ref a) ∧ ks[o]? = some k ∧ IsH A H a k := by
  have ha : o < as.length := by rw [h.len]; exact ho
  exact ⟨as[o], ks[o], by rw [List.getElem?_map, List.getElem?_eq_getElem ha]; rfl, List.getElem?_eq_getElem ho, h.is o _ _ (List.getElem?_eq_getElem ha) (List.getElem?_eq_getElem ho)⟩
theorem pairsO_len (ks : List HD) (os : List Nat) (o : Nat) : (pairsO ks os o).length ≤ os.length := by
  unfold pairsO
  rw [List.length_map]
  exact List.length_filter_le _ _
theorem pairsL_len (ks : List HD) (os : List Nat) : ∀ us : List Nat, (pairsL ks os us).length ≤ us.length * os.length
  | [] => Nat.zero_le _
  | u :: us => by
    have := pairsL_len ks os us
    have h2 := pairsO_len ks os u
    unfold pairsL at this ⊢
    rw [List.flatMap_cons, List.length_append, List.length_cons, Nat.succ_mul]
    omega
/-- where the names of ys stand in ks -/
structure Order (ks : List HD) (os : List Nat) (ys : List Str) : Prop where
  len : os.length = ys.length
  is : ∀ (j o : Nat), os[j]? = some o → o < ks.length ∧ ys[j]? = some (nmAt ks o)
def spPairs (A : A4) : Sp := fun vs H Q _ => ∃ (t n : Addr) (as : List Addr) (ks : List HD), vs = [.ref t, .ref n] ∧ H t = some (.tup (as.map V.ref)) ∧ TupZ H n ((ks.map HD.nm).map V.str) ∧ Hs A H as ks ∧ Few ks ∧
  ∀ (p : Addr) (ps : List Addr) (os : List Nat) (ys : List Str) (H' : Hp), Asc (ks.map HD.nm) ys → Order ks os ys → Same' H H' → Prs H' ps (pairsL ks os os) → H' p = some (.tup (ps.map V.ref)) → Q (.ref p) H'
/-- meets, asked of a handler -/
structure MeetK (P : Program) (w : World) (K : PySem.W.Frag) (mg : Str → Option Value) (base : Heap) (A : A4) (bK bT fM : Addr) (dM : FuncData) : Prop where
  m : ∀ i, i < 4 → Meth K (A.at i) "meets" fM
  b : Binds K dM ["self", "other"] []
  G : FnOk P w K mg base CX0 2 fM dM ["self", "other"] (spMeets K A bK bT)
theorem no_meets (k : HD) : k.flds.lookup ("meets" : Str) = none := by cases k <;> rfl
theorem Order.nil {ks : List HD} : Order ks [] [] := ⟨rfl, fun j o e => by simp at e⟩
theorem Order.add {ks : List HD} {os : List Nat} {ys : List Str} {o : Nat} {z : Str} (h : Order ks os ys) (ho : o < ks.length) (hz : z = nmAt ks o) : Order ks (os ++ [o]) (ys ++ [z]) := by
  refine ⟨by rw [List.length_append, List.length_append, h.len]; rfl, fun j p e => ?_⟩
  rcases Nat.lt_or_ge j os.length with lt | ge
  · rw [List.getElem?_append_left lt] at e
    rw [List.getElem?_append_left (by rw [← h.len]; exact lt)]
    exact h.is j p e
  · rw [List.getElem?_append_right ge] at e
    rw [List.getElem?_append_right (by rw [← h.len]; exact ge), ← h.len]
    cases hj : j - os.length with
    | zero =>
      rw [hj] at e
      cases e
      exact ⟨ho, by rw [hz]; rfl⟩
    | succ i =>
      rw [hj] at e
      simp at e
theorem nmAt_of {ks : List HD} {o : Nat} {z : Str} (h : (ks.map HD.nm)[o]? = some z) : o < ks.length ∧ z = nmAt ks o := by
  obtain ⟨h1, h2⟩ := List.getElem?_eq_some_iff.mp h
  refine ⟨by simpa using h1, ?_⟩
  unfold nmAt
  rw [List.getD_eq_getElem?_getD, h]
  rfl
theorem first_at {zs : List Str} (nd : zs.Nodup) {z : Str} (h : z ∈ zs) : ∃ o : Nat, zs[o]? = some z ∧ ∀ m : Nat, m < o → zs[m]? ≠ some z := by
  obtain ⟨o, ho, e⟩ := List.mem_iff_getElem.mp h
  refine ⟨o, by rw [List.getElem?_eq_getElem ho, e], fun m hm q => ?_⟩
  obtain ⟨hm2, e2⟩ := List.getElem?_eq_some_iff.mp q
  exact (List.pairwise_iff_getElem.mp nd) m o hm2 ho hm (e2.trans e.symm)
theorem at_k {ks : List HD} {o : Nat} {k : HD} (h : ks[o]? = some k) : nmAt ks o = k.nm ∧ ixAt ks o = k.ix := by
  unfold nmAt ixAt
  rw [List.getD_eq_getElem?_getD, List.getD_eq_getElem?_getD, List.getElem?_map, List.getElem?_map, h]
  exact ⟨rfl, rfl⟩
theorem pairsL_step {ks : List HD} {os us : List Nat} {i o : Nat} (h : us[i]? = some o) : pairsL ks os (us.take (i + 1)) = pairsL ks os (us.take i) ++ pairsO ks os o := by
  unfold pairsL
  rw [List.take_add_one, h, List.flatMap_append]
  simp
theorem pairsO_step {ks : List HD} {os : List Nat} {j o i : Nat} (h : os[j]? = some i) : pairsO ks (os.take (j + 1)) o = pairsO ks (os.take j) o ++ (if okP ks o i = true then [(nmAt ks o, nmAt ks i)] else []) := by
  unfold pairsO
  rw [List.take_add_one, h, List.filter_append, List.map_append]
  congr 1
  show (List.filter _ [i]).map _ = _
  rw [List.filter_cons]
  split <;> rfl
def rIdx (K : PySem.W.Frag) : V → List V → Hp → VK → Prop := fun x xs H Q => ∃ p, ∃ ys : List Str, ∃ z j, x = .ref p ∧ xs = [.str z] ∧ SqT K H p (ys.map V.str) ∧ ys[j]? = some z ∧ (∀ m, m < j → ys[m]? ≠ some z) ∧ Q (.int (j : Nat)) H
section
variable {P : Program} {w : World} {K : PySem.W.Frag} {mg : Str → Option Value} {base : Heap}
abbrev nPairs : List Str := ["handlers", "names", "order", "name", "outer", "inner"]
theorem scPairs : FnScope nPairs ["handlers", "names"] (defScope sPairs) := ⟨rfl, rfl, rfl, by decide +kernel, rfl, by decide +kernel, by decide +kernel⟩
abbrev XP (P : Program) (w : World) (K : PySem.W.Frag) (mg : Str → Option Value) (base : Heap) (f : Addr) (cdv : Value) (A : Around) (outer : List Env) (s : Shared) (H : Hp) (E : XK) : Cx := (cxOf CX0 P w K mg base nPairs "_pairs_of" (defScope sPairs) f cdv A outer s H E).nox
theorem ok_pairs {A : A4} {f fA bN bK bT bH fM : Addr} {fd dA dM : FuncData} (F : Fun K "_pairs_of" "_pairs_of" sPairs f fd) (S : Hand K mg A) (T : Txt mg) (Ba : Bases K mg A bN bK bT bH) (As : FnB P w K mg base 1 "ascending" sAsc fA dA ["names"] (spAsc K)) (M : MeetK P w K mg base A bK bT fM dM) :
    FnOk P w K mg base CX0 3 f fd ["handlers", "names"] (spPairs A) := by
  refine F.ok scPairs (fun vs H Q E h => ?_) (fun cdv A0 outer s H vs Q E hr h => ?_)
  · obtain ⟨t, n, as, ks, rfl, _⟩ := h
    rfl
  · obtain ⟨t, n, as, ks, rfl, ht, hn, hs, few, q⟩ := h
    refine ⟨_, pss_cons (ps_set (i := 2) scPairs.nd rfl (.inr rfl)
        (pe_lc (own := [("name", 3)]) (g := gName 3) (tt := tYes) rfl scPairs.nd (pi_tup (pe_call As.G (hr.mono (by decide)) (by rfl) As.g As.F.kp As.b .nil pass0 (pa_cons (pv 1) pa_nil))) (blkOk_by (N := nPairs) (sc := defScope sPairs) (by decide +kernel)) (fun _ _ _ _ _ => pg_name (i := 3) scPairs.nd rfl (Or.inl rfl)) (fun _ _ _ _ _ => pts_nil)
          (fun _ _ _ _ _ => show PE _ _ (tTM (rIdx K) (tVar 1) (tCons (tVar 3) tNil)) from pe_tm PySem.F.slot_tuple_index PySem.F.type_tuple_index mt_tup_index (pv 1) (pa_cons (pv 3) pa_nil))))
      (pss_one (ps_ret (pe_callTy call_tuple_of (by rfl) T.tuple (by decide +kernel) (pa_cons
        (pe_lc2 (own := [("outer", 4), ("inner", 5)]) (vs1 := [5]) (g := gName 4) (tt := tYes) (g1 := gName 5) rfl scPairs.nd (pi_list (pv 2)) (blkOk_by (N := nPairs) (sc := defScope sPairs) (by decide +kernel)) (by decide)
          (fun _ _ _ _ _ => pg_name (i := 4) scPairs.nd rfl (Or.inl rfl)) (fun _ _ _ _ _ => pts_nil) (fun _ _ _ _ _ => show PI _ _ _ (iList K (tVar 2)) from pi_list (pv 2)) (fun _ _ _ _ _ => pg_name (i := 5) scPairs.nd rfl (Or.inl rfl))
          (fun s1 H1 C1 cl1 fp1 => pts_one (PW.pt (pw_and (pt_cmpR op_lt (pv 4) (pv 5) (nomark _)) (pw_and1 (pt_val
            (show PE _ _ (tMethA "meets" fM K (spMeets K A bK bT) [] (fun _ _ _ => False) _ _) from pe_methA (X := (XP P w K mg base f cdv A0 outer s H E).blk s1 H1 _ (compEnvC _ cl1 C1 (XP P w K mg base f cdv A0 outer s H E).env) fp1) (pe_ix (show IxR _ (rIxT K) from ix_tup) (pv 0) (pv 4) (fun _ _ => rfl)) M.G hr M.b .nil pass0 (pa_cons (pe_ix (show IxR _ (rIxT K) from ix_tup) (pv 0) (pv 5) (fun _ _ => rfl)) pa_nil)))))))
          (fun _ _ _ _ _ => pe_tup (pa_cons (pe_ix (show IxR _ (rIxT K) from ix_tup) (pv 1) (pv 4) (fun _ _ => rfl)) (pa_cons (pe_ix (show IxR _ (rIxT K) from ix_tup) (pv 1) (pv 5) (fun _ _ => rfl)) pa_nil)))) pa_nil)))), ?_⟩
    have nd := few.nd
    have lz : (ks.map HD.nm).length = ks.length := List.length_map ..
    refine ⟨.ref n, rfl, n, ks.map HD.nm, rfl, .inr hn.sq, by rw [lz]; exact few.n, fun y0 ys H1 hasc s1 hy => ?_⟩
    refine ⟨y0, rfl, ⟨_, SqT.of hy⟩, fun D hD => ?_⟩
    have yl : ys.length ≤ ks.length := by
      rw [← lz]
      exact nodup_len ys _ hasc.nd fun z hz => (hasc.mem z).mp hz
    refine lc_it walk_tup (fun i H' => Same' H1 H' ∧ ∃ os : List Nat, H' D = some (.lst (os.map fun (o : Nat) => V.int (o : Int))) ∧ Order ks os (ys.take i)) ⟨same_new hD, [], upd_same, .nil⟩ (fun i H' _ hp => SqT.of (hp.1 _ _ hy)) (fun i x H2 H3 hi hp hx => ?_) (fun H2 hp => ?_)
    · obtain ⟨sm, os, ed, ho⟩ := hp
      obtain ⟨rfl, e2⟩ := hx
      rw [List.getElem?_map] at e2
      cases ez : ys[i]? with
      | none => rw [ez] at e2; cases e2
      | some z =>
        rw [ez] at e2
        obtain rfl := (Option.some.inj e2).symm
        have hz : z ∈ ks.map HD.nm := (hasc.mem z).mp (List.mem_of_getElem? ez)
        obtain ⟨o, h1, h2⟩ := first_at nd hz
        have hn1 := hn.keep fun b o e => sm _ _ (s1 _ _ e)
        refine ⟨rfl, ⟨.ref n, rfl, ⟨n, _, rfl, hn1⟩, .str z, rfl, n, _, z, o, rfl, rfl, hn1.sq, h1, h2, _, ed, ?_, same_over hD sm, os ++ [o], ?_, ?_⟩⟩
        · rw [List.length_map, ho.len, List.length_take, sizeLine_eq]
          have := few.n
          omega
        · rw [upd_same, List.map_append]
          rfl
        · rw [List.take_add_one, ez]
          exact ho.add (nmAt_of h1).1 (nmAt_of h1).2
    obtain ⟨s2, os, ed, ho⟩ := hp
    rw [List.take_of_length_le (by rw [List.length_map]; exact Nat.le_refl _)] at ho
    have s12 := s1.trans s2
    have few64 := few.n
    have ol : os.length < 64 := by rw [ho.len]; omega
    refine ⟨.ref D, rfl, D, rfl, ⟨_, SqL.of ed⟩, fun D2 hD2 => ?_⟩
    have at_o : ∀ {i : Nat} {x : V}, (os.map fun (o : Nat) => V.int (o : Int))[i]? = some x → ∃ o, os[i]? = some o ∧ x = .int (o : Int) ∧ o < ks.length := fun {i x} e => by
      rw [List.getElem?_map] at e
      cases eo : os[i]? with
      | none => rw [eo] at e; cases e
      | some o =>
        rw [eo] at e
        exact ⟨o, rfl, (Option.some.inj e).symm, (ho.is i o eo).1⟩
    have nmz : ∀ o, o < ks.length → atI ((ks.map HD.nm).map V.str) (o : Int) = some (.str (nmAt ks o)) := fun o h => by
      refine atI_nat ?_
      rw [List.getElem?_map, List.getElem?_map, List.getElem?_eq_getElem h]
      rw [(at_k (List.getElem?_eq_getElem h)).1]
      rfl
    have lenz : ∀ i j o, i < os.length → (pairsL ks os (os.take i) ++ pairsO ks (os.take j) o).length < sizeLine := fun i j o hi => by
      have h1 := pairsL_len ks os (os.take i)
      have h2 := pairsO_len ks (os.take j) o
      rw [List.length_take] at h1 h2
      rw [List.length_append, sizeLine_eq]
      have h3 : min i os.length * os.length ≤ 63 * 63 := Nat.mul_le_mul (by omega) (by omega)
      omega
    refine lc2_out (walk_list (K := K) (a := D) (xs := os.map fun (o : Nat) => V.int (o : Int))) (fun i H' => Same' H2 H' ∧ ∃ ps : List Addr, H' D2 = some (.lst (ps.map V.ref)) ∧ Prs H' ps (pairsL ks os (os.take i))) ⟨same_new hD2, [], upd_same, .nil⟩ (fun i H' _ hp => SqL.of (hp.1 _ _ ed)) (fun i x H3 H4 hi hp hx => ?_) (fun H3 hp => ?_)
    · obtain ⟨sm, ps, ed2, hps⟩ := hp
      obtain ⟨rfl, e2⟩ := hx
      obtain ⟨o, eo, rfl, lo⟩ := at_o e2
      rw [List.length_map] at hi
      refine ⟨rfl, ⟨.ref D, rfl, D, rfl, ⟨_, SqL.of (sm _ _ ed)⟩, ?_⟩⟩
      refine lc2_in (walk_list (K := K) (a := D) (xs := os.map fun (o : Nat) => V.int (o : Int))) (fun j H' => Same' H2 H' ∧ ∃ ps : List Addr, H' D2 = some (.lst (ps.map V.ref)) ∧ Prs H' ps (pairsL ks os (os.take i) ++ pairsO ks (os.take j) o)) ⟨sm, ps, ed2, by rw [show pairsO ks (os.take 0) o = [] from rfl, List.append_nil]; exact hps⟩ (fun j H' _ hp => SqL.of (hp.1 _ _ ed)) (fun j x H5 H6 hj hp hx => ?_) (fun H5 hp => ?_)
      · obtain ⟨sm5, ps5, ed5, hps5⟩ := hp
        obtain ⟨rfl, e3⟩ := hx
        obtain ⟨o2, eo2, rfl, lo2⟩ := at_o e3
        have s15 : Same' H H6 := s12.trans sm5
        have hs5 := hs.keep s15
        have ht5 := SqT.of (K := K) (s15 _ _ ht)
        have hn5 := (hn.keep s15).sq (K := K)
        obtain ⟨a, k, ea, ek, ha⟩ := hs5.get lo
        obtain ⟨b, k2, eb, ek2, hb⟩ := hs5.get lo2
        have stp := pairsO_step (ks := ks) (o := o) eo2
        have no : okP ks o o2 = false → Same' H2 H6 ∧ ∃ ps : List Addr, H6 D2 = some (.lst (ps.map V.ref)) ∧ Prs H6 ps (pairsL ks os (os.take i) ++ pairsO ks (os.take (j + 1)) o) := fun e => by
          rw [stp, e]
          exact ⟨sm5, ps5, ed5, by simpa using hps5⟩
        have okb : okP ks o o2 = (decide (o < o2) && meetB k.ix k2.ix) := by
          unfold okP
          rw [(at_k ek).2, (at_k ek2).2]
        refine ⟨rfl, ⟨.int (o : Int), rfl, .int (o2 : Int), rfl, _, _, rfl, rfl, _, rfl, ite2 (fun e => ?_) (fun e => ?_)⟩⟩
        · have lt : o < o2 := by
            have := of_decide_eq_true e
            omega
          obtain ⟨dx, ha'⟩ := id ha
          refine ⟨.ref t, rfl, .int (o : Int), rfl, t, _, _, .ref a, rfl, rfl, ht5, atI_nat ea, a, _, dx, _, rfl, ha', (S.cls k).1, M.m _ k.ix_lt, no_meets k, ?_⟩
          refine ⟨.ref t, rfl, .int (o2 : Int), rfl, t, _, _, .ref b, rfl, rfl, ht5, atI_nat eb, .ref a, .ref b, k.ix, k2.ix, rfl, knd_h S Ba ha, knd_h S Ba hb, _, rfl, ite2 (fun e2 => ?_) (fun e2 => ?_)⟩
          · have yes : okP ks o o2 = true := by rw [okb, decide_eq_true lt, e2]; rfl
            refine ⟨.ref n, rfl, .int (o : Int), rfl, n, _, _, .str (nmAt ks o), rfl, rfl, hn5, nmz o lo, .ref n, rfl, .int (o2 : Int), rfl, n, _, _, .str (nmAt ks o2), rfl, rfl, hn5, nmz o2 lo2, by show 2 ≤ sizeLine; decide, fun tt htt => ?_⟩
            have st := same_new (o := .tup [V.str (nmAt ks o), V.str (nmAt ks o2)]) htt
            have e8 := st _ _ ed5
            have ntt : tt ≠ D2 := (ne_of_none ed5 htt).symm
            have keep : ∀ b u, b ≠ D2 → H6 b = some u → upd (upd H6 tt (.tup [.str (nmAt ks o), .str (nmAt ks o2)])) D2 (.lst (ps5.map V.ref ++ [.ref tt])) b = some u := fun b u n e => by
              rw [upd_ne n]
              exact st _ _ e
            have nD2 : ∀ b u, H2 b = some u → b ≠ D2 := fun b u e => ne_of_none e hD2
            refine ⟨_, e8, ?_, fun b u e => keep b u (nD2 b u e) (sm5 _ _ e), ps5 ++ [tt], ?_, ?_⟩
            · rw [List.length_map, hps5.len]
              exact lenz i j o hi
            · rw [upd_same, List.map_append]
              rfl
            · rw [stp, yes, if_pos rfl, ← List.append_assoc]
              refine Prs.add ⟨hps5.len, fun i2 b z e1 e2 => ?_⟩ ?_
              · have e3 := hps5.is i2 b z e1 e2
                refine keep b _ (fun q => ?_) e3
                rw [q, ed5] at e3
                cases e3
              · rw [upd_ne ntt]
                exact upd_same
          · exact no (by rw [okb, Bool.eq_false_iff.mpr e2, Bool.and_false])
        · have nlt : ¬ o < o2 := fun h => e (decide_eq_true (by omega))
          exact iteF (no (by rw [okb, decide_eq_false nlt]; rfl))
      · obtain ⟨sm5, ps5, ed5, hps5⟩ := hp
        refine ⟨sm5, ps5, ed5, ?_⟩
        rw [pairsL_step eo]
        have all : os.take ((os.map fun (o : Nat) => V.int (o : Int)).length) = os := List.take_of_length_le (by rw [List.length_map]; exact Nat.le_refl _)
        rw [all] at hps5
        exact hps5
    · obtain ⟨sm, ps, ed2, hps⟩ := hp
      rw [List.take_of_length_le (by rw [List.length_map]; exact Nat.le_refl _)] at hps
      refine ⟨D2, _, rfl, .inl ⟨SqL.of ed2, fun l hl => ?_⟩⟩
      have sl := same_new (o := .tup (ps.map V.ref)) hl
      exact q l ps os ys _ hasc ho (s12.trans (sm.trans sl)) (hps.keep sl) upd_same
end
end My
namespace My
open PySem PySem.Spec PyProof.Rows L2
/-! ### parts of rows -/
theorem cut_whole (xs : List V) {lo hi : Option Int} (h : HT.sIx xs.length 0 lo = 0 ∧ HT.sIx xs.length xs.length hi = xs.length) : cutV xs lo hi = xs := by
  unfold cutV
  rw [h.1, h.2, List.drop_zero, Nat.sub_zero, List.take_length]
theorem cut_to (xs : List V) (k : Nat) : cutV xs none (some (k : Int)) = xs.take k := by
  unfold cutV
  rw [HT.sIx_none, HT.sIx_nat, List.drop_zero, Nat.sub_zero]
  rcases Nat.le_total k xs.length with h | h
  · rw [Nat.min_eq_left h]
  · rw [Nat.min_eq_right h, List.take_length, List.take_of_length_le h]
theorem cut_from (xs : List V) (k : Nat) : cutV xs (some (k : Int)) none = xs.drop k := by
  unfold cutV
  rw [HT.sIx_none, HT.sIx_nat]
  rcases Nat.le_total k xs.length with h | h
  · rw [Nat.min_eq_left h]
    exact List.take_of_length_le (by rw [List.length_drop]; exact Nat.le_refl _)
  · rw [Nat.min_eq_right h, Nat.sub_self, List.take_zero, List.drop_of_length_le h]
theorem rd_cut {K : PySem.W.Frag} {H : Hp} {a : Addr} {xs : List V} {lo hi : Option Int} {Q : VK} (hx : SqT K H a xs) (q : ∀ r H', Same' H H' → SqT K H' r (cutV xs lo hi) → Q (.ref r) H') : rSlA K (.ref a) lo hi H Q :=
  ⟨a, xs, rfl, hx, fun h => q a H (fun _ _ e => e) (by rw [cut_whole xs h]; exact hx), fun _ p hp => q p _ (same_new hp) (SqT.of upd_same)⟩
theorem Hs.take {A : A4} {H : Hp} {as : List Addr} {ks : List HD} (h : Hs A H as ks) (n : Nat) : Hs A H (as.take n) (ks.take n) := by
  refine ⟨by rw [List.length_take, List.length_take, h.len], fun i a k e1 e2 => ?_⟩
  rw [List.getElem?_take] at e1 e2
  split at e1
  · rename_i hi
    rw [if_pos hi] at e2
    exact h.is i a k e1 e2
  · cases e1
theorem Hs.drop {A : A4} {H : Hp} {as : List Addr} {ks : List HD} (h : Hs A H as ks) (n : Nat) : Hs A H (as.drop n) (ks.drop n) := by
  refine ⟨by rw [List.length_drop, List.length_drop, h.len], fun i a k e1 e2 => ?_⟩
  rw [List.getElem?_drop] at e1 e2
  exact h.is _ a k e1 e2
def namesOf (p : Nat → Bool) (ks : List HD) : List Str := (ks.filter fun k => p k.ix).map HD.nm
theorem namesOf_step {p : Nat → Bool} {ks : List HD} {i : Nat} {k : HD} (h : ks[i]? = some k) : namesOf p (ks.take (i + 1)) = namesOf p (ks.take i) ++ (if p k.ix = true then [k.nm] else []) := by
  unfold namesOf
  rw [List.take_add_one, h, List.filter_append, List.map_append]
  congr 1
  show (List.filter _ [k]).map _ = _
  rw [List.filter_cons]
  split <;> rfl
theorem namesOf_len (p : Nat → Bool) (ks : List HD) : (namesOf p ks).length ≤ ks.length := by
  unfold namesOf
  rw [List.length_map]
  exact List.length_filter_le _ _
def isKeep (i : Nat) : Bool := decide (i < 2)
def isFail (i : Nat) : Bool := decide (i = 2)
def anyK (_ : Nat) : Bool := true
/-- [handler.name for handler in t if ..] -/
def LcW (J : It) (g : TG) (tt : TT) (te : TE) (vs : List Nat) (σ : L2.St) (D : Addr) (Qd : Hp → Prop) (H1 : Hp) : Prop := ∃ W : Nat → Nat → Hp → Prop, (∃ m, W 0 m (upd H1 D (.lst []))) ∧ ∀ i m H, W i m H →
  (J.stop i H ∧ Qd H) ∨ (J.go i H ∧ ∃ Nx : Hp → Prop, (∀ H', Nx H' → ∃ m', m' < m ∧ W (i + 1) m' H') ∧ ∀ x H', J.yld i H x H' → g x (wipe σ vs) H' fun σ2 H2 => wipe σ2 vs = wipe σ vs ∧ tt σ2 H2 fun b H3 =>
    if b = true then te σ2 H3 fun y H4 => ∃ acc, H4 D = some (.lst acc) ∧ acc.length < sizeLine ∧ Nx (upd H4 D (.lst (acc ++ [y]))) else Nx H3)
section
variable {K : PySem.W.Frag} {mg : Str → Option Value} {A : A4}
theorem names_lap {σ : L2.St} {h : Nat} {H1 : Hp} {D t : Addr} {as : List Addr} {ks : List HD} {tt : TT} {Qd : Hp → Prop} (S : Hand K mg A) (p : Nat → Bool) (hv : ∀ x : V, ((wipe σ [h]).set h (some x))[h]? = some (some x)) (hw : ∀ x : V, wipe ((wipe σ [h]).set h (some x)) [h] = wipe σ [h])
    (htt : ∀ (a : Addr) (k : HD) (H' : Hp) (R : Bool → Hp → Prop), Same' H1 H' → IsH A H' a k → R (p k.ix) H' → tt ((wipe σ [h]).set h (some (.ref a))) H' R) (hD : H1 D = none) (ht : SqT K H1 t (as.map V.ref)) (hs : Hs A H1 as ks) (few : ks.length < 64)
    (q : ∀ H', Same' H1 H' → H' D = some (.lst ((namesOf p ks).map V.str)) → Qd H') : LcW (Itt K t) (gName h) tt (tFld K (tVar h) "name") [h] σ D Qd H1 := by
  refine lc_it walk_tup (fun i H' => Same' H1 H' ∧ H' D = some (.lst ((namesOf p (ks.take i)).map V.str))) ⟨same_new hD, upd_same⟩ (fun i H' _ hp => ht.ext hp.1) (fun i x H2 H3 hi hp hx => ?_) (fun H2 hp => ?_)
  · obtain ⟨sm, ed⟩ := hp
    obtain ⟨rfl, e2⟩ := hx
    obtain ⟨a, k, ea, ek, rfl, ha⟩ := (hs.keep sm).at e2
    refine ⟨hw _, htt a k H3 _ sm ha ?_⟩
    have stp := namesOf_step (p := p) ek
    refine ite2 (fun e => ?_) (fun e => ?_)
    · obtain ⟨dx, ha'⟩ := id ha
      obtain ⟨c1, c2, _⟩ := S.cls k
      refine ⟨.ref a, hv _, a, _, dx, _, .str k.nm, rfl, ha', c1, c2, flds_nm k, _, ed, ?_, same_over hD sm, ?_⟩
      · have := namesOf_len p (ks.take i)
        rw [List.length_take] at this
        rw [List.length_map, sizeLine_eq]
        omega
      · rw [upd_same, stp, if_pos e, List.map_append]
        rfl
    · refine ⟨sm, ?_⟩
      rw [stp, if_neg e, List.append_nil]
      exact ed
  · refine q H2 hp.1 ?_
    rw [hp.2, List.take_of_length_le (by rw [List.length_map, hs.len]; exact Nat.le_refl _)]
theorem tt_isi {σ : L2.St} {h : Nat} {B : Addr} (S : Hand K mg A) (p : Nat → Bool) (hB : ∀ i, i < 4 → PySem.W.kitOne K (.ref (A.at i)) (.ref B) = some (p i)) {a : Addr} {k : HD} {H' : Hp} {R : Bool → Hp → Prop} (hv : σ[h]? = some (some (.ref a))) (ha : IsH A H' a k) (r : R (p k.ix) H') :
    tB (tCB (rIsi K) (tCons (tVar h) (tCons (tC (.ref B)) tNil))) σ H' R :=
  ⟨.ref a, hv, .ref a, .ref B, _, .ref B, _, rfl, .own _, S.ty ha, hB _ k.ix_lt, _, rfl, r⟩
end
/-! ### what a stack is -/
def chAt (ks : List HD) : Nat := ((ks.map HD.nm).findIdx? fun z => decide (z = ("choice" : Str))).getD 0
structure Stk (A : A4) (C : Addr) (H : Hp) (a : Addr) (ks : List HD) (dx t n p1 p2 p3 p4 : Addr) (as ps : List Addr) (y1 y2 y3 ys : List Str) (os : List Nat) : Prop where
  o : H a = some (.ins C dx [("handlers", .ref t), ("names", .ref n), ("shared", .ref p1), ("own", .ref p2), ("gathering", .ref p3), ("pairs", .ref p4)])
  t : H t = some (.tup (as.map V.ref))
  hs : Hs A H as ks
  n : TupZ H n ((ks.map HD.nm).map V.str)
  s1 : H p1 = some (.tup (y1.map V.str))
  s2 : H p2 = some (.tup (y2.map V.str))
  s3 : H p3 = some (.tup (y3.map V.str))
  s4 : H p4 = some (.tup (ps.map V.ref))
  a1 : Asc (namesOf isKeep (ks.take (chAt ks))) y1
  a2 : Asc (namesOf isKeep (ks.drop (chAt ks))) y2
  a3 : Asc (namesOf isFail (ks.take (chAt ks))) y3
  pr : Prs H ps (pairsL ks os os)
  ay : Asc (ks.map HD.nm) ys
  od : Order ks os ys
theorem Stk.keep {A : A4} {C : Addr} {H H' : Hp} {a : Addr} {ks : List HD} {dx t n p1 p2 p3 p4 : Addr} {as ps : List Addr} {y1 y2 y3 ys : List Str} {os : List Nat} (h : Stk A C H a ks dx t n p1 p2 p3 p4 as ps y1 y2 y3 ys os) (s : Same' H H') : Stk A C H' a ks dx t n p1 p2 p3 p4 as ps y1 y2 y3 ys os :=
  ⟨s _ _ h.o, s _ _ h.t, h.hs.keep s, h.n.keep s, s _ _ h.s1, s _ _ h.s2, s _ _ h.s3, s _ _ h.s4, h.a1, h.a2, h.a3, h.pr.keep s, h.ay, h.od⟩
def StkAt (A : A4) (C : Addr) (H : Hp) (a : Addr) (ks : List HD) : Prop := ∃ dx t n p1 p2 p3 p4 as ps y1 y2 y3 ys os, Stk A C H a ks dx t n p1 p2 p3 p4 as ps y1 y2 y3 ys os
theorem StkAt.keep {A : A4} {C : Addr} {H H' : Hp} {a : Addr} {ks : List HD} (h : StkAt A C H a ks) (s : Same' H H') : StkAt A C H' a ks := by
  obtain ⟨dx, t, n, p1, p2, p3, p4, as, ps, y1, y2, y3, ys, os, h⟩ := h
  exact ⟨_, _, _, _, _, _, _, _, _, _, _, _, _, _, h.keep s⟩
structure SCls (K : PySem.W.Frag) (mg : Str → Option Value) (C : Addr) : Prop where
  g : mg "Stack" = some (.ref C)
  c : Cls K C
  no : ∀ f ∈ (["handlers", "names", "shared", "own", "gathering", "pairs"] : List Str), NoAttr K C f
end My
namespace My
open PySem PySem.Spec PyProof.Rows L2
abbrev sStk (i : Nat) : Stmt := inClass (topS 39) i
/-- its __init__, the handlers in a tuple -/
def spIniT (A : A4) (C : Addr) : Sp := fun vs H Q _ => ∃ (a dx t : Addr) (as : List Addr) (ks : List HD), vs = [.ref a, .ref t] ∧ H a = some (.ins C dx []) ∧ H t = some (.tup (as.map V.ref)) ∧ Hs A H as ks ∧ Few ks ∧
  ∀ H', Keep1 a H H' → StkAt A C H' a ks → Q .non H'
def spIni (A : A4) (C : Addr) : Sp := fun vs H Q _ => ∃ (a dx : Addr) (as : List Addr) (ks : List HD), vs = .ref a :: as.map V.ref ∧ H a = some (.ins C dx []) ∧ Hs A H as ks ∧ Few ks ∧
  ∀ H', Keep1 a H H' → StkAt A C H' a ks → Q .non H'
theorem namesOf_any (ks : List HD) : namesOf anyK ks = ks.map HD.nm := by
  unfold namesOf anyK
  rw [List.filter_eq_self.mpr fun _ _ => rfl]
theorem Keep1.of {a : Addr} {H H' : Hp} (s : Same' H H') : Keep1 a H H' := fun b o _ e => s b o e
theorem Keep1.trans {a : Addr} {H H' H2 : Hp} (s : Keep1 a H H') (t : Keep1 a H' H2) : Keep1 a H H2 := fun b o n e => t b o n (s b o n e)
theorem put_at {C dx a : Addr} {H : Hp} (f : Str) (v : V) (fs : List (Str × V)) : ∃ H', upd H a (.ins C dx (putF f v fs)) = H' ∧ Keep1 a H H' ∧ H' a = some (.ins C dx (putF f v fs)) :=
  ⟨_, rfl, fun b o n e => by rw [upd_ne n]; exact e, upd_same⟩
theorem Hs.keep1 {A : A4} {H H' : Hp} {a dx : Addr} {C : Addr} {fs : List (Str × V)} {as : List Addr} {ks : List HD} (h : Hs A H as ks) (n : ∀ b ∈ as, b ≠ a) (s : Keep1 a H H') : Hs A H' as ks :=
  ⟨h.len, fun i b k e1 e2 => let ⟨dx, q⟩ := h.is i b k e1 e2; ⟨dx, s b _ (n b (List.mem_of_getElem? e1)) q⟩⟩
section
variable {K : PySem.W.Frag} {H H' : Hp} {a C dx : Addr} {fs : List (Str × V)}
theorem ne_ins {x : Addr} {o : HO} (ha : H a = some (.ins C dx fs)) (h : H x = some o) (n : o ≠ .ins C dx fs) : x ≠ a := fun z => by
  rw [z, ha] at h
  exact n (Option.some.inj h).symm
theorem keep_tup {x : Addr} {xs : List V} (k : Keep1 a H H') (ha : H a = some (.ins C dx fs)) (h : H x = some (.tup xs)) : H' x = some (.tup xs) := k _ _ (ne_ins ha h (fun z => nomatch z)) h
theorem keep_sq {x : Addr} {xs : List V} (k : Keep1 a H H') (ha : H a = some (.ins C dx fs)) (h : SqT K H x xs) : SqT K H' x xs := by
  rcases h with (h | ⟨o, h⟩) | h
  · exact .inl (.inl (keep_tup k ha h))
  · exact .inl (.inr ⟨o, k _ _ (ne_ins ha h (fun z => nomatch z)) h⟩)
  · exact .inr h
theorem keep_z {x : Addr} {xs : List V} (k : Keep1 a H H') (ha : H a = some (.ins C dx fs)) (h : TupZ H x xs) : TupZ H' x xs := by
  obtain ⟨o, e, d⟩ := h
  exact ⟨o, k _ _ (ne_ins ha e (fun z => nomatch z)) e, d⟩
theorem keep_prs {ps : List Addr} {L : List (Str × Str)} (k : Keep1 a H H') (ha : H a = some (.ins C dx fs)) (h : Prs H ps L) : Prs H' ps L := ⟨h.len, fun i b z e1 e2 => keep_tup k ha (h.is i b z e1 e2)⟩
end
abbrev nIni : List Str := ["self", "handlers", "outside", "inside", "handler"]
section
variable {P : Program} {w : World} {K : PySem.W.Frag} {mg : Str → Option Value} {base : Heap}
theorem scIni : FnScope nIni ["self", "handlers"] (defScope (sStk 0)) := ⟨rfl, rfl, rfl, by decide +kernel, rfl, by decide +kernel, by decide +kernel⟩
structure InK (P : Program) (w : World) (K : PySem.W.Frag) (mg : Str → Option Value) (base : Heap) (A : A4) (C bN bK bT bH fC fA fP : Addr) (dC dA dP : FuncData) : Prop where
  S : Hand K mg A
  T : Txt mg
  Ba : Bases K mg A bN bK bT bH
  SC : SCls K mg C
  Ck : FnB P w K mg base 1 "_check_handlers" sChkH fC dC ["handlers"] (spChk K A)
  As : FnB P w K mg base 1 "ascending" sAsc fA dA ["names"] (spAsc K)
  Pa : FnB P w K mg base 3 "_pairs_of" sPairs fP dP ["handlers", "names"] (spPairs A)
theorem find_first {zs : List Str} {z : Str} {j : Nat} (h1 : zs[j]? = some z) (h2 : ∀ m, m < j → zs[m]? ≠ some z) : (zs.findIdx? fun y => decide (y = z)).getD 0 = j := by
  have : zs.findIdx? (fun y => decide (y = z)) = some j := by
    obtain ⟨hj, e⟩ := List.getElem?_eq_some_iff.mp h1
    refine List.findIdx?_eq_some_iff_getElem.mpr ⟨hj, decide_eq_true e, fun m hm => ?_⟩
    have hm2 : m < zs.length := Nat.lt_trans hm hj
    have := h2 m hm
    rw [List.getElem?_eq_getElem hm2] at this
    simp only [decide_eq_true_eq]
    exact fun q => this (by rw [q])
  rw [this]
  rfl
theorem find_none {zs : List Str} {z : Str} (h : z ∉ zs) : (zs.findIdx? fun y => decide (y = z)).getD 0 = 0 := by
  have : zs.findIdx? (fun y => decide (y = z)) = none := List.findIdx?_eq_none_iff.mpr fun y hy => decide_eq_false fun e => h (e ▸ hy)
  rw [this]
  rfl
/-- the handlers outside of the choice -/
theorem rd_out {C a dx n t : Addr} {σ : L2.St} {H : Hp} {Q : VK} {fs : List (Str × V)} {ks : List HD} {as : List Addr} (SC : SCls K mg C) (e0 : σ[0]? = some (some (.ref a))) (e1 : σ[1]? = some (some (.ref t))) (ha : H a = some (.ins C dx fs)) (hf : fs.lookup ("names" : Str) = some (.ref n)) (hz : TupZ H n ((ks.map HD.nm).map V.str))
    (nd : (ks.map HD.nm).Nodup) (ht : SqT K H t (as.map V.ref)) (q : ∀ r H', Same' H H' → SqT K H' r ((as.take (chAt ks)).map V.ref) → Q (.ref r) H') :
    tIf (tTest (tOp (rIn K false) (tC (.str "choice")) (tFld K (tVar 0) "names"))) (tSl (rSlA K) (tVar 1) tNoPart (tPart (tTM (rIdx K) (tFld K (tVar 0) "names") (tCons (tC (.str "choice")) tNil)))) (tTup tNil) σ H Q := by
  refine ⟨.ref a, e0, a, C, dx, _, .ref n, rfl, ha, SC.c, SC.no _ (by simp), hf, n, _, rfl, .inr hz.sq, rfl, flat_strs _, _, rfl, ?_⟩
  show if inV _ _ = true then _ else _
  rw [inV_strs]
  refine ite2 (fun e => ?_) (fun e => ?_)
  · obtain ⟨j, h1, h2⟩ := first_at nd (of_decide_eq_true e)
    have ej : chAt ks = j := find_first h1 h2
    refine ⟨.ref t, e1, .ref a, e0, a, C, dx, _, .ref n, rfl, ha, SC.c, SC.no _ (by simp), hf, ⟨n, _, rfl, hz⟩, n, _, _, j, rfl, rfl, hz.sq, h1, h2, _, rfl, ?_⟩
    refine rd_cut ht fun r H' s' hr => q r H' s' ?_
    rw [cut_to, ← List.map_take] at hr
    rw [ej]
    exact hr
  · have ej : chAt ks = 0 := find_none fun h => e (decide_eq_true h)
    refine ⟨by show 0 ≤ sizeLine; decide, fun r hr => q r _ (same_new hr) ?_⟩
    rw [ej]
    exact SqT.of upd_same
/-- one of the sides -/
theorem rd_side {A : A4} {σ : L2.St} {i : Nat} {H : Hp} {Q : VK} {E : XK} {B r : Addr} {as : List Addr} {ks : List HD} (S : Hand K mg A) (p : Nat → Bool) (hB : ∀ i, i < 4 → PySem.W.kitOne K (.ref (A.at i)) (.ref B) = some (p i)) (e : σ[i]? = some (some (.ref r)))
    (hv : ∀ x : V, ((wipe σ [4]).set 4 (some x))[4]? = some (some x)) (hw : ∀ x : V, wipe ((wipe σ [4]).set 4 (some x)) [4] = wipe σ [4]) (hr : SqT K H r (as.map V.ref)) (hs : Hs A H as ks) (few : ks.length < 64)
    (q : ∀ (d : Addr) (y : List Str) (H' : Hp), Asc (namesOf p ks) y → Same' H H' → H' d = some (.tup (y.map V.str)) → Q (.ref d) H') :
    tCall (spAsc K) [] E (tCons (tLc (iTup K (tVar i)) (gName 4) (tB (tCB (rIsi K) (tCons (tVar 4) (tCons (tC (.ref B)) tNil)))) (tFld K (tVar 4) "name") [4]) tNil) σ H Q := by
  refine ⟨.ref r, e, r, rfl, ⟨_, hr⟩, fun D hD => ?_⟩
  refine names_lap S p hv hw (fun b k H' R _ hb x => tt_isi S p hB (hv _) hb x) hD hr hs few fun H7 s7 e7 => ⟨D, _, rfl, .inl (SqL.of e7), Nat.lt_of_le_of_lt (namesOf_len p ks) few, fun d y H8 asc s8 e8 => q d y H8 asc (s7.trans s8) e8⟩
theorem ini_body {A : A4} {C f bN bK bT bH fC fA fP : Addr} {dC dA dP : FuncData} {cdv : Value} {A0 : Around} {outer : List Env} {s : Shared} {H : Hp} {vs : List V} {Q : VK} {E : XK} (Z : InK P w K mg base A C bN bK bT bH fC fA fP dC dA dP)
    (hr : Room 4 (cxOf (L2.CX P w) P w K mg base nIni "Stack.__init__" (defScope (sStk 0)) f cdv A0 outer s H E).A) (h : spIniT A C vs H Q E) :
    ∃ t, PSs (cxOf (L2.CX P w) P w K mg base nIni "Stack.__init__" (defScope (sStk 0)) f cdv A0 outer s H E) (defBody (sStk 0)) t ∧ t { nx := fun _ H' => Q .non H', rt := Q } (L2.start nIni vs) H := by
  obtain ⟨a, dx, t, as, ks, rfl, ha, ht, hs, few, q⟩ := h
  refine ⟨_, pss_cons (ps_expr (pe_call Z.Ck.G (hr.mono (by decide)) (by rfl) Z.Ck.g Z.Ck.F.kp Z.Ck.b .nil pass0 (pa_cons (pv 1) pa_nil)))
    (pss_cons (ps_fld (pv 0) (pv 1) (by rfl))
    (pss_cons (ps_fld (pv 0) (pe_callTy cr_tupZ (by rfl) Z.T.tuple (by decide +kernel) (pa_cons (pe_lc (own := [("handler", 4)]) (g := gName 4) (tt := tYes) rfl scIni.nd (pi_tup (pv 1)) (blkOk_by (N := nIni) (sc := defScope (sStk 0)) (by decide +kernel)) (fun _ _ _ _ _ => pg_name (i := 4) scIni.nd rfl (Or.inl rfl)) (fun _ _ _ _ _ => pts_nil)
        (fun _ _ _ _ _ => show PE _ _ (tFld K (tVar 4) "name") from pe_fld (pv 4) (by rfl))) pa_nil)) (by rfl))
    (pss_cons (ps_set (i := 2) scIni.nd rfl (.inl rfl) (pe_ifExp (pt_cmpR op_in_seq pe_str (pe_fld (pv 0) (by rfl)) (by rfl))
        (pe_slice sl_tupA (pv 1) po_none (po_some (pe_tm PySem.F.slot_tuple_index PySem.F.type_tuple_index mt_tup_index (pe_fld (pv 0) (by rfl)) (pa_cons pe_str pa_nil)))) (pe_tup pa_nil)))
    (pss_cons (ps_set (i := 3) scIni.nd rfl (.inl rfl) (pe_slice sl_tupA (pv 1) (po_some (pe_callB call_len_seq (by rfl) Z.T.len PySem.boot_len (pa_cons (pv 2) pa_nil))) po_none))
    (pss_cons (ps_fld (pv 0) (pe_call Z.As.G (hr.mono (by decide)) (by rfl) Z.As.g Z.As.F.kp Z.As.b .nil pass0 (pa_cons (pe_lc (own := [("handler", 4)]) (g := gName 4) rfl scIni.nd (pi_tup (pv 2)) (blkOk_by (N := nIni) (sc := defScope (sStk 0)) (by decide +kernel)) (fun _ _ _ _ _ => pg_name (i := 4) scIni.nd rfl (Or.inl rfl))
        (fun _ _ _ _ _ => pts_one (show PT _ _ (tB (tCB (rIsi K) (tCons (tVar 4) (tCons (tC (.ref bK)) tNil)))) from pt_val (pe_callB call_isi (by rfl) Z.T.isi (by decide +kernel) (pa_cons (pv 4) (pa_cons (pe_glob (v := .ref bK) rfl Z.Ba.gK rfl) pa_nil))))) (fun _ _ _ _ _ => show PE _ _ (tFld K (tVar 4) "name") from pe_fld (pv 4) (by rfl))) pa_nil)) (by rfl))
    (pss_cons (ps_fld (pv 0) (pe_call Z.As.G (hr.mono (by decide)) (by rfl) Z.As.g Z.As.F.kp Z.As.b .nil pass0 (pa_cons (pe_lc (own := [("handler", 4)]) (g := gName 4) rfl scIni.nd (pi_tup (pv 3)) (blkOk_by (N := nIni) (sc := defScope (sStk 0)) (by decide +kernel)) (fun _ _ _ _ _ => pg_name (i := 4) scIni.nd rfl (Or.inl rfl))
        (fun _ _ _ _ _ => pts_one (show PT _ _ (tB (tCB (rIsi K) (tCons (tVar 4) (tCons (tC (.ref bK)) tNil)))) from pt_val (pe_callB call_isi (by rfl) Z.T.isi (by decide +kernel) (pa_cons (pv 4) (pa_cons (pe_glob (v := .ref bK) rfl Z.Ba.gK rfl) pa_nil))))) (fun _ _ _ _ _ => show PE _ _ (tFld K (tVar 4) "name") from pe_fld (pv 4) (by rfl))) pa_nil)) (by rfl))
    (pss_cons (ps_fld (pv 0) (pe_call Z.As.G (hr.mono (by decide)) (by rfl) Z.As.g Z.As.F.kp Z.As.b .nil pass0 (pa_cons (pe_lc (own := [("handler", 4)]) (g := gName 4) rfl scIni.nd (pi_tup (pv 2)) (blkOk_by (N := nIni) (sc := defScope (sStk 0)) (by decide +kernel)) (fun _ _ _ _ _ => pg_name (i := 4) scIni.nd rfl (Or.inl rfl))
        (fun _ _ _ _ _ => pts_one (show PT _ _ (tB (tCB (rIsi K) (tCons (tVar 4) (tCons (tC (.ref A.f)) tNil)))) from pt_val (pe_callB call_isi (by rfl) Z.T.isi (by decide +kernel) (pa_cons (pv 4) (pa_cons (pe_glob (v := .ref A.f) rfl Z.S.cF.g rfl) pa_nil))))) (fun _ _ _ _ _ => show PE _ _ (tFld K (tVar 4) "name") from pe_fld (pv 4) (by rfl))) pa_nil)) (by rfl))
    (pss_one (ps_fld (pv 0) (pe_call Z.Pa.G (hr.mono (by decide)) (by rfl) Z.Pa.g Z.Pa.F.kp Z.Pa.b .nil pass0 (pa_cons (pv 1) (pa_cons (pe_fld (pv 0) (by rfl)) pa_nil))) (by rfl)))))))))), ?_⟩
  have nta : t ≠ a := fun z => by rw [z, ha] at ht; cases ht
  have nas : ∀ b ∈ as, b ≠ a := fun b hb z => by
    obtain ⟨i, e⟩ := List.getElem?_of_mem hb
    obtain ⟨b', k, eb, ek, x, hk⟩ := hs.at (i := i) (x := .ref b) (by rw [List.getElem?_map, e]; rfl)
    cases x
    obtain ⟨dx', hk⟩ := hk
    rw [z, ha] at hk
    injection hk with hk
    injection hk with _ _ hk
    cases k <;> cases hk
  refine ⟨.ref t, rfl, t, as, ks, rfl, ht, hs, few, fun H1 s1 => ?_⟩
  refine ⟨.ref t, rfl, .ref a, rfl, a, C, dx, [], rfl, s1 _ _ ha, Z.SC.c, Z.SC.no _ (by simp), by decide, ?_⟩
  obtain ⟨H2, e2, k2, a2⟩ := put_at (C := C) (dx := dx) (a := a) (H := H1) "handlers" (.ref t) []
  rw [e2]
  have k02 := (Keep1.of (a := a) s1).trans k2
  have t2 := k02 _ _ nta ht
  have hs2 := hs.keep1 (C := C) (dx := dx) (fs := []) nas k02
  refine ⟨.ref t, rfl, t, rfl, ⟨_, SqT.of t2⟩, fun D hD => ?_⟩
  refine names_lap Z.S anyK (fun _ => rfl) (fun _ => rfl) (fun b k H' R _ _ r => r) hD (SqT.of t2) hs2 few.n fun H3 s3 e3 => ⟨D, _, rfl, SqL.of e3, fun n o hn hd => ⟨.ref a, rfl, a, C, dx, _, rfl, same_new hn _ _ (s3 _ _ a2), Z.SC.c, Z.SC.no _ (by simp), by show 1 < 1000; decide, ?_⟩⟩
  rw [namesOf_any] at *
  obtain ⟨H4, e4, k4, a4⟩ := put_at (C := C) (dx := dx) (a := a) (H := upd H3 n (.frz o (.tup ((ks.map HD.nm).map V.str)))) "names" (.ref n) [("handlers", .ref t)]
  rw [show putF ("handlers" : Str) (.ref t) [] = [(("handlers" : Str), V.ref t)] from rfl, e4]
  have k34 := (Keep1.of (a := a) (same_new hn)).trans k4
  have k24 := (Keep1.of (a := a) s3).trans k34
  have nna : n ≠ a := (ne_of_none (s3 _ _ a2) hn).symm
  have z4 : TupZ H4 n ((ks.map HD.nm).map V.str) := ⟨o, k4 _ _ nna upd_same, hd⟩
  have t4 := k24 _ _ nta t2
  have hs4 := hs2.keep1 (C := C) (dx := dx) (fs := []) nas k24
  have a4' : H4 a = some (.ins C dx [("handlers", .ref t), ("names", .ref n)]) := a4
  clear a4 e4 e3
  have k04 := k02.trans k24
  refine rd_out Z.SC rfl rfl a4' rfl z4 few.nd (SqT.of t4) fun r H5 s5 r5 => ?_
  refine ⟨.ref t, rfl, .ref r, rfl, r, _, rfl, .inr r5, _, rfl, ?_⟩
  unfold tNoPart
  dsimp only
  refine rd_cut (SqT.of (s5 _ _ t4)) fun r2 H6 s6 r6 => ?_
  have tl : ((as.take (chAt ks)).map V.ref).length = min (chAt ks) as.length := by rw [List.length_map, List.length_take]
  have r6' : SqT K H6 r2 ((as.drop (chAt ks)).map V.ref) := by
    rw [cut_from, tl, ← List.map_drop] at r6
    rcases Nat.le_total (chAt ks) as.length with h | h
    · rw [Nat.min_eq_left h] at r6
      exact r6
    · rw [Nat.min_eq_right h] at r6
      rw [List.drop_of_length_le h]
      rw [List.drop_of_length_le (Nat.le_refl _)] at r6
      exact r6
  have s46 := s5.trans s6
  have hs6 := hs4.keep s46
  have few64 := few.n
  have lt64 : (ks.take (chAt ks)).length < 64 := by rw [List.length_take]; omega
  have ld64 : (ks.drop (chAt ks)).length < 64 := by rw [List.length_drop]; omega
  refine rd_side (i := 2) Z.S isKeep Z.Ba.kK rfl (fun _ => rfl) (fun _ => rfl) (r5.ext s6) (hs6.take _) lt64 fun p1 y1 H7 asc1 s7 e7 => ?_
  have s47 := s46.trans s7
  refine ⟨.ref a, rfl, a, C, dx, _, rfl, s47 _ _ a4', Z.SC.c, Z.SC.no _ (by simp), by show 2 < 1000; decide, ?_⟩
  obtain ⟨H8, e8, k8, a8⟩ := put_at (C := C) (dx := dx) (a := a) (H := H7) "shared" (.ref p1) [("handlers", .ref t), ("names", .ref n)]
  rw [e8]
  have b7 := s47 _ _ a4'
  have a8' : H8 a = some (.ins C dx [("handlers", .ref t), ("names", .ref n), ("shared", .ref p1)]) := a8
  have r8 := keep_sq k8 b7 ((r5.ext s6).ext s7)
  have r82 := keep_sq k8 b7 (r6'.ext s7)
  have p18 := keep_tup k8 b7 e7
  have t8 := keep_tup k8 b7 (s47 _ _ t4)
  have z8 := keep_z k8 b7 (z4.keep s47)
  have hs8 := (hs4.keep s47).keep1 (C := C) (dx := dx) (fs := []) nas k8
  have k08 := k04.trans ((Keep1.of (a := a) s47).trans k8)
  clear a8 e8 e7
  refine rd_side (i := 3) Z.S isKeep Z.Ba.kK rfl (fun _ => rfl) (fun _ => rfl) r82 (hs8.drop _) ld64 fun p2 y2 H9 asc2 s9 e9 => ?_
  refine ⟨.ref a, rfl, a, C, dx, _, rfl, s9 _ _ a8', Z.SC.c, Z.SC.no _ (by simp), by show 3 < 1000; decide, ?_⟩
  obtain ⟨Ha, ea, ka, aa⟩ := put_at (C := C) (dx := dx) (a := a) (H := H9) "own" (.ref p2) [("handlers", .ref t), ("names", .ref n), ("shared", .ref p1)]
  rw [ea]
  have b9 := s9 _ _ a8'
  have aa' : Ha a = some (.ins C dx [("handlers", .ref t), ("names", .ref n), ("shared", .ref p1), ("own", .ref p2)]) := aa
  have ra := keep_sq ka b9 (r8.ext s9)
  have p1a := keep_tup ka b9 (s9 _ _ p18)
  have p2a := keep_tup ka b9 e9
  have ta := keep_tup ka b9 (s9 _ _ t8)
  have za := keep_z ka b9 (z8.keep s9)
  have hsa := (hs8.keep s9).keep1 (C := C) (dx := dx) (fs := []) nas ka
  have k0a := k08.trans ((Keep1.of (a := a) s9).trans ka)
  clear aa ea e9
  refine rd_side (i := 2) Z.S isFail (fun i hi => Z.S.kit i 2 hi (by decide)) rfl (fun _ => rfl) (fun _ => rfl) ra (hsa.take _) lt64 fun p3 y3 Hb asc3 sb eb => ?_
  refine ⟨.ref a, rfl, a, C, dx, _, rfl, sb _ _ aa', Z.SC.c, Z.SC.no _ (by simp), by show 4 < 1000; decide, ?_⟩
  obtain ⟨Hc, ec, kc, ac⟩ := put_at (C := C) (dx := dx) (a := a) (H := Hb) "gathering" (.ref p3) [("handlers", .ref t), ("names", .ref n), ("shared", .ref p1), ("own", .ref p2)]
  rw [ec]
  have bb := sb _ _ aa'
  have ac' : Hc a = some (.ins C dx [("handlers", .ref t), ("names", .ref n), ("shared", .ref p1), ("own", .ref p2), ("gathering", .ref p3)]) := ac
  have p1c := keep_tup kc bb (sb _ _ p1a)
  have p2c := keep_tup kc bb (sb _ _ p2a)
  have p3c := keep_tup kc bb eb
  have tc := keep_tup kc bb (sb _ _ ta)
  have zc := keep_z kc bb (za.keep sb)
  have hsc := (hsa.keep sb).keep1 (C := C) (dx := dx) (fs := []) nas kc
  have k0c := k0a.trans ((Keep1.of (a := a) sb).trans kc)
  clear ac ec eb
  refine ⟨.ref t, rfl, .ref a, rfl, a, C, dx, _, .ref n, rfl, ac', Z.SC.c, Z.SC.no _ (by simp), rfl, t, n, as, ks, rfl, tc, zc, hsc, few, fun p4 ps os ys Hd asc4 od4 sd pr4 e4 => ?_⟩
  refine ⟨.ref a, rfl, a, C, dx, _, rfl, sd _ _ ac', Z.SC.c, Z.SC.no _ (by simp), by show 5 < 1000; decide, ?_⟩
  obtain ⟨He, ee, ke, ae⟩ := put_at (C := C) (dx := dx) (a := a) (H := Hd) "pairs" (.ref p4) [("handlers", .ref t), ("names", .ref n), ("shared", .ref p1), ("own", .ref p2), ("gathering", .ref p3)]
  rw [ee]
  have bd := sd _ _ ac'
  have k0e := k0c.trans ((Keep1.of (a := a) sd).trans ke)
  refine q He k0e ⟨dx, t, n, p1, p2, p3, p4, as, ps, y1, y2, y3, ys, os, ⟨ae, keep_tup ke bd (sd _ _ tc), (hsc.keep sd).keep1 (C := C) (dx := dx) (fs := []) nas ke, keep_z ke bd (zc.keep sd), keep_tup ke bd (sd _ _ p1c), keep_tup ke bd (sd _ _ p2c), keep_tup ke bd (sd _ _ p3c), keep_tup ke bd e4, asc1, asc2, asc3, keep_prs ke bd pr4, asc4, od4⟩⟩
theorem ok_ini {A : A4} {C f bN bK bT bH fC fA fP : Addr} {fd dC dA dP : FuncData} (F : Fun K "__init__" "Stack.__init__" (sStk 0) f fd) (Z : InK P w K mg base A C bN bK bT bH fC fA fP dC dA dP) : FnR P w K mg base (L2.CX P w) 5 f (spIni A C) := by
  obtain ⟨oc, od, kV, doc, pm, an, cdv, ct, osl, rfl, lk, hcd⟩ := F.ex
  refine FnR.imp (StX.fn_star (ps := ["self"]) (pv := "handlers") (sp := spIniT A C) lk hcd scIni StX.cxUp (StX.bind_star1 (B := fun us => bindArgs (PySem.W.fnOf "__init__" "Stack.__init__" (defArgs (sStk 0)) (defBody (sStk 0)) (defScope (sStk 0)) .none kV doc pm an cdv ct) ⟨us, []⟩) (fun _ => rfl) (fun _ _ _ => rfl)) fun A0 outer s H vs Q E hr h => ini_body Z hr h) fun vs H Q E h => ?_
  obtain ⟨a, dx, as, ks, rfl, ha, hs, few, q⟩ := h
  refine ⟨[.ref a], as.map V.ref, rfl, rfl, ?_, fun p hp => ?_⟩
  · have := few.n
    rw [List.length_map, hs.len, sizeLine_eq]
    omega
  · have s := same_new (o := .tup (as.map V.ref)) hp
    exact ⟨a, dx, p, as, ks, rfl, s _ _ ha, upd_same, hs.keep s, few, fun H' k st => q H' ((Keep1.of s).trans k) st⟩
end
end My
namespace My
open PySem PySem.Spec PyProof.Rows L2
def First (ks : List HD) (z : Str) (j : Nat) : Prop := (ks.map HD.nm)[j]? = some z ∧ ∀ m : Nat, m < j → (ks.map HD.nm)[m]? ≠ some z
theorem made_same {H H' : Hp} {x dx : Addr} {o : HO} (hx : H x = none) (hdx : H dx = none) (k : Keep1 x (upd (upd H dx (.own x)) x o) H') : Same' H H' := fun b u e => k b u (ne_of_none e hx) (by rw [upd_ne (ne_of_none e hx), upd_ne (ne_of_none e hdx)]; exact e)
/-- a call that might raise, but doesn't -/
theorem passF {X : Cx} : Passes (L2.CX X.prog X.w) X (fun _ _ _ => False) := fun _ _ _ _ _ _ _ h => by
  obtain ⟨_, _, _, _, _, _, _, _, _, _, _, _, z⟩ := h
  exact z.elim
def spOf (A : A4) (C : Addr) : Sp := fun vs H Q _ => ∃ (l : Addr) (as : List Addr) (ks : List HD), vs = [.ref l] ∧ H l = some (.lst (as.map V.ref)) ∧ Hs A H as ks ∧ Few ks ∧ ∀ (a : Addr) (H' : Hp), Same' H H' → StkAt A C H' a ks → Q (.ref a) H'
def spPlace (A : A4) (C : Addr) : Sp := fun vs H Q _ => ∃ (a : Addr) (ks : List HD) (z : Str) (j : Nat), vs = [.ref a, .str z] ∧ StkAt A C H a ks ∧ First ks z j ∧ Q (.int (j : Int)) H
def spFail (A : A4) (C : Addr) : Sp := fun vs H Q _ => ∃ (a : Addr) (ks : List HD) (z : Str) (j : Nat), vs = [.ref a, .str z] ∧ StkAt A C H a ks ∧ First ks z j ∧ ks[j]? = some (.fail z) ∧ Q (.int (j : Int)) H
def spBack (A : A4) (C : Addr) (cut : Nat → List HD → List HD) : Sp := fun vs H Q _ => ∃ (a : Addr) (ks : List HD) (z : Str) (j : Nat), vs = [.ref a, .str z] ∧ StkAt A C H a ks ∧ ks.length < 64 ∧ First ks z j ∧ ks[j]? = some (.fail z) ∧
  ∀ (d : Addr) (y : List Str) (H' : Hp), Asc (namesOf isKeep (cut j ks)) y → Same' H H' → H' d = some (.tup (y.map V.str)) → Q (.ref d) H'
section
variable {P : Program} {w : World} {K : PySem.W.Frag} {mg : Str → Option Value} {base : Heap}
abbrev nOf : List Str := ["handlers"]
theorem scOf : FnScope nOf nOf (defScope (sStk 1)) := ⟨rfl, rfl, rfl, by decide +kernel, rfl, by decide +kernel, by decide +kernel⟩
theorem ok_of {A : A4} {C f fI : Addr} {fd : FuncData} (F : Fun K "of" "Stack.of" (sStk 1) f fd) (T : Txt mg) (SC : SCls K mg C) (M : Mk K C fI) (GI : FnR P w K mg base (L2.CX P w) 5 fI (spIni A C)) : FnOk P w K mg base CX0 7 f fd nOf (spOf A C) := by
  refine F.ok scOf (fun vs H Q E h => ?_) (fun cdv A0 outer s H vs Q E hr h => ?_)
  · obtain ⟨l, as, ks, rfl, _⟩ := h
    rfl
  · obtain ⟨l, as, ks, rfl, hl, hs, few, q⟩ := h
    refine ⟨_, pss_cons (ps_if (pt_not (pt_val (pe_callB call_isiT (by rfl) T.isi (by decide +kernel) (pa_cons (pv 0) (pa_cons (pe_tup (pa_cons (pe_bltn (by rfl) T.list (by decide +kernel) (show RelV (.ty "list") _ from rfl)) (pa_cons (pe_bltn (by rfl) T.tuple (by decide +kernel) (show RelV (.ty "tuple") _ from rfl)) pa_nil))) pa_nil))))) (pss_one ps_never) pss_nil)
      (pss_one (ps_ret (pe_makeS M GI hr (by rfl) SC.g passF (pv 0)))), ?_⟩
    refine ⟨.ref l, rfl, by show 2 ≤ sizeLine; decide, fun tp htp => ?_⟩
    have s1 := same_new (o := .tup [V.ty "list", V.ty "tuple"]) htp
    refine ⟨.ref l, tp, _, .type "list", [.type "list", .type "tuple"], true, rfl, upd_same, .cons (.ty "list") (.cons (.ty "tuple") .nil), .base (.lst (s1 _ _ hl)), ?_, true, rfl, iteF ?_⟩
    · show (PySem.W.kitAny K (.type "list") [.type "list", .type "tuple"]) = some true
      unfold PySem.W.kitAny
      rw [show PySem.W.kitOne K (.type "list") (.type "list") = some true from kit_ty (by decide +kernel)]
    · refine ⟨.ref l, rfl, l, _, rfl, .inr (SqL.of (s1 _ _ hl)), fun x dx hx hdx ndx => ?_⟩
      refine ⟨x, dx, as, ks, rfl, upd_same, (hs.keep s1).keep (made_same (o := .ins C dx []) hx hdx (fun _ _ _ e => e)), few, fun H' k st => ⟨rfl, q x H' (s1.trans (made_same hx hdx k)) st⟩⟩
abbrev nPlace : List Str := ["self", "name"]
theorem scPlace : FnScope nPlace nPlace (defScope (sStk 9)) := ⟨rfl, rfl, rfl, by decide +kernel, rfl, by decide +kernel, by decide +kernel⟩
theorem ok_place {A : A4} {C f : Addr} {fd : FuncData} (F : Fun K "place" "Stack.place" (sStk 9) f fd) (SC : SCls K mg C) : FnOk P w K mg base CX0 1 f fd nPlace (spPlace A C) := by
  refine F.ok scPlace (fun vs H Q E h => ?_) (fun cdv A0 outer s H vs Q E hr h => ?_)
  · obtain ⟨a, ks, z, j, rfl, _⟩ := h
    rfl
  · obtain ⟨a, ks, z, j, rfl, st, ⟨f1, f2⟩, q⟩ := h
    obtain ⟨dx, t, n, p1, p2, p3, p4, as, ps, y1, y2, y3, ys, os, st⟩ := st
    refine ⟨_, pss_cons (ps_if (pt_cmpR op_notIn_seq (pv 1) (pe_fld (pv 0) (by rfl)) (by rfl)) (pss_one ps_never) pss_nil)
      (pss_one (ps_ret (pe_tm PySem.F.slot_tuple_index PySem.F.type_tuple_index mt_tup_index (pe_fld (pv 0) (by rfl)) (pa_cons (pv 1) pa_nil)))), ?_⟩
    refine ⟨.str z, rfl, .ref a, rfl, a, C, dx, _, .ref n, rfl, st.o, SC.c, SC.no _ (by simp), rfl, n, _, rfl, .inr st.n.sq, rfl, flat_strs _, _, rfl, ?_⟩
    show if (!inV _ _) = true then _ else _
    rw [inV_strs, decide_eq_true (List.mem_of_getElem? f1)]
    refine iteF ?_
    exact ⟨.ref a, rfl, a, C, dx, _, .ref n, rfl, st.o, SC.c, SC.no _ (by simp), rfl, ⟨n, _, rfl, st.n⟩, .str z, rfl, n, _, z, j, rfl, rfl, st.n.sq, f1, f2, q⟩
abbrev nFP : List Str := ["self", "name", "at"]
theorem scFP : FnScope nFP ["self", "name"] (defScope (sStk 26)) := ⟨rfl, rfl, rfl, by decide +kernel, rfl, by decide +kernel, by decide +kernel⟩
structure MethB (P : Program) (w : World) (K : PySem.W.Frag) (mg : Str → Option Value) (base : Heap) (k : Nat) (C : Addr) (m : Str) (f : Addr) (fd : FuncData) (ps : List Str) (sp : Sp) : Prop where
  m : Meth K C m f
  b : Binds K fd ps []
  G : FnOk P w K mg base CX0 k f fd ps sp
theorem ok_fail {A : A4} {C f fP : Addr} {fd dP : FuncData} (F : Fun K "_failure_place" "Stack._failure_place" (sStk 26) f fd) (T : Txt mg) (S : Hand K mg A) (SC : SCls K mg C) (MP : MethB P w K mg base 1 C "place" fP dP nPlace (spPlace A C)) : FnOk P w K mg base CX0 2 f fd ["self", "name"] (spFail A C) := by
  refine F.ok scFP (fun vs H Q E h => ?_) (fun cdv A0 outer s H vs Q E hr h => ?_)
  · obtain ⟨a, ks, z, j, rfl, _⟩ := h
    rfl
  · obtain ⟨a, ks, z, j, rfl, st, f1, fk, q⟩ := h
    obtain ⟨dx, t, n, p1, p2, p3, p4, as, ps, y1, y2, y3, ys, os, st'⟩ := id st
    refine ⟨_, pss_cons (ps_set (i := 2) scFP.nd rfl (.inl rfl) (pe_meth (pv 0) SC.c MP.m MP.G hr MP.b .nil pass0 (pa_cons (pv 1) pa_nil)))
      (pss_cons (ps_if (pt_not (pt_val (pe_callB call_isi (by rfl) T.isi (by decide +kernel) (pa_cons (pe_ix ix_tup (pe_fld (pv 0) (by rfl)) (pv 2) (fun _ _ => rfl)) (pa_cons (pe_glob (v := .ref A.f) rfl S.cF.g rfl) pa_nil))))) (pss_one ps_never) pss_nil)
      (pss_one (ps_ret (pv 2)))), ?_⟩
    have lj : j < ks.length := (List.getElem?_eq_some_iff.mp fk).1
    obtain ⟨b, k, eb, ek, hb⟩ := st'.hs.get lj
    rw [fk] at ek
    cases ek
    refine ⟨.ref a, rfl, a, dx, _, rfl, st'.o, rfl, .str z, rfl, a, ks, z, j, rfl, st, f1, ?_⟩
    refine ⟨.ref a, rfl, a, C, dx, _, .ref t, rfl, st'.o, SC.c, SC.no _ (by simp), rfl, .int (j : Int), rfl, t, _, _, .ref b, rfl, rfl, SqT.of st'.t, atI_nat eb, .ref b, .ref A.f, _, .ref A.f, true, rfl, .own _, S.ty hb, S.kit 2 2 (by decide) (by decide), true, rfl, iteF ?_⟩
    exact ⟨_, rfl, q⟩
abbrev nTB : List Str := ["self", "name", "at", "handler"]
theorem scTB : FnScope nTB ["self", "name"] (defScope (sStk 12)) := ⟨rfl, rfl, rfl, by decide +kernel, rfl, by decide +kernel, by decide +kernel⟩
theorem scKp : FnScope nTB ["self", "name"] (defScope (sStk 13)) := ⟨rfl, rfl, rfl, by decide +kernel, rfl, by decide +kernel, by decide +kernel⟩
theorem ok_back {A : A4} {C f fP fA bN bK bT bH : Addr} {fd dP dA : FuncData} (F : Fun K "taken_back" "Stack.taken_back" (sStk 12) f fd) (T : Txt mg) (S : Hand K mg A) (Ba : Bases K mg A bN bK bT bH) (SC : SCls K mg C) (MF : MethB P w K mg base 2 C "_failure_place" fP dP ["self", "name"] (spFail A C)) (As : FnB P w K mg base 1 "ascending" sAsc fA dA ["names"] (spAsc K)) :
    FnOk P w K mg base CX0 3 f fd ["self", "name"] (spBack A C fun j ks => ks.drop j) := by
  refine F.ok scTB (fun vs H Q E h => ?_) (fun cdv A0 outer s H vs Q E hr h => ?_)
  · obtain ⟨a, ks, z, j, rfl, _⟩ := h
    rfl
  · obtain ⟨a, ks, z, j, rfl, st, few, f1, fk, q⟩ := h
    obtain ⟨dx, t, n, p1, p2, p3, p4, as, ps, y1, y2, y3, ys, os, st'⟩ := id st
    refine ⟨_, pss_cons (ps_set (i := 2) scTB.nd rfl (.inl rfl) (pe_meth (pv 0) SC.c MF.m MF.G hr MF.b .nil pass0 (pa_cons (pv 1) pa_nil)))
      (pss_one (ps_ret (pe_call As.G (hr.mono (by decide)) (by rfl) As.g As.F.kp As.b .nil pass0 (pa_cons (pe_lc (own := [("handler", 3)]) (g := gName 3) rfl scTB.nd (pi_tup (pe_slice sl_tupA (pe_fld (pv 0) (by rfl)) (po_some (pv 2)) po_none)) (blkOk_by (N := nTB) (sc := defScope (sStk 12)) (by decide +kernel)) (fun _ _ _ _ _ => pg_name (i := 3) scTB.nd rfl (Or.inl rfl))
        (fun _ _ _ _ _ => pts_one (show PT _ _ (tB (tCB (rIsi K) (tCons (tVar 3) (tCons (tC (.ref bK)) tNil)))) from pt_val (pe_callB call_isi (by rfl) T.isi (by decide +kernel) (pa_cons (pv 3) (pa_cons (pe_glob (v := .ref bK) rfl Ba.gK rfl) pa_nil))))) (fun _ _ _ _ _ => show PE _ _ (tFld K (tVar 3) "name") from pe_fld (pv 3) (by rfl))) pa_nil)))), ?_⟩
    refine ⟨.ref a, rfl, a, dx, _, rfl, st'.o, rfl, .str z, rfl, a, ks, z, j, rfl, st, f1, fk, ?_⟩
    refine ⟨.ref a, rfl, a, C, dx, _, .ref t, rfl, st'.o, SC.c, SC.no _ (by simp), rfl, .int (j : Int), rfl, (j : Int), rfl, ?_⟩
    unfold tNoPart
    dsimp only
    refine rd_cut (SqT.of st'.t) fun r H1 s1 hr1 => ⟨r, rfl, ⟨_, hr1⟩, fun D hD => ?_⟩
    rw [cut_from, ← List.map_drop] at hr1
    have ld : (ks.drop j).length < 64 := by rw [List.length_drop]; omega
    refine names_lap S isKeep (fun _ => rfl) (fun _ => rfl) (fun b k H' R _ hb x => tt_isi S isKeep Ba.kK rfl hb x) hD hr1 ((st'.hs.keep s1).drop j) ld fun H7 s7 e7 => ⟨D, _, rfl, .inl (SqL.of e7), Nat.lt_of_le_of_lt (namesOf_len isKeep _) ld, fun d y H8 asc s8 e8 => q d y H8 asc (s1.trans (s7.trans s8)) e8⟩
theorem ok_kept {A : A4} {C f fP fA bN bK bT bH : Addr} {fd dP dA : FuncData} (F : Fun K "kept" "Stack.kept" (sStk 13) f fd) (T : Txt mg) (S : Hand K mg A) (Ba : Bases K mg A bN bK bT bH) (SC : SCls K mg C) (MF : MethB P w K mg base 2 C "_failure_place" fP dP ["self", "name"] (spFail A C)) (As : FnB P w K mg base 1 "ascending" sAsc fA dA ["names"] (spAsc K)) :
    FnOk P w K mg base CX0 3 f fd ["self", "name"] (spBack A C fun j ks => ks.take j) := by
  refine F.ok scKp (fun vs H Q E h => ?_) (fun cdv A0 outer s H vs Q E hr h => ?_)
  · obtain ⟨a, ks, z, j, rfl, _⟩ := h
    rfl
  · obtain ⟨a, ks, z, j, rfl, st, few, f1, fk, q⟩ := h
    obtain ⟨dx, t, n, p1, p2, p3, p4, as, ps, y1, y2, y3, ys, os, st'⟩ := id st
    refine ⟨_, pss_cons (ps_set (i := 2) scKp.nd rfl (.inl rfl) (pe_meth (pv 0) SC.c MF.m MF.G hr MF.b .nil pass0 (pa_cons (pv 1) pa_nil)))
      (pss_one (ps_ret (pe_call As.G (hr.mono (by decide)) (by rfl) As.g As.F.kp As.b .nil pass0 (pa_cons (pe_lc (own := [("handler", 3)]) (g := gName 3) rfl scKp.nd (pi_tup (pe_slice sl_tupA (pe_fld (pv 0) (by rfl)) po_none (po_some (pv 2)))) (blkOk_by (N := nTB) (sc := defScope (sStk 13)) (by decide +kernel)) (fun _ _ _ _ _ => pg_name (i := 3) scKp.nd rfl (Or.inl rfl))
        (fun _ _ _ _ _ => pts_one (show PT _ _ (tB (tCB (rIsi K) (tCons (tVar 3) (tCons (tC (.ref bK)) tNil)))) from pt_val (pe_callB call_isi (by rfl) T.isi (by decide +kernel) (pa_cons (pv 3) (pa_cons (pe_glob (v := .ref bK) rfl Ba.gK rfl) pa_nil))))) (fun _ _ _ _ _ => show PE _ _ (tFld K (tVar 3) "name") from pe_fld (pv 3) (by rfl))) pa_nil)))), ?_⟩
    refine ⟨.ref a, rfl, a, dx, _, rfl, st'.o, rfl, .str z, rfl, a, ks, z, j, rfl, st, f1, fk, ?_⟩
    refine ⟨.ref a, rfl, a, C, dx, _, .ref t, rfl, st'.o, SC.c, SC.no _ (by simp), rfl, .int (j : Int), rfl, (j : Int), rfl, ?_⟩
    refine rd_cut (SqT.of st'.t) fun r H1 s1 hr1 => ⟨r, rfl, ⟨_, hr1⟩, fun D hD => ?_⟩
    rw [cut_to, ← List.map_take] at hr1
    have ld : (ks.take j).length < 64 := by rw [List.length_take]; omega
    refine names_lap S isKeep (fun _ => rfl) (fun _ => rfl) (fun b k H' R _ hb x => tt_isi S isKeep Ba.kK rfl hb x) hD hr1 ((st'.hs.keep s1).take j) ld fun H7 s7 e7 => ⟨D, _, rfl, .inl (SqL.of e7), Nat.lt_of_le_of_lt (namesOf_len isKeep _) ld, fun d y H8 asc s8 e8 => q d y H8 asc (s1.trans (s7.trans s8)) e8⟩
end
end My
namespace My
open PySem PySem.Spec PyProof.Rows L2
/-! ### the rows of this law -/
def pool : List Str := ["x", "y", "z", "w", "l", "m", "f", "g", "h", "ab", "zzzzzzzz", "new"]
def rowsK : List HD := pool.flatMap (fun n => [.cell n 2, .cell n 3, .cell n 4, .log n, .fail n]) ++ [.cho]
theorem rows_nm : ∀ k ∈ rowsK, k.nm.length ≤ 8 ∧ (k.ix ≠ 3 → nm k.nm = true) ∧ PyData.strOk k.nm = true := by decide +kernel
def HD.row : HD → List V
  | .cell n z => [.str "cell", .str n, .int z]
  | .log n => [.str "log", .str n]
  | .fail n => [.str "failure", .str n]
  | .cho => [.str "choice", .str "choice"]
def AllR (ks : List HD) : Prop := ∀ k ∈ ks, k ∈ rowsK
theorem rows_z : ∀ k ∈ rowsK, ∀ n z, k = .cell n z → 2 ≤ z ∧ z ≤ 4 := by
  intro k hk n z e
  subst e
  have h : ∀ k ∈ rowsK, (match k with | .cell _ z => decide (2 ≤ z) && decide (z ≤ 4) | _ => true) = true := by decide +kernel
  have q := h _ hk
  simp only [Bool.and_eq_true, decide_eq_true_eq] at q
  exact q
/-! ### who stands before whom -/
def MemP (ks : List HD) (z : Str × Str) : Prop := ∃ o i, o < i ∧ i < ks.length ∧ meetB (ixAt ks o) (ixAt ks i) = true ∧ z = (nmAt ks o, nmAt ks i)
theorem mem_pairsL {ks : List HD} {ys : List Str} {os : List Nat} (nd : (ks.map HD.nm).Nodup) (ay : Asc (ks.map HD.nm) ys) (od : Order ks os ys) (z : Str × Str) : z ∈ pairsL ks os os ↔ MemP ks z := by
  have all : ∀ o, o < ks.length → o ∈ os := fun o ho => by
    have hm : nmAt ks o ∈ ks.map HD.nm := by
      have := List.getElem?_eq_getElem ho
      rw [(at_k this).1]
      exact List.mem_map.mpr ⟨_, List.getElem_mem ho, rfl⟩
    obtain ⟨j, hj, e⟩ := List.mem_iff_getElem.mp ((ay.mem _).mpr hm)
    have hj2 : j < os.length := by rw [od.len]; exact hj
    have e2 := od.is j os[j] (List.getElem?_eq_getElem hj2)
    rw [List.getElem?_eq_getElem hj, e] at e2
    have e3 : nmAt ks o = nmAt ks os[j] := Option.some.inj e2.2
    have l1 : o < (ks.map HD.nm).length := by rw [List.length_map]; exact ho
    have l2 : os[j] < (ks.map HD.nm).length := by rw [List.length_map]; exact e2.1
    have g1 : (ks.map HD.nm)[o] = nmAt ks o := by rw [(at_k (List.getElem?_eq_getElem ho)).1, List.getElem_map]
    have g2 : (ks.map HD.nm)[os[j]] = nmAt ks os[j] := by rw [(at_k (List.getElem?_eq_getElem e2.1)).1, List.getElem_map]
    have : o = os[j] := by
      rcases Nat.lt_trichotomy o os[j] with lt | eq | gt
      · exact absurd (g1.trans (e3.trans g2.symm)) ((List.pairwise_iff_getElem.mp nd) o _ l1 l2 lt)
      · exact eq
      · exact absurd (g2.trans (e3.symm.trans g1.symm)) ((List.pairwise_iff_getElem.mp nd) _ o l2 l1 gt)
    rw [this]
    exact List.getElem_mem hj2
  have lt : ∀ o, o ∈ os → o < ks.length := fun o ho => by
    obtain ⟨j, hj, e⟩ := List.mem_iff_getElem.mp ho
    exact (od.is j o (by rw [List.getElem?_eq_getElem hj, e])).1
  unfold pairsL pairsO okP
  constructor
  · intro h
    obtain ⟨o, ho, h⟩ := List.mem_flatMap.mp h
    obtain ⟨i, hi, e⟩ := List.mem_map.mp h
    obtain ⟨hi, ok⟩ := List.mem_filter.mp hi
    rw [Bool.and_eq_true, decide_eq_true_eq] at ok
    exact ⟨o, i, ok.1, lt i hi, ok.2, e.symm⟩
  · rintro ⟨o, i, h1, h2, h3, rfl⟩
    refine List.mem_flatMap.mpr ⟨o, all o (by omega), List.mem_map.mpr ⟨i, List.mem_filter.mpr ⟨all i h2, ?_⟩, rfl⟩⟩
    rw [Bool.and_eq_true, decide_eq_true_eq]
    exact ⟨h1, h3⟩
def LeP (ks ks2 : List HD) : Prop := (∀ k ∈ ks, k ∈ ks2) ∧ ∀ z, MemP ks z → MemP ks2 z
def spLe (A : A4) (C : Addr) : Sp := fun vs H Q _ => ∃ (a b : Addr) (ks ks2 : List HD), vs = [.ref a, .ref b] ∧ StkAt A C H a ks ∧ StkAt A C H b ks2 ∧ Few ks ∧ Few ks2 ∧ AllR ks ∧ AllR ks2 ∧
  ∀ (r : Bool) (H' : Hp), (r = true ↔ LeP ks ks2) → Same' H H' → Q (.bl r) H'
/-- own == of a handler class -/
structure OwnE (P : Program) (w : World) (K : PySem.W.Frag) (mg : Str → Option Value) (base : Heap) (A : A4) (i : Nat) (fE : Addr) (dE : FuncData) : Prop where
  eq : PySem.W.findIn K (.ref (A.at i)) "__eq__" = some (some (.ref fE))
  ef : PySem.W.isFn K (.ref fE) = true
  bE : Binds K dE ["self", "other"] []
  gE : FnOk P w K mg base CX0 1 fE dE ["self", "other"] (spEq K A i)
  nf : ∀ j, j < 4 → PySem.W.notFirst K (A.at i) (.ref (A.at j)) = true
def OwnsE (P : Program) (w : World) (K : PySem.W.Frag) (mg : Str → Option Value) (base : Heap) (A : A4) : Prop := ∀ i, i < 4 → ∃ fE dE, OwnE P w K mg base A i fE dE
theorem isH_inj {K : PySem.W.Frag} {mg : Str → Option Value} {A : A4} (S : Hand K mg A) {H : Hp} {a : Addr} {k k2 : HD} (h : IsH A H a k) (h2 : IsH A H a k2) : k = k2 := by
  obtain ⟨dx, e⟩ := h
  obtain ⟨dx2, e2⟩ := h2
  rw [e] at e2
  injection e2 with e2
  injection e2 with e3 e4 e5
  have ei : k.ix = k2.ix := by
    have q1 := S.kit k.ix k2.ix k.ix_lt k2.ix_lt
    have q2 := S.kit k2.ix k2.ix k2.ix_lt k2.ix_lt
    rw [e3, q2] at q1
    have := Option.some.inj q1
    simpa using this.symm
  cases k <;> cases k2 <;> first
    | rfl
    | (simp [HD.ix] at ei; done)
    | (simp [HD.flds] at e5; first | rw [e5] | (obtain ⟨q1, q2⟩ := e5; rw [q1, q2]))
/-- y == x of two handlers -/
def DH (A : A4) : V → V → Bool → Hp → Prop := fun y x b H => ∃ p q k2 k, y = .ref p ∧ x = .ref q ∧ IsH A H p k2 ∧ IsH A H q k ∧ b = decide (k2 = k)
section
variable {X : Cx} {CX : CXT} {k : Nat} {f : Addr} {fd : FuncData} {ps : List Str} {sp : Sp} {E : XK} {A : A4}
theorem runO {B : Around} {pins : List (Addr × Obj)} {σ : L2.St} {H : Hp} {s : Shared} {Q : VK} {us : List Value} {vs : List V} (F : FnOk X.prog X.w X.K X.mg X.base CX k f fd ps sp) (hr : Room k B) (fr : B.frames = X.A.frames) (hb : Binds X.K fd ps []) (hx : Passes CX X E)
    (I : Inv X pins σ H s) (r : Vals vs us) (h : sp vs H Q E) : wpAny (model X.prog X.w) B (call (.ref f) us) (EP X pins σ Q) X.xe s := by
  have many : us.length = ps.length := r.length ▸ F.len _ _ _ _ h
  have e0 : Env0 X.prog X.w X.K X.mg X.base B X.stack s H := by
    obtain ⟨h1, h2, h3, h4, h5, h6, h7, h8⟩ := I.env0
    exact ⟨fr.trans h1, h2, h3, h4, h5, h6, h7, h8⟩
  have bind := hb s us I.kIn (by simpa using many)
  rw [List.append_nil] at bind
  refine wpAny_call (codeAny_mono (F.run B X.stack s H ⟨us, []⟩ us vs Q E hr e0 bind r h) fun r s' hq => ?_)
  match r, hq with
  | .error e, hq => exact hx pins σ H s e s' I hq
  | .ok (.ret u), hq => exact I.after hq
theorem eqB_H (S : Hand X.K X.mg A) (O : OwnsE X.prog X.w X.K X.mg X.base A) (hr : Room 2 X.A) : EqB X (DH A) := by
  intro pins s σ H y x u v b I ry rx d
  obtain ⟨p, q, k2, k, rfl, rfl, h2, h1, rfl⟩ := d
  obtain rfl : u = Value.ref p := ry
  obtain rfl : v = Value.ref q := rx
  by_cases hpq : p = q
  · subst hpq
    rw [isH_inj S h2 h1]
    exact SeqAt.EqAt.same (A := X.A.in1) (s := s) (.ref p) X.prog X.w X.xe _ ⟨by simp, I⟩
  · obtain ⟨fE, dE, o⟩ := O k2.ix k2.ix_lt
    obtain ⟨dx, ea⟩ := id h2
    obtain ⟨mA, J, _⟩ := ins_get I.hok ea
    obtain ⟨od, J, _⟩ := J.look
    obtain ⟨m, hF⟩ := I.fr
    have rq : RelV (.ref q) (Value.ref q) := rfl
    obtain ⟨Pp, Z, pz, _⟩ := kit_of I rq (S.ty h1)
    refine GQ.eqBool_refG hpq ?_
    refine PySem.W.cmp_K (op := .Eq) (tb := .ref (A.at k.ix)) hr.in1.units0 hF I.ok.mod.kin J (Z.ty _ _ I.kIn pz) (o.nf _ k.ix_lt) o.eq o.ef ?_
    refine wpAny_mono (runO (vs := [.ref p, .ref q]) (us := [.ref p, .ref q]) (E := fun _ _ _ => False) o.gE hr.in1 rfl o.bE pass0 I (.cons rfl (.cons rfl .nil)) (Q := fun v H' => H' = H ∧ v = .bl (decide (k2 = k))) ⟨p, k2, .ref q, _, rfl, rfl, h2, .inl ⟨q, k, rfl, h1, rfl⟩, rfl, rfl⟩) (fun r s' z => ?_) fun _ _ z => z
    obtain ⟨w1, H1, I1, r1, rfl, rfl⟩ := z
    cases r1
    exact ⟨decide (k2 = k), rfl, rfl, I1⟩
theorem dh_one (S : Hand X.K X.mg A) : ∀ y x b b' H, DH A y x b H → DH A y x b' H → b = b' := by
  rintro y x b b' H ⟨p, q, k2, k, rfl, rfl, h2, h1, rfl⟩ ⟨p', q', k2', k', e1, e2, h2', h1', rfl⟩
  cases e1
  cases e2
  rw [isH_inj S h2 h2', isH_inj S h1 h1']
theorem op_inH (S : Hand X.K X.mg A) (O : OwnsE X.prog X.w X.K X.mg X.base A) (hr : Room 2 X.A) : OpR X (compareOp .In) (rInG X.K (DH A)) :=
  op_inG (eqB_H S O hr) (dh_one S) fun y x b H d => let ⟨p, _, _, _, e, _⟩ := d; ⟨p, e⟩
end
theorem paired_of {α β : Type} {R : α → β → Prop} : ∀ {xs : List α} {ys : List β}, xs.length = ys.length → (∀ (i : Nat) x y, xs[i]? = some x → ys[i]? = some y → R x y) → Paired R xs ys
  | [], [], _, _ => .nil
  | [], _ :: _, h, _ => by simp at h
  | _ :: _, [], h, _ => by simp at h
  | x :: xs, y :: ys, h, f => .cons (f 0 x y rfl rfl) (paired_of (by simpa using h) fun i a b e1 e2 => f (i + 1) a b (by simpa using e1) (by simpa using e2))
theorem Hs.paired {A : A4} {H : Hp} {as : List Addr} {ks : List HD} (h : Hs A H as ks) {a : Addr} {k : HD} (ha : IsH A H a k) : Paired (fun y b => DH A y (.ref a) b H) (as.map V.ref) (ks.map fun k2 => decide (k2 = k)) := by
  refine paired_of (by rw [List.length_map, List.length_map, h.len]) fun i x b e1 e2 => ?_
  obtain ⟨p, k2, ep, ek, rfl, hp⟩ := h.at e1
  rw [List.getElem?_map, ek] at e2
  exact ⟨p, a, k2, k, rfl, rfl, hp, ha, (Option.some.inj e2).symm⟩
theorem any_mem (ks : List HD) (k : HD) : (ks.map fun k2 => decide (k2 = k)).any id = decide (k ∈ ks) := by
  rw [List.any_map]
  by_cases h : k ∈ ks
  · rw [decide_eq_true h, List.any_eq_true]
    exact ⟨k, h, by simp⟩
  · rw [decide_eq_false h, List.any_eq_false]
    intro x hx
    simp only [Function.comp, id, decide_eq_true_eq]
    exact fun e => h (e ▸ hx)
end My
namespace My
open PySem PySem.Spec PyProof.Rows L2
structure SIs (K : PySem.W.Frag) (C : Addr) : Prop where
  dc : PySem.W.findIn K (.ref C) "__class__" = some (some (.builtin "object.__class__"))
  mo : PySem.W.mroIn K C (.type "object") = some true
  kit : PySem.W.kitOne K (.ref C) (.ref C) = some true
abbrev nLe : List Str := ["self", "other", "handler", "pair"]
def prD2 (z : Str × Str) : PyData := .tuple [.str z.1, .str z.2]
theorem prD2_eqv (z y : Str × Str) : PyData.eqv (prD2 z) (prD2 y) = decide (z = y) := by
  obtain ⟨a, b⟩ := z
  obtain ⟨c, d⟩ := y
  show ((a == c) && ((b == d) && true)) = _
  rw [Bool.and_true]
  by_cases h1 : a = c
  · by_cases h2 : b = d
    · simp [h1, h2]
    · simp [h1, h2]
  · simp [h1]
theorem prD2_any (L : List (Str × Str)) (z : Str × Str) : ((L.map prD2).any fun y => PyData.eqv y (prD2 z)) = decide (z ∈ L) := by
  rw [List.any_map]
  by_cases h : z ∈ L
  · rw [decide_eq_true h, List.any_eq_true]
    exact ⟨z, h, by simp [prD2_eqv]⟩
  · rw [decide_eq_false h, List.any_eq_false]
    intro y hy
    simp only [Function.comp, prD2_eqv, decide_eq_true_eq]
    exact fun e => h (e ▸ hy)
def OkZ (z : Str × Str) : Prop := PyData.strOk z.1 = true ∧ PyData.strOk z.2 = true
theorem prD2_shaped {z : Str × Str} (h : OkZ z) : SeqAt.shaped (prD2 z) = true := by
  unfold SeqAt.shaped prD2
  simp [PyData.canLay0, PyData.canLayAll0, PyData.depth, PyData.depthAll, h.1, h.2]
theorem prD2_shapedL : ∀ (L : List (Str × Str)), (∀ z ∈ L, OkZ z) → PyData.canLayAll0 (L.map prD2) = true ∧ PyData.depthAll (L.map prD2) ≤ 2
  | [], _ => ⟨rfl, by decide⟩
  | z :: L, h => by
    obtain ⟨h1, h2⟩ := prD2_shapedL L fun y hy => h y (List.mem_cons_of_mem _ hy)
    have hz := h z List.mem_cons_self
    constructor
    · rw [List.map_cons]
      simp [PyData.canLayAll0, prD2, PyData.canLay0, hz.1, hz.2, h1]
    · rw [List.map_cons]
      simp only [PyData.depthAll, prD2, PyData.depth]
      have : max 0 (max 0 0) + 1 ≤ 2 := by decide
      omega
theorem shapedL {L : List (Str × Str)} (h : ∀ z ∈ L, OkZ z) : SeqAt.shaped (.list (L.map prD2)) = true := by
  obtain ⟨h1, h2⟩ := prD2_shapedL L h
  unfold SeqAt.shaped
  rw [Bool.and_eq_true, decide_eq_true_eq]
  refine ⟨by simpa [PyData.canLay0] using h1, ?_⟩
  simp only [PyData.depth]
  omega
theorem prs_dp {K : PySem.W.Frag} {H : Hp} : ∀ {ps : List Addr} {L : List (Str × Str)}, Prs H ps L → DpAll K H (ps.map V.ref) (L.map prD2)
  | [], [], _ => .nil
  | [], _ :: _, h => absurd h.len (by simp)
  | _ :: _, [], h => absurd h.len (by simp)
  | a :: ps, z :: L, h => .cons (.tup (SqT.of (h.is 0 a z rfl rfl)) (.cons (.str _) (.cons (.str _) .nil))) (prs_dp ⟨by simpa using h.len, fun i b y e1 e2 => h.is (i + 1) b y (by simpa using e1) (by simpa using e2)⟩)
theorem okZ_mem {ks : List HD} {os : List Nat} (hR : AllR ks) (hos : ∀ o ∈ os, o < ks.length) : ∀ z ∈ pairsL ks os os, OkZ z := by
  have one : ∀ o ∈ os, PyData.strOk (nmAt ks o) = true := fun o ho => by
    have l := hos o ho
    rw [(at_k (List.getElem?_eq_getElem l)).1]
    exact (rows_nm _ (hR _ (List.getElem_mem l))).2.2
  intro z hz
  unfold pairsL pairsO at hz
  obtain ⟨o, ho, h⟩ := List.mem_flatMap.mp hz
  obtain ⟨i, hi, rfl⟩ := List.mem_map.mp h
  exact ⟨one o ho, one i (List.mem_filter.mp hi).1⟩
theorem Order.lt {ks : List HD} {os : List Nat} {ys : List Str} (h : Order ks os ys) : ∀ o ∈ os, o < ks.length := fun o ho => by
  obtain ⟨j, e⟩ := List.getElem?_of_mem ho
  exact (h.is j o e).1
section
variable {P : Program} {w : World} {K : PySem.W.Frag} {mg : Str → Option Value} {base : Heap}
theorem scLe : FnScope nLe ["self", "other"] (defScope (sStk 22)) := ⟨rfl, rfl, rfl, by decide +kernel, rfl, by decide +kernel, by decide +kernel⟩
abbrev XLe (P : Program) (w : World) (K : PySem.W.Frag) (mg : Str → Option Value) (base : Heap) (f : Addr) (cdv : Value) (A : Around) (outer : List Env) (s : Shared) (H : Hp) (E : XK) : Cx := (cxOf CX0 P w K mg base nLe "Stack.__le__" (defScope (sStk 22)) f cdv A outer s H E).nox
theorem ok_le {A : A4} {C f : Addr} {fd : FuncData} (F : Fun K "__le__" "Stack.__le__" (sStk 22) f fd) (T : Txt mg) (S : Hand K mg A) (SC : SCls K mg C) (Si : SIs K C) (O : OwnsE P w K mg base A) : FnOk P w K mg base CX0 3 f fd ["self", "other"] (spLe A C) := by
  refine F.ok scLe (fun vs H Q E h => ?_) (fun cdv A0 outer s H vs Q E hr h => ?_)
  · obtain ⟨a, b, ks, ks2, rfl, _⟩ := h
    rfl
  · obtain ⟨a, b, ks, ks2, rfl, st, st2, few, few2, hR, hR2, q⟩ := h
    obtain ⟨dx, t, n, p1, p2, p3, p4, as, ps, y1, y2, y3, ys, os, st⟩ := st
    obtain ⟨dx2, t2, n2, q1, q2, q3, q4, as2, ps2, x1, x2, x3, xs, os2, st2⟩ := st2
    have hu : (XLe P w K mg base f cdv A0 outer s H E).A.units + 65 < cLine := by
      have h := hr.un
      show (A0.deeper _).units + 65 < cLine
      omega
    refine ⟨_, pss_cons (ps_if (pt_not (pt_val (pe_callB call_isi (by rfl) T.isi (by decide +kernel) (pa_cons (pv 1) (pa_cons (pe_glob (v := .ref C) rfl SC.g rfl) pa_nil))))) (pss_one ps_never) pss_nil)
      (pss_one (ps_ret (pe_and (pe_callB (cr_all rfl) (by rfl) T.all (by decide +kernel) (pa_cons (pe_lc (own := [("handler", 2)]) (g := gName 2) (tt := tYes) rfl scLe.nd (pi_tup (pe_fld (pv 0) (by rfl))) (blkOk_by (N := nLe) (sc := defScope (sStk 22)) (by decide +kernel)) (fun _ _ _ _ _ => pg_name (i := 2) scLe.nd rfl (Or.inl rfl)) (fun _ _ _ _ _ => pts_nil)
          (fun s1 H1 C1 cl1 fp1 => show PE _ _ (tOp (rInG K (DH A)) (tVar 2) (tFld K (tVar 1) "handlers")) from pe_cmpR (show OpR _ (compareOp .In) (rInG K (DH A)) from @op_inH ((XLe P w K mg base f cdv A0 outer s H E).blk s1 H1 _ (compEnvC _ cl1 C1 (XLe P w K mg base f cdv A0 outer s H E).env) fp1) A S O hr) (pv 2) (pe_fld (pv 1) (by rfl)) (by rfl))) pa_nil))
        (pe_one (pe_callB (cr_all rfl) (by rfl) T.all (by decide +kernel) (pa_cons (pe_lc (own := [("pair", 3)]) (g := gName 3) (tt := tYes) rfl scLe.nd (pi_tup (pe_fld (pv 0) (by rfl))) (blkOk_by (N := nLe) (sc := defScope (sStk 22)) (by decide +kernel)) (fun _ _ _ _ _ => pg_name (i := 3) scLe.nd rfl (Or.inl rfl)) (fun _ _ _ _ _ => pts_nil)
          (fun s1 H1 C1 cl1 fp1 => show PE _ _ (tOp (rInDT K) (tVar 3) (tFld K (tVar 1) "pairs")) from pe_cmpR (show OpR _ (compareOp .In) (rInDT K) from @op_inDT ((XLe P w K mg base f cdv A0 outer s H E).blk s1 H1 _ (compEnvC _ cl1 C1 (XLe P w K mg base f cdv A0 outer s H E).env) fp1) hu) (pv 3) (pe_fld (pv 1) (by rfl)) (by rfl))) pa_nil)))))), ?_⟩
    have tyb : TyX K H (.ref b) (.ref C) := .base (.ins st2.o SC.c Si.dc S.hn S.tk Si.mo)
    refine ⟨.ref b, rfl, .ref b, .ref C, _, .ref C, true, rfl, .own _, tyb, Si.kit, true, rfl, iteF ?_⟩
    refine ⟨.ref a, rfl, a, C, dx, _, .ref t, rfl, st.o, SC.c, SC.no _ (by simp), rfl, t, rfl, ⟨_, SqT.of st.t⟩, fun D hD => ?_⟩
    have few64 := few.n
    refine lc_it walk_tup (fun i H' => Same' H H' ∧ H' D = some (.lst (((ks.take i).map fun k => decide (k ∈ ks2)).map V.bl))) ⟨same_new hD, upd_same⟩ (fun i H' _ hp => SqT.of (hp.1 _ _ st.t)) (fun i x H1 H2 hi hp hx => ?_) (fun H1 hp => ?_)
    · obtain ⟨sm, ed⟩ := hp
      obtain ⟨rfl, e2⟩ := hx
      obtain ⟨p, k, ep, ek, rfl, hp'⟩ := (st.hs.keep sm).at e2
      have st2' := st2.keep sm
      refine ⟨rfl, ⟨.ref p, rfl, .ref b, rfl, b, C, dx2, _, .ref t2, rfl, st2'.o, SC.c, SC.no _ (by simp), rfl, t2, as2.map V.ref, _, rfl, SqT.of st2'.t, st2'.hs.paired hp', ?_⟩⟩
      rw [any_mem]
      refine ⟨_, ed, ?_, same_over hD sm, ?_⟩
      · rw [List.length_map, List.length_map, List.length_take, sizeLine_eq]
        omega
      · rw [upd_same, List.take_add_one, ek, List.map_append, List.map_append]
        rfl
    obtain ⟨s1, ed⟩ := hp
    rw [List.take_of_length_le (by rw [List.length_map, st.hs.len]; exact Nat.le_refl _)] at ed
    refine ⟨D, _, rfl, SqL.of ed, ?_⟩
    have nd := few.nd
    have nd2 := few2.nd
    have mem1 := mem_pairsL nd st.ay st.od
    have mem2 := mem_pairsL nd2 st2.ay st2.od
    refine ⟨_, rfl, ite2 (fun e => ?_) (fun e => ?_)⟩
    · have all1 : ∀ k ∈ ks, k ∈ ks2 := fun k hk => by
        have := (List.all_eq_true.mp e) (decide (k ∈ ks2)) (List.mem_map.mpr ⟨k, hk, rfl⟩)
        simpa using this
      have st1 := st.keep s1
      refine ⟨.ref a, rfl, a, C, dx, _, .ref p4, rfl, st1.o, SC.c, SC.no _ (by simp), rfl, p4, rfl, ⟨_, SqT.of st1.s4⟩, fun D2 hD2 => ?_⟩
      have ol : os.length ≤ 63 := by
        rw [st.od.len]
        have := nodup_len ys _ st.ay.nd fun z hz => (st.ay.mem z).mp hz
        rw [List.length_map] at this
        omega
      have pl : (pairsL ks os os).length ≤ 63 * 63 := Nat.le_trans (pairsL_len ks os os) (Nat.mul_le_mul ol ol)
      have okL2 := okZ_mem hR2 st2.od.lt
      have okL1 := okZ_mem hR st.od.lt
      refine lc_it walk_tup (fun i H' => Same' H1 H' ∧ H' D2 = some (.lst ((((pairsL ks os os).take i).map fun z => decide (z ∈ pairsL ks2 os2 os2)).map V.bl))) ⟨same_new hD2, upd_same⟩ (fun i H' _ hp => SqT.of (hp.1 _ _ st1.s4)) (fun i x H3 H4 hi hp hx => ?_) (fun H3 hp => ?_)
      · obtain ⟨sm, ed2⟩ := hp
        obtain ⟨rfl, e2⟩ := hx
        rw [List.length_map] at hi
        rw [List.getElem?_map, List.getElem?_eq_getElem hi] at e2
        cases e2
        have li : i < (pairsL ks os os).length := by rw [← st.pr.len]; exact hi
        have ez := List.getElem?_eq_getElem li
        have hz := (st1.keep sm).pr.is i _ _ (List.getElem?_eq_getElem hi) ez
        have st2' := st2.keep (s1.trans sm)
        refine ⟨rfl, ⟨.ref ps[i], rfl, .ref b, rfl, b, C, dx2, _, .ref q4, rfl, st2'.o, SC.c, SC.no _ (by simp), rfl, prD2 (pairsL ks os os)[i], (pairsL ks2 os2 os2).map prD2, .tup (SqT.of hz) (.cons (.str _) (.cons (.str _) .nil)), .tup (SqT.of st2'.s4) (prs_dp st2'.pr), prD2_shaped (okL1 _ (List.getElem_mem li)), shapedL okL2, ?_⟩⟩
        rw [prD2_any]
        refine ⟨_, ed2, ?_, same_over hD2 sm, ?_⟩
        · rw [List.length_map, List.length_map, List.length_take, sizeLine_eq]
          omega
        · rw [upd_same, List.take_add_one, ez, List.map_append, List.map_append]
          rfl
      · obtain ⟨s2, ed2⟩ := hp
        rw [List.take_of_length_le (by rw [List.length_map, st.pr.len]; exact Nat.le_refl _)] at ed2
        refine ⟨D2, _, rfl, SqL.of ed2, ?_⟩
        refine q _ H3 ?_ (s1.trans s2)
        rw [List.all_eq_true]
        constructor
        · intro h
          refine ⟨all1, fun z hz => (mem2 z).mp ?_⟩
          have := h (decide (z ∈ pairsL ks2 os2 os2)) (List.mem_map.mpr ⟨z, (mem1 z).mpr hz, rfl⟩)
          simpa using this
        · intro h b hb
          obtain ⟨z, hz, rfl⟩ := List.mem_map.mp hb
          exact decide_eq_true ((mem2 z).mpr (h.2 z ((mem1 z).mp hz)))
    · refine q false H1 (Iff.intro (fun h => nomatch h) fun h => ?_) s1
      refine absurd ?_ e
      show List.all _ _ = true
      rw [List.all_eq_true]
      intro b hb
      obtain ⟨k, hk, rfl⟩ := List.mem_map.mp hb
      exact decide_eq_true (h.1 k hk)
end
end My
/-! x != y, two lists whose items are equal (own == included): False -/
namespace MyL
open PySem PySem.SeqAt
open AutoSeq1 (wpAny_loadPart')
open MeetsSeq MeetsSeq2 MeetsSeq3 SeqRoads2
section
variable {prog : Program} {w : World} {A : Around} {R : Result → Shared → Prop}
theorem ne_turns (p q : Addr) (m : Nat) (I : Nat → Shared → Prop) (laid : GQ.ListI prog w A (fun e s' => R (.error e) s') p q m I) (stop : ∀ s, I m s → R (.ok (.ret (.bool false))) s) (left : Nat) :
    ∀ j : Nat, m - j = left → j ≤ m → ∀ s, I j s → wpAny (model prog w) A.in1 (Builtin.«list.__eq__.loop» ⟨[.ref p, .ref q, rawInt j, rawInt 3], []⟩) (GQ.FinOf prog w A R) (fun e s' => R (.error e) s') s := by
  induction left with
  | zero =>
    intro j hj le s h
    obtain ⟨us, vs, c, c2, pl, ql, zu, zv, _⟩ := laid _ _ h
    obtain rfl : j = m := by omega
    have out : R (.ok (.ret (.bool false))) s := stop s h
    obtain ⟨hh, gg, dd, tt, oo⟩ := s
    wp_walk using wpAny_loadPart' pl, wpAny_loadPart' ql
    have n1 : us[((j : Nat) : Int).toNat]? = none := by simp; omega
    have n2 : vs[((j : Nat) : Int).toNat]? = none := by simp; omega
    rw [n1, n2]
    wp_walk using wpAny_loadPart' pl, wpAny_loadPart' ql
    show R (.ok (.ret (.bool (us.size != vs.size)))) _
    rw [zu, zv]
    simpa using out
  | succ left ih =>
    intro j hj le s h
    obtain ⟨us, vs, c, c2, pl, ql, zu, zv, one⟩ := laid _ _ h
    have lu : j < us.size := by omega
    have lv : j < vs.size := by omega
    have step := one lu lv
    obtain ⟨hh, gg, dd, tt, oo⟩ := s
    wp_walk using wpAny_loadPart' pl, wpAny_loadPart' ql
    have n1 : us[((j : Nat) : Int).toNat]? = some us[j] := by simp [lu]
    have n2 : vs[((j : Nat) : Int).toNat]? = some vs[j] := by simp [lv]
    have up : ((j : Int) + 1) = ((j + 1 : Nat) : Int) := by omega
    rw [n1, n2]
    refine wpAny_bind (wpAny_mono step (fun r s2 z => ?_) fun _ _ x => x)
    obtain ⟨rfl, z⟩ := z
    have next := ih (j + 1) (by omega) (by omega) s2 z
    obtain ⟨hh2, gg2, dd2, tt2, oo2⟩ := s2
    wp_walk
    rw [up]
    refine ⟨plainId_quiet plain_eq_loop _, codeAny_builtin entry_eq_loop ?_⟩
    rw [Around.under_plainId plain_eq_loop _]
    exact next
theorem ne_all (p q : Addr) (m : Nat) (I : Nat → Shared → Prop) (laid : GQ.ListI prog w A (fun e s' => R (.error e) s') p q m I) (stop : ∀ s, I m s → R (.ok (.ret (.bool false))) s) {s : Shared} (h : I 0 s) :
    wpAny (model prog w) A.in1 (Builtin.«list.__ne__» ⟨[.ref p, .ref q], []⟩) (GQ.FinOf prog w A R) (fun e s' => R (.error e) s') s := by
  obtain ⟨us, vs, c, c2, pl, ql, zu, zv, _⟩ := laid _ _ h
  have run := ne_turns (A := A) (R := R) p q m I laid stop _ 0 rfl (Nat.zero_le _) s h
  obtain ⟨hh, gg, dd, tt, oo⟩ := s
  have below := AutoSeq1.sub_list_list
  have alike : ¬ (us.size != vs.size) = true := by simp [zu, zv]
  wp_walk using wpAny_loadPart' pl, wpAny_loadPart' ql
  refine ⟨plainId_quiet plain_eq_loop _, codeAny_builtin entry_eq_loop ?_⟩
  rw [Around.under_plainId plain_eq_loop _]
  exact run
end
section
variable {prog : Program} {w : World} {A : Around} {E : Value → Shared → Prop} {s : Shared}
theorem rc_ne {p q : Addr} {m : Nat} {Q : Value → Shared → Prop} (hu : A.units < cLine) (I : Nat → Shared → Prop) (laid : GQ.ListI prog w A E p q m I) (stop : ∀ s, I m s → Q (.bool false) s) (h : I 0 s) :
    wpAny (model prog w) A (richCompare .NotEq (.ref p) (.ref q)) Q E s := by
  obtain ⟨us, vs, c, c2, pl, ql, _, _, _⟩ := laid _ _ h
  refine wpAny_richCompare_same_room (op := .NotEq) ⟨_, pl, rfl⟩ ⟨_, ql, rfl⟩ F.slot_list_ne (GQ.call_here F.slot_list_ne ⟨_, pl, rfl⟩ F.entry_list_ne (F.args_list_ne_2 _ _) ?_) hu
  exact ne_all (R := wants (fun v s' => v ≠ .notImplemented ∧ Q v s') E) p q m I laid (fun s' z => ⟨(fun x => nomatch x), stop s' z⟩) h
end
end MyL
namespace My
open PySem PySem.Spec PyProof.Rows L2
def rNeGL (D : Eqv) : R2 := fun x y H Q => D x y H ∧ ∀ H', Ext H H' → Q (.bl false) H'
theorem op_neLst {X : Cx} {n : Nat} {D : Eqv} (hD : Mon D) (h : EqG X n D) (hr : Room (n + 1) X.A) : OpR X (compareOp .NotEq) (rNeGL (DList D)) := by
  intro pins s σ H x y u v Q I rx ry hq
  obtain ⟨d, q⟩ := hq
  have sb : Sub X (n + 1) X.A := ⟨hr, rfl⟩
  obtain ⟨a, b, xs, ys, rfl, rfl, ha, hb, pr⟩ := d
  cases rx
  cases ry
  show wpAny (model X.prog X.w) X.A (richCompare .NotEq (.ref a) (.ref b)) (EP X pins σ Q) X.xe s
  refine MyL.rc_ne (m := xs.length) sb.room.units0 (fun _ s' => LoopI X pins σ H s') (fun i s' l => ?_) (fun s' l => ?_) ⟨H, I, Ext.rfl'⟩
  · obtain ⟨H1, I1, ex⟩ := id l
    obtain ⟨z, its, k, r, e⟩ := I1.hok a _ (ex _ _ ha)
    obtain ⟨z2, its2, k2, r2, e2⟩ := I1.hok b _ (ex _ _ hb)
    refine ⟨its.toArray, its2.toArray, k, k2, e, e2, by rw [List.size_toArray, ← r.length], by rw [List.size_toArray, ← r2.length, ← pr.1], fun h1 h2 => ?_⟩
    exact turnG hD h sb pr r r2 i h1 h2 s' l
  · obtain ⟨H', I', ex⟩ := l
    exact ⟨.bl false, H', I', rfl, q H' ex⟩
end My
/-! a list beside the empty one: != and == -/
namespace MyN
open PySem PySem.SeqAt
open AutoSeq1 (wpAny_loadPart')
open MeetsSeq MeetsSeq2 MeetsSeq3 SeqRoads2
section
variable {prog : Program} {w : World} {A : Around} {R : Result → Shared → Prop} {s : Shared}
theorem ne_nil {p q : Addr} {us : Array Value} {n m : Nat} (hp : s.heap.get? p = some { cls := .type "list", dict := none, data := .seq us n, slots := #[] }) (hq : s.heap.get? q = some { cls := .type "list", dict := none, data := .seq #[] m, slots := #[] })
    (h : R (.ok (.ret (.bool (!us.isEmpty)))) s) : wpAny (model prog w) A.in1 (Builtin.«list.__ne__» ⟨[.ref p, .ref q], []⟩) (GQ.FinOf prog w A R) (fun e s' => R (.error e) s') s := by
  obtain ⟨hh, gg, dd, tt, oo⟩ := s
  have below := AutoSeq1.sub_list_list
  by_cases hz : us.size = 0
  · have alike : ¬ (us.size != (#[] : Array Value).size) = true := by simp [hz]
    wp_walk using wpAny_loadPart' hp, wpAny_loadPart' hq
    refine ⟨plainId_quiet plain_eq_loop _, codeAny_builtin entry_eq_loop ?_⟩
    rw [Around.under_plainId plain_eq_loop _]
    wp_walk using wpAny_loadPart' hp, wpAny_loadPart' hq
    have e : us = #[] := Array.eq_empty_of_size_eq_zero hz
    subst e
    wp_walk using wpAny_loadPart' hp, wpAny_loadPart' hq
    have h2 := h
    simp only [Array.isEmpty_empty, Bool.not_true] at h2
    exact h2
  · have alike : (us.size != (#[] : Array Value).size) = true := by simp [hz]
    wp_walk using wpAny_loadPart' hp, wpAny_loadPart' hq
    have e : (!us.isEmpty) = true := by simp [Array.isEmpty, hz]
    rw [e] at h
    exact h
theorem eq_nil {p q : Addr} {us : Array Value} {n m : Nat} (hp : s.heap.get? p = some { cls := .type "list", dict := none, data := .seq us n, slots := #[] }) (hq : s.heap.get? q = some { cls := .type "list", dict := none, data := .seq #[] m, slots := #[] })
    (h : R (.ok (.ret (.bool us.isEmpty))) s) : wpAny (model prog w) A.in1 (Builtin.«list.__eq__» ⟨[.ref p, .ref q], []⟩) (GQ.FinOf prog w A R) (fun e s' => R (.error e) s') s := by
  obtain ⟨hh, gg, dd, tt, oo⟩ := s
  have below := AutoSeq1.sub_list_list
  by_cases hz : us.size = 0
  · have alike : ¬ (us.size != (#[] : Array Value).size) = true := by simp [hz]
    wp_walk using wpAny_loadPart' hp, wpAny_loadPart' hq
    refine ⟨plainId_quiet plain_eq_loop _, codeAny_builtin entry_eq_loop ?_⟩
    rw [Around.under_plainId plain_eq_loop _]
    wp_walk using wpAny_loadPart' hp, wpAny_loadPart' hq
    have e : us = #[] := Array.eq_empty_of_size_eq_zero hz
    subst e
    wp_walk using wpAny_loadPart' hp, wpAny_loadPart' hq
    have h2 := h
    simp only [Array.isEmpty_empty, Bool.not_true] at h2
    exact h2
  · have alike : (us.size != (#[] : Array Value).size) = true := by simp [hz]
    wp_walk using wpAny_loadPart' hp, wpAny_loadPart' hq
    have e : us.isEmpty = false := by simp [Array.isEmpty, hz]
    rw [e] at h
    exact h
end
end MyN
namespace My
open PySem PySem.Spec PyProof.Rows L2
section
variable {X : Cx}
def rNil (f : Bool → Bool) : R2 := fun x y H Q => ∃ (a b : Addr) (xs : List V), x = .ref a ∧ y = .ref b ∧ H a = some (.lst xs) ∧ H b = some (.lst []) ∧ Q (.bl (f xs.isEmpty)) H
theorem vals_empty {xs : List V} {its : List Value} (r : Vals xs its) : its.toArray.isEmpty = xs.isEmpty := by
  cases r <;> rfl
theorem op_neNil (hu : X.A.units < cLine) : OpR X (compareOp .NotEq) (rNil not) := by
  intro pins s σ H x y v u Q I rx ry h
  obtain ⟨a, b, xs, rfl, rfl, ha, hb, q⟩ := h
  obtain rfl : v = Value.ref a := rx
  obtain rfl : u = Value.ref b := ry
  obtain ⟨_, its, n, r, e⟩ := I.hok a _ ha
  obtain ⟨_, its2, n2, r2, e2⟩ := I.hok b _ hb
  cases r2
  show wpAny (model X.prog X.w) X.A (richCompare .NotEq (.ref a) (.ref b)) (EP X pins σ Q) X.xe s
  refine wpAny_richCompare_same_room (op := .NotEq) ⟨_, e, rfl⟩ ⟨_, e2, rfl⟩ F.slot_list_ne (GQ.call_here F.slot_list_ne ⟨_, e, rfl⟩ F.entry_list_ne (F.args_list_ne_2 _ _) ?_) hu
  refine MyN.ne_nil (R := wants (fun v s' => v ≠ .notImplemented ∧ EP X pins σ Q v s') X.xe) e e2 ⟨(fun x => nomatch x), .bl (!xs.isEmpty), H, I, ?_, q⟩
  rw [vals_empty r]
  rfl
theorem op_eqNil (hu : X.A.units < cLine) : OpR X (compareOp .Eq) (rNil id) := by
  intro pins s σ H x y v u Q I rx ry h
  obtain ⟨a, b, xs, rfl, rfl, ha, hb, q⟩ := h
  obtain rfl : v = Value.ref a := rx
  obtain rfl : u = Value.ref b := ry
  obtain ⟨_, its, n, r, e⟩ := I.hok a _ ha
  obtain ⟨_, its2, n2, r2, e2⟩ := I.hok b _ hb
  cases r2
  show wpAny (model X.prog X.w) X.A (richCompare .Eq (.ref a) (.ref b)) (EP X pins σ Q) X.xe s
  refine wpAny_richCompare_same_room (op := .Eq) ⟨_, e, rfl⟩ ⟨_, e2, rfl⟩ F.slot_list_eq (GQ.call_here F.slot_list_eq ⟨_, e, rfl⟩ F.entry_list_eq (F.args_list_eq_2 _ _) ?_) hu
  refine MyN.eq_nil (R := wants (fun v s' => v ≠ .notImplemented ∧ EP X pins σ Q v s') X.xe) e e2 ⟨(fun x => nomatch x), .bl xs.isEmpty, H, I, ?_, q⟩
  rw [vals_empty r]
  rfl
end
end My
namespace My
open PySem PySem.Spec PyProof.Rows L2
/-! ### things in a drawn order -/
def spMixed (K : PySem.W.Frag) : Sp := fun vs H Q _ => ∃ (p c l : Addr) (ns : List Int) (B : Int) (xs : List V), vs = [.ref p, .ref l] ∧ PenAt H p c ns B ∧ SqL K H l xs ∧ xs.length ≤ 100 ∧ B + xs.length ≤ 2000 ∧
  ∀ (ys : List V) (d : Addr) (H' : Hp), ys.Perm xs → PenAt H' p c ns (B + xs.length) → Off p H H' → d ≠ p → H d = none → H' d = some (.lst ys) → Q (.ref d) H'
abbrev nMix : List Str := ["_law_pen_here", "_law_some", "_law_left", "_law_found"]
theorem PenAt.new {H : Hp} {p c a : Addr} {ns : List Int} {B : Int} {o : HO} (P : PenAt H p c ns B) (h : H a = none) : PenAt (upd H a o) p c ns B := P.keep fun q x e => by
  rw [upd_ne (ne_of_none e h)]
  exact e
theorem erase_perm' {α : Type} (xs : List α) (k : Nat) (y : α) (h : xs[k]? = some y) : (y :: xs.eraseIdx k).Perm xs := L2.erase_perm xs k y h
structure MixS (p c l d : Addr) (ns : List Int) (B : Int) (xs : List V) (H0 H : Hp) (fv lv : List V) : Prop where
  l : H l = some (.lst lv)
  d : H d = some (.lst fv)
  pm : (fv ++ lv).Perm xs
  pen : PenAt H p c ns (B + fv.length)
  off : Off p H0 H
section
variable {P : Program} {w : World} {K : PySem.W.Frag} {mg : Str → Option Value} {base : Heap}
theorem scMix : FnScope nMix ["_law_pen_here", "_law_some"] (defScope sMixed) := ⟨rfl, rfl, rfl, by decide +kernel, rfl, by decide +kernel, by decide +kernel⟩
theorem ok_mixed {f fD : Addr} {fd dD : FuncData} (F : Fun K "_law_mixed" "_law_mixed" sMixed f fd) (T : Txt mg) (Dr : FnB P w K mg base 1 "_law_draw" sDraw fD dD ["_law_pen_here", "_law_many"] spDraw) : FnOk P w K mg base CX0 2 f fd ["_law_pen_here", "_law_some"] (spMixed K) := by
  refine F.ok scMix (fun vs H Q E h => ?_) (fun cdv A0 outer s H vs Q E hr h => ?_)
  · obtain ⟨p, c, l, ns, B, xs, rfl, _⟩ := h
    rfl
  · obtain ⟨p, c, l0, ns, B, xs, rfl, PA, hl, few, hB, q⟩ := h
    have hu : (cxOf CX0 P w K mg base nMix "_law_mixed" (defScope sMixed) f cdv A0 outer s H E).nox.A.units < cLine := hr.units0
    refine ⟨_, pss_cons (ps_par (i := 2) (j := 3) rfl scMix.nd rfl rfl (by decide) rfl rfl (pa_cons (pe_callTy call_list_of (by rfl) T.list (by decide +kernel) (pa_cons (pv 1) pa_nil)) (pa_cons (pe_lst pa_nil) pa_nil)) (by rfl))
      (pss_cons (ps_while PassesOwn.never (pt_cmpR (op_neNil hu) (pv 2) (pe_lst pa_nil) (nomark _))
        (pss_one (ps_expr (pe_bm PySem.F.plainAttrs_list PySem.F.slot_list_append PySem.F.type_list_append mt_append (pv 3) (pa_cons
          (pe_bm PySem.F.plainAttrs_list PySem.F.slot_list_pop PySem.F.type_list_pop mt_popAt (pv 2) (pa_cons (pe_call Dr.G hr (by rfl) Dr.g Dr.F.kp Dr.b .nil pass0 (pa_cons (pv 0) (pa_cons (pe_callB call_len_seq (by rfl) T.len PySem.boot_len (pa_cons (pv 2) pa_nil)) pa_nil))) pa_nil)) pa_nil)))))
      (pss_one (ps_ret (pv 3)))), ?_⟩
    refine ⟨.ref l0, rfl, l0, xs, rfl, .inl hl, fun l hl1 => ⟨by show 0 ≤ sizeLine; decide, fun d hd => ⟨_, _, rfl, ?_⟩⟩⟩
    have pl : p ≠ l := by
      obtain ⟨b, g, e, _⟩ := PA.pen
      exact ne_of_none e hl1
    have o1 := Off.new (p := p) (o := .lst xs) hl1
    have o2 := o1.trans (Off.new (p := p) (o := .lst []) hd)
    have P2 := (PA.new (o := .lst xs) hl1).new (o := .lst []) hd
    have ld : l ≠ d := ne_of_none upd_same hd
    have dH : H d = none := by
      rw [upd_ne ld.symm] at hd
      exact hd
    have cl : c ≠ l := ne_of_none PA.cells hl1
    have cd : c ≠ d := ne_of_none (PA.new (o := .lst xs) hl1).cells hd
    have pd : p ≠ d := by
      obtain ⟨b, g, e, _⟩ := (PA.new (o := .lst xs) hl1).pen
      exact ne_of_none e hd
    refine ⟨fun m σ H' => ∃ fv lv, m = lv.length ∧ σ = [some (.ref p), some (.ref l0), some (.ref l), some (.ref d)] ∧ MixS p c l d ns B xs H H' fv lv, ⟨xs.length, [], xs, rfl, rfl, ⟨by rw [upd_ne ld, upd_same], upd_same, by simp, by simpa using P2, o2⟩⟩, ?_⟩
    rintro m σ H1 ⟨fv, lv, rfl, rfl, M⟩
    refine ⟨.ref l, rfl, by show 0 ≤ sizeLine; decide, fun e he => ⟨l, e, lv, rfl, rfl, same_new he _ _ M.l, upd_same, _, rfl, ?_⟩⟩
    have k2 := same_new (o := .lst []) he
    have M2 : MixS p c l d ns B xs H (upd H1 e (.lst [])) fv lv := ⟨k2 _ _ M.l, k2 _ _ M.d, M.pm, M.pen.new he, M.off.trans (Off.new he)⟩
    generalize upd H1 e (.lst []) = H2 at M2
    clear M k2 he
    have tot : fv.length + lv.length = xs.length := by
      have := M2.pm.length_eq
      rwa [List.length_append] at this
    cases lv with
    | nil =>
      refine iteF ?_
      refine ⟨.ref d, rfl, ?_⟩
      have pm := M2.pm
      rw [List.append_nil] at pm
      have e : (fv.length : Int) = xs.length := by simp at tot; omega
      exact q fv d H2 pm (by rw [← e]; exact M2.pen) M2.off pd.symm dH M2.d
    | cons x r =>
      refine iteT ⟨fun σ' H' => ∃ fv' lv', lv'.length < (x :: r).length ∧ σ' = [some (.ref p), some (.ref l0), some (.ref l), some (.ref d)] ∧ MixS p c l d ns B xs H H' fv' lv', fun σ' H' h => ?_, ?_⟩
      · obtain ⟨fv', lv', hlt, rfl, M'⟩ := h
        exact ⟨lv'.length, hlt, fv', lv', rfl, rfl, M'⟩
      have lt : (x :: r).length = r.length + 1 := rfl
      refine ⟨.ref d, rfl, .inl ⟨rfl, _, SqL.of M2.d⟩, .ref l, rfl, .inl ⟨rfl, _, SqL.of M2.l⟩, .ref p, rfl, .ref l, rfl, l, _, rfl, .inl (SqL.of M2.l), p, c, ns, B + fv.length, _, rfl, M2.pen, by omega, by rw [lt]; omega, by rw [lt]; omega, fun i H3 i0 i1 P3 off3 => ?_⟩
      have l3 := off3 l _ pl.symm M2.l
      have d3 := off3 d _ pd.symm M2.d
      obtain ⟨k, rfl⟩ : ∃ k : Nat, i = (k : Int) := ⟨i.toNat, by omega⟩
      have hk : k < (x :: r).length := by omega
      have ek : (x :: r)[k]? = some (x :: r)[k] := List.getElem?_eq_getElem hk
      have sI : seqIndex? (k : Int) (x :: r).length = some k := by
        unfold seqIndex?
        simp
        omega
      refine ⟨l, _, (k : Int), k, _, rfl, rfl, l3, by omega, by rw [lt] at hk; omega, sI, ek, ?_⟩
      have d4 : (upd H3 l (.lst ((x :: r).eraseIdx k))) d = some (.lst fv) := by rw [upd_ne ld.symm]; exact d3
      refine ⟨d, fv, _, rfl, rfl, d4, by rw [sizeLine_eq]; omega, ?_⟩
      refine ⟨fv ++ [(x :: r)[k]], (x :: r).eraseIdx k, ?_, rfl, ?_⟩
      · rw [List.length_eraseIdx_of_lt hk]
        omega
      · have P4 : PenAt (upd (upd H3 l (.lst ((x :: r).eraseIdx k))) d (.lst (fv ++ [(x :: r)[k]]))) p c ns (B + fv.length + 1) := by
          obtain ⟨b, g, e1, e2, e3, e4⟩ := P3.pen
          have c3 := P3.cells
          exact ⟨⟨b, g, by rw [upd_ne pd, upd_ne pl]; exact e1, e2, e3, e4⟩, by rw [upd_ne cd, upd_ne cl]; exact c3, P3.few⟩
        refine ⟨by rw [upd_ne ld, upd_same], upd_same, ?_, ?_, fun b o n e => ?_⟩
        · refine List.Perm.trans ?_ M2.pm
          rw [List.append_assoc]
          exact List.Perm.append_left fv (erase_perm' _ k _ ek)
        · rw [List.length_append]
          have : B + ((fv.length + [(x :: r)[k]].length : Nat) : Int) = B + fv.length + 1 := by
            simp
            omega
          rw [this]
          exact P4
        · have nl : b ≠ l := ne_of_none e hl1
          have nd : b ≠ d := ne_of_none (same_new (o := .lst xs) hl1 _ _ e) hd
          rw [upd_ne nd, upd_ne nl]
          exact off3 b o n (M2.off b o n e)
end
end My
namespace My
open PySem PySem.Spec PyProof.Rows L2
def pool11 : List Str := ["x", "y", "z", "w", "l", "m", "f", "g", "h", "ab", "zzzzzzzz"]
structure Rws (H : Hp) (rs : List Addr) (ks : List HD) : Prop where
  len : rs.length = ks.length
  is : ∀ (i : Nat) (a : Addr) (k : HD), rs[i]? = some a → ks[i]? = some k → H a = some (.tup k.row)
theorem Rws.nil {H : Hp} : Rws H [] [] := ⟨rfl, fun i a k e => by simp at e⟩
theorem Rws.add {H : Hp} {rs : List Addr} {ks : List HD} {a : Addr} {k : HD} (h : Rws H rs ks) (e : H a = some (.tup k.row)) : Rws H (rs ++ [a]) (ks ++ [k]) := by
  refine ⟨by rw [List.length_append, List.length_append, h.len]; rfl, fun i b y e1 e2 => ?_⟩
  rcases Nat.lt_or_ge i rs.length with lt | ge
  · rw [List.getElem?_append_left lt] at e1
    rw [List.getElem?_append_left (by rw [← h.len]; exact lt)] at e2
    exact h.is i b y e1 e2
  · rw [List.getElem?_append_right ge] at e1
    rw [List.getElem?_append_right (by rw [← h.len]; exact ge), ← h.len] at e2
    cases hj : i - rs.length with
    | zero =>
      rw [hj] at e1 e2
      cases e1
      cases e2
      exact e
    | succ j =>
      rw [hj] at e1
      simp at e1
theorem Rws.app {H : Hp} {rs rs2 : List Addr} {ks ks2 : List HD} (h : Rws H rs ks) (h2 : Rws H rs2 ks2) : Rws H (rs ++ rs2) (ks ++ ks2) := by
  refine ⟨by rw [List.length_append, List.length_append, h.len, h2.len], fun i b y e1 e2 => ?_⟩
  rcases Nat.lt_or_ge i rs.length with lt | ge
  · rw [List.getElem?_append_left lt] at e1
    rw [List.getElem?_append_left (by rw [← h.len]; exact lt)] at e2
    exact h.is i b y e1 e2
  · rw [List.getElem?_append_right ge] at e1
    rw [List.getElem?_append_right (by rw [← h.len]; exact ge), ← h.len] at e2
    exact h2.is _ b y e1 e2
theorem Rws.to {H H' : Hp} {rs : List Addr} {ks : List HD} (h : Rws H rs ks) (k : ∀ b xs, H b = some (.tup xs) → H' b = some (.tup xs)) : Rws H' rs ks := ⟨h.len, fun i a y e1 e2 => k _ _ (h.is i a y e1 e2)⟩
theorem Rws.keep {H H' : Hp} {rs : List Addr} {ks : List HD} (h : Rws H rs ks) (s : Same' H H') : Rws H' rs ks := h.to fun b xs e => s _ _ e
theorem Rws.off {H H' : Hp} {p c : Addr} {ns : List Int} {B : Int} {rs : List Addr} {ks : List HD} (h : Rws H rs ks) (P : PenAt H p c ns B) (o : Off p H H') : Rws H' rs ks := h.to fun b xs e => by
  obtain ⟨b', g, hp, _⟩ := P.pen
  exact o b _ (fun z => by rw [z, hp] at e; cases e) e
/-- a list of rows -/
structure RowL (H : Hp) (l : Addr) (ks : List HD) : Prop where
  ex : ∃ rs, H l = some (.lst (rs.map V.ref)) ∧ Rws H rs ks
theorem RowL.keep {H H' : Hp} {l : Addr} {ks : List HD} (h : RowL H l ks) (s : Same' H H') : RowL H' l ks := let ⟨rs, e, r⟩ := h.ex; ⟨rs, s _ _ e, r.keep s⟩
theorem RowL.off {H H' : Hp} {p c l : Addr} {ns : List Int} {B : Int} {ks : List HD} (h : RowL H l ks) (n : l ≠ p) (P : PenAt H p c ns B) (o : Off p H H') : RowL H' l ks := let ⟨rs, e, r⟩ := h.ex; ⟨rs, o _ _ n e, r.off P o⟩
def unS : V → Option Str
  | .str z => some z
  | _ => none
theorem perm_strs {ys : List V} {zs : List Str} (h : ys.Perm (zs.map V.str)) : ∃ us : List Str, ys = us.map V.str ∧ us.Perm zs := by
  have e0 : ∀ us : List Str, (us.map V.str).filterMap unS = us := by
    intro us
    induction us with
    | nil => rfl
    | cons x us ih =>
      show x :: (us.map V.str).filterMap unS = x :: us
      rw [ih]
  have all : ∀ ys : List V, (∀ y ∈ ys, ∃ z, y = .str z) → ys = (ys.filterMap unS).map V.str := by
    intro ys
    induction ys with
    | nil => intro _; rfl
    | cons y ys ih =>
      intro h
      obtain ⟨z, rfl⟩ := h y List.mem_cons_self
      show V.str z :: ys = V.str z :: ((ys.filterMap unS).map V.str)
      rw [← ih fun x hx => h x (List.mem_cons_of_mem _ hx)]
  refine ⟨ys.filterMap unS, all ys fun y hy => ?_, ?_⟩
  · obtain ⟨z, _, e⟩ := List.mem_map.mp (h.mem_iff.mp hy)
    exact ⟨z, e.symm⟩
  · have := h.filterMap unS
    rwa [e0] at this
def unR : V → Option Addr
  | .ref z => some z
  | _ => none
theorem perm_refs {ys : List V} {zs : List Addr} (h : ys.Perm (zs.map V.ref)) : ∃ us : List Addr, ys = us.map V.ref ∧ us.Perm zs := by
  have e0 : ∀ us : List Addr, (us.map V.ref).filterMap unR = us := by
    intro us
    induction us with
    | nil => rfl
    | cons x us ih =>
      show x :: (us.map V.ref).filterMap unR = x :: us
      rw [ih]
  have all : ∀ ys : List V, (∀ y ∈ ys, ∃ z, y = .ref z) → ys = (ys.filterMap unR).map V.ref := by
    intro ys
    induction ys with
    | nil => intro _; rfl
    | cons y ys ih =>
      intro h
      obtain ⟨z, rfl⟩ := h y List.mem_cons_self
      show V.ref z :: ys = V.ref z :: ((ys.filterMap unR).map V.ref)
      rw [← ih fun x hx => h x (List.mem_cons_of_mem _ hx)]
  refine ⟨ys.filterMap unR, all ys fun y hy => ?_, ?_⟩
  · obtain ⟨z, _, e⟩ := List.mem_map.mp (h.mem_iff.mp hy)
    exact ⟨z, e.symm⟩
  · have := h.filterMap unR
    rwa [e0] at this
/-- rows in another order are rows -/
theorem Rws.perm {H : Hp} {rs us : List Addr} (h : us.Perm rs) : ∀ {ks : List HD}, Rws H rs ks → ∃ js, Rws H us js ∧ js.Perm ks := by
  induction h with
  | nil => intro ks r; exact ⟨ks, r, .refl _⟩
  | @cons x l1 l2 p ih =>
    intro ks r
    cases ks with
    | nil => exact absurd r.len (by simp)
    | cons k ks =>
      obtain ⟨js, r2, pj⟩ := ih (ks := ks) ⟨by simpa using r.len, fun i a y e1 e2 => r.is (i + 1) a y (by simpa using e1) (by simpa using e2)⟩
      refine ⟨k :: js, ⟨by simp [r2.len], fun i a y e1 e2 => ?_⟩, pj.cons k⟩
      cases i with
      | zero =>
        simp at e1 e2
        exact r.is 0 a y (by simpa using e1) (by simpa using e2)
      | succ i => exact r2.is i a y (by simpa using e1) (by simpa using e2)
  | @swap x y l =>
    intro ks r
    match ks with
    | [] => exact absurd r.len (by simp)
    | [_] => exact absurd r.len (by simp)
    | k1 :: k2 :: ks =>
      refine ⟨k2 :: k1 :: ks, ⟨by simpa using r.len, fun i a z e1 e2 => ?_⟩, .swap _ _ _⟩
      match i with
      | 0 =>
        simp at e1 e2
        exact r.is 1 a z (by simpa using e1) (by simpa using e2)
      | 1 =>
        simp at e1 e2
        exact r.is 0 a z (by simpa using e1) (by simpa using e2)
      | i + 2 => exact r.is (i + 2) a z (by simpa using e1) (by simpa using e2)
  | trans p1 p2 ih1 ih2 =>
    intro ks r
    obtain ⟨js, r2, pj⟩ := ih2 r
    obtain ⟨is, r3, pi⟩ := ih1 r2
    exact ⟨is, r3, pi.trans pj⟩
def NoNew (ks : List HD) : Prop := ∀ k ∈ ks, k.nm ≠ ("new" : Str)
/-- rows such as the law draws them -/
structure Good (ks : List HD) : Prop where
  few : Few ks
  all : AllR ks
  n : ks.length ≤ 10
def spRows : Sp := fun vs H Q _ => ∃ (p c : Addr) (ns : List Int) (B : Int), vs = [.ref p, .int 4, .int 2, .int 3] ∧ PenAt H p c ns B ∧ B + 40 ≤ 2000 ∧
  ∀ (ks : List HD) (l : Addr) (H' : Hp), Good ks → NoNew ks → RowL H' l ks → l ≠ p → PenAt H' p c ns (B + 40) → Off p H H' → Q (.ref l) H'
/-- rows in the making: the names that are left, the rows so far -/
structure Mak (p c nl D : Addr) (ns : List Int) (B : Int) (zs : List Str) (ix : Nat) (H1 H : Hp) (i : Nat) (left : List Str) (rs : List Addr) (ks : List HD) : Prop where
  nn : H nl = some (.lst (left.map V.str))
  d : H D = some (.lst (rs.map V.ref))
  r : Rws H rs ks
  pm : (left ++ ks.map HD.nm).Perm zs
  k : ∀ k ∈ ks, k ∈ rowsK ∧ k.ix = ix
  n : ks.length = i
  pen : PenAt H p c ns (B + i)
  off : ∀ b o, b ≠ p → b ≠ nl → H1 b = some o → H b = some o
theorem rows_lap {σ : L2.St} {te : TE} {p c nl D : Addr} {ns : List Int} {B : Int} {zs : List Str} {ix n : Nat} {H1 : Hp} {Qd : Hp → Prop} (hv : ∀ x : V, wipe ((wipe σ [6]).set 6 (some x)) [6] = wipe σ [6]) (hzs : ∀ z ∈ zs, z ∈ pool11)
    (hte : ∀ (i : Nat) (H' : Hp) (left : List Str) (x : Str) (R : VK), i < n → PenAt H' p c ns (B + i) → H' nl = some (.lst ((left ++ [x]).map V.str)) → x ∈ pool11 →
      (∀ (tt : Addr) (k : HD) (H'' : Hp), k.nm = x → k ∈ rowsK → k.ix = ix → H'' tt = some (.tup k.row) → H'' nl = some (.lst (left.map V.str)) → PenAt H'' p c ns (B + i + 1) → (∀ b o, b ≠ p → b ≠ nl → H' b = some o → H'' b = some o) → R (.ref tt) H'') →
      te ((wipe σ [6]).set 6 (some (.int (0 + (i : Nat))))) H' R)
    (pl : nl ≠ p) (cl : c ≠ nl) (P1 : PenAt H1 p c ns B) (h1 : H1 nl = some (.lst (zs.map V.str))) (hD : H1 D = none) (hn : n ≤ zs.length) (few : zs.length ≤ 100)
    (q : ∀ H' left rs ks, Mak p c nl D ns B zs ix H1 H' n left rs ks → Qd H') : LcW (Itr 0 n) (gName 6) tYes te [6] σ D Qd H1 := by
  have Dp : D ≠ p := by
    obtain ⟨b, g, e, _⟩ := P1.pen
    exact (ne_of_none e hD).symm
  have Dn : D ≠ nl := (ne_of_none h1 hD).symm
  have Dc : D ≠ c := (ne_of_none P1.cells hD).symm
  refine lc_it (walk_range (lo := 0) (n := n)) (fun i H' => ∃ left rs ks, Mak p c nl D ns B zs ix H1 H' i left rs ks) ⟨zs, [], [], ⟨same_new hD _ _ h1, upd_same, .nil, by simp, (fun k h => nomatch h), rfl, by simpa using P1.new hD, fun b o _ _ e => same_new hD _ _ e⟩⟩ (fun _ _ _ _ => trivial) (fun i x H2 H3 hi hp hx => ?_) (fun H2 hp => ?_)
  · obtain ⟨left, rs, ks, M⟩ := hp
    obtain ⟨rfl, rfl⟩ := hx
    have ll : left.length = zs.length - i := by
      have := M.pm.length_eq
      rw [List.length_append, List.length_map, M.n] at this
      omega
    obtain ⟨lft, x, rfl⟩ : ∃ lft x, left = lft ++ [x] := by
      rcases List.eq_nil_or_concat left with e | ⟨l, x, e⟩
      · rw [e] at ll
        simp at ll
        omega
      · exact ⟨l, x, by rw [e, List.concat_eq_append]⟩
    have hx : x ∈ pool11 := hzs x (M.pm.mem_iff.mp (by simp))
    refine ⟨hv _, hte i H3 lft x _ hi M.pen M.nn hx fun tt k H4 e1 e2 e3 e4 e5 P4 off4 => ?_⟩
    have d4 := off4 D _ Dp Dn M.d
    have kp : ∀ b o, b ≠ D → H4 b = some o → (upd H4 D (.lst (rs.map V.ref ++ [.ref tt]))) b = some o := fun b o n e => by rw [upd_ne n]; exact e
    have kt : ∀ b xs, H4 b = some (.tup xs) → (upd H4 D (.lst (rs.map V.ref ++ [.ref tt]))) b = some (.tup xs) := fun b xs e => kp b _ (fun z => by rw [z, d4] at e; cases e) e
    have r4 : Rws H4 rs ks := M.r.to fun b xs e => off4 b _ (fun z => by
      obtain ⟨b', g, hp, _⟩ := M.pen.pen
      rw [z, hp] at e
      cases e) (fun z => by rw [z, M.nn] at e; cases e) e
    refine ⟨_, d4, ?_, lft, rs ++ [tt], ks ++ [k], ⟨kp _ _ Dn.symm e5, ?_, (r4.to kt).add (kt _ _ e4), ?_, ?_, by rw [List.length_append, M.n]; rfl, ?_, fun b o n1 n2 e => kp b o (ne_of_none e hD) (off4 b o n1 n2 (M.off b o n1 n2 e))⟩⟩
    · rw [List.length_map, M.r.len, M.n, sizeLine_eq]
      omega
    · rw [upd_same, List.map_append]
      rfl
    · rw [List.map_append, List.map_cons, List.map_nil, e1]
      refine List.Perm.trans ?_ M.pm
      rw [List.append_assoc]
      exact List.Perm.append_left lft List.perm_append_comm
    · intro k' hk'
      rcases List.mem_append.mp hk' with h | h
      · exact M.k k' h
      · rw [List.mem_singleton.mp h]
        exact ⟨e2, e3⟩
    · obtain ⟨b, g, y1, y2, y3, y4⟩ := P4.pen
      have eB : B + ((i + 1 : Nat) : Int) = B + i + 1 := by omega
      rw [eB]
      exact ⟨⟨b, g, kp _ _ Dp.symm y1, y2, y3, y4⟩, kp _ _ Dc.symm P4.cells, P4.few⟩
  · obtain ⟨left, rs, ks, M⟩ := hp
    exact q H2 left rs ks M
theorem pool_nm : ∀ z ∈ pool11, z ∈ pool ∧ z ≠ ("choice" : Str) := by decide +kernel
theorem pool_new : ∀ z ∈ pool11, z ≠ ("new" : Str) := by decide +kernel
theorem pool_nd : pool11.Nodup := by decide +kernel
theorem cell_in : ∀ z ∈ pool11, ∀ d, d < 3 → HD.cell z (2 + (d : Nat)) ∈ rowsK := by decide +kernel
theorem log_in : ∀ z ∈ pool11, HD.log z ∈ rowsK ∧ HD.fail z ∈ rowsK := by decide +kernel
theorem cnt_app (a b : List HD) (i : Nat) : cnt (a ++ b) i = cnt a i + cnt b i := by
  unfold cnt
  rw [List.filter_append, List.length_append]
theorem cnt_all {a : List HD} {j : Nat} (h : ∀ k ∈ a, k.ix = j) (i : Nat) : cnt a i = if i = j then a.length else 0 := by
  unfold cnt
  split
  · rename_i e
    rw [List.filter_eq_self.mpr fun k hk => decide_eq_true ((h k hk).trans e.symm)]
  · rename_i e
    rw [List.filter_eq_nil_iff.mpr fun k hk => by simp only [decide_eq_true_eq]; exact fun z => e (z ▸ h k hk)]
    rfl
theorem cnt_perm {a b : List HD} (h : a.Perm b) (i : Nat) : cnt a i = cnt b i := (h.filter _).length_eq
/-- what is put together is good -/
theorem good_of {k1 k2 k3 ch js : List HD} {l3 zs : List Str} (hzs : zs.Perm pool11) (h1 : ∀ k ∈ k1, k ∈ rowsK ∧ k.ix = 0) (h2 : ∀ k ∈ k2, k ∈ rowsK ∧ k.ix = 1) (h3 : ∀ k ∈ k3, k ∈ rowsK ∧ k.ix = 2) (n1 : k1.length ≤ 4) (n2 : k2.length ≤ 2) (n3 : k3.length ≤ 3) (hc : ch = [] ∨ ch = [.cho])
    (pm : (l3 ++ (k3.map HD.nm ++ (k2.map HD.nm ++ k1.map HD.nm))).Perm zs) (pj : js.Perm (((k1 ++ k2) ++ k3) ++ ch)) : Good js ∧ NoNew js := by
  have nz : zs.Nodup := hzs.nodup_iff.mpr pool_nd
  have na := pm.nodup_iff.mpr nz
  have inp : ∀ k ∈ (k1 ++ k2) ++ k3, k.nm ∈ pool11 := fun k hk => hzs.mem_iff.mp (pm.mem_iff.mp (by
    have hm : k.nm ∈ ((k1 ++ k2) ++ k3).map HD.nm := List.mem_map.mpr ⟨k, hk, rfl⟩
    simp only [List.map_append, List.mem_append] at hm ⊢
    rcases hm with (h | h) | h
    · exact .inr (.inr (.inr h))
    · exact .inr (.inr (.inl h))
    · exact .inr (.inl h)))
  have nb : (((k1 ++ k2) ++ k3).map HD.nm).Nodup := by
    have n4 : (k3.map HD.nm ++ (k2.map HD.nm ++ k1.map HD.nm)).Nodup := (List.nodup_append.mp na).2.1
    have p4 : (((k1 ++ k2) ++ k3).map HD.nm).Perm (k3.map HD.nm ++ (k2.map HD.nm ++ k1.map HD.nm)) := by
      rw [List.map_append, List.map_append]
      exact List.perm_append_comm.trans (List.Perm.append_left _ List.perm_append_comm)
    exact p4.nodup_iff.mpr n4
  have chl : ch.length ≤ 1 := by rcases hc with e | e <;> rw [e] <;> decide
  have chk : ∀ k ∈ ch, k = .cho := fun k hk => by
    rcases hc with e | e <;> rw [e] at hk
    · cases hk
    · exact List.mem_singleton.mp hk
  have ndall : ((((k1 ++ k2) ++ k3) ++ ch).map HD.nm).Nodup := by
    rw [List.map_append, List.nodup_append]
    refine ⟨nb, ?_, ?_⟩
    · rcases hc with e | e <;> rw [e] <;> decide
    · intro a ha b hb e
      obtain ⟨k, hk, rfl⟩ := List.mem_map.mp ha
      obtain ⟨k', hk', rfl⟩ := List.mem_map.mp hb
      rw [chk k' hk'] at e
      exact (pool_nm _ (inp k hk)).2 e
  have cc : ∀ i, i < 3 → cnt js i = (if i = 0 then k1.length else 0) + (if i = 1 then k2.length else 0) + (if i = 2 then k3.length else 0) := fun i hi => by
    rw [cnt_perm pj, cnt_app, cnt_app, cnt_app, cnt_all (fun k hk => (h1 k hk).2), cnt_all (fun k hk => (h2 k hk).2), cnt_all (fun k hk => (h3 k hk).2), cnt_all (fun k hk => by rw [chk k hk]; rfl : ∀ k ∈ ch, k.ix = 3)]
    rw [if_neg (by omega : ¬ i = 3), Nat.add_zero]
  have tot : js.length ≤ 10 := by
    rw [pj.length_eq, List.length_append, List.length_append, List.length_append]
    omega
  refine ⟨⟨⟨(pj.map HD.nm).nodup_iff.mpr ndall, ?_, ?_, ?_, by omega⟩, fun k hk => ?_, tot⟩, fun k hk => ?_⟩
  · rw [cc 0 (by decide)]; simpa using n1
  · rw [cc 1 (by decide)]; simpa using n2
  · rw [cc 2 (by decide)]; simpa using n3
  · have := pj.mem_iff.mp hk
    simp only [List.mem_append] at this
    rcases this with ((h | h) | h) | h
    · exact (h1 k h).1
    · exact (h2 k h).1
    · exact (h3 k h).1
    · rw [chk k h]
      decide +kernel
  · rcases List.mem_append.mp (pj.mem_iff.mp hk) with h | h
    · exact pool_new _ (inp k h)
    · rw [chk k h]
      exact (show ("choice" : Str) ≠ "new" by decide)
abbrev nRows : List Str := ["_law_pen_here", "_law_cells", "_law_logs", "_law_failures", "_law_names", "_law_found", "_law_k"]
section
variable {P : Program} {w : World} {K : PySem.W.Frag} {mg : Str → Option Value} {base : Heap}
theorem scRows : FnScope nRows ["_law_pen_here", "_law_cells", "_law_logs", "_law_failures"] (defScope sRows) := ⟨rfl, rfl, rfl, by decide +kernel, rfl, by decide +kernel, by decide +kernel⟩
abbrev XRo (P : Program) (w : World) (K : PySem.W.Frag) (mg : Str → Option Value) (base : Heap) (f : Addr) (cdv : Value) (A : Around) (outer : List Env) (s : Shared) (H : Hp) (E : XK) : Cx := (cxOf CX0 P w K mg base nRows "_law_rows" (defScope sRows) f cdv A outer s H E).nox
theorem ok_rows {f fD fM : Addr} {fd dD dM : FuncData} (F : Fun K "_law_rows" "_law_rows" sRows f fd) (T : Txt mg) (Dr : FnB P w K mg base 1 "_law_draw" sDraw fD dD ["_law_pen_here", "_law_many"] spDraw) (Mx : FnB P w K mg base 2 "_law_mixed" sMixed fM dM ["_law_pen_here", "_law_some"] (spMixed K)) :
    FnOk P w K mg base CX0 3 f fd ["_law_pen_here", "_law_cells", "_law_logs", "_law_failures"] spRows := by
  refine F.ok scRows (fun vs H Q E h => ?_) (fun cdv A0 outer s H vs Q E hr h => ?_)
  · obtain ⟨p, c, ns, B, rfl, _⟩ := h
    rfl
  · obtain ⟨p, c, ns, B, rfl, PA, hB, q⟩ := h
    refine ⟨_, pss_cons (ps_set (i := 4) scRows.nd rfl (.inr rfl) (pe_call Mx.G hr (by rfl) Mx.g Mx.F.kp Mx.b .nil pass0 (pa_cons (pv 0) (pa_cons (pe_lst (pa_cons pe_str (pa_cons pe_str (pa_cons pe_str (pa_cons pe_str (pa_cons pe_str (pa_cons pe_str (pa_cons pe_str (pa_cons pe_str (pa_cons pe_str (pa_cons pe_str (pa_cons pe_str pa_nil)))))))))))) pa_nil))))
      (pss_cons (ps_setLc (i := 5) (own := [("_law_k", 6)]) (g := gName 6) (tt := tYes) rfl scRows.nd rfl rfl (sw_true rfl rfl rfl (by decide +kernel)) (pi_range1 (by rfl) T.range (pa_cons (pe_call Dr.G (hr.mono (by decide)) (by rfl) Dr.g Dr.F.kp Dr.b .nil pass0 (pa_cons (pv 0) (pa_cons (pe_op op_add (pv 1) pe_int) pa_nil))) pa_nil)) (blkOk_by (N := nRows) (sc := defScope sRows) (by decide +kernel)) (fun _ _ _ _ _ => pg_name (i := 6) scRows.nd rfl (Or.inl rfl)) (fun _ _ _ _ _ => pts_nil)
        (fun s1 H1 C1 cl1 fp1 => pe_tup (pa_cons pe_str (pa_cons (show PE _ _ (tBM0 K "list" rPop (tVar 4)) from pe_bm0 PySem.F.plainAttrs_list PySem.F.slot_list_pop PySem.F.type_list_pop mt_pop (pv 4)) (pa_cons (pe_op op_add pe_int (pe_call (X := (XRo P w K mg base f cdv A0 outer s H E).blk s1 H1 _ (compEnvC _ cl1 C1 (XRo P w K mg base f cdv A0 outer s H E).env) fp1) Dr.G (hr.mono (by decide)) (by rfl) Dr.g Dr.F.kp Dr.b .nil pass0 (pa_cons (pv 0) (pa_cons pe_int pa_nil)))) pa_nil)))))
      (pss_cons (ps_set (i := 5) scRows.nd rfl (.inl rfl) (pe_op op_cat (pv 5) (pe_lc (own := [("_law_k", 6)]) (g := gName 6) (tt := tYes) rfl scRows.nd (pi_range1 (by rfl) T.range (pa_cons (pe_call Dr.G (hr.mono (by decide)) (by rfl) Dr.g Dr.F.kp Dr.b .nil pass0 (pa_cons (pv 0) (pa_cons (pe_op op_add (pv 2) pe_int) pa_nil))) pa_nil)) (blkOk_by (N := nRows) (sc := defScope sRows) (by decide +kernel)) (fun _ _ _ _ _ => pg_name (i := 6) scRows.nd rfl (Or.inl rfl)) (fun _ _ _ _ _ => pts_nil)
        (fun s1 H1 C1 cl1 fp1 => pe_tup (pa_cons pe_str (pa_cons (show PE _ _ (tBM0 K "list" rPop (tVar 4)) from pe_bm0 PySem.F.plainAttrs_list PySem.F.slot_list_pop PySem.F.type_list_pop mt_pop (pv 4)) pa_nil))))))
      (pss_cons (ps_set (i := 5) scRows.nd rfl (.inl rfl) (pe_op op_cat (pv 5) (pe_lc (own := [("_law_k", 6)]) (g := gName 6) (tt := tYes) rfl scRows.nd (pi_range1 (by rfl) T.range (pa_cons (pe_call Dr.G (hr.mono (by decide)) (by rfl) Dr.g Dr.F.kp Dr.b .nil pass0 (pa_cons (pv 0) (pa_cons (pe_op op_add (pv 3) pe_int) pa_nil))) pa_nil)) (blkOk_by (N := nRows) (sc := defScope sRows) (by decide +kernel)) (fun _ _ _ _ _ => pg_name (i := 6) scRows.nd rfl (Or.inl rfl)) (fun _ _ _ _ _ => pts_nil)
        (fun s1 H1 C1 cl1 fp1 => pe_tup (pa_cons pe_str (pa_cons (show PE _ _ (tBM0 K "list" rPop (tVar 4)) from pe_bm0 PySem.F.plainAttrs_list PySem.F.slot_list_pop PySem.F.type_list_pop mt_pop (pv 4)) pa_nil))))))
      (pss_one (ps_ret (pe_call Mx.G hr (by rfl) Mx.g Mx.F.kp Mx.b .nil pass0 (pa_cons (pv 0) (pa_cons (pe_op op_cat (pv 5) (pe_op op_rep (pe_lst (pa_cons (pe_tup (pa_cons pe_str (pa_cons pe_str pa_nil))) pa_nil)) (pe_callTy call_int1 (by rfl) T.int (by decide +kernel) (pa_cons (pe_cmpR op_gt (pe_call Dr.G (hr.mono (by decide)) (by rfl) Dr.g Dr.F.kp Dr.b .nil pass0 (pa_cons (pv 0) (pa_cons pe_int pa_nil))) pe_int (nomark _)) pa_nil)))) pa_nil)))))))), ?_⟩
    have PAx := PA
    refine ⟨.ref p, rfl, by show 11 ≤ sizeLine; decide, fun l0 hl0 => ?_⟩
    have P0 := PA.new (o := .lst (pool11.map V.str)) hl0
    refine ⟨p, c, l0, ns, B, pool11.map V.str, rfl, P0, SqL.of upd_same, by decide, by show B + (11 : Int) ≤ 2000; omega, fun ys nl H1 pmy P1 off1 nlp nlH e1 => ?_⟩
    have hlen : ((pool11.map V.str).length : Int) = 11 := rfl
    rw [hlen] at P1
    obtain ⟨zs, rfl, hzs⟩ := perm_strs pmy
    have hz11 : zs.length = 11 := hzs.length_eq
    have inz : ∀ z ∈ zs, z ∈ pool11 := fun z h => hzs.mem_iff.mp h
    have off01 : Off p H H1 := (Off.new hl0).trans off1
    have cnl : c ≠ nl := fun z => by
      have := P1.cells
      rw [z, e1] at this
      injection this with this
      injection this with this
      have hz : zs.length = ns.length := by simpa using congrArg List.length this
      cases zs with
      | nil => exact absurd hz11 (by decide)
      | cons x r =>
        cases ns with
        | nil => exact absurd hz (by simp)
        | cons a b => cases this
    -- the cells
    refine ⟨.ref p, rfl, .int 4, rfl, _, _, rfl, rfl, p, c, ns, B + 11, _, rfl, P1, by omega, by decide, by decide, fun d H2 d0 d1 P2 off2 => ?_⟩
    refine ⟨d, rfl, by omega, by omega, fun D hD => ?_⟩
    have e2 := off2 nl _ nlp e1
    obtain ⟨n1, hn1⟩ : ∃ n1 : Nat, d.toNat = n1 := ⟨_, rfl⟩
    have ln1 : n1 ≤ 4 := by omega
    rw [hn1]
    refine rows_lap (zs := zs) (ix := 0) (B := B + 11 + 1) (fun _ => rfl) inz (fun i H' left x R hi P' en hx out => ?_) nlp cnl P2 e2 hD (by omega) (by omega) fun H3 left1 rs1 k1 M1 => ?_
    · refine ⟨.ref nl, rfl, .inl ⟨rfl, _, SqL.of en⟩, nl, _, .str x, rfl, rfl, en, by simp, ?_⟩
      have dl : (upd H' nl (.lst (((left ++ [x]).map V.str).dropLast))) nl = some (.lst (left.map V.str)) := by
        rw [upd_same, List.map_append]
        simp
      have P'' : PenAt (upd H' nl (.lst (((left ++ [x]).map V.str).dropLast))) p c ns (B + 11 + 1 + i) := by
        obtain ⟨b, g, y1, y2, y3, y4⟩ := P'.pen
        exact ⟨⟨b, g, by rw [upd_ne nlp.symm]; exact y1, y2, y3, y4⟩, by rw [upd_ne cnl]; exact P'.cells, P'.few⟩
      refine ⟨.ref p, rfl, p, c, ns, B + 11 + 1 + i, 3, rfl, P'', by omega, by decide, by decide, fun e H3 e0 e1 P3 off3 => ⟨2, e, rfl, rfl, by show 3 ≤ sizeLine; decide, fun tt htt => ?_⟩⟩
      obtain ⟨dd, rfl⟩ : ∃ dd : Nat, e = (dd : Int) := ⟨e.toNat, by omega⟩
      have kk := same_new (o := .tup [V.str "cell", V.str x, V.int (2 + (dd : Int))]) htt
      refine out tt (.cell x (2 + (dd : Nat))) _ rfl (cell_in x hx dd (by omega)) rfl upd_same (kk _ _ (off3 _ _ nlp dl)) (P3.new htt) fun b o n1 n2 y => kk _ _ (off3 b o n1 ?_)
      rw [upd_ne n2]
      exact y
    -- the logs
    have Dp : D ≠ p := by
      obtain ⟨b, g, e, _⟩ := P2.pen
      exact (ne_of_none e hD).symm
    have Dn : D ≠ nl := (ne_of_none e2 hD).symm
    have lk1 : left1.length = 11 - n1 := by
      have := M1.pm.length_eq
      rw [List.length_append, List.length_map, M1.n, hz11] at this
      omega
    have in1 : ∀ z ∈ left1, z ∈ pool11 := fun z h => inz z (M1.pm.mem_iff.mp (List.mem_append_left _ h))
    refine ⟨.ref D, rfl, .ref p, rfl, .int 2, rfl, _, _, rfl, rfl, p, c, ns, B + 11 + 1 + n1, _, rfl, M1.pen, by omega, by decide, by decide, fun d2 H4 d20 d21 P4 off4 => ?_⟩
    refine ⟨d2, rfl, by omega, by omega, fun D2 hD2 => ?_⟩
    have e4 := off4 nl _ nlp M1.nn
    have dd4 := off4 D _ Dp M1.d
    have r4 := M1.r.off M1.pen off4
    obtain ⟨n2, hn2⟩ : ∃ n2 : Nat, d2.toNat = n2 := ⟨_, rfl⟩
    have ln2 : n2 ≤ 2 := by omega
    rw [hn2]
    refine rows_lap (zs := left1) (ix := 1) (B := B + 11 + 1 + n1 + 1) (fun _ => rfl) in1 (fun i H' left x R hi P' en hx out => ?_) nlp cnl P4 e4 hD2 (by omega) (by omega) fun H5 left2 rs2 k2 M2 => ?_
    · refine ⟨.ref nl, rfl, .inl ⟨rfl, _, SqL.of en⟩, nl, _, .str x, rfl, rfl, en, by simp, ?_⟩
      have dl : (upd H' nl (.lst (((left ++ [x]).map V.str).dropLast))) nl = some (.lst (left.map V.str)) := by
        rw [upd_same, List.map_append]
        simp
      have P'' : PenAt (upd H' nl (.lst (((left ++ [x]).map V.str).dropLast))) p c ns (B + 11 + 1 + n1 + 1 + i) := by
        obtain ⟨b, g, y1, y2, y3, y4⟩ := P'.pen
        exact ⟨⟨b, g, by rw [upd_ne nlp.symm]; exact y1, y2, y3, y4⟩, by rw [upd_ne cnl]; exact P'.cells, P'.few⟩
      refine ⟨by show 2 ≤ sizeLine; decide, fun tt htt => ?_⟩
      have kk := same_new (o := .tup [V.str "log", V.str x]) htt
      refine out tt (.log x) _ rfl (log_in x hx).1 rfl upd_same (kk _ _ dl) ((P''.new htt).more (by omega)) fun b o n1 n2 y => kk _ _ ?_
      rw [upd_ne n2]
      exact y
    have D2p : D2 ≠ p := by
      obtain ⟨b, g, e, _⟩ := P4.pen
      exact (ne_of_none e hD2).symm
    have dd5 := M2.off D _ Dp Dn dd4
    have r5 := r4.to fun b xs e => M2.off b _ (fun z => by
      obtain ⟨b', g, hp, _⟩ := P4.pen
      rw [z, hp] at e
      cases e) (fun z => by rw [z, e4] at e; cases e) e
    have rl1 : rs1.length ≤ 4 := by rw [r5.len, M1.n]; exact ln1
    have rl2 : rs2.length ≤ 2 := by rw [M2.r.len, M2.n]; exact ln2
    refine ⟨D, D2, _, _, rfl, rfl, dd5, M2.d, by rw [List.length_map, List.length_map, sizeLine_eq]; omega, fun D3 hD3 => ?_⟩
    rw [← List.map_append]
    have s6 := same_new (o := .lst ((rs1 ++ rs2).map V.ref)) hD3
    have r6 := (r5.app M2.r).keep s6
    have P6 := M2.pen.new (o := .lst ((rs1 ++ rs2).map V.ref)) hD3
    have e6 := s6 _ _ M2.nn
    have d6 : (upd H5 D3 (.lst ((rs1 ++ rs2).map V.ref))) D3 = some (.lst ((rs1 ++ rs2).map V.ref)) := upd_same
    have D3p : D3 ≠ p := by
      obtain ⟨b, g, e, _⟩ := M2.pen.pen
      exact (ne_of_none e hD3).symm
    have D3n : D3 ≠ nl := (ne_of_none M2.nn hD3).symm
    have lk2 : left2.length = 11 - n1 - n2 := by
      have := M2.pm.length_eq
      rw [List.length_append, List.length_map, M2.n, lk1] at this
      omega
    have in2 : ∀ z ∈ left2, z ∈ pool11 := fun z h => in1 z (M2.pm.mem_iff.mp (List.mem_append_left _ h))
    generalize upd H5 D3 (.lst ((rs1 ++ rs2).map V.ref)) = H6 at r6 P6 e6 d6 s6
    -- the failures
    refine ⟨.ref D3, rfl, .ref p, rfl, .int 3, rfl, _, _, rfl, rfl, p, c, ns, B + 11 + 1 + n1 + 1 + n2, _, rfl, P6, by omega, by decide, by decide, fun d3 H7 d30 d31 P7 off7 => ?_⟩
    refine ⟨d3, rfl, by omega, by omega, fun D4 hD4 => ?_⟩
    have e7 := off7 nl _ nlp e6
    have dd7 := off7 D3 _ D3p d6
    have r7 := r6.off P6 off7
    obtain ⟨n3, hn3⟩ : ∃ n3 : Nat, d3.toNat = n3 := ⟨_, rfl⟩
    have ln3 : n3 ≤ 3 := by omega
    rw [hn3]
    refine rows_lap (zs := left2) (ix := 2) (B := B + 11 + 1 + n1 + 1 + n2 + 1) (fun _ => rfl) in2 (fun i H' left x R hi P' en hx out => ?_) nlp cnl P7 e7 hD4 (by omega) (by omega) fun H8 left3 rs3 k3 M3 => ?_
    · refine ⟨.ref nl, rfl, .inl ⟨rfl, _, SqL.of en⟩, nl, _, .str x, rfl, rfl, en, by simp, ?_⟩
      have dl : (upd H' nl (.lst (((left ++ [x]).map V.str).dropLast))) nl = some (.lst (left.map V.str)) := by
        rw [upd_same, List.map_append]
        simp
      have P'' : PenAt (upd H' nl (.lst (((left ++ [x]).map V.str).dropLast))) p c ns (B + 11 + 1 + n1 + 1 + n2 + 1 + i) := by
        obtain ⟨b, g, y1, y2, y3, y4⟩ := P'.pen
        exact ⟨⟨b, g, by rw [upd_ne nlp.symm]; exact y1, y2, y3, y4⟩, by rw [upd_ne cnl]; exact P'.cells, P'.few⟩
      refine ⟨by show 2 ≤ sizeLine; decide, fun tt htt => ?_⟩
      have kk := same_new (o := .tup [V.str "failure", V.str x]) htt
      refine out tt (.fail x) _ rfl (log_in x hx).2 rfl upd_same (kk _ _ dl) ((P''.new htt).more (by omega)) fun b o n1 n2 y => kk _ _ ?_
      rw [upd_ne n2]
      exact y
    have dd8 := M3.off D3 _ D3p D3n dd7
    have r8 := r7.to fun b xs e => M3.off b _ (fun z => by
      obtain ⟨b', g, hp, _⟩ := P7.pen
      rw [z, hp] at e
      cases e) (fun z => by rw [z, e7] at e; cases e) e
    have rl3 : rs3.length ≤ 3 := by rw [M3.r.len, M3.n]; exact ln3
    refine ⟨D3, D4, _, _, rfl, rfl, dd8, M3.d, by rw [List.length_map, List.length_map, List.length_append, sizeLine_eq]; omega, fun D5 hD5 => ?_⟩
    rw [← List.map_append]
    have s9 := same_new (o := .lst (((rs1 ++ rs2) ++ rs3).map V.ref)) hD5
    have r9 := (r8.app M3.r).keep s9
    have P9 := M3.pen.new (o := .lst (((rs1 ++ rs2) ++ rs3).map V.ref)) hD5
    have d9 : (upd H8 D5 (.lst (((rs1 ++ rs2) ++ rs3).map V.ref))) D5 = some (.lst (((rs1 ++ rs2) ++ rs3).map V.ref)) := upd_same
    have D5p : D5 ≠ p := by
      obtain ⟨b, g, e, _⟩ := M3.pen.pen
      exact (ne_of_none e hD5).symm
    have off9 : Off p H (upd H8 D5 (.lst (((rs1 ++ rs2) ++ rs3).map V.ref))) := by
      intro b o n e
      have nb : b ≠ nl := ne_of_none (same_new (o := .lst (pool11.map V.str)) hl0 _ _ e) nlH
      refine s9 _ _ (M3.off b o n nb (off7 b o n (s6 _ _ (M2.off b o n nb (off4 b o n (M1.off b o n nb (off2 b o n (off01 b o n e))))))))
    generalize upd H8 D5 (.lst (((rs1 ++ rs2) ++ rs3).map V.ref)) = H9 at r9 P9 d9 off9 s9
    refine ⟨.ref p, rfl, .ref D5, rfl, by show 2 ≤ sizeLine; decide, fun ct hct => ⟨by show 1 ≤ sizeLine; decide, fun cl hcl => ?_⟩⟩
    have sa := same_new (o := .tup [V.str "choice", V.str "choice"]) hct
    have ec : (upd H9 ct (.tup [V.str "choice", V.str "choice"])) ct = some (.tup [V.str "choice", V.str "choice"]) := upd_same
    have Pa := (P9.new (o := .tup [V.str "choice", V.str "choice"]) hct).new (o := .lst [V.ref ct]) hcl
    have sb := same_new (o := .lst [V.ref ct]) hcl
    have ecl : (upd (upd H9 ct (.tup [V.str "choice", V.str "choice"])) cl (.lst [V.ref ct])) cl = some (.lst [V.ref ct]) := upd_same
    have offa : Off p H (upd (upd H9 ct (.tup [V.str "choice", V.str "choice"])) cl (.lst [V.ref ct])) := off9.trans ((Off.new hct).trans (Off.new hcl))
    have da := sb _ _ (sa _ _ d9)
    have ra := (r9.keep sa).keep sb
    have eca := sb _ _ ec
    generalize upd (upd H9 ct (.tup [V.str "choice", V.str "choice"])) cl (.lst [V.ref ct]) = Ha at Pa ecl offa da ra eca
    have clp : cl ≠ p := by
      obtain ⟨b, g, e, _⟩ := Pa.pen
      intro z
      rw [z, e] at ecl
      injection ecl with ecl
      injection ecl with ecl
      cases ecl
    refine ⟨.ref p, rfl, p, c, ns, _, 4, rfl, Pa, by omega, by decide, by decide, fun d4 Hb d40 d41 Pb offb => ?_⟩
    have db := offb D5 _ D5p da
    have ecb := offb cl _ clp ecl
    have rb := ra.off Pa offb
    have ctb : Hb ct = some (.tup [V.str "choice", V.str "choice"]) := by
      refine offb ct _ (fun z => ?_) eca
      obtain ⟨b, g, e, _⟩ := Pa.pen
      rw [z, e] at eca
      cases eca
    have offab := offa.trans offb
    refine ⟨_, _, rfl, rfl, .inr ⟨_, rfl, ?_⟩⟩
    obtain ⟨bb, hbb⟩ : ∃ bb : Bool, decide (0 < d4) = bb := ⟨_, rfl⟩
    have chn : ∃ (m : Nat) (ch : List HD) (cr : List Addr), (if decide (0 < d4) = true then (1 : Int) else 0) = (m : Int) ∧ m ≤ 1 ∧ (List.replicate m [V.ref ct]).flatten = cr.map V.ref ∧ Rws Hb cr ch ∧ (ch = [] ∨ ch = [.cho]) := by
      rw [hbb]
      cases bb with
      | true => exact ⟨1, [.cho], [ct], rfl, Nat.le_refl _, rfl, Rws.nil.add (k := .cho) ctb, .inr rfl⟩
      | false => exact ⟨0, [], [], rfl, Nat.zero_le _, rfl, .nil, .inl rfl⟩
    obtain ⟨m, ch, cr, em, m1, ecr, rch, hch⟩ := chn
    refine ⟨cl, _, [.ref ct], rfl, rfl, ecb, ?_, ?_, ?_, fun D6 hD6 => ?_⟩
    · show -(2 ^ 63) ≤ (if decide (0 < d4) = true then (1 : Int) else 0)
      split <;> decide
    · show (if decide (0 < d4) = true then (1 : Int) else 0) < 2 ^ 63
      split <;> decide
    · show 1 * (if decide (0 < d4) = true then (1 : Int) else 0).toNat ≤ sizeLine
      split <;> decide
    · have eD6 : (if decide (0 < d4) = true then (1 : Int) else 0).toNat = m := by rw [em]; rfl
      rw [eD6, ecr] at *
      have sc := same_new (o := .lst (cr.map V.ref)) hD6
      have crl : cr.length ≤ 1 := by
        rw [rch.len]
        rcases hch with e | e <;> rw [e] <;> decide
      have rl : ((rs1 ++ rs2) ++ rs3).length ≤ 9 := by
        rw [List.length_append, List.length_append]
        omega
      refine ⟨D5, D6, _, _, rfl, rfl, sc _ _ db, upd_same, by rw [List.length_map, List.length_map, sizeLine_eq]; omega, fun D7 hD7 => ?_⟩
      rw [← List.map_append]
      have sd := same_new (o := .lst ((((rs1 ++ rs2) ++ rs3) ++ cr).map V.ref)) hD7
      have rd := (((rb.app rch).keep sc).keep sd)
      have Pd := (Pb.new (o := .lst (cr.map V.ref)) hD6).new (o := .lst ((((rs1 ++ rs2) ++ rs3) ++ cr).map V.ref)) hD7
      have ed : (upd (upd Hb D6 (.lst (cr.map V.ref))) D7 (.lst ((((rs1 ++ rs2) ++ rs3) ++ cr).map V.ref))) D7 = some (.lst ((((rs1 ++ rs2) ++ rs3) ++ cr).map V.ref)) := upd_same
      have offd : Off p H (upd (upd Hb D6 (.lst (cr.map V.ref))) D7 (.lst ((((rs1 ++ rs2) ++ rs3) ++ cr).map V.ref))) := offab.trans ((Off.new hD6).trans (Off.new hD7))
      generalize upd (upd Hb D6 (.lst (cr.map V.ref))) D7 (.lst ((((rs1 ++ rs2) ++ rs3) ++ cr).map V.ref)) = Hd at rd Pd ed offd
      have totl : (((((rs1 ++ rs2) ++ rs3) ++ cr).map V.ref).length) ≤ 10 := by
        rw [List.length_map, List.length_append]
        omega
      refine ⟨p, c, D7, ns, _, _, rfl, Pd, SqL.of ed, by omega, by omega, fun ys dd He pmy Pe offe ddp _ ee => ?_⟩
      obtain ⟨us, rfl, pu⟩ := perm_refs pmy
      obtain ⟨js, rj, pj⟩ := Rws.perm pu rd
      have g : Good js ∧ NoNew js := good_of hzs M1.k M2.k M3.k (by rw [M1.n]; exact ln1) (by rw [M2.n]; exact ln2) (by rw [M3.n]; exact ln3) hch (l3 := left3) (zs := zs) ?_ pj
      · exact q js dd He g.1 g.2 ⟨us, ee, rj.off Pd offe⟩ ddp (Pe.more (by omega)) (offd.trans offe)
      · have p1 := M1.pm
        have p2 := M2.pm
        have p3 := M3.pm
        refine List.Perm.trans ?_ p1
        rw [← List.append_assoc, ← List.append_assoc]
        refine List.Perm.append_right _ ?_
        refine List.Perm.trans ?_ p2
        exact List.Perm.append_right _ p3
end
end My
namespace My
open PySem PySem.Spec PyProof.Rows L2
/-! ### a row's handler, a stack of rows -/
def spMade (A : A4) : Sp := fun vs H Q _ => ∃ (t : Addr) (k : HD), vs = [.ref t] ∧ k ∈ rowsK ∧ H t = some (.tup k.row) ∧ ∀ (a : Addr) (H' : Hp), Same' H H' → IsH A H' a k → Q (.ref a) H'
def spStacked (A : A4) (C : Addr) : Sp := fun vs H Q _ => ∃ (l : Addr) (ks : List HD), vs = [.ref l] ∧ RowL H l ks ∧ Few ks ∧ AllR ks ∧ ∀ (a : Addr) (H' : Hp), Same' H H' → StkAt A C H' a ks → Q (.ref a) H'
def spMeet2 : Sp := fun vs H Q _ => ∃ (t t2 : Addr) (k k2 : HD), vs = [.ref t, .ref t2] ∧ H t = some (.tup k.row) ∧ H t2 = some (.tup k2.row) ∧ ∀ H', Same' H H' → Q (.bl (meetB k.ix k2.ix)) H'
structure MkH (P : Program) (w : World) (K : PySem.W.Frag) (mg : Str → Option Value) (base : Heap) (A : A4) (fI : Nat → Addr) (dI : Nat → FuncData) : Prop where
  m0 : Mk K A.c (fI 0)
  b0 : Binds K (dI 0) ["self", "name", "size"] []
  G0 : FnOk P w K mg base CX0 4 (fI 0) (dI 0) ["self", "name", "size"] (spCellI A.c)
  m1 : Mk K A.l (fI 1)
  b1 : Binds K (dI 1) ["self", "name"] []
  G1 : FnOk P w K mg base CX0 4 (fI 1) (dI 1) ["self", "name"] (spNamed A.l)
  m2 : Mk K A.f (fI 2)
  b2 : Binds K (dI 2) ["self", "name"] []
  G2 : FnOk P w K mg base CX0 4 (fI 2) (dI 2) ["self", "name"] (spNamed A.f)
  m3 : Mk K A.h (fI 3)
  b3 : Binds K (dI 3) ["self"] []
  G3 : FnOk P w K mg base CX0 1 (fI 3) (dI 3) ["self"] (spChoI A.h)
theorem row_wd (k : HD) : ∃ r, k.row = .str k.wd :: .str k.nm :: r := by cases k <;> exact ⟨_, rfl⟩
theorem row_0 (k : HD) : atI k.row 0 = some (.str k.wd) := by cases k <;> rfl
theorem row_1 (k : HD) : atI k.row 1 = some (.str k.nm) := by cases k <;> rfl
def sortK (z : Str) : Option V := valV (mergeK [] [(Sum.inr "cell", V.int 0), (Sum.inr "log", .int 0), (Sum.inr "failure", .int 1), (Sum.inr "choice", .int 2)]) (Sum.inr z)
theorem sortK_4 : sortK "cell" = some (.int (sortN 0 : Nat)) ∧ sortK "log" = some (.int (sortN 1 : Nat)) ∧ sortK "failure" = some (.int (sortN 2 : Nat)) ∧ sortK "choice" = some (.int (sortN 3 : Nat)) := by decide +kernel
theorem sortK_wd (k : HD) : sortK k.wd = some (.int (sortN k.ix : Nat)) := by
  cases k with
  | cell n z => exact sortK_4.1
  | log n => exact sortK_4.2.1
  | fail n => exact sortK_4.2.2.1
  | cho => exact sortK_4.2.2.2
section
variable {P : Program} {w : World} {K : PySem.W.Frag} {mg : Str → Option Value} {base : Heap}
theorem scMade : FnScope ["_law_row"] ["_law_row"] (defScope sMade) := ⟨rfl, rfl, rfl, by decide +kernel, rfl, by decide +kernel, by decide +kernel⟩
theorem ok_made {A : A4} {f : Addr} {fd : FuncData} {fI : Nat → Addr} {dI : Nat → FuncData} (F : Fun K "_law_made" "_law_made" sMade f fd) (S : Hand K mg A) (M : MkH P w K mg base A fI dI) : FnOk P w K mg base CX0 6 f fd ["_law_row"] (spMade A) := by
  refine F.ok scMade (fun vs H Q E h => ?_) (fun cdv A0 outer s H vs Q E hr h => ?_)
  · obtain ⟨t, k, rfl, _⟩ := h
    rfl
  · obtain ⟨t, k, rfl, hk, ht, q⟩ := h
    refine ⟨_, pss_cons (ps_if (pt_cmpR op_eq (pe_ix ix_tup (pv 0) pe_int (fun _ _ => rfl)) pe_str (nomark _))
        (pss_one (ps_ret (pe_make M.m0 M.G0 hr (by rfl) S.cC.g M.b0 .nil pass0 (pa_cons (pe_ix ix_tup (pv 0) pe_int (fun _ _ => rfl)) (pa_cons (pe_ix ix_tup (pv 0) pe_int (fun _ _ => rfl)) pa_nil))))) pss_nil)
      (pss_cons (ps_if (pt_cmpR op_eq (pe_ix ix_tup (pv 0) pe_int (fun _ _ => rfl)) pe_str (nomark _))
        (pss_one (ps_ret (pe_make0 M.m3 M.G3 (hr.mono (by decide)) (by rfl) S.cH.g M.b3 .nil pass0))) pss_nil)
      (pss_one (ps_ret (pe_ifExp (pt_cmpR op_eq (pe_ix ix_tup (pv 0) pe_int (fun _ _ => rfl)) pe_str (nomark _))
        (pe_make M.m1 M.G1 hr (by rfl) S.cL.g M.b1 .nil pass0 (pa_cons (pe_ix ix_tup (pv 0) pe_int (fun _ _ => rfl)) pa_nil))
        (pe_make M.m2 M.G2 hr (by rfl) S.cF.g M.b2 .nil pass0 (pa_cons (pe_ix ix_tup (pv 0) pe_int (fun _ _ => rfl)) pa_nil)))))), ?_⟩
    obtain ⟨nl, nn, _⟩ := rows_nm k hk
    have nl' : k.nm.length ≤ 1000 := Nat.le_trans nl (by decide)
    have hZ := rows_z k hk
    have tS := SqT.of (K := K) ht
    cases k with
    | cell n z =>
      obtain ⟨z2, z4⟩ := hZ n z rfl
      refine ⟨.ref t, rfl, t, _, 0, .str "cell", rfl, rfl, tS, rfl, rfl, true, rfl, iteT ?_⟩
      refine ⟨.ref t, rfl, t, _, 1, .str n, rfl, rfl, tS, rfl, .ref t, rfl, t, _, 2, .int z, rfl, rfl, tS, rfl, fun x dx hx hdx nxd => ?_⟩
      exact ⟨x, dx, n, z, rfl, upd_same, nl', nn (show (0 : Nat) ≠ 3 by decide), z2, z4, fun H' k1 e1 => ⟨rfl, q x H' (made_same hx hdx k1) ⟨dx, e1⟩⟩⟩
    | log n =>
      refine ⟨.ref t, rfl, t, _, 0, .str "log", rfl, rfl, tS, rfl, rfl, false, rfl, iteF ?_⟩
      refine ⟨.ref t, rfl, t, _, 0, .str "log", rfl, rfl, tS, rfl, rfl, false, rfl, iteF ?_⟩
      refine ⟨.ref t, rfl, t, _, 0, .str "log", rfl, rfl, tS, rfl, rfl, true, rfl, iteT ?_⟩
      refine ⟨.ref t, rfl, t, _, 1, .str n, rfl, rfl, tS, rfl, fun x dx hx hdx nxd => ?_⟩
      exact ⟨x, dx, n, rfl, upd_same, nl', nn (show (1 : Nat) ≠ 3 by decide), fun H' k1 e1 => ⟨rfl, q x H' (made_same hx hdx k1) ⟨dx, e1⟩⟩⟩
    | fail n =>
      refine ⟨.ref t, rfl, t, _, 0, .str "failure", rfl, rfl, tS, rfl, rfl, false, rfl, iteF ?_⟩
      refine ⟨.ref t, rfl, t, _, 0, .str "failure", rfl, rfl, tS, rfl, rfl, false, rfl, iteF ?_⟩
      refine ⟨.ref t, rfl, t, _, 0, .str "failure", rfl, rfl, tS, rfl, rfl, false, rfl, iteF ?_⟩
      refine ⟨.ref t, rfl, t, _, 1, .str n, rfl, rfl, tS, rfl, fun x dx hx hdx nxd => ?_⟩
      exact ⟨x, dx, n, rfl, upd_same, nl', nn (show (2 : Nat) ≠ 3 by decide), fun H' k1 e1 => ⟨rfl, q x H' (made_same hx hdx k1) ⟨dx, e1⟩⟩⟩
    | cho =>
      refine ⟨.ref t, rfl, t, _, 0, .str "choice", rfl, rfl, tS, rfl, rfl, false, rfl, iteF ?_⟩
      refine ⟨.ref t, rfl, t, _, 0, .str "choice", rfl, rfl, tS, rfl, rfl, true, rfl, iteT ?_⟩
      intro x dx hx hdx nxd
      exact ⟨x, dx, rfl, upd_same, fun H' k1 e1 => ⟨rfl, q x H' (made_same hx hdx k1) ⟨dx, e1⟩⟩⟩
abbrev nSt : List Str := ["_law_rows_here", "_law_row"]
theorem scSt : FnScope nSt ["_law_rows_here"] (defScope sStacked) := ⟨rfl, rfl, rfl, by decide +kernel, rfl, by decide +kernel, by decide +kernel⟩
abbrev XSt (P : Program) (w : World) (K : PySem.W.Frag) (mg : Str → Option Value) (base : Heap) (f : Addr) (cdv : Value) (A : Around) (outer : List Env) (s : Shared) (H : Hp) (E : XK) : Cx := (cxOf CX0 P w K mg base nSt "_law_stacked" (defScope sStacked) f cdv A outer s H E).nox
theorem Rws.at {H : Hp} {rs : List Addr} {ks : List HD} (h : Rws H rs ks) {i : Nat} {x : V} (e : (rs.map V.ref)[i]? = some x) : ∃ a k, rs[i]? = some a ∧ ks[i]? = some k ∧ x = .ref a ∧ H a = some (.tup k.row) := by
  rw [List.getElem?_map] at e
  cases ea : rs[i]? with
  | none => rw [ea] at e; cases e
  | some a =>
    rw [ea] at e
    have hi : i < ks.length := by
      have := (List.getElem?_eq_some_iff.mp ea).1
      rw [h.len] at this
      exact this
    exact ⟨a, ks[i], rfl, List.getElem?_eq_getElem hi, (Option.some.inj e).symm, h.is i a _ ea (List.getElem?_eq_getElem hi)⟩
theorem Hs.add {A : A4} {H : Hp} {as : List Addr} {ks : List HD} {a : Addr} {k : HD} (h : Hs A H as ks) (e : IsH A H a k) : Hs A H (as ++ [a]) (ks ++ [k]) := by
  refine ⟨by rw [List.length_append, List.length_append, h.len]; rfl, fun i b y e1 e2 => ?_⟩
  rcases Nat.lt_or_ge i as.length with lt | ge
  · rw [List.getElem?_append_left lt] at e1
    rw [List.getElem?_append_left (by rw [← h.len]; exact lt)] at e2
    exact h.is i b y e1 e2
  · rw [List.getElem?_append_right ge] at e1
    rw [List.getElem?_append_right (by rw [← h.len]; exact ge), ← h.len] at e2
    cases hj : i - as.length with
    | zero =>
      rw [hj] at e1 e2
      cases e1
      cases e2
      exact e
    | succ j =>
      rw [hj] at e1
      simp at e1
theorem ok_stacked {A : A4} {C f fM g p : Addr} {fd dM dg : FuncData} {mc : Value} (F : Fun K "_law_stacked" "_law_stacked" sStacked f fd) (SC : SCls K mg C) (Ma : FnB P w K mg base 6 "_law_made" sMade fM dM ["_law_row"] (spMade A)) (Sm : SMet K C mc "of" p g) (bg : Binds K dg nOf []) (Gg : FnOk P w K mg base CX0 7 g dg nOf (spOf A C)) :
    FnOk P w K mg base CX0 8 f fd ["_law_rows_here"] (spStacked A C) := by
  refine F.ok scSt (fun vs H Q E h => ?_) (fun cdv A0 outer s H vs Q E hr h => ?_)
  · obtain ⟨l, ks, rfl, _⟩ := h
    rfl
  · obtain ⟨l, ks, rfl, ⟨rs, el, rw0⟩, few, all, q⟩ := h
    refine ⟨_, pss_one (ps_ret (pe_smeth (pe_glob (v := .ref C) rfl SC.g rfl) Sm (Gg.raw bg .nil) hr pass0 (pa_cons (pe_lc (own := [("_law_row", 1)]) (g := gName 1) (tt := tYes) rfl scSt.nd (pi_list (pv 0)) (blkOk_by (N := nSt) (sc := defScope sStacked) (by decide +kernel)) (fun _ _ _ _ _ => pg_name (i := 1) scSt.nd rfl (Or.inl rfl)) (fun _ _ _ _ _ => pts_nil)
      (fun s1 H1 C1 cl1 fp1 => pe_call (X := (XSt P w K mg base f cdv A0 outer s H E).blk s1 H1 _ (compEnvC _ cl1 C1 (XSt P w K mg base f cdv A0 outer s H E).env) fp1) Ma.G (hr.mono (by decide)) (by rfl) Ma.g Ma.F.kp Ma.b .nil pass0 (pa_cons (pv 1) pa_nil))) pa_nil))), ?_⟩
    refine ⟨rfl, .ref l, rfl, l, rfl, ⟨_, SqL.of el⟩, fun D hD => ?_⟩
    have few64 := few.n
    refine lc_it (walk_list (K := K) (a := l) (xs := rs.map V.ref)) (fun i H' => Same' H H' ∧ ∃ as : List Addr, H' D = some (.lst (as.map V.ref)) ∧ Hs A H' as (ks.take i)) ⟨same_new hD, [], upd_same, ⟨rfl, fun i a k e => by simp at e⟩⟩ (fun i H' _ hp => SqL.of (hp.1 _ _ el)) (fun i x H1 H2 hi hp hx => ?_) (fun H1 hp => ?_)
    · obtain ⟨sm, as, ed, hs⟩ := hp
      obtain ⟨rfl, e2⟩ := hx
      obtain ⟨t, k, et, ek, rfl, ht⟩ := (rw0.keep sm).at e2
      refine ⟨rfl, ⟨.ref t, rfl, t, k, rfl, all k (List.mem_of_getElem? ek), ht, fun a H3 s3 ha => ?_⟩⟩
      have ed3 := s3 _ _ ed
      have nD : ∀ b o, H b = some o → b ≠ D := fun b o e => ne_of_none e hD
      have kp : ∀ b o, b ≠ D → H3 b = some o → (upd H3 D (.lst (as.map V.ref ++ [.ref a]))) b = some o := fun b o n e => by rw [upd_ne n]; exact e
      have kh : ∀ {b k}, IsH A H3 b k → IsH A (upd H3 D (.lst (as.map V.ref ++ [.ref a]))) b k := fun {b k} ⟨dx, e⟩ => ⟨dx, kp b _ (fun z => by rw [z, ed3] at e; cases e) e⟩
      refine ⟨_, ed3, ?_, fun b o e => kp b o (nD b o e) (s3 _ _ (sm _ _ e)), as ++ [a], ?_, ?_⟩
      · rw [List.length_map, hs.len, List.length_take, sizeLine_eq]
        omega
      · rw [upd_same, List.map_append]
        rfl
      · rw [List.take_add_one, ek]
        have hs3 := hs.keep s3
        exact Hs.add ⟨hs3.len, fun i b k e1 e2 => kh (hs3.is i b k e1 e2)⟩ (kh ha)
    · obtain ⟨sm, as, ed, hs⟩ := hp
      rw [List.take_of_length_le (by rw [List.length_map, rw0.len]; exact Nat.le_refl _)] at hs
      exact ⟨D, as, ks, rfl, ed, hs, few, fun a H3 s3 st => q a H3 (sm.trans s3) st⟩
abbrev nMe : List Str := ["_law_row", "_law_other", "_law_sorts"]
theorem scMe : FnScope nMe ["_law_row", "_law_other"] (defScope sLMeet) := ⟨rfl, rfl, rfl, by decide +kernel, rfl, by decide +kernel, by decide +kernel⟩
theorem ok_lmeet {f : Addr} {fd : FuncData} (F : Fun K "_law_meet" "_law_meet" sLMeet f fd) : FnOk P w K mg base CX0 1 f fd ["_law_row", "_law_other"] spMeet2 := by
  refine F.ok scMe (fun vs H Q E h => ?_) (fun cdv A0 outer s H vs Q E hr h => ?_)
  · obtain ⟨t, t2, k, k2, rfl, _⟩ := h
    rfl
  · obtain ⟨t, t2, k, k2, rfl, ht, ht2, q⟩ := h
    have hu : (cxOf CX0 P w K mg base nMe "_law_meet" (defScope sLMeet) f cdv A0 outer s H E).nox.A.units + 1 < cLine := by
      have h := hr.un
      show (A0.deeper _).units + 1 < cLine
      omega
    refine ⟨_, pss_cons (ps_set (i := 2) scMe.nd rfl (.inl rfl) (pe_disp (pps_cons pe_str pe_int (pps_cons pe_str pe_int (pps_cons pe_str pe_int (pps_cons pe_str pe_int pps_nil)))) (by rfl) (by rfl) (fun z => by cases z) (by decide)))
      (pss_one (ps_ret (pe_cmpR op_ne (pe_dget hu (pv 2) (pe_ix ix_tup (pv 0) pe_int (fun _ _ => rfl)) (fun _ _ => rfl)) (pe_dget hu (pv 2) (pe_ix ix_tup (pv 1) pe_int (fun _ _ => rfl)) (fun _ _ => rfl)) (nomark _)))), ?_⟩
    intro d hd
    refine ⟨upd_same, [(Sum.inr "cell", V.int 0), (Sum.inr "log", .int 0), (Sum.inr "failure", .int 1), (Sum.inr "choice", .int 2)], rfl, by decide, ?_⟩
    have sm : Same' H (upd (upd H d (.dK [])) d (.dK (mergeK [] [(Sum.inr "cell", V.int 0), (Sum.inr "log", .int 0), (Sum.inr "failure", .int 1), (Sum.inr "choice", .int 2)]))) := same_over hd (same_new hd)
    have ed : (upd (upd H d (.dK [])) d (.dK (mergeK [] [(Sum.inr "cell", V.int 0), (Sum.inr "log", .int 0), (Sum.inr "failure", .int 1), (Sum.inr "choice", .int 2)]))) d = some (.dK (mergeK [] [(Sum.inr "cell", V.int 0), (Sum.inr "log", .int 0), (Sum.inr "failure", .int 1), (Sum.inr "choice", .int 2)])) := upd_same
    refine ⟨.ref d, rfl, .ref t, rfl, t, _, 0, .str k.wd, rfl, rfl, SqT.of (sm _ _ ht), row_0 k, d, _, rfl, .inl ⟨_, Sum.inr k.wd, .inl ed, rfl, (sortK_wd k).symm⟩, ?_⟩
    refine ⟨.ref d, rfl, .ref t2, rfl, t2, _, 0, .str k2.wd, rfl, rfl, SqT.of (sm _ _ ht2), row_0 k2, d, _, rfl, .inl ⟨_, Sum.inr k2.wd, .inl ed, rfl, (sortK_wd k2).symm⟩, rfl, ?_⟩
    have due : (!decide (V.int (sortN k.ix : Nat) = V.int (sortN k2.ix : Nat))) = meetB k.ix k2.ix := by
      rw [meet_sort _ k.ix_lt _ k2.ix_lt, Bool.eq_iff_iff]
      simp
      omega
    rw [due]
    exact q _ sm
end
end My
namespace My
open PySem PySem.Spec PyProof.Rows L2
/-! ### names of some, lines of all that meet -/
def spNames (K : PySem.W.Frag) (p : Nat → Bool) : Sp := fun vs H Q _ => ∃ (l wt : Addr) (ks : List HD) (ws : List Str), vs = [.ref l, .ref wt] ∧ RowL H l ks ∧ ks.length < 64 ∧ SqT K H wt (ws.map V.str) ∧ (∀ k : HD, decide (k.wd ∈ ws) = p k.ix) ∧
  ∀ (d : Addr) (ys : List Str) (H' : Hp), ys.Perm (namesOf p ks) → sortedS ys = true → Same' H H' → H' d = some (.tup (ys.map V.str)) → Q (.ref d) H'
def lineOf (k k2 : HD) : Str := (k.nm ++ " ") ++ k2.nm
def linesK (k : HD) (r : List HD) : List Str := (r.filter fun k2 => meetB k.ix k2.ix).map (lineOf k)
def linesL : List HD → List Str
  | [] => []
  | k :: r => linesK k r ++ linesL r
theorem linesK_len (k : HD) (r : List HD) : (linesK k r).length ≤ r.length := by
  unfold linesK
  rw [List.length_map]
  exact List.length_filter_le _ _
theorem linesL_len : ∀ ks : List HD, 2 * (linesL ks).length + ks.length ≤ ks.length * ks.length
  | [] => Nat.le_refl _
  | k :: r => by
    have ih := linesL_len r
    have h := linesK_len k r
    have e : (r.length + 1) * (r.length + 1) = r.length * r.length + 2 * r.length + 1 := by
      rw [Nat.succ_mul, Nat.mul_succ]
      omega
    show 2 * (linesK k r ++ linesL r).length + (r.length + 1) ≤ (r.length + 1) * (r.length + 1)
    rw [List.length_append, e]
    omega
theorem linesL_64 {ks : List HD} (h : ks.length ≤ 10) : (linesL ks).length < 64 := by
  have := linesL_len ks
  have h2 : ks.length * ks.length ≤ 10 * 10 := Nat.mul_le_mul h h
  omega
theorem drop_step {ks : List HD} {i : Nat} {k : HD} (h : ks[i]? = some k) : ks.drop i = k :: ks.drop (i + 1) := by
  obtain ⟨hi, e⟩ := List.getElem?_eq_some_iff.mp h
  rw [List.drop_eq_getElem_cons hi, e]
def spTwo : Sp := fun vs H Q _ => ∃ (l : Addr) (ks : List HD), vs = [.ref l] ∧ RowL H l ks ∧ ks.length ≤ 10 ∧ AllR ks ∧ ∀ (d : Addr) (ys : List Str) (H' : Hp), ys.Perm (linesL ks) → sortedS ys = true → Same' H H' → H' d = some (.lst (ys.map V.str)) → Q (.ref d) H'
section
variable {P : Program} {w : World} {K : PySem.W.Frag} {mg : Str → Option Value} {base : Heap}
abbrev nNm : List Str := ["_law_rows_here", "_law_words", "_law_row"]
theorem scNm : FnScope nNm ["_law_rows_here", "_law_words"] (defScope sNamed) := ⟨rfl, rfl, rfl, by decide +kernel, rfl, by decide +kernel, by decide +kernel⟩
theorem ok_named (p : Nat → Bool) {f : Addr} {fd : FuncData} (F : Fun K "_law_named" "_law_named" sNamed f fd) (T : Txt mg) : FnOk P w K mg base CX0 1 f fd ["_law_rows_here", "_law_words"] (spNames K p) := by
  refine F.ok scNm (fun vs H Q E h => ?_) (fun cdv A0 outer s H vs Q E hr h => ?_)
  · obtain ⟨l, wt, ks, ws, rfl, _⟩ := h
    rfl
  · obtain ⟨l, wt, ks, ws, rfl, ⟨rs, el, rw0⟩, few, hw, hp, q⟩ := h
    refine ⟨_, pss_one (ps_ret (pe_callTy call_tuple_of (by rfl) T.tuple (by decide +kernel) (pa_cons (pe_callB cr_sortedS (by rfl) T.sorted (by decide +kernel) (pa_cons (pe_lc (own := [("_law_row", 2)]) (g := gName 2) rfl scNm.nd (pi_list (pv 0)) (blkOk_by (N := nNm) (sc := defScope sNamed) (by decide +kernel)) (fun _ _ _ _ _ => pg_name (i := 2) scNm.nd rfl (Or.inl rfl))
      (fun _ _ _ _ _ => pts_one (pt_cmpR (show OpR _ (compareOp .In) (rIn K false) from op_in_seq) (pe_ix (show IxR _ (rIxT K) from ix_tup) (pv 2) pe_int (fun _ _ => rfl)) (pv 1) (by rfl)))
      (fun _ _ _ _ _ => pe_callTy SkE.call_str_str (by rfl) T.str (by decide +kernel) (pa_cons (pe_ix (show IxR _ (rIxT K) from ix_tup) (pv 2) pe_int (fun _ _ => rfl)) pa_nil))) pa_nil)) pa_nil))), ?_⟩
    refine ⟨.ref l, rfl, l, rfl, ⟨_, SqL.of el⟩, fun D hD => ?_⟩
    refine lc_it (walk_list (K := K) (a := l) (xs := rs.map V.ref)) (fun i H' => Same' H H' ∧ H' D = some (.lst ((namesOf p (ks.take i)).map V.str))) ⟨same_new hD, upd_same⟩ (fun i H' _ hp => SqL.of (hp.1 _ _ el)) (fun i x H1 H2 hi hpp hx => ?_) (fun H1 hpp => ?_)
    · obtain ⟨sm, ed⟩ := hpp
      obtain ⟨rfl, e2⟩ := hx
      obtain ⟨t, k, et, ek, rfl, ht⟩ := (rw0.keep sm).at e2
      have tS := SqT.of (K := K) ht
      refine ⟨rfl, ⟨.ref t, rfl, t, _, 0, .str k.wd, rfl, rfl, tS, row_0 k, .ref wt, rfl, wt, _, rfl, .inr (hw.ext sm), rfl, flat_strs _, _, rfl, ?_⟩⟩
      show if inV _ _ = true then _ else _
      rw [inV_strs, hp k]
      have stp := namesOf_step (p := p) ek
      refine ite2 (fun e => ?_) (fun e => ?_)
      · refine ⟨.ref t, rfl, t, _, 1, .str k.nm, rfl, rfl, tS, row_1 k, k.nm, rfl, _, ed, ?_, same_over hD sm, ?_⟩
        · have := namesOf_len p (ks.take i)
          rw [List.length_take] at this
          rw [List.length_map, sizeLine_eq]
          omega
        · rw [upd_same, stp, if_pos e, List.map_append]
          rfl
      · refine ⟨sm, ?_⟩
        rw [stp, if_neg e, List.append_nil]
        exact ed
    · obtain ⟨sm, ed⟩ := hpp
      rw [List.take_of_length_le (by rw [List.length_map, rw0.len]; exact Nat.le_refl _)] at ed
      refine ⟨D, _, rfl, SqL.of ed, Nat.lt_of_le_of_lt (namesOf_len p ks) few, fun ys d2 pm so hd2 => ⟨d2, _, rfl, .inl ⟨SqL.of upd_same, fun d3 hd3 => ?_⟩⟩⟩
      exact q d3 ys _ pm so (sm.trans ((same_new hd2).trans (same_new hd3))) upd_same
abbrev nTwo : List Str := ["_law_rows_here", "_law_found", "_law_here", "_law_row", "_law_other", "_law_line"]
theorem scTwo : FnScope nTwo ["_law_rows_here"] (defScope sTwo) := ⟨rfl, rfl, rfl, by decide +kernel, rfl, by decide +kernel, by decide +kernel⟩
abbrev XTw (P : Program) (w : World) (K : PySem.W.Frag) (mg : Str → Option Value) (base : Heap) (f : Addr) (cdv : Value) (A : Around) (outer : List Env) (s : Shared) (H : Hp) (E : XK) : Cx := (cxOf CX0 P w K mg base nTwo "_law_two" (defScope sTwo) f cdv A outer s H E).nox
theorem ok_two {f fM : Addr} {fd dM : FuncData} (F : Fun K "_law_two" "_law_two" sTwo f fd) (T : Txt mg) (Me : FnB P w K mg base 1 "_law_meet" sLMeet fM dM ["_law_row", "_law_other"] spMeet2) : FnOk P w K mg base CX0 2 f fd ["_law_rows_here"] spTwo := by
  refine F.ok scTwo (fun vs H Q E h => ?_) (fun cdv A0 outer s H vs Q E hr h => ?_)
  · obtain ⟨l, ks, rfl, _⟩ := h
    rfl
  · obtain ⟨l, ks, rfl, ⟨rs, el, rw0⟩, few, all, q⟩ := h
    refine ⟨_, pss_cons (ps_set (i := 1) scTwo.nd rfl (.inl rfl) (pe_lst pa_nil))
      (pss_cons (ps_for PassesOwn.never rfl (pi_enum (by rfl) T.enum (pa_cons (pv 0) pa_nil)) (pg_tup (n := 2) rfl (pgs_cons (pg_name (i := 2) scTwo.nd rfl (.inl rfl)) (pgs_cons (pg_name (i := 3) scTwo.nd rfl (.inr rfl)) pgs_nil)))
        (pss_one (ps_set (i := 1) scTwo.nd rfl (.inl rfl) (pe_op op_cat (pv 1) (pe_lc (own := [("_law_other", 4)]) (g := gName 4) rfl scTwo.nd (pi_list (pe_slice sl_list (pv 0) (po_some (pe_op op_add (pv 2) pe_int)) po_none)) (blkOk_by (N := nTwo) (sc := defScope sTwo) (by decide +kernel)) (fun _ _ _ _ _ => pg_name (i := 4) scTwo.nd rfl (Or.inl rfl))
          (fun s1 H1 C1 cl1 fp1 => pts_one (pt_val (pe_call (X := (XTw P w K mg base f cdv A0 outer s H E).blk s1 H1 _ (compEnvC _ cl1 C1 (XTw P w K mg base f cdv A0 outer s H E).env) fp1) Me.G hr (by rfl) Me.g Me.F.kp Me.b .nil pass0 (pa_cons (pv 3) (pa_cons (pv 4) pa_nil)))))
          (fun _ _ _ _ _ => pe_op op_add_str (pe_op op_add_str (pe_ix (show IxR _ (rIxT K) from ix_tup) (pv 3) pe_int (fun _ _ => rfl)) pe_str) (pe_ix (show IxR _ (rIxT K) from ix_tup) (pv 4) pe_int (fun _ _ => rfl))))))))
      (pss_one (ps_ret (pe_callB cr_sortedS (by rfl) T.sorted (by decide +kernel) (pa_cons (pe_lc (own := [("_law_line", 5)]) (g := gName 5) (tt := tYes) rfl scTwo.nd (pi_list (pv 1)) (blkOk_by (N := nTwo) (sc := defScope sTwo) (by decide +kernel)) (fun _ _ _ _ _ => pg_name (i := 5) scTwo.nd rfl (Or.inl rfl)) (fun _ _ _ _ _ => pts_nil)
          (fun _ _ _ _ _ => pe_callTy SkE.call_str_str (by rfl) T.str (by decide +kernel) (pa_cons (pv 5) pa_nil))) pa_nil))))), ?_⟩
    refine ⟨by show 0 ≤ sizeLine; decide, fun fl hfl => ?_⟩
    have s0 := same_new (o := .lst []) hfl
    refine ⟨.ref l, rfl, l, rs.map V.ref, rfl, SqL.of (s0 _ _ el), ?_⟩
    have n64 := linesL_64 few
    refine for_it (walk_enum (K := K) (a := l) (xs := rs.map V.ref)) (fun i σ H' => Same' H H' ∧ ∃ (fa : Addr) (fs : List Str) (z2 z3 : Option V), σ = [some (.ref l), some (.ref fa), z2, z3, none, none] ∧ H' fa = some (.lst (fs.map V.str)) ∧ fs ++ linesL (ks.drop i) = linesL ks) ⟨s0, fl, [], none, none, rfl, upd_same, rfl⟩ (fun i σ H' _ hp => SqL.of (hp.1 _ _ el)) (fun i x σ H1 H2 hi hp hy => ?_) (fun σ H1 hp => ?_)
    · obtain ⟨sm, fa, fs, z2, z3, rfl, efa, efs⟩ := hp
      obtain ⟨tt, v1, v2, rfl, htt, rfl, e1, e2⟩ := hy
      injection e1 with e1
      subst e1
      obtain ⟨t, k, et, ek, rfl, ht⟩ := (rw0.keep sm).at e2
      have st := same_new (o := .tup [V.int (i : Int), V.ref t]) htt
      refine ⟨tt, _, rfl, SqT.of upd_same, rfl, _, _, rfl, _, _, rfl, rfl, ?_⟩
      have sm2 := sm.trans st
      have ht2 := st _ _ ht
      have efa2 := st _ _ efa
      generalize upd H1 tt (.tup [V.int (i : Int), V.ref t]) = H3 at *
      refine ⟨.ref fa, rfl, .ref l, rfl, .int (i : Int), rfl, _, _, rfl, rfl, _, rfl, l, _, rfl, SqL.of (sm2 _ _ el), fun u hu => ?_⟩
      have up : ((i : Int) + 1) = ((i + 1 : Nat) : Int) := by omega
      rw [up, cut_from, ← List.map_drop]
      have su := same_new (o := .lst ((rs.drop (i + 1)).map V.ref)) hu
      have eu : (upd H3 u (.lst ((rs.drop (i + 1)).map V.ref))) u = some (.lst ((rs.drop (i + 1)).map V.ref)) := upd_same
      have sm3 := sm2.trans su
      have ht3 := su _ _ ht2
      have efa3 := su _ _ efa2
      generalize upd H3 u (.lst ((rs.drop (i + 1)).map V.ref)) = H4 at *
      have rwd : Rws H4 (rs.drop (i + 1)) (ks.drop (i + 1)) := by
        have r4 := rw0.keep sm3
        refine ⟨by rw [List.length_drop, List.length_drop, r4.len], fun j a y q1 q2 => ?_⟩
        rw [List.getElem?_drop] at q1 q2
        exact r4.is _ a y q1 q2
      have kin : k ∈ rowsK := all k (List.mem_of_getElem? ek)
      refine ⟨u, rfl, ⟨_, SqL.of eu⟩, fun D hD => ?_⟩
      have ld : (ks.drop (i + 1)).length ≤ 10 := by rw [List.length_drop]; omega
      refine lc_it (walk_list (K := K) (a := u) (xs := (rs.drop (i + 1)).map V.ref)) (fun j H' => Same' H4 H' ∧ H' D = some (.lst ((linesK k ((ks.drop (i + 1)).take j)).map V.str))) ⟨same_new hD, upd_same⟩ (fun j H' _ hp => SqL.of (hp.1 _ _ eu)) (fun j x H5 H6 hj hp hx => ?_) (fun H5 hp => ?_)
      · obtain ⟨s5, ed⟩ := hp
        obtain ⟨rfl, e3⟩ := hx
        obtain ⟨t2, k2, et2, ek2, rfl, ht2'⟩ := (rwd.keep s5).at e3
        have k2in : k2 ∈ rowsK := all k2 (List.mem_of_mem_drop (List.mem_of_getElem? ek2))
        refine ⟨rfl, ⟨.ref t, rfl, .ref t2, rfl, t, t2, k, k2, rfl, s5 _ _ ht3, ht2', fun H7 s7 => ⟨_, rfl, ?_⟩⟩⟩
        have s57 := s5.trans s7
        have stp : linesK k ((ks.drop (i + 1)).take (j + 1)) = linesK k ((ks.drop (i + 1)).take j) ++ (if meetB k.ix k2.ix = true then [lineOf k k2] else []) := by
          unfold linesK
          rw [List.take_add_one, ek2, List.filter_append, List.map_append]
          congr 1
          show (List.filter _ [k2]).map _ = _
          rw [List.filter_cons]
          split <;> rfl
        have ed7 := s7 _ _ ed
        refine ite2 (fun e => ?_) (fun e => ?_)
        · obtain ⟨l1, _, _⟩ := rows_nm k kin
          obtain ⟨l2, _, _⟩ := rows_nm k2 k2in
          have lsp : (" " : Str).length = 1 := by decide
          refine ⟨.ref t, rfl, t, _, 1, .str k.nm, rfl, rfl, SqT.of (s57 _ _ ht3), row_1 k, k.nm, " ", rfl, rfl, by rw [lsp, sizeLine_eq]; omega, .ref t2, rfl, t2, _, 1, .str k2.nm, rfl, rfl, SqT.of (s7 _ _ ht2'), row_1 k2, _, k2.nm, rfl, rfl, by rw [len_app, lsp, sizeLine_eq]; omega, _, ed7, ?_, same_over hD s57, ?_⟩
          · have := linesK_len k ((ks.drop (i + 1)).take j)
            rw [List.length_take] at this
            rw [List.length_map, sizeLine_eq]
            omega
          · rw [upd_same, stp, if_pos e, List.map_append]
            rfl
        · refine ⟨s57, ?_⟩
          rw [stp, if_neg e, List.append_nil]
          exact ed7
      · obtain ⟨s5, ed⟩ := hp
        rw [List.take_of_length_le (by rw [List.length_map, rwd.len]; exact Nat.le_refl _)] at ed
        have efs2 : (fs ++ linesK k (ks.drop (i + 1))) ++ linesL (ks.drop (i + 1)) = linesL ks := by
          rw [← efs, drop_step ek, List.append_assoc]
          rfl
        have tot : fs.length + (linesK k (ks.drop (i + 1))).length ≤ (linesL ks).length := by
          rw [← efs2, List.length_append, List.length_append]
          omega
        refine ⟨fa, D, _, _, rfl, rfl, s5 _ _ efa3, ed, by rw [List.length_map, List.length_map, sizeLine_eq]; omega, fun D2 hD2 => ?_⟩
        rw [← List.map_append]
        exact ⟨sm3.trans (s5.trans (same_new hD2)), D2, _, _, _, rfl, upd_same, efs2⟩
    · obtain ⟨sm, fa, fs, z2, z3, rfl, efa, efs⟩ := hp
      rw [List.length_map, rw0.len, List.drop_of_length_le (Nat.le_refl _)] at efs
      have efs : fs = linesL ks := by
        rw [← efs]
        exact (List.append_nil _).symm
      subst efs
      refine ⟨.ref fa, rfl, fa, rfl, ⟨_, SqL.of efa⟩, fun D hD => ?_⟩
      refine lc_it (walk_list (K := K) (a := fa) (xs := (linesL ks).map V.str)) (fun j H' => Same' H1 H' ∧ H' D = some (.lst (((linesL ks).take j).map V.str))) ⟨same_new hD, upd_same⟩ (fun j H' _ hp => SqL.of (hp.1 _ _ efa)) (fun j x H5 H6 hj hp hx => ?_) (fun H5 hp => ?_)
      · obtain ⟨s5, ed⟩ := hp
        obtain ⟨rfl, e3⟩ := hx
        rw [List.getElem?_map] at e3
        cases ez : (linesL ks)[j]? with
        | none => rw [ez] at e3; cases e3
        | some z =>
          rw [ez] at e3
          cases e3
          refine ⟨rfl, ⟨.str z, rfl, z, rfl, _, ed, ?_, same_over hD s5, ?_⟩⟩
          · rw [List.length_map, List.length_take, sizeLine_eq]
            omega
          · rw [upd_same, List.take_add_one, ez, List.map_append]
            rfl
      · obtain ⟨s5, ed⟩ := hp
        rw [List.take_of_length_le (by rw [List.length_map]; exact Nat.le_refl _)] at ed
        exact ⟨D, _, rfl, SqL.of ed, n64, fun ys d2 pm so hd2 => q d2 ys _ pm so (sm.trans (s5.trans (same_new hd2))) upd_same⟩
end
end My
namespace My
open PySem PySem.Spec PyProof.Rows L2
/-! ### ascending texts are one list -/
def LeS (a b : Str) : Prop := ltCps b.cps.toList a.cps.toList = false
def LtS (a b : Str) : Prop := ltCps a.cps.toList b.cps.toList = true
instance (a b : Str) : Decidable (LtS a b) := inferInstanceAs (Decidable (_ = _))
theorem leS_iff (a b : Str) : LeS a b ↔ a.cps.toList ≤ b.cps.toList := by
  unfold LeS
  rw [ltCps_eq, decide_eq_false_iff_not]
  exact List.not_lt
theorem leS_trans {a b c : Str} (h : LeS a b) (k : LeS b c) : LeS a c := by
  rw [leS_iff] at *
  exact List.le_trans h k
theorem leS_antisymm {a b : Str} (h : LeS a b) (k : LeS b a) : a = b := by
  rw [leS_iff] at *
  have e : a.cps.toList = b.cps.toList := List.le_antisymm h k
  cases a
  cases b
  exact congrArg _ (Array.toList_inj.mp e)
theorem ltS_leS {a b : Str} (h : LtS a b) : LeS a b := by
  unfold LtS at h
  rw [ltCps_eq, decide_eq_true_iff] at h
  rw [leS_iff]
  exact List.le_of_lt h
theorem ltS_of {a b : Str} (h : LeS a b) (n : a ≠ b) : LtS a b := by
  unfold LtS
  cases e : ltCps a.cps.toList b.cps.toList with
  | true => rfl
  | false => exact absurd (leS_antisymm h e) n
theorem ltS_irrefl {a : Str} (h : LtS a a) : False := by
  unfold LtS at h
  rw [ltCps_eq, decide_eq_true_iff] at h
  exact List.lt_irrefl _ h
theorem pw_rising : ∀ (l : List Str) (p : Str), risingS p l = true → (p :: l).Pairwise LeS
  | [], p, _ => List.pairwise_singleton _ _
  | x :: l, p, h => by
    unfold risingS at h
    rw [Bool.and_eq_true, Bool.not_eq_true'] at h
    have ih := pw_rising l x h.2
    have px : LeS p x := h.1
    refine List.pairwise_cons.mpr ⟨fun y hy => ?_, ih⟩
    rcases List.mem_cons.mp hy with e | m
    · rw [e]; exact px
    · exact leS_trans px ((List.pairwise_cons.mp ih).1 y m)
theorem pw_sorted : ∀ l : List Str, sortedS l = true → l.Pairwise LeS
  | [], _ => List.Pairwise.nil
  | x :: l, h => pw_rising l x h
theorem sorted_one {ys zs : List Str} (p : ys.Perm zs) (a : ys.Pairwise LeS) (b : zs.Pairwise LeS) : ys = zs :=
  List.Perm.eq_of_pairwise (le := LeS) (fun _ _ _ _ h k => leS_antisymm h k) a b p
theorem asc_one {xs ys zs : List Str} (nd : xs.Nodup) (a : Asc xs ys) (p : zs.Perm xs) (so : sortedS zs = true) : ys = zs :=
  sorted_one (((List.perm_ext_iff_of_nodup a.nd nd).mpr a.mem).trans p.symm) (pw_sorted _ a.so) (pw_sorted _ so)
/-! ### the lines of names -/
def pool13 : List Str := ["x", "y", "z", "w", "l", "m", "f", "g", "h", "ab", "zzzzzzzz", "new", "choice"]
def lineZ (z : Str × Str) : Str := (z.1 ++ " ") ++ z.2
theorem line_split : ∀ a ∈ pool13, ∀ b ∈ pool13, Txt.split (lineZ (a, b)) " " = [a, b] ∧ (lineZ (a, b)).length ≤ 20 := by decide +kernel
def ltB (a b : Str) : Bool := ltCps a.cps.toList b.cps.toList
theorem line_ltB : (pool13.all fun a => pool13.all fun c => pool13.all fun b => pool13.all fun d => !(ltB a c || (decide (a = c) && ltB b d)) || ltB (lineZ (a, b)) (lineZ (c, d))) = true := by decide +kernel
theorem line_lt {a b c d : Str} (ha : a ∈ pool13) (hc : c ∈ pool13) (hb : b ∈ pool13) (hd : d ∈ pool13) (h : LtS a c ∨ a = c ∧ LtS b d) : LtS (lineZ (a, b)) (lineZ (c, d)) := by
  have q := List.all_eq_true.mp (List.all_eq_true.mp (List.all_eq_true.mp (List.all_eq_true.mp line_ltB a ha) c hc) b hb) d hd
  have e : (ltB a c || (decide (a = c) && ltB b d)) = true := by
    rcases h with h | ⟨h1, h2⟩
    · rw [show ltB a c = true from h, Bool.true_or]
    · rw [decide_eq_true h1, show ltB b d = true from h2, Bool.true_and, Bool.or_true]
  rw [e] at q
  exact q
theorem line_inj {z y : Str × Str} (h1 : z.1 ∈ pool13) (h2 : z.2 ∈ pool13) (h3 : y.1 ∈ pool13) (h4 : y.2 ∈ pool13) (e : lineZ z = lineZ y) : z = y := by
  obtain ⟨a, b⟩ := z
  obtain ⟨c, d⟩ := y
  have q1 := (line_split a h1 b h2).1
  have q2 := (line_split c h3 d h4).1
  rw [e, q2] at q1
  injection q1 with e1 q1
  injection q1 with e2 _
  rw [e1, e2]
theorem row_pool13 : ∀ k ∈ rowsK, k.nm ∈ pool13 := by decide +kernel
/-! ### all that meet -/
theorem memP_cons {k : HD} {r : List HD} {z : Str × Str} : MemP (k :: r) z ↔ (∃ k2 ∈ r, meetB k.ix k2.ix = true ∧ z = (k.nm, k2.nm)) ∨ MemP r z := by
  constructor
  · rintro ⟨o, i, h1, h2, h3, rfl⟩
    cases i with
    | zero => exact absurd h1 (Nat.not_lt_zero _)
    | succ i =>
      have hi : i < r.length := by simpa using h2
      have e1 := at_k (List.getElem?_eq_getElem hi)
      cases o with
      | zero =>
        refine .inl ⟨r[i], List.getElem_mem hi, ?_, ?_⟩
        · rw [← e1.2]; exact h3
        · show (k.nm, nmAt r i) = _
          rw [e1.1]
      | succ o => exact .inr ⟨o, i, by omega, hi, h3, rfl⟩
  · rintro (⟨k2, h1, h2, rfl⟩ | ⟨o, i, h1, h2, h3, rfl⟩)
    · obtain ⟨i, hi, e⟩ := List.mem_iff_getElem.mp h1
      have e1 := at_k (List.getElem?_eq_getElem hi)
      refine ⟨0, i + 1, by omega, by simpa using hi, ?_, ?_⟩
      · show meetB k.ix (ixAt r i) = true
        rw [e1.2, e]; exact h2
      · show _ = (k.nm, nmAt r i)
        rw [e1.1, e]
    · exact ⟨o + 1, i + 1, by omega, by simpa using h2, h3, rfl⟩
theorem mem_lines : ∀ (ks : List HD) (l : Str), l ∈ linesL ks ↔ ∃ z, MemP ks z ∧ l = lineZ z
  | [], l => ⟨fun h => (nomatch h), fun ⟨_, ⟨_, _, _, h, _⟩, _⟩ => absurd h (Nat.not_lt_zero _)⟩
  | k :: r, l => by
    have ih := mem_lines r l
    show l ∈ linesK k r ++ linesL r ↔ _
    rw [List.mem_append, ih]
    constructor
    · rintro (h | ⟨z, h, e⟩)
      · unfold linesK at h
        obtain ⟨k2, hk, rfl⟩ := List.mem_map.mp h
        obtain ⟨m, e⟩ := List.mem_filter.mp hk
        exact ⟨(k.nm, k2.nm), memP_cons.mpr (.inl ⟨k2, m, e, rfl⟩), rfl⟩
      · exact ⟨z, memP_cons.mpr (.inr h), e⟩
    · rintro ⟨z, h, rfl⟩
      rcases memP_cons.mp h with ⟨k2, m, e, rfl⟩ | h
      · refine .inl ?_
        unfold linesK
        exact List.mem_map.mpr ⟨k2, List.mem_filter.mpr ⟨m, e⟩, rfl⟩
      · exact .inr ⟨z, h, rfl⟩
theorem memP_in {ks : List HD} (hR : AllR ks) {z : Str × Str} (h : MemP ks z) : (z.1 ∈ pool13 ∧ z.2 ∈ pool13) ∧ z.1 ∈ ks.map HD.nm ∧ z.2 ∈ ks.map HD.nm := by
  obtain ⟨o, i, h1, h2, h3, rfl⟩ := h
  have ho : o < ks.length := by omega
  have e1 := (at_k (List.getElem?_eq_getElem ho)).1
  have e2 := (at_k (List.getElem?_eq_getElem h2)).1
  have m1 := List.getElem_mem ho
  have m2 := List.getElem_mem h2
  show (nmAt ks o ∈ _ ∧ nmAt ks i ∈ _) ∧ nmAt ks o ∈ _ ∧ nmAt ks i ∈ _
  rw [e1, e2]
  exact ⟨⟨row_pool13 _ (hR _ m1), row_pool13 _ (hR _ m2)⟩, List.mem_map.mpr ⟨_, m1, rfl⟩, List.mem_map.mpr ⟨_, m2, rfl⟩⟩
theorem line_memP {ks ks2 : List HD} (hR : AllR ks) (hR2 : AllR ks2) {z : Str × Str} (h : MemP ks z) : lineZ z ∈ linesL ks2 ↔ MemP ks2 z := by
  rw [mem_lines]
  refine ⟨fun ⟨y, hy, e⟩ => ?_, fun q => ⟨z, q, rfl⟩⟩
  have a := (memP_in hR h).1
  have b := (memP_in hR2 hy).1
  rw [line_inj a.1 a.2 b.1 b.2 e]
  exact hy
theorem lines_nd : ∀ (ks : List HD), AllR ks → (ks.map HD.nm).Nodup → (linesL ks).Nodup
  | [], _, _ => List.Pairwise.nil
  | k :: r, hR, nd => by
    have hR' : AllR r := fun x hx => hR x (List.mem_cons_of_mem _ hx)
    have hk := row_pool13 _ (hR k List.mem_cons_self)
    rw [List.map_cons, List.nodup_cons] at nd
    have ih := lines_nd r hR' nd.2
    show (linesK k r ++ linesL r).Nodup
    refine List.nodup_append.mpr ⟨?_, ih, ?_⟩
    · have nr : r.Pairwise (fun a b => a.nm ≠ b.nm) := List.pairwise_map.mp nd.2
      unfold linesK
      refine List.pairwise_map.mpr ?_
      refine List.Pairwise.imp_of_mem (fun {a b} ha hb n e => ?_) (nr.filter _)
      have ha := row_pool13 _ (hR' a (List.mem_filter.mp ha).1)
      have hb := row_pool13 _ (hR' b (List.mem_filter.mp hb).1)
      have := line_inj (z := (k.nm, a.nm)) (y := (k.nm, b.nm)) hk ha hk hb e
      injection this with _ q
      exact n q
    · intro a ha b hb e
      subst e
      unfold linesK at ha
      obtain ⟨k2, hk2, rfl⟩ := List.mem_map.mp ha
      obtain ⟨y, hy, e⟩ := (mem_lines r _).mp hb
      have m := memP_in hR' hy
      have := line_inj (z := (k.nm, k2.nm)) hk (row_pool13 _ (hR' k2 (List.mem_filter.mp hk2).1)) m.1.1 m.1.2 e
      rw [← this] at m
      exact nd.1 m.2.1
theorem pairs_pw {ks : List HD} {os : List Nat} (hos : ∀ o ∈ os, nmAt ks o ∈ pool13) (pw : os.Pairwise fun o i => LtS (nmAt ks o) (nmAt ks i)) : ((pairsL ks os os).map lineZ).Pairwise LtS := by
  refine List.pairwise_map.mpr ?_
  unfold pairsL pairsO
  refine List.pairwise_flatMap.mpr ⟨fun o ho => ?_, ?_⟩
  · refine List.pairwise_map.mpr ?_
    refine List.Pairwise.imp_of_mem (fun {a b} ha hb n => ?_) (pw.filter _)
    exact line_lt (hos o ho) (hos o ho) (hos a (List.mem_filter.mp ha).1) (hos b (List.mem_filter.mp hb).1) (.inr ⟨rfl, n⟩)
  · refine List.Pairwise.imp_of_mem (fun {a b} ha hb n => ?_) pw
    intro x hx y hy
    obtain ⟨i, hi, rfl⟩ := List.mem_map.mp hx
    obtain ⟨j, hj, rfl⟩ := List.mem_map.mp hy
    exact line_lt (hos a ha) (hos b hb) (hos i (List.mem_filter.mp hi).1) (hos j (List.mem_filter.mp hj).1) (.inl n)
theorem order_map {ks : List HD} {os : List Nat} {ys : List Str} (od : Order ks os ys) : ys = os.map (nmAt ks) := by
  refine List.ext_getElem? fun j => ?_
  rw [List.getElem?_map]
  cases e : os[j]? with
  | none =>
    have : ys.length ≤ j := by rw [← od.len]; exact List.getElem?_eq_none_iff.mp e
    rw [List.getElem?_eq_none this]
    rfl
  | some o => exact (od.is j o e).2
/-- the pairs of a stack, as the law's lines -/
theorem lines_one {ks : List HD} {os : List Nat} {names ys : List Str} (hR : AllR ks) (nd : (ks.map HD.nm).Nodup) (ay : Asc (ks.map HD.nm) names) (od : Order ks os names) (p : ys.Perm (linesL ks)) (so : sortedS ys = true) : ys = (pairsL ks os os).map lineZ := by
  have hos : ∀ o ∈ os, nmAt ks o ∈ pool13 := fun o ho => by
    have l := od.lt o ho
    rw [(at_k (List.getElem?_eq_getElem l)).1]
    exact row_pool13 _ (hR _ (List.getElem_mem l))
  have pn : names.Pairwise LtS := by
    refine List.Pairwise.imp (fun {a b} h => ltS_of h.1 h.2) ((pw_sorted _ ay.so).and ay.nd)
  rw [order_map od] at pn
  have pw := pairs_pw hos (List.pairwise_map.mp pn)
  refine sorted_one (p.trans ?_) (pw_sorted _ so) (pw.imp fun h => ltS_leS h)
  have nl : ((pairsL ks os os).map lineZ).Nodup := List.Pairwise.imp (S := fun a b => a ≠ b) (fun {a b} h e => ltS_irrefl (a := b) (by rw [e] at h; exact h)) pw
  refine (List.perm_ext_iff_of_nodup (lines_nd ks hR nd) nl).mpr fun l => ?_
  rw [mem_lines, List.mem_map]
  constructor
  · rintro ⟨z, h, rfl⟩
    exact ⟨z, (mem_pairsL nd ay od z).mpr h, rfl⟩
  · rintro ⟨z, h, rfl⟩
    exact ⟨z, (mem_pairsL nd ay od z).mp h, rfl⟩
end My
namespace My
open PySem PySem.Spec PyProof.Rows L2
abbrev kwS {α : Type} (us ws : List α) : List α := us ++ (ws ++ ws.drop 1)
theorem kwRelS {vs : List V} {us : List Value} {zs : List V} {ws : List Value} (h : Vals vs us) (k : Vals zs ws) : Vals (kwS vs zs) (kwS us ws) := by
  refine h.append (k.append ?_)
  cases k with
  | nil => exact .nil
  | cons r q => exact q
theorem kwTwo {K : PySem.W.Frag} {nm qual x y : Str} {st : Stmt} {f : Addr} {fd : FuncData} (F : Fun K nm qual st f fd)
    (h : ∀ (kV doc pm : Value) (an : Option Addr) (cdv ct u w : Value), bindArgs (PySem.W.fnOf nm qual (defArgs st) (defBody st) (defScope st) .none kV doc pm an cdv ct) ⟨[u], [(y, w)]⟩ = pure [(x, u), (y, w)])
    (h0 : ∀ (kV doc pm : Value) (an : Option Addr) (cdv ct u v : Value), bindArgs (PySem.W.fnOf nm qual (defArgs st) (defBody st) (defScope st) .none kV doc pm an cdv ct) ⟨[u, v], []⟩ = pure [(x, u), (y, v)]) : KBinds K fd [x, y] [y] kwS kwS := by
  obtain ⟨oc, od, kV, doc, pm, an, cdv, ct, osl, rfl, lk, hcd⟩ := F.ex
  refine ⟨fun s us ws _ hl => ?_, kwRelS⟩
  match us, ws, hl with
  | [u], [w], _ => exact .of_eq (h kV doc pm an cdv ct u w)
  | [u, v], [], _ => exact .of_eq (h0 kV doc pm an cdv ct u v)
  | [], ws, hl =>
    exfalso
    simp [kwS] at hl
    omega
  | [u], [], hl => simp [kwS] at hl
  | [u], w :: z :: r, hl =>
    exfalso
    simp [kwS] at hl
  | u :: v :: r, w :: q, hl =>
    exfalso
    simp [kwS] at hl
  | u :: v :: z :: r, [], hl => simp [kwS] at hl

section
variable {P : Program} {w : World} {K : PySem.W.Frag} {mg : Str → Option Value} {base : Heap}
/-- a def by its body, the guards known, nothing raised -/
theorem okGn {x qual : Str} {st : Stmt} {f : Addr} {fd : FuncData} {N ps : List Str} {k : Nat} {sp : Sp} (F : Fun K x qual st f fd) (S : FnScope N ps (defScope st)) (len : ∀ vs H Q E, sp vs H Q E → vs.length = ps.length)
    (body : ∀ (cdv : Value) (A : Around) (outer : List Env) (s : Shared) (H : Hp) (vs : List V) (Q : VK) (E : XK), Room k (A.deeper (envOfC qual (defScope st) s.heap.objs.size f cdv)) → (A.deeper (envOfC qual (defScope st) s.heap.objs.size f cdv)).guards = some [] → sp vs H Q E →
      ∃ t, PSs (cxOf CX0 P w K mg base N qual (defScope st) f cdv A outer s H E).nox (defBody st) t ∧ t { nx := fun _ H' => Q .non H', rt := Q } (start N vs) H) : FnG P w K mg base CX0 (k + 1) f fd ps sp :=
  okG F S len fun cdv A outer s H vs Q E hr hg h => let ⟨t, ht, hq⟩ := body cdv A outer s H vs Q E hr hg h; ⟨t, ht.nox, hq⟩
structure FnBG (P : Program) (w : World) (K : PySem.W.Frag) (mg : Str → Option Value) (base : Heap) (k : Nat) (x : Str) (f : Addr) (fd : FuncData) (ps : List Str) (sp : Sp) : Prop where
  kp : PySem.W.keepIn K (.ref f) = true
  b : Binds K fd ps []
  g : mg x = some (.ref f)
  G : FnG P w K mg base CX0 k f fd ps sp
end
/-! ### what is shown -/
def dT (ys : List Str) : PyData := .tuple (ys.map .str)
structure Shw (n m : Nat) (yss : List (List Str)) : Prop where
  n : yss.length ≤ n
  m : ∀ ys ∈ yss, ys.length ≤ m ∧ ∀ z ∈ ys, z.length ≤ 8 ∧ PyData.strOk z = true
theorem dTs {n m : Nat} : ∀ (yss : List (List Str)), Shw n m yss → PyData.showableAll (yss.map dT) = true ∧ PyData.leavesShortAll 8 (yss.map dT) = true ∧ PyData.depthAll (yss.map dT) ≤ 2 ∧ PyData.bulkAll (yss.map dT) ≤ yss.length * (m * 9 + 1) ∧ PyData.hasDictAll (yss.map dT) = false
  | [], _ => ⟨rfl, rfl, by decide, Nat.zero_le _, rfl⟩
  | ys :: yss, h => by
    obtain ⟨h1, h2, h3, h4, h5⟩ := dTs (n := yss.length) (m := m) yss ⟨Nat.le_refl _, fun y hy => h.m y (List.mem_cons_of_mem _ hy)⟩
    obtain ⟨hl, hz⟩ := h.m ys List.mem_cons_self
    have flat : ∀ zs : List Str, (∀ z ∈ zs, z.length ≤ 8 ∧ PyData.strOk z = true) → PyData.showableAll (zs.map .str) = true ∧ PyData.leavesShortAll 8 (zs.map .str) = true ∧ PyData.depthAll (zs.map .str) ≤ 0 ∧ PyData.bulkAll (zs.map .str) ≤ zs.length * 9 ∧ PyData.hasDictAll (zs.map .str) = false := by
      intro zs
      induction zs with
      | nil => intro _; exact ⟨rfl, rfl, Nat.le_refl _, Nat.zero_le _, rfl⟩
      | cons z zs ih =>
        intro hz
        obtain ⟨i1, i2, i3, i4, i5⟩ := ih fun y hy => hz y (List.mem_cons_of_mem _ hy)
        obtain ⟨z1, z2⟩ := hz z List.mem_cons_self
        have z3 : (z.cps.toList.all fun c => decide (c < 16 ^ 8)) = true := by
          unfold PyData.strOk at z2
          rw [List.all_eq_true]
          intro c hc
          have := Array.all_eq_true'.mp z2 c (by simpa using hc)
          simp only [decide_eq_true_eq] at this ⊢
          exact Nat.lt_trans this (by decide)
        have z4 : z.cps.size ≤ 8 := z1
        rw [List.map_cons]
        refine ⟨?_, ?_, ?_, ?_, ?_⟩
        · simp only [PyData.showableAll, PyData.showable, i1, Bool.and_self]
        · simp only [PyData.leavesShortAll, PyData.leavesShort, z3, i2, Bool.and_self]
        · simp only [PyData.depthAll, PyData.depth]
          omega
        · simp only [PyData.bulkAll, PyData.bulk, List.length_cons]
          omega
        · simp only [PyData.hasDictAll, PyData.hasDict, i5, Bool.or_self]
    obtain ⟨f1, f2, f3, f4, f5⟩ := flat ys hz
    rw [List.map_cons]
    refine ⟨?_, ?_, ?_, ?_, ?_⟩
    · simp only [PyData.showableAll, dT, PyData.showable, f1, h1, Bool.and_self]
    · simp only [PyData.leavesShortAll, dT, PyData.leavesShort, f2, h2, Bool.and_self]
    · simp only [PyData.depthAll, dT, PyData.depth]
      omega
    · simp only [PyData.bulkAll, dT, PyData.bulk, List.length_cons, Nat.succ_mul]
      have : ys.length * 9 ≤ m * 9 := Nat.mul_le_mul_right 9 hl
      omega
    · simp only [PyData.hasDictAll, dT, PyData.hasDict, f5, h5, Bool.or_self]
theorem shw_fine {n m : Nat} {yss : List (List Str)} (h : Shw n m yss) (b : n * (m * 9 + 1) ≤ 100000) : (Fine (.list (yss.map dT)) ∧ (PyData.list (yss.map dT)).hasDict = false) ∧ Fine (.tuple (yss.map dT)) ∧ (PyData.tuple (yss.map dT)).hasDict = false := by
  obtain ⟨h1, h2, h3, h4, h5⟩ := dTs yss h
  have hb : yss.length * (m * 9 + 1) ≤ n * (m * 9 + 1) := Nat.mul_le_mul_right _ h.n
  have s1 := PyData.shown_le_bulk 8 (Nat.le_refl _) (.list (yss.map dT)) (by simpa only [PyData.leavesShort] using h2)
  have s2 := PyData.shown_le_bulk 8 (Nat.le_refl _) (.tuple (yss.map dT)) (by simpa only [PyData.leavesShort] using h2)
  simp only [PyData.bulk] at s1 s2
  refine ⟨⟨⟨by simpa only [PyData.showable] using h1, by simp only [PyData.depth]; omega, by rw [sizeLine_eq]; omega⟩, by simpa only [PyData.hasDict] using h5⟩, ⟨by simpa only [PyData.showable] using h1, by simp only [PyData.depth]; omega, by rw [sizeLine_eq]; omega⟩, by simpa only [PyData.hasDict] using h5⟩
theorem dp_strs {K : PySem.W.Frag} {H : Hp} : ∀ ys : List Str, DpAll K H (ys.map V.str) (ys.map .str)
  | [] => .nil
  | y :: ys => .cons (.str y) (dp_strs ys)
theorem dp_dT {K : PySem.W.Frag} {H : Hp} {a : Addr} {ys : List Str} (h : H a = some (.tup (ys.map V.str))) : Dp K H (.ref a) (dT ys) := .tup (SqT.of h) (dp_strs ys)
end My
namespace My
open PySem PySem.Spec PyProof.Rows L2
/-! ### does a stack tell what stands inside and outside -/
abbrev nRi : List Str := ["_law_made_here", "_law_rows_here", "_law_here", "_law_row", "_law_spots", "_law_outer", "_law_inner", "_law_told", "_law_due", "_law_line"]
theorem scRi : FnScope nRi ["_law_made_here", "_law_rows_here"] (defScope sRight) := ⟨rfl, rfl, rfl, by decide +kernel, rfl, by decide +kernel, by decide +kernel⟩
def spRight (A : A4) (C : Addr) : Sp := fun vs H Q _ => ∃ (a l : Addr) (ks : List HD), vs = [.ref a, .ref l] ∧ StkAt A C H a ks ∧ RowL H l ks ∧ Good ks ∧ ∀ H', Same' H H' → Q (.bl true) H'
section
variable {P : Program} {w : World} {K : PySem.W.Frag} {mg : Str → Option Value} {base : Heap}
abbrev XRi (P : Program) (w : World) (K : PySem.W.Frag) (mg : Str → Option Value) (base : Heap) (f : Addr) (cdv : Value) (A : Around) (outer : List Env) (s : Shared) (H : Hp) (E : XK) : Cx := (cxOf CX0 P w K mg base nRi "_law_right" (defScope sRight) f cdv A outer s H E).nox
/-- what the check calls -/
structure RiK (P : Program) (w : World) (K : PySem.W.Frag) (mg : Str → Option Value) (base : Heap) (A : A4) (C fN fT fB fK : Addr) (dN dT' dB dK : FuncData) : Prop where
  T : Txt mg
  SC : SCls K mg C
  Nf : Fun K "_law_named" "_law_named" sNamed fN dN
  Nb : Binds K dN ["_law_rows_here", "_law_words"] []
  Ng : mg "_law_named" = some (.ref fN)
  NG : ∀ p, FnOk P w K mg base CX0 1 fN dN ["_law_rows_here", "_law_words"] (spNames K p)
  Tw : FnB P w K mg base 2 "_law_two" sTwo fT dT' ["_law_rows_here"] spTwo
  Bk : MethB P w K mg base 3 C "taken_back" fB dB ["self", "name"] (spBack A C fun j ks => ks.drop j)
  Km : Meth K C "kept" fK
  Kb : KBinds K dK ["self", "name"] ["name"] kwS kwS
  KG : FnOk P w K mg base CX0 3 fK dK ["self", "name"] (spBack A C fun j ks => ks.take j)
variable {A : A4} {C fN fT fB fK : Addr} {dN dT' dB dK : FuncData} {f : Addr} {cdv : Value} {A0 : Around} {outer : List Env} {s : Shared} {H0 : Hp} {E : XK}
def inRi (i : Nat) : Stmt := (defBody sRight).getD i (.Pass ⟨0, 0, 0, 0⟩)
def stR (a l : Addr) (z2 z3 z4 z5 z6 z7 z8 : Option V) : L2.St := [some (.ref a), some (.ref l), z2, z3, z4, z5, z6, z7, z8, none]
def spotsN (ks : List HD) : Nat → List Nat
  | 0 => []
  | i + 1 => spotsN ks i ++ (if ks[i]? = some .cho then [i] else [])
theorem spots_none {ks : List HD} (h : ∀ i : Nat, ks[i]? ≠ some HD.cho) : ∀ i, spotsN ks i = []
  | 0 => rfl
  | i + 1 => by
    show spotsN ks i ++ _ = _
    rw [spots_none h i, if_neg (h i)]
    rfl
theorem spots_one {ks : List HD} {j : Nat} (h : ∀ i : Nat, ks[i]? = some HD.cho ↔ i = j) : ∀ i, spotsN ks i = if j < i then [j] else []
  | 0 => rfl
  | i + 1 => by
    show spotsN ks i ++ _ = _
    rw [spots_one h i]
    rcases Nat.lt_trichotomy j i with lt | eq | gt
    · rw [if_pos lt, if_neg (fun e => by have := (h i).mp e; omega), if_pos (by omega), List.append_nil]
    · rw [if_neg (by omega), if_pos ((h i).mpr eq.symm), if_pos (by omega), eq]
      rfl
    · rw [if_neg (by omega), if_neg (fun e => by have := (h i).mp e; omega), if_neg (by omega)]
      rfl
theorem spotsN_len (ks : List HD) : ∀ i, (spotsN ks i).length ≤ i
  | 0 => Nat.le_refl _
  | i + 1 => by
    show (spotsN ks i ++ _).length ≤ _
    have := spotsN_len ks i
    rw [List.length_append]
    split <;> simp <;> omega
theorem row_cho : ∀ k ∈ rowsK, (k.nm = ("choice" : Str) ↔ k = .cho) := by decide +kernel
/-- where the choice stands -/
theorem spots_ch {ks : List HD} (hR : AllR ks) (nd : (ks.map HD.nm).Nodup) : (spotsN ks ks.length = [] ∧ chAt ks = 0) ∨ (spotsN ks ks.length = [chAt ks] ∧ chAt ks < ks.length) := by
  have cho_at : ∀ (i : Nat), (ks.map HD.nm)[i]? = some ("choice" : Str) ↔ ks[i]? = some .cho := fun i => by
    rw [List.getElem?_map]
    cases e : ks[i]? with
    | none => exact ⟨fun h => (nomatch h), fun h => (nomatch h)⟩
    | some k =>
      have hk := row_cho k (hR k (List.mem_of_getElem? e))
      exact ⟨fun h => congrArg some (hk.mp (Option.some.inj h)), fun h => congrArg some (hk.mpr (Option.some.inj h))⟩
  by_cases hm : ("choice" : Str) ∈ ks.map HD.nm
  · obtain ⟨j, h1, h2⟩ := first_at nd hm
    have ej : chAt ks = j := find_first h1 h2
    have lj : j < ks.length := by simpa using (List.getElem?_eq_some_iff.mp h1).1
    refine .inr ⟨?_, by omega⟩
    rw [spots_one (j := j) (fun i => ⟨fun e => ?_, fun e => e ▸ (cho_at j).mp h1⟩), if_pos lj, ej]
    have e2 := (cho_at i).mpr e
    obtain ⟨l1, g1⟩ := List.getElem?_eq_some_iff.mp e2
    obtain ⟨l2, g2⟩ := List.getElem?_eq_some_iff.mp h1
    rcases Nat.lt_trichotomy i j with lt | eq | gt
    · exact absurd (g1.trans g2.symm) ((List.pairwise_iff_getElem.mp nd) _ _ l1 l2 lt)
    · exact eq
    · exact absurd (g2.trans g1.symm) ((List.pairwise_iff_getElem.mp nd) _ _ l2 l1 gt)
  · refine .inl ⟨spots_none (fun i e => hm (List.mem_of_getElem? ((cho_at i).mpr e))) _, ?_⟩
    exact find_none hm
theorem Rws.take {H : Hp} {rs : List Addr} {ks : List HD} (h : Rws H rs ks) (n : Nat) : Rws H (rs.take n) (ks.take n) := by
  refine ⟨by rw [List.length_take, List.length_take, h.len], fun i a k e1 e2 => ?_⟩
  rw [List.getElem?_take] at e1 e2
  split at e1
  · rename_i hi
    rw [if_pos hi] at e2
    exact h.is i a k e1 e2
  · cases e1
theorem Rws.drop {H : Hp} {rs : List Addr} {ks : List HD} (h : Rws H rs ks) (n : Nat) : Rws H (rs.drop n) (ks.drop n) := by
  refine ⟨by rw [List.length_drop, List.length_drop, h.len], fun i a k e1 e2 => ?_⟩
  rw [List.getElem?_drop] at e1 e2
  exact h.is _ a k e1 e2
/-- a slice of a list of rows -/
theorem rd_to {l : Addr} {ks : List HD} {j : Nat} {H : Hp} {Q : VK} (r : RowL H l ks) (q : ∀ u H', Same' H H' → RowL H' u (ks.take j) → Q (.ref u) H') : rSlL K (.ref l) none (some (j : Int)) H Q := by
  obtain ⟨rs, el, rw0⟩ := r.ex
  refine ⟨l, _, rfl, SqL.of el, fun u hu => ?_⟩
  rw [cut_to, ← List.map_take]
  have s := same_new (o := .lst ((rs.take j).map V.ref)) hu
  exact q u _ s ⟨_, upd_same, (rw0.keep s).take j⟩
theorem rd_from {l : Addr} {ks : List HD} {j : Nat} {H : Hp} {Q : VK} (r : RowL H l ks) (q : ∀ u H', Same' H H' → RowL H' u (ks.drop j) → Q (.ref u) H') : rSlL K (.ref l) (some (j : Int)) none H Q := by
  obtain ⟨rs, el, rw0⟩ := r.ex
  refine ⟨l, _, rfl, SqL.of el, fun u hu => ?_⟩
  rw [cut_from, ← List.map_drop]
  have s := same_new (o := .lst ((rs.drop j).map V.ref)) hu
  exact q u _ s ⟨_, upd_same, (rw0.keep s).drop j⟩
theorem ri0 (Y : RiK P w K mg base A C fN fT fB fK dN dT' dB dK) : ∃ t, PS (XRi P w K mg base f cdv A0 outer s H0 E) (inRi 0) t ∧ ∀ (a l : Addr) (ks : List HD) (D : Ends) (H : Hp), RowL H l ks → ks.length ≤ 10 →
    (∀ d H', Same' H H' → H' d = some (.lst ((spotsN ks ks.length).map fun (i : Nat) => V.int (i : Int))) → D.nx (stR a l none none (some (.ref d)) none none none none) H') → t D (stR a l none none none none none none none) H := by
  refine ⟨_, ps_setLc (i := 4) (own := [("_law_here", 2), ("_law_row", 3)]) (g := gTup K 2 (gCons (gName 2) (gCons (gName 3) gNil))) rfl scRi.nd rfl rfl (sw_true rfl rfl rfl (by decide +kernel)) (pi_enum (by rfl) Y.T.enum (pa_cons (pv 1) pa_nil)) (blkOk_by (N := nRi) (sc := defScope sRight) (by decide +kernel))
    (fun _ _ _ _ _ => show PG _ _ (gTup K 2 (gCons (gName 2) (gCons (gName 3) gNil))) from pg_tup rfl (pgs_cons (pg_name (i := 2) scRi.nd rfl (Or.inl rfl)) (pgs_cons (pg_name (i := 3) scRi.nd rfl (Or.inl rfl)) pgs_nil)))
    (fun _ _ _ _ _ => pts_one (pt_cmpR op_eq (pe_ix (show IxR _ (rIxT K) from ix_tup) (pv 3) pe_int (fun _ _ => rfl)) pe_str (nomark _))) (fun _ _ _ _ _ => pv 2), fun a l ks D H rl few q => ?_⟩
  obtain ⟨rs, el, rw0⟩ := rl.ex
  refine ⟨.ref l, rfl, l, rs.map V.ref, rfl, SqL.of el, fun D4 hD => ?_⟩
  refine lc_it (walk_enum (K := K) (a := l) (xs := rs.map V.ref)) (fun i H' => Same' H H' ∧ H' D4 = some (.lst ((spotsN ks i).map fun (i : Nat) => V.int (i : Int)))) ⟨same_new hD, upd_same⟩ (fun i H' _ hp => SqL.of (hp.1 _ _ el)) (fun i x H1 H2 hi hp hx => ?_) (fun H1 hp => ?_)
  · obtain ⟨sm, ed⟩ := hp
    obtain ⟨tt, v1, v2, rfl, htt, rfl, e1, e2⟩ := hx
    injection e1 with e1
    subst e1
    obtain ⟨t, k, et, ek, rfl, ht⟩ := (rw0.keep sm).at e2
    have st := same_new (o := .tup [V.int (i : Int), V.ref t]) htt
    refine ⟨tt, _, rfl, SqT.of upd_same, rfl, _, _, rfl, _, _, rfl, rfl, ?_⟩
    refine ⟨rfl, ⟨.ref t, rfl, t, _, 0, .str k.wd, rfl, rfl, SqT.of (st _ _ ht), row_0 k, rfl, ?_⟩⟩
    have stp : spotsN ks (i + 1) = spotsN ks i ++ (if ks[i]? = some .cho then [i] else []) := rfl
    have cho : (V.str k.wd = V.str ("choice" : Str)) ↔ ks[i]? = some .cho := by
      rw [ek]
      cases k
      · exact ⟨fun h => absurd (V.str.inj h) (show ¬ (("cell" : Str) = "choice") by decide), fun h => (nomatch h)⟩
      · exact ⟨fun h => absurd (V.str.inj h) (show ¬ (("log" : Str) = "choice") by decide), fun h => (nomatch h)⟩
      · exact ⟨fun h => absurd (V.str.inj h) (show ¬ (("failure" : Str) = "choice") by decide), fun h => (nomatch h)⟩
      · exact ⟨fun _ => rfl, fun _ => rfl⟩
    have d2 := st _ _ ed
    have s2 := sm.trans st
    refine ⟨_, rfl, ite2 (fun e => ?_) (fun e => ?_)⟩
    · refine ⟨.int (i : Int), rfl, _, d2, ?_, same_over hD s2, ?_⟩
      · have := spotsN_len ks i
        rw [List.length_map] at hi
        rw [List.length_map, sizeLine_eq]
        have := rw0.len
        omega
      · rw [upd_same, stp, if_pos (cho.mp (of_decide_eq_true e)), List.map_append]
        rfl
    · refine ⟨s2, ?_⟩
      rw [stp, if_neg (fun h => e (decide_eq_true (cho.mpr h))), List.append_nil]
      exact d2
  · obtain ⟨sm, ed⟩ := hp
    rw [List.length_map, rw0.len] at ed
    exact q D4 H1 sm ed
theorem ri1 (hu : (XRi P w K mg base f cdv A0 outer s H0 E).A.units < cLine) : ∃ t, PS (XRi P w K mg base f cdv A0 outer s H0 E) (inRi 1) t ∧ ∀ (a l d : Addr) (ks : List HD) (D : Ends) (H : Hp), RowL H l ks → AllR ks → (ks.map HD.nm).Nodup → H d = some (.lst ((spotsN ks ks.length).map fun (i : Nat) => V.int (i : Int))) →
    (∀ lo li H', Same' H H' → RowL H' lo (ks.take (chAt ks)) → RowL H' li (ks.drop (chAt ks)) → D.nx (stR a l none none (some (.ref d)) (some (.ref lo)) (some (.ref li)) none none) H') → t D (stR a l none none (some (.ref d)) none none none none) H := by
  refine ⟨_, ps_asg (pe_ifExp (pt_cmpR (op_neNil hu) (pv 4) (pe_lst pa_nil) (nomark _)) (pe_tup (pa_cons (pe_slice sl_list (pv 1) po_none (po_some (pe_ix ix_list (pv 4) pe_int (fun _ _ => rfl)))) (pa_cons (pe_slice sl_list (pv 1) (po_some (pe_ix ix_list (pv 4) pe_int (fun _ _ => rfl))) po_none) pa_nil)))
    (pe_tup (pa_cons (pe_lst pa_nil) (pa_cons (pv 1) pa_nil)))) (pg_tup (n := 2) rfl (pgs_cons (pg_name (i := 5) scRi.nd rfl (.inl rfl)) (pgs_cons (pg_name (i := 6) scRi.nd rfl (.inl rfl)) pgs_nil))), fun a l d ks D H rl hR nd ed q => ?_⟩
  refine ⟨.ref d, rfl, by show 0 ≤ sizeLine; decide, fun e he => ⟨d, e, _, rfl, rfl, same_new he _ _ ed, upd_same, _, rfl, ?_⟩⟩
  have s1 := same_new (o := .lst []) he
  have r1 := rl.keep s1
  have ed1 := s1 _ _ ed
  generalize upd H e (.lst []) = H1 at s1 r1 ed1 ⊢
  rcases spots_ch hR nd with ⟨h1, h2⟩ | ⟨h1, h2⟩
  · rw [h1]
    refine iteF ?_
    refine ⟨by show 0 ≤ sizeLine; decide, fun u hu' => ⟨.ref l, rfl, by show 2 ≤ sizeLine; decide, fun tt htt => ?_⟩⟩
    have s2 := same_new (o := .lst []) hu'
    have s3 := same_new (o := .tup [V.ref u, V.ref l]) htt
    refine ⟨tt, _, rfl, SqT.of upd_same, rfl, _, _, rfl, _, _, rfl, rfl, ?_⟩
    rw [h2] at q
    refine q u l _ (s1.trans (s2.trans s3)) ⟨[], s3 _ _ upd_same, .nil⟩ (r1.keep (s2.trans s3))
  · rw [h1] at ed1 ⊢
    refine iteT ?_
    refine ⟨.ref l, rfl, .ref d, rfl, d, _, 0, .int (chAt ks : Nat), rfl, rfl, SqL.of ed1, rfl, (chAt ks : Nat), rfl, ?_⟩
    refine rd_to r1 fun u H2 s2 r2 => ?_
    refine ⟨.ref l, rfl, .ref d, rfl, d, _, 0, .int (chAt ks : Nat), rfl, rfl, SqL.of (s2 _ _ ed1), rfl, (chAt ks : Nat), rfl, ?_⟩
    unfold tNoPart
    dsimp only
    refine rd_from (r1.keep s2) fun u2 H3 s3 r3 => ⟨by show 2 ≤ sizeLine; decide, fun tt htt => ?_⟩
    have s4 := same_new (o := .tup [V.ref u, V.ref u2]) htt
    refine ⟨tt, _, rfl, SqT.of upd_same, rfl, _, _, rfl, _, _, rfl, rfl, ?_⟩
    exact q u u2 _ (s1.trans (s2.trans (s3.trans s4))) (r2.keep (s3.trans s4)) (r3.keep s4)
end
end My
namespace My
open PySem PySem.Spec PyProof.Rows L2
def keepW : List Str := ["cell", "log"]
def failW : List Str := ["failure"]
theorem wd_p : ((decide (("cell" : Str) ∈ keepW) = true ∧ decide (("log" : Str) ∈ keepW) = true) ∧ decide (("failure" : Str) ∈ keepW) = false ∧ decide (("choice" : Str) ∈ keepW) = false) ∧ (decide (("cell" : Str) ∈ failW) = false ∧ decide (("log" : Str) ∈ failW) = false) ∧ decide (("failure" : Str) ∈ failW) = true ∧ decide (("choice" : Str) ∈ failW) = false := by decide +kernel
theorem keepW_p (k : HD) : decide (k.wd ∈ keepW) = isKeep k.ix := by
  cases k
  · exact wd_p.1.1.1
  · exact wd_p.1.1.2
  · exact wd_p.1.2.1
  · exact wd_p.1.2.2
theorem failW_p (k : HD) : decide (k.wd ∈ failW) = isFail k.ix := by
  cases k
  · exact wd_p.2.1.1
  · exact wd_p.2.1.2
  · exact wd_p.2.2.1
  · exact wd_p.2.2.2
theorem names_nd {p : Nat → Bool} {ks : List HD} (nd : (ks.map HD.nm).Nodup) : (namesOf p ks).Nodup := by
  unfold namesOf
  exact List.Nodup.sublist (List.filter_sublist.map HD.nm) nd
theorem nd_take {ks : List HD} (nd : (ks.map HD.nm).Nodup) (j : Nat) : ((ks.take j).map HD.nm).Nodup := List.Nodup.sublist ((List.take_sublist j ks).map HD.nm) nd
theorem nd_drop {ks : List HD} (nd : (ks.map HD.nm).Nodup) (j : Nat) : ((ks.drop j).map HD.nm).Nodup := List.Nodup.sublist ((List.drop_sublist j ks).map HD.nm) nd
theorem names_ok {p : Nat → Bool} {ks : List HD} (hR : AllR ks) : ∀ z ∈ namesOf p ks, z.length ≤ 8 ∧ PyData.strOk z = true := fun z hz => by
  unfold namesOf at hz
  obtain ⟨k, hk, rfl⟩ := List.mem_map.mp hz
  obtain ⟨h1, _, h2⟩ := rows_nm k (hR k (List.mem_filter.mp hk).1)
  exact ⟨h1, h2⟩
theorem asc_shw {p : Nat → Bool} {ks : List HD} {y : List Str} (hR : AllR ks) (few : ks.length < 64) (a : Asc (namesOf p ks) y) : y.length ≤ 63 ∧ ∀ z ∈ y, z.length ≤ 8 ∧ PyData.strOk z = true := by
  have h := nodup_len y _ a.nd fun z hz => (a.mem z).mp hz
  have h2 := namesOf_len p ks
  exact ⟨by omega, fun z hz => names_ok hR z ((a.mem z).mp hz)⟩
theorem AllR.take {ks : List HD} (h : AllR ks) (j : Nat) : AllR (ks.take j) := fun k hk => h k (List.mem_of_mem_take hk)
theorem AllR.drop {ks : List HD} (h : AllR ks) (j : Nat) : AllR (ks.drop j) := fun k hk => h k (List.mem_of_mem_drop hk)
section
variable {P : Program} {w : World} {K : PySem.W.Frag} {mg : Str → Option Value} {base : Heap}
variable {A : A4} {C fN fT fB fK : Addr} {dN dT' dB dK : FuncData} {f : Addr} {cdv : Value} {A0 : Around} {outer : List Env} {s : Shared} {H0 : Hp} {E : XK}
theorem ri2 (Y : RiK P w K mg base A C fN fT fB fK dN dT' dB dK) : ∃ t, PS (XRi P w K mg base f cdv A0 outer s H0 E) (inRi 2) t ∧ ∀ (a l dx tt n p1 p2 p3 p4 : Addr) (ks : List HD) (as ps : List Addr) (y1 y2 y3 ys : List Str) (os : List Nat) (z4 z5 z6 : Option V) (D : Ends) (H : Hp), Stk A C H a ks dx tt n p1 p2 p3 p4 as ps y1 y2 y3 ys os →
    (∀ d H', Same' H H' → H' d = some (.lst [.ref p1, .ref p2, .ref p3]) → D.nx (stR a l none none z4 z5 z6 (some (.ref d)) none) H') → t D (stR a l none none z4 z5 z6 none none) H := by
  refine ⟨_, ps_set (i := 7) scRi.nd rfl (.inl rfl) (pe_lst (pa_cons (pe_fld (pv 0) (by rfl)) (pa_cons (pe_fld (pv 0) (by rfl)) (pa_cons (pe_fld (pv 0) (by rfl)) pa_nil)))), fun a l dx tt n p1 p2 p3 p4 ks as ps y1 y2 y3 ys os z4 z5 z6 D H st q => ?_⟩
  refine ⟨.ref a, rfl, a, C, dx, _, .ref p1, rfl, st.o, Y.SC.c, Y.SC.no _ (by simp), rfl, .ref a, rfl, a, C, dx, _, .ref p2, rfl, st.o, Y.SC.c, Y.SC.no _ (by simp), rfl, .ref a, rfl, a, C, dx, _, .ref p3, rfl, st.o, Y.SC.c, Y.SC.no _ (by simp), rfl, by show 3 ≤ sizeLine; decide, fun d hd => ?_⟩
  exact q d _ (same_new hd) upd_same
/-- the names of a part of rows -/
def NmA (H : Hp) (d : Addr) (p : Nat → Bool) (ks : List HD) : Prop := ∃ ys : List Str, ys.Perm (namesOf p ks) ∧ sortedS ys = true ∧ H d = some (.tup (ys.map V.str))
theorem NmA.keep {H H' : Hp} {d : Addr} {p : Nat → Bool} {ks : List HD} (h : NmA H d p ks) (s : Same' H H') : NmA H' d p ks := let ⟨ys, a, b, c⟩ := h; ⟨ys, a, b, s _ _ c⟩
theorem ri3 (Y : RiK P w K mg base A C fN fT fB fK dN dT' dB dK) (hr : Room 1 (XRi P w K mg base f cdv A0 outer s H0 E).A) : ∃ t, PS (XRi P w K mg base f cdv A0 outer s H0 E) (inRi 3) t ∧ ∀ (a l lo li : Addr) (k1 k2 : List HD) (z4 z7 : Option V) (D : Ends) (H : Hp), RowL H lo k1 → RowL H li k2 → k1.length < 64 → k2.length < 64 →
    (∀ d q1 q2 q3 H', Same' H H' → NmA H' q1 isKeep k1 → NmA H' q2 isKeep k2 → NmA H' q3 isFail k1 → H' d = some (.lst [.ref q1, .ref q2, .ref q3]) → D.nx (stR a l none none z4 (some (.ref lo)) (some (.ref li)) z7 (some (.ref d))) H') → t D (stR a l none none z4 (some (.ref lo)) (some (.ref li)) z7 none) H := by
  refine ⟨_, ps_set (i := 8) scRi.nd rfl (.inl rfl) (pe_lst (pa_cons (pe_call (Y.NG isKeep) hr (by rfl) Y.Ng Y.Nf.kp Y.Nb .nil pass0 (pa_cons (pv 5) (pa_cons (pe_tup (pa_cons pe_str (pa_cons pe_str pa_nil))) pa_nil)))
    (pa_cons (pe_call (Y.NG isKeep) hr (by rfl) Y.Ng Y.Nf.kp Y.Nb .nil pass0 (pa_cons (pv 6) (pa_cons (pe_tup (pa_cons pe_str (pa_cons pe_str pa_nil))) pa_nil)))
    (pa_cons (pe_call (Y.NG isFail) hr (by rfl) Y.Ng Y.Nf.kp Y.Nb .nil pass0 (pa_cons (pv 5) (pa_cons (pe_tup (pa_cons pe_str pa_nil)) pa_nil))) pa_nil)))), fun a l lo li k1 k2 z4 z7 D H r1 r2 n1 n2 q => ?_⟩
  refine ⟨.ref lo, rfl, by show 2 ≤ sizeLine; decide, fun w1 hw1 => ⟨lo, w1, k1, keepW, rfl, r1.keep (same_new hw1), n1, SqT.of upd_same, keepW_p, fun d1 u1 H1 pm1 so1 s1 e1 => ?_⟩⟩
  have s01 := (same_new (o := .tup (keepW.map V.str)) hw1).trans s1
  refine ⟨.ref li, rfl, by show 2 ≤ sizeLine; decide, fun w2 hw2 => ⟨li, w2, k2, keepW, rfl, (r2.keep s01).keep (same_new hw2), n2, SqT.of upd_same, keepW_p, fun d2 u2 H2 pm2 so2 s2 e2 => ?_⟩⟩
  have s12 := (same_new (o := .tup (keepW.map V.str)) hw2).trans s2
  refine ⟨.ref lo, rfl, by show 1 ≤ sizeLine; decide, fun w3 hw3 => ⟨lo, w3, k1, failW, rfl, (r1.keep (s01.trans s12)).keep (same_new hw3), n1, SqT.of upd_same, failW_p, fun d3 u3 H3 pm3 so3 s3 e3 => ?_⟩⟩
  have s23 := (same_new (o := .tup (failW.map V.str)) hw3).trans s3
  have a1 : NmA H1 d1 isKeep k1 := ⟨u1, pm1, so1, e1⟩
  have a2 : NmA H2 d2 isKeep k2 := ⟨u2, pm2, so2, e2⟩
  have a3 : NmA H3 d3 isFail k1 := ⟨u3, pm3, so3, e3⟩
  refine ⟨by show 3 ≤ sizeLine; decide, fun d hd => ?_⟩
  have s4 := same_new (o := .lst [V.ref d1, V.ref d2, V.ref d3]) hd
  exact q d d1 d2 d3 _ (s01.trans (s12.trans (s23.trans s4))) (a1.keep (s12.trans (s23.trans s4))) (a2.keep (s23.trans s4)) (a3.keep s4) upd_same
theorem Prs.take1 {H : Hp} {ps : List Addr} {L : List (Str × Str)} {i : Nat} {z : Str × Str} {a : Addr} (h : Prs H ps (L.take i)) (e : L[i]? = some z) (ha : H a = some (.tup [.str z.1, .str z.2])) : Prs H (ps ++ [a]) (L.take (i + 1)) := by
  rw [List.take_add_one, e]
  exact h.add ha
theorem ri4 (Y : RiK P w K mg base A C fN fT fB fK dN dT' dB dK) (hr : Room 2 (XRi P w K mg base f cdv A0 outer s H0 E).A) (hg : (XRi P w K mg base f cdv A0 outer s H0 E).A.guards = some []) : ∃ t, PS (XRi P w K mg base f cdv A0 outer s H0 E) (inRi 4) t ∧
    ∀ (a l td du : Addr) (ks : List HD) (d : PyData) (z4 z5 z6 : Option V) (D : Ends) (H : Hp), StkAt A C H a ks → RowL H l ks → Good ks → Dp K H (.ref td) d → Dp K H (.ref du) d → Fine d → d.hasDict = false →
    (∀ H', Same' H H' → D.nx (stR a l none none z4 z5 z6 (some (.ref td)) (some (.ref du))) H') → t D (stR a l none none z4 z5 z6 (some (.ref td)) (some (.ref du))) H := by
  have hu : (XRi P w K mg base f cdv A0 outer s H0 E).A.units + 64 < cLine := by
    have h := hr.un
    omega
  refine ⟨_, ps_if (PW.pt (pw_or (pt_cmpR op_ne (pe_callB (call_reprD hg hu) (by rfl) Y.T.repr (by decide +kernel) (pa_cons (pv 7) pa_nil)) (pe_callB (call_reprD hg hu) (by rfl) Y.T.repr (by decide +kernel) (pa_cons (pv 8) pa_nil)) (nomark _))
      (pw_or1 (pt_cmpR op_ne (pe_callB (call_reprD hg hu) (by rfl) Y.T.repr (by decide +kernel) (pa_cons (pe_fld (pv 0) (by rfl)) pa_nil))
        (pe_callB (call_reprD hg hu) (by rfl) Y.T.repr (by decide +kernel) (pa_cons (pe_callTy call_tuple_of (by rfl) Y.T.tuple (by decide +kernel) (pa_cons
          (pe_lc (own := [("_law_line", 9)]) (g := gName 9) (tt := tYes) rfl scRi.nd (pi_list (pe_call Y.Tw.G hr (by rfl) Y.Tw.g Y.Tw.F.kp Y.Tw.b .nil pass0 (pa_cons (pv 1) pa_nil))) (blkOk_by (N := nRi) (sc := defScope sRight) (by decide +kernel)) (fun _ _ _ _ _ => pg_name (i := 9) scRi.nd rfl (Or.inl rfl)) (fun _ _ _ _ _ => pts_nil)
            (fun _ _ _ _ _ => pe_callTy (show CallR _ (.type "tuple") (fun xs H Q => ∃ p ys, xs = [.ref p] ∧ ((SqL K H p ys ∧ ∀ l, H l = none → Q (.ref l) (upd H l (.tup ys))) ∨ (SqT K H p ys ∧ Q (.ref p) H))) from call_tuple_of) (by rfl) Y.T.tuple (by decide +kernel) (pa_cons (pe_split (pv 9) pe_str) pa_nil))) pa_nil)) pa_nil)) (nomark _)))))
      (pss_one (ps_ret pe_bl)) pss_nil, fun a l td du ks d z4 z5 z6 D H st rl good h1 h2 fine nd q => ?_⟩
  refine ⟨.ref td, rfl, td, d, rfl, h1, nd, fine, .ref du, rfl, du, d, rfl, h2, nd, fine, rfl, false, by rw [decide_eq_true rfl]; rfl, iteF ?_⟩
  obtain ⟨dx, t, n, p1, p2, p3, p4, as, ps, y1, y2, y3, ys, os, st⟩ := st
  have hR := good.all
  have ndn := good.few.nd
  have hos := st.od.lt
  have okL := okZ_mem hR hos
  have few := good.few.n
  have ol : os.length ≤ 63 := by
    rw [st.od.len]
    have := nodup_len ys _ st.ay.nd fun z hz => (st.ay.mem z).mp hz
    rw [List.length_map] at this
    omega
  have pl : (pairsL ks os os).length ≤ 63 * 63 := Nat.le_trans (pairsL_len ks os os) (Nat.mul_le_mul ol ol)
  have inP : ∀ z ∈ pairsL ks os os, (z.1 ∈ pool13 ∧ z.2 ∈ pool13) ∧ z.1 ∈ ks.map HD.nm ∧ z.2 ∈ ks.map HD.nm := fun z hz => memP_in hR ((mem_pairsL ndn st.ay st.od z).mp hz)
  have eT : (pairsL ks os os).map prD2 = ((pairsL ks os os).map fun z => [z.1, z.2]).map dT := by
    rw [List.map_map]
    rfl
  have shw : Shw (63 * 63) 2 ((pairsL ks os os).map fun z => [z.1, z.2]) := by
    refine ⟨by rw [List.length_map]; exact pl, fun ys hy => ?_⟩
    obtain ⟨z, hz, rfl⟩ := List.mem_map.mp hy
    refine ⟨Nat.le_refl _, fun x hx => ?_⟩
    obtain ⟨_, n1, n2⟩ := inP z hz
    have ok : ∀ x ∈ ks.map HD.nm, x.length ≤ 8 ∧ PyData.strOk x = true := fun x hx => by
      obtain ⟨k, hk, rfl⟩ := List.mem_map.mp hx
      obtain ⟨r1, _, r2⟩ := rows_nm k (hR k hk)
      exact ⟨r1, r2⟩
    rcases List.mem_cons.mp hx with e | m
    · rw [e]; exact ok _ n1
    · rw [List.mem_singleton.mp m]; exact ok _ n2
  obtain ⟨_, fin, ndd⟩ := shw_fine shw (by decide)
  rw [← eT] at fin ndd
  refine ⟨.ref a, rfl, a, C, dx, _, .ref p4, rfl, st.o, Y.SC.c, Y.SC.no _ (by simp), rfl, p4, .tuple ((pairsL ks os os).map prD2), rfl, .tup (SqT.of st.s4) (prs_dp st.pr), ndd, fin, ?_⟩
  refine ⟨.ref l, rfl, l, ks, rfl, rl, good.n, hR, fun ln ls H1 pm so s1 e1 => ?_⟩
  have els := lines_one hR ndn st.ay st.od pm so
  rw [els, List.map_map] at e1
  refine ⟨ln, rfl, ⟨_, SqL.of e1⟩, fun D2 hD => ?_⟩
  refine lc_it (walk_list (K := K) (a := ln) (xs := (pairsL ks os os).map (V.str ∘ lineZ))) (fun i H' => Same' H1 H' ∧ ∃ qs : List Addr, H' D2 = some (.lst (qs.map V.ref)) ∧ Prs H' qs ((pairsL ks os os).take i)) ⟨same_new hD, [], upd_same, ⟨rfl, fun i a z e => by simp at e⟩⟩ (fun i H' _ hp => SqL.of (hp.1 _ _ e1)) (fun i x H2 H3 hi hp hx => ?_) (fun H2 hp => ?_)
  · obtain ⟨sm, qs, ed, pr⟩ := hp
    obtain ⟨rfl, e2⟩ := hx
    rw [List.length_map] at hi
    have ez : (pairsL ks os os)[i]? = some (pairsL ks os os)[i] := List.getElem?_eq_getElem hi
    rw [List.getElem?_map, ez] at e2
    cases e2
    obtain ⟨⟨m1, m2⟩, _⟩ := inP _ (List.getElem_mem hi)
    obtain ⟨sp, sl⟩ := line_split _ m1 _ m2
    refine ⟨rfl, ⟨.str _, rfl, ⟨_, rfl⟩, _, (" " : Str), rfl, rfl, rfl, by rw [sizeLine_eq]; have : (lineZ (pairsL ks os os)[i]).length ≤ 20 := sl; omega, fun u hu' => ?_⟩⟩
    have su := same_new (o := .lst ((Txt.split (lineZ (pairsL ks os os)[i]) " ").map V.str)) hu'
    rw [sp] at su ⊢
    refine ⟨u, _, rfl, .inl ⟨SqL.of upd_same, fun tt htt => ?_⟩⟩
    have stt := same_new (o := .tup ([(pairsL ks os os)[i].1, (pairsL ks os os)[i].2].map V.str)) htt
    have s3 := su.trans stt
    have ed3 := s3 _ _ ed
    have ntt : tt ≠ D2 := (ne_of_none (su _ _ ed) htt).symm
    refine ⟨_, ed3, ?_, same_over hD (sm.trans s3), qs ++ [tt], ?_, ?_⟩
    · have := pr.len
      rw [List.length_take] at this
      rw [List.length_map, sizeLine_eq]
      omega
    · rw [upd_same, List.map_append]
      rfl
    · have pr3 := pr.keep s3
      refine Prs.take1 ⟨pr3.len, fun j b z e3 e4 => ?_⟩ ez (by rw [upd_ne ntt]; exact upd_same)
      have e5 := pr3.is j b z e3 e4
      rw [upd_ne (fun z => by rw [z, ed3] at e5; cases e5)]
      exact e5
  · obtain ⟨sm, qs, ed, pr⟩ := hp
    rw [List.take_of_length_le (by rw [List.length_map]; exact Nat.le_refl _)] at pr
    refine ⟨D2, _, rfl, .inl ⟨SqL.of ed, fun T hT => ?_⟩⟩
    have sT := same_new (o := .tup (qs.map V.ref)) hT
    refine ⟨T, .tuple ((pairsL ks os os).map prD2), rfl, .tup (SqT.of upd_same) (prs_dp (pr.keep sT)), ndd, fin, rfl, false, by rw [decide_eq_true rfl]; rfl, iteF ?_⟩
    exact q _ (s1.trans (sm.trans sT))
end
end My
namespace My
open PySem PySem.Spec PyProof.Rows L2
theorem first_of {ks : List HD} (nd : (ks.map HD.nm).Nodup) {i : Nat} {k : HD} (h : ks[i]? = some k) : First ks k.nm i := by
  have e : (ks.map HD.nm)[i]? = some k.nm := by rw [List.getElem?_map, h]; rfl
  refine ⟨e, fun m hm q => ?_⟩
  obtain ⟨l1, g1⟩ := List.getElem?_eq_some_iff.mp q
  obtain ⟨l2, g2⟩ := List.getElem?_eq_some_iff.mp e
  exact (List.pairwise_iff_getElem.mp nd) m i l1 l2 hm (g1.trans g2.symm)
section
variable {P : Program} {w : World} {K : PySem.W.Frag} {mg : Str → Option Value} {base : Heap}
variable {A : A4} {C fN fT fB fK : Addr} {dN dT' dB dK : FuncData} {f : Addr} {cdv : Value} {A0 : Around} {outer : List Env} {s : Shared} {H0 : Hp} {E : XK}
def lpRi (i : Nat) : Stmt := match inRi 5 with
  | .For _ _ (.If _ b _ _ :: _) _ _ => b.getD i (.Pass ⟨0, 0, 0, 0⟩)
  | _ => .Pass ⟨0, 0, 0, 0⟩
theorem rj0 (Y : RiK P w K mg base A C fN fT fB fK dN dT' dB dK) (hr : Room 3 (XRi P w K mg base f cdv A0 outer s H0 E).A) : ∃ t, PS (XRi P w K mg base f cdv A0 outer s H0 E) (lpRi 0) t ∧ ∀ (a l r : Addr) (ks : List HD) (z : Str) (i : Nat) (z2 z4 z5 z6 z7 z8 : Option V) (D : Ends) (H : Hp), StkAt A C H a ks → ks.length < 64 → (ks.map HD.nm).Nodup → H r = some (.tup (HD.fail z).row) → ks[i]? = some (.fail z) →
    (∀ d d1 d2 u1 u2 H', Same' H H' → Asc (namesOf isKeep (ks.drop i)) u1 → Asc (namesOf isKeep (ks.take i)) u2 → H' d1 = some (.tup (u1.map V.str)) → H' d2 = some (.tup (u2.map V.str)) → H' d = some (.lst [.ref d1, .ref d2]) → D.nx (stR a l z2 (some (.ref r)) z4 z5 z6 (some (.ref d)) z8) H') →
      t D (stR a l z2 (some (.ref r)) z4 z5 z6 z7 z8) H := by
  refine ⟨_, ps_set (i := 7) scRi.nd rfl (.inl rfl) (pe_lst (pa_cons (pe_meth (pv 0) Y.SC.c Y.Bk.m Y.Bk.G hr Y.Bk.b .nil pass0 (pa_cons (pe_ix ix_tup (pv 3) pe_int (fun _ _ => rfl)) pa_nil))
    (pa_cons (pe_methAK (pv 0) Y.KG hr Y.Kb pass0 (pk_cons (pe_ix ix_tup (pv 3) pe_int (fun _ _ => rfl)) pk_nil)) pa_nil))), fun a l r ks z i z2 z4 z5 z6 z7 z8 D H st few nd hrow ek q => ?_⟩
  have fst := first_of nd ek
  obtain ⟨dx, t, n, p1, p2, p3, p4, as, ps, y1, y2, y3, ys, os, st'⟩ := id st
  refine ⟨.ref a, rfl, a, dx, _, rfl, st'.o, rfl, .ref r, rfl, r, _, 1, .str z, rfl, rfl, SqT.of hrow, rfl, a, ks, z, i, rfl, st, few, fst, ek, fun d1 u1 H1 as1 s1 e1 => ?_⟩
  refine ⟨.ref a, rfl, a, C, dx, _, rfl, s1 _ _ st'.o, Y.SC.c, Y.Km, rfl, .ref r, rfl, r, _, 1, .str z, rfl, rfl, SqT.of (s1 _ _ hrow), rfl, a, ks, z, i, rfl, st.keep s1, few, fst, ek, fun d2 u2 H2 as2 s2 e2 => ?_⟩
  refine ⟨by show 2 ≤ sizeLine; decide, fun d hd => ?_⟩
  have s3 := same_new (o := .lst [V.ref d1, V.ref d2]) hd
  exact q d d1 d2 u1 u2 _ (s1.trans (s2.trans s3)) as1 as2 (s3 _ _ (s2 _ _ e1)) (s3 _ _ e2) upd_same
theorem rj1 (Y : RiK P w K mg base A C fN fT fB fK dN dT' dB dK) (hr : Room 2 (XRi P w K mg base f cdv A0 outer s H0 E).A) (hg : (XRi P w K mg base f cdv A0 outer s H0 E).A.guards = some []) : ∃ t, PS (XRi P w K mg base f cdv A0 outer s H0 E) (lpRi 1) t ∧
    ∀ (a l d d1 d2 : Addr) (ks : List HD) (u1 u2 : List Str) (i : Nat) (z3 z4 z5 z6 z8 : Option V) (D : Ends) (H : Hp), RowL H l ks → Good ks → Asc (namesOf isKeep (ks.drop i)) u1 → Asc (namesOf isKeep (ks.take i)) u2 → H d1 = some (.tup (u1.map V.str)) → H d2 = some (.tup (u2.map V.str)) → H d = some (.lst [.ref d1, .ref d2]) →
    (∀ H', Same' H H' → D.nx (stR a l (some (.int (i : Nat))) z3 z4 z5 z6 (some (.ref d)) z8) H') → t D (stR a l (some (.int (i : Nat))) z3 z4 z5 z6 (some (.ref d)) z8) H := by
  have hu : (XRi P w K mg base f cdv A0 outer s H0 E).A.units + 64 < cLine := by
    have h := hr.un
    omega
  refine ⟨_, ps_if (pt_cmpR op_ne (pe_callB (call_reprD hg hu) (by rfl) Y.T.repr (by decide +kernel) (pa_cons (pv 7) pa_nil)) (pe_callB (call_reprD hg hu) (by rfl) Y.T.repr (by decide +kernel) (pa_cons (pe_lst
      (pa_cons (pe_call (Y.NG isKeep) (hr.mono (by decide)) (by rfl) Y.Ng Y.Nf.kp Y.Nb .nil pass0 (pa_cons (pe_slice sl_list (pv 1) (po_some (pv 2)) po_none) (pa_cons (pe_tup (pa_cons pe_str (pa_cons pe_str pa_nil))) pa_nil)))
      (pa_cons (pe_call (Y.NG isKeep) (hr.mono (by decide)) (by rfl) Y.Ng Y.Nf.kp Y.Nb .nil pass0 (pa_cons (pe_slice sl_list (pv 1) po_none (po_some (pv 2))) (pa_cons (pe_tup (pa_cons pe_str (pa_cons pe_str pa_nil))) pa_nil))) pa_nil))) pa_nil)) (nomark _))
    (pss_one (ps_ret pe_bl)) pss_nil, fun a l d d1 d2 ks u1 u2 i z3 z4 z5 z6 z8 D H rl good as1 as2 e1 e2 ed q => ?_⟩
  have hR := good.all
  have few := good.few.n
  have nd := good.few.nd
  have l1 : (ks.drop i).length < 64 := by rw [List.length_drop]; omega
  have l2 : (ks.take i).length < 64 := by rw [List.length_take]; omega
  have shw : Shw 2 63 [u1, u2] := by
    refine ⟨Nat.le_refl _, fun ys hy => ?_⟩
    rcases List.mem_cons.mp hy with e | m
    · rw [e]; exact asc_shw (hR.drop i) l1 as1
    · rw [List.mem_singleton.mp m]; exact asc_shw (hR.take i) l2 as2
  obtain ⟨⟨fin, ndd⟩, _⟩ := shw_fine shw (by decide)
  refine ⟨.ref d, rfl, d, .list ([u1, u2].map dT), rfl, .lst (SqL.of ed) (.cons (dp_dT e1) (.cons (dp_dT e2) .nil)), ndd, fin, ?_⟩
  refine ⟨.ref l, rfl, .int (i : Nat), rfl, (i : Nat), rfl, ?_⟩
  unfold tNoPart
  dsimp only
  refine rd_from rl fun la H1 s1 r1 => ⟨by show 2 ≤ sizeLine; decide, fun w1 hw1 => ⟨la, w1, _, keepW, rfl, r1.keep (same_new hw1), l1, SqT.of upd_same, keepW_p, fun q1 v1 H2 pm1 so1 s2 f1 => ?_⟩⟩
  have s12 := s1.trans ((same_new (o := .tup (keepW.map V.str)) hw1).trans s2)
  refine ⟨.ref l, rfl, .int (i : Nat), rfl, (i : Nat), rfl, ?_⟩
  refine rd_to (rl.keep s12) fun lb H3 s3 r3 => ⟨by show 2 ≤ sizeLine; decide, fun w2 hw2 => ⟨lb, w2, _, keepW, rfl, r3.keep (same_new hw2), l2, SqT.of upd_same, keepW_p, fun q2 v2 H4 pm2 so2 s4 f2 => ?_⟩⟩
  have s34 := s3.trans ((same_new (o := .tup (keepW.map V.str)) hw2).trans s4)
  refine ⟨by show 2 ≤ sizeLine; decide, fun dd hdd => ?_⟩
  have s5 := same_new (o := .lst [V.ref q1, V.ref q2]) hdd
  have eq1 := asc_one (names_nd (nd_drop nd i)) as1 pm1 so1
  have eq2 := asc_one (names_nd (nd_take nd i)) as2 pm2 so2
  subst eq1
  subst eq2
  refine ⟨dd, .list ([u1, u2].map dT), rfl, .lst (SqL.of upd_same) (.cons (dp_dT (s5 _ _ (s34 _ _ f1))) (.cons (dp_dT (s5 _ _ f2)) .nil)), ndd, fin, rfl, false, by rw [decide_eq_true rfl]; rfl, iteF ?_⟩
  exact q _ (s12.trans (s34.trans s5))
theorem ok_right {fd : FuncData} (F : Fun K "_law_right" "_law_right" sRight f fd) (Y : RiK P w K mg base A C fN fT fB fK dN dT' dB dK) : FnG P w K mg base CX0 4 f fd ["_law_made_here", "_law_rows_here"] (spRight A C) := by
  refine okGn F scRi (fun vs H Q E h => ?_) (fun cdv A0 outer s H vs Q E hr hg h => ?_)
  · obtain ⟨a, l, ks, rfl, _⟩ := h
    rfl
  · obtain ⟨a, l, ks, rfl, st, rl, good, q⟩ := h
    obtain ⟨t0, h0, g0⟩ := ri0 (f := f) (cdv := cdv) (A0 := A0) (outer := outer) (s := s) (H0 := H) (E := E) Y
    obtain ⟨t1, h1, g1⟩ := ri1 (P := P) (w := w) (K := K) (mg := mg) (base := base) (f := f) (cdv := cdv) (A0 := A0) (outer := outer) (s := s) (H0 := H) (E := E) hr.units0
    obtain ⟨t2, h2, g2⟩ := ri2 (f := f) (cdv := cdv) (A0 := A0) (outer := outer) (s := s) (H0 := H) (E := E) Y
    obtain ⟨t3, h3, g3⟩ := ri3 (f := f) (cdv := cdv) (A0 := A0) (outer := outer) (s := s) (H0 := H) (E := E) Y (hr.mono (by decide))
    obtain ⟨t4, h4, g4⟩ := ri4 (f := f) (cdv := cdv) (A0 := A0) (outer := outer) (s := s) (H0 := H) (E := E) Y (hr.mono (by decide)) hg
    obtain ⟨t5, h5, g5⟩ := rj0 (f := f) (cdv := cdv) (A0 := A0) (outer := outer) (s := s) (H0 := H) (E := E) Y hr
    obtain ⟨t6, h6, g6⟩ := rj1 (f := f) (cdv := cdv) (A0 := A0) (outer := outer) (s := s) (H0 := H) (E := E) Y (hr.mono (by decide)) hg
    refine ⟨_, pss_cons h0 (pss_cons h1 (pss_cons h2 (pss_cons h3 (pss_cons h4 (pss_cons (ps_for PassesOwn.never rfl (pi_enum (by rfl) Y.T.enum (pa_cons (pv 1) pa_nil)) (pg_tup (n := 2) rfl (pgs_cons (pg_name (i := 2) scRi.nd rfl (.inl rfl)) (pgs_cons (pg_name (i := 3) scRi.nd rfl (.inl rfl)) pgs_nil)))
      (pss_one (ps_if (pt_cmpR op_eq (pe_ix ix_tup (pv 3) pe_int (fun _ _ => rfl)) pe_str (nomark _)) (pss_cons h5 (pss_one h6)) pss_nil))) (pss_one (ps_ret pe_bl))))))), ?_⟩
    have hR := good.all
    have nd := good.few.nd
    have few := good.few.n
    refine g0 a l ks _ H rl good.n fun d4 H1 s1 e1 => ?_
    refine g1 a l d4 ks _ H1 (rl.keep s1) hR nd e1 fun lo li H2 s2 r2 r3 => ?_
    have s02 := s1.trans s2
    obtain ⟨dx, t, n, p1, p2, p3, p4, as, ps, y1, y2, y3, ys, os, st'⟩ := id (st.keep s02)
    have c1 : (ks.take (chAt ks)).length < 64 := by rw [List.length_take]; omega
    have c2 : (ks.drop (chAt ks)).length < 64 := by rw [List.length_drop]; omega
    refine g2 a l dx t n p1 p2 p3 p4 ks as ps y1 y2 y3 ys os _ _ _ _ H2 st' fun td H3 s3 e3 => ?_
    refine g3 a l lo li _ _ _ _ _ H3 (r2.keep s3) (r3.keep s3) c1 c2 fun du q1 q2 q3 H4 s4 n1 n2 n3 e4 => ?_
    obtain ⟨v1, pm1, so1, f1⟩ := n1
    obtain ⟨v2, pm2, so2, f2⟩ := n2
    obtain ⟨v3, pm3, so3, f3⟩ := n3
    have eq1 := asc_one (names_nd (nd_take nd _)) st'.a1 pm1 so1
    have eq2 := asc_one (names_nd (nd_drop nd _)) st'.a2 pm2 so2
    have eq3 := asc_one (names_nd (nd_take nd _)) st'.a3 pm3 so3
    subst eq1
    subst eq2
    subst eq3
    have shw : Shw 3 63 [y1, y2, y3] := by
      refine ⟨Nat.le_refl _, fun ys hy => ?_⟩
      rcases List.mem_cons.mp hy with e | m
      · rw [e]; exact asc_shw (hR.take _) c1 st'.a1
      · rcases List.mem_cons.mp m with e | m
        · rw [e]; exact asc_shw (hR.drop _) c2 st'.a2
        · rw [List.mem_singleton.mp m]; exact asc_shw (hR.take _) c1 st'.a3
    obtain ⟨⟨fin, ndd⟩, _⟩ := shw_fine shw (by decide)
    have s34 := s3.trans s4
    have s04 := s02.trans s34
    refine g4 a l td du ks (.list ([y1, y2, y3].map dT)) _ _ _ _ H4 (st.keep s04) (rl.keep s04) good (.lst (SqL.of (s4 _ _ e3)) (.cons (dp_dT (s34 _ _ st'.s1)) (.cons (dp_dT (s34 _ _ st'.s2)) (.cons (dp_dT (s34 _ _ st'.s3)) .nil))))
      (.lst (SqL.of e4) (.cons (dp_dT f1) (.cons (dp_dT f2) (.cons (dp_dT f3) .nil)))) fin ndd fun H5 s5 => ?_
    have s05 := s04.trans s5
    obtain ⟨rs, el, rw0⟩ := (rl.keep s05).ex
    refine ⟨.ref l, rfl, l, rs.map V.ref, rfl, SqL.of el, ?_⟩
    refine for_it (walk_enum (K := K) (a := l) (xs := rs.map V.ref)) (fun i σ H' => Same' H5 H' ∧ ∃ (z2 z3 z7 : Option V), σ = stR a l z2 z3 (some (.ref d4)) (some (.ref lo)) (some (.ref li)) z7 (some (.ref du))) ⟨fun _ _ e => e, none, none, some (.ref td), rfl⟩ (fun i σ H' _ hp => SqL.of (hp.1 _ _ el)) (fun i x σ H6 H7 hi hp hy => ?_) (fun σ H6 hp => ?_)
    · obtain ⟨sm, z2, z3, z7, rfl⟩ := hp
      obtain ⟨tt, v1, v2, rfl, htt, rfl, e1, e2⟩ := hy
      injection e1 with e1
      subst e1
      obtain ⟨r, k, et, ek, rfl, ht⟩ := (rw0.keep sm).at e2
      have st2 := same_new (o := .tup [V.int (i : Int), V.ref r]) htt
      refine ⟨tt, _, rfl, SqT.of upd_same, rfl, _, _, rfl, _, _, rfl, rfl, ?_⟩
      have sm2 := sm.trans st2
      have ht2 := st2 _ _ ht
      generalize upd H6 tt (.tup [V.int (i : Int), V.ref r]) = H8 at *
      refine ⟨.ref r, rfl, r, _, 0, .str k.wd, rfl, rfl, SqT.of ht2, row_0 k, rfl, _, rfl, ite2 (fun e => ?_) (fun e => ?_)⟩
      · obtain ⟨z, rfl⟩ : ∃ z, k = .fail z := by
          have e := V.str.inj (of_decide_eq_true e)
          cases k with
          | cell n z => exact absurd e (show ¬ (("cell" : Str) = "failure") by decide)
          | log n => exact absurd e (show ¬ (("log" : Str) = "failure") by decide)
          | fail n => exact ⟨n, rfl⟩
          | cho => exact absurd e (show ¬ (("choice" : Str) = "failure") by decide)
        have s08 := s05.trans sm2
        refine g5 a l r ks z i (some (.int (i : Nat))) _ _ _ _ _ _ H8 (st.keep s08) few nd ht2 ek fun d d1 d2 u1 u2 H9 s9 as1 as2 f1 f2 fd' => ?_
        refine g6 a l d d1 d2 ks u1 u2 i _ _ _ _ _ _ H9 (rl.keep (s08.trans s9)) good as1 as2 f1 f2 fd' fun Ha sa => ?_
        exact ⟨sm2.trans (s9.trans sa), _, _, _, rfl⟩
      · exact ⟨sm2, _, _, _, rfl⟩
    · obtain ⟨sm, z2, z3, z7, rfl⟩ := hp
      exact q H6 (s05.trans sm)
end
end My
namespace My
open PySem PySem.Spec PyProof.Rows L2
/-! ### rows as data -/
def rowD : HD → PyData
  | .cell n z => .tuple [.str "cell", .str n, .int z]
  | .log n => .tuple [.str "log", .str n]
  | .fail n => .tuple [.str "failure", .str n]
  | .cho => .tuple [.str "choice", .str "choice"]
theorem dp_row {K : PySem.W.Frag} {H : Hp} {t : Addr} {k : HD} (h : H t = some (.tup k.row)) : Dp K H (.ref t) (rowD k) := by
  cases k with
  | cell n z => exact .tup (SqT.of h) (.cons (.str _) (.cons (.str _) (.cons (.int _) .nil)))
  | log n => exact .tup (SqT.of h) (.cons (.str _) (.cons (.str _) .nil))
  | fail n => exact .tup (SqT.of h) (.cons (.str _) (.cons (.str _) .nil))
  | cho => exact .tup (SqT.of h) (.cons (.str _) (.cons (.str _) .nil))
theorem rows_dp {K : PySem.W.Frag} {H : Hp} : ∀ {rs : List Addr} {ks : List HD}, Rws H rs ks → DpAll K H (rs.map V.ref) (ks.map rowD)
  | [], [], _ => .nil
  | [], _ :: _, h => absurd h.len (by simp)
  | _ :: _, [], h => absurd h.len (by simp)
  | a :: rs, k :: ks, h => .cons (dp_row (h.is 0 a k rfl rfl)) (rows_dp ⟨by simpa using h.len, fun i b y e1 e2 => h.is (i + 1) b y (by simpa using e1) (by simpa using e2)⟩)
theorem row_eqv : ∀ k ∈ rowsK, ∀ k2 ∈ rowsK, PyData.eqv (rowD k) (rowD k2) = decide (k = k2) := by
  have h : (rowsK.all fun k => rowsK.all fun k2 => PyData.eqv (rowD k) (rowD k2) == decide (k = k2)) = true := by decide +kernel
  intro k hk k2 hk2
  exact eq_of_beq (List.all_eq_true.mp (List.all_eq_true.mp h k hk) k2 hk2)
theorem row_shaped : ∀ k ∈ rowsK, (SeqAt.shaped (rowD k) = true ∧ (rowD k).canLay0 = true) ∧ (rowD k).depth ≤ 1 := by
  have h : (rowsK.all fun k => (SeqAt.shaped (rowD k) && (rowD k).canLay0) && decide ((rowD k).depth ≤ 1)) = true := by decide +kernel
  intro k hk
  have q := List.all_eq_true.mp h k hk
  rw [Bool.and_eq_true, Bool.and_eq_true, decide_eq_true_eq] at q
  exact q
theorem rows_shaped {ks : List HD} (hR : AllR ks) : SeqAt.shaped (.list (ks.map rowD)) = true := by
  have key : ∀ ks : List HD, AllR ks → PyData.canLayAll0 (ks.map rowD) = true ∧ PyData.depthAll (ks.map rowD) ≤ 1 := by
    intro ks
    induction ks with
    | nil => intro _; exact ⟨rfl, by decide⟩
    | cons k ks ih =>
      intro h
      obtain ⟨h1, h2⟩ := ih fun y hy => h y (List.mem_cons_of_mem _ hy)
      obtain ⟨⟨_, a⟩, b⟩ := row_shaped k (h k List.mem_cons_self)
      rw [List.map_cons]
      refine ⟨by simp [PyData.canLayAll0, a, h1], ?_⟩
      simp only [PyData.depthAll]
      omega
  obtain ⟨h1, h2⟩ := key ks hR
  unfold SeqAt.shaped
  rw [Bool.and_eq_true, decide_eq_true_eq]
  refine ⟨by simpa [PyData.canLay0] using h1, ?_⟩
  simp only [PyData.depth]
  omega
theorem rows_any {ks : List HD} (hR : AllR ks) {k : HD} (hk : k ∈ rowsK) : ((ks.map rowD).any fun z => PyData.eqv z (rowD k)) = decide (k ∈ ks) := by
  rw [List.any_map]
  by_cases h : k ∈ ks
  · rw [decide_eq_true h, List.any_eq_true]
    exact ⟨k, h, by simp [row_eqv k hk k hk]⟩
  · rw [decide_eq_false h, List.any_eq_false]
    intro y hy
    simp only [Function.comp, row_eqv y (hR y hy) k hk, decide_eq_true_eq]
    exact fun e => h (e ▸ hy)
def spIsPart : Sp := fun vs H Q _ => ∃ (l l2 : Addr) (ks ks2 : List HD), vs = [.ref l, .ref l2] ∧ RowL H l ks ∧ RowL H l2 ks2 ∧ ks.length ≤ 10 ∧ ks2.length ≤ 10 ∧ AllR ks ∧ AllR ks2 ∧ ∀ (r : Bool) (H' : Hp), (r = true ↔ LeP ks ks2) → Same' H H' → Q (.bl r) H'
section
variable {P : Program} {w : World} {K : PySem.W.Frag} {mg : Str → Option Value} {base : Heap}
abbrev nIP : List Str := ["_law_rows_here", "_law_others", "_law_row", "_law_line"]
theorem scIP : FnScope nIP ["_law_rows_here", "_law_others"] (defScope sIsPart) := ⟨rfl, rfl, rfl, by decide +kernel, rfl, by decide +kernel, by decide +kernel⟩
abbrev XIP (P : Program) (w : World) (K : PySem.W.Frag) (mg : Str → Option Value) (base : Heap) (f : Addr) (cdv : Value) (A : Around) (outer : List Env) (s : Shared) (H : Hp) (E : XK) : Cx := (cxOf CX0 P w K mg base nIP "_law_is_part" (defScope sIsPart) f cdv A outer s H E).nox
theorem ok_isPart {f fT : Addr} {fd dT : FuncData} (F : Fun K "_law_is_part" "_law_is_part" sIsPart f fd) (Tw : FnB P w K mg base 2 "_law_two" sTwo fT dT ["_law_rows_here"] spTwo) : FnOk P w K mg base CX0 3 f fd ["_law_rows_here", "_law_others"] spIsPart := by
  refine F.ok scIP (fun vs H Q E h => ?_) (fun cdv A0 outer s H vs Q E hr h => ?_)
  · obtain ⟨l, l2, ks, ks2, rfl, _⟩ := h
    rfl
  · obtain ⟨l, l2, ks, ks2, rfl, rl, rl2, few, few2, hR, hR2, q⟩ := h
    have hu : (XIP P w K mg base f cdv A0 outer s H E).A.units + 65 < cLine := by
      have h := hr.un
      show (A0.deeper _).units + 65 < cLine
      omega
    have hu0 : (XIP P w K mg base f cdv A0 outer s H E).A.units < cLine := by omega
    refine ⟨_, pss_cons (ps_if (pt_cmpR (op_neNil hu0) (pe_lc (own := [("_law_row", 2)]) (g := gName 2) rfl scIP.nd (pi_list (pv 0)) (blkOk_by (N := nIP) (sc := defScope sIsPart) (by decide +kernel)) (fun _ _ _ _ _ => pg_name (i := 2) scIP.nd rfl (Or.inl rfl))
        (fun s1 H1 C1 cl1 fp1 => pts_one (pt_cmpR (show OpR _ (compareOp .NotIn) (rNotInD K) from @op_notInD ((XIP P w K mg base f cdv A0 outer s H E).blk s1 H1 _ (compEnvC _ cl1 C1 (XIP P w K mg base f cdv A0 outer s H E).env) fp1) hu) (pv 2) (pv 1) (by rfl))) (fun _ _ _ _ _ => pv 2)) (pe_lst pa_nil) (nomark _)) (pss_one (ps_ret pe_bl)) pss_nil)
      (pss_one (ps_ret (pe_cmpR (op_eqNil hu0) (pe_lc (own := [("_law_line", 3)]) (g := gName 3) rfl scIP.nd (pi_list (pe_call Tw.G hr (by rfl) Tw.g Tw.F.kp Tw.b .nil pass0 (pa_cons (pv 0) pa_nil))) (blkOk_by (N := nIP) (sc := defScope sIsPart) (by decide +kernel)) (fun _ _ _ _ _ => pg_name (i := 3) scIP.nd rfl (Or.inl rfl))
        (fun s1 H1 C1 cl1 fp1 => pts_one (pt_cmpR (show OpR _ (compareOp .NotIn) (rIn K true) from op_notIn_seq) (pv 3) (pe_call (X := (XIP P w K mg base f cdv A0 outer s H E).blk s1 H1 _ (compEnvC _ cl1 C1 (XIP P w K mg base f cdv A0 outer s H E).env) fp1) Tw.G hr (by rfl) Tw.g Tw.F.kp Tw.b .nil pass0 (pa_cons (pv 1) pa_nil)) (by rfl))) (fun _ _ _ _ _ => pv 3)) (pe_lst pa_nil) (nomark _)))), ?_⟩
    obtain ⟨rs, el, rw0⟩ := id rl.ex
    obtain ⟨rs2, el2, rw2⟩ := id rl2.ex
    refine ⟨.ref l, rfl, l, rfl, ⟨_, SqL.of el⟩, fun D hD => ?_⟩
    refine lc_it (walk_list (K := K) (a := l) (xs := rs.map V.ref)) (fun i H' => Same' H H' ∧ ∃ xs : List V, H' D = some (.lst xs) ∧ xs.length ≤ i ∧ (xs = [] ↔ ∀ k ∈ ks.take i, k ∈ ks2)) ⟨same_new hD, [], upd_same, Nat.le_refl _, by simp⟩ (fun i H' _ hp => SqL.of (hp.1 _ _ el)) (fun i x H1 H2 hi hp hx => ?_) (fun H1 hp => ?_)
    · obtain ⟨sm, xs, ed, xl, xe⟩ := hp
      obtain ⟨rfl, e2⟩ := hx
      obtain ⟨t, k, et, ek, rfl, ht⟩ := (rw0.keep sm).at e2
      have hk := hR k (List.mem_of_getElem? ek)
      have tk : ∀ (p : Prop) [Decidable p], (∀ k' ∈ ks.take (i + 1), k' ∈ ks2) ↔ (∀ k' ∈ ks.take i, k' ∈ ks2) ∧ k ∈ ks2 := fun _ _ => by
        rw [List.take_add_one, ek]
        simp [or_imp, forall_and]
      refine ⟨rfl, ⟨.ref t, rfl, .ref l2, rfl, rowD k, ks2.map rowD, dp_row ht, .lst (SqL.of (sm _ _ el2)) (rows_dp (rw2.keep sm)), (row_shaped k hk).1.1, rows_shaped hR2, ?_⟩⟩
      rw [rows_any hR2 hk]
      refine ⟨_, rfl, ite2 (fun e => ?_) (fun e => ?_)⟩
      · refine ⟨.ref t, rfl, _, ed, ?_, same_over hD sm, _, upd_same, ?_, ?_⟩
        · rw [List.length_map, rw0.len] at hi
          rw [sizeLine_eq]
          omega
        · rw [List.length_append]
          simp
          omega
        · rw [tk True]
          have : k ∉ ks2 := by simpa using e
          simp [this]
      · refine ⟨sm, xs, ed, by omega, ?_⟩
        rw [tk True, xe]
        have : k ∈ ks2 := by simpa using e
        simp [this]
    obtain ⟨s1, xs, ed, xl, xe⟩ := hp
    rw [List.take_of_length_le (by rw [List.length_map, rw0.len]; exact Nat.le_refl _)] at xe
    refine ⟨by show 0 ≤ sizeLine; decide, fun e he => ⟨D, e, xs, rfl, rfl, same_new he _ _ ed, upd_same, _, rfl, ?_⟩⟩
    have s2 := s1.trans (same_new (o := .lst []) he)
    generalize upd H1 e (.lst []) = H2 at s2 ⊢
    refine ite2 (fun e1 => ?_) (fun e1 => ?_)
    · refine q false H2 (Iff.intro (fun h => nomatch h) fun h => ?_) s2
      have := xe.mpr h.1
      rw [this] at e1
      exact absurd e1 (by decide)
    · have x0 : xs = [] := by
        cases xs with
        | nil => rfl
        | cons x r => exact absurd rfl e1
      have all1 := xe.mp x0
      refine ⟨.ref l, rfl, l, ks, rfl, rl.keep s2, few, hR, fun ln ls H3 pm so s3 e3 => ?_⟩
      refine ⟨ln, rfl, ⟨_, SqL.of e3⟩, fun D2 hD2 => ?_⟩
      have s23 := s2.trans s3
      have ln64 : ls.length < 64 := by rw [pm.length_eq]; exact linesL_64 few
      refine lc_it (walk_list (K := K) (a := ln) (xs := ls.map V.str)) (fun i H' => Same' H3 H' ∧ ∃ xs : List V, H' D2 = some (.lst xs) ∧ xs.length ≤ i ∧ (xs = [] ↔ ∀ z ∈ ls.take i, z ∈ linesL ks2)) ⟨same_new hD2, [], upd_same, Nat.le_refl _, by simp⟩ (fun i H' _ hp => SqL.of (hp.1 _ _ e3)) (fun i x H4 H5 hi hp hx => ?_) (fun H4 hp => ?_)
      · obtain ⟨sm, xs, ed, xl, xe⟩ := hp
        obtain ⟨rfl, e2⟩ := hx
        rw [List.getElem?_map] at e2
        cases ez : ls[i]? with
        | none => rw [ez] at e2; cases e2
        | some z =>
          rw [ez] at e2
          cases e2
          have tk : (∀ z' ∈ ls.take (i + 1), z' ∈ linesL ks2) ↔ (∀ z' ∈ ls.take i, z' ∈ linesL ks2) ∧ z ∈ linesL ks2 := by
            rw [List.take_add_one, ez]
            simp [or_imp, forall_and]
          refine ⟨rfl, ⟨.str z, rfl, .ref l2, rfl, l2, ks2, rfl, rl2.keep (s23.trans sm), few2, hR2, fun m2 ms H6 pm2 so2 s6 e6 => ⟨m2, _, rfl, .inl (SqL.of e6), rfl, flat_strs _, _, rfl, ?_⟩⟩⟩
          show if (!inV _ _) = true then _ else _
          rw [inV_strs]
          have mem : z ∈ ms ↔ z ∈ linesL ks2 := pm2.mem_iff
          have ed6 := s6 _ _ ed
          refine ite2 (fun e => ?_) (fun e => ?_)
          · refine ⟨.str z, rfl, _, ed6, ?_, same_over hD2 (sm.trans s6), _, upd_same, ?_, ?_⟩
            · rw [List.length_map] at hi
              rw [sizeLine_eq]
              omega
            · rw [List.length_append]
              simp
              omega
            · rw [tk]
              have : z ∉ linesL ks2 := fun h => by
                have := mem.mpr h
                simp [this] at e
              simp [this]
          · refine ⟨sm.trans s6, xs, ed6, by omega, ?_⟩
            rw [tk, xe]
            have : z ∈ linesL ks2 := mem.mp (by simpa using e)
            simp [this]
      · obtain ⟨sm, xs2, ed2, xl2, xe2⟩ := hp
        rw [List.take_of_length_le (by rw [List.length_map]; exact Nat.le_refl _)] at xe2
        refine ⟨by show 0 ≤ sizeLine; decide, fun e' he' => ⟨D2, e', xs2, rfl, rfl, same_new he' _ _ ed2, upd_same, ?_⟩⟩
        refine q _ _ ?_ (s23.trans (sm.trans (same_new he')))
        show xs2.isEmpty = true ↔ _
        rw [List.isEmpty_iff, xe2]
        constructor
        · intro h
          refine ⟨all1, fun z hz => ?_⟩
          exact (line_memP hR hR2 hz).mp (h _ (pm.mem_iff.mpr ((mem_lines ks _).mpr ⟨z, hz, rfl⟩)))
        · intro h l hl
          obtain ⟨z, hz, rfl⟩ := (mem_lines ks l).mp (pm.mem_iff.mp hl)
          exact (line_memP hR hR2 hz).mpr (h.2 z hz)
end
end My
namespace My
open PySem PySem.Spec PyProof.Rows L2
/-! ### parts of rows, and others -/
structure Part (ks : List HD) : Prop where
  nd : (ks.map HD.nm).Nodup
  all : AllR ks
  n : ks.length ≤ 10
  c : cnt ks 0 ≤ 4
  f : cnt ks 2 ≤ 3
theorem Good.part {ks : List HD} (g : Good ks) : Part ks := ⟨g.few.nd, g.all, g.n, g.few.c, g.few.f⟩
theorem Part.good {ks : List HD} (g : Part ks) (h : cnt ks 1 < 3) : Good ks := ⟨⟨g.nd, g.c, by omega, g.f, by have := g.n; omega⟩, g.all, g.n⟩
theorem Part.perm {ks js : List HD} (g : Part ks) (p : js.Perm ks) : Part js :=
  ⟨(p.map HD.nm).nodup_iff.mpr g.nd, fun k hk => g.all k (p.mem_iff.mp hk), by rw [p.length_eq]; exact g.n, by rw [cnt_perm p]; exact g.c, by rw [cnt_perm p]; exact g.f⟩
theorem cnt_sub {ks js : List HD} (p : js.Sublist ks) (i : Nat) : cnt js i ≤ cnt ks i := (p.filter _).length_le
theorem Part.sub {ks js : List HD} (g : Part ks) (p : js.Sublist ks) : Part js :=
  ⟨List.Nodup.sublist (p.map HD.nm) g.nd, fun k hk => g.all k (p.subset hk), Nat.le_trans p.length_le g.n, Nat.le_trans (cnt_sub p 0) g.c, Nat.le_trans (cnt_sub p 2) g.f⟩
theorem new_in : HD.log "new" ∈ rowsK := by decide +kernel
theorem Part.new {ks : List HD} (g : Part ks) (h : NoNew ks) (l : ks.length < 5) : Part (ks ++ [.log "new"]) := by
  have c1 : ∀ i, i ≠ 1 → cnt (ks ++ [HD.log "new"]) i = cnt ks i := fun i hi => by
    rw [cnt_app, cnt_all (a := [HD.log "new"]) (j := 1) (fun k hk => by rw [List.mem_singleton.mp hk]; rfl), if_neg hi]
    rfl
  refine ⟨?_, fun k hk => ?_, by rw [List.length_append]; simp; omega, by rw [c1 0 (by decide)]; exact g.c, by rw [c1 2 (by decide)]; exact g.f⟩
  · rw [List.map_append, List.nodup_append]
    refine ⟨g.nd, by simp, fun a ha b hb e => ?_⟩
    obtain ⟨k, hk, rfl⟩ := List.mem_map.mp ha
    rw [List.map_cons, List.map_nil, List.mem_singleton] at hb
    exact h k hk (e.trans hb)
  · rcases List.mem_append.mp hk with h | h
    · exact g.all k h
    · rw [List.mem_singleton.mp h]
      exact new_in
def rz : HD → HD
  | .cell n _ => .cell n 4
  | k => k
theorem rz_in : ∀ k ∈ rowsK, rz k ∈ rowsK := by
  have h : (rowsK.all fun k => decide (rz k ∈ rowsK)) = true := by decide +kernel
  exact fun k hk => of_decide_eq_true (List.all_eq_true.mp h k hk)
theorem rz_nm (k : HD) : (rz k).nm = k.nm := by cases k <;> rfl
theorem rz_ix (k : HD) : (rz k).ix = k.ix := by cases k <;> rfl
theorem Part.rz {ks : List HD} (g : Part ks) : Part (ks.map rz) := by
  have e1 : (ks.map My.rz).map HD.nm = ks.map HD.nm := by
    rw [List.map_map]
    exact List.map_congr_left fun k _ => rz_nm k
  have e2 : ∀ i, cnt (ks.map My.rz) i = cnt ks i := fun i => by
    unfold cnt
    rw [List.filter_map, List.length_map]
    congr 1
    exact List.filter_congr fun k _ => by simp only [Function.comp, rz_ix]
  refine ⟨by rw [e1]; exact g.nd, fun k hk => ?_, by rw [List.length_map]; exact g.n, by rw [e2]; exact g.c, by rw [e2]; exact g.f⟩
  obtain ⟨k', hk', rfl⟩ := List.mem_map.mp hk
  exact rz_in k' (g.all k' hk')
/-! ### what stays while it is drawn -/
theorem PenAt.stays {H H' : Hp} {p c : Addr} {ns : List Int} {B : Int} (P : PenAt H p c ns B) (o : Off p H H') : ∀ b u, (∀ xs, u ≠ .lst xs) → H b = some u → H' b = some u := fun b u n e => by
  obtain ⟨b', g, hp, _⟩ := P.pen
  refine o b u (fun z => ?_) e
  rw [z, hp] at e
  exact n _ (Option.some.inj e).symm
theorem Stk.off {A : A4} {C : Addr} {H H' : Hp} {a : Addr} {ks : List HD} {dx t n p1 p2 p3 p4 : Addr} {as ps : List Addr} {y1 y2 y3 ys : List Str} {os : List Nat} (h : Stk A C H a ks dx t n p1 p2 p3 p4 as ps y1 y2 y3 ys os)
    (k : ∀ b u, (∀ xs, u ≠ .lst xs) → H b = some u → H' b = some u) : Stk A C H' a ks dx t n p1 p2 p3 p4 as ps y1 y2 y3 ys os := by
  obtain ⟨o, eo, d⟩ := h.n
  exact ⟨k _ _ (fun _ z => by cases z) h.o, k _ _ (fun _ z => by cases z) h.t, ⟨h.hs.len, fun i b y e1 e2 => let ⟨dx, q⟩ := h.hs.is i b y e1 e2; ⟨dx, k _ _ (fun _ z => by cases z) q⟩⟩, ⟨o, k _ _ (fun _ z => by cases z) eo, d⟩,
    k _ _ (fun _ z => by cases z) h.s1, k _ _ (fun _ z => by cases z) h.s2, k _ _ (fun _ z => by cases z) h.s3, k _ _ (fun _ z => by cases z) h.s4, h.a1, h.a2, h.a3, ⟨h.pr.len, fun i b y e1 e2 => k _ _ (fun _ z => by cases z) (h.pr.is i b y e1 e2)⟩, h.ay, h.od⟩
theorem StkAt.off {A : A4} {C : Addr} {H H' : Hp} {a p c : Addr} {ks : List HD} {ns : List Int} {B : Int} (h : StkAt A C H a ks) (P : PenAt H p c ns B) (o : Off p H H') : StkAt A C H' a ks := by
  obtain ⟨dx, t, n, p1, p2, p3, p4, as, ps, y1, y2, y3, ys, os, h⟩ := h
  exact ⟨_, _, _, _, _, _, _, _, _, _, _, _, _, _, h.off (P.stays o)⟩
theorem same_off {p : Addr} {H H' : Hp} (s : Same' H H') : Off p H H' := fun q o _ e => s q o e
theorem PenAt.np {H : Hp} {p c a : Addr} {ns : List Int} {B : Int} {o : HO} (P : PenAt H p c ns B) (ha : H a = none) : a ≠ p := by
  obtain ⟨b, g, e, _⟩ := P.pen
  exact (ne_of_none e ha).symm
theorem two_fine (b c : Bool) : Fine (.list [.bool b, .bool c]) := by cases b <;> cases c <;> exact ⟨by decide +kernel, by decide +kernel, by decide +kernel⟩
section
variable {P : Program} {w : World} {K : PySem.W.Frag} {mg : Str → Option Value} {base : Heap}
abbrev nPR : List Str := ["_law_pen_here", "_law_rows_here", "_law_made_here", "_law_turn", "_law_row", "_law_few", "_law_some", "_law_other"]
theorem scPR : FnScope nPR ["_law_pen_here", "_law_rows_here"] (defScope sPartsR) := ⟨rfl, rfl, rfl, by decide +kernel, rfl, by decide +kernel, by decide +kernel⟩
abbrev XPR (P : Program) (w : World) (K : PySem.W.Frag) (mg : Str → Option Value) (base : Heap) (f : Addr) (cdv : Value) (A : Around) (outer : List Env) (s : Shared) (H : Hp) (E : XK) : Cx := (cxOf CX0 P w K mg base nPR "_law_parts_right" (defScope sPartsR) f cdv A outer s H E).nox
def inPR (i : Nat) : Stmt := (defBody sPartsR).getD i (.Pass ⟨0, 0, 0, 0⟩)
def lpPR (i : Nat) : Stmt := match inPR 1 with
  | .For _ _ b _ _ => b.getD i (.Pass ⟨0, 0, 0, 0⟩)
  | _ => .Pass ⟨0, 0, 0, 0⟩
def ifPR (i : Nat) : Stmt := match lpPR 3 with
  | .If _ b _ _ => b.getD i (.Pass ⟨0, 0, 0, 0⟩)
  | _ => .Pass ⟨0, 0, 0, 0⟩
def tsPR : Expr := match lpPR 3 with
  | .If e _ _ _ => e
  | _ => .Name "x" ⟨0, 0, 0, 0⟩
def stP (p l m : Addr) (z3 z5 z6 z7 : Option V) : L2.St := [some (.ref p), some (.ref l), some (.ref m), z3, none, z5, z6, z7]
variable {A : A4} {C fD fM fP : Addr} {dD dM dP : FuncData} {f : Addr} {cdv : Value} {A0 : Around} {outer : List Env} {s : Shared} {H0 : Hp} {E : XK}
theorem pr0 (Dr : FnB P w K mg base 1 "_law_draw" sDraw fD dD ["_law_pen_here", "_law_many"] spDraw) (hr : Room 1 (XPR P w K mg base f cdv A0 outer s H0 E).A) : ∃ t, PS (XPR P w K mg base f cdv A0 outer s H0 E) (lpPR 0) t ∧
    ∀ (p c l m : Addr) (ns : List Int) (B : Int) (ks : List HD) (z3 z5 z6 z7 : Option V) (D : Ends) (H : Hp), PenAt H p c ns B → B + 10 ≤ 2000 → RowL H l ks → l ≠ p → ks.length ≤ 10 →
    (∀ d js H', PenAt H' p c ns (B + 10) → Off p H H' → RowL H' d js → d ≠ p → js.Sublist ks → D.nx (stP p l m z3 (some (.ref d)) z6 z7) H') → t D (stP p l m z3 z5 z6 z7) H := by
  refine ⟨_, ps_setLc (i := 5) (own := [("_law_row", 4)]) (g := gName 4) rfl scPR.nd rfl rfl (sw_true rfl rfl rfl (by decide +kernel)) (pi_list (pv 1)) (blkOk_by (N := nPR) (sc := defScope sPartsR) (by decide +kernel)) (fun _ _ _ _ _ => pg_name (i := 4) scPR.nd rfl (Or.inl rfl))
    (fun s1 H1 C1 cl1 fp1 => pts_one (pt_cmpR op_gt (pe_call (X := (XPR P w K mg base f cdv A0 outer s H0 E).blk s1 H1 _ (compEnvC _ cl1 C1 (XPR P w K mg base f cdv A0 outer s H0 E).env) fp1) Dr.G hr (by rfl) Dr.g Dr.F.kp Dr.b .nil pass0 (pa_cons (pv 0) (pa_cons pe_int pa_nil))) pe_int (nomark _))) (fun _ _ _ _ _ => pv 4), fun p c l m ns B ks z3 z5 z6 z7 D H PA hB rl nlp few q => ?_⟩
  obtain ⟨rs, el, rw0⟩ := id rl.ex
  refine ⟨.ref l, rfl, l, rfl, ⟨_, SqL.of el⟩, fun D5 hD => ?_⟩
  have Dp : D5 ≠ p := PA.np (o := .lst []) hD
  have P1 := PA.new (o := .lst []) hD
  have lD : l ≠ D5 := ne_of_none el hD
  refine lc_it (walk_list (K := K) (a := l) (xs := rs.map V.ref)) (fun i H' => PenAt H' p c ns (B + i) ∧ Off p H H' ∧ ∃ (us : List Addr) (js : List HD), H' D5 = some (.lst (us.map V.ref)) ∧ Rws H' us js ∧ js.Sublist (ks.take i)) ⟨by simpa using P1, Off.new hD, [], [], upd_same, .nil, List.Sublist.refl _⟩ (fun i H' _ hp => SqL.of (hp.2.1 _ _ nlp el)) (fun i x H1 H2 hi hp hx => ?_) (fun H1 hp => ?_)
  · obtain ⟨Pi, off, us, js, ed, rj, sub⟩ := hp
    obtain ⟨rfl, e2⟩ := hx
    rw [List.length_map, rw0.len] at hi
    obtain ⟨t, k, et, ek, rfl, ht⟩ := (rw0.off PA off).at e2
    refine ⟨rfl, ⟨.ref p, rfl, p, c, ns, B + i, 3, rfl, Pi, by omega, by decide, by decide, fun d H3 d0 d1 P3 off3 => ⟨_, _, rfl, rfl, _, rfl, ?_⟩⟩⟩
    have tk : ks.take (i + 1) = ks.take i ++ [k] := by rw [List.take_add_one, ek]; rfl
    have up : B + ((i + 1 : Nat) : Int) = B + i + 1 := by omega
    have ed3 := off3 _ _ Dp ed
    have rj3 := rj.off Pi off3
    have ht3 := Off.trans off off3
    refine ite2 (fun e => ?_) (fun e => ?_)
    · have e3 : H3 t = some (.tup k.row) := Pi.stays off3 t _ (fun _ z => by cases z) ht
      refine ⟨.ref t, rfl, _, ed3, ?_, ?_⟩
      · have := sub.length_le
        have := rj.len
        rw [List.length_take] at *
        rw [List.length_map, sizeLine_eq]
        omega
      · have kt : ∀ b xs, H3 b = some (.tup xs) → (upd H3 D5 (.lst (us.map V.ref ++ [.ref t]))) b = some (.tup xs) := fun b xs e => by
          rw [upd_ne (fun z => by rw [z, ed3] at e; cases e)]
          exact e
        obtain ⟨b, g, y1, y2, y3, y4⟩ := P3.pen
        have cD : c ≠ D5 := ne_of_none PA.cells hD
        refine ⟨?_, fun b o n e => ?_, us ++ [t], js ++ [k], ?_, (rj3.to kt).add (kt _ _ e3), ?_⟩
        · rw [up]
          exact ⟨⟨b, g, by rw [upd_ne Dp.symm]; exact y1, y2, y3, y4⟩, by rw [upd_ne cD]; exact P3.cells, P3.few⟩
        · rw [upd_ne (ne_of_none e hD)]
          exact ht3 b o n e
        · rw [upd_same, List.map_append]
          rfl
        · rw [tk]
          exact List.Sublist.append sub (List.Sublist.refl _)
    · refine ⟨by rw [up]; exact P3, ht3, us, js, ed3, rj3, ?_⟩
      rw [tk]
      exact sub.trans (List.sublist_append_left _ _)
  · obtain ⟨Pi, off, us, js, ed, rj, sub⟩ := hp
    rw [List.length_map, rw0.len] at Pi
    exact q D5 js H1 (Pi.more (by omega)) off ⟨us, ed, rj⟩ Dp (sub.trans (List.take_sublist _ _))
end
end My
namespace My
open PySem PySem.Spec PyProof.Rows L2
section
variable {P : Program} {w : World} {K : PySem.W.Frag} {mg : Str → Option Value} {base : Heap}
variable {A : A4} {C fD fM fP : Addr} {dD dM dP : FuncData} {f : Addr} {cdv : Value} {A0 : Around} {outer : List Env} {s : Shared} {H0 : Hp} {E : XK}
theorem mix_row {H H1 H2 : Hp} {p c d : Addr} {ns : List Int} {B : Int} {ks : List HD} {rs : List Addr} {ys : List V} (rw0 : Rws H rs ks) (PA : PenAt H p c ns B) (off : Off p H H1) (pm : ys.Perm (rs.map V.ref)) (e : H1 d = some (.lst ys)) : ∃ js, js.Perm ks ∧ RowL H1 d js := by
  obtain ⟨us, rfl, pu⟩ := perm_refs pm
  obtain ⟨js, rj, pj⟩ := Rws.perm pu rw0
  exact ⟨js, pj, us, e, rj.off PA off⟩
theorem pr1 (T : Txt mg) (Mx : FnB P w K mg base 2 "_law_mixed" sMixed fM dM ["_law_pen_here", "_law_some"] (spMixed K)) (Pk : FnB P w K mg base 2 "_law_pick" sPick fP dP ["_law_pen_here", "_law_some"] spPick) (hr : Room 2 (XPR P w K mg base f cdv A0 outer s H0 E).A) : ∃ t, PS (XPR P w K mg base f cdv A0 outer s H0 E) (lpPR 1) t ∧
    ∀ (p c l m fe : Addr) (ns : List Int) (B : Int) (ks js : List HD) (z3 z6 z7 : Option V) (D : Ends) (H : Hp), PenAt H p c ns B → B + 21 ≤ 2000 → RowL H l ks → l ≠ p → RowL H fe js → fe ≠ p → Good ks → NoNew ks → js.Sublist ks →
    (∀ d ms H', PenAt H' p c ns (B + 21) → Off p H H' → RowL H' d ms → d ≠ p → Part ms → D.nx (stP p l m z3 (some (.ref fe)) (some (.ref d)) z7) H') → t D (stP p l m z3 (some (.ref fe)) z6 z7) H := by
  refine ⟨_, ps_set (i := 6) scPR.nd rfl (.inl rfl) (pe_call Pk.G hr (by rfl) Pk.g Pk.F.kp Pk.b .nil pass0 (pa_cons (pv 0) (pa_cons (pe_lst (pa_cons (pv 5)
      (pa_cons (pe_call Mx.G hr (by rfl) Mx.g Mx.F.kp Mx.b .nil pass0 (pa_cons (pv 0) (pa_cons (pv 5) pa_nil)))
      (pa_cons (pe_call Mx.G hr (by rfl) Mx.g Mx.F.kp Mx.b .nil pass0 (pa_cons (pv 0) (pa_cons (pv 1) pa_nil)))
      (pa_cons (pe_op op_cat (pv 1) (pe_slice sl_list (pe_lst (pa_cons (pe_tup (pa_cons pe_str (pa_cons pe_str pa_nil))) pa_nil)) po_none (po_some (pe_callTy call_int1 (by rfl) T.int (by decide +kernel) (pa_cons (pe_cmpR op_lt (pe_callB call_len_seq (by rfl) T.len PySem.boot_len (pa_cons (pv 1) pa_nil)) pe_int (nomark _)) pa_nil))))) pa_nil))))) pa_nil))),
    fun p c l m fe ns B ks js z3 z6 z7 D H PA hB rl nlp rf nfp good nn sub q => ?_⟩
  obtain ⟨rs, el, rw0⟩ := id rl.ex
  obtain ⟨fs, ef, rf0⟩ := id rf.ex
  have n10 := good.n
  have jl : js.length ≤ 10 := Nat.le_trans sub.length_le n10
  have l1 : (fs.map V.ref).length ≤ 10 := by rw [List.length_map, rf0.len]; exact jl
  have l2 : (rs.map V.ref).length ≤ 10 := by rw [List.length_map, rw0.len]; exact n10
  refine ⟨.ref p, rfl, .ref fe, rfl, .ref p, rfl, .ref fe, rfl, p, c, fe, ns, B, _, rfl, PA, SqL.of ef, by omega, by omega, fun ys1 m1 H1 pm1 P1 off1 m1p _ em1 => ?_⟩
  refine ⟨.ref p, rfl, .ref l, rfl, p, c, l, ns, B + 10, _, rfl, P1.more (by omega), SqL.of (off1 _ _ nlp el), by omega, by omega, fun ys2 m2 H2 pm2 P2 off2 m2p _ em2 => ?_⟩
  obtain ⟨j1, pj1, r1⟩ := mix_row (H2 := H1) rf0 PA off1 pm1 em1
  obtain ⟨j2, pj2, r2⟩ := mix_row (H2 := H2) (rw0.off PA off1) (P1.more (C := B + 10) (by omega)) off2 pm2 em2
  have off12 := off1.trans off2
  have r1' := r1.off m1p (P1.more (C := B + 10) (by omega)) off2
  have P2' : PenAt H2 p c ns (B + 20) := P2.more (by omega)
  have rl2 := rl.off nlp PA off12
  have rf2 := rf.off nfp PA off12
  have el2 := off12 _ _ nlp el
  have rw2 := rw0.off PA off12
  clear P1 P2 em1 em2 r1
  refine ⟨.ref l, rfl, by show 2 ≤ sizeLine; decide, fun nt hnt => ⟨by show 1 ≤ sizeLine; decide, fun nl hnl => ?_⟩⟩
  have s1 := (same_new (o := .tup [V.str "log", V.str "new"]) hnt).trans (same_new (o := .lst [V.ref nt]) hnl)
  have ent : upd (upd H2 nt (.tup [V.str "log", V.str "new"])) nl (.lst [V.ref nt]) nt = some (.tup [V.str "log", V.str "new"]) := same_new hnl _ _ upd_same
  have enl : upd (upd H2 nt (.tup [V.str "log", V.str "new"])) nl (.lst [V.ref nt]) nl = some (.lst [V.ref nt]) := upd_same
  have Pn := (P2'.new (o := .tup [V.str "log", V.str "new"]) hnt).new (o := .lst [V.ref nt]) hnl
  generalize upd (upd H2 nt (.tup [V.str "log", V.str "new"])) nl (.lst [V.ref nt]) = H3 at s1 ent enl Pn ⊢
  unfold tNoPart
  dsimp only
  refine ⟨.ref l, rfl, l, _, rfl, .inl (SqL.of (s1 _ _ el2)), _, _, rfl, rfl, .inr ⟨_, rfl, _, rfl, ?_⟩⟩
  obtain ⟨bb, hbb⟩ : ∃ bb : Bool, decide (((rs.map V.ref).length : Int) < 5) = bb := ⟨_, rfl⟩
  rw [hbb]
  have chn : ∃ (n : Nat) (ch : List HD) (cr : List Addr), (if bb = true then (1 : Int) else 0) = (n : Int) ∧ ([V.ref nt].take n) = cr.map V.ref ∧ Rws H3 cr ch ∧ Part (ks ++ ch) ∧ cr.length ≤ 1 := by
    cases bb with
    | true =>
      have lt : ks.length < 5 := by
        have := of_decide_eq_true hbb
        rw [List.length_map, rw0.len] at this
        omega
      exact ⟨1, [.log "new"], [nt], rfl, rfl, Rws.nil.add (k := .log "new") ent, good.part.new nn lt, Nat.le_refl _⟩
    | false => exact ⟨0, [], [], rfl, rfl, .nil, by rw [List.append_nil]; exact good.part, Nat.zero_le _⟩
  obtain ⟨n, ch, cr, en, ecr, rch, pch, crl⟩ := chn
  rw [en]
  refine ⟨nl, _, rfl, SqL.of enl, fun u hu => ?_⟩
  rw [cut_to, ecr]
  have s2 := same_new (o := .lst (cr.map V.ref)) hu
  refine ⟨l, u, _, _, rfl, rfl, s2 _ _ (s1 _ _ el2), upd_same, by rw [List.length_map] at l2; rw [List.length_map, List.length_map, sizeLine_eq]; omega, fun n1 hn1 => ?_⟩
  rw [← List.map_append]
  have s3 := same_new (o := .lst ((rs ++ cr).map V.ref)) hn1
  refine ⟨by show 4 ≤ sizeLine; decide, fun L hL => ?_⟩
  have s4 := same_new (o := .lst [V.ref fe, V.ref m1, V.ref m2, V.ref n1]) hL
  have P3 := Pn.new (o := .lst (cr.map V.ref)) hu
  have P4 := P3.new (o := .lst ((rs ++ cr).map V.ref)) hn1
  have P5 := P4.new (o := .lst [V.ref fe, V.ref m1, V.ref m2, V.ref n1]) hL
  have s24 := s1.trans (s2.trans (s3.trans s4))
  have Lp : L ≠ p := P4.np (o := .lst []) hL
  have n1p : n1 ≠ p := P3.np (o := .lst []) hn1
  have r5 : RowL (upd (upd (upd H3 u (.lst (cr.map V.ref))) n1 (.lst ((rs ++ cr).map V.ref))) L (.lst [V.ref fe, V.ref m1, V.ref m2, V.ref n1])) n1 (ks ++ ch) :=
    ⟨rs ++ cr, s4 _ _ upd_same, (rw2.keep s24).app (rch.keep (s2.trans (s3.trans s4)))⟩
  have off5 : Off p H (upd (upd (upd H3 u (.lst (cr.map V.ref))) n1 (.lst ((rs ++ cr).map V.ref))) L (.lst [V.ref fe, V.ref m1, V.ref m2, V.ref n1])) := off12.trans (same_off s24)
  have rf5 := rf2.keep s24
  have r15 := r1'.keep s24
  have r25 := r2.keep s24
  have eL : (upd (upd (upd H3 u (.lst (cr.map V.ref))) n1 (.lst ((rs ++ cr).map V.ref))) L (.lst [V.ref fe, V.ref m1, V.ref m2, V.ref n1])) L = some (.lst [V.ref fe, V.ref m1, V.ref m2, V.ref n1]) := upd_same
  generalize upd (upd (upd H3 u (.lst (cr.map V.ref))) n1 (.lst ((rs ++ cr).map V.ref))) L (.lst [V.ref fe, V.ref m1, V.ref m2, V.ref n1]) = H5 at P5 r5 off5 rf5 r15 r25 eL ⊢
  refine ⟨p, c, ns, B + 20, .ref L, [V.ref fe, V.ref m1, V.ref m2, V.ref n1], rfl, P5, by omega, .inl ⟨L, rfl, Lp, eL⟩, by simp, by simp, fun v H6 hv P6 off6 => ?_⟩
  have P6' : PenAt H6 p c ns (B + 21) := P6.more (by omega)
  have o6 := off5.trans off6
  have gp := good.part
  simp only [List.mem_cons, List.not_mem_nil, or_false] at hv
  rcases hv with rfl | rfl | rfl | rfl
  · exact q fe js H6 P6' o6 (rf5.off nfp P5 off6) nfp (gp.sub sub)
  · exact q m1 j1 H6 P6' o6 (r15.off m1p P5 off6) m1p ((gp.sub sub).perm pj1)
  · exact q m2 j2 H6 P6' o6 (r25.off m2p P5 off6) m2p (gp.perm pj2)
  · exact q n1 (ks ++ ch) H6 P6' o6 (r5.off n1p P5 off6) n1p pch
theorem rz_row {k : HD} (h : k.ix ≠ 0) : rz k = k := by
  cases k with
  | cell n z => exact absurd rfl h
  | _ => rfl
theorem pr2 (Pk : FnB P w K mg base 2 "_law_pick" sPick fP dP ["_law_pen_here", "_law_some"] spPick) (hr : Room 2 (XPR P w K mg base f cdv A0 outer s H0 E).A) : ∃ t, PS (XPR P w K mg base f cdv A0 outer s H0 E) (lpPR 2) t ∧
    ∀ (p c l m so : Addr) (ns : List Int) (B : Int) (ms : List HD) (z3 z5 z7 : Option V) (D : Ends) (H : Hp), PenAt H p c ns B → B + 1 ≤ 2000 → RowL H so ms → so ≠ p → Part ms →
    (∀ d ms' H', PenAt H' p c ns (B + 1) → Off p H H' → RowL H' d ms' → d ≠ p → Part ms' → D.nx (stP p l m z3 z5 (some (.ref d)) z7) H') → t D (stP p l m z3 z5 (some (.ref so)) z7) H := by
  refine ⟨_, ps_set (i := 6) scPR.nd rfl (.inl rfl) (pe_call Pk.G hr (by rfl) Pk.g Pk.F.kp Pk.b .nil pass0 (pa_cons (pv 0) (pa_cons (pe_lst (pa_cons (pv 6) (pa_cons (pv 6) (pa_cons
      (pe_lc (own := [("_law_row", 4)]) (g := gName 4) (tt := tYes) rfl scPR.nd (pi_list (pv 6)) (blkOk_by (N := nPR) (sc := defScope sPartsR) (by decide +kernel)) (fun _ _ _ _ _ => pg_name (i := 4) scPR.nd rfl (Or.inl rfl)) (fun _ _ _ _ _ => pts_nil)
        (fun _ _ _ _ _ => pe_ifExp (pt_cmpR op_eq (pe_ix (show IxR _ (rIxT K) from ix_tup) (pv 4) pe_int (fun _ _ => rfl)) pe_str (nomark _))
          (pe_op (show OpR _ (binaryOp .Add) (rCatT K) from op_catT) (pe_slice (show SlR _ (rSlA K) from sl_tupA) (pv 4) po_none (po_some pe_int)) (pe_tup (pa_cons pe_int pa_nil))) (pv 4))) pa_nil)))) pa_nil))),
    fun p c l m so ns B ms z3 z5 z7 D H PA hB rl nsp part q => ?_⟩
  obtain ⟨rs, el, rw0⟩ := id rl.ex
  have n10 := part.n
  refine ⟨.ref p, rfl, .ref so, rfl, .ref so, rfl, .ref so, rfl, so, rfl, ⟨_, SqL.of el⟩, fun D4 hD => ?_⟩
  have Dp : D4 ≠ p := PA.np (o := .lst []) hD
  refine lc_it (walk_list (K := K) (a := so) (xs := rs.map V.ref)) (fun i H' => Same' H H' ∧ ∃ us : List Addr, H' D4 = some (.lst (us.map V.ref)) ∧ Rws H' us ((ms.take i).map rz)) ⟨same_new hD, [], upd_same, .nil⟩ (fun i H' _ hp => SqL.of (hp.1 _ _ el)) (fun i x H1 H2 hi hp hx => ?_) (fun H1 hp => ?_)
  · obtain ⟨sm, us, ed, rj⟩ := hp
    obtain ⟨rfl, e2⟩ := hx
    rw [List.length_map, rw0.len] at hi
    obtain ⟨t, k, et, ek, rfl, ht⟩ := (rw0.keep sm).at e2
    have tk : (ms.take (i + 1)).map rz = (ms.take i).map rz ++ [rz k] := by rw [List.take_add_one, ek, List.map_append]; rfl
    have ul : us.length < sizeLine := by
      have := rj.len
      rw [List.length_map, List.length_take] at this
      rw [sizeLine_eq]
      omega
    have fin : ∀ (t' : Addr) (H' : Hp), Same' H2 H' → H' t' = some (.tup (rz k).row) → ∃ acc, H' D4 = some (.lst acc) ∧ acc.length < sizeLine ∧ (Same' H (upd H' D4 (.lst (acc ++ [V.ref t']))) ∧ ∃ us : List Addr, (upd H' D4 (.lst (acc ++ [V.ref t']))) D4 = some (.lst (us.map V.ref)) ∧ Rws (upd H' D4 (.lst (acc ++ [V.ref t']))) us ((ms.take (i + 1)).map rz)) := fun t' H' s' e' => by
      have ed' := s' _ _ ed
      have kt : ∀ b xs, H' b = some (.tup xs) → (upd H' D4 (.lst (us.map V.ref ++ [.ref t']))) b = some (.tup xs) := fun b xs e => by
        rw [upd_ne (fun z => by rw [z, ed'] at e; cases e)]
        exact e
      refine ⟨_, ed', by rw [List.length_map]; exact ul, same_over hD (sm.trans s'), us ++ [t'], ?_, ?_⟩
      · rw [upd_same, List.map_append]
        rfl
      · rw [tk]
        exact ((rj.keep s').to kt).add (kt _ _ e')
    refine ⟨rfl, ⟨.ref t, rfl, t, _, 0, .str k.wd, rfl, rfl, SqT.of ht, row_0 k, rfl, _, rfl, ite2 (fun e => ?_) (fun e => ?_)⟩⟩
    · obtain ⟨n, z, rfl⟩ : ∃ n z, k = .cell n z := by
        have e := V.str.inj (of_decide_eq_true e)
        cases k with
        | cell n z => exact ⟨n, z, rfl⟩
        | log n => exact absurd e (show ¬ (("log" : Str) = "cell") by decide)
        | fail n => exact absurd e (show ¬ (("failure" : Str) = "cell") by decide)
        | cho => exact absurd e (show ¬ (("choice" : Str) = "cell") by decide)
      refine ⟨.ref t, rfl, (2 : Int), rfl, ?_⟩
      refine rd_cut (SqT.of ht) fun r H3 s3 r3 => ?_
      refine ⟨by show 1 ≤ sizeLine; decide, fun o ho => ?_⟩
      have so1 := same_new (o := .tup [V.int 4]) ho
      refine ⟨r, o, _, _, rfl, rfl, r3.ext so1, SqT.of upd_same, by rw [show cutV (HD.cell n z).row none (some 2) = [V.str "cell", V.str n] from rfl]; exact (fun h => (nomatch h)), by rw [show cutV (HD.cell n z).row none (some 2) = [V.str "cell", V.str n] from rfl]; show 3 ≤ sizeLine; decide, fun h => (nomatch h), fun _ t' ht' => ?_⟩
      exact fin t' _ (s3.trans (so1.trans (same_new ht'))) upd_same
    · refine ⟨.ref t, rfl, fin t H2 (fun _ _ e => e) ?_⟩
      rw [rz_row (k := k) (fun h => e ?_)]
      · exact ht
      · cases k with
        | cell n z => exact decide_eq_true rfl
        | log n => exact absurd h (by show ¬ (1 : Nat) = 0; decide)
        | fail n => exact absurd h (by show ¬ (2 : Nat) = 0; decide)
        | cho => exact absurd h (by show ¬ (3 : Nat) = 0; decide)
  · obtain ⟨sm, us, ed, rj⟩ := hp
    rw [List.take_of_length_le (by rw [List.length_map, rw0.len]; exact Nat.le_refl _)] at rj
    have P1 := PA.keep sm
    refine ⟨by show 3 ≤ sizeLine; decide, fun L hL => ?_⟩
    have s2 := same_new (o := .lst [V.ref so, V.ref so, V.ref D4]) hL
    have P2 := P1.new (o := .lst [V.ref so, V.ref so, V.ref D4]) hL
    have Lp : L ≠ p := P1.np (o := .lst []) hL
    refine ⟨p, c, ns, B, .ref L, [V.ref so, V.ref so, V.ref D4], rfl, P2, by omega, .inl ⟨L, rfl, Lp, upd_same⟩, by simp, by simp, fun v H6 hv P6 off6 => ?_⟩
    have s12 := sm.trans s2
    have o6 := (same_off (p := p) s12).trans off6
    simp only [List.mem_cons, List.not_mem_nil, or_false] at hv
    have a1 := fun hq => q so ms H6 P6 o6 hq nsp part
    rcases hv with rfl | rfl | rfl
    · exact a1 ((rl.keep s12).off nsp P2 off6)
    · exact a1 ((rl.keep s12).off nsp P2 off6)
    · exact q D4 (ms.map rz) H6 P6 o6 (RowL.off ⟨us, s2 _ _ ed, rj.keep s2⟩ Dp P2 off6) Dp part.rz
end
end My
namespace My
open PySem PySem.Spec PyProof.Rows L2
structure LeB (P : Program) (w : World) (K : PySem.W.Frag) (mg : Str → Option Value) (base : Heap) (A : A4) (C f : Addr) (fd : FuncData) : Prop where
  G : FnG P w K mg base CX0 3 f fd ["self", "other"] (spLe A C)
  hs : PySem.W.findIn K (.ref C) "__le__" = some (some (.ref f))
  hf : PySem.W.isFn K (.ref f) = true
  b : Binds K fd ["self", "other"] []
  nf : PySem.W.notFirst K C (.ref C) = true
  si : SIs K C
def spPartsR : Sp := fun vs H Q _ => ∃ (p c l : Addr) (ns : List Int) (B : Int) (ks : List HD), vs = [.ref p, .ref l] ∧ PenAt H p c ns B ∧ B + 128 ≤ 2000 ∧ RowL H l ks ∧ l ≠ p ∧ Good ks ∧ NoNew ks ∧ ∀ H', PenAt H' p c ns (B + 128) → Off p H H' → Q (.bl true) H'
theorem few_nil : Few [] := ⟨by simp, by decide, by decide, by decide, by decide⟩
section
variable {P : Program} {w : World} {K : PySem.W.Frag} {mg : Str → Option Value} {base : Heap}
variable {A : A4} {C fD fM fP fS fI fIP fL : Addr} {dD dM dP dS dIP dL : FuncData} {f : Addr} {cdv : Value} {A0 : Around} {outer : List Env} {s : Shared} {H0 : Hp} {E : XK}
theorem pr3 (T : Txt mg) : ∃ t, PT (XPR P w K mg base f cdv A0 outer s H0 E) tsPR t ∧
    ∀ (p l m so : Addr) (ms : List HD) (z3 z5 z7 : Option V) (H : Hp) (R : Bool → Hp → Prop), RowL H so ms → ms.length ≤ 10 → (∀ H', Same' H H' → R (decide (cnt ms 1 < 3)) H') → t (stP p l m z3 z5 (some (.ref so)) z7) H R := by
  refine ⟨_, pt_cmpR op_lt (pe_callB call_len_seq (by rfl) T.len PySem.boot_len (pa_cons (pe_lc (own := [("_law_row", 4)]) (g := gName 4) rfl scPR.nd (pi_list (pv 6)) (blkOk_by (N := nPR) (sc := defScope sPartsR) (by decide +kernel)) (fun _ _ _ _ _ => pg_name (i := 4) scPR.nd rfl (Or.inl rfl))
    (fun _ _ _ _ _ => pts_one (pt_cmpR op_eq (pe_ix (show IxR _ (rIxT K) from ix_tup) (pv 4) pe_int (fun _ _ => rfl)) pe_str (nomark _))) (fun _ _ _ _ _ => pv 4)) pa_nil)) pe_int (nomark _), fun p l m so ms z3 z5 z7 H R rl few q => ?_⟩
  obtain ⟨rs, el, rw0⟩ := id rl.ex
  refine ⟨.ref so, rfl, so, rfl, ⟨_, SqL.of el⟩, fun D4 hD => ?_⟩
  refine lc_it (walk_list (K := K) (a := so) (xs := rs.map V.ref)) (fun i H' => Same' H H' ∧ ∃ xs : List V, H' D4 = some (.lst xs) ∧ xs.length = cnt (ms.take i) 1) ⟨same_new hD, [], upd_same, rfl⟩ (fun i H' _ hp => SqL.of (hp.1 _ _ el)) (fun i x H1 H2 hi hp hx => ?_) (fun H1 hp => ?_)
  · obtain ⟨sm, xs, ed, xl⟩ := hp
    obtain ⟨rfl, e2⟩ := hx
    rw [List.length_map, rw0.len] at hi
    obtain ⟨t, k, et, ek, rfl, ht⟩ := (rw0.keep sm).at e2
    have tk : cnt (ms.take (i + 1)) 1 = cnt (ms.take i) 1 + (if (1 : Nat) = k.ix then 1 else 0) := by
      rw [List.take_add_one, ek, cnt_app]
      congr 1
      exact cnt_all (a := [k]) (j := k.ix) (fun k' hk' => by rw [List.mem_singleton.mp hk']) 1
    refine ⟨rfl, ⟨.ref t, rfl, t, _, 0, .str k.wd, rfl, rfl, SqT.of ht, row_0 k, rfl, _, rfl, ?_⟩⟩
    have wl : (V.str k.wd = V.str ("log" : Str)) ↔ (1 : Nat) = k.ix := by
      cases k
      · exact ⟨fun h => absurd (V.str.inj h) (show ¬ (("cell" : Str) = "log") by decide), fun h => absurd h (by show ¬ (1 : Nat) = 0; decide)⟩
      · exact ⟨fun _ => rfl, fun _ => rfl⟩
      · exact ⟨fun h => absurd (V.str.inj h) (show ¬ (("failure" : Str) = "log") by decide), fun h => absurd h (by show ¬ (1 : Nat) = 2; decide)⟩
      · exact ⟨fun h => absurd (V.str.inj h) (show ¬ (("choice" : Str) = "log") by decide), fun h => absurd h (by show ¬ (1 : Nat) = 3; decide)⟩
    refine ite2 (fun e => ?_) (fun e => ?_)
    · have h1 := wl.mp (of_decide_eq_true e)
      have cl : cnt (ms.take i) 1 ≤ ms.length := Nat.le_trans (List.length_filter_le _ _) (by rw [List.length_take]; omega)
      refine ⟨.ref t, rfl, _, ed, by rw [xl, sizeLine_eq]; omega, same_over hD sm, _, upd_same, ?_⟩
      rw [List.length_append, xl, tk, if_pos h1]
      rfl
    · refine ⟨sm, xs, ed, ?_⟩
      rw [xl, tk, if_neg (fun h => e (decide_eq_true (wl.mpr h)))]
      rfl
  · obtain ⟨sm, xs, ed, xl⟩ := hp
    rw [List.take_of_length_le (by rw [List.length_map, rw0.len]; exact Nat.le_refl _)] at xl
    refine ⟨D4, xs, rfl, .inl (SqL.of ed), _, _, rfl, rfl, _, rfl, ?_⟩
    rw [show decide ((xs.length : Int) < 3) = decide (cnt ms 1 < 3) by rw [xl]; exact decide_eq_decide.mpr (by omega)]
    exact q H1 sm
theorem pr4 (St : FnB P w K mg base 8 "_law_stacked" sStacked fS dS ["_law_rows_here"] (spStacked A C)) (hr : Room 8 (XPR P w K mg base f cdv A0 outer s H0 E).A) : ∃ t, PS (XPR P w K mg base f cdv A0 outer s H0 E) (ifPR 0) t ∧
    ∀ (p l m so : Addr) (ms : List HD) (z3 z5 z7 : Option V) (D : Ends) (H : Hp), RowL H so ms → Good ms → (∀ o H', Same' H H' → StkAt A C H' o ms → D.nx (stP p l m z3 z5 (some (.ref so)) (some (.ref o))) H') → t D (stP p l m z3 z5 (some (.ref so)) z7) H := by
  refine ⟨_, ps_set (i := 7) scPR.nd rfl (.inl rfl) (pe_call St.G hr (by rfl) St.g St.F.kp St.b .nil pass0 (pa_cons (pv 6) pa_nil)), fun p l m so ms z3 z5 z7 D H rl g q => ?_⟩
  exact ⟨.ref so, rfl, so, ms, rfl, rl, g.few, g.all, fun o H' s' st => q o H' s' st⟩
theorem ty_stk (S : Hand K mg A) (SC : SCls K mg C) (Si : SIs K C) {H : Hp} {a : Addr} {ks : List HD} (st : StkAt A C H a ks) : TyX K H (.ref a) (.ref C) := by
  obtain ⟨dx, t, n, p1, p2, p3, p4, as, ps, y1, y2, y3, ys, os, st⟩ := st
  exact .base (.ins st.o SC.c Si.dc S.hn S.tk Si.mo)
/-- a <= b of stacks -/
theorem le_own (S : Hand K mg A) (SC : SCls K mg C) (L : LeB P w K mg base A C fL dL) {H : Hp} {a b : Addr} {ks js : List HD} {Q : VK} (st : StkAt A C H a ks) (st2 : StkAt A C H b js) (fw : Few ks) (fw2 : Few js) (hR : AllR ks) (hR2 : AllR js)
    (q : ∀ (r : Bool) H', (r = true ↔ LeP ks js) → Same' H H' → Q (.bl r) H') : rEqOwn K C (spLe A C) E0 (.ref a) (.ref b) H Q := by
  obtain ⟨dx, t, n, p1, p2, p3, p4, as, ps, y1, y2, y3, ys, os, st'⟩ := id st
  exact ⟨a, dx, _, .ref C, rfl, st'.o, ty_stk S SC L.si st2, L.nf, a, b, ks, js, rfl, st, st2, fw, fw2, hR, hR2, fun r H' e s' => ⟨r, rfl, q r H' e s'⟩⟩
theorem pr5 (T : Txt mg) (S : Hand K mg A) (SC : SCls K mg C) (L : LeB P w K mg base A C fL dL) (Ip : FnB P w K mg base 3 "_law_is_part" sIsPart fIP dIP ["_law_rows_here", "_law_others"] spIsPart) (hr : Room 3 (XPR P w K mg base f cdv A0 outer s H0 E).A) (hg : (XPR P w K mg base f cdv A0 outer s H0 E).A.guards = some []) : ∃ t, PS (XPR P w K mg base f cdv A0 outer s H0 E) (ifPR 1) t ∧
    ∀ (p l m so o : Addr) (ks ms : List HD) (z3 z5 : Option V) (D : Ends) (H : Hp), RowL H l ks → RowL H so ms → Good ks → Good ms → StkAt A C H m ks → StkAt A C H o ms → (∀ H', Same' H H' → D.nx (stP p l m z3 z5 (some (.ref so)) (some (.ref o))) H') → t D (stP p l m z3 z5 (some (.ref so)) (some (.ref o))) H := by
  have hu : (XPR P w K mg base f cdv A0 outer s H0 E).A.units + 64 < cLine := by
    have h := hr.un
    omega
  refine ⟨_, ps_if (pt_cmpR op_ne (pe_callB (call_reprD hg hu) (by rfl) T.repr (by decide +kernel) (pa_cons (pe_lst (pa_cons (pe_cmpR (op_leOwn L.G hr hg L.hs L.hf L.b pass0) (pv 2) (pv 7) (nomark _)) (pa_cons (pe_cmpR (op_leOwn L.G hr hg L.hs L.hf L.b pass0) (pv 7) (pv 2) (nomark _)) pa_nil))) pa_nil))
      (pe_callB (call_reprD hg hu) (by rfl) T.repr (by decide +kernel) (pa_cons (pe_lst (pa_cons (pe_call Ip.G hr (by rfl) Ip.g Ip.F.kp Ip.b .nil pass0 (pa_cons (pv 1) (pa_cons (pv 6) pa_nil))) (pa_cons (pe_call Ip.G hr (by rfl) Ip.g Ip.F.kp Ip.b .nil pass0 (pa_cons (pv 6) (pa_cons (pv 1) pa_nil))) pa_nil))) pa_nil)) (nomark _))
      (pss_one (ps_ret pe_bl)) pss_nil, fun p l m so o ks ms z3 z5 D H rl rl2 g g2 st st2 q => ?_⟩
  refine ⟨.ref m, rfl, .ref o, rfl, le_own S SC L st st2 g.few g2.few g.all g2.all fun b1 H1 hb1 s1 => ?_⟩
  refine ⟨.ref o, rfl, .ref m, rfl, le_own S SC L (st2.keep s1) (st.keep s1) g2.few g.few g2.all g.all fun b2 H2 hb2 s2 => ?_⟩
  refine ⟨by show 2 ≤ sizeLine; decide, fun d1 hd1 => ?_⟩
  have s3 := same_new (o := .lst [V.bl b1, V.bl b2]) hd1
  have nd : (PyData.list [.bool b1, .bool b2]).hasDict = false := rfl
  refine ⟨d1, .list [.bool b1, .bool b2], rfl, .lst (SqL.of upd_same) (.cons (.bl b1) (.cons (.bl b2) .nil)), nd, two_fine b1 b2, ?_⟩
  have s13 := s1.trans (s2.trans s3)
  generalize upd H2 d1 (.lst [V.bl b1, V.bl b2]) = H3 at s13 ⊢
  refine ⟨.ref l, rfl, .ref so, rfl, l, so, ks, ms, rfl, rl.keep s13, rl2.keep s13, g.n, g2.n, g.all, g2.all, fun c1 H4 hc1 s4 => ?_⟩
  have s14 := s13.trans s4
  refine ⟨.ref so, rfl, .ref l, rfl, so, l, ms, ks, rfl, rl2.keep s14, rl.keep s14, g2.n, g.n, g2.all, g.all, fun c2 H5 hc2 s5 => ?_⟩
  refine ⟨by show 2 ≤ sizeLine; decide, fun d2 hd2 => ?_⟩
  have s6 := same_new (o := .lst [V.bl c1, V.bl c2]) hd2
  have e1 : c1 = b1 := Bool.eq_iff_iff.mpr (hc1.trans hb1.symm)
  have e2 : c2 = b2 := Bool.eq_iff_iff.mpr (hc2.trans hb2.symm)
  subst e1
  subst e2
  refine ⟨d2, .list [.bool c1, .bool c2], rfl, .lst (SqL.of upd_same) (.cons (.bl c1) (.cons (.bl c2) .nil)), nd, two_fine c1 c2, rfl, false, by rw [decide_eq_true rfl]; rfl, iteF ?_⟩
  exact q _ (s14.trans (s5.trans s6))
theorem pr6 (S : Hand K mg A) (SC : SCls K mg C) (L : LeB P w K mg base A C fL dL) (M : Mk K C fI) (GI : FnR P w K mg base (L2.CX P w) 5 fI (spIni A C)) (hr : Room 6 (XPR P w K mg base f cdv A0 outer s H0 E).A) (hg : (XPR P w K mg base f cdv A0 outer s H0 E).A.guards = some []) : ∃ t, PS (XPR P w K mg base f cdv A0 outer s H0 E) (inPR 2) t ∧
    ∀ (p l m : Addr) (ks : List HD) (z3 z5 z6 z7 : Option V) (D : Ends) (H : Hp), Good ks → StkAt A C H m ks → (∀ H', Same' H H' → D.rt (.bl true) H') → t D (stP p l m z3 z5 z6 z7) H := by
  refine ⟨_, ps_ret (pe_and (pe_cmpR (op_leOwn L.G (hr.mono (by decide)) hg L.hs L.hf L.b pass0) (pv 2) (pv 2) (nomark _)) (pe_one (pe_cmpR (op_leOwn L.G (hr.mono (by decide)) hg L.hs L.hf L.b pass0) (pe_makeR0 M GI hr (by rfl) SC.g passF) (pv 2) (nomark _)))), fun p l m ks z3 z5 z6 z7 D H g st q => ?_⟩
  refine ⟨.ref m, rfl, .ref m, rfl, le_own S SC L st st g.few g.few g.all g.all fun b1 H1 hb1 s1 => ?_⟩
  have e1 : b1 = true := hb1.mpr ⟨fun _ h => h, fun _ h => h⟩
  subst e1
  refine ⟨true, rfl, iteT ?_⟩
  intro x dx hx hdx nxd
  refine ⟨x, dx, [], [], rfl, upd_same, ⟨rfl, fun i a k e => by simp at e⟩, few_nil, fun H2 k2 st2 => ⟨rfl, ?_⟩⟩
  have s2 := made_same hx hdx k2
  refine ⟨.ref m, rfl, le_own S SC L st2 (st.keep (s1.trans s2)) few_nil g.few (fun k h => (nomatch h)) g.all fun b2 H3 hb2 s3 => ?_⟩
  have e2 : b2 = true := hb2.mpr ⟨fun _ h => (nomatch h), fun z h => (let ⟨o, i, _, h, _⟩ := h; absurd h (Nat.not_lt_zero _))⟩
  subst e2
  exact q H3 (s1.trans (s2.trans s3))
theorem ok_partsR {fd : FuncData} (F : Fun K "_law_parts_right" "_law_parts_right" sPartsR f fd) (T : Txt mg) (S : Hand K mg A) (SC : SCls K mg C) (L : LeB P w K mg base A C fL dL) (M : Mk K C fI) (GI : FnR P w K mg base (L2.CX P w) 5 fI (spIni A C))
    (Dr : FnB P w K mg base 1 "_law_draw" sDraw fD dD ["_law_pen_here", "_law_many"] spDraw) (Mx : FnB P w K mg base 2 "_law_mixed" sMixed fM dM ["_law_pen_here", "_law_some"] (spMixed K)) (Pk : FnB P w K mg base 2 "_law_pick" sPick fP dP ["_law_pen_here", "_law_some"] spPick)
    (St : FnB P w K mg base 8 "_law_stacked" sStacked fS dS ["_law_rows_here"] (spStacked A C)) (Ip : FnB P w K mg base 3 "_law_is_part" sIsPart fIP dIP ["_law_rows_here", "_law_others"] spIsPart) : FnG P w K mg base CX0 9 f fd ["_law_pen_here", "_law_rows_here"] spPartsR := by
  refine okGn F scPR (fun vs H Q E h => ?_) (fun cdv A0 outer s H vs Q E hr hg h => ?_)
  · obtain ⟨p, c, l, ns, B, ks, rfl, _⟩ := h
    rfl
  · obtain ⟨p, c, l, ns, B, ks, rfl, PA, hB, rl, nlp, good, nn, q⟩ := h
    obtain ⟨t0, h0, g0⟩ := pr0 (f := f) (cdv := cdv) (A0 := A0) (outer := outer) (s := s) (H0 := H) (E := E) Dr (hr.mono (by decide))
    obtain ⟨t1, h1, g1⟩ := pr1 (f := f) (cdv := cdv) (A0 := A0) (outer := outer) (s := s) (H0 := H) (E := E) T Mx Pk (hr.mono (by decide))
    obtain ⟨t2, h2, g2⟩ := pr2 (f := f) (cdv := cdv) (A0 := A0) (outer := outer) (s := s) (H0 := H) (E := E) Pk (hr.mono (by decide))
    obtain ⟨t3, h3, g3⟩ := pr3 (P := P) (w := w) (K := K) (base := base) (f := f) (cdv := cdv) (A0 := A0) (outer := outer) (s := s) (H0 := H) (E := E) T
    obtain ⟨t4, h4, g4⟩ := pr4 (f := f) (cdv := cdv) (A0 := A0) (outer := outer) (s := s) (H0 := H) (E := E) St hr
    obtain ⟨t5, h5, g5⟩ := pr5 (f := f) (cdv := cdv) (A0 := A0) (outer := outer) (s := s) (H0 := H) (E := E) T S SC L Ip (hr.mono (by decide)) hg
    obtain ⟨t6, h6, g6⟩ := pr6 (f := f) (cdv := cdv) (A0 := A0) (outer := outer) (s := s) (H0 := H) (E := E) S SC L M GI (hr.mono (by decide)) hg
    refine ⟨_, pss_cons (ps_set (i := 2) scPR.nd rfl (.inl rfl) (pe_call St.G hr (by rfl) St.g St.F.kp St.b .nil pass0 (pa_cons (pv 1) pa_nil)))
      (pss_cons (ps_for PassesOwn.never rfl (pi_range1 (by rfl) T.range (pa_cons pe_int pa_nil)) (pg_name (i := 3) scPR.nd rfl (.inl rfl)) (pss_cons h0 (pss_cons h1 (pss_cons h2 (pss_one (ps_if h3 (pss_cons h4 (pss_one h5)) pss_nil)))))) (pss_one h6)), ?_⟩
    refine ⟨.ref l, rfl, l, ks, rfl, rl, good.few, good.all, fun m H1 s1 st => ?_⟩
    have P1 := PA.keep s1
    have rl1 := rl.keep s1
    have n10 := good.n
    refine ⟨4, rfl, by decide, by decide, for_range (n := 4) (fun i σ H' => PenAt H' p c ns (B + 32 * (i : Int)) ∧ Off p H1 H' ∧ ∃ z3 z5 z6 z7, σ = stP p l m z3 z5 z6 z7) ⟨by simpa using P1, Off.rfl', none, none, none, none, rfl⟩ (fun i σ H2 hi hp => ?_) (fun σ H2 hp => ?_)⟩
    · obtain ⟨P2, off2, z3, z5, z6, z7, rfl⟩ := hp
      have up : B + 32 * ((i + 1 : Nat) : Int) = B + 32 * (i : Int) + 32 := by omega
      refine g0 p c l m ns _ ks _ _ _ _ _ H2 P2 (by omega) (rl1.off nlp P1 off2) nlp n10 fun fe js H3 P3 off3 rf nfp sub => ?_
      have off13 := off2.trans off3
      refine g1 p c l m fe ns _ ks js _ _ _ _ H3 P3 (by omega) (rl1.off nlp P1 off13) nlp rf nfp good nn sub fun so ms H4 P4 off4 rs nsp part => ?_
      have off14 := off13.trans off4
      refine g2 p c l m so ns _ ms _ _ _ _ H4 P4 (by omega) rs nsp part fun so' ms' H5 P5 off5 rs' nsp' part' => ?_
      have off15 := off14.trans off5
      have P5' : PenAt H5 p c ns (B + 32 * ((i + 1 : Nat) : Int)) := P5.more (by omega)
      refine g3 p l m so' ms' _ _ _ H5 _ rs' part'.n fun H6 s6 => ite2 (fun e => ?_) (fun e => ?_)
      · have gm := part'.good (of_decide_eq_true e)
        refine g4 p l m so' ms' _ _ _ _ H6 (rs'.keep s6) gm fun o H7 s7 st7 => ?_
        have s57 := s6.trans s7
        refine g5 p l m so' o ks ms' _ _ _ H7 ((rl1.off nlp P1 off15).keep s57) (rs'.keep s57) good gm ((st.off P1 off15).keep s57) st7 fun H8 s8 => ?_
        exact ⟨P5'.keep (s57.trans s8), off15.trans (same_off (s57.trans s8)), _, _, _, _, rfl⟩
      · exact ⟨P5'.keep s6, off15.trans (same_off s6), _, _, _, _, rfl⟩
    · obtain ⟨P2, off2, z3, z5, z6, z7, rfl⟩ := hp
      refine g6 p l m ks _ _ _ _ _ H2 good (st.off P1 off2) fun H3 s3 => ?_
      exact q H3 ((P2.keep s3).more (by omega)) ((same_off s1).trans (off2.trans (same_off s3)))
end
end My
namespace My
open PySem PySem.Spec PyProof.Rows L2
/-! ### the law -/
abbrev PR : Program := PySem.Challenge.rw_layerseen_k19_sides_of_stacks.prog
abbrev nLaw : List Str := ["_law_script", "_law_pen_here", "_law_turn", "_law_rows_here", "_law_bare"]
theorem scLaw : FnScope nLaw ["_law_script"] (defScope sLaw) := ⟨rfl, rfl, rfl, by decide +kernel, rfl, by decide +kernel, by decide +kernel⟩
abbrev XL (w : World) (K : PySem.W.Frag) (mg : Str → Option Value) (base : Heap) (fa : Addr) (cdv : Value) (s : Shared) (H0 : Hp) : Cx := (cxOf CX0 PR w K mg base nLaw "law" (defScope sLaw) fa cdv callerA [] s H0 E0).nox
structure Parts (w : World) (K : PySem.W.Frag) (mg : Str → Option Value) (base : Heap) (A : A4) (C fI : Addr) (fX : Nat → Addr) (dX : Nat → FuncData) : Prop where
  T : Txt mg
  SC : SCls K mg C
  M : Mk K C fI
  GI : FnR PR w K mg base (L2.CX PR w) 5 fI (spIni A C)
  pen : FnB PR w K mg base 1 "_law_pen" sPen (fX 0) (dX 0) ["_law_script"] (spPen K)
  rows : FnB PR w K mg base 3 "_law_rows" sRows (fX 1) (dX 1) ["_law_pen_here", "_law_cells", "_law_logs", "_law_failures"] spRows
  stk : FnB PR w K mg base 8 "_law_stacked" sStacked (fX 2) (dX 2) ["_law_rows_here"] (spStacked A C)
  right : FnBG PR w K mg base 4 "_law_right" (fX 3) (dX 3) ["_law_made_here", "_law_rows_here"] (spRight A C)
  parts : FnBG PR w K mg base 9 "_law_parts_right" (fX 4) (dX 4) ["_law_pen_here", "_law_rows_here"] spPartsR
def bareD : PyData := .list [.tuple [], .tuple [], .tuple [], .tuple [], .tuple []]
theorem bare_ok : (Fine bareD ∧ bareD.hasDict = false) ∧ bareD.shown = "[(), (), (), (), ()]" := ⟨⟨⟨by decide +kernel, by decide +kernel, by decide +kernel⟩, rfl⟩, by decide +kernel⟩
section
variable {w : World} {K : PySem.W.Frag} {mg : Str → Option Value} {base : Heap} {A : A4} {C fI : Addr} {fX : Nat → Addr} {dX : Nat → FuncData} {fa : Addr}
theorem hrX {cdv : Value} {s : Shared} {H0 : Hp} : Room 9 (XL w K mg base fa cdv s H0).A := ⟨rfl, by show 1 + claimMargin + 1 + 3 * 9 + 5 < recursionLimit; decide +kernel, by show 4 + 3 + 16 * 9 + 200 < cLine; decide +kernel⟩
theorem hgX {cdv : Value} {s : Shared} {H0 : Hp} : (XL w K mg base fa cdv s H0).A.guards = some [] := rfl
theorem law_body (Z : ∀ base : Heap, K.In base → base.Ns mainGlobals mg → Parts w K mg base A C fI fX dX) : LawBody PySem.Challenge.rw_layerseen_k19_sides_of_stacks w K mg 63 nLaw "law" sLaw fa := by
  intro base hKb hNb cdv s H a ns hn hO hS
  have Y := Z base hKb hNb
  have hr : Room 9 (XL w K mg base fa cdv s H).A := hrX
  have hg : (XL w K mg base fa cdv s H).A.guards = some [] := hgX
  have hu : (XL w K mg base fa cdv s H).A.units + 64 < cLine := hr.units
  refine ⟨_, pss_cons (ps_set (i := 1) scLaw.nd rfl (.inl rfl) (pe_call Y.pen.G (hr.mono (by decide)) (by rfl) Y.pen.g Y.pen.F.kp Y.pen.b .nil pass0 (pa_cons (pv 0) pa_nil)))
    (pss_cons (ps_for PassesOwn.never rfl (pi_range1 (by rfl) Y.T.range (pa_cons pe_int pa_nil)) (pg_name (i := 2) scLaw.nd rfl (.inl rfl))
      (pss_cons (ps_set (i := 3) scLaw.nd rfl (.inl rfl) (pe_call Y.rows.G (hr.mono (by decide)) (by rfl) Y.rows.g Y.rows.F.kp Y.rows.b .nil pass0 (pa_cons (pv 1) (pa_cons pe_int (pa_cons pe_int (pa_cons pe_int pa_nil))))))
      (pss_one (ps_if (PW.pt (pw_or (pt_not (pt_val (pe_callG Y.right.G (hr.mono (by decide)) hg (by rfl) Y.right.g Y.right.kp Y.right.b .nil pass0 (pa_cons (pe_call Y.stk.G (hr.mono (by decide)) (by rfl) Y.stk.g Y.stk.F.kp Y.stk.b .nil pass0 (pa_cons (pv 3) pa_nil)) (pa_cons (pv 3) pa_nil)))))
        (pw_or1 (pt_not (pt_val (pe_callG Y.parts.G hr hg (by rfl) Y.parts.g Y.parts.kp Y.parts.b .nil pass0 (pa_cons (pv 1) (pa_cons (pv 3) pa_nil)))))))) (pss_one (ps_ret pe_bl)) pss_nil))))
    (pss_cons (ps_set (i := 4) scLaw.nd rfl (.inl rfl) (pe_makeR0 Y.M Y.GI (hr.mono (by decide)) (by rfl) Y.SC.g passF))
    (pss_one (ps_ret (pe_cmpR op_eq (pe_callB (call_reprD hg hu) (by rfl) Y.T.repr (by decide +kernel) (pa_cons (pe_lst (pa_cons (pe_fld (pv 4) (by rfl)) (pa_cons (pe_fld (pv 4) (by rfl)) (pa_cons (pe_fld (pv 4) (by rfl)) (pa_cons (pe_fld (pv 4) (by rfl)) (pa_cons (pe_fld (pv 4) (by rfl)) pa_nil)))))) pa_nil)) pe_str (nomark _)))))), ?_⟩
  refine ⟨.ref a, rfl, a, ns, rfl, hS, hn, fun p cc H1 sm1 PA1 => ?_⟩
  refine ⟨8, rfl, by decide, by decide, for_range (lo := 0) (n := 8) (fun i σ H' => ∃ y2 y3 : Option V, σ = [some (.ref a), some (.ref p), y2, y3, none] ∧ PenAt H' p cc ns (168 * (i : Int))) ⟨none, none, rfl, PA1.more (by decide)⟩ (fun i σ H2 hi hp => ?_) (fun σ H2 hp => ?_)⟩
  · obtain ⟨y2, y3, rfl, PA2⟩ := hp
    refine ⟨.ref p, rfl, p, cc, ns, 168 * (i : Int), rfl, PA2, by omega, fun ks l H3 good nn rl nlp PA3 off3 => ?_⟩
    refine ⟨.ref l, rfl, l, ks, rfl, rl, good.few, good.all, fun m H4 s4 st => ?_⟩
    refine ⟨.ref l, rfl, m, l, ks, rfl, st, rl.keep s4, good, fun H5 s5 => ⟨true, rfl, iteF ?_⟩⟩
    have s45 := s4.trans s5
    refine ⟨.ref p, rfl, .ref l, rfl, p, cc, l, ns, 168 * (i : Int) + 40, ks, rfl, PA3.keep s45, by omega, rl.keep s45, nlp, good, nn, fun H6 PA6 off6 => ⟨true, rfl, iteF ?_⟩⟩
    exact ⟨_, _, rfl, PA6.more (by omega)⟩
  · obtain ⟨y2, y3, rfl, PA2⟩ := hp
    intro x dx hx hdx nxd
    refine ⟨x, dx, [], [], rfl, upd_same, ⟨rfl, fun i a k e => by simp at e⟩, few_nil, fun H3 k3 st => ⟨rfl, ?_⟩⟩
    obtain ⟨dx', t, n, p1, p2, p3, p4, as, ps, y1, z2, z3, ys, os, st⟩ := st
    have nil_of : ∀ {xs y : List Str}, Asc xs y → xs = [] → y = [] := fun {xs y} h e => List.eq_nil_iff_forall_not_mem.mpr fun z hz => by
      have := (h.mem z).mp hz
      rw [e] at this
      cases this
    have e1 : y1 = [] := nil_of st.a1 rfl
    have e2 : z2 = [] := nil_of st.a2 rfl
    have e3 : z3 = [] := nil_of st.a3 rfl
    have e5 : ys = [] := nil_of st.ay rfl
    have eo : os = [] := List.length_eq_zero_iff.mp (by rw [st.od.len, e5]; rfl)
    have ep : ps = [] := List.length_eq_zero_iff.mp (by rw [st.pr.len, eo]; rfl)
    have q1 := st.s1
    have q2 := st.s2
    have q3 := st.s3
    have q4 := st.s4
    have q5 := st.n.sq (K := K)
    rw [e1] at q1
    rw [e2] at q2
    rw [e3] at q3
    rw [ep] at q4
    have no := Y.SC.no
    refine ⟨.ref x, rfl, x, C, dx', _, .ref p1, rfl, st.o, Y.SC.c, no _ (by simp), rfl, .ref x, rfl, x, C, dx', _, .ref p2, rfl, st.o, Y.SC.c, no _ (by simp), rfl, .ref x, rfl, x, C, dx', _, .ref p3, rfl, st.o, Y.SC.c, no _ (by simp), rfl,
      .ref x, rfl, x, C, dx', _, .ref p4, rfl, st.o, Y.SC.c, no _ (by simp), rfl, .ref x, rfl, x, C, dx', _, .ref n, rfl, st.o, Y.SC.c, no _ (by simp), rfl, by show 5 ≤ sizeLine; decide, fun L hL => ?_⟩
    have sL := same_new (o := .lst [V.ref p1, V.ref p2, V.ref p3, V.ref p4, V.ref n]) hL
    obtain ⟨⟨fin, nd⟩, shw⟩ := bare_ok
    refine ⟨L, bareD, rfl, .lst (SqL.of upd_same) (.cons (.tup (SqT.of (sL _ _ q1)) .nil) (.cons (.tup (SqT.of (sL _ _ q2)) .nil) (.cons (.tup (SqT.of (sL _ _ q3)) .nil) (.cons (.tup (SqT.of (sL _ _ q4)) .nil) (.cons (.tup (q5.ext sL) .nil) .nil))))), nd, fin, rfl, ?_⟩
    rw [shw, decide_eq_true rfl]
end
end My
namespace My
open PySem PySem.Spec PyProof.Rows L2
def sayB : List Str → List Value → Bool
  | [], [] => true
  | k :: ks, .str x _ :: vs => decide (x = k) && sayB ks vs
  | _, _ => false
theorem say_of : ∀ (ks : List Str) (vs : List Value), sayB ks vs = true → Vals (ks.map V.str) vs
  | [], [], _ => .nil
  | k :: ks, .str x t :: vs, h => by
    unfold sayB at h
    rw [Bool.and_eq_true] at h
    have e : x = k := of_decide_eq_true h.1
    subst e
    exact .cons ⟨t, rfl⟩ (say_of ks vs h.2)
abbrev t4 {α : Type} (a0 a1 a2 a3 : α) : Nat → α
  | 0 => a0 | 1 => a1 | 2 => a2 | _ => a3
abbrev q5 {α : Type} (a0 a1 a2 a3 a4 : α) : Nat → α
  | 0 => a0 | 1 => a1 | 2 => a2 | 3 => a3 | _ => a4
/-! ### what is asked of the written part, decided at once -/
def objB (K : PySem.W.Frag) : Bool := decide (PySem.W.specialIn K (.builtin "object.__class__") "__get__" = some (some (.builtin "getset_descriptor.__get__"))) && decide (PySem.W.takesIn K (.builtin "object.__class__") = some true)
def rdB (K : PySem.W.Frag) (C : Addr) : Bool := PySem.W.readsIn K C (.type "type") && decide (PySem.W.specialIn K (.ref C) "__getattribute__" = some (some (.builtin "type.__getattribute__")))
theorem rd_mk {K : PySem.W.Frag} {C : Addr} (h : rdB K C = true) : ClX.CRead K C (.type "type") := by
  unfold rdB at h
  simp only [Bool.and_eq_true, decide_eq_true_eq] at h
  exact ⟨h.1, h.2⟩
def clsB (K : PySem.W.Frag) (C : Addr) (fs : List Str) : Bool := PySem.W.plainGet K C Str.empty && (PySem.W.hasDictIn K C && (PySem.W.plainOver K C && (decide (PySem.W.findIn K (.ref C) "__setattr__" = some (some (.builtin "object.__setattr__"))) && ((fs.all fun f => decide (PySem.W.findIn K (.ref C) f = some none))
  && (decide (PySem.W.findIn K (.ref C) "__class__" = some (some (.builtin "object.__class__"))) && (decide (PySem.W.mroIn K C (.type "object") = some true) && (PySem.W.makesIn K C && PySem.W.keepIn K (.ref C))))))))
structure ClsF (K : PySem.W.Frag) (C : Addr) (fs : List Str) : Prop where
  c : Cls K C
  no : ∀ f ∈ fs, NoAttr K C f
  dc : PySem.W.findIn K (.ref C) "__class__" = some (some (.builtin "object.__class__"))
  mo : PySem.W.mroIn K C (.type "object") = some true
  ms : PySem.W.makesIn K C = true
  kp : PySem.W.keepIn K (.ref C) = true
theorem cls_mk {K : PySem.W.Frag} {C : Addr} {fs : List Str} (h : clsB K C fs = true) : ClsF K C fs := by
  unfold clsB at h
  simp only [Bool.and_eq_true, decide_eq_true_eq, List.all_eq_true] at h
  obtain ⟨h1, h2, h3, h4, h5, h6, h7, h8, h9⟩ := h
  exact ⟨⟨h1, h2, h3, h4⟩, h5, h6, h7, h8, h9⟩
abbrev tys : List String := ["NoneType", "bool", "int", "str", "list", "tuple", "dict"]
def pairB (K : PySem.W.Frag) (A : A4) (bK bT bH : Addr) : Bool := ((List.range 4).all fun i => ((List.range 4).all fun j => decide (PySem.W.kitOne K (.ref (A.at i)) (.ref (A.at j)) = some (decide (i = j))) && PySem.W.notFirst K (A.at i) (.ref (A.at j)))
  && (decide (PySem.W.kitOne K (.ref (A.at i)) (.ref bK) = some (decide (i < 2))) && (decide (PySem.W.kitOne K (.ref (A.at i)) (.ref bT) = some (decide (2 ≤ i))) && decide (PySem.W.kitOne K (.ref (A.at i)) (.ref bH) = some true))))
  && (tys.all fun T => decide (PySem.W.kitOne K (.type T) (.ref bK) = some false) && (decide (PySem.W.kitOne K (.type T) (.ref A.f) = some false) && (decide (PySem.W.kitOne K (.type T) (.ref bT) = some false) && decide (PySem.W.kitOne K (.type T) (.ref A.h) = some false))))
theorem pair_mk {K : PySem.W.Frag} {A : A4} {bK bT bH : Addr} (h : pairB K A bK bT bH = true) : (∀ i j, i < 4 → j < 4 → PySem.W.kitOne K (.ref (A.at i)) (.ref (A.at j)) = some (decide (i = j))) ∧ (∀ i j, i < 4 → j < 4 → PySem.W.notFirst K (A.at i) (.ref (A.at j)) = true) ∧
    (∀ i, i < 4 → PySem.W.kitOne K (.ref (A.at i)) (.ref bK) = some (decide (i < 2))) ∧ (∀ i, i < 4 → PySem.W.kitOne K (.ref (A.at i)) (.ref bT) = some (decide (2 ≤ i))) ∧ (∀ i, i < 4 → PySem.W.kitOne K (.ref (A.at i)) (.ref bH) = some true) ∧
    (∀ T ∈ tys, PySem.W.kitOne K (.type T) (.ref bK) = some false) ∧ (∀ T ∈ tys, PySem.W.kitOne K (.type T) (.ref A.f) = some false) ∧ (∀ T ∈ tys, PySem.W.kitOne K (.type T) (.ref bT) = some false) ∧ (∀ T ∈ tys, PySem.W.kitOne K (.type T) (.ref A.h) = some false) := by
  unfold pairB at h
  simp only [List.all_eq_true, List.mem_range, Bool.and_eq_true, decide_eq_true_eq] at h
  obtain ⟨h, g⟩ := h
  exact ⟨fun i j hi hj => ((h i hi).1 j hj).1, fun i j hi hj => ((h i hi).1 j hj).2, fun i hi => (h i hi).2.1, fun i hi => (h i hi).2.2.1, fun i hi => (h i hi).2.2.2, fun T hT => (g T hT).1, fun T hT => (g T hT).2.1, fun T hT => (g T hT).2.2.1, fun T hT => (g T hT).2.2.2⟩
abbrev fdOf {K : PySem.W.Frag} {x q : Str} {st : Stmt} {f : Addr} {fd : FuncData} (_ : Fun K x q st f fd) : FuncData := fd
abbrev fdD {K : PySem.W.Frag} {x q : Str} {params : Arguments} {body : List Stmt} {scope : Scope} {dvs : List V} {kws : List (Str × V)} {f : Addr} {fd : FuncData} (_ : FunD K x q params body scope dvs kws f fd) : FuncData := fd
theorem all_mk {w : World} {K : PySem.W.Frag} {h : Heap} {mg : Str → Option Value} {fa : Addr} (X : K.In h) (G : h.Ns mainGlobals mg) (hfa : mg "law" = some (.ref fa))
    {f_W : Addr} {od_W an_W : Option Addr} {sl_W : Array (Option Value)} {oc_W kV_W dc_W pm_W cd_W ct_W : Value}
    {f_D : Addr} {od_D an_D : Option Addr} {sl_D : Array (Option Value)} {oc_D kV_D dc_D pm_D cd_D ct_D : Value}
    {f_N : Addr} {od_N an_N : Option Addr} {sl_N : Array (Option Value)} {oc_N kV_N dc_N pm_N cd_N ct_N : Value}
    {f_C : Addr} {od_C an_C : Option Addr} {sl_C : Array (Option Value)} {oc_C kV_C dc_C pm_C cd_C ct_C : Value}
    {f_as : Addr} {od_as an_as : Option Addr} {sl_as : Array (Option Value)} {oc_as kV_as dc_as pm_as cd_as ct_as : Value}
    {f_mo : Addr} {od_mo an_mo : Option Addr} {sl_mo : Array (Option Value)} {oc_mo kV_mo dc_mo pm_mo cd_mo ct_mo : Value}
    {f_ck : Addr} {od_ck an_ck : Option Addr} {sl_ck : Array (Option Value)} {oc_ck kV_ck dc_ck pm_ck cd_ck ct_ck : Value}
    {f_pa : Addr} {od_pa an_pa : Option Addr} {sl_pa : Array (Option Value)} {oc_pa kV_pa dc_pa pm_pa cd_pa ct_pa : Value}
    {f_pe : Addr} {od_pe an_pe : Option Addr} {sl_pe : Array (Option Value)} {oc_pe kV_pe dc_pe pm_pe cd_pe ct_pe : Value}
    {f_dr : Addr} {od_dr an_dr : Option Addr} {sl_dr : Array (Option Value)} {oc_dr kV_dr dc_dr pm_dr cd_dr ct_dr : Value}
    {f_pi : Addr} {od_pi an_pi : Option Addr} {sl_pi : Array (Option Value)} {oc_pi kV_pi dc_pi pm_pi cd_pi ct_pi : Value}
    {f_mx : Addr} {od_mx an_mx : Option Addr} {sl_mx : Array (Option Value)} {oc_mx kV_mx dc_mx pm_mx cd_mx ct_mx : Value}
    {f_ro : Addr} {od_ro an_ro : Option Addr} {sl_ro : Array (Option Value)} {oc_ro kV_ro dc_ro pm_ro cd_ro ct_ro : Value}
    {f_ma : Addr} {od_ma an_ma : Option Addr} {sl_ma : Array (Option Value)} {oc_ma kV_ma dc_ma pm_ma cd_ma ct_ma : Value}
    {f_st : Addr} {od_st an_st : Option Addr} {sl_st : Array (Option Value)} {oc_st kV_st dc_st pm_st cd_st ct_st : Value}
    {f_me : Addr} {od_me an_me : Option Addr} {sl_me : Array (Option Value)} {oc_me kV_me dc_me pm_me cd_me ct_me : Value}
    {f_nm : Addr} {od_nm an_nm : Option Addr} {sl_nm : Array (Option Value)} {oc_nm kV_nm dc_nm pm_nm cd_nm ct_nm : Value}
    {f_tw : Addr} {od_tw an_tw : Option Addr} {sl_tw : Array (Option Value)} {oc_tw kV_tw dc_tw pm_tw cd_tw ct_tw : Value}
    {f_ri : Addr} {od_ri an_ri : Option Addr} {sl_ri : Array (Option Value)} {oc_ri kV_ri dc_ri pm_ri cd_ri ct_ri : Value}
    {f_ip : Addr} {od_ip an_ip : Option Addr} {sl_ip : Array (Option Value)} {oc_ip kV_ip dc_ip pm_ip cd_ip ct_ip : Value}
    {f_pr : Addr} {od_pr an_pr : Option Addr} {sl_pr : Array (Option Value)} {oc_pr kV_pr dc_pr pm_pr cd_pr ct_pr : Value}
    {f_la : Addr} {od_la an_la : Option Addr} {sl_la : Array (Option Value)} {oc_la kV_la dc_la pm_la cd_la ct_la : Value}
    {c0 : Addr}
    {c1 : Addr}
    {c2 : Addr}
    {c3 : Addr}
    {bN : Addr}
    {bK : Addr}
    {bT : Addr}
    {bH : Addr}
    {cS : Addr}
    {f_i0 : Addr} {od_i0 an_i0 : Option Addr} {sl_i0 : Array (Option Value)} {oc_i0 kV_i0 dc_i0 pm_i0 cd_i0 ct_i0 : Value}
    {f_i1 : Addr} {od_i1 an_i1 : Option Addr} {sl_i1 : Array (Option Value)} {oc_i1 kV_i1 dc_i1 pm_i1 cd_i1 ct_i1 : Value}
    {f_i2 : Addr} {od_i2 an_i2 : Option Addr} {sl_i2 : Array (Option Value)} {oc_i2 kV_i2 dc_i2 pm_i2 cd_i2 ct_i2 : Value}
    {f_i3 : Addr} {od_i3 an_i3 : Option Addr} {sl_i3 : Array (Option Value)} {oc_i3 kV_i3 dc_i3 pm_i3 cd_i3 ct_i3 : Value}
    {f_e0 : Addr} {od_e0 an_e0 : Option Addr} {sl_e0 : Array (Option Value)} {oc_e0 kV_e0 dc_e0 pm_e0 cd_e0 ct_e0 : Value}
    {f_e1 : Addr} {od_e1 an_e1 : Option Addr} {sl_e1 : Array (Option Value)} {oc_e1 kV_e1 dc_e1 pm_e1 cd_e1 ct_e1 : Value}
    {f_e2 : Addr} {od_e2 an_e2 : Option Addr} {sl_e2 : Array (Option Value)} {oc_e2 kV_e2 dc_e2 pm_e2 cd_e2 ct_e2 : Value}
    {f_e3 : Addr} {od_e3 an_e3 : Option Addr} {sl_e3 : Array (Option Value)} {oc_e3 kV_e3 dc_e3 pm_e3 cd_e3 ct_e3 : Value}
    {f_mt : Addr} {od_mt an_mt : Option Addr} {sl_mt : Array (Option Value)} {oc_mt kV_mt dc_mt pm_mt cd_mt ct_mt : Value}
    {f_si : Addr} {od_si an_si : Option Addr} {sl_si : Array (Option Value)} {oc_si kV_si dc_si pm_si cd_si ct_si : Value}
    {f_sp : Addr} {od_sp an_sp : Option Addr} {sl_sp : Array (Option Value)} {oc_sp kV_sp dc_sp pm_sp cd_sp ct_sp : Value}
    {f_sb : Addr} {od_sb an_sb : Option Addr} {sl_sb : Array (Option Value)} {oc_sb kV_sb dc_sb pm_sb cd_sb ct_sb : Value}
    {f_sk : Addr} {od_sk an_sk : Option Addr} {sl_sk : Array (Option Value)} {oc_sk kV_sk dc_sk pm_sk cd_sk ct_sk : Value}
    {f_sl : Addr} {od_sl an_sl : Option Addr} {sl_sl : Array (Option Value)} {oc_sl kV_sl dc_sl pm_sl cd_sl ct_sl : Value}
    {f_sf : Addr} {od_sf an_sf : Option Addr} {sl_sf : Array (Option Value)} {oc_sf kV_sf dc_sf pm_sf cd_sf ct_sf : Value}
    {p_of : Addr} {rs_of : List Value}
    {f_of : Addr} {od_of an_of : Option Addr} {sl_of : Array (Option Value)} {oc_of kV_of dc_of pm_of cd_of ct_of : Value}
    {T0 aK aL b0 b1 b2 : Addr} {LT : Str} {tl tn t2d u0 u1 u2 u3 u4 u5 u6 u7 u8 : Tok} {dK0 dT0 dL0 d0 d1 d2 : Option Addr} {itsK : Array Value} {nTu nT0 nL0 n0 n1 n2 : Nat} {slTu slT0 slL0 sl0 sl1 sl2 : Array (Option Value)} {oT0 : Value}
    {tv0 : Tok}
    {tv1 : Tok}
    {tv2 : Tok}
    {tv3 : Tok}
    {tle tmo : Tok}
    (a_W : PySem.W.nsIn K mainGlobals "is_whole" = some (some (.ref f_W)))
    (l_W : K.lookup f_W = some ⟨oc_W, od_W, .func (PySem.W.fnOf "is_whole" "is_whole" (defArgs sWhole) (defBody sWhole) (defScope sWhole) .none kV_W dc_W pm_W an_W cd_W ct_W), sl_W⟩)
    (c_W : PySem.W.codeIn K cd_W "is_whole" = true)
    (k_W : PySem.W.keepIn K (.ref f_W) = true)
    (a_D : PySem.W.nsIn K mainGlobals "is_word" = some (some (.ref f_D)))
    (l_D : K.lookup f_D = some ⟨oc_D, od_D, .func (PySem.W.fnOf "is_word" "is_word" (defArgs sWord) (defBody sWord) (defScope sWord) .none kV_D dc_D pm_D an_D cd_D ct_D), sl_D⟩)
    (c_D : PySem.W.codeIn K cd_D "is_word" = true)
    (k_D : PySem.W.keepIn K (.ref f_D) = true)
    (a_N : PySem.W.nsIn K mainGlobals "is_name" = some (some (.ref f_N)))
    (l_N : K.lookup f_N = some ⟨oc_N, od_N, .func (PySem.W.fnOf "is_name" "is_name" (defArgs sName) (defBody sName) (defScope sName) .none kV_N dc_N pm_N an_N cd_N ct_N), sl_N⟩)
    (c_N : PySem.W.codeIn K cd_N "is_name" = true)
    (k_N : PySem.W.keepIn K (.ref f_N) = true)
    (a_C : PySem.W.nsIn K mainGlobals "check_name" = some (some (.ref f_C)))
    (l_C : K.lookup f_C = some ⟨oc_C, od_C, .func (PySem.W.fnOf "check_name" "check_name" (defArgs sCheck) (defBody sCheck) (defScope sCheck) .none kV_C dc_C pm_C an_C cd_C ct_C), sl_C⟩)
    (c_C : PySem.W.codeIn K cd_C "check_name" = true)
    (k_C : PySem.W.keepIn K (.ref f_C) = true)
    (a_as : PySem.W.nsIn K mainGlobals "ascending" = some (some (.ref f_as)))
    (l_as : K.lookup f_as = some ⟨oc_as, od_as, .func (PySem.W.fnOf "ascending" "ascending" (defArgs sAsc) (defBody sAsc) (defScope sAsc) .none kV_as dc_as pm_as an_as cd_as ct_as), sl_as⟩)
    (c_as : PySem.W.codeIn K cd_as "ascending" = true)
    (k_as : PySem.W.keepIn K (.ref f_as) = true)
    (a_mo : PySem.W.nsIn K mainGlobals "_meet_one_way" = some (some (.ref f_mo)))
    (l_mo : K.lookup f_mo = some ⟨oc_mo, od_mo, .func (PySem.W.fnOf "_meet_one_way" "_meet_one_way" (defArgs sMeet1) (defBody sMeet1) (defScope sMeet1) .none kV_mo dc_mo pm_mo an_mo cd_mo ct_mo), sl_mo⟩)
    (c_mo : PySem.W.codeIn K cd_mo "_meet_one_way" = true)
    (k_mo : PySem.W.keepIn K (.ref f_mo) = true)
    (a_ck : PySem.W.nsIn K mainGlobals "_check_handlers" = some (some (.ref f_ck)))
    (l_ck : K.lookup f_ck = some ⟨oc_ck, od_ck, .func (PySem.W.fnOf "_check_handlers" "_check_handlers" (defArgs sChkH) (defBody sChkH) (defScope sChkH) .none kV_ck dc_ck pm_ck an_ck cd_ck ct_ck), sl_ck⟩)
    (c_ck : PySem.W.codeIn K cd_ck "_check_handlers" = true)
    (k_ck : PySem.W.keepIn K (.ref f_ck) = true)
    (a_pa : PySem.W.nsIn K mainGlobals "_pairs_of" = some (some (.ref f_pa)))
    (l_pa : K.lookup f_pa = some ⟨oc_pa, od_pa, .func (PySem.W.fnOf "_pairs_of" "_pairs_of" (defArgs sPairs) (defBody sPairs) (defScope sPairs) .none kV_pa dc_pa pm_pa an_pa cd_pa ct_pa), sl_pa⟩)
    (c_pa : PySem.W.codeIn K cd_pa "_pairs_of" = true)
    (k_pa : PySem.W.keepIn K (.ref f_pa) = true)
    (a_pe : PySem.W.nsIn K mainGlobals "_law_pen" = some (some (.ref f_pe)))
    (l_pe : K.lookup f_pe = some ⟨oc_pe, od_pe, .func (PySem.W.fnOf "_law_pen" "_law_pen" (defArgs sPen) (defBody sPen) (defScope sPen) .none kV_pe dc_pe pm_pe an_pe cd_pe ct_pe), sl_pe⟩)
    (c_pe : PySem.W.codeIn K cd_pe "_law_pen" = true)
    (k_pe : PySem.W.keepIn K (.ref f_pe) = true)
    (a_dr : PySem.W.nsIn K mainGlobals "_law_draw" = some (some (.ref f_dr)))
    (l_dr : K.lookup f_dr = some ⟨oc_dr, od_dr, .func (PySem.W.fnOf "_law_draw" "_law_draw" (defArgs sDraw) (defBody sDraw) (defScope sDraw) .none kV_dr dc_dr pm_dr an_dr cd_dr ct_dr), sl_dr⟩)
    (c_dr : PySem.W.codeIn K cd_dr "_law_draw" = true)
    (k_dr : PySem.W.keepIn K (.ref f_dr) = true)
    (a_pi : PySem.W.nsIn K mainGlobals "_law_pick" = some (some (.ref f_pi)))
    (l_pi : K.lookup f_pi = some ⟨oc_pi, od_pi, .func (PySem.W.fnOf "_law_pick" "_law_pick" (defArgs sPick) (defBody sPick) (defScope sPick) .none kV_pi dc_pi pm_pi an_pi cd_pi ct_pi), sl_pi⟩)
    (c_pi : PySem.W.codeIn K cd_pi "_law_pick" = true)
    (k_pi : PySem.W.keepIn K (.ref f_pi) = true)
    (a_mx : PySem.W.nsIn K mainGlobals "_law_mixed" = some (some (.ref f_mx)))
    (l_mx : K.lookup f_mx = some ⟨oc_mx, od_mx, .func (PySem.W.fnOf "_law_mixed" "_law_mixed" (defArgs sMixed) (defBody sMixed) (defScope sMixed) .none kV_mx dc_mx pm_mx an_mx cd_mx ct_mx), sl_mx⟩)
    (c_mx : PySem.W.codeIn K cd_mx "_law_mixed" = true)
    (k_mx : PySem.W.keepIn K (.ref f_mx) = true)
    (a_ro : PySem.W.nsIn K mainGlobals "_law_rows" = some (some (.ref f_ro)))
    (l_ro : K.lookup f_ro = some ⟨oc_ro, od_ro, .func (PySem.W.fnOf "_law_rows" "_law_rows" (defArgs sRows) (defBody sRows) (defScope sRows) .none kV_ro dc_ro pm_ro an_ro cd_ro ct_ro), sl_ro⟩)
    (c_ro : PySem.W.codeIn K cd_ro "_law_rows" = true)
    (k_ro : PySem.W.keepIn K (.ref f_ro) = true)
    (a_ma : PySem.W.nsIn K mainGlobals "_law_made" = some (some (.ref f_ma)))
    (l_ma : K.lookup f_ma = some ⟨oc_ma, od_ma, .func (PySem.W.fnOf "_law_made" "_law_made" (defArgs sMade) (defBody sMade) (defScope sMade) .none kV_ma dc_ma pm_ma an_ma cd_ma ct_ma), sl_ma⟩)
    (c_ma : PySem.W.codeIn K cd_ma "_law_made" = true)
    (k_ma : PySem.W.keepIn K (.ref f_ma) = true)
    (a_st : PySem.W.nsIn K mainGlobals "_law_stacked" = some (some (.ref f_st)))
    (l_st : K.lookup f_st = some ⟨oc_st, od_st, .func (PySem.W.fnOf "_law_stacked" "_law_stacked" (defArgs sStacked) (defBody sStacked) (defScope sStacked) .none kV_st dc_st pm_st an_st cd_st ct_st), sl_st⟩)
    (c_st : PySem.W.codeIn K cd_st "_law_stacked" = true)
    (k_st : PySem.W.keepIn K (.ref f_st) = true)
    (a_me : PySem.W.nsIn K mainGlobals "_law_meet" = some (some (.ref f_me)))
    (l_me : K.lookup f_me = some ⟨oc_me, od_me, .func (PySem.W.fnOf "_law_meet" "_law_meet" (defArgs sLMeet) (defBody sLMeet) (defScope sLMeet) .none kV_me dc_me pm_me an_me cd_me ct_me), sl_me⟩)
    (c_me : PySem.W.codeIn K cd_me "_law_meet" = true)
    (k_me : PySem.W.keepIn K (.ref f_me) = true)
    (a_nm : PySem.W.nsIn K mainGlobals "_law_named" = some (some (.ref f_nm)))
    (l_nm : K.lookup f_nm = some ⟨oc_nm, od_nm, .func (PySem.W.fnOf "_law_named" "_law_named" (defArgs sNamed) (defBody sNamed) (defScope sNamed) .none kV_nm dc_nm pm_nm an_nm cd_nm ct_nm), sl_nm⟩)
    (c_nm : PySem.W.codeIn K cd_nm "_law_named" = true)
    (k_nm : PySem.W.keepIn K (.ref f_nm) = true)
    (a_tw : PySem.W.nsIn K mainGlobals "_law_two" = some (some (.ref f_tw)))
    (l_tw : K.lookup f_tw = some ⟨oc_tw, od_tw, .func (PySem.W.fnOf "_law_two" "_law_two" (defArgs sTwo) (defBody sTwo) (defScope sTwo) .none kV_tw dc_tw pm_tw an_tw cd_tw ct_tw), sl_tw⟩)
    (c_tw : PySem.W.codeIn K cd_tw "_law_two" = true)
    (k_tw : PySem.W.keepIn K (.ref f_tw) = true)
    (a_ri : PySem.W.nsIn K mainGlobals "_law_right" = some (some (.ref f_ri)))
    (l_ri : K.lookup f_ri = some ⟨oc_ri, od_ri, .func (PySem.W.fnOf "_law_right" "_law_right" (defArgs sRight) (defBody sRight) (defScope sRight) .none kV_ri dc_ri pm_ri an_ri cd_ri ct_ri), sl_ri⟩)
    (c_ri : PySem.W.codeIn K cd_ri "_law_right" = true)
    (k_ri : PySem.W.keepIn K (.ref f_ri) = true)
    (a_ip : PySem.W.nsIn K mainGlobals "_law_is_part" = some (some (.ref f_ip)))
    (l_ip : K.lookup f_ip = some ⟨oc_ip, od_ip, .func (PySem.W.fnOf "_law_is_part" "_law_is_part" (defArgs sIsPart) (defBody sIsPart) (defScope sIsPart) .none kV_ip dc_ip pm_ip an_ip cd_ip ct_ip), sl_ip⟩)
    (c_ip : PySem.W.codeIn K cd_ip "_law_is_part" = true)
    (k_ip : PySem.W.keepIn K (.ref f_ip) = true)
    (a_pr : PySem.W.nsIn K mainGlobals "_law_parts_right" = some (some (.ref f_pr)))
    (l_pr : K.lookup f_pr = some ⟨oc_pr, od_pr, .func (PySem.W.fnOf "_law_parts_right" "_law_parts_right" (defArgs sPartsR) (defBody sPartsR) (defScope sPartsR) .none kV_pr dc_pr pm_pr an_pr cd_pr ct_pr), sl_pr⟩)
    (c_pr : PySem.W.codeIn K cd_pr "_law_parts_right" = true)
    (k_pr : PySem.W.keepIn K (.ref f_pr) = true)
    (a_la : PySem.W.nsIn K mainGlobals "law" = some (some (.ref f_la)))
    (l_la : K.lookup f_la = some ⟨oc_la, od_la, .func (PySem.W.fnOf "law" "law" (defArgs sLaw) (defBody sLaw) (defScope sLaw) .none kV_la dc_la pm_la an_la cd_la ct_la), sl_la⟩)
    (c_la : PySem.W.codeIn K cd_la "law" = true)
    (k_la : PySem.W.keepIn K (.ref f_la) = true)
    (g_c0 : PySem.W.nsIn K mainGlobals "Cell" = some (some (.ref c0)))
    (g_c1 : PySem.W.nsIn K mainGlobals "Log" = some (some (.ref c1)))
    (g_c2 : PySem.W.nsIn K mainGlobals "Failure" = some (some (.ref c2)))
    (g_c3 : PySem.W.nsIn K mainGlobals "Choice" = some (some (.ref c3)))
    (g_bN : PySem.W.nsIn K mainGlobals "Named" = some (some (.ref bN)))
    (g_bK : PySem.W.nsIn K mainGlobals "Keeping" = some (some (.ref bK)))
    (g_bT : PySem.W.nsIn K mainGlobals "Turning" = some (some (.ref bT)))
    (g_bH : PySem.W.nsIn K mainGlobals "Handler" = some (some (.ref bH)))
    (g_cS : PySem.W.nsIn K mainGlobals "Stack" = some (some (.ref cS)))
    (m_i0 : PySem.W.findIn K (.ref c0) "__init__" = some (some (.ref f_i0)))
    (l_i0 : K.lookup f_i0 = some ⟨oc_i0, od_i0, .func (PySem.W.fnOf "__init__" "Cell.__init__" (defArgs sCellI) (defBody sCellI) (defScope sCellI) (.ref T0) kV_i0 dc_i0 pm_i0 an_i0 cd_i0 ct_i0), sl_i0⟩)
    (c_i0 : PySem.W.codeIn K cd_i0 "Cell.__init__" = true)
    (k_i0 : PySem.W.keepIn K (.ref f_i0) = true)
    (n_i0 : PySem.W.isFn K (.ref f_i0) = true)
    (m_i1 : PySem.W.findIn K (.ref c1) "__init__" = some (some (.ref f_i1)))
    (l_i1 : K.lookup f_i1 = some ⟨oc_i1, od_i1, .func (PySem.W.fnOf "__init__" "Log.__init__" (defArgs sLogI) (defBody sLogI) (defScope sLogI) .none kV_i1 dc_i1 pm_i1 an_i1 cd_i1 ct_i1), sl_i1⟩)
    (c_i1 : PySem.W.codeIn K cd_i1 "Log.__init__" = true)
    (k_i1 : PySem.W.keepIn K (.ref f_i1) = true)
    (n_i1 : PySem.W.isFn K (.ref f_i1) = true)
    (m_i2 : PySem.W.findIn K (.ref c2) "__init__" = some (some (.ref f_i2)))
    (l_i2 : K.lookup f_i2 = some ⟨oc_i2, od_i2, .func (PySem.W.fnOf "__init__" "Failure.__init__" (defArgs sFailI) (defBody sFailI) (defScope sFailI) .none kV_i2 dc_i2 pm_i2 an_i2 cd_i2 ct_i2), sl_i2⟩)
    (c_i2 : PySem.W.codeIn K cd_i2 "Failure.__init__" = true)
    (k_i2 : PySem.W.keepIn K (.ref f_i2) = true)
    (n_i2 : PySem.W.isFn K (.ref f_i2) = true)
    (m_i3 : PySem.W.findIn K (.ref c3) "__init__" = some (some (.ref f_i3)))
    (l_i3 : K.lookup f_i3 = some ⟨oc_i3, od_i3, .func (PySem.W.fnOf "__init__" "Choice.__init__" (defArgs sChoI) (defBody sChoI) (defScope sChoI) .none kV_i3 dc_i3 pm_i3 an_i3 cd_i3 ct_i3), sl_i3⟩)
    (c_i3 : PySem.W.codeIn K cd_i3 "Choice.__init__" = true)
    (k_i3 : PySem.W.keepIn K (.ref f_i3) = true)
    (n_i3 : PySem.W.isFn K (.ref f_i3) = true)
    (m_e0 : PySem.W.findIn K (.ref c0) "__eq__" = some (some (.ref f_e0)))
    (l_e0 : K.lookup f_e0 = some ⟨oc_e0, od_e0, .func (PySem.W.fnOf "__eq__" "Cell.__eq__" (defArgs sCellE) (defBody sCellE) (defScope sCellE) .none kV_e0 dc_e0 pm_e0 an_e0 cd_e0 ct_e0), sl_e0⟩)
    (c_e0 : PySem.W.codeIn K cd_e0 "Cell.__eq__" = true)
    (k_e0 : PySem.W.keepIn K (.ref f_e0) = true)
    (n_e0 : PySem.W.isFn K (.ref f_e0) = true)
    (m_e1 : PySem.W.findIn K (.ref c1) "__eq__" = some (some (.ref f_e1)))
    (l_e1 : K.lookup f_e1 = some ⟨oc_e1, od_e1, .func (PySem.W.fnOf "__eq__" "Log.__eq__" (defArgs sLogE) (defBody sLogE) (defScope sLogE) .none kV_e1 dc_e1 pm_e1 an_e1 cd_e1 ct_e1), sl_e1⟩)
    (c_e1 : PySem.W.codeIn K cd_e1 "Log.__eq__" = true)
    (k_e1 : PySem.W.keepIn K (.ref f_e1) = true)
    (n_e1 : PySem.W.isFn K (.ref f_e1) = true)
    (m_e2 : PySem.W.findIn K (.ref c2) "__eq__" = some (some (.ref f_e2)))
    (l_e2 : K.lookup f_e2 = some ⟨oc_e2, od_e2, .func (PySem.W.fnOf "__eq__" "Failure.__eq__" (defArgs sFailE) (defBody sFailE) (defScope sFailE) .none kV_e2 dc_e2 pm_e2 an_e2 cd_e2 ct_e2), sl_e2⟩)
    (c_e2 : PySem.W.codeIn K cd_e2 "Failure.__eq__" = true)
    (k_e2 : PySem.W.keepIn K (.ref f_e2) = true)
    (n_e2 : PySem.W.isFn K (.ref f_e2) = true)
    (m_e3 : PySem.W.findIn K (.ref c3) "__eq__" = some (some (.ref f_e3)))
    (l_e3 : K.lookup f_e3 = some ⟨oc_e3, od_e3, .func (PySem.W.fnOf "__eq__" "Choice.__eq__" (defArgs sChoE) (defBody sChoE) (defScope sChoE) .none kV_e3 dc_e3 pm_e3 an_e3 cd_e3 ct_e3), sl_e3⟩)
    (c_e3 : PySem.W.codeIn K cd_e3 "Choice.__eq__" = true)
    (k_e3 : PySem.W.keepIn K (.ref f_e3) = true)
    (n_e3 : PySem.W.isFn K (.ref f_e3) = true)
    (m_mt : PySem.W.findIn K (.ref c0) "meets" = some (some (.ref f_mt)))
    (l_mt : K.lookup f_mt = some ⟨oc_mt, od_mt, .func (PySem.W.fnOf "meets" "Handler.meets" (defArgs sMeets) (defBody sMeets) (defScope sMeets) .none kV_mt dc_mt pm_mt an_mt cd_mt ct_mt), sl_mt⟩)
    (c_mt : PySem.W.codeIn K cd_mt "Handler.meets" = true)
    (k_mt : PySem.W.keepIn K (.ref f_mt) = true)
    (n_mt : PySem.W.isFn K (.ref f_mt) = true)
    (m_si : PySem.W.findIn K (.ref cS) "__init__" = some (some (.ref f_si)))
    (l_si : K.lookup f_si = some ⟨oc_si, od_si, .func (PySem.W.fnOf "__init__" "Stack.__init__" (defArgs (sStk 0)) (defBody (sStk 0)) (defScope (sStk 0)) .none kV_si dc_si pm_si an_si cd_si ct_si), sl_si⟩)
    (c_si : PySem.W.codeIn K cd_si "Stack.__init__" = true)
    (k_si : PySem.W.keepIn K (.ref f_si) = true)
    (n_si : PySem.W.isFn K (.ref f_si) = true)
    (m_sp : PySem.W.findIn K (.ref cS) "place" = some (some (.ref f_sp)))
    (l_sp : K.lookup f_sp = some ⟨oc_sp, od_sp, .func (PySem.W.fnOf "place" "Stack.place" (defArgs (sStk 9)) (defBody (sStk 9)) (defScope (sStk 9)) .none kV_sp dc_sp pm_sp an_sp cd_sp ct_sp), sl_sp⟩)
    (c_sp : PySem.W.codeIn K cd_sp "Stack.place" = true)
    (k_sp : PySem.W.keepIn K (.ref f_sp) = true)
    (n_sp : PySem.W.isFn K (.ref f_sp) = true)
    (m_sb : PySem.W.findIn K (.ref cS) "taken_back" = some (some (.ref f_sb)))
    (l_sb : K.lookup f_sb = some ⟨oc_sb, od_sb, .func (PySem.W.fnOf "taken_back" "Stack.taken_back" (defArgs (sStk 12)) (defBody (sStk 12)) (defScope (sStk 12)) .none kV_sb dc_sb pm_sb an_sb cd_sb ct_sb), sl_sb⟩)
    (c_sb : PySem.W.codeIn K cd_sb "Stack.taken_back" = true)
    (k_sb : PySem.W.keepIn K (.ref f_sb) = true)
    (n_sb : PySem.W.isFn K (.ref f_sb) = true)
    (m_sk : PySem.W.findIn K (.ref cS) "kept" = some (some (.ref f_sk)))
    (l_sk : K.lookup f_sk = some ⟨oc_sk, od_sk, .func (PySem.W.fnOf "kept" "Stack.kept" (defArgs (sStk 13)) (defBody (sStk 13)) (defScope (sStk 13)) .none kV_sk dc_sk pm_sk an_sk cd_sk ct_sk), sl_sk⟩)
    (c_sk : PySem.W.codeIn K cd_sk "Stack.kept" = true)
    (k_sk : PySem.W.keepIn K (.ref f_sk) = true)
    (n_sk : PySem.W.isFn K (.ref f_sk) = true)
    (m_sl : PySem.W.findIn K (.ref cS) "__le__" = some (some (.ref f_sl)))
    (l_sl : K.lookup f_sl = some ⟨oc_sl, od_sl, .func (PySem.W.fnOf "__le__" "Stack.__le__" (defArgs (sStk 22)) (defBody (sStk 22)) (defScope (sStk 22)) .none kV_sl dc_sl pm_sl an_sl cd_sl ct_sl), sl_sl⟩)
    (c_sl : PySem.W.codeIn K cd_sl "Stack.__le__" = true)
    (k_sl : PySem.W.keepIn K (.ref f_sl) = true)
    (n_sl : PySem.W.isFn K (.ref f_sl) = true)
    (m_sf : PySem.W.findIn K (.ref cS) "_failure_place" = some (some (.ref f_sf)))
    (l_sf : K.lookup f_sf = some ⟨oc_sf, od_sf, .func (PySem.W.fnOf "_failure_place" "Stack._failure_place" (defArgs (sStk 26)) (defBody (sStk 26)) (defScope (sStk 26)) .none kV_sf dc_sf pm_sf an_sf cd_sf ct_sf), sl_sf⟩)
    (c_sf : PySem.W.codeIn K cd_sf "Stack._failure_place" = true)
    (k_sf : PySem.W.keepIn K (.ref f_sf) = true)
    (n_sf : PySem.W.isFn K (.ref f_sf) = true)
    (mt1 : PySem.W.findIn K (.ref c1) "meets" = some (some (.ref f_mt)))
    (mt2 : PySem.W.findIn K (.ref c2) "meets" = some (some (.ref f_mt)))
    (mt3 : PySem.W.findIn K (.ref c3) "meets" = some (some (.ref f_mt)))
    (cm_of : PySem.W.findCls K (.ref cS) (.type "type") "of" = some (.get (.builtin "staticmethod.__get__") (.ref p_of) .none (.ref cS)))
    (rc_of : PySem.W.recIn K p_of "staticmethod" = some (.ref f_of :: rs_of))
    (l_of : K.lookup f_of = some ⟨oc_of, od_of, .func (PySem.W.fnOf "of" "Stack.of" (defArgs (sStk 1)) (defBody (sStk 1)) (defScope (sStk 1)) .none kV_of dc_of pm_of an_of cd_of ct_of), sl_of⟩)
    (c_of : PySem.W.codeIn K cd_of "Stack.of" = true)
    (k_of : PySem.W.keepIn K (.ref f_of) = true)
    (lT0 : K.lookup T0 = some ⟨oT0, dT0, .seq #[.int 2 t2d] nT0, slT0⟩)
    (gL : PySem.W.nsIn K mainGlobals "LETTERS" = some (some (.str LT tl)))
    (eL : decide (LT = abc) = true)
    (gLo : PySem.W.nsIn K mainGlobals "LONGEST" = some (some (.int 8 tn)))
    (gK : PySem.W.nsIn K mainGlobals "KEPT_WORDS" = some (some (.ref aK)))
    (lK0 : K.lookup aK = some ⟨.type "tuple", dK0, .seq itsK nTu, slTu⟩)
    (vK : sayB kept itsK.toList = true)
    (zK : decide (itsK.size ≤ sizeLine) = true)
    (gLi : PySem.W.nsIn K mainGlobals "LIMITS" = some (some (.ref aL)))
    (lL0 : K.lookup aL = some ⟨.type "tuple", dL0, .seq #[.ref b0, .ref b1, .ref b2] nL0, slL0⟩)
    (lb0 : K.lookup b0 = some ⟨.type "tuple", d0, .seq #[.str "cell" u0, .str "cells" u1, .int 4 u2] n0, sl0⟩)
    (lb1 : K.lookup b1 = some ⟨.type "tuple", d1, .seq #[.str "log" u3, .str "logs" u4, .int 2 u5] n1, sl1⟩)
    (lb2 : K.lookup b2 = some ⟨.type "tuple", d2, .seq #[.str "failure" u6, .str "failures" u7, .int 3 u8] n2, sl2⟩)
    (z_int : PySem.W.nsIn K mainGlobals "int" = some none)
    (z_bool : PySem.W.nsIn K mainGlobals "bool" = some none)
    (z_len : PySem.W.nsIn K mainGlobals "len" = some none)
    (z_abs : PySem.W.nsIn K mainGlobals "abs" = some none)
    (z_list : PySem.W.nsIn K mainGlobals "list" = some none)
    (z_tuple : PySem.W.nsIn K mainGlobals "tuple" = some none)
    (z_dict : PySem.W.nsIn K mainGlobals "dict" = some none)
    (z_range : PySem.W.nsIn K mainGlobals "range" = some none)
    (z_isinstance : PySem.W.nsIn K mainGlobals "isinstance" = some none)
    (z_str : PySem.W.nsIn K mainGlobals "str" = some none)
    (z_all : PySem.W.nsIn K mainGlobals "all" = some none)
    (z_repr : PySem.W.nsIn K mainGlobals "repr" = some none)
    (z_any : PySem.W.nsIn K mainGlobals "any" = some none)
    (z_enumerate : PySem.W.nsIn K mainGlobals "enumerate" = some none)
    (z_set : PySem.W.nsIn K mainGlobals "set" = some none)
    (z_sorted : PySem.W.nsIn K mainGlobals "sorted" = some none)
    (z_ValueError : PySem.W.nsIn K mainGlobals "ValueError" = some none)
    (v0 : PySem.W.findIn K (.ref c0) "WORD" = some (some (.str "cell" tv0)))
    (vg0 : PySem.W.specialIn K (.str "cell" tv0) "__get__" = some none)
    (v1 : PySem.W.findIn K (.ref c1) "WORD" = some (some (.str "log" tv1)))
    (vg1 : PySem.W.specialIn K (.str "log" tv1) "__get__" = some none)
    (v2 : PySem.W.findIn K (.ref c2) "WORD" = some (some (.str "failure" tv2)))
    (vg2 : PySem.W.specialIn K (.str "failure" tv2) "__get__" = some none)
    (v3 : PySem.W.findIn K (.ref c3) "WORD" = some (some (.str "choice" tv3)))
    (vg3 : PySem.W.specialIn K (.str "choice" tv3) "__get__" = some none)
    (vle : PySem.W.findCls K (.ref c0) (.type "type") "LEAST" = some (.val (.int 2 tle)))
    (vmo : PySem.W.findCls K (.ref c0) (.type "type") "MOST" = some (.val (.int 4 tmo)))
    (hB0 : clsB K c0 ["name", "size"] = true)
    (hB1 : clsB K c1 ["name", "size"] = true)
    (hB2 : clsB K c2 ["name", "size"] = true)
    (hB3 : clsB K c3 ["name", "size"] = true)
    (hBS : clsB K cS ["handlers", "names", "shared", "own", "gathering", "pairs"] = true)
    (rd_c0 : rdB K c0 = true)
    (rd_cS : rdB K cS = true)
    (kSS : PySem.W.kitOne K (.ref cS) (.ref cS) = some true)
    (nfS : PySem.W.notFirst K cS (.ref cS) = true)
    (hP : pairB K ⟨c0, c1, c2, c3⟩ bK bT bH = true)
    (hO : objB K = true) :
    ∃ fd : FuncData, Fun K "law" "law" sLaw fa fd ∧ FnScope nLaw ["_law_script"] (defScope sLaw) ∧ (∀ (s : Shared) (u : Value), BindsTo s fd ⟨[u], []⟩ [("_law_script", u)]) ∧ LawBody PySem.Challenge.rw_layerseen_k19_sides_of_stacks w K mg 63 nLaw "law" sLaw fa := by
  have e := hfa.symm.trans (PySem.W.mg_of X G a_la)
  cases e
  have eL' : LT = abc := of_decide_eq_true eL
  subst eL'
  have F_W := fun_mk (st := sWhole) l_W c_W k_W
  have F_D := fun_mk (st := sWord) l_D c_D k_D
  have F_N := fun_mk (st := sName) l_N c_N k_N
  have F_C := fun_mk (st := sCheck) l_C c_C k_C
  have F_as := fun_mk (st := sAsc) l_as c_as k_as
  have F_mo := fun_mk (st := sMeet1) l_mo c_mo k_mo
  have F_ck := fun_mk (st := sChkH) l_ck c_ck k_ck
  have F_pa := fun_mk (st := sPairs) l_pa c_pa k_pa
  have F_pe := fun_mk (st := sPen) l_pe c_pe k_pe
  have F_dr := fun_mk (st := sDraw) l_dr c_dr k_dr
  have F_pi := fun_mk (st := sPick) l_pi c_pi k_pi
  have F_mx := fun_mk (st := sMixed) l_mx c_mx k_mx
  have F_ro := fun_mk (st := sRows) l_ro c_ro k_ro
  have F_ma := fun_mk (st := sMade) l_ma c_ma k_ma
  have F_st := fun_mk (st := sStacked) l_st c_st k_st
  have F_me := fun_mk (st := sLMeet) l_me c_me k_me
  have F_nm := fun_mk (st := sNamed) l_nm c_nm k_nm
  have F_tw := fun_mk (st := sTwo) l_tw c_tw k_tw
  have F_ri := fun_mk (st := sRight) l_ri c_ri k_ri
  have F_ip := fun_mk (st := sIsPart) l_ip c_ip k_ip
  have F_pr := fun_mk (st := sPartsR) l_pr c_pr k_pr
  have F_la := fun_mk (st := sLaw) l_la c_la k_la
  have F_i1 := fun_mk (st := sLogI) l_i1 c_i1 k_i1
  have F_i2 := fun_mk (st := sFailI) l_i2 c_i2 k_i2
  have F_i3 := fun_mk (st := sChoI) l_i3 c_i3 k_i3
  have F_e0 := fun_mk (st := sCellE) l_e0 c_e0 k_e0
  have F_e1 := fun_mk (st := sLogE) l_e1 c_e1 k_e1
  have F_e2 := fun_mk (st := sFailE) l_e2 c_e2 k_e2
  have F_e3 := fun_mk (st := sChoE) l_e3 c_e3 k_e3
  have F_mt := fun_mk (st := sMeets) l_mt c_mt k_mt
  have F_si := fun_mk (st := (sStk 0)) l_si c_si k_si
  have F_sp := fun_mk (st := (sStk 9)) l_sp c_sp k_sp
  have F_sb := fun_mk (st := (sStk 12)) l_sb c_sb k_sb
  have F_sk := fun_mk (st := (sStk 13)) l_sk c_sk k_sk
  have F_sl := fun_mk (st := (sStk 22)) l_sl c_sl k_sl
  have F_sf := fun_mk (st := (sStk 26)) l_sf c_sf k_sf
  have F_of := fun_mk (st := (sStk 1)) l_of c_of k_of
  have B_W := F_W.binds (ps := ["value"]) fun _ _ _ _ _ _ us hl => match us, hl with | [_], _ => rfl
  have B_D := F_D.binds (ps := ["value"]) fun _ _ _ _ _ _ us hl => match us, hl with | [_], _ => rfl
  have B_N := F_N.binds (ps := ["value"]) fun _ _ _ _ _ _ us hl => match us, hl with | [_], _ => rfl
  have B_C := F_C.binds (ps := ["value"]) fun _ _ _ _ _ _ us hl => match us, hl with | [_], _ => rfl
  have B_as := F_as.binds (ps := ["names"]) fun _ _ _ _ _ _ us hl => match us, hl with | [_], _ => rfl
  have B_mo := F_mo.binds (ps := ["one", "other"]) fun _ _ _ _ _ _ us hl => match us, hl with | [_, _], _ => rfl
  have B_ck := F_ck.binds (ps := ["handlers"]) fun _ _ _ _ _ _ us hl => match us, hl with | [_], _ => rfl
  have B_pa := F_pa.binds (ps := ["handlers", "names"]) fun _ _ _ _ _ _ us hl => match us, hl with | [_, _], _ => rfl
  have B_pe := F_pe.binds (ps := ["_law_script"]) fun _ _ _ _ _ _ us hl => match us, hl with | [_], _ => rfl
  have B_dr := F_dr.binds (ps := ["_law_pen_here", "_law_many"]) fun _ _ _ _ _ _ us hl => match us, hl with | [_, _], _ => rfl
  have B_pi := F_pi.binds (ps := ["_law_pen_here", "_law_some"]) fun _ _ _ _ _ _ us hl => match us, hl with | [_, _], _ => rfl
  have B_mx := F_mx.binds (ps := ["_law_pen_here", "_law_some"]) fun _ _ _ _ _ _ us hl => match us, hl with | [_, _], _ => rfl
  have B_ro := F_ro.binds (ps := ["_law_pen_here", "_law_cells", "_law_logs", "_law_failures"]) fun _ _ _ _ _ _ us hl => match us, hl with | [_, _, _, _], _ => rfl
  have B_ma := F_ma.binds (ps := ["_law_row"]) fun _ _ _ _ _ _ us hl => match us, hl with | [_], _ => rfl
  have B_st := F_st.binds (ps := ["_law_rows_here"]) fun _ _ _ _ _ _ us hl => match us, hl with | [_], _ => rfl
  have B_me := F_me.binds (ps := ["_law_row", "_law_other"]) fun _ _ _ _ _ _ us hl => match us, hl with | [_, _], _ => rfl
  have B_nm := F_nm.binds (ps := ["_law_rows_here", "_law_words"]) fun _ _ _ _ _ _ us hl => match us, hl with | [_, _], _ => rfl
  have B_tw := F_tw.binds (ps := ["_law_rows_here"]) fun _ _ _ _ _ _ us hl => match us, hl with | [_], _ => rfl
  have B_ri := F_ri.binds (ps := ["_law_made_here", "_law_rows_here"]) fun _ _ _ _ _ _ us hl => match us, hl with | [_, _], _ => rfl
  have B_ip := F_ip.binds (ps := ["_law_rows_here", "_law_others"]) fun _ _ _ _ _ _ us hl => match us, hl with | [_, _], _ => rfl
  have B_pr := F_pr.binds (ps := ["_law_pen_here", "_law_rows_here"]) fun _ _ _ _ _ _ us hl => match us, hl with | [_, _], _ => rfl
  have B_i1 := F_i1.binds (ps := ["self", "name"]) fun _ _ _ _ _ _ us hl => match us, hl with | [_, _], _ => rfl
  have B_i2 := F_i2.binds (ps := ["self", "name"]) fun _ _ _ _ _ _ us hl => match us, hl with | [_, _], _ => rfl
  have B_i3 := F_i3.binds (ps := ["self"]) fun _ _ _ _ _ _ us hl => match us, hl with | [_], _ => rfl
  have B_e0 := F_e0.binds (ps := ["self", "other"]) fun _ _ _ _ _ _ us hl => match us, hl with | [_, _], _ => rfl
  have B_e1 := F_e1.binds (ps := ["self", "other"]) fun _ _ _ _ _ _ us hl => match us, hl with | [_, _], _ => rfl
  have B_e2 := F_e2.binds (ps := ["self", "other"]) fun _ _ _ _ _ _ us hl => match us, hl with | [_, _], _ => rfl
  have B_e3 := F_e3.binds (ps := ["self", "other"]) fun _ _ _ _ _ _ us hl => match us, hl with | [_, _], _ => rfl
  have B_mt := F_mt.binds (ps := ["self", "other"]) fun _ _ _ _ _ _ us hl => match us, hl with | [_, _], _ => rfl
  have B_sp := F_sp.binds (ps := ["self", "name"]) fun _ _ _ _ _ _ us hl => match us, hl with | [_, _], _ => rfl
  have B_sb := F_sb.binds (ps := ["self", "name"]) fun _ _ _ _ _ _ us hl => match us, hl with | [_, _], _ => rfl
  have B_sk := F_sk.binds (ps := ["self", "name"]) fun _ _ _ _ _ _ us hl => match us, hl with | [_, _], _ => rfl
  have B_sl := F_sl.binds (ps := ["self", "other"]) fun _ _ _ _ _ _ us hl => match us, hl with | [_, _], _ => rfl
  have B_sf := F_sf.binds (ps := ["self", "name"]) fun _ _ _ _ _ _ us hl => match us, hl with | [_, _], _ => rfl
  have B_of := F_of.binds (ps := ["handlers"]) fun _ _ _ _ _ _ us hl => match us, hl with | [_], _ => rfl
  have T : Txt mg := ⟨PySem.W.mg_none_of X G z_int, PySem.W.mg_none_of X G z_bool, PySem.W.mg_none_of X G z_len, PySem.W.mg_none_of X G z_abs, PySem.W.mg_none_of X G z_list, PySem.W.mg_none_of X G z_tuple, PySem.W.mg_none_of X G z_dict, PySem.W.mg_none_of X G z_range, PySem.W.mg_none_of X G z_isinstance, PySem.W.mg_none_of X G z_str, PySem.W.mg_none_of X G z_all, PySem.W.mg_none_of X G z_repr, PySem.W.mg_none_of X G z_any, PySem.W.mg_none_of X G z_enumerate, PySem.W.mg_none_of X G z_set, PySem.W.mg_none_of X G z_sorted, PySem.W.mg_none_of X G z_ValueError⟩
  have FD0 : FunD K "__init__" "Cell.__init__" (defArgs sCellI) (defBody sCellI) (defScope sCellI) [.int 2] [] f_i0 _ := ⟨⟨oc_i0, od_i0, .ref T0, kV_i0, dc_i0, pm_i0, an_i0, cd_i0, ct_i0, sl_i0, rfl, l_i0, c_i0, .inr ⟨by simp, T0, _, [.int 2 t2d], nT0, rfl, lT0, rfl, .cons ⟨t2d, rfl⟩ .nil⟩, .inl rfl⟩, k_i0⟩
  have tK : ∀ H, SqT K H aK (kept.map V.str) := fun H => .inr ⟨_, itsK, nTu, lK0, rfl, rfl, of_decide_eq_true zK, say_of _ _ vK⟩
  have Li : Lims K mg aL b0 b1 b2 := ⟨PySem.W.mg_of X G gLi, fun H => .inr ⟨_, #[.ref b0, .ref b1, .ref b2], nL0, lL0, rfl, rfl, (by show 3 ≤ sizeLine; decide), .cons rfl (.cons rfl (.cons rfl .nil))⟩,
    fun H => .inr ⟨_, #[.str "cell" u0, .str "cells" u1, .int 4 u2], n0, lb0, rfl, rfl, (by show 3 ≤ sizeLine; decide), .cons ⟨u0, rfl⟩ (.cons ⟨u1, rfl⟩ (.cons ⟨u2, rfl⟩ .nil))⟩,
    fun H => .inr ⟨_, #[.str "log" u3, .str "logs" u4, .int 2 u5], n1, lb1, rfl, rfl, (by show 3 ≤ sizeLine; decide), .cons ⟨u3, rfl⟩ (.cons ⟨u4, rfl⟩ (.cons ⟨u5, rfl⟩ .nil))⟩,
    fun H => .inr ⟨_, #[.str "failure" u6, .str "failures" u7, .int 3 u8], n2, lb2, rfl, rfl, (by show 3 ≤ sizeLine; decide), .cons ⟨u6, rfl⟩ (.cons ⟨u7, rfl⟩ (.cons ⟨u8, rfl⟩ .nil))⟩⟩
  obtain ⟨dsA, vA, B_i0⟩ := FD0.binds1 (ps := ["self", "name", "size"]) 3 1 (by simp) rfl (fun T kV doc pm an cdv ct us its e1 e2 => match us, its, e1, e2 with | [_, _, _], [_], _, _ => ⟨_, rfl, rfl⟩)
  obtain rfl : dsA = [] := by cases vA; rfl
  obtain ⟨p1, p2, p3, p4, p5, p6, p7, p8, p9⟩ := pair_mk hP
  have C0 := cls_mk hB0
  have C1 := cls_mk hB1
  have C2 := cls_mk hB2
  have C3 := cls_mk hB3
  have CS := cls_mk hBS
  have hO' := hO
  unfold objB at hO'
  simp only [Bool.and_eq_true, decide_eq_true_eq] at hO'
  have H0' : HCls K mg "Cell" c0 := ⟨PySem.W.mg_of X G g_c0, C0.c, C0.no _ (by simp), C0.no _ (by simp)⟩
  have H1' : HCls K mg "Log" c1 := ⟨PySem.W.mg_of X G g_c1, C1.c, C1.no _ (by simp), C1.no _ (by simp)⟩
  have H2' : HCls K mg "Failure" c2 := ⟨PySem.W.mg_of X G g_c2, C2.c, C2.no _ (by simp), C2.no _ (by simp)⟩
  have H3' : HCls K mg "Choice" c3 := ⟨PySem.W.mg_of X G g_c3, C3.c, C3.no _ (by simp), C3.no _ (by simp)⟩
  have S : Hand K mg ⟨c0, c1, c2, c3⟩ := ⟨H0', H1', H2', H3', fun i hi => match i, hi with | 0, _ => C0.dc | 1, _ => C1.dc | 2, _ => C2.dc | 3, _ => C3.dc, fun i hi => match i, hi with | 0, _ => C0.mo | 1, _ => C1.mo | 2, _ => C2.mo | 3, _ => C3.mo, hO'.1, hO'.2, p1⟩
  have Ba : Bases K mg ⟨c0, c1, c2, c3⟩ bN bK bT bH := ⟨PySem.W.mg_of X G g_bN, PySem.W.mg_of X G g_bK, PySem.W.mg_of X G g_bT, PySem.W.mg_of X G g_bH, p3, p4, p5, p6, p7, p8, p9⟩
  have WC : WCon K ⟨c0, c1, c2, c3⟩ := fun i hi => match i, hi with | 0, _ => ⟨_, v0, ⟨_, rfl⟩, vg0, by decide +kernel⟩ | 1, _ => ⟨_, v1, ⟨_, rfl⟩, vg1, by decide +kernel⟩ | 2, _ => ⟨_, v2, ⟨_, rfl⟩, vg2, by decide +kernel⟩ | 3, _ => ⟨_, v3, ⟨_, rfl⟩, vg3, by decide +kernel⟩
  have SC : SCls K mg cS := ⟨PySem.W.mg_of X G g_cS, CS.c, CS.no⟩
  have Si : SIs K cS := ⟨CS.dc, CS.mo, kSS⟩
  have MS : Mk K cS f_si := ⟨CS.ms, m_si, n_si, CS.kp⟩
  have SM : SMet K cS (.type "type") "of" p_of f_of := ⟨rd_mk rd_cS, cm_of, ⟨_, rc_of⟩, k_of⟩
  refine ⟨_, F_la, scLaw, fun s v => .of_eq rfl, ?_⟩
  refine law_body (A := ⟨c0, c1, c2, c3⟩) (C := cS) (fI := f_si) (fX := (q5 f_pe f_ro f_st f_ri f_pr)) (dX := (q5 (fdOf F_pe) (fdOf F_ro) (fdOf F_st) (fdOf F_ri) (fdOf F_pr))) fun base hKb hNb => ?_
  have G_D : FnOk PR w K mg base CX0 1 f_D (fdOf F_D) ["value"] (spWord K wd) := ok_word F_D T (PySem.W.mg_of X G gL) (PySem.W.mg_of X G gLo)
  have G_N : FnOk PR w K mg base CX0 2 f_N (fdOf F_N) ["value"] (spWord K nm) := ok_name F_N F_D B_D (PySem.W.mg_of X G a_D) G_D (PySem.W.mg_of X G gK) tK
  have G_C : FnOk PR w K mg base CX0 3 f_C (fdOf F_C) ["value"] spCheck := ok_check F_C F_N B_N (PySem.W.mg_of X G a_N) G_N
  have G_W : FnOk PR w K mg base CX0 1 f_W (fdOf F_W) ["value"] spWhole := ok_whole F_W T
  have G_i0 : FnOk PR w K mg base CX0 4 f_i0 (fdD FD0) ["self", "name", "size"] (spCellI c0) := ok_cellI FD0 H0' F_C B_C (PySem.W.mg_of X G a_C) G_C F_W B_W (PySem.W.mg_of X G a_W) G_W (rd_mk rd_c0) ⟨vle, ⟨_, rfl⟩⟩ ⟨vmo, ⟨_, rfl⟩⟩
  have G_i1 : FnOk PR w K mg base CX0 4 f_i1 (fdOf F_i1) ["self", "name"] (spNamed c1) := ok_logI F_i1 H1' F_C B_C (PySem.W.mg_of X G a_C) G_C
  have G_i2 : FnOk PR w K mg base CX0 4 f_i2 (fdOf F_i2) ["self", "name"] (spNamed c2) := ok_failI F_i2 H2' F_C B_C (PySem.W.mg_of X G a_C) G_C
  have G_i3 : FnOk PR w K mg base CX0 1 f_i3 (fdOf F_i3) ["self"] (spChoI c3) := ok_choI F_i3 H3'
  have MH : MkH PR w K mg base (⟨c0, c1, c2, c3⟩ : A4) (t4 f_i0 f_i1 f_i2 f_i3) (t4 (fdD FD0) (fdOf F_i1) (fdOf F_i2) (fdOf F_i3)) := ⟨⟨C0.ms, m_i0, n_i0, C0.kp⟩, B_i0, G_i0, ⟨C1.ms, m_i1, n_i1, C1.kp⟩, B_i1, G_i1, ⟨C2.ms, m_i2, n_i2, C2.kp⟩, B_i2, G_i2, ⟨C3.ms, m_i3, n_i3, C3.kp⟩, B_i3, G_i3⟩
  have G_mo : FnOk PR w K mg base CX0 1 f_mo (fdOf F_mo) ["one", "other"] (spOneWay K (⟨c0, c1, c2, c3⟩ : A4) bK bT) := ok_oneWay F_mo S T Ba
  have G_mt : FnOk PR w K mg base CX0 2 f_mt (fdOf F_mt) ["self", "other"] (spMeets K (⟨c0, c1, c2, c3⟩ : A4) bK bT) := ok_meets F_mt F_mo B_mo (PySem.W.mg_of X G a_mo) G_mo
  have MM : MeetK PR w K mg base (⟨c0, c1, c2, c3⟩ : A4) bK bT f_mt (fdOf F_mt) := ⟨fun i hi => match i, hi with | 0, _ => ⟨m_mt, n_mt, k_mt⟩ | 1, _ => ⟨mt1, n_mt, k_mt⟩ | 2, _ => ⟨mt2, n_mt, k_mt⟩ | 3, _ => ⟨mt3, n_mt, k_mt⟩, B_mt, G_mt⟩
  have G_as : FnOk PR w K mg base CX0 1 f_as (fdOf F_as) ["names"] (spAsc K) := ok_asc F_as T
  have G_ck : FnOk PR w K mg base CX0 1 f_ck (fdOf F_ck) ["handlers"] (spChk K (⟨c0, c1, c2, c3⟩ : A4)) := ok_chk F_ck S T Ba WC Li
  have G_pa : FnOk PR w K mg base CX0 3 f_pa (fdOf F_pa) ["handlers", "names"] (spPairs (⟨c0, c1, c2, c3⟩ : A4)) := ok_pairs F_pa S T Ba ⟨F_as, B_as, (PySem.W.mg_of X G a_as), G_as⟩ MM
  have G_si : FnR PR w K mg base (L2.CX PR w) 5 f_si (spIni (⟨c0, c1, c2, c3⟩ : A4) cS) := ok_ini F_si ⟨S, T, Ba, SC, ⟨F_ck, B_ck, (PySem.W.mg_of X G a_ck), G_ck⟩, ⟨F_as, B_as, (PySem.W.mg_of X G a_as), G_as⟩, ⟨F_pa, B_pa, (PySem.W.mg_of X G a_pa), G_pa⟩⟩
  have G_of : FnOk PR w K mg base CX0 7 f_of (fdOf F_of) ["handlers"] (spOf (⟨c0, c1, c2, c3⟩ : A4) cS) := ok_of F_of T SC MS G_si
  have G_sp : FnOk PR w K mg base CX0 1 f_sp (fdOf F_sp) ["self", "name"] (spPlace (⟨c0, c1, c2, c3⟩ : A4) cS) := ok_place F_sp SC
  have G_sf : FnOk PR w K mg base CX0 2 f_sf (fdOf F_sf) ["self", "name"] (spFail (⟨c0, c1, c2, c3⟩ : A4) cS) := ok_fail F_sf T S SC ⟨⟨m_sp, n_sp, k_sp⟩, B_sp, G_sp⟩
  have G_sb : FnOk PR w K mg base CX0 3 f_sb (fdOf F_sb) ["self", "name"] (spBack (⟨c0, c1, c2, c3⟩ : A4) cS fun j ks => ks.drop j) := ok_back F_sb T S Ba SC ⟨⟨m_sf, n_sf, k_sf⟩, B_sf, G_sf⟩ ⟨F_as, B_as, (PySem.W.mg_of X G a_as), G_as⟩
  have G_sk : FnOk PR w K mg base CX0 3 f_sk (fdOf F_sk) ["self", "name"] (spBack (⟨c0, c1, c2, c3⟩ : A4) cS fun j ks => ks.take j) := ok_kept F_sk T S Ba SC ⟨⟨m_sf, n_sf, k_sf⟩, B_sf, G_sf⟩ ⟨F_as, B_as, (PySem.W.mg_of X G a_as), G_as⟩
  have Ow : OwnsE PR w K mg base ⟨c0, c1, c2, c3⟩ := fun i hi => match i, hi with
    | 0, _ => ⟨f_e0, _, m_e0, n_e0, B_e0, ok_eqCell F_e0 S T, fun j hj => p2 0 j (by decide) hj⟩
    | 1, _ => ⟨f_e1, _, m_e1, n_e1, B_e1, ok_eqLog F_e1 S T, fun j hj => p2 1 j (by decide) hj⟩
    | 2, _ => ⟨f_e2, _, m_e2, n_e2, B_e2, ok_eqFail F_e2 S T, fun j hj => p2 2 j (by decide) hj⟩
    | 3, _ => ⟨f_e3, _, m_e3, n_e3, B_e3, ok_eqCho F_e3 S T, fun j hj => p2 3 j (by decide) hj⟩
  have G_sl : FnOk PR w K mg base CX0 3 f_sl (fdOf F_sl) ["self", "other"] (spLe (⟨c0, c1, c2, c3⟩ : A4) cS) := ok_le F_sl T S SC Si Ow
  have LB : LeB PR w K mg base (⟨c0, c1, c2, c3⟩ : A4) cS f_sl (fdOf F_sl) := ⟨toG G_sl, m_sl, n_sl, B_sl, nfS, Si⟩
  have G_pe : FnOk PR w K mg base CX0 1 f_pe (fdOf F_pe) ["_law_script"] (spPen K) := ok_pen F_pe T
  have G_dr : FnOk PR w K mg base CX0 1 f_dr (fdOf F_dr) ["_law_pen_here", "_law_many"] spDraw := ok_draw F_dr T
  have G_pi : FnOk PR w K mg base CX0 2 f_pi (fdOf F_pi) ["_law_pen_here", "_law_some"] spPick := ok_pick F_pi T F_dr B_dr (PySem.W.mg_of X G a_dr) G_dr
  have G_mx : FnOk PR w K mg base CX0 2 f_mx (fdOf F_mx) ["_law_pen_here", "_law_some"] (spMixed K) := ok_mixed F_mx T ⟨F_dr, B_dr, (PySem.W.mg_of X G a_dr), G_dr⟩
  have G_ro : FnOk PR w K mg base CX0 3 f_ro (fdOf F_ro) ["_law_pen_here", "_law_cells", "_law_logs", "_law_failures"] spRows := ok_rows F_ro T ⟨F_dr, B_dr, (PySem.W.mg_of X G a_dr), G_dr⟩ ⟨F_mx, B_mx, (PySem.W.mg_of X G a_mx), G_mx⟩
  have G_ma : FnOk PR w K mg base CX0 6 f_ma (fdOf F_ma) ["_law_row"] (spMade (⟨c0, c1, c2, c3⟩ : A4)) := ok_made F_ma S MH
  have G_st : FnOk PR w K mg base CX0 8 f_st (fdOf F_st) ["_law_rows_here"] (spStacked (⟨c0, c1, c2, c3⟩ : A4) cS) := ok_stacked F_st SC ⟨F_ma, B_ma, (PySem.W.mg_of X G a_ma), G_ma⟩ SM B_of G_of
  have G_me : FnOk PR w K mg base CX0 1 f_me (fdOf F_me) ["_law_row", "_law_other"] spMeet2 := ok_lmeet F_me
  have G_tw : FnOk PR w K mg base CX0 2 f_tw (fdOf F_tw) ["_law_rows_here"] spTwo := ok_two F_tw T ⟨F_me, B_me, (PySem.W.mg_of X G a_me), G_me⟩
  have RK : RiK PR w K mg base (⟨c0, c1, c2, c3⟩ : A4) cS f_nm f_tw f_sb f_sk (fdOf F_nm) (fdOf F_tw) (fdOf F_sb) (fdOf F_sk) := { T := T, SC := SC, Nf := F_nm, Nb := B_nm, Ng := (PySem.W.mg_of X G a_nm), NG := fun p => ok_named p F_nm T, Tw := ⟨F_tw, B_tw, (PySem.W.mg_of X G a_tw), G_tw⟩, Bk := ⟨⟨m_sb, n_sb, k_sb⟩, B_sb, G_sb⟩, Km := ⟨m_sk, n_sk, k_sk⟩, Kb := kwTwo F_sk (fun _ _ _ _ _ _ _ _ => rfl) (fun _ _ _ _ _ _ _ _ => rfl), KG := G_sk }
  have G_ri : FnG PR w K mg base CX0 4 f_ri (fdOf F_ri) ["_law_made_here", "_law_rows_here"] (spRight (⟨c0, c1, c2, c3⟩ : A4) cS) := ok_right F_ri RK
  have G_ip : FnOk PR w K mg base CX0 3 f_ip (fdOf F_ip) ["_law_rows_here", "_law_others"] spIsPart := ok_isPart F_ip ⟨F_tw, B_tw, (PySem.W.mg_of X G a_tw), G_tw⟩
  have G_pr : FnG PR w K mg base CX0 9 f_pr (fdOf F_pr) ["_law_pen_here", "_law_rows_here"] spPartsR := ok_partsR F_pr T S SC LB MS G_si ⟨F_dr, B_dr, (PySem.W.mg_of X G a_dr), G_dr⟩ ⟨F_mx, B_mx, (PySem.W.mg_of X G a_mx), G_mx⟩ ⟨F_pi, B_pi, (PySem.W.mg_of X G a_pi), G_pi⟩ ⟨F_st, B_st, (PySem.W.mg_of X G a_st), G_st⟩ ⟨F_ip, B_ip, (PySem.W.mg_of X G a_ip), G_ip⟩
  exact { T := T, SC := SC, M := MS, GI := G_si, pen := ⟨F_pe, B_pe, (PySem.W.mg_of X G a_pe), G_pe⟩, rows := ⟨F_ro, B_ro, (PySem.W.mg_of X G a_ro), G_ro⟩, stk := ⟨F_st, B_st, (PySem.W.mg_of X G a_st), G_st⟩, right := ⟨k_ri, B_ri, (PySem.W.mg_of X G a_ri), G_ri⟩, parts := ⟨k_pr, B_pr, (PySem.W.mg_of X G a_pr), G_pr⟩ }
end My
/-! The head writes an equation for each tree of objects on the way of the top and for each heap, some n * n nodes each, and the compiled file would have 351 MB. These names stand where it would write them: it goes on without them, and the kernel reads those trees as they are. -/
def PySem.W.Fast.tw12775453377858546261 : Unit := ()
def PySem.W.Fast.tw7388714896598662062 : Unit := ()
def PySem.W.Fast.tw43061036719847366 : Unit := ()
def PySem.W.Fast.tw12854329013337205137 : Unit := ()
def PySem.W.Fast.tw2505005169543950266 : Unit := ()
def PySem.W.Fast.tw11419975156234377265 : Unit := ()
def PySem.W.Fast.tw2513516293540225569 : Unit := ()
def PySem.W.Fast.tw14742079418760375608 : Unit := ()
def PySem.W.Fast.tw14373057211150120378 : Unit := ()
def PySem.W.Fast.tw9683843545876448662 : Unit := ()
def PySem.W.Fast.tw17959534174080036149 : Unit := ()
def PySem.W.Fast.tw12706634215307601159 : Unit := ()
def PySem.W.Fast.tw7704342725926988621 : Unit := ()
def PySem.W.Fast.tw13637583875083313354 : Unit := ()
def PySem.W.Fast.tw17884008710552102486 : Unit := ()
def PySem.W.Fast.tw16588418567047578131 : Unit := ()
def PySem.W.Fast.tw7519250888048765456 : Unit := ()
def PySem.W.Fast.tw1049463541263284464 : Unit := ()
def PySem.W.Fast.tw1911596603947092235 : Unit := ()
def PySem.W.Fast.tw5723426785534555940 : Unit := ()
def PySem.W.Fast.tw11923151530160573733 : Unit := ()
def PySem.W.Fast.tw16563108625372057616 : Unit := ()
def PySem.W.Fast.tw7298822440498558391 : Unit := ()
def PySem.W.Fast.tw3144685285060903729 : Unit := ()
def PySem.W.Fast.tw7173131287299792170 : Unit := ()
def PySem.W.Fast.tw1686196246263571593 : Unit := ()
def PySem.W.Fast.tw183267638740908341 : Unit := ()
def PySem.W.Fast.tw8520640138878149413 : Unit := ()
def PySem.W.Fast.tw12600356246048208802 : Unit := ()
def PySem.W.Fast.tw10398275979019421144 : Unit := ()
open PySem PySem.W PyProof.Rows
set_option maxHeartbeats 0 in
theorem PySem.Challenge.cw_layerseen_k19_sides_of_stacks_holds : PySem.Challenge.rw_layerseen_k19_sides_of_stacks.Holds := by
  w_on; o_law; k_head; (case hw => w_witness2)
  k_fill
  refine My.law_top (l := PySem.Challenge.rw_layerseen_k19_sides_of_stacks) (n := 63) (N := My.nLaw) (x := "_law_script") (nm := "law") (qual := "law") (st := My.sLaw) rfl (by decide) rfl (fun w h Y => PySem.W.kIn_of Y) ?Z
  case Z =>
    intro w mg fa h KX G hmg
    refine' My.all_mk KX G hmg ?a_W ?l_W ?c_W ?k_W ?a_D ?l_D ?c_D ?k_D ?a_N ?l_N ?c_N ?k_N ?a_C ?l_C ?c_C ?k_C ?a_as ?l_as ?c_as ?k_as ?a_mo ?l_mo ?c_mo ?k_mo ?a_ck ?l_ck ?c_ck ?k_ck ?a_pa ?l_pa ?c_pa ?k_pa ?a_pe ?l_pe ?c_pe ?k_pe ?a_dr ?l_dr ?c_dr ?k_dr ?a_pi ?l_pi ?c_pi ?k_pi ?a_mx ?l_mx ?c_mx ?k_mx ?a_ro ?l_ro ?c_ro ?k_ro ?a_ma ?l_ma ?c_ma ?k_ma ?a_st ?l_st ?c_st ?k_st ?a_me ?l_me ?c_me ?k_me ?a_nm ?l_nm ?c_nm ?k_nm ?a_tw ?l_tw ?c_tw ?k_tw ?a_ri ?l_ri ?c_ri ?k_ri ?a_ip ?l_ip ?c_ip ?k_ip ?a_pr ?l_pr ?c_pr ?k_pr ?a_la ?l_la ?c_la ?k_la ?g_c0 ?g_c1 ?g_c2 ?g_c3 ?g_bN ?g_bK ?g_bT ?g_bH ?g_cS ?m_i0 ?l_i0 ?c_i0 ?k_i0 ?n_i0 ?m_i1 ?l_i1 ?c_i1 ?k_i1 ?n_i1 ?m_i2 ?l_i2 ?c_i2 ?k_i2 ?n_i2 ?m_i3 ?l_i3 ?c_i3 ?k_i3 ?n_i3 ?m_e0 ?l_e0 ?c_e0 ?k_e0 ?n_e0 ?m_e1 ?l_e1 ?c_e1 ?k_e1 ?n_e1 ?m_e2 ?l_e2 ?c_e2 ?k_e2 ?n_e2 ?m_e3 ?l_e3 ?c_e3 ?k_e3 ?n_e3 ?m_mt ?l_mt ?c_mt ?k_mt ?n_mt ?m_si ?l_si ?c_si ?k_si ?n_si ?m_sp ?l_sp ?c_sp ?k_sp ?n_sp ?m_sb ?l_sb ?c_sb ?k_sb ?n_sb ?m_sk ?l_sk ?c_sk ?k_sk ?n_sk ?m_sl ?l_sl ?c_sl ?k_sl ?n_sl ?m_sf ?l_sf ?c_sf ?k_sf ?n_sf ?mt1 ?mt2 ?mt3 ?cm_of ?rc_of ?l_of ?c_of ?k_of ?lT0 ?gL ?eL ?gLo ?gK ?lK0 ?vK ?zK ?gLi ?lL0 ?lb0 ?lb1 ?lb2 ?z_int ?z_bool ?z_len ?z_abs ?z_list ?z_tuple ?z_dict ?z_range ?z_isinstance ?z_str ?z_all ?z_repr ?z_any ?z_enumerate ?z_set ?z_sorted ?z_ValueError ?v0 ?vg0 ?v1 ?vg1 ?v2 ?vg2 ?v3 ?vg3 ?vle ?vmo ?hB0 ?hB1 ?hB2 ?hB3 ?hBS ?rd_c0 ?rd_cS ?kSS ?nfS ?hP ?hO
    (case a_W => k_is)
    (case l_W => k_is)
    (case c_W => k_is)
    (case k_W => k_is)
    (case a_D => k_is)
    (case l_D => k_is)
    (case c_D => k_is)
    (case k_D => k_is)
    (case a_N => k_is)
    (case l_N => k_is)
    (case c_N => k_is)
    (case k_N => k_is)
    (case a_C => k_is)
    (case l_C => k_is)
    (case c_C => k_is)
    (case k_C => k_is)
    (case a_as => k_is)
    (case l_as => k_is)
    (case c_as => k_is)
    (case k_as => k_is)
    (case a_mo => k_is)
    (case l_mo => k_is)
    (case c_mo => k_is)
    (case k_mo => k_is)
    (case a_ck => k_is)
    (case l_ck => k_is)
    (case c_ck => k_is)
    (case k_ck => k_is)
    (case a_pa => k_is)
    (case l_pa => k_is)
    (case c_pa => k_is)
    (case k_pa => k_is)
    (case a_pe => k_is)
    (case l_pe => k_is)
    (case c_pe => k_is)
    (case k_pe => k_is)
    (case a_dr => k_is)
    (case l_dr => k_is)
    (case c_dr => k_is)
    (case k_dr => k_is)
    (case a_pi => k_is)
    (case l_pi => k_is)
    (case c_pi => k_is)
    (case k_pi => k_is)
    (case a_mx => k_is)
    (case l_mx => k_is)
    (case c_mx => k_is)
    (case k_mx => k_is)
    (case a_ro => k_is)
    (case l_ro => k_is)
    (case c_ro => k_is)
    (case k_ro => k_is)
    (case a_ma => k_is)
    (case l_ma => k_is)
    (case c_ma => k_is)
    (case k_ma => k_is)
    (case a_st => k_is)
    (case l_st => k_is)
    (case c_st => k_is)
    (case k_st => k_is)
    (case a_me => k_is)
    (case l_me => k_is)
    (case c_me => k_is)
    (case k_me => k_is)
    (case a_nm => k_is)
    (case l_nm => k_is)
    (case c_nm => k_is)
    (case k_nm => k_is)
    (case a_tw => k_is)
    (case l_tw => k_is)
    (case c_tw => k_is)
    (case k_tw => k_is)
    (case a_ri => k_is)
    (case l_ri => k_is)
    (case c_ri => k_is)
    (case k_ri => k_is)
    (case a_ip => k_is)
    (case l_ip => k_is)
    (case c_ip => k_is)
    (case k_ip => k_is)
    (case a_pr => k_is)
    (case l_pr => k_is)
    (case c_pr => k_is)
    (case k_pr => k_is)
    (case a_la => k_is)
    (case l_la => k_is)
    (case c_la => k_is)
    (case k_la => k_is)
    (case g_c0 => k_is)
    (case g_c1 => k_is)
    (case g_c2 => k_is)
    (case g_c3 => k_is)
    (case g_bN => k_is)
    (case g_bK => k_is)
    (case g_bT => k_is)
    (case g_bH => k_is)
    (case g_cS => k_is)
    (case m_i0 => k_is)
    (case l_i0 => k_is)
    (case c_i0 => k_is)
    (case k_i0 => k_is)
    (case n_i0 => k_is)
    (case m_i1 => k_is)
    (case l_i1 => k_is)
    (case c_i1 => k_is)
    (case k_i1 => k_is)
    (case n_i1 => k_is)
    (case m_i2 => k_is)
    (case l_i2 => k_is)
    (case c_i2 => k_is)
    (case k_i2 => k_is)
    (case n_i2 => k_is)
    (case m_i3 => k_is)
    (case l_i3 => k_is)
    (case c_i3 => k_is)
    (case k_i3 => k_is)
    (case n_i3 => k_is)
    (case m_e0 => k_is)
    (case l_e0 => k_is)
    (case c_e0 => k_is)
    (case k_e0 => k_is)
    (case n_e0 => k_is)
    (case m_e1 => k_is)
    (case l_e1 => k_is)
    (case c_e1 => k_is)
    (case k_e1 => k_is)
    (case n_e1 => k_is)
    (case m_e2 => k_is)
    (case l_e2 => k_is)
    (case c_e2 => k_is)
    (case k_e2 => k_is)
    (case n_e2 => k_is)
    (case m_e3 => k_is)
    (case l_e3 => k_is)
    (case c_e3 => k_is)
    (case k_e3 => k_is)
    (case n_e3 => k_is)
    (case m_mt => k_is)
    (case l_mt => k_is)
    (case c_mt => k_is)
    (case k_mt => k_is)
    (case n_mt => k_is)
    (case m_si => k_is)
    (case l_si => k_is)
    (case c_si => k_is)
    (case k_si => k_is)
    (case n_si => k_is)
    (case m_sp => k_is)
    (case l_sp => k_is)
    (case c_sp => k_is)
    (case k_sp => k_is)
    (case n_sp => k_is)
    (case m_sb => k_is)
    (case l_sb => k_is)
    (case c_sb => k_is)
    (case k_sb => k_is)
    (case n_sb => k_is)
    (case m_sk => k_is)
    (case l_sk => k_is)
    (case c_sk => k_is)
    (case k_sk => k_is)
    (case n_sk => k_is)
    (case m_sl => k_is)
    (case l_sl => k_is)
    (case c_sl => k_is)
    (case k_sl => k_is)
    (case n_sl => k_is)
    (case m_sf => k_is)
    (case l_sf => k_is)
    (case c_sf => k_is)
    (case k_sf => k_is)
    (case n_sf => k_is)
    (case mt1 => k_is)
    (case mt2 => k_is)
    (case mt3 => k_is)
    (case cm_of => k_is)
    (case rc_of => k_is)
    (case l_of => k_is)
    (case c_of => k_is)
    (case k_of => k_is)
    (case lT0 => k_is)
    (case gL => k_is)
    (case eL => decide +kernel)
    (case gLo => k_is)
    (case gK => k_is)
    (case lK0 => k_is)
    (case vK => decide +kernel)
    (case zK => decide +kernel)
    (case gLi => k_is)
    (case lL0 => k_is)
    (case lb0 => k_is)
    (case lb1 => k_is)
    (case lb2 => k_is)
    (case z_int => k_is)
    (case z_bool => k_is)
    (case z_len => k_is)
    (case z_abs => k_is)
    (case z_list => k_is)
    (case z_tuple => k_is)
    (case z_dict => k_is)
    (case z_range => k_is)
    (case z_isinstance => k_is)
    (case z_str => k_is)
    (case z_all => k_is)
    (case z_repr => k_is)
    (case z_any => k_is)
    (case z_enumerate => k_is)
    (case z_set => k_is)
    (case z_sorted => k_is)
    (case z_ValueError => k_is)
    (case v0 => k_is)
    (case vg0 => k_is)
    (case v1 => k_is)
    (case vg1 => k_is)
    (case v2 => k_is)
    (case vg2 => k_is)
    (case v3 => k_is)
    (case vg3 => k_is)
    (case vle => k_is)
    (case vmo => k_is)
    (case hB0 => kernel_rfl)
    (case hB1 => kernel_rfl)
    (case hB2 => kernel_rfl)
    (case hB3 => kernel_rfl)
    (case hBS => kernel_rfl)
    (case rd_c0 => kernel_rfl)
    (case rd_cS => kernel_rfl)
    (case kSS => kernel_rfl)
    (case nfS => kernel_rfl)
    (case hP => kernel_rfl)
    (case hO => kernel_rfl)
