import PyProof.Rows.All
import Wide.All
import OpenK.AllK
import Wide.FinOn
import HandS.ForMost
import HandS.Lambda
import HandS.EndTab
import KE.KDictCopyH
import HandS.ForExc
import HandS.ExcIs
import HandS.ExcField
import KE.KExcIs
import HandS.IsInst
import KE.KCallOwn
import PyProof.InstNe
import HandS.RaiseMore
import HandS.DictEq
import HandS.DeepEq
import HandS.DictComp
import HandS.Walk
import HandS.Iter
import HandS.Comp
import HandS.Text
import HandS.ExcInit
import HandS.ExcValue
import HandS.ClsMeth
import HandS.Gcd
import HandS.Wide
import HandS.MakeKw
import HandS.MakeKwOnly
import HandS.Defaults
import HandS.Dict
import HandS.Star
import HandS.MethStar
import HandS.CallLocal
import HandS.IterVal
import HandS.ListItems
import HandS.FStr
import HandS.Flow
import HandS.AnyAll
import HandS.TupAny
import HandS.OwnEq
import HandS.More
import HandS.SortKw
import KE.SortKeyHeap
import PyProof.CallStr
import HandS.Conv
import HandS.Style
import PyProof.NeKinds
import PySem.Challenge.RW_layerseen_k90_texts_of_ends
set_option Elab.async false
set_option linter.all false
set_option maxRecDepth 100000
set_option maxHeartbeats 4000000

namespace My
open PySem PySem.Spec PyProof.Rows L2

/-- what the walk of the law's body has to give, the guards being known -/
def LawBody (l : PySem.W.OpenLaw) (w : World) (K : PySem.W.Frag) (mg : Str → Option Value) (n : Nat) (N : List Str) (qual : Str) (st : Stmt) (fa : Addr) : Prop :=
  ∀ base : Heap, K.In base → base.Ns mainGlobals mg → ∀ (cdv : Value) (s : Shared) (H : Hp) (a : Addr) (ns : List Int), ns.length ≤ n → Only H → SqL K H a (ns.map V.int) →
    ∃ t, PSs (cxOf CX0 l.prog w K mg base N qual (defScope st) fa cdv callerA [] s H E0).nox (defBody st) t ∧
      t { nx := fun _ _ => False, rt := fun v _ => v = .bl true } (start N [.ref a]) H

/-- one call of the law from an abstract heap -/
theorem enter {l : PySem.W.OpenLaw} {w : World} {K : PySem.W.Frag} {mg : Str → Option Value} {n : Nat} {N : List Str} {x nm qual : Str} {st : Stmt} {fa a : Addr} {fd : FuncData}
    {base : Heap} {s : Shared} {H : Hp} {ns : List Int}
    (F : Fun K nm qual st fa fd) (S : FnScope N [x] (defScope st)) (hb : ∀ (s : Shared) (u : Value), BindsTo s fd ⟨[u], []⟩ [(x, u)])
    (B : LawBody l w K mg n N qual st fa) (hKb : K.In base) (hNb : base.Ns mainGlobals mg) (hn : ns.length ≤ n) (hO : Only H) (hS : SqL K H a (ns.map V.int))
    (e0 : Env0 l.prog w K mg base callerA [] s H) :
    codeAny (model l.prog w) callerA (.call (.ref fa) ⟨[.ref a], []⟩)
      (fun r s' => r = .ok (.ret (.bool true)) ∧ ∃ H', s'.os = s.os ∧ AllBare s'.gens ∧ Un [] [] H H' s.heap s'.heap ∧ HOk l.prog w H' s'.heap) s := by
  obtain ⟨oc, od, kV, doc, pm, an, cdv, ct, osl, rfl, lk, hcd⟩ := F.ex
  have stays : ∀ b o, base.get? b = some o → s.heap.get? b = some o := fun b o z => (e0.bs b o z).1
  have KS : K.In s.heap := e0.mod.kin.keeps stays
  have NL : s.heap.NoLimit := e0.mod.nolimit.keeps stays
  have kinds : ∀ y ∈ [x].zip [Value.ref a], (defScope st).names.lookup y.1 = some .local ∨ ((defScope st).names.lookup y.1 = some .cell ∧ ((cellsFrom (s.heap.objs.size + 1) (defScope st).names []).lookup y.1).isSome = true) := by
    intro y hy
    obtain rfl : y = (x, Value.ref a) := List.mem_singleton.mp hy
    cases S.par x (List.mem_singleton.mpr rfl) with
    | inl q => exact .inl q
    | inr q => exact .inr ⟨q, PySem.W.cellsFrom_some _ _ _ (.inl q)⟩
  refine codeAny_call_function (by decide) (KS _ _ lk) rfl S.co S.gen rfl (PySem.W.codeRec_of KS hcd) (hb s (.ref a) _ _ _ _ ?_)
  refine wpAny_newFunctionEnv_cells S.kind kinds fun env he s2 ic => ?_
  subst he
  refine ⟨NL.keeps ic.toInCall.keep, codeAny_func ?_⟩
  obtain ⟨t, ht, hq⟩ := B base hKb hNb cdv s H a ns hn hO hS
  have J0 := inv_start (E := E0) (CX := CX0) S (show callerA.handled = none from rfl) e0 (vs := [.ref a]) (us := [.ref a]) rfl (.cons rfl .nil) ic
  refine wpAny_mono (ht.run [] s2 (start N [.ref a]) H _ (J0.wish _) hq) (fun fl s' hs => ?_) fun e s' hs => hs.elim
  cases fl with
  | ret u =>
    obtain ⟨v, σ', H', J, rv, q⟩ := hs
    subst q
    obtain rfl : u = Value.bool true := rv
    exact ⟨rfl, H', J.os, J.bare, J.base, J.hok⟩
  | next => exact (let ⟨_, _, _, q⟩ := hs; q).elim
  | brk => exact (let ⟨_, _, _, q⟩ := hs; q).elim
  | cont => exact (let ⟨_, _, _, q⟩ := hs; q).elim

/-- the object of the script, looked at through its abstract heap -/
def scriptHp (a : Addr) (vs : List Value) (ns : List Int) : Hp := fun b => if b = a then some (.frz { cls := .type "list", data := .seq vs.toArray } (.lst (ns.map V.int))) else none

/-- from one call in an abstract heap to the call that is asked for -/
theorem settle {l : PySem.W.OpenLaw} {w : World} {K : PySem.W.Frag} {mg mb : Str → Option Value} {n : Nat} {N : List Str} {x nm qual : Str} {st : Stmt} {fa a : Addr} {fd : FuncData} {s : Shared} {H : Hp} {ns : List Int} {vs : List Value}
    (KX : K.In s.heap) (hns : s.heap.Ns mainGlobals mg) (hb : s.heap.Ns builtinsNs mb) (hbb : ∀ x : Str, x ≠ "__name__" → mb x = bootBuiltins x) (hlim : s.heap.NoLimit) (hg : s.gens = #[])
    (ha : s.heap.get? a = some { cls := .type "list", data := .seq vs.toArray }) (hn : ns.length ≤ n)
    (F : Fun K nm qual st fa fd) (S : FnScope N [x] (defScope st)) (hbi : ∀ (s : Shared) (u : Value), BindsTo s fd ⟨[u], []⟩ [(x, u)]) (B : LawBody l w K mg n N qual st fa)
    (hO : Only H) (hS : SqL K H a (ns.map V.int)) (hok : HOk l.prog w H s.heap) (one : ∀ b, H b ≠ none → b = a) (out : H a ≠ none → K.lookup a = none) :
    codeAny (model l.prog w) callerA (.call (.ref fa) ⟨[.ref a], []⟩) (fun r s' => r = .ok (.ret (.bool true)) ∧ OldK s.heap s'.heap ∧ s'.os = s.os ∧ AllBare s'.gens) s := by
  have seen : ∀ {b : Addr} {o : Obj}, H b = none → s.heap.get? b = some o → (hidT s.heap H).get? b = some o := fun q e => hidT_get e q
  have free : ∀ {b : Addr} {o : Obj}, s.heap.get? b = some o → (∀ xs k, o.data ≠ .seq xs k) → H b = none := by
    intro b o e nd
    by_cases z : H b = none
    · exact z
    · have eb := one b z
      rw [eb, ha] at e
      injection e with e
      exact absurd (by rw [← e]) (nd vs.toArray 0)
  have names : ∀ {b : Addr} {m : Str → Option Value}, s.heap.Ns b m → (hidT s.heap H).Ns b m := by
    intro b m nb
    obtain ⟨o, es, ep, e, d, rest⟩ := nb
    exact ⟨o, es, ep, seen (free e fun xs k z => by rw [d] at z; injection z) e, d, rest⟩
  have KB : K.In (hidT s.heap H) := by
    intro b o e
    refine seen ?_ (KX b o e)
    by_cases z : H b = none
    · exact z
    · have eb := one b z
      subst eb
      rw [out z] at e
      injection e
  have E0' : Env0 l.prog w K mg (hidT s.heap H) callerA [] s H := by
    refine ⟨rfl, ⟨KB, names hns, ⟨mb, names hb, hbb⟩, ?_⟩, fun b o e => of_hidT e, Nat.le_of_eq (hidT_size _ _), trivial, ?_, hok, .of_eq hg⟩
    · obtain ⟨mc, c1, c2⟩ := hlim
      exact ⟨mc, names c1, c2⟩
    · intro b z
      exact absurd (show b ∈ ([] : List Addr) from z) List.not_mem_nil
  refine codeAny_mono (enter F S hbi B KB (names hns) hn hO hS E0') fun r s' h => ?_
  obtain ⟨e1, H', os, bare, un, hok'⟩ := h
  refine ⟨e1, OldK.of_keep fun b o e => ?_, os, bare⟩
  by_cases z : H b = none
  · exact un.keep b o e z (show b ∉ ([] : List Addr) from List.not_mem_nil) List.not_mem_nil
  · rcases hO b with y | ⟨ob, xs, y⟩
    · exact absurd y z
    · have g1 := (hok b _ y).1
      have g2 := (hok' b _ (un.frzs b ob _ y)).1
      rw [g1] at e
      injection e with e
      rw [← e]
      exact g2

/-- the goal that the head leaves, from the law's body walked with known guards -/
theorem law_top {l : PySem.W.OpenLaw} {n : Nat} {q : Program} {loose : List Str} {XP : (Str → Option Value) → Heap → Prop} {YP : World → Heap → Prop} {d : DefRec} {K : Params → PySem.W.Frag} {N : List Str} {x nm qual : Str} {st : Stmt}
    (hn : l.most = some n) (hn2 : n ≤ sizeLine) (hdf : d.params.defaults = []) (hY : ∀ (w : World) (h : Heap), YP w h → (K w.params).In h)
    (Z : ∀ (w : World) (mg : Str → Option Value) (fa : Addr) (h : Heap), (K w.params).In h → h.Ns mainGlobals mg → mg d.name = some (.ref fa) →
      ∃ fd : FuncData, Fun (K w.params) nm qual st fa fd ∧ FnScope N [x] (defScope st) ∧ (∀ (s : Shared) (u : Value), BindsTo s fd ⟨[u], []⟩ [(x, u)]) ∧ LawBody l w (K w.params) mg n N qual st fa) :
    PySem.W.WalkO q loose XP YP l.row.toRowW d [] (fun f vs => PySem.call f vs) := by
  refine Att.attach_call hn hdf ?_
  intro w s₀ s mg mb fa o pm cd doc a vs ns G Y ho hd hcd hmg hobj hints hlen hg
  have KX : (K w.params).In s.heap := hY w _ Y
  obtain ⟨fd, F, S, hbi, B⟩ := Z w mg fa _ KX G.T.g hmg
  have rv : Vals (ns.map V.int) vs := vals_ints hints
  have top : ns.length ≤ sizeLine := Nat.le_trans hlen hn2
  have plain := @settle l w (K w.params) mg mb n N x nm qual st fa a fd s
  cases hk : (K w.params).lookup a with
  | some u =>
    have e := KX a u hk
    rw [hobj] at e
    injection e with e
    subst e
    refine plain (H := fun _ => none) (ns := ns) (vs := vs) KX G.T.g G.T.b G.T.builtins G.T.nolimit hg hobj hlen F S hbi B (fun _ => .inl rfl) (.inr ⟨_, vs.toArray, _, hk, rfl, rfl, rfl, ?_, ?_⟩) (fun b u z => ?_) (fun b z => absurd rfl z) (fun z => absurd rfl z)
    · rw [List.size_toArray, hints.length]
      exact top
    · simpa using rv
    · injection z
  | none =>
    refine plain (H := scriptHp a vs ns) (ns := ns) (vs := vs) KX G.T.g G.T.b G.T.builtins G.T.nolimit hg hobj hlen F S hbi B (fun b => ?_) (.inl (.inr ⟨_, if_pos rfl⟩)) (fun b u z => ?_) (fun b z => ?_) (fun _ => hk)
    · by_cases eb : b = a
      · exact .inr ⟨_, _, if_pos eb⟩
      · exact .inl (if_neg eb)
    · by_cases eb : b = a
      · have y := (if_pos eb).symm.trans z
        injection y with y
        subst y
        subst eb
        exact ⟨hobj, by rw [List.length_map]; exact top, vs, _, rv, hobj⟩
      · have y := (if_neg eb).symm.trans z
        injection y
    · by_cases eb : b = a
      · exact eb
      · exact absurd (if_neg eb) z
end My
namespace My
open PySem PySem.Spec PyProof.Rows L2
/-- what the walk of the law's body has to give where one def of the text makes lambdas: its code object at c, the table of that one at P, empty so far -/
def LawBodyT (l : PySem.W.OpenLaw) (w : World) (K : PySem.W.Frag) (mg : Str → Option Value) (n : Nat) (N : List Str) (qual : Str) (st : Stmt) (fa c P : Addr) : Prop :=
  ∀ base : Heap, K.In base → base.Ns mainGlobals mg → LamX.TabB base mg c P → ∀ (cdv : Value) (s : Shared) (H : Hp) (a : Addr) (ns : List Int), ns.length ≤ n → H P = some (.tbl #[]) → SqL K H a (ns.map V.int) →
    ∃ t, PSs (cxOf CX0 l.prog w K mg base N qual (defScope st) fa cdv callerA [] s H E0).nox (defBody st) t ∧
      t { nx := fun _ _ => False, rt := fun v _ => v = .bl true } (start N [.ref a]) H
theorem enterB {l : PySem.W.OpenLaw} {w : World} {K : PySem.W.Frag} {mg : Str → Option Value} {N : List Str} {x nm qual : Str} {st : Stmt} {fa a : Addr} {fd : FuncData}
    {base : Heap} {s : Shared} {H : Hp} (F : Fun K nm qual st fa fd) (S : FnScope N [x] (defScope st)) (hb : ∀ (s : Shared) (u : Value), BindsTo s fd ⟨[u], []⟩ [(x, u)])
    (B : ∀ cdv : Value, ∃ t, PSs (cxOf CX0 l.prog w K mg base N qual (defScope st) fa cdv callerA [] s H E0).nox (defBody st) t ∧ t { nx := fun _ _ => False, rt := fun v _ => v = .bl true } (start N [.ref a]) H)
    (e0 : Env0 l.prog w K mg base callerA [] s H) :
    codeAny (model l.prog w) callerA (.call (.ref fa) ⟨[.ref a], []⟩)
      (fun r s' => r = .ok (.ret (.bool true)) ∧ ∃ H', s'.os = s.os ∧ AllBare s'.gens ∧ Un [] [] H H' s.heap s'.heap ∧ HOk l.prog w H' s'.heap) s := by
  obtain ⟨oc, od, kV, doc, pm, an, cdv, ct, osl, rfl, lk, hcd⟩ := F.ex
  have stays : ∀ b o, base.get? b = some o → s.heap.get? b = some o := fun b o z => (e0.bs b o z).1
  have KS : K.In s.heap := e0.mod.kin.keeps stays
  have NL : s.heap.NoLimit := e0.mod.nolimit.keeps stays
  have kinds : ∀ y ∈ [x].zip [Value.ref a], (defScope st).names.lookup y.1 = some .local ∨ ((defScope st).names.lookup y.1 = some .cell ∧ ((cellsFrom (s.heap.objs.size + 1) (defScope st).names []).lookup y.1).isSome = true) := by
    intro y hy
    obtain rfl : y = (x, Value.ref a) := List.mem_singleton.mp hy
    cases S.par x (List.mem_singleton.mpr rfl) with
    | inl q => exact .inl q
    | inr q => exact .inr ⟨q, PySem.W.cellsFrom_some _ _ _ (.inl q)⟩
  refine codeAny_call_function (by decide) (KS _ _ lk) rfl S.co S.gen rfl (PySem.W.codeRec_of KS hcd) (hb s (.ref a) _ _ _ _ ?_)
  refine wpAny_newFunctionEnv_cells S.kind kinds fun env he s2 ic => ?_
  subst he
  refine ⟨NL.keeps ic.toInCall.keep, codeAny_func ?_⟩
  obtain ⟨t, ht, hq⟩ := B cdv
  have J0 := inv_start (E := E0) (CX := CX0) S (show callerA.handled = none from rfl) e0 (vs := [.ref a]) (us := [.ref a]) rfl (.cons rfl .nil) ic
  refine wpAny_mono (ht.run [] s2 (start N [.ref a]) H _ (J0.wish _) hq) (fun fl s' hs => ?_) fun e s' hs => hs.elim
  cases fl with
  | ret u =>
    obtain ⟨v, σ', H', J, rv, q⟩ := hs
    subst q
    obtain rfl : u = Value.bool true := rv
    exact ⟨rfl, H', J.os, J.bare, J.base, J.hok⟩
  | next => exact (let ⟨_, _, _, q⟩ := hs; q).elim
  | brk => exact (let ⟨_, _, _, q⟩ := hs; q).elim
  | cont => exact (let ⟨_, _, _, q⟩ := hs; q).elim
/-- a table that is empty so far -/
abbrev tab0 : Obj := { cls := .none, data := .fields #[] }
theorem settleT {l : PySem.W.OpenLaw} {w : World} {K : PySem.W.Frag} {mg mb : Str → Option Value} {n : Nat} {N : List Str} {x nm qual : Str} {st : Stmt} {fa a c P : Addr} {fd : FuncData} {s : Shared} {H : Hp} {ns : List Int} {vs : List Value}
    (KX : K.In s.heap) (hns : s.heap.Ns mainGlobals mg) (hb : s.heap.Ns builtinsNs mb) (hbb : ∀ x : Str, x ≠ "__name__" → mb x = bootBuiltins x) (hlim : s.heap.NoLimit) (hg : s.gens = #[])
    (ha : s.heap.get? a = some { cls := .type "list", data := .seq vs.toArray }) (hn : ns.length ≤ n)
    (hT : s.heap.get? P = some tab0) (nT : K.lookup P = none) (C : PySem.W.CodeHd s.heap c P) (bm : s.heap.BuiltinsAt mg P)
    (F : Fun K nm qual st fa fd) (S : FnScope N [x] (defScope st)) (hbi : ∀ (s : Shared) (u : Value), BindsTo s fd ⟨[u], []⟩ [(x, u)]) (B : LawBodyT l w K mg n N qual st fa c P)
    (hP : H P = some (.tbl #[])) (hO : ∀ b, b ≠ P → H b = none ∨ ∃ o xs, H b = some (.frz o (.lst xs))) (hS : SqL K H a (ns.map V.int)) (hok : HOk l.prog w H s.heap) (one : ∀ b, H b ≠ none → b = a ∨ b = P) (out : H a ≠ none → K.lookup a = none) :
    codeAny (model l.prog w) callerA (.call (.ref fa) ⟨[.ref a], []⟩) (fun r s' => r = .ok (.ret (.bool true)) ∧ OldK s.heap s'.heap ∧ s'.os = s.os ∧ AllBare s'.gens) s := by
  -- what is neither the script nor the table is not tracked
  have free : ∀ {b : Addr} {o : Obj}, s.heap.get? b = some o → (∀ xs k, o.data ≠ .seq xs k) → o.data ≠ .fields #[] → H b = none := by
    intro b o e nd nf
    by_cases z : H b = none
    · exact z
    · rcases one b z with eb | eb
      · rw [eb, ha] at e
        injection e with e
        exact absurd (by rw [← e]) (nd vs.toArray 0)
      · rw [eb, hT] at e
        injection e with e
        exact absurd (by rw [← e]) nf
  have seen : ∀ {b : Addr} {o : Obj}, s.heap.get? b = some o → (∀ xs k, o.data ≠ .seq xs k) → o.data ≠ .fields #[] → (hidT s.heap H).get? b = some o := fun e h1 h2 => hidT_get e (free e h1 h2)
  have names : ∀ {b : Addr} {m : Str → Option Value}, s.heap.Ns b m → (hidT s.heap H).Ns b m := by
    intro b m nb
    obtain ⟨o, es, ep, e, d, rest⟩ := nb
    exact ⟨o, es, ep, seen e (fun xs k z => by rw [d] at z; injection z) (fun z => by rw [d] at z; injection z), d, rest⟩
  have KB : K.In (hidT s.heap H) := by
    intro b o e
    refine hidT_get (KX b o e) ?_
    by_cases z : H b = none
    · exact z
    · rcases one b z with eb | eb
      · subst eb
        rw [out z] at e
        injection e
      · subst eb
        rw [nT] at e
        injection e
  have E0' : Env0 l.prog w K mg (hidT s.heap H) callerA [] s H := by
    refine ⟨rfl, ⟨KB, names hns, ⟨mb, names hb, hbb⟩, ?_⟩, fun b o e => of_hidT e, Nat.le_of_eq (hidT_size _ _), trivial, ?_, hok, .of_eq hg⟩
    · obtain ⟨mc, c1, c2⟩ := hlim
      exact ⟨mc, names c1, c2⟩
    · intro b z
      exact absurd (show b ∈ ([] : List Addr) from z) List.not_mem_nil
  have TB : LamX.TabB (hidT s.heap H) mg c P := by
    refine ⟨?_, ?_, fun z => ?_⟩
    · obtain ⟨o, us, file, tf, flags, tg, inF, text, tt, e1, r1, r2, r3, rest⟩ := C
      refine ⟨o, us, file, tf, flags, tg, inF, text, tt, seen e1 (fun xs k z => by rw [r2] at z; injection z) (fun z => ?_), r1, r2, r3, rest⟩
      rw [r2] at z
      injection z with z
      rw [z] at r3
      simp at r3
    · obtain ⟨b, ob, b1, b2, b3, b4, b5, b6, b7, b8⟩ := bm
      exact ⟨b, ob, b1, b2, b3, b4, seen b5 (fun xs k z => by rw [b8] at z; injection z) (fun z => by rw [b8] at z; injection z), b6, b7, b8⟩
    · obtain ⟨o, es, ep, e, d, _⟩ := hns
      rw [z, hT] at e
      injection e with e
      rw [← e] at d
      injection d
  refine codeAny_mono (enterB F S hbi (fun cdv => B _ KB (names hns) TB cdv s H a ns hn hP hS) E0') fun r s' h => ?_
  obtain ⟨e1, H', os, bare, un, hok'⟩ := h
  obtain ⟨more, eP⟩ := un.tbls P #[] hP
  have grown : s'.heap.get? P = some { cls := .none, data := .fields (#[] ++ more) } := hok' P _ eP
  have kept : ∀ b o, b ≠ P → s.heap.get? b = some o → s'.heap.get? b = some o := by
    intro b o nb e
    by_cases z : H b = none
    · exact un.keep b o e z (show b ∉ ([] : List Addr) from List.not_mem_nil) List.not_mem_nil
    · rcases hO b nb with y | ⟨ob, xs, y⟩
      · exact absurd y z
      · have g1 := (hok b _ y).1
        have g2 := (hok' b _ (un.frzs b ob _ y)).1
        rw [g1] at e
        injection e with e
        rw [← e]
        exact g2
  refine ⟨e1, ⟨fun b o e => ?_, fun b o e => ?_⟩, os, bare⟩
  · by_cases nb : b = P
    · subst nb
      rw [hT] at e
      injection e with e
      subst e
      exact .inr (.inl ⟨(C.tab hT).isCodeTable, rfl, #[], more, rfl, grown⟩)
    · exact .inl (kept b o nb e)
  · by_cases nb : b = P
    · subst nb
      exact ⟨_, grown⟩
    · exact ⟨o, kept b o nb e⟩
/-- the goal that the head leaves, from the law's body walked with known guards and one table -/
theorem law_topT {l : PySem.W.OpenLaw} {n : Nat} {q : Program} {loose : List Str} {XP : (Str → Option Value) → Heap → Prop} {YP : World → Heap → Prop} {d : DefRec} {K : Params → PySem.W.Frag} {N : List Str} {x nm qual : Str} {st : Stmt}
    (hn : l.most = some n) (hn2 : n ≤ sizeLine) (hdf : d.params.defaults = []) (hY : ∀ (w : World) (h : Heap), YP w h → (K w.params).In h)
    (Z : ∀ (w : World) (mg : Str → Option Value) (fa : Addr) (h : Heap), YP w h → (K w.params).In h → h.Ns mainGlobals mg → mg d.name = some (.ref fa) →
      ∃ (fd : FuncData) (c P : Addr), h.get? P = some tab0 ∧ (K w.params).lookup P = none ∧ PySem.W.CodeHd h c P ∧ Fun (K w.params) nm qual st fa fd ∧ FnScope N [x] (defScope st) ∧ (∀ (s : Shared) (u : Value), BindsTo s fd ⟨[u], []⟩ [(x, u)]) ∧ LawBodyT l w (K w.params) mg n N qual st fa c P) :
    PySem.W.WalkO q loose XP YP l.row.toRowW d [] (fun f vs => PySem.call f vs) := by
  refine Att.attach_call hn hdf ?_
  intro w s₀ s mg mb fa o pm cd doc a vs ns G Y ho hd hcd hmg hobj hints hlen hg
  have KX : (K w.params).In s.heap := hY w _ Y
  obtain ⟨fd, c, P, hT, nT, C, F, S, hbi, B⟩ := Z w mg fa _ Y KX G.T.g hmg
  have bmP : s.heap.BuiltinsAt mg P := by
    obtain ⟨bm, ob, b1, b2, b3, b4, b5, b6⟩ := G.T.bmain
    refine ⟨bm, ob, b1, b2, fun z => ?_, fun z => ?_, b3, b4, b5, b6⟩
    · obtain ⟨o', es, ep, e, hd', _⟩ := G.T.g
      rw [z, e] at b3
      injection b3 with b3
      rw [b3, b6] at hd'
      injection hd'
    · rw [z, hT] at b3
      injection b3 with b3
      rw [← b3] at b6
      injection b6
  have rv : Vals (ns.map V.int) vs := vals_ints hints
  have top : ns.length ≤ sizeLine := Nat.le_trans hlen hn2
  have naP : a ≠ P := fun z => by
    rw [z, hT] at hobj
    injection hobj with hobj
    have := congrArg Obj.data hobj
    injection this
  have plain := @settleT l w (K w.params) mg mb n N x nm qual st fa a c P fd s
  cases hk : (K w.params).lookup a with
  | some u =>
    have e := KX a u hk
    rw [hobj] at e
    injection e with e
    subst e
    refine plain (H := fun b => if b = P then some (.tbl #[]) else none) (ns := ns) (vs := vs) KX G.T.g G.T.b G.T.builtins G.T.nolimit hg hobj hlen hT nT C bmP F S hbi B (if_pos rfl) (fun b nb => .inl (if_neg nb)) (.inr ⟨_, vs.toArray, _, hk, rfl, rfl, rfl, ?_, ?_⟩) (fun b u z => ?_) (fun b z => ?_) (fun z => absurd (if_neg naP) z)
    · rw [List.size_toArray, hints.length]
      exact top
    · simpa using rv
    · by_cases hb : b = P
      · have y := (if_pos hb).symm.trans z
        injection y with y
        subst y
        subst hb
        exact hT
      · have y := (if_neg hb).symm.trans z
        injection y
    · by_cases hb : b = P
      · exact .inr hb
      · exact absurd (if_neg hb) z
  | none =>
    refine plain (H := fun b => if b = P then some (.tbl #[]) else scriptHp a vs ns b) (ns := ns) (vs := vs) KX G.T.g G.T.b G.T.builtins G.T.nolimit hg hobj hlen hT nT C bmP F S hbi B (if_pos rfl) (fun b nb => ?_) (.inl (.inr ⟨_, (if_neg naP).trans (if_pos rfl)⟩)) (fun b u z => ?_) (fun b z => ?_) (fun _ => hk)
    · by_cases eb : b = a
      · exact .inr ⟨_, _, (if_neg nb).trans (if_pos eb)⟩
      · exact .inl ((if_neg nb).trans (if_neg eb))
    · by_cases hb : b = P
      · have y := (if_pos hb).symm.trans z
        injection y with y
        subst y
        subst hb
        exact hT
      · have z1 := (if_neg hb).symm.trans z
        by_cases eb : b = a
        · have y := (if_pos eb).symm.trans z1
          injection y with y
          subst y
          subst eb
          exact ⟨hobj, by rw [List.length_map]; exact top, vs, _, rv, hobj⟩
        · have y := (if_neg eb).symm.trans z1
          injection y
    · by_cases hb : b = P
      · exact .inr hb
      · by_cases eb : b = a
        · exact .inl eb
        · exact absurd ((if_neg hb).trans (if_neg eb)) z
end My
namespace My
open PySem PySem.Spec PyProof.Rows L2
/-! ### a dict that remembers ints, its keys tuples of ints, texts and None -/
def lV : Leaf → V
  | .none => .non
  | .num i => .int i
  | .text z => .str z
theorem lV_is {P : Program} {w : World} {k : Leaf} {u : Value} (r : RelV (lV k) u) : (leafKind P w).is k u = true := by
  cases k with
  | none => obtain rfl : u = Value.none := r; rfl
  | num i => obtain ⟨t, rfl⟩ := (show ∃ t, u = Value.int i t from r); exact decide_eq_true rfl
  | text x =>
    obtain ⟨t, rfl⟩ := (show ∃ t, u = Value.str x t from r)
    show Value.isStrOf x (.str x t) = true
    simp [Value.isStrOf]
theorem leaves_are {P : Program} {w : World} : ∀ {ks : List Leaf} {us : List Value}, Vals (ks.map lV) us → ItemsAre (leafKind P w) ks us
  | [], _, r => by rw [List.map_nil] at r; cases r; exact .nil
  | k :: ks, _, r => by
    rw [List.map_cons] at r
    cases r with
    | cons h t => exact .cons (lV_is h) (leaves_are t)
theorem keyL_of {P : Program} {w : World} {H : Hp} {h : Heap} {b : Addr} {ks : List Leaf} (ok : HOk P w H h) (e : H b = some (.tup (ks.map lV))) : (tupleKind (leafKind P w)).is h ks b := by
  obtain ⟨_, its, r, o, h1, h2, n, h3⟩ := (show ObjOk P w H h b (.tup (ks.map lV)) from ok b _ e)
  exact ⟨o, its.toArray, n, h1, h2, h3, by simpa using leaves_are r⟩
/-- the dict at a by its own object: its entries -/
def MemO (P : Program) (w : World) (a : Addr) (xs : List (List Leaf × Addr × Value)) : HO := .ext fun h => ∃ o es ep, h.get? a = some o ∧ o.ExactDict ∧ o.data = .dict es ep ∧ es.toList = xs.map (entryOfKey (tupleKind (leafKind P w))) ∧ (xs.map (·.1)).Nodup
/-- what stands in it: R tells of each key's int; n entries at most -/
structure MemAt (P : Program) (w : World) (H : Hp) (a : Addr) (R : List Leaf → Int → Prop) (n : Nat) (xs : List (List Leaf × Addr × Value)) : Prop where
  ex : H a = some (MemO P w a xs)
  few : xs.length ≤ n
  key : ∀ x ∈ xs, H x.2.1 = some (.tup (x.1.map lV)) ∧ ∃ i t, x.2.2 = Value.int i t ∧ R x.1 i
  sys : (a == sysModules) = false
theorem MemAt.keep {P : Program} {w : World} {H H' : Hp} {a : Addr} {R : List Leaf → Int → Prop} {n : Nat} {xs : List (List Leaf × Addr × Value)} (M : MemAt P w H a R n xs) (k : ∀ q o, H q = some o → H' q = some o) : MemAt P w H' a R n xs :=
  ⟨k _ _ M.ex, M.few, fun x hx => ⟨k _ _ (M.key x hx).1, (M.key x hx).2⟩, M.sys⟩
theorem MemAt.more {P : Program} {w : World} {H : Hp} {a : Addr} {R : List Leaf → Int → Prop} {n m : Nat} {xs : List (List Leaf × Addr × Value)} (M : MemAt P w H a R n xs) (h : n ≤ m) : MemAt P w H a R m xs :=
  ⟨M.ex, Nat.le_trans M.few h, M.key, M.sys⟩
section
variable {X : Cx} {pins : List (Addr × Obj)} {σ : L2.St} {H : Hp} {s : Shared} {a : Addr} {R : List Leaf → Int → Prop} {n : Nat} {xs : List (List Leaf × Addr × Value)}
theorem mem_dict (I : Inv X pins σ H s) (M : MemAt X.prog X.w H a R n xs) : s.heap.DictOfH (tupleKind (leafKind X.prog X.w)) a xs := by
  obtain ⟨⟨o, es, ep, h1, h2, h3, h4, h5⟩, _, _⟩ := I.hok a _ M.ex
  exact ⟨o, es, ep, h1, h2, h3, h4, fun x hx => keyL_of I.hok (M.key x hx).1, h5⟩
theorem atKey_mem {K : Type} [DecidableEq K] : ∀ {xs : List (K × Addr × Value)} {k : K} {p : Addr × Value}, atKey xs k = some p → ∃ x ∈ xs, x.1 = k ∧ x.2 = p := by
  intro xs k p h
  unfold atKey at h
  obtain ⟨x, hx, e⟩ := Option.map_eq_some_iff.mp h
  have hm := List.mem_of_find?_eq_some hx
  have hp := List.find?_some hx
  exact ⟨x, hm, of_decide_eq_true hp, e⟩
def rMemNotIn (P : Program) (w : World) : R2 := fun x y H Q => ∃ (a b : Addr) (k : List Leaf) (R : List Leaf → Int → Prop) (n : Nat) (xs : List (List Leaf × Addr × Value)), x = .ref b ∧ y = .ref a ∧ H b = some (.tup (k.map lV)) ∧ MemAt P w H a R n xs ∧ Q (.bl (!(atKey xs k).isSome)) H
theorem op_memNotIn (hu : X.A.units + 1 < cLine) : OpR X (compareOp .NotIn) (rMemNotIn X.prog X.w) := by
  intro pins s σ H x y v u Q I rx ry h
  obtain ⟨a, b, k, R, n, xs, rfl, rfl, eb, M, q⟩ := h
  cases rx
  cases ry
  exact wpAny_notIn_heap (tupleKind_room_in1 hu) (keyL_of I.hok eb) M.sys (mem_dict I M) ⟨.bl (!(atKey xs k).isSome), H, I.tok _, rfl, q⟩
/-- d[key] of such a dict -/
def tMemGet (P : Program) (w : World) (td ty : TE) : TE := fun σ H Q => td σ H fun x H1 => ty σ H1 fun y H2 => ∃ (a b : Addr) (k : List Leaf) (R : List Leaf → Int → Prop) (n : Nat) (xs : List (List Leaf × Addr × Value)), x = .ref a ∧ y = .ref b ∧ H2 b = some (.tup (k.map lV)) ∧ MemAt P w H2 a R n xs ∧ (atKey xs k).isSome = true ∧
  ∀ i : Int, R k i → Q (.int i) H2
theorem pe_memget {o i : Expr} {td ty : TE} {pos : Pos} (hu : X.A.units + 1 < cLine) (ho : PE X o td) (hi : PE X i ty) (hs : NoSl i) : PE X (.Subscript o i pos) (tMemGet X.prog X.w td ty) := by
  refine ⟨fun pins s σ H Q I h => ?_⟩
  refine subD_of PySem.F.slot_dict_getitem.lookup hs (thn (ho.run pins s σ H _ I h) fun u s1 ⟨x, H1, I1, rx, q1⟩ => thn (hi.run pins s1 σ H1 _ I1 q1) fun iv s2 ⟨y, H2, I2, ry, a, b, k, R, n, xs, ex, ey, eb, M, sm, q2⟩ => ?_)
  subst ex ey
  obtain rfl : u = Value.ref a := rx
  obtain rfl : iv = Value.ref b := ry
  have dd := mem_dict I2 M
  obtain ⟨p, hp⟩ := Option.isSome_iff_exists.mp sm
  obtain ⟨x, hx, e1, e2⟩ := atKey_mem hp
  obtain ⟨_, i, t, e3, r⟩ := M.key x hx
  refine ⟨dd.typeIs, wpAny_getItem_heap (tupleKind_room_in1 hu) (keyL_of I2.hok eb) dd hp ⟨.int i, H2, I2.tok _, ?_, q2 i (e1 ▸ r)⟩⟩
  rw [← e2, e3]
  exact ⟨t, rfl⟩
/-- d[key] = i of such a dict, the key not yet in it -/
def rMemPut (P : Program) (w : World) : TSet := fun o y v H Q => ∃ (a b : Addr) (k : List Leaf) (R : List Leaf → Int → Prop) (n : Nat) (xs : List (List Leaf × Addr × Value)) (i : Int), o = .ref a ∧ y = .ref b ∧ v = .int i ∧ H b = some (.tup (k.map lV)) ∧ MemAt P w H a R n xs ∧ n < 1000000 ∧ R k i ∧
  ∀ (H' : Hp) (xs' : List (List Leaf × Addr × Value)), MemAt P w H' a R (n + 1) xs' → (∀ q u, q ≠ a → H q = some u → H' q = some u) → (atKey xs' k).isSome = true → Q H'
theorem atKey_put {K : Type} [DecidableEq K] (k : K) (v : Value) : ∀ {xs : List (K × Addr × Value)}, (atKey xs k).isSome = true → (atKey (xs.map (putAt k v)) k).isSome = true := by
  intro xs h
  obtain ⟨p, hp⟩ := Option.isSome_iff_exists.mp h
  obtain ⟨x, hx, e1, _⟩ := atKey_mem hp
  unfold atKey
  rw [Option.isSome_map, List.find?_isSome]
  refine ⟨putAt k v x, List.mem_map.mpr ⟨x, hx, rfl⟩, ?_⟩
  unfold putAt
  rw [if_pos e1]
  exact decide_eq_true e1
theorem set_mem (hu : X.A.units + 1 < cLine) : PSet X (rMemPut X.prog X.w) := by
  intro pins s σ H o y v ov iv u Q I ro ri rv h
  obtain ⟨a, b, k, R, n, xs, i, rfl, rfl, rfl, eb, M, hn, r, q⟩ := h
  cases ro
  cases ri
  obtain ⟨t, rfl⟩ := rv
  have dd := mem_dict I M
  have hz : xs.length ≤ sizeLine := by rw [sizeLine_eq]; have := M.few; omega
  refine wpAny_setItem_heap (hsz := hz) (tupleKind_room_in1 hu) (keyL_of I.hok eb) dd fun h' dd' hs => ?_
  obtain ⟨ob, es, ep, hq, h2, h3, h4, _, h5⟩ := dd'
  obtain ⟨_, _, _⟩ := I.hok a _ M.ex
  have new : ObjOk X.prog X.w (upd H a (MemO X.prog X.w a (storedH xs k b (.int i t)))) h' a (MemO X.prog X.w a (storedH xs k b (.int i t))) := by
    refine ⟨⟨ob, es, ep, hq, h2, h3, h4, h5⟩, ⟨ob, hq⟩, fun h1 h2' ⟨o1, es1, ep1, g1, g2⟩ kk => ⟨o1, es1, ep1, kk _ g1, g2⟩⟩
  have far : ∀ q u, q ≠ a → H q = some u → (upd H a (MemO X.prog X.w a (storedH xs k b (.int i t)))) q = some u := fun q u ne e => by rw [upd_ne ne]; exact e
  have tupNe : ∀ {c : Addr} {ys : List V}, H c = some (.tup ys) → c ≠ a := fun ec => ne_of ec M.ex (fun z => nomatch z)
  refine ⟨_, d_write I (by rw [M.ex]; exact True.intro) hs ⟨ob, hq⟩ new, ?_⟩
  by_cases there : (atKey xs k).isSome = true
  · obtain ⟨p, hp⟩ := Option.isSome_iff_exists.mp there
    have es' := storedH_old hp b (.int i t)
    refine q _ (xs.map (putAt k (.int i t))) ⟨by rw [← es']; exact upd_same, by rw [List.length_map]; have := M.few; omega, fun x hx => ?_, M.sys⟩ far (atKey_put k _ there)
    obtain ⟨x0, hx0, rfl⟩ := List.mem_map.mp hx
    obtain ⟨m1, i0, t0, m2, m3⟩ := M.key x0 hx0
    unfold putAt
    by_cases e : x0.1 = k
    · rw [if_pos e]
      exact ⟨far _ _ (tupNe m1) m1, i, t, rfl, e ▸ r⟩
    · rw [if_neg e]
      exact ⟨far _ _ (tupNe m1) m1, i0, t0, m2, m3⟩
  · have hno : atKey xs k = none := by
      cases e : atKey xs k with
      | none => rfl
      | some p => rw [e] at there; exact absurd rfl there
    have es' := storedH_new hno b (.int i t)
    refine q _ (xs ++ [(k, b, .int i t)]) ⟨by rw [← es']; exact upd_same, by rw [List.length_append, List.length_singleton]; have := M.few; omega, fun x hx => ?_, M.sys⟩ far ?_
    · rcases List.mem_append.mp hx with hx | hx
      · obtain ⟨m1, m2⟩ := M.key x hx
        exact ⟨far _ _ (tupNe m1) m1, m2⟩
      · obtain rfl := List.mem_singleton.mp hx
        exact ⟨far _ _ (tupNe eb) eb, i, t, rfl, r⟩
    · unfold atKey
      rw [Option.isSome_map, List.find?_isSome]
      exact ⟨(k, b, .int i t), List.mem_append_right _ (List.mem_singleton.mpr rfl), decide_eq_true rfl⟩
/-- {} as such a dict -/
def tMemNew (P : Program) (w : World) : TE := fun _ H Q => ∀ a, H a = none → (∀ R, MemAt P w (upd H a (MemO P w a [])) a R 0 []) → Q (.ref a) (upd H a (MemO P w a []))
theorem pe_memnew {pos : Pos} : PE X (.Dict [] [] pos) (tMemNew X.prog X.w) := ⟨fun pins s σ H Q I h => by
  have hb := I.big
  have hn := I.hok.fresh (Nat.le_refl s.heap.objs.size)
  have sys : (s.heap.objs.size == sysModules) = false := beq_eq_false_iff_ne.mpr (Ne.symm (Nat.ne_of_lt hb))
  have new : ObjOk X.prog X.w (upd H s.heap.objs.size (MemO X.prog X.w s.heap.objs.size [])) (s.heap.push { cls := .type "dict", data := .dict #[] }) s.heap.objs.size (MemO X.prog X.w s.heap.objs.size []) :=
    ⟨⟨_, #[], 0, Heap.get?_push_size _ rfl, ⟨rfl, rfl, rfl⟩, rfl, rfl, List.nodup_nil⟩, ⟨_, Heap.get?_push_size _ rfl⟩, fun h1 h2' ⟨o1, es1, ep1, g1, g2⟩ kk => ⟨o1, es1, ep1, kk _ g1, g2⟩⟩
  refine wpAny_Dict_empty ⟨.ref s.heap.objs.size, _, I.laid (a := s.heap.objs.size) (o := MemO X.prog X.w s.heap.objs.size []) (t' := s.toks) (fun _ _ q => Heap.get?_push_of_some _ q) (Nat.le_refl _) new, rfl, h _ hn fun R => ⟨upd_same, Nat.le_refl _, fun x hx => absurd hx List.not_mem_nil, sys⟩⟩⟩
end
end My
namespace My
open PySem PySem.Spec PyProof.Rows L2
/-- an exception of the class cls that was caught and is still held, its own dict at d -/
def KeptO (cls : Value) (d : Option Addr) (a : Addr) : HO := .ext fun h => ∃ oe vs, h.get? a = some oe ∧ Zc cls d oe ∧ oe.data = .fields vs
theorem kept_ok {P : Program} {w : World} {H : Hp} {h : Heap} {cls : Value} {d : Option Addr} {a : Addr} {oe : Obj} {vs : Array Value} (e : h.get? a = some oe) (z : Zc cls d oe) (f : oe.data = .fields vs) : ObjOk P w H h a (KeptO cls d a) :=
  ⟨⟨oe, vs, e, z, f⟩, ⟨oe, e⟩, fun _ _ ⟨o, v, q, r⟩ k => ⟨o, v, k o q, r⟩⟩
section
variable {X : Cx} {pins : List (Addr × Obj)} {σ : L2.St} {H : Hp} {s : Shared}
/-- an object of ours, made since the entry and not tracked so far, is tracked from now on -/
theorem track {a : Addr} {o : HO} (I : Inv X pins σ H s) (na : H a = none) (n0 : X.s_0.heap.get? a = none) (nL : a ≠ X.env.locals) (nC : ∀ x c, X.env.cells.lookup x = some c → c ≠ a) (nP : ∀ p ∈ X.pn ++ pins, p.1 ≠ a)
    (ok : ObjOk X.prog X.w (upd H a o) s.heap a o) : Inv X pins σ (upd H a o) s := by
  have far : ∀ {b : Addr} {u : HO}, H b = some u → b ≠ a := fun q z => by
    rw [z, na] at q
    cases q
  have up : ∀ {b : Addr} {u : HO}, H b = some u → (upd H a o) b = some u := fun q => by
    rw [upd_ne (far q)]
    exact q
  refine ⟨I.ok, I.os, I.bare, ⟨I.base.keep, I.base.slot, fun b u q n hx => ?_, I.base.there, fun b xs q => up (I.base.tups b xs q), fun b u xs q => up (I.base.frzs b u xs q), fun b ps q => ?_⟩, I.loc, I.cell, ?_, fun x c q => ?_, fun p hp => ?_, fun b u q => ?_, I.len⟩
  · have nb : b ≠ a := fun z => by
      rw [z, n0] at q
      cases q
    rw [upd_ne nb]
    exact I.base.free b u q n hx
  · obtain ⟨more, q1⟩ := I.base.tbls b ps q
    exact ⟨more, up q1⟩
  · rw [upd_ne (Ne.symm nL)]
    exact I.free
  · rw [upd_ne (nC x c q)]
    exact I.freeC x c q
  · obtain ⟨h1, h2, h3⟩ := I.pin p hp
    refine ⟨h1, ?_, h3⟩
    rw [upd_ne (nP p hp)]
    exact h2
  · by_cases hb : b = a
    · subst hb
      rw [upd_same] at q
      injection q with q
      subst q
      exact ok
    · rw [upd_ne hb] at q
      exact (I.hok b u q).stay (fun _ _ _ r => r) (fun _ r => up r) fun _ _ r => up r
end
/-- what `except x as n: suite` wishes of an exception of the body: slot i is n's; behind the suite the exception is held -/
def wKeep (K : PySem.W.Frag) (c : Value) (i : Nat) (ts : Addr → Value → Option Addr → TS) (D : Ends) : WX := fun cls d σ H =>
  PySem.W.exmOne K cls c = some true ∧ ∀ a, H a = none → ts a cls d { nx := fun σ' H' => D.nx (σ'.set i none) (upd H' a (KeptO cls d a)), rt := fun _ _ => False, bk := fun _ _ => False, ct := fun _ _ => False } (σ.set i (some (.ref a))) H
section
variable {X : Cx} {x n : Str} {c : Value} {i : Nat} {body suite : List Stmt} {b₀ : Stmt} {np pos pos' : Pos} {tb : WX → TS} {ts : Addr → Value → Option Addr → TS}
theorem ps_try_keep (hex : X.ex = []) (hs : X.stack = X.env :: X.outer) (hf : X.env.frame = some X.env.locals) (hN : X.N.Nodup) (hi : X.N[i]? = some n) (hln : X.env.kindOf n = some .local) (hc : Names X x c)
    (hb : ∀ (W : WX) (pn : List (Addr × Obj)) (xe : Value → Shared → Prop), Takes (X.tr pn xe) W → PassesOwn (model X.prog X.w) X.A X.env xe → PSs (X.tr pn xe) body (tb W))
    (hsu : ∀ (a : Addr) (oe : Obj) (cls : Value) (d : Option Addr) (pn : List (Addr × Obj)), Zc cls d oe → (∃ vs, oe.data = .fields vs) → PSs (X.suite a ((a, oe) :: pn)) (b₀ :: suite) (ts a cls d)) :
    PS X (.Try body [.ExceptHandler (some (.Name x np)) (some n) (b₀ :: suite) pos'] [] [] pos) (fun D σ H => tb (wKeep X.K c i ts D) D σ H) := by
  constructor
  intro pins s σ H D I h
  have ok := I.ok
  have hfr : X.A.frames = some (X.env :: X.outer) := by rw [ok.frames, hs]
  -- what the body's exceptions are told to
  have caught : Takes (X.tr (X.pn ++ pins) fun e s₁ => wpAny (model X.prog X.w) X.A (noteFrame e X.env) (fun _ s₂ => wpAny (model X.prog X.w) X.A (setFlight e none) (fun _ s₃ =>
      wpAny (model X.prog X.w) X.A (handleBy e X.env [.ExceptHandler (some (.Name x np)) (some n) (b₀ :: suite) pos']) (SP X pins D) X.xe s₃) X.xe s₂) X.xe s₁) (wKeep X.K c i ts D) := by
    intro u s' xx
    obtain ⟨a, B, sI, pins', σ', H', cls, d, rfl, J', nb, up, sky, na, os, ag, hm, go⟩ := xx
    have J : Inv X pins σ' H' sI := J'.ofTry ok
    rw [show (X.tr (X.pn ++ pins) _).stack = X.env :: X.outer from hs] at sky
    show wpAny (model X.prog X.w) X.A (noteFrame (.ref a) X.env) _ _ _
    refine Sky.land Zc.steady hfr hf sky fun h3 fl3 up3 => ?_
    have none_B : B.get? a = none := fl3.2.1
    obtain ⟨oe3, vs3, he3, hz3, hd3⟩ := fl3.there
    have J3 : Inv X pins σ' H' { s' with heap := h3 } := J.landed nb fl3.1 (up.trans up3) os ag
    have out : a ∉ frs (X.env :: X.outer) := by
      intro z
      obtain ⟨_, o, e1, e2⟩ := (fl3.2.2.1).mem z
      have e3 := he3.symm.trans e1
      injection e3 with e3
      exact e2 vs3 (e3 ▸ hd3)
    have nL : a ≠ X.env.locals := fun z => out (List.mem_filterMap.mpr ⟨X.env, List.mem_cons_self, by rw [hf, z]⟩)
    have nF : a ∉ X.fs := fun z => by
      obtain ⟨e, he, e1⟩ := List.mem_filterMap.mp z
      exact out (List.mem_filterMap.mpr ⟨e, List.mem_cons_of_mem _ he, e1⟩)
    have notI : ∀ o, sI.heap.get? a ≠ some o := fun o z => by
      have e1 := nb a o z (by rw [hs]; exact out)
      rw [none_B] at e1
      cases e1
    have n0 : X.s_0.heap.get? a = none := by
      cases z : X.s_0.heap.get? a with
      | none => rfl
      | some o =>
        obtain ⟨o', e1⟩ := J.base.there a o z (by rw [hex]; exact List.not_mem_nil)
        exact absurd e1 (notI o')
    have nP : ∀ p ∈ X.pn ++ pins, p.1 ≠ a := fun p hp z => notI p.2 (z ▸ (J.pin p hp).1)
    have nC : ∀ v cc, X.env.cells.lookup v = some cc → cc ≠ a := fun v cc q z => by
      obtain ⟨_, o, e1, e2⟩ := J3.cell v cc q
      have e3 : h3.get? cc = some o := e1
      rw [z, he3] at e3
      injection e3 with e3
      rw [← e3, hd3] at e2
      cases e2
    have S3 := J3.suite he3 hd3 na nL nF
    refine wpAny_handleBy_cons (codeAny_handlers_test ?_) (by intro q; cases q)
    have kind : PySem.W.Looks (model X.prog X.w) h3 (typeOf (.ref a)) cls := fun A Q E s k q => wpAny_typeOf_ref (k _ _ he3) (by rw [hz3.1]; exact q)
    have fits := PySem.W.exm_one (M := model X.prog X.w) J3.kIn kind hm
    have named : ∀ {Q : Value → Shared → Prop} {E : Value → Shared → Prop}, Q c { s' with heap := h3 } → wpAny (model X.prog X.w) (X.A.mark (some (.ref a))) (eval (.Name x np) X.env) Q E { s' with heap := h3 } := by
      intro Q E q
      obtain ⟨g, db, hx | ⟨hx, hv, hnn⟩⟩ := hc
      · exact ld_glob (X := X.suite a ((a, oe3) :: (X.pn ++ pins))) S3 g hx q db
      · exact ld_blt (X := X.suite a ((a, oe3) :: (X.pn ++ pins))) S3 g hx hv q hnn db
    refine named (fits.here (codeAny_handlers_suite_as (HandSPX.lands_againZ fl3 fun h4 fl4 up4 => ?_)))
    obtain ⟨oe4, vs4, he4, hz4, hd4⟩ := fl4.there
    have J4 : Inv X pins σ' H' { s' with heap := h4 } := J.landed nb fl4.1 ((up.trans up3).trans up4) os ag
    have S4 := J4.suite he4 hd4 na nL nF
    refine store_ok (X := X.suite a ((a, oe4) :: (X.pn ++ pins))) (v := .ref a) S4 hN hi (.inl hln) rfl (fun s5 S5 => ?_) (.inr hln)
    refine wpAny_mono ((hsu a oe4 cls d (X.pn ++ pins) hz4 ⟨_, hd4⟩).run [] s5 _ H' _ S5 (go a na)) (fun f s6 q => ?_) fun _ _ z => z.elim
    cases f with
    | brk => exact (let ⟨_, _, _, q⟩ := q; q).elim
    | cont => exact (let ⟨_, _, _, q⟩ := q; q).elim
    | ret u => exact (let ⟨_, _, _, _, _, q⟩ := q; q).elim
    | next =>
      obtain ⟨σ6, H6, S6, q6⟩ := q
      refine gone_ok (X := X.suite a ((a, oe4) :: (X.pn ++ pins))) S6 hN hi hln fun s7 S7 => ?_
      obtain ⟨e7, n7, _⟩ := S7.pin (a, oe4) (List.mem_append_left _ List.mem_cons_self)
      exact ⟨_, _, track (S7.unsuite ok) n7 n0 nL nC nP (kept_ok e7 hz4 hd4), q6⟩
  refine wpAny_Try_except (wpAny_mono ((hb (wKeep X.K c i ts D) (X.pn ++ pins) _ caught PassesOwn.looking).run [] s σ H D (I.toTry _) h) (fun f s1 q => ?_) fun e s1 q => q)
  cases f with
  | next => exact (let ⟨σ', H', J, q⟩ := q; wpAny_execs_nil ⟨σ', H', J.ofTry ok, q⟩)
  | brk => exact (let ⟨σ', H', J, q⟩ := q; ⟨σ', H', J.ofTry ok, q⟩)
  | cont => exact (let ⟨σ', H', J, q⟩ := q; ⟨σ', H', J.ofTry ok, q⟩)
  | ret u => exact (let ⟨v, σ', H', J, r, q⟩ := q; ⟨v, σ', H', J.ofTry ok, r, q⟩)
end
end My
namespace My
open PySem PySem.Spec PyProof.Rows L2
section
variable {X : Cx} {pins : List (Addr × Obj)} {σ : L2.St} {H : Hp} {s : Shared} {a C : Addr} {d : Option Addr}
/-- the held exception as the library's rules for instances want it; its own dict, if it has one, is tracked -/
theorem held_inst (I : Inv X pins σ H s) (h : H a = some (KeptO (.ref C) d a)) (hd : ∀ dd, d = some dd → ∃ fs, H dd = some (.xd fs)) : ∃ oe od, PySem.W.InstAt s.heap a oe C od := by
  obtain ⟨⟨oe, vs, e, z, f⟩, _, _⟩ := I.hok a _ h
  have plain : PySem.W.notCls oe = true := by
    unfold PySem.W.notCls
    rw [f] <;> rfl
  cases d with
  | none => exact ⟨oe, none, e, z.1, plain, by rw [z.2]; trivial⟩
  | some dd =>
    obtain ⟨fs, hx⟩ := hd dd rfl
    obtain ⟨mA, ns, _⟩ := (show ObjOk X.prog X.w H s.heap dd (.xd fs) from I.hok dd _ hx)
    obtain ⟨od, ho, _⟩ := lookIn_ns ns
    exact ⟨oe, some od, e, z.1, plain, by rw [z.2]; exact ho⟩
/-- isinstance(e, c), e an exception that is held, c an own class or a built-in one -/
def rHeldIs (K : PySem.W.Frag) : List V → Hp → VK → Prop := fun xs H Q => ∃ (a D : Addr) (d : Option Addr) (c : V) (u : Value) (b : Bool), xs = [.ref a, c] ∧ ClsV c u ∧ H a = some (KeptO (.ref D) d a) ∧ (∀ dd, d = some dd → ∃ fs, H dd = some (.xd fs)) ∧
  ExcC K D ∧ PySem.W.kitOne K (.ref D) u = some b ∧ Q (.bl b) H
theorem call_heldIs : CallR X (.builtin "isinstance") (rHeldIs X.K) := by
  intro pins s σ H xs us Q I r h
  obtain ⟨a, D, d, c, u, b, rfl, k, ha, hd, T, e, q⟩ := h
  obtain ⟨u1, u2, rfl, r1, r2⟩ := vals2 r
  cases r1
  have e2 := k.eq r2
  subst e2
  obtain ⟨oe, od, J⟩ := held_inst I ha hd
  have cls : (PySem.W.clsIn X.K D).isSome = true := by
    obtain ⟨cd, hc, _⟩ := PySem.W.any_some T.hd
    rw [hc] <;> rfl
  exact PySem.W.kia_one (PySem.W.kitx_exc cls T.hg T.hk T.hs T.ha T.hn T.ht T.hm) I.kIn J e (fun z => nomatch z) fun tk => ⟨.bl b, H, I.tok tk, rfl, q⟩
/-- e.f of a held exception -/
def tHeldF (K : PySem.W.Frag) (f : Str) (te : TE) : TE := fun σ H Q => te σ H fun x H1 => ∃ (a C dd : Addr) (fs : List (Str × V)) (v : V), x = .ref a ∧ H1 a = some (KeptO (.ref C) (some dd) a) ∧ H1 dd = some (.xd fs) ∧ XfC K C ∧ PySem.W.findIn K (.ref C) f = some none ∧ fs.lookup f = some v ∧ Q v H1
theorem pe_heldF {te : TE} {n : Str} {e : Expr} {pos : Pos} (he : PE X e te) (hb : attributeBase e n X.env (eval e X.env) = eval e X.env := by rfl) : PE X (.Attribute e n pos) (tHeldF X.K n te) := by
  constructor
  intro pins s σ H Q I h
  refine attr_of hb (thn (he.run pins s σ H _ I h) ?_)
  intro u s1 hu
  obtain ⟨x, H1, I1, rx, a, C, dd, fs, v, ex, ea, ed, T, hno, l, q⟩ := hu
  subst ex
  obtain rfl : u = Value.ref a := rx
  obtain ⟨⟨oe, vs, e1, z, f1⟩, _, _⟩ := I1.hok a _ ea
  obtain ⟨mA, ns, rel⟩ := (show ObjOk X.prog X.w H1 s1.heap dd (.xd fs) from I1.hok dd _ ed)
  obtain ⟨od, ho, hl⟩ := lookIn_ns ns
  obtain ⟨w, hw, rw'⟩ := RelO.some_of (v := v) (o := mA n) (by rw [← l]; exact rel n)
  have plain : PySem.W.notCls oe = true := by
    unfold PySem.W.notCls
    rw [f1] <;> rfl
  have J : PySem.W.InstAt s1.heap a oe C (some od) := ⟨e1, z.1, plain, by rw [z.2]; exact ho⟩
  exact HandSPX.exc_get I1.kIn J T.ga T.gg T.exC (PySem.W.findObj_own T.hdC hno rfl (by rw [hl, hw])) (handed_of rw') ⟨v, H1, I1.tok _, rw', q⟩
end
end My
namespace My
open PySem PySem.Spec PyProof.Rows L2
/-- a def's promise where it is known that no repr is under way -/
structure FnG (P : Program) (w : World) (K : PySem.W.Frag) (mg : Str → Option Value) (base : Heap) (CX : CXT) (k : Nat) (f : Addr) (fd : FuncData) (ps : List Str) (sp : Sp) : Prop where
  len : ∀ vs H Q E, sp vs H Q E → vs.length = ps.length
  run : ∀ (A : Around) (outer : List Env) (s : Shared) (H : Hp) (args : Args) (us : List Value) (vs : List V) (Q : VK) (E : XK), Room k A → A.guards = some [] → Env0 P w K mg base A outer s H → BindsTo s fd args (ps.zip us) → Vals vs us → sp vs H Q E →
    codeAny (model P w) A (.call (.ref f) args) (CR CX outer P w H s Q E) s
theorem toG {P : Program} {w : World} {K : PySem.W.Frag} {mg : Str → Option Value} {base : Heap} {CX : CXT} {k : Nat} {f : Addr} {fd : FuncData} {ps : List Str} {sp : Sp} (F : FnOk P w K mg base CX k f fd ps sp) : FnG P w K mg base CX k f fd ps sp :=
  ⟨F.len, fun A outer s H args us vs Q E r _ => F.run A outer s H args us vs Q E r⟩
section
variable {P : Program} {w : World} {K : PySem.W.Frag} {mg : Str → Option Value} {base : Heap}
/-- a def by its body, the guards known -/
theorem okG {CX : CXT} {x qual : Str} {st : Stmt} {f : Addr} {fd : FuncData} {N ps : List Str} {k : Nat} {sp : Sp} (F : Fun K x qual st f fd) (S : FnScope N ps (defScope st)) (len : ∀ vs H Q E, sp vs H Q E → vs.length = ps.length)
    (body : ∀ (cdv : Value) (A : Around) (outer : List Env) (s : Shared) (H : Hp) (vs : List V) (Q : VK) (E : XK), Room k (A.deeper (envOfC qual (defScope st) s.heap.objs.size f cdv)) → (A.deeper (envOfC qual (defScope st) s.heap.objs.size f cdv)).guards = some [] → sp vs H Q E →
      ∃ t, PSs (cxOf CX P w K mg base N qual (defScope st) f cdv A outer s H E) (defBody st) t ∧ t { nx := fun _ H' => Q .non H', rt := Q } (start N vs) H) : FnG P w K mg base CX (k + 1) f fd ps sp := by
  obtain ⟨oc, od, kV, doc, pm, an, cdv, ct, osl, rfl, lk, hcd⟩ := F.ex
  refine ⟨len, ?_⟩
  intro A outer s H args us vs Q E room guard e0 bind rel prom
  have stays : ∀ b o, base.get? b = some o → s.heap.get? b = some o := fun b o z => (e0.bs b o z).1
  have KS : K.In s.heap := e0.mod.kin.keeps stays
  have many := len _ _ _ _ prom
  have kinds : ∀ y ∈ ps.zip us, (defScope st).names.lookup y.1 = some .local ∨ ((defScope st).names.lookup y.1 = some .cell ∧ ((cellsFrom (s.heap.objs.size + 1) (defScope st).names []).lookup y.1).isSome = true) := by
    intro y hy
    cases S.par y.1 (List.of_mem_zip hy).1 with
    | inl q => exact .inl q
    | inr q => exact .inr ⟨q, PySem.W.cellsFrom_some _ _ _ (.inl q)⟩
  refine codeAny_call_function room.depth (KS _ _ lk) rfl S.co S.gen rfl (PySem.W.codeRec_of KS hcd) (bind _ _ _ _ ?_)
  refine wpAny_newFunctionEnv_cells S.kind kinds fun env he s2 ic => ?_
  subst he
  refine ⟨(e0.mod.nolimit.keeps stays).keeps ic.toInCall.keep, codeAny_func ?_⟩
  have guard' : (A.deeper (envOfC qual (defScope st) s.heap.objs.size f cdv)).guards = some [] := by
    obtain ⟨a1, a2, a3, a4, a5⟩ := A
    first | exact guard | simpa [Around.deeper, Code.guards, Code.isGuard, pushGuards, guardIds] using guard
  obtain ⟨t, ht, hq⟩ := body cdv A outer s H vs Q E (room.deeper _) guard' prom
  refine wpAny_mono (ht.run [] s2 (start N vs) H _ (inv_start S room.hd e0 many rel ic) hq) (fun fl s' hs => ?_) fun e s' hs => hs
  cases fl with
  | ret u => exact (let ⟨v, _, H', J, rv, q⟩ := hs; ⟨v, H', J.os, J.bare, J.base, J.hok, rv, q⟩)
  | next => exact (let ⟨_, H', J, q⟩ := hs; ⟨.non, H', J.os, J.bare, J.base, J.hok, rfl, q⟩)
  | brk => exact (let ⟨_, _, _, q⟩ := hs; q).elim
  | cont => exact (let ⟨_, _, _, q⟩ := hs; q).elim
end
section
variable {X : Cx} {CX : CXT} {k : Nat} {f : Addr} {fd : FuncData} {ps : List Str} {ds : List Value} {dvs : List V} {sp : Sp} {E : XK} {x : Str} {p pos : Pos} {e : Expr} {es : List Expr} {t : TA}
theorem runG {pins : List (Addr × Obj)} {σ : L2.St} {H : Hp} {s : Shared} {Q : VK} {us : List Value} {vs : List V} (F : FnG X.prog X.w X.K X.mg X.base CX k f fd ps sp) (hr : Room k X.A) (hg : X.A.guards = some []) (hb : Binds X.K fd ps ds) (hd : Vals dvs ds) (hx : Passes CX X E)
    (I : Inv X pins σ H s) (r : Vals vs us) (h : sp (vs ++ dvs) H Q E) : wpAny (model X.prog X.w) X.A (call (.ref f) us) (EP X pins σ Q) X.xe s := by
  have rel : Vals (vs ++ dvs) (us ++ ds) := r.append hd
  have many : (us ++ ds).length = ps.length := rel.length ▸ F.len _ _ _ _ h
  refine wpAny_call (codeAny_mono (F.run X.A X.stack s H ⟨us, []⟩ (us ++ ds) (vs ++ dvs) Q E hr hg I.env0 (hb s us I.kIn many) rel h) ?_)
  intro r s' hq
  match r, hq with
  | .error e, hq => exact hx pins σ H s e s' I hq
  | .ok (.ret u), hq => exact I.after hq
/-- f(e, ..) where it is known that no repr is under way -/
theorem pe_callG (F : FnG X.prog X.w X.K X.mg X.base CX k f fd ps sp) (hr : Room k X.A) (hgu : X.A.guards = some []) (hg : Gl X x) (hm : X.mg x = some (.ref f)) (hk : PySem.W.keepIn X.K (.ref f) = true) (hb : Binds X.K fd ps ds) (hd : Vals dvs ds) (hx : Passes CX X E)
    (ha : PA X (e :: es) t) (hdb : (x == ("__debug__" : Str)) = false := by decide) (he : starEach (e :: es) X.env = (false, eval e X.env) :: starEach es X.env := by rfl) (hpl : (backTo pos (starEach es X.env)).any (·.1) = false := by rfl) :
    PE X (.Call (.Name x p) (e :: es) [] pos) (tCall sp dvs E t) := by
  constructor
  intro pins s σ H Q I h
  refine wpAny_Call_Name_kw (ld_glob I hg hm (PySem.W.callWith_K (h₀ := X.base) I.ok.mod.kin hk (thn (ha.run pos pins s σ H _ I h) ?_) he hpl) hdb)
  intro us s1 hu
  obtain ⟨vs, H1, I1, r, q⟩ := hu
  exact ⟨I1.kIn, runG F hr hgu hb hd hx I1 r q⟩
/-- x == y where x is of an own class with an own __eq__ that answers True or False, y anything that is not of a class below x's -/
def rEqOwn (K : PySem.W.Frag) (C : Addr) (sp : Sp) (E : XK) : R2 := fun x y H Q => ∃ (a dx : Addr) (fs : List (Str × V)) (t : Value), x = .ref a ∧ H a = some (.ins C dx fs) ∧ TyX K H y t ∧ PySem.W.notFirst K C t = true ∧ sp [x, y] H (fun v H' => ∃ b, v = .bl b ∧ Q (.bl b) H') E
theorem op_eqOwn {C : Addr} (F : FnG X.prog X.w X.K X.mg X.base CX k f fd ps sp) (hr : Room k X.A) (hgu : X.A.guards = some []) (hs : PySem.W.findIn X.K (.ref C) "__eq__" = some (some (.ref f))) (hf : PySem.W.isFn X.K (.ref f) = true) (hb : Binds X.K fd ps []) (hx : Passes CX X E) :
    OpR X (compareOp .Eq) (rEqOwn X.K C sp E) := by
  intro pins s σ H x y v u Q I rx ry h
  obtain ⟨a, dx, fs, t, rfl, ha, ty, nf, q⟩ := h
  cases rx
  obtain ⟨mA, J, _⟩ := ins_get I.hok ha
  obtain ⟨od, J, _⟩ := J.look
  obtain ⟨m, hF⟩ := I.fr
  obtain ⟨Pp, Z, pz, _⟩ := kit_of I ry ty
  show wpAny (model X.prog X.w) X.A (richCompare .Eq (.ref a) u) (EP X pins σ Q) X.xe s
  refine PySem.W.cmp_K (op := .Eq) (tb := t) hr.units0 hF I.ok.mod.kin J (Z.ty _ _ I.kIn pz) nf hs hf ?_
  refine wpAny_mono (runG (vs := [.ref a, y]) (us := [.ref a, u]) (dvs := []) (ds := []) F hr hgu hb .nil hx I (.cons rfl (.cons ry .nil)) q) (fun r s' z => ?_) fun _ _ z => z
  obtain ⟨w1, H1, I1, r1, b, rfl, q1⟩ := z
  cases r1
  exact ⟨.bl b, H1, I1, rfl, q1⟩
end
end My
namespace My
open PySem PySem.Spec PyProof.Rows L2
section
variable {X : Cx} {CX : CXT} {k : Nat} {f : Addr} {fd : FuncData} {ps : List Str} {sp : Sp} {E : XK}
/-- a def called from within a built-in -/
theorem runAt {A : Around} {pins : List (Addr × Obj)} {σ : L2.St} {H : Hp} {s : Shared} {Q : VK} {us : List Value} {vs : List V} (F : FnG X.prog X.w X.K X.mg X.base CX k f fd ps sp) (hr : Room k A) (hg : A.guards = some []) (fr : A.frames = X.A.frames) (hb : Binds X.K fd ps []) (hx : Passes CX X E)
    (I : Inv X pins σ H s) (r : Vals vs us) (h : sp vs H Q E) : wpAny (model X.prog X.w) A (call (.ref f) us) (EP X pins σ Q) X.xe s := by
  have many : us.length = ps.length := r.length ▸ F.len _ _ _ _ h
  have e0 : Env0 X.prog X.w X.K X.mg X.base A X.stack s H := by
    obtain ⟨h1, h2, h3, h4, h5, h6, h7, h8⟩ := I.env0
    exact ⟨fr.trans h1, h2, h3, h4, h5, h6, h7, h8⟩
  have bind := hb s us I.kIn (by simpa using many)
  rw [List.append_nil] at bind
  refine wpAny_call (codeAny_mono (F.run A X.stack s H ⟨us, []⟩ us vs Q E hr hg e0 bind r h) ?_)
  intro r s' hq
  match r, hq with
  | .error e, hq => exact hx pins σ H s e s' I hq
  | .ok (.ret u), hq => exact I.after hq
/-- x != y where x is of an own class with an own __eq__ that answers True or False and without an own __ne__ -/
theorem op_neOwn {C : Addr} (F : FnG X.prog X.w X.K X.mg X.base CX k f fd ps sp) (hr : Room (k + 1) X.A) (hgu : X.A.guards = some []) (hs : PySem.W.findIn X.K (.ref C) "__eq__" = some (some (.ref f))) (hf : PySem.W.isFn X.K (.ref f) = true)
    (hn : PySem.W.findIn X.K (.ref C) "__ne__" = some (some (.builtin "object.__ne__"))) (hm : PySem.W.mroIn X.K C (.type "object") = some true) (hb : Binds X.K fd ps []) (hx : Passes CX X E) :
    OpR X (compareOp .NotEq) (fun x y H Q => rEqOwn X.K C sp E x y H fun v H' => ∃ b, v = .bl b ∧ Q (.bl (!b)) H') := by
  intro pins s σ H x y v u Q I rx ry h
  obtain ⟨a, dx, fs, t, rfl, ha, ty, nf, q⟩ := h
  cases rx
  obtain ⟨mA, J, _⟩ := ins_get I.hok ha
  obtain ⟨od, J, _⟩ := J.look
  obtain ⟨Pp, Z, pz, _⟩ := kit_of I ry ty
  have KS := I.kIn
  have own : wpAny (model X.prog X.w) X.A.in1 (callSpecialIfBound? (.ref a) "__eq__" [u]) (fun r s' => ∃ b, r = some (.bool b) ∧ EP X pins σ Q (.bool (!b)) s') X.xe s := by
    refine PySem.W.ifBound_K KS J hs hf (wpAny_mono (runAt (vs := [.ref a, y]) (us := [.ref a, u]) F hr.in1 hgu rfl hb hx I (.cons rfl (.cons ry .nil)) q) (fun r s' z => ?_) fun _ _ z => z)
    obtain ⟨w1, H1, I1, r1, b, rfl, b', e, q1⟩ := z
    cases r1
    cases e
    exact ⟨b, rfl, .bl (!b), H1, I1, rfl, q1⟩
  have entry : wpAny (model X.prog X.w) X.A.in1 (Builtin.«object.__ne__» ⟨[.ref a, u], []⟩) (fun r s' => ∃ b, r = .done (.ret (.bool (!b))) ∧ EP X pins σ Q (.bool (!b)) s') X.xe s := by
    unfold Builtin.«object.__ne__»
    refine wpAny_bind (wpAny_of_eq (a := ((Value.ref a : Value), [u])) (by first | rfl | (simp only [slotArgs]; rfl)) ?_)
    refine wpAny_bind (wpAny_cRoomFor hr.in1.units0 (wpAny_bind (wpAny_mono own (fun r s' z => ?_) fun _ _ z => z)))
    obtain ⟨b, rfl, ep⟩ := z
    exact wpAny_bind (wpAny_truthy_bool (wpAny_pure ⟨b, rfl, ep⟩))
  have slot : wpAny (model X.prog X.w) X.A (call (.builtin "object.__ne__") [.ref a, u]) (fun v s' => ∃ b, v = .bool b ∧ EP X pins σ Q (.bool b) s') X.xe s := by
    refine wpAny_call (codeAny_call_builtin PySem.F.cmp_object.ne.plain PySem.F.cmpEntry_ne (PySem.W.check_slot PySem.F.cmpKind_ne PySem.F.cmpSplit_ne (J.type.andThen (PySem.W.looks_mroIn KS hm)) (PySem.F.cmpArgs_ne _ _) (wpAny_mono entry (fun r s' z => ?_) fun _ _ z => z)))
    obtain ⟨b, rfl, ep⟩ := z
    exact ⟨!b, rfl, ep⟩
  have one : wpAny (model X.prog X.w) X.A (tryCompare (.ref a) "__ne__" u) (fun r s' => ∃ b, r = some (.bool b) ∧ EP X pins σ Q (.bool b) s') X.xe s := by
    unfold tryCompare
    have asked : wpAny (model X.prog X.w) X.A (callSpecialIfBound? (.ref a) "__ne__" [u]) (fun r s' => ∃ b, r = some (.bool b) ∧ EP X pins σ Q (.bool b) s') X.xe s := by
      have last : wpAny (model X.prog X.w) X.A (call (.builtin "object.__ne__") ([.ref a] ++ [u]) >>= fun v => pure (some v)) (fun r s' => ∃ b, r = some (.bool b) ∧ EP X pins σ Q (.bool b) s') X.xe s :=
        wpAny_bind (wpAny_mono slot (fun v s' z => wpAny_pure (let ⟨b, e, ep⟩ := z; ⟨b, congrArg some e, ep⟩)) fun _ _ z => z)
      unfold callSpecialIfBound? bindSpecialIfBound?
      refine wpAny_holding (wpAny_bind (wpAny_bind (wpAny_bind (J.type.here ((PySem.W.looks_findIn KS hn).here (wpAny_bind (wpAny_askSetting (wpAny_ite ?_))))))))
      split
      · exact wpAny_bind (wpAny_of_eq (PySem.F.cmp_object.ne.bind _) (wpAny_pure last))
      · exact wpAny_tryCatch (wpAny_bind (wpAny_of_eq (PySem.F.cmp_object.ne.bind _) (wpAny_pure last)))
    refine wpAny_bind (wpAny_mono asked (fun r s' z => ?_) fun _ _ z => z)
    obtain ⟨b, rfl, ep⟩ := z
    exact wpAny_pure ⟨b, rfl, ep⟩
  show wpAny (model X.prog X.w) X.A (richCompare .NotEq (.ref a) u) (EP X pins σ Q) X.xe s
  unfold richCompare
  simp only [oneThing_ref]
  refine wpAny_holding (wpAny_bind (wpAny_cRoomFor hr.units0 (wpAny_bind (J.type.here (wpAny_bind ((Z.ty _ _ KS pz).here ?_))))))
  have fin : ∀ (rest : Option Value → Sem Value), (∀ b, rest (some (.bool b)) = pure (.bool b)) → wpAny (model X.prog X.w) X.A (tryCompare (.ref a) (cmpInfo CmpOp.NotEq).2.1 u >>= rest) (EP X pins σ Q) X.xe s := fun rest hrest => by
    refine wpAny_bind (wpAny_mono one (fun r s' z => ?_) fun _ _ z => z)
    obtain ⟨b, rfl, ep⟩ := z
    rw [hrest]
    exact wpAny_pure ep
  unfold PySem.W.notFirst at nf
  split
  · rename_i ne
    have sub : PySem.W.subIn X.K t (.ref C) = some false := by
      cases e : (t == Value.ref C) with
      | true =>
        rw [eq_of_beq e] at ne
        simp at ne
      | false =>
        rw [e, Bool.false_or] at nf
        exact eq_of_beq nf
    refine wpAny_bind ((PySem.W.looks_subIn KS sub).here ?_)
    simp only [Bool.false_eq_true, if_false]
    exact fin _ fun b => rfl
  · refine wpAny_bind (wpAny_pure ?_)
    simp only [Bool.false_eq_true, if_false]
    exact fin _ fun b => rfl
end
end My
namespace My
open PySem PySem.Spec PyProof.Rows L2
section
variable {X : Cx} {CX : CXT} {k : Nat} {f : Addr} {fd : FuncData} {ps : List Str} {sp : Sp} {E : XK}
/-- str(x), x of an own class with an own __str__ -/
theorem call_strOwn {C : Addr} (F : FnG X.prog X.w X.K X.mg X.base CX k f fd ps sp) (hr : Room (k + 2) X.A) (hgu : X.A.guards = some []) (hs : PySem.W.findIn X.K (.ref C) "__str__" = some (some (.ref f))) (hf : PySem.W.isFn X.K (.ref f) = true) (hb : Binds X.K fd ps []) (hx : Passes CX X E) :
    CallR X (.type "str") (fun xs H Q => ∃ (a dx : Addr) (fs : List (Str × V)), xs = [.ref a] ∧ H a = some (.ins C dx fs) ∧ sp [.ref a] H (fun v H' => ∃ z : Str, v = .str z ∧ Q (.str z) H') E) := by
  intro pins s σ H xs us Q I r h
  obtain ⟨a, dx, fs, rfl, ha, q⟩ := h
  obtain ⟨u, rfl, ru⟩ := vals1 r
  cases ru
  obtain ⟨mA, J, _⟩ := ins_get I.hok ha
  obtain ⟨od, J, _⟩ := J.look
  refine PySem.W.kso_call (Room.units0 (hr.in1.in1)) I.kIn J hs hf (wpAny_mono (runAt (vs := [.ref a]) (us := [.ref a]) F hr.in1.in1 hgu rfl hb hx I (.cons rfl .nil) q) (fun r s' z => ?_) fun _ _ z => z)
  obtain ⟨w1, H1, I1, r1, y, rfl, q1⟩ := z
  obtain ⟨t, rfl⟩ := r1
  exact ⟨.str y, H1, I1, ⟨t, rfl⟩, q1⟩
end
/-- a value without parts, and what it is -/
inductive Fl : V → PyData → Prop
  | non : Fl .non .none
  | bl (b : Bool) : Fl (.bl b) (.bool b)
  | int (i : Int) : Fl (.int i) (.int i)
  | str (x : Str) : Fl (.str x) (.str x)
/-- values without parts, and what they are -/
abbrev Fls : List V → List PyData → Prop := Paired Fl
/-- what a value is: without parts, a list or tuple of such, the dict without entries -/
inductive Th (H : Hp) : V → PyData → Prop
  | flat {x : V} {d : PyData} (h : Fl x d) : Th H x d
  | lst {a : Addr} {xs : List V} {ds : List PyData} (h : H a = some (.lst xs)) (k : Fls xs ds) (n : xs.length ≤ 1000) : Th H (.ref a) (.list ds)
  | tup {a : Addr} {xs : List V} {ds : List PyData} (h : H a = some (.tup xs)) (k : Fls xs ds) (n : xs.length ≤ 1000) : Th H (.ref a) (.tuple ds)
  | dct {a : Addr} (h : H a = some (.dK [])) : Th H (.ref a) (.dict [])
theorem Th.keep {H H' : Hp} {x : V} {d : PyData} (h : Th H x d) (k : ∀ b o, H b = some o → H' b = some o) : Th H' x d := by
  cases h with
  | flat h => exact .flat h
  | lst h r n => exact .lst (k _ _ h) r n
  | tup h r n => exact .tup (k _ _ h) r n
  | dct h => exact .dct (k _ _ h)
theorem fl_dp {K : PySem.W.Frag} {H : Hp} {x : V} {d : PyData} (h : Fl x d) : Dp K H x d := by
  cases h with
  | non => exact .non
  | bl b => exact .bl b
  | int i => exact .int i
  | str x => exact .str x
theorem fls_dp {K : PySem.W.Frag} {H : Hp} : ∀ {xs : List V} {ds : List PyData}, Fls xs ds → DpAll K H xs ds
  | _, _, .nil => .nil
  | _, _, .cons h r => .cons (fl_dp h) (fls_dp r)
theorem fls_noDict : ∀ {xs : List V} {ds : List PyData}, Fls xs ds → PyData.hasDictAll ds = false
  | _, _, .nil => rfl
  | _, _, .cons h r => by
    unfold PyData.hasDictAll
    rw [fls_noDict r]
    cases h <;> rfl
/-- what can be shown in bounds -/
structure Fine (d : PyData) : Prop where
  show_ : d.showable = true
  deep : d.depth ≤ 8
  size : d.shown.length ≤ sizeLine
section
variable {X : Cx}
theorem call_reprT (hg : X.A.guards = some []) (hu : X.A.units + 64 < cLine) : CallR X (.builtin "repr") (fun xs H Q => ∃ x d, xs = [x] ∧ Th H x d ∧ Fine d ∧ Q (.str d.shown) H) := by
  intro pins s σ H xs us Q I r h
  obtain ⟨x, d, rfl, th, fine, q⟩ := h
  obtain ⟨u, rfl, ru⟩ := vals1 r
  have fin : ∀ t tk, EP X pins σ Q (.str d.shown t) { s with toks := tk } := fun t tk => ⟨.str d.shown, H, I.tok tk, ⟨t, rfl⟩, q⟩
  have obj : ∀ a (as : List Addr), Reads s.heap (.ref a) d as → (d.hasDict = true → sysModules ∉ as) → wpAny (model X.prog X.w) X.A (call (.builtin "repr") [.ref a]) (EP X pins σ Q) X.xe s := fun a as rd nd =>
    repr_of_reads' rd fine.show_ nd hg (by have := fine.deep; omega) (fun _ _ e => e) (fun h' u tk hk => ⟨.str d.shown, H, I.kept hk, ⟨u, rfl⟩, q⟩) fine.size
  cases th with
  | flat h =>
    cases h with
    | non =>
      cases ru
      exact PySem.P.repr_of_none (fin _ _)
    | bl b =>
      cases ru
      exact PySem.P.repr_of_bool (by
        have e : (PyData.bool b).shown = if b then ("True" : Str) else "False" := by unfold PyData.shown; rfl
        rw [e] at fin
        cases b <;> exact fin _ _)
    | int i =>
      obtain ⟨t, rfl⟩ := ru
      have sm : i.natAbs.log2 < 1920 := by
        have z := fine.show_
        unfold PyData.showable at z
        exact of_decide_eq_true z
      exact PySem.P.repr_of_int sm (by
        have e : (PyData.int i).shown = (toString i : Str) := by unfold PyData.shown; rfl
        rw [e] at fin
        exact fin _ _)
    | str z =>
      obtain ⟨t, rfl⟩ := ru
      have e : (PyData.str z).shown = reprText z := by unfold PyData.shown; rfl
      have sz := fine.size
      rw [e] at fin sz
      exact PySem.P.repr_of_str (fin _ _) sz
  | @lst a xs ds h k n =>
    cases ru
    obtain ⟨as, rd⟩ := Dp.reads I _ _ _ (Dp.lst (K := X.K) (SqL.of h) (fls_dp k)) rfl
    refine obj a as rd (fun z => ?_)
    unfold PyData.hasDict at z
    rw [fls_noDict k] at z
    cases z
  | @tup a xs ds h k n =>
    cases ru
    obtain ⟨as, rd⟩ := Dp.reads I _ _ _ (Dp.tup (K := X.K) (SqT.of h) (fls_dp k)) rfl
    refine obj a as rd (fun z => ?_)
    unfold PyData.hasDict at z
    rw [fls_noDict k] at z
    cases z
  | @dct a h =>
    cases ru
    obtain ⟨_, nsys, vs, kv, o, es, ep, ho, ex, hd, _, pr, _⟩ := dk_of I.hok h
    cases kv
    have es0 : es.toList = [] := by
      obtain ⟨l⟩ := es
      have pr' : PySem.Pairs _ l [] := pr
      cases l with
      | nil => rfl
      | cons _ _ => cases pr'
    refine obj a _ (Reads.dict (kvs := []) (as := []) (bs := []) ho ex.1 hd (by rw [es0]; exact .nil) (by rw [es0]; exact .nil)) (fun _ => ?_)
    simp only [List.append_nil, List.mem_singleton]
    intro z
    rw [z] at nsys
    simp at nsys
end
end My
namespace My
open PySem PySem.Spec PyProof.Rows L2
/-- what the walk of the law's body has to give, the guards being known -/
def LawBodyS (l : PySem.W.OpenLaw) (w : World) (K : PySem.W.Frag) (mg : Str → Option Value) (n : Nat) (N : List Str) (qual : Str) (st : Stmt) (fa : Addr) : Prop :=
  ∀ base : Heap, K.In base → base.Ns mainGlobals mg → (∃ m, base.Ns sysModules m) → ∀ (cdv : Value) (s : Shared) (H : Hp) (a : Addr) (ns : List Int), ns.length ≤ n → Only H → SqL K H a (ns.map V.int) →
    ∃ t, PSs (cxOf CX0 l.prog w K mg base N qual (defScope st) fa cdv callerA [] s H E0).nox (defBody st) t ∧
      t { nx := fun _ _ => False, rt := fun v _ => v = .bl true } (start N [.ref a]) H

/-- one call of the law from an abstract heap -/
theorem enterS {l : PySem.W.OpenLaw} {w : World} {K : PySem.W.Frag} {mg : Str → Option Value} {n : Nat} {N : List Str} {x nm qual : Str} {st : Stmt} {fa a : Addr} {fd : FuncData}
    {base : Heap} {s : Shared} {H : Hp} {ns : List Int}
    (F : Fun K nm qual st fa fd) (S : FnScope N [x] (defScope st)) (hb : ∀ (s : Shared) (u : Value), BindsTo s fd ⟨[u], []⟩ [(x, u)])
    (B : LawBodyS l w K mg n N qual st fa) (hKb : K.In base) (hNb : base.Ns mainGlobals mg) (hSb : ∃ m, base.Ns sysModules m) (hn : ns.length ≤ n) (hO : Only H) (hS : SqL K H a (ns.map V.int))
    (e0 : Env0 l.prog w K mg base callerA [] s H) :
    codeAny (model l.prog w) callerA (.call (.ref fa) ⟨[.ref a], []⟩)
      (fun r s' => r = .ok (.ret (.bool true)) ∧ ∃ H', s'.os = s.os ∧ AllBare s'.gens ∧ Un [] [] H H' s.heap s'.heap ∧ HOk l.prog w H' s'.heap) s := by
  obtain ⟨oc, od, kV, doc, pm, an, cdv, ct, osl, rfl, lk, hcd⟩ := F.ex
  have stays : ∀ b o, base.get? b = some o → s.heap.get? b = some o := fun b o z => (e0.bs b o z).1
  have KS : K.In s.heap := e0.mod.kin.keeps stays
  have NL : s.heap.NoLimit := e0.mod.nolimit.keeps stays
  have kinds : ∀ y ∈ [x].zip [Value.ref a], (defScope st).names.lookup y.1 = some .local ∨ ((defScope st).names.lookup y.1 = some .cell ∧ ((cellsFrom (s.heap.objs.size + 1) (defScope st).names []).lookup y.1).isSome = true) := by
    intro y hy
    obtain rfl : y = (x, Value.ref a) := List.mem_singleton.mp hy
    cases S.par x (List.mem_singleton.mpr rfl) with
    | inl q => exact .inl q
    | inr q => exact .inr ⟨q, PySem.W.cellsFrom_some _ _ _ (.inl q)⟩
  refine codeAny_call_function (by decide) (KS _ _ lk) rfl S.co S.gen rfl (PySem.W.codeRec_of KS hcd) (hb s (.ref a) _ _ _ _ ?_)
  refine wpAny_newFunctionEnv_cells S.kind kinds fun env he s2 ic => ?_
  subst he
  refine ⟨NL.keeps ic.toInCall.keep, codeAny_func ?_⟩
  obtain ⟨t, ht, hq⟩ := B base hKb hNb hSb cdv s H a ns hn hO hS
  have J0 := inv_start (E := E0) (CX := CX0) S (show callerA.handled = none from rfl) e0 (vs := [.ref a]) (us := [.ref a]) rfl (.cons rfl .nil) ic
  refine wpAny_mono (ht.run [] s2 (start N [.ref a]) H _ (J0.wish _) hq) (fun fl s' hs => ?_) fun e s' hs => hs.elim
  cases fl with
  | ret u =>
    obtain ⟨v, σ', H', J, rv, q⟩ := hs
    subst q
    obtain rfl : u = Value.bool true := rv
    exact ⟨rfl, H', J.os, J.bare, J.base, J.hok⟩
  | next => exact (let ⟨_, _, _, q⟩ := hs; q).elim
  | brk => exact (let ⟨_, _, _, q⟩ := hs; q).elim
  | cont => exact (let ⟨_, _, _, q⟩ := hs; q).elim

/-- from one call in an abstract heap to the call that is asked for -/
theorem settleS {l : PySem.W.OpenLaw} {w : World} {K : PySem.W.Frag} {mg mb : Str → Option Value} {n : Nat} {N : List Str} {x nm qual : Str} {st : Stmt} {fa a : Addr} {fd : FuncData} {s : Shared} {H : Hp} {ns : List Int} {vs : List Value}
    (KX : K.In s.heap) (hns : s.heap.Ns mainGlobals mg) (hb : s.heap.Ns builtinsNs mb) (hbb : ∀ x : Str, x ≠ "__name__" → mb x = bootBuiltins x) (hsy : ∃ m, s.heap.Ns sysModules m) (hlim : s.heap.NoLimit) (hg : s.gens = #[])
    (ha : s.heap.get? a = some { cls := .type "list", data := .seq vs.toArray }) (hn : ns.length ≤ n)
    (F : Fun K nm qual st fa fd) (S : FnScope N [x] (defScope st)) (hbi : ∀ (s : Shared) (u : Value), BindsTo s fd ⟨[u], []⟩ [(x, u)]) (B : LawBodyS l w K mg n N qual st fa)
    (hO : Only H) (hS : SqL K H a (ns.map V.int)) (hok : HOk l.prog w H s.heap) (one : ∀ b, H b ≠ none → b = a) (out : H a ≠ none → K.lookup a = none) :
    codeAny (model l.prog w) callerA (.call (.ref fa) ⟨[.ref a], []⟩) (fun r s' => r = .ok (.ret (.bool true)) ∧ OldK s.heap s'.heap ∧ s'.os = s.os ∧ AllBare s'.gens) s := by
  have seen : ∀ {b : Addr} {o : Obj}, H b = none → s.heap.get? b = some o → (hidT s.heap H).get? b = some o := fun q e => hidT_get e q
  have free : ∀ {b : Addr} {o : Obj}, s.heap.get? b = some o → (∀ xs k, o.data ≠ .seq xs k) → H b = none := by
    intro b o e nd
    by_cases z : H b = none
    · exact z
    · have eb := one b z
      rw [eb, ha] at e
      injection e with e
      exact absurd (by rw [← e]) (nd vs.toArray 0)
  have names : ∀ {b : Addr} {m : Str → Option Value}, s.heap.Ns b m → (hidT s.heap H).Ns b m := by
    intro b m nb
    obtain ⟨o, es, ep, e, d, rest⟩ := nb
    exact ⟨o, es, ep, seen (free e fun xs k z => by rw [d] at z; injection z) e, d, rest⟩
  have KB : K.In (hidT s.heap H) := by
    intro b o e
    refine seen ?_ (KX b o e)
    by_cases z : H b = none
    · exact z
    · have eb := one b z
      subst eb
      rw [out z] at e
      injection e
  have E0' : Env0 l.prog w K mg (hidT s.heap H) callerA [] s H := by
    refine ⟨rfl, ⟨KB, names hns, ⟨mb, names hb, hbb⟩, ?_⟩, fun b o e => of_hidT e, Nat.le_of_eq (hidT_size _ _), trivial, ?_, hok, .of_eq hg⟩
    · obtain ⟨mc, c1, c2⟩ := hlim
      exact ⟨mc, names c1, c2⟩
    · intro b z
      exact absurd (show b ∈ ([] : List Addr) from z) List.not_mem_nil
  refine codeAny_mono (enterS F S hbi B KB (names hns) (hsy.imp fun _ z => names z) hn hO hS E0') fun r s' h => ?_
  obtain ⟨e1, H', os, bare, un, hok'⟩ := h
  refine ⟨e1, OldK.of_keep fun b o e => ?_, os, bare⟩
  by_cases z : H b = none
  · exact un.keep b o e z (show b ∉ ([] : List Addr) from List.not_mem_nil) List.not_mem_nil
  · rcases hO b with y | ⟨ob, xs, y⟩
    · exact absurd y z
    · have g1 := (hok b _ y).1
      have g2 := (hok' b _ (un.frzs b ob _ y)).1
      rw [g1] at e
      injection e with e
      rw [← e]
      exact g2

/-- the goal that the head leaves, from the law's body walked with known guards -/
theorem lawS_top {l : PySem.W.OpenLaw} {n : Nat} {q : Program} {loose : List Str} {XP : (Str → Option Value) → Heap → Prop} {YP : World → Heap → Prop} {d : DefRec} {K : Params → PySem.W.Frag} {N : List Str} {x nm qual : Str} {st : Stmt}
    (hseer : importsNone q = true) (hn : l.most = some n) (hn2 : n ≤ sizeLine) (hdf : d.params.defaults = []) (hY : ∀ (w : World) (h : Heap), YP w h → (K w.params).In h)
    (Z : ∀ (w : World) (mg : Str → Option Value) (fa : Addr) (h : Heap), (K w.params).In h → h.Ns mainGlobals mg → mg d.name = some (.ref fa) →
      ∃ fd : FuncData, Fun (K w.params) nm qual st fa fd ∧ FnScope N [x] (defScope st) ∧ (∀ (s : Shared) (u : Value), BindsTo s fd ⟨[u], []⟩ [(x, u)]) ∧ LawBodyS l w (K w.params) mg n N qual st fa) :
    PySem.W.WalkO q loose XP YP l.row.toRowW d [] (fun f vs => PySem.call f vs) := by
  refine Att.attach_call hn hdf ?_
  intro w s₀ s mg mb fa o pm cd doc a vs ns G Y ho hd hcd hmg hobj hints hlen hg
  have KX : (K w.params).In s.heap := hY w _ Y
  obtain ⟨fd, F, S, hbi, B⟩ := Z w mg fa _ KX G.T.g hmg
  have rv : Vals (ns.map V.int) vs := vals_ints hints
  have top : ns.length ≤ sizeLine := Nat.le_trans hlen hn2
  have plain := @settleS l w (K w.params) mg mb n N x nm qual st fa a fd s
  cases hk : (K w.params).lookup a with
  | some u =>
    have e := KX a u hk
    rw [hobj] at e
    injection e with e
    subst e
    refine plain (H := fun _ => none) (ns := ns) (vs := vs) KX G.T.g G.T.b G.T.builtins ((G.T.seer hseer).mods.imp fun _ z => z.1) G.T.nolimit hg hobj hlen F S hbi B (fun _ => .inl rfl) (.inr ⟨_, vs.toArray, _, hk, rfl, rfl, rfl, ?_, ?_⟩) (fun b u z => ?_) (fun b z => absurd rfl z) (fun z => absurd rfl z)
    · rw [List.size_toArray, hints.length]
      exact top
    · simpa using rv
    · injection z
  | none =>
    refine plain (H := scriptHp a vs ns) (ns := ns) (vs := vs) KX G.T.g G.T.b G.T.builtins ((G.T.seer hseer).mods.imp fun _ z => z.1) G.T.nolimit hg hobj hlen F S hbi B (fun b => ?_) (.inl (.inr ⟨_, if_pos rfl⟩)) (fun b u z => ?_) (fun b z => ?_) (fun _ => hk)
    · by_cases eb : b = a
      · exact .inr ⟨_, _, if_pos eb⟩
      · exact .inl (if_neg eb)
    · by_cases eb : b = a
      · have y := (if_pos eb).symm.trans z
        injection y with y
        subst y
        subst eb
        exact ⟨hobj, by rw [List.length_map]; exact top, vs, _, rv, hobj⟩
      · have y := (if_neg eb).symm.trans z
        injection y
    · by_cases eb : b = a
      · exact eb
      · exact absurd (if_neg eb) z
end My
/-! == where a dict stands beside another kind -/
namespace MyQ
open PySem PySem.SeqAt PySem.Calls
open AutoSeq1 (wpAny_loadPart')
open MeetsSeq
section
variable {A : Around} {s : Shared}
/-- the object of a dict -/
structure IsD (s : Shared) (a : Addr) : Prop where
  ex : ∃ dd es ep sl, s.heap.get? a = some ({ cls := .type "dict", dict := dd, data := .dict es ep, slots := sl } : Obj)
theorem IsD.ty {a : Addr} (h : IsD s a) : s.TypeIs (.ref a) "dict" := by
  obtain ⟨dd, es, ep, sl, e⟩ := h.ex
  exact ⟨_, e, rfl⟩
theorem d_declines {prog : Program} {w : World} {E : Value → Shared → Prop} {Q : Value → Shared → Prop} {a : Addr} {u : Value} {T : String} (d : IsD s a) (ty : s.TypeIs u T) (no : isSubtype (.type T) (.type "dict") = pure false) (q : Q .notImplemented s) :
    wpAny (model prog w) A (call (.builtin "dict.__eq__") [.ref a, u]) Q E s := by
  refine wpAny_call_entry PySem.F.slot_dict_eq d.ty PySem.F.entry_dict_eq ?_ (PySem.F.args_dict_eq_2 _ _)
  show wpAny _ _ (Builtin.Dict.dictSlotArgs "__eq__" ⟨[.ref a, u], []⟩ >>= _) _ _ s
  refine wpAny_bind ?_
  unfold Builtin.Dict.dictSlotArgs
  refine wpAny_bind (wpAny_notOrdered_dict d.ty (wpAny_pure (wpAny_bind (wpAny_isInstance (T := T) ty no ?_))))
  rw [if_pos (by rfl)]
  wp_walk
  exact ⟨_, rfl, q⟩
theorem none_declines (l : Addr) : Gives (Builtin.«NoneType.__eq__» ⟨[.none, .ref l], []⟩) (.val (Value.notImplemented)) := NoneType___eq___none_ref_0 l
theorem bool_declines (b : Bool) (l : Addr) (es : Array DictEntry) (n : Nat) (dd : Option Addr) (sl : Array (Option Value)) :
    Meets (Builtin.«int.__eq__» ⟨[.bool b, .ref l], []⟩) (fun _ R s => s.heap.get? l = some { cls := .type "dict", dict := dd, data := .dict es n, slots := sl } ∧ R (.ok (.ret .notImplemented)) s) := by
  refine .of_wp fun prog w A R s h => ?_
  obtain ⟨hp, g, d, tk, os⟩ := s
  obtain ⟨hl, h⟩ := h
  wp_walk using wpAny_loadPart' hl, wpAny_load hl
  exact ⟨_, rfl, h⟩
theorem int_declines (b : Int) (u : Tok) (l : Addr) (es : Array DictEntry) (n : Nat) (dd : Option Addr) (sl : Array (Option Value)) :
    Meets (Builtin.«int.__eq__» ⟨[.int b u, .ref l], []⟩) (fun _ R s => s.heap.get? l = some { cls := .type "dict", dict := dd, data := .dict es n, slots := sl } ∧ R (.ok (.ret .notImplemented)) s) := by
  refine .of_wp fun prog w A R s h => ?_
  obtain ⟨hp, g, d, tk, os⟩ := s
  obtain ⟨hl, h⟩ := h
  wp_walk using wpAny_loadPart' hl, wpAny_load hl
  exact ⟨_, rfl, h⟩
theorem str_declines (b : Str) (u : Tok) (l : Addr) (es : Array DictEntry) (n : Nat) (dd : Option Addr) (sl : Array (Option Value)) :
    Meets (Builtin.«str.__eq__» ⟨[.str b u, .ref l], []⟩) (fun _ R s => s.heap.get? l = some { cls := .type "dict", dict := dd, data := .dict es n, slots := sl } ∧ R (.ok (.ret .notImplemented)) s) := by
  refine .of_wp fun prog w A R s h => ?_
  obtain ⟨hp, g, d, tk, os⟩ := s
  obtain ⟨hl, h⟩ := h
  wp_walk using wpAny_loadPart' hl, wpAny_load hl
  exact ⟨_, rfl, h⟩
theorem list_declines (a : Addr) (items : Array Value) (m : Nat) (dd : Option Addr) (sl : Array (Option Value)) (l : Addr) (es : Array DictEntry) (n : Nat) (dd2 : Option Addr) (sl2 : Array (Option Value)) :
    Meets (Builtin.«list.__eq__» ⟨[.ref a, .ref l], []⟩) (fun _ R s => s.heap.get? a = some { cls := .type "list", dict := dd, data := .seq items m, slots := sl } ∧ s.heap.get? l = some { cls := .type "dict", dict := dd2, data := .dict es n, slots := sl2 } ∧ R (.ok (.ret .notImplemented)) s) := by
  refine .of_wp fun prog w A R s h => ?_
  obtain ⟨hp, g, d, tk, os⟩ := s
  obtain ⟨ha, hl, h⟩ := h
  have f1 := PySem.F.sub_dict_list
  wp_walk using wpAny_loadPart' ha, wpAny_loadPart' hl, wpAny_load hl
  exact ⟨_, rfl, h⟩
theorem tuple_declines (a : Addr) (items : Array Value) (m : Nat) (dd : Option Addr) (sl : Array (Option Value)) (l : Addr) (es : Array DictEntry) (n : Nat) (dd2 : Option Addr) (sl2 : Array (Option Value)) :
    Meets (Builtin.«tuple.__eq__» ⟨[.ref a, .ref l], []⟩) (fun _ R s => s.heap.get? a = some { cls := .type "tuple", dict := dd, data := .seq items m, slots := sl } ∧ s.heap.get? l = some { cls := .type "dict", dict := dd2, data := .dict es n, slots := sl2 } ∧ R (.ok (.ret .notImplemented)) s) := by
  refine .of_wp fun prog w A R s h => ?_
  obtain ⟨hp, g, d, tk, os⟩ := s
  obtain ⟨ha, hl, h⟩ := h
  have f1 := PySem.F.sub_dict_tuple
  wp_walk using wpAny_loadPart' ha, wpAny_loadPart' hl, wpAny_load hl
  exact ⟨_, rfl, h⟩
/-- a value of another kind -/
inductive Oth (s : Shared) : Value → Prop
  | non : Oth s .none
  | bl (b : Bool) : Oth s (.bool b)
  | int (i : Int) (t : Tok) : Oth s (.int i t)
  | str (x : Str) (t : Tok) : Oth s (.str x t)
  | lst {l : Addr} {items : Array Value} (h : s.heap.IsList l items) : Oth s (.ref l)
  | tup {l : Addr} {items : Array Value} (h : s.heap.IsTuple l items) : Oth s (.ref l)
theorem rc_dict_oth {a : Addr} {u : Value} (d : IsD s a) (o : Oth s u) (hu : A.units < cLine) : RcAt A s (.ref a) u false := fun prog w E Q h => by
  obtain ⟨dd, es, ep, sl, e⟩ := d.ex
  cases o with
  | non =>
    exact rc_eq_decline_or (k := false) d.ty rfl (by decide) PySem.F.sub_NoneType_dict PySem.F.slot_dict_eq PySem.F.slot_NoneType_eq_refl (fun _ hq => d_declines d (T := "NoneType") rfl PySem.F.sub_NoneType_dict hq)
      (fun _ hq => call_gives PySem.F.slot_NoneType_eq_refl rfl PySem.F.entry_NoneType_eq (PySem.F.args_NoneType_eq_2 _ _) (none_declines a) hq) (fun _ hq => wpAny_of_eq (rfl : isSame (.ref a) .none = pure false) hq) (.inr hu) h
  | bl b =>
    exact rc_eq_decline_or (k := false) d.ty (typeIs_bool s b) (by decide) PySem.F.sub_bool_dict PySem.F.slot_dict_eq PySem.F.slot_bool_eq_refl (fun _ hq => d_declines d (typeIs_bool s b) PySem.F.sub_bool_dict hq)
      (fun _ hq => call_meets PySem.F.slot_bool_eq_refl (typeIs_bool s b) PySem.F.entry_int_eq (PySem.F.args_int_eq_2 _ _) (bool_declines b a es ep dd sl) ⟨e, hq⟩) (fun _ hq => wpAny_of_eq (rfl : isSame (.ref a) (.bool b) = pure false) hq) (.inr hu) h
  | int i t =>
    exact rc_eq_decline_or (k := false) d.ty (typeIs_int s i t) (by decide) PySem.F.sub_int_dict PySem.F.slot_dict_eq PySem.F.slot_int_eq_refl (fun _ hq => d_declines d (typeIs_int s i t) PySem.F.sub_int_dict hq)
      (fun _ hq => call_meets PySem.F.slot_int_eq_refl (typeIs_int s i t) PySem.F.entry_int_eq (PySem.F.args_int_eq_2 _ _) (int_declines i t a es ep dd sl) ⟨e, hq⟩) (fun _ hq => wpAny_of_eq (rfl : isSame (.ref a) (.int i t) = pure false) hq) (.inr hu) h
  | str x t =>
    exact rc_eq_decline_or (k := false) d.ty (typeIs_str s x t) (by decide) PySem.F.sub_str_dict PySem.F.slot_dict_eq PySem.F.slot_str_eq_refl (fun _ hq => d_declines d (typeIs_str s x t) PySem.F.sub_str_dict hq)
      (fun _ hq => call_meets PySem.F.slot_str_eq_refl (typeIs_str s x t) PySem.F.entry_str_eq (PySem.F.args_str_eq_2 _ _) (str_declines x t a es ep dd sl) ⟨e, hq⟩) (fun _ hq => wpAny_of_eq (rfl : isSame (.ref a) (.str x t) = pure false) hq) (.inr hu) h
  | @lst l items hl =>
    obtain ⟨⟨cls, d2, data, sl2⟩, ho, hc, n, hd⟩ := id hl
    simp only at hc hd
    subst hc hd
    have ne : a ≠ l := fun z => by
      rw [z, ho] at e
      simp at e
    have tl : s.TypeIs (.ref l) "list" := ⟨_, ho, rfl⟩
    exact rc_eq_decline_or (k := false) d.ty tl (by decide) PySem.F.sub_list_dict PySem.F.slot_dict_eq PySem.F.slot_list_eq_refl (fun _ hq => d_declines d tl PySem.F.sub_list_dict hq)
      (fun _ hq => call_meets PySem.F.slot_list_eq_refl tl PySem.F.entry_list_eq (PySem.F.args_list_eq_2 _ _) (list_declines l items n d2 sl2 a es ep dd sl) ⟨ho, e, hq⟩) (fun _ hq => wpAny_isSame_ref_other' ne e ho (by simp) hq) (.inr hu) h
  | @tup l items hl =>
    obtain ⟨⟨cls, d2, data, sl2⟩, ho, hc, n, hd⟩ := id hl
    simp only at hc hd
    subst hc hd
    have ne : a ≠ l := fun z => by
      rw [z, ho] at e
      simp at e
    have tl : s.TypeIs (.ref l) "tuple" := ⟨_, ho, rfl⟩
    refine rc_eq_decline_or (k := false) d.ty tl (by decide) PySem.F.sub_tuple_dict PySem.F.slot_dict_eq PySem.F.slot_tuple_eq_refl (fun _ hq => d_declines d tl PySem.F.sub_tuple_dict hq)
      (fun _ hq => call_meets PySem.F.slot_tuple_eq_refl tl PySem.F.entry_tuple_eq (PySem.F.args_tuple_eq_2 _ _) (tuple_declines l items n d2 sl2 a es ep dd sl) ⟨ho, e, hq⟩) (fun _ hq => wpAny_isSame_ref_other ne e ho (by simp) hq) (.inr hu) h
theorem rc_oth_dict {a : Addr} {u : Value} (d : IsD s a) (o : Oth s u) (hu : A.units < cLine) : RcAt A s u (.ref a) false := fun prog w E Q h => by
  obtain ⟨dd, es, ep, sl, e⟩ := d.ex
  cases o with
  | non =>
    exact rc_eq_decline_or (k := false) rfl d.ty (by decide) PySem.F.sub_dict_NoneType PySem.F.slot_NoneType_eq PySem.F.slot_dict_eq_refl
      (fun _ hq => call_gives PySem.F.slot_NoneType_eq rfl PySem.F.entry_NoneType_eq (PySem.F.args_NoneType_eq_2 _ _) (none_declines a) hq) (fun _ hq => d_declines d (T := "NoneType") rfl PySem.F.sub_NoneType_dict hq) (fun _ hq => wpAny_of_eq (rfl : isSame .none (.ref a) = pure false) hq) (.inr hu) h
  | bl b =>
    exact rc_eq_decline_or (k := false) (typeIs_bool s b) d.ty (by decide) PySem.F.sub_dict_bool PySem.F.slot_bool_eq PySem.F.slot_dict_eq_refl
      (fun _ hq => call_meets PySem.F.slot_bool_eq (typeIs_bool s b) PySem.F.entry_int_eq (PySem.F.args_int_eq_2 _ _) (bool_declines b a es ep dd sl) ⟨e, hq⟩) (fun _ hq => d_declines d (typeIs_bool s b) PySem.F.sub_bool_dict hq) (fun _ hq => wpAny_of_eq (rfl : isSame (.bool b) (.ref a) = pure false) hq) (.inr hu) h
  | int i t =>
    exact rc_eq_decline_or (k := false) (typeIs_int s i t) d.ty (by decide) PySem.F.sub_dict_int PySem.F.slot_int_eq PySem.F.slot_dict_eq_refl
      (fun _ hq => call_meets PySem.F.slot_int_eq (typeIs_int s i t) PySem.F.entry_int_eq (PySem.F.args_int_eq_2 _ _) (int_declines i t a es ep dd sl) ⟨e, hq⟩) (fun _ hq => d_declines d (typeIs_int s i t) PySem.F.sub_int_dict hq) (fun _ hq => wpAny_of_eq (rfl : isSame (.int i t) (.ref a) = pure false) hq) (.inr hu) h
  | str x t =>
    exact rc_eq_decline_or (k := false) (typeIs_str s x t) d.ty (by decide) PySem.F.sub_dict_str PySem.F.slot_str_eq PySem.F.slot_dict_eq_refl
      (fun _ hq => call_meets PySem.F.slot_str_eq (typeIs_str s x t) PySem.F.entry_str_eq (PySem.F.args_str_eq_2 _ _) (str_declines x t a es ep dd sl) ⟨e, hq⟩) (fun _ hq => d_declines d (typeIs_str s x t) PySem.F.sub_str_dict hq) (fun _ hq => wpAny_of_eq (rfl : isSame (.str x t) (.ref a) = pure false) hq) (.inr hu) h
  | @lst l items hl =>
    obtain ⟨⟨cls, d2, data, sl2⟩, ho, hc, n, hd⟩ := id hl
    simp only at hc hd
    subst hc hd
    have ne : l ≠ a := fun z => by
      rw [← z, ho] at e
      simp at e
    have tl : s.TypeIs (.ref l) "list" := ⟨_, ho, rfl⟩
    exact rc_eq_decline_or (k := false) tl d.ty (by decide) PySem.F.sub_dict_list PySem.F.slot_list_eq PySem.F.slot_dict_eq_refl
      (fun _ hq => call_meets PySem.F.slot_list_eq tl PySem.F.entry_list_eq (PySem.F.args_list_eq_2 _ _) (list_declines l items n d2 sl2 a es ep dd sl) ⟨ho, e, hq⟩) (fun _ hq => d_declines d tl PySem.F.sub_list_dict hq) (fun _ hq => wpAny_isSame_ref_other ne ho e (by simp) hq) (.inr hu) h
  | @tup l items hl =>
    obtain ⟨⟨cls, d2, data, sl2⟩, ho, hc, n, hd⟩ := id hl
    simp only at hc hd
    subst hc hd
    have ne : l ≠ a := fun z => by
      rw [← z, ho] at e
      simp at e
    have tl : s.TypeIs (.ref l) "tuple" := ⟨_, ho, rfl⟩
    exact rc_eq_decline_or (k := false) tl d.ty (by decide) PySem.F.sub_dict_tuple PySem.F.slot_tuple_eq PySem.F.slot_dict_eq_refl
      (fun _ hq => call_meets PySem.F.slot_tuple_eq tl PySem.F.entry_tuple_eq (PySem.F.args_tuple_eq_2 _ _) (tuple_declines l items n d2 sl2 a es ep dd sl) ⟨ho, e, hq⟩) (fun _ hq => d_declines d tl PySem.F.sub_tuple_dict hq) (fun _ hq => wpAny_isSame_ref_other' ne ho e (by simp) hq) (.inr hu) h
end
end MyQ
namespace My
open PySem PySem.Spec PyProof.Rows L2
def topS (i : Nat) : Stmt := PySem.Challenge.pw_layerseen_k90_texts_of_ends.main.body.getD i (.Pass ⟨0, 0, 0, 0⟩)
abbrev sCopied : Stmt := topS 3
abbrev sWord : Stmt := topS 11
abbrev sName : Stmt := topS 12
abbrev sEndsText : Stmt := topS 17
abbrev sTold : Stmt := topS 18
abbrev sLogText : Stmt := topS 19
abbrev sRead : Stmt := topS 22
abbrev sNext : Stmt := topS 23
abbrev sNextEnd : Stmt := topS 24
abbrev sNextLog : Stmt := topS 25
abbrev sPen : Stmt := topS 27
abbrev sDraw : Stmt := topS 28
abbrev sPick : Stmt := topS 29
abbrev sPlain : Stmt := topS 30
abbrev sLine : Stmt := topS 31
abbrev sIsSaid : Stmt := topS 32
abbrev sIsName : Stmt := topS 33
abbrev sAfterThing : Stmt := topS 34
abbrev sAfterEnd : Stmt := topS 35
abbrev sDue : Stmt := topS 36
abbrev sHeard : Stmt := topS 37
abbrev sBent : Stmt := topS 38
abbrev sLaw : Stmt := topS 39
structure Txt (mg : Str → Option Value) : Prop where
  int : mg "int" = none
  len : mg "len" = none
  abs : mg "abs" = none
  list : mg "list" = none
  tuple : mg "tuple" = none
  dict : mg "dict" = none
  range : mg "range" = none
  isi : mg "isinstance" = none
  str : mg "str" = none
  sorted : mg "sorted" = none
  any : mg "any" = none
  all : mg "all" = none
  enum : mg "enumerate" = none
  ve : mg "ValueError" = none
/-- no value without parts is a paper -/
structure NoPap (K : PySem.W.Frag) (mg : Str → Option Value) (C : Addr) : Prop where
  g : mg "Paper" = some (.ref C)
  kit : ∀ T ∈ ["NoneType", "bool", "int", "str"], PySem.W.kitOne K (.type T) (.ref C) = some false
theorem pe_never {X : Cx} {e : Expr} : PE X e (fun _ _ _ => False) := ⟨fun _ _ _ _ _ _ h => h.elim⟩
def Same' (H H' : Hp) : Prop := ∀ q o, H q = some o → H' q = some o
theorem Same'.trans {H1 H2 H3 : Hp} (h : Same' H1 H2) (k : Same' H2 H3) : Same' H1 H3 := fun b o e => k b o (h b o e)
theorem same_new {H : Hp} {p : Addr} {o : HO} (h : H p = none) : Same' H (upd H p o) := fun b x e => by
  rw [upd_ne (ne_of_none e h)]
  exact e
theorem same_over {H H1 : Hp} {p : Addr} {o : HO} (h : H p = none) (k : Same' H H1) : Same' H (upd H1 p o) := fun b x e => by
  rw [upd_ne (ne_of_none e h)]
  exact k _ _ e
theorem fl_not {K : PySem.W.Frag} {H : Hp} {x : V} {d : PyData} (h : Fl x d) (T : String) (hT : T = "list" ∨ T = "tuple" ∨ T = "dict") : ∃ S, TyX K H x (.type S) ∧ kitB S T = some false := by
  cases h with
  | non => exact ⟨"NoneType", .base .non, by rcases hT with rfl | rfl | rfl <;> decide +kernel⟩
  | bl b => exact ⟨"bool", .base (.bl b), by rcases hT with rfl | rfl | rfl <;> decide +kernel⟩
  | int i => exact ⟨"int", .base (.int i), by rcases hT with rfl | rfl | rfl <;> decide +kernel⟩
  | str z => exact ⟨"str", .base (.str z), by rcases hT with rfl | rfl | rfl <;> decide +kernel⟩
def spFlat : Sp := fun vs H Q _ => ∃ (x : V) (d : PyData), vs = [x] ∧ Fl x d ∧ Q x H
section
variable {P : Program} {w : World} {K : PySem.W.Frag} {mg : Str → Option Value} {base : Heap}
abbrev nCop : List Str := ["value", "item", "key"]
theorem scCop : FnScope nCop ["value"] (defScope sCopied) := ⟨rfl, rfl, rfl, by decide +kernel, rfl, by decide +kernel, by decide +kernel⟩
theorem fl_pap {C : Addr} {H : Hp} {x : V} {d : PyData} (N : NoPap K mg C) (h : Fl x d) : ∃ t, TyX K H x t ∧ PySem.W.kitOne K t (.ref C) = some false := by
  cases h with
  | non => exact ⟨_, .base .non, N.kit _ (by simp)⟩
  | bl b => exact ⟨_, .base (.bl b), N.kit _ (by simp)⟩
  | int i => exact ⟨_, .base (.int i), N.kit _ (by simp)⟩
  | str z => exact ⟨_, .base (.str z), N.kit _ (by simp)⟩
theorem ok_flat {f CP : Addr} {fd : FuncData} (F : Fun K "copied" "copied" sCopied f fd) (NP : NoPap K mg CP) (T : Txt mg) : FnOk P w K mg base CX0 1 f fd ["value"] spFlat := by
  refine F.ok scCop (fun vs H Q E h => ?_) (fun cdv A outer s H vs Q E hr h => ?_)
  · obtain ⟨x, d, rfl, _⟩ := h
    rfl
  · obtain ⟨x, d, rfl, fl, q⟩ := h
    refine ⟨_, pss_cons (ps_if (pt_val (pe_callB call_isi (by rfl) T.isi (by decide +kernel) (pa_cons (pv 0) (pa_cons (pe_bltn (by rfl) T.list (by decide +kernel) (show RelV (.ty "list") _ from rfl)) pa_nil)))) (pss_one ps_never) pss_nil)
      (pss_cons (ps_if (pt_val (pe_callB call_isi (by rfl) T.isi (by decide +kernel) (pa_cons (pv 0) (pa_cons (pe_bltn (by rfl) T.tuple (by decide +kernel) (show RelV (.ty "tuple") _ from rfl)) pa_nil)))) (pss_one ps_never) pss_nil)
      (pss_cons (ps_if (pt_val (pe_callB call_isi (by rfl) T.isi (by decide +kernel) (pa_cons (pv 0) (pa_cons (pe_bltn (by rfl) T.dict (by decide +kernel) (show RelV (.ty "dict") _ from rfl)) pa_nil)))) (pss_one ps_never) pss_nil)
      (pss_cons (ps_if (pt_val (pe_callB call_isi (by rfl) T.isi (by decide +kernel) (pa_cons (pv 0) (pa_cons (pe_glob (v := .ref CP) rfl NP.g rfl) pa_nil)))) (pss_one ps_never) pss_nil)
      (pss_one (ps_ret (pv 0)))))), ?_⟩
    obtain ⟨S1, t1, k1⟩ := fl_not (K := K) (H := H) fl "list" (by simp)
    obtain ⟨S2, t2, k2⟩ := fl_not (K := K) (H := H) fl "tuple" (by simp)
    obtain ⟨S3, t3, k3⟩ := fl_not (K := K) (H := H) fl "dict" (by simp)
    refine ⟨x, rfl, x, .ty "list", .type S1, .type "list", false, rfl, .ty "list", t1, kit_ty k1, false, rfl, iteF ?_⟩
    refine ⟨x, rfl, x, .ty "tuple", .type S2, .type "tuple", false, rfl, .ty "tuple", t2, kit_ty k2, false, rfl, iteF ?_⟩
    refine ⟨x, rfl, x, .ty "dict", .type S3, .type "dict", false, rfl, .ty "dict", t3, kit_ty k3, false, rfl, iteF ?_⟩
    obtain ⟨t4, ty4, k4⟩ := fl_pap (H := H) NP fl
    refine ⟨x, rfl, x, .ref CP, t4, .ref CP, false, rfl, .own _, ty4, k4, false, rfl, iteF ?_⟩
    exact ⟨x, rfl, q⟩
theorem fls_get : ∀ {xs : List V} {ds : List PyData} {i : Nat} {x : V}, Fls xs ds → xs[i]? = some x → ∃ d, Fl x d
  | _, _, _, _, .nil, h => by simp at h
  | _, _, 0, _, .cons h _, e => by
    simp at e
    subst e
    exact ⟨_, h⟩
  | _, _, i + 1, _, .cons _ r, e => fls_get (i := i) r (by simpa using e)
end
end My
namespace My
open PySem PySem.Spec PyProof.Rows L2
def keyD : Key → PyData
  | .inl i => .int i
  | .inr x => .str x
def isD : PyData → Bool
  | .dict _ => true
  | _ => false
/-- a value that is no dict -/
structure Tn (H : Hp) (x : V) (d : PyData) : Prop where
  th : Th H x d
  no : isD d = false
theorem Tn.keep {H H' : Hp} {x : V} {d : PyData} (h : Tn H x d) (k : Same' H H') : Tn H' x d := ⟨h.th.keep k, h.no⟩
/-- .. stays where a dict changes -/
theorem Tn.off {H H' : Hp} {x : V} {d : PyData} (h : Tn H x d) (k : ∀ b o, (∀ ks, o ≠ .dK ks) → (∀ od u, o ≠ .frz od u) → H b = some o → H' b = some o) : Tn H' x d := by
  refine ⟨?_, h.no⟩
  have n := h.no
  cases h.th with
  | flat f => exact .flat f
  | lst e r m => exact .lst (k _ _ (fun _ z => by cases z) (fun _ _ z => by cases z) e) r m
  | tup e r m => exact .tup (k _ _ (fun _ z => by cases z) (fun _ _ z => by cases z) e) r m
  | dct e => cases n
/-- the entries of a dict -/
abbrev KD (H : Hp) : List (Key × V) → List (PyData × PyData) → Prop := Paired fun p q => keyD p.1 = q.1 ∧ Tn H p.2 q.2
theorem kd_off {H H' : Hp} (k : ∀ b o, (∀ ks, o ≠ .dK ks) → (∀ od u, o ≠ .frz od u) → H b = some o → H' b = some o) : ∀ {kvs : List (Key × V)} {dvs : List (PyData × PyData)}, KD H kvs dvs → KD H' kvs dvs
  | _, _, .nil => .nil
  | _, _, .cons ⟨e, h⟩ r => .cons ⟨e, h.off k⟩ (kd_off k r)
theorem val_at : ∀ {kvs : List (Key × V)} {i : Nat} {k : Key} {v : V}, (kvs.map (·.1)).Nodup → kvs[i]? = some (k, v) → valV kvs k = some v
  | p :: r, 0, k, v, _, e => by
    simp at e
    subst e
    exact valV_pos rfl
  | p :: r, i + 1, k, v, u, e => by
    have e' : r[i]? = some (k, v) := by simpa using e
    rw [List.map_cons, List.nodup_cons] at u
    have ne : ¬ p.1 = k := fun z => u.1 (z ▸ List.mem_map.mpr ⟨(k, v), List.mem_of_getElem? e', rfl⟩)
    rw [valV_neg ne]
    exact val_at u.2 e'
/-- a value, a dict of values included -/
inductive Tw (H : Hp) : V → PyData → Prop
  | th {x : V} {d : PyData} (h : Th H x d) : Tw H x d
  | dc {a : Addr} {kvs : List (Key × V)} {dvs : List (PyData × PyData)} (h : H a = some (.dK kvs)) (k : KD H kvs dvs) (n : kvs.length ≤ 500) (u : (kvs.map (·.1)).Nodup) : Tw H (.ref a) (.dict dvs)
theorem kd_keep {H H' : Hp} (k : Same' H H') : ∀ {kvs : List (Key × V)} {dvs : List (PyData × PyData)}, KD H kvs dvs → KD H' kvs dvs
  | _, _, .nil => .nil
  | _, _, .cons ⟨e, h⟩ r => .cons ⟨e, h.keep k⟩ (kd_keep k r)
theorem Tw.keep {H H' : Hp} {x : V} {d : PyData} (h : Tw H x d) (k : Same' H H') : Tw H' x d := by
  cases h with
  | th h => exact .th (h.keep k)
  | dc h e n u => exact .dc (k _ _ h) (kd_keep k e) n u
def spTh : Sp := fun vs H Q _ => ∃ (x : V) (d : PyData), vs = [x] ∧ Th H x d ∧ ∀ y H', Same' H H' → Th H' y d → Q y H'
def spCopied : Sp := fun vs H Q _ => ∃ (x : V) (d : PyData), vs = [x] ∧ Tw H x d ∧ ∀ y H', Same' H H' → Tw H' y d → Q y H'
theorem putK_new {kvs : List (Key × V)} {k : Key} {v : V} (h : k ∉ kvs.map (·.1)) : putK kvs k v = kvs ++ [(k, v)] := by
  unfold putK
  rw [if_neg]
  intro z
  obtain ⟨p, hp, e⟩ := List.any_eq_true.mp z
  exact h (List.mem_map.mpr ⟨p, hp, of_decide_eq_true e⟩)
theorem kd_at {H : Hp} : ∀ {kvs : List (Key × V)} {dvs : List (PyData × PyData)} {i : Nat} {p : Key × V}, KD H kvs dvs → kvs[i]? = some p → ∃ q, dvs[i]? = some q ∧ keyD p.1 = q.1 ∧ Tn H p.2 q.2
  | _, _, 0, _, .cons a r, e => by
    simp at e
    subst e
    exact ⟨_, rfl, a⟩
  | _, _, i + 1, _, .cons a r, e => kd_at (i := i) r (by simpa using e)
theorem kd_snoc {H : Hp} : ∀ {kvs : List (Key × V)} {dvs : List (PyData × PyData)} {p : Key × V} {q : PyData × PyData}, KD H kvs dvs → keyD p.1 = q.1 ∧ Tn H p.2 q.2 → KD H (kvs ++ [p]) (dvs ++ [q])
  | _, _, _, _, .nil, h => .cons h .nil
  | _, _, _, _, .cons a r, h => .cons a (kd_snoc r h)
theorem kd_len {H : Hp} : ∀ {kvs : List (Key × V)} {dvs : List (PyData × PyData)}, KD H kvs dvs → kvs.length = dvs.length
  | _, _, .nil => rfl
  | _, _, .cons _ r => congrArg Nat.succ (kd_len r)
theorem not_in_take : ∀ {l : List Key} {i : Nat} {k : Key}, l.Nodup → l[i]? = some k → k ∉ l.take i
  | [], _, _, _, e => by simp at e
  | x :: r, 0, _, _, _ => by simp
  | x :: r, i + 1, k, u, e => by
    have e' : r[i]? = some k := by simpa using e
    rw [List.nodup_cons] at u
    rw [List.take_succ_cons]
    intro z
    rcases List.mem_cons.mp z with z | z
    · exact u.1 (z ▸ List.mem_of_getElem? e')
    · exact not_in_take u.2 e' z
section
variable {P : Program} {w : World} {K : PySem.W.Frag} {mg : Str → Option Value} {base : Heap}
theorem ok_th {f CP : Addr} {fd : FuncData} (F : Fun K "copied" "copied" sCopied f fd) (NP : NoPap K mg CP) (T : Txt mg) (b : Binds K fd ["value"] []) (g : mg "copied" = some (.ref f)) : FnOk P w K mg base CX0 2 f fd ["value"] spTh := by
  have G : FnOk P w K mg base CX0 1 f fd ["value"] spFlat := ok_flat F NP T
  refine F.ok scCop (fun vs H Q E h => ?_) (fun cdv A outer s H vs Q E hr h => ?_)
  · obtain ⟨x, d, rfl, _⟩ := h
    rfl
  · obtain ⟨x, d, rfl, th, q⟩ := h
    refine ⟨_, pss_cons (ps_if (pt_val (pe_callB call_isi (by rfl) T.isi (by decide +kernel) (pa_cons (pv 0) (pa_cons (pe_bltn (by rfl) T.list (by decide +kernel) (show RelV (.ty "list") _ from rfl)) pa_nil))))
        (pss_one (ps_ret (pe_lc (own := [("item", 1)]) (g := gName 1) (tt := tYes) rfl scCop.nd (pi_list (pv 0)) (blkOk_by (N := nCop) (sc := defScope sCopied) (by decide +kernel)) (fun _ _ _ _ _ => pg_name (i := 1) scCop.nd rfl (Or.inl rfl)) (fun _ _ _ _ _ => pts_nil)
          (fun _ _ _ _ _ => pe_call G hr (by rfl) g F.kp b .nil pass0 (pa_cons (pv 1) pa_nil))))) pss_nil)
      (pss_cons (ps_if (pt_val (pe_callB call_isi (by rfl) T.isi (by decide +kernel) (pa_cons (pv 0) (pa_cons (pe_bltn (by rfl) T.tuple (by decide +kernel) (show RelV (.ty "tuple") _ from rfl)) pa_nil))))
        (pss_one (ps_ret (pe_callTy call_tuple_of (by rfl) T.tuple (by decide +kernel) (pa_cons (pe_lc (own := [("item", 1)]) (g := gName 1) (tt := tYes) rfl scCop.nd (pi_tup (pv 0)) (blkOk_by (N := nCop) (sc := defScope sCopied) (by decide +kernel)) (fun _ _ _ _ _ => pg_name (i := 1) scCop.nd rfl (Or.inl rfl)) (fun _ _ _ _ _ => pts_nil)
          (fun _ _ _ _ _ => pe_call G hr (by rfl) g F.kp b .nil pass0 (pa_cons (pv 1) pa_nil))) pa_nil)))) pss_nil)
      (pss_cons (ps_if (pt_val (pe_callB call_isi (by rfl) T.isi (by decide +kernel) (pa_cons (pv 0) (pa_cons (pe_bltn (by rfl) T.dict (by decide +kernel) (show RelV (.ty "dict") _ from rfl)) pa_nil))))
        (pss_one (ps_ret (pe_lock (pe_dc (own := [("key", 2)]) (g := gName 2) (tt := tYes) rfl scCop.nd (pi_keys (pv 0)) (blkOk_by (N := nCop) (sc := defScope sCopied) (by decide +kernel)) (fun _ _ _ _ _ => pg_name (i := 2) scCop.nd rfl (Or.inl rfl)) (fun _ _ _ _ _ => pts_nil)
          (fun _ _ _ _ _ => pe_never) (fun _ _ _ _ _ => pe_never))))) pss_nil)
      (pss_cons (ps_if (pt_val (pe_callB call_isi (by rfl) T.isi (by decide +kernel) (pa_cons (pv 0) (pa_cons (pe_glob (v := .ref CP) rfl NP.g rfl) pa_nil)))) (pss_one ps_never) pss_nil)
      (pss_one (ps_ret (pv 0)))))), ?_⟩
    cases th with
    | flat fl =>
      obtain ⟨S1, t1, k1⟩ := fl_not (K := K) (H := H) fl "list" (by simp)
      obtain ⟨S2, t2, k2⟩ := fl_not (K := K) (H := H) fl "tuple" (by simp)
      obtain ⟨S3, t3, k3⟩ := fl_not (K := K) (H := H) fl "dict" (by simp)
      refine ⟨x, rfl, x, .ty "list", .type S1, .type "list", false, rfl, .ty "list", t1, kit_ty k1, false, rfl, iteF ?_⟩
      refine ⟨x, rfl, x, .ty "tuple", .type S2, .type "tuple", false, rfl, .ty "tuple", t2, kit_ty k2, false, rfl, iteF ?_⟩
      refine ⟨x, rfl, x, .ty "dict", .type S3, .type "dict", false, rfl, .ty "dict", t3, kit_ty k3, false, rfl, iteF ?_⟩
      obtain ⟨t4, ty4, k4⟩ := fl_pap (H := H) NP fl
      refine ⟨x, rfl, x, .ref CP, t4, .ref CP, false, rfl, .own _, ty4, k4, false, rfl, iteF ?_⟩
      exact ⟨x, rfl, q x H (fun _ _ e => e) ((.flat fl))⟩
    | @lst a xs ds h k n =>
      refine ⟨.ref a, rfl, .ref a, .ty "list", .type "list", .type "list", true, rfl, .ty "list", .base (.lst h), kit_ty (by decide +kernel), true, rfl, iteT ?_⟩
      refine ⟨.ref a, rfl, a, rfl, ⟨_, SqL.of h⟩, fun D hD => ?_⟩
      refine lc_list (K := K) (a := a) (xs := xs) (fun i H' => Same' H H' ∧ H' D = some (.lst (xs.take i))) ⟨same_new hD, upd_same⟩ (fun i H' _ hp => SqL.of (hp.1 _ _ h)) (fun i x H' hx hp => ?_) (fun H' hp => ?_)
      · obtain ⟨sm, ed⟩ := hp
        obtain ⟨d, fl⟩ := fls_get k hx
        refine ⟨rfl, ?_⟩
        refine ⟨x, rfl, x, d, rfl, fl, _, ed, ?_, same_over hD sm, ?_⟩
        · exact small1000 (by rw [List.length_take]; omega)
        · rw [upd_same, List.take_add_one, hx]
          rfl
      · obtain ⟨sm, ed⟩ := hp
        rw [List.take_length] at ed
        exact q _ _ sm ((.lst ed k n))
    | @tup a xs ds h k n =>
      refine ⟨.ref a, rfl, .ref a, .ty "list", .type "tuple", .type "list", false, rfl, .ty "list", .base (.tup h), kit_ty (by decide +kernel), false, rfl, iteF ?_⟩
      refine ⟨.ref a, rfl, .ref a, .ty "tuple", .type "tuple", .type "tuple", true, rfl, .ty "tuple", .base (.tup h), kit_ty (by decide +kernel), true, rfl, iteT ?_⟩
      refine ⟨.ref a, rfl, a, rfl, ⟨_, SqT.of h⟩, fun D hD => ?_⟩
      refine lc_tup (K := K) (a := a) (xs := xs) (fun i H' => Same' H H' ∧ H' D = some (.lst (xs.take i))) ⟨same_new hD, upd_same⟩ (fun i H' _ hp => SqT.of (hp.1 _ _ h)) (fun i x H' hx hp => ?_) (fun H' hp => ?_)
      · obtain ⟨sm, ed⟩ := hp
        obtain ⟨d, fl⟩ := fls_get k hx
        refine ⟨rfl, ?_⟩
        refine ⟨x, rfl, x, d, rfl, fl, _, ed, ?_, same_over hD sm, ?_⟩
        · exact small1000 (by rw [List.length_take]; omega)
        · rw [upd_same, List.take_add_one, hx]
          rfl
      · obtain ⟨sm, ed⟩ := hp
        rw [List.take_length] at ed
        refine ⟨D, _, rfl, .inl ⟨SqL.of ed, fun l hl => ?_⟩⟩
        exact q _ _ (fun b o e => same_new hl b o (sm b o e)) ((.tup upd_same k n))
    | @dct a h =>
      refine ⟨.ref a, rfl, .ref a, .ty "list", .type "dict", .type "list", false, rfl, .ty "list", .base (.dK h), kit_ty (by decide +kernel), false, rfl, iteF ?_⟩
      refine ⟨.ref a, rfl, .ref a, .ty "tuple", .type "dict", .type "tuple", false, rfl, .ty "tuple", .base (.dK h), kit_ty (by decide +kernel), false, rfl, iteF ?_⟩
      refine ⟨.ref a, rfl, .ref a, .ty "dict", .type "dict", .type "dict", true, rfl, .ty "dict", .base (.dK h), kit_ty (by decide +kernel), true, rfl, iteT ?_⟩
      refine ⟨a, .dK [], h, trivial, fun od => ⟨.ref a, rfl, a, od, rfl, .inl ⟨[], upd_same, fun D hD => ?_⟩⟩⟩
      have nDa : D ≠ a := fun z => by
        rw [z, upd_same] at hD
        cases hD
      have hD0 : H D = none := by
        rw [upd_ne nDa] at hD
        exact hD
      have atA : (upd (upd H a (.frz od (.dK []))) D (.dK [])) a = some (.frz od (.dK [])) := by rw [upd_ne (Ne.symm nDa), upd_same]
      refine ⟨fun i m H' => H' = upd (upd H a (.frz od (.dK []))) D (.dK []), ⟨0, rfl⟩, fun i m H' hw => .inl ?_⟩
      subst hw
      refine ⟨⟨atA, Nat.zero_le _⟩, atA, q _ _ (fun c o e => ?_) ((.dct (by rw [upd_ne nDa, upd_same])))⟩
      by_cases hc : c = a
      · rw [hc, upd_same]
        rw [hc, h] at e
        exact e
      · rw [upd_ne hc, upd_ne (ne_of_none e hD0), upd_ne hc]
        exact e
theorem ok_copied {f CP : Addr} {fd : FuncData} (F : Fun K "copied" "copied" sCopied f fd) (NP : NoPap K mg CP) (T : Txt mg) (b : Binds K fd ["value"] []) (g : mg "copied" = some (.ref f)) : FnOk P w K mg base CX0 3 f fd ["value"] spCopied := by
  have G : FnOk P w K mg base CX0 1 f fd ["value"] spFlat := ok_flat F NP T
  have G2 : FnOk P w K mg base CX0 2 f fd ["value"] spTh := ok_th F NP T b g
  refine F.ok scCop (fun vs H Q E h => ?_) (fun cdv A outer s H vs Q E hr h => ?_)
  · obtain ⟨x, d, rfl, _⟩ := h
    rfl
  · obtain ⟨x, d, rfl, tv, q⟩ := h
    have hu := hr.units
    refine ⟨_, pss_cons (ps_if (pt_val (pe_callB call_isi (by rfl) T.isi (by decide +kernel) (pa_cons (pv 0) (pa_cons (pe_bltn (by rfl) T.list (by decide +kernel) (show RelV (.ty "list") _ from rfl)) pa_nil))))
        (pss_one (ps_ret (pe_lc (own := [("item", 1)]) (g := gName 1) (tt := tYes) rfl scCop.nd (pi_list (pv 0)) (blkOk_by (N := nCop) (sc := defScope sCopied) (by decide +kernel)) (fun _ _ _ _ _ => pg_name (i := 1) scCop.nd rfl (Or.inl rfl)) (fun _ _ _ _ _ => pts_nil)
          (fun _ _ _ _ _ => pe_call G (hr.mono (by decide)) (by rfl) g F.kp b .nil pass0 (pa_cons (pv 1) pa_nil))))) pss_nil)
      (pss_cons (ps_if (pt_val (pe_callB call_isi (by rfl) T.isi (by decide +kernel) (pa_cons (pv 0) (pa_cons (pe_bltn (by rfl) T.tuple (by decide +kernel) (show RelV (.ty "tuple") _ from rfl)) pa_nil))))
        (pss_one (ps_ret (pe_callTy call_tuple_of (by rfl) T.tuple (by decide +kernel) (pa_cons (pe_lc (own := [("item", 1)]) (g := gName 1) (tt := tYes) rfl scCop.nd (pi_tup (pv 0)) (blkOk_by (N := nCop) (sc := defScope sCopied) (by decide +kernel)) (fun _ _ _ _ _ => pg_name (i := 1) scCop.nd rfl (Or.inl rfl)) (fun _ _ _ _ _ => pts_nil)
          (fun _ _ _ _ _ => pe_call G (hr.mono (by decide)) (by rfl) g F.kp b .nil pass0 (pa_cons (pv 1) pa_nil))) pa_nil)))) pss_nil)
      (pss_cons (ps_if (pt_val (pe_callB call_isi (by rfl) T.isi (by decide +kernel) (pa_cons (pv 0) (pa_cons (pe_bltn (by rfl) T.dict (by decide +kernel) (show RelV (.ty "dict") _ from rfl)) pa_nil))))
        (pss_one (ps_ret (pe_lock (pe_dc (own := [("key", 2)]) (g := gName 2) (tt := tYes) rfl scCop.nd (pi_keys (pv 0)) (blkOk_by (N := nCop) (sc := defScope sCopied) (by decide +kernel)) (fun _ _ _ _ _ => pg_name (i := 2) scCop.nd rfl (Or.inl rfl)) (fun _ _ _ _ _ => pts_nil)
          (fun _ _ _ _ _ => pv 2) (fun _ _ _ _ _ => pe_call G2 hr (by rfl) g F.kp b .nil pass0 (pa_cons (pe_dget (Nat.lt_of_le_of_lt (Nat.add_le_add_left (by decide) _) hu) (pv 0) (pv 2) (fun _ _ => rfl)) pa_nil)))))) pss_nil)
      (pss_cons (ps_if (pt_val (pe_callB call_isi (by rfl) T.isi (by decide +kernel) (pa_cons (pv 0) (pa_cons (pe_glob (v := .ref CP) rfl NP.g rfl) pa_nil)))) (pss_one ps_never) pss_nil)
      (pss_one (ps_ret (pv 0)))))), ?_⟩
    cases tv with
    | th th =>
      cases th with
      | flat fl =>
        obtain ⟨S1, t1, k1⟩ := fl_not (K := K) (H := H) fl "list" (by simp)
        obtain ⟨S2, t2, k2⟩ := fl_not (K := K) (H := H) fl "tuple" (by simp)
        obtain ⟨S3, t3, k3⟩ := fl_not (K := K) (H := H) fl "dict" (by simp)
        refine ⟨x, rfl, x, .ty "list", .type S1, .type "list", false, rfl, .ty "list", t1, kit_ty k1, false, rfl, iteF ?_⟩
        refine ⟨x, rfl, x, .ty "tuple", .type S2, .type "tuple", false, rfl, .ty "tuple", t2, kit_ty k2, false, rfl, iteF ?_⟩
        refine ⟨x, rfl, x, .ty "dict", .type S3, .type "dict", false, rfl, .ty "dict", t3, kit_ty k3, false, rfl, iteF ?_⟩
        obtain ⟨t4, ty4, k4⟩ := fl_pap (H := H) NP fl
        refine ⟨x, rfl, x, .ref CP, t4, .ref CP, false, rfl, .own _, ty4, k4, false, rfl, iteF ?_⟩
        exact ⟨x, rfl, q x H (fun _ _ e => e) (.th (.flat fl))⟩
      | @lst a xs ds h k n =>
        refine ⟨.ref a, rfl, .ref a, .ty "list", .type "list", .type "list", true, rfl, .ty "list", .base (.lst h), kit_ty (by decide +kernel), true, rfl, iteT ?_⟩
        refine ⟨.ref a, rfl, a, rfl, ⟨_, SqL.of h⟩, fun D hD => ?_⟩
        refine lc_list (K := K) (a := a) (xs := xs) (fun i H' => Same' H H' ∧ H' D = some (.lst (xs.take i))) ⟨same_new hD, upd_same⟩ (fun i H' _ hp => SqL.of (hp.1 _ _ h)) (fun i x H' hx hp => ?_) (fun H' hp => ?_)
        · obtain ⟨sm, ed⟩ := hp
          obtain ⟨d, fl⟩ := fls_get k hx
          refine ⟨rfl, ?_⟩
          refine ⟨x, rfl, x, d, rfl, fl, _, ed, ?_, same_over hD sm, ?_⟩
          · exact small1000 (by rw [List.length_take]; omega)
          · rw [upd_same, List.take_add_one, hx]
            rfl
        · obtain ⟨sm, ed⟩ := hp
          rw [List.take_length] at ed
          exact q _ _ sm (.th (.lst ed k n))
      | @tup a xs ds h k n =>
        refine ⟨.ref a, rfl, .ref a, .ty "list", .type "tuple", .type "list", false, rfl, .ty "list", .base (.tup h), kit_ty (by decide +kernel), false, rfl, iteF ?_⟩
        refine ⟨.ref a, rfl, .ref a, .ty "tuple", .type "tuple", .type "tuple", true, rfl, .ty "tuple", .base (.tup h), kit_ty (by decide +kernel), true, rfl, iteT ?_⟩
        refine ⟨.ref a, rfl, a, rfl, ⟨_, SqT.of h⟩, fun D hD => ?_⟩
        refine lc_tup (K := K) (a := a) (xs := xs) (fun i H' => Same' H H' ∧ H' D = some (.lst (xs.take i))) ⟨same_new hD, upd_same⟩ (fun i H' _ hp => SqT.of (hp.1 _ _ h)) (fun i x H' hx hp => ?_) (fun H' hp => ?_)
        · obtain ⟨sm, ed⟩ := hp
          obtain ⟨d, fl⟩ := fls_get k hx
          refine ⟨rfl, ?_⟩
          refine ⟨x, rfl, x, d, rfl, fl, _, ed, ?_, same_over hD sm, ?_⟩
          · exact small1000 (by rw [List.length_take]; omega)
          · rw [upd_same, List.take_add_one, hx]
            rfl
        · obtain ⟨sm, ed⟩ := hp
          rw [List.take_length] at ed
          refine ⟨D, _, rfl, .inl ⟨SqL.of ed, fun l hl => ?_⟩⟩
          exact q _ _ (fun b o e => same_new hl b o (sm b o e)) (.th (.tup upd_same k n))
      | @dct a h =>
        refine ⟨.ref a, rfl, .ref a, .ty "list", .type "dict", .type "list", false, rfl, .ty "list", .base (.dK h), kit_ty (by decide +kernel), false, rfl, iteF ?_⟩
        refine ⟨.ref a, rfl, .ref a, .ty "tuple", .type "dict", .type "tuple", false, rfl, .ty "tuple", .base (.dK h), kit_ty (by decide +kernel), false, rfl, iteF ?_⟩
        refine ⟨.ref a, rfl, .ref a, .ty "dict", .type "dict", .type "dict", true, rfl, .ty "dict", .base (.dK h), kit_ty (by decide +kernel), true, rfl, iteT ?_⟩
        refine ⟨a, .dK [], h, trivial, fun od => ⟨.ref a, rfl, a, od, rfl, .inl ⟨[], upd_same, fun D hD => ?_⟩⟩⟩
        have nDa : D ≠ a := fun z => by
          rw [z, upd_same] at hD
          cases hD
        have hD0 : H D = none := by
          rw [upd_ne nDa] at hD
          exact hD
        have atA : (upd (upd H a (.frz od (.dK []))) D (.dK [])) a = some (.frz od (.dK [])) := by rw [upd_ne (Ne.symm nDa), upd_same]
        refine ⟨fun i m H' => H' = upd (upd H a (.frz od (.dK []))) D (.dK []), ⟨0, rfl⟩, fun i m H' hw => .inl ?_⟩
        subst hw
        refine ⟨⟨atA, Nat.zero_le _⟩, atA, q _ _ (fun c o e => ?_) (.th (.dct (by rw [upd_ne nDa, upd_same])))⟩
        by_cases hc : c = a
        · rw [hc, upd_same]
          rw [hc, h] at e
          exact e
        · rw [upd_ne hc, upd_ne (ne_of_none e hD0), upd_ne hc]
          exact e
    | @dc a kvs dvs h k n u =>
      refine ⟨.ref a, rfl, .ref a, .ty "list", .type "dict", .type "list", false, rfl, .ty "list", .base (.dK h), kit_ty (by decide +kernel), false, rfl, iteF ?_⟩
      refine ⟨.ref a, rfl, .ref a, .ty "tuple", .type "dict", .type "tuple", false, rfl, .ty "tuple", .base (.dK h), kit_ty (by decide +kernel), false, rfl, iteF ?_⟩
      refine ⟨.ref a, rfl, .ref a, .ty "dict", .type "dict", .type "dict", true, rfl, .ty "dict", .base (.dK h), kit_ty (by decide +kernel), true, rfl, iteT ?_⟩
      refine ⟨a, .dK kvs, h, trivial, fun od => ⟨.ref a, rfl, a, od, rfl, .inl ⟨kvs, upd_same, fun D hD => ?_⟩⟩⟩
      obtain ⟨H0, eH0⟩ : ∃ H0, upd H a (.frz od (.dK kvs)) = H0 := ⟨_, rfl⟩
      have a0 : H0 a = some (.frz od (.dK kvs)) := by rw [← eH0, upd_same]
      have into : ∀ b o, (∀ ks, o ≠ .dK ks) → (∀ od u, o ≠ .frz od u) → H b = some o → H0 b = some o := fun b o n1 n2 e => by
        rw [← eH0, upd_ne (fun z => by rw [z, h] at e; injection e with e; exact n1 _ e.symm)]
        exact e
      have others : ∀ b o, b ≠ a → H b = some o → H0 b = some o := fun b o ne e => by
        rw [← eH0, upd_ne ne]
        exact e
      rw [eH0] at hD ⊢
      have k0 : KD H0 kvs dvs := kd_off into k
      have nl : kvs.length = dvs.length := kd_len k
      refine ⟨fun i m H' => m = kvs.length - i ∧ i ≤ kvs.length ∧ Same' H0 H' ∧ ∃ ks, H' D = some (.dK ks) ∧ KD H' ks (dvs.take i) ∧ ks.map (·.1) = (kvs.map (·.1)).take i, ⟨kvs.length, by simp, Nat.zero_le _, same_new hD, [], upd_same, .nil, rfl⟩, fun i m H' hw => ?_⟩
      obtain ⟨rfl, hi, sm, ks, eD, kd, km⟩ := hw
      have aH := sm _ _ a0
      have nDa : D ≠ a := fun z => by
        rw [z, a0] at hD
        cases hD
      by_cases hlt : i < kvs.length
      · refine .inr ⟨⟨aH, hlt⟩, fun H2 => Same' H0 H2 ∧ ∃ ks, H2 D = some (.dK ks) ∧ KD H2 ks (dvs.take (i + 1)) ∧ ks.map (·.1) = (kvs.map (·.1)).take (i + 1), fun H2 hx => ⟨kvs.length - (i + 1), by omega, rfl, hlt, hx⟩, fun x H2 y => ?_⟩
        obtain ⟨rfl, ky, v, e, rfl⟩ := y
        obtain ⟨⟨qk, qd⟩, eq, ek, tn⟩ := kd_at k0 e
        have ek' : keyD ky = qk := ek
        have tn' : Tn H2 v qd := tn.keep sm
        refine ⟨rfl, ?_⟩
        refine ⟨_, rfl, .ref a, rfl, _, rfl, a, v, rfl, .inl ⟨kvs, ky, .inr ⟨_, aH⟩, rfl, (val_at u e).symm⟩, ?_⟩
        refine ⟨v, qd, rfl, tn'.th, fun y3 H3 s3 t3 => ⟨ks, ky, rfl, s3 _ _ eD, ?_, ?_⟩⟩
        · have l1 := congrArg List.length km
          rw [List.length_map, List.length_take, List.length_map] at l1
          exact small1000 (by omega)
        · have fresh : ky ∉ ks.map (·.1) := by
            rw [km]
            have e1 : (kvs.map (·.1))[i]? = some ky := by rw [List.getElem?_map, e]; rfl
            exact not_in_take u e1
          rw [putK_new fresh]
          have eD3 := s3 _ _ eD
          have step : ∀ b o, (∀ ks, o ≠ .dK ks) → (∀ od u, o ≠ .frz od u) → H3 b = some o → (upd H3 D (.dK (ks ++ [(ky, y3)]))) b = some o := fun b o n1 n2 e => by
            rw [upd_ne (fun z => by rw [z, eD3] at e; injection e with e; exact n1 _ e.symm)]
            exact e
          refine ⟨fun b o e2 => ?_, ks ++ [(ky, y3)], upd_same, ?_, ?_⟩
          · have nb : b ≠ D := ne_of_none e2 hD
            rw [upd_ne nb]
            exact s3 _ _ (sm _ _ e2)
          · rw [List.take_add_one, eq]
            exact kd_snoc (kd_off step (kd_keep s3 kd)) ⟨ek', (Tn.mk t3 tn.no).off step⟩
          · rw [List.map_append, km, List.take_add_one, List.getElem?_map, e]
            rfl
      · have ei : i = kvs.length := by omega
        subst ei
        refine .inl ⟨⟨aH, Nat.le_refl _⟩, aH, q _ _ (fun c o e => ?_) (.dc (kvs := ks) (dvs := dvs) (by rw [upd_ne nDa]; exact eD) ?_ ?_ ?_)⟩
        · by_cases hc : c = a
          · rw [hc, upd_same]
            rw [hc, h] at e
            exact e
          · rw [upd_ne hc]
            exact sm _ _ (others c o hc e)
        · rw [nl, List.take_length] at kd
          exact kd_off (fun b o n1 n2 e => by rw [upd_ne (fun z => by rw [z, aH] at e; injection e with e; exact n2 _ _ e.symm)]; exact e) kd
        · have l1 := congrArg List.length km
          rw [List.length_map, List.length_take, List.length_map, Nat.min_self] at l1
          omega
        · rw [km, ← List.length_map (f := fun x : Key × V => x.1), List.take_length]
          exact u
end
end My
namespace My
open PySem PySem.Spec PyProof.Rows L2
/-! ### the pen: a list of a list of ints, of how many were taken, of what is left of a great one -/
structure PenAt (H : Hp) (p c : Addr) (ns : List Int) (B : Int) : Prop where
  pen : ∃ b g : Int, H p = some (.lst [.ref c, .int b, .int g]) ∧ 0 ≤ b ∧ b ≤ B ∧ 0 ≤ g
  cells : H c = some (.lst (ns.map V.int))
  few : ns.length ≤ 63
def Off (p : Addr) (H H' : Hp) : Prop := ∀ q o, q ≠ p → H q = some o → H' q = some o
theorem Off.trans {p : Addr} {H1 H2 H3 : Hp} (h : Off p H1 H2) (k : Off p H2 H3) : Off p H1 H3 := fun q o n e => k q o n (h q o n e)
theorem Off.rfl' {p : Addr} {H : Hp} : Off p H H := fun _ _ _ e => e
theorem Off.new {p a : Addr} {H : Hp} {o : HO} (h : H a = none) : Off p H (upd H a o) := fun q _ _ e => by
  rw [upd_ne (ne_of_none e h)]
  exact e
theorem PenAt.ne {H : Hp} {p c : Addr} {ns : List Int} {B : Int} (P : PenAt H p c ns B) : c ≠ p := by
  obtain ⟨b, g, e, _⟩ := P.pen
  intro z
  have y := P.cells
  rw [z, e] at y
  injection y with y
  injection y with y
  cases ns with
  | nil => cases y
  | cons x r => injection y with y1 y2; cases y1
theorem PenAt.more {H : Hp} {p c : Addr} {ns : List Int} {B C : Int} (P : PenAt H p c ns B) (h : B ≤ C) : PenAt H p c ns C := by
  obtain ⟨b, g, e, h1, h2, h3⟩ := P.pen
  exact ⟨⟨b, g, e, h1, by omega, h3⟩, P.cells, P.few⟩
theorem PenAt.keep {H H' : Hp} {p c : Addr} {ns : List Int} {B : Int} (P : PenAt H p c ns B) (h : ∀ q o, H q = some o → H' q = some o) : PenAt H' p c ns B := by
  obtain ⟨b, g, e, h1, h2, h3⟩ := P.pen
  exact ⟨⟨b, g, h _ _ e, h1, h2, h3⟩, h _ _ P.cells, P.few⟩

/-! ### numbers -/
theorem fm {x m : Int} (h : 0 < m) : 0 ≤ x.fmod m ∧ x.fmod m < m := by
  rw [Int.fmod_eq_emod_of_nonneg _ (by omega)]
  exact ⟨Int.emod_nonneg _ (by omega), Int.emod_lt_of_pos _ h⟩
theorem fd0 {x m : Int} (h : 0 < m) (hx : 0 ≤ x) : 0 ≤ x.fdiv m := by
  rw [Int.fdiv_eq_ediv_of_nonneg _ (by omega)]
  exact Int.ediv_nonneg hx (by omega)
theorem mulB {x y a b : Int} (h0 : 0 ≤ x) (h1 : x ≤ a) (k0 : 0 ≤ y) (k1 : y ≤ b) : 0 ≤ x * y ∧ x * y ≤ a * b :=
  ⟨Int.mul_nonneg h0 k0, Int.mul_le_mul h1 k1 k0 (by omega)⟩
theorem nz1 : (2147483549 : Int) ≠ 0 := by decide
theorem nz2 : (2147483629 : Int) ≠ 0 := by decide
theorem nz3 : (2147483587 : Int) ≠ 0 := by decide
theorem natAbs_lt {x : Int} (h0 : 0 ≤ x) (h1 : x < 18446744073709551616) : x.natAbs < 2 ^ 64 := by
  show x.natAbs < 18446744073709551616
  omega
theorem dpInts {K : PySem.W.Frag} {H : Hp} : ∀ ns : List Int, DpAll K H (ns.map V.int) (ns.map PyData.int)
  | [] => .nil
  | _ :: r => .cons (.int _) (dpInts r)
theorem shaped_ints : ∀ ns : List Int, SeqAt.shaped (.list (ns.map PyData.int)) = true
  | [] => rfl
  | _ :: r => shaped_ints r

theorem at_in {xs : List V} {j : Int} (h0 : 0 ≤ j) (h1 : j < (xs.length : Nat)) : ∃ v, v ∈ xs ∧ atI xs j = some v := by
  obtain ⟨k, rfl⟩ : ∃ k : Nat, j = (k : Int) := ⟨j.toNat, by omega⟩
  have hk : k < xs.length := by omega
  exact ⟨xs[k], List.getElem_mem hk, atI_nat (List.getElem?_eq_getElem hk)⟩
/-! ### the draw -/
def spDraw : Sp := fun vs H Q _ => ∃ (p c : Addr) (ns : List Int) (B m : Int), vs = [.ref p, .int m] ∧ PenAt H p c ns B ∧ B ≤ 1000 ∧ 1 ≤ m ∧ m ≤ 1000 ∧
  ∀ (d : Int) (H' : Hp), 0 ≤ d → d < m → PenAt H' p c ns (B + 1) → Off p H H' → Q (.int d) H'
section
variable {P : Program} {w : World} {K : PySem.W.Frag} {mg : Str → Option Value} {base : Heap}
abbrev nDraw : List Str := ["_law_pen_here", "_law_many", "_law_digit", "_law_begun", "_law_raw", "_law_great", "_law_stirred"]
theorem scDraw : FnScope nDraw ["_law_pen_here", "_law_many"] (defScope sDraw) := ⟨rfl, rfl, rfl, by decide +kernel, rfl, by decide +kernel, by decide +kernel⟩
theorem tail2 {f : Addr} {cdv : Value} {A : Around} {outer : List Env} {s : Shared} {H0 : Hp} {E : XK} (T : Txt mg) :
    ∃ t, PSs (cxOf CX0 P w K mg base nDraw "_law_draw" (defScope sDraw) f cdv A outer s H0 E).nox ((defBody sDraw).drop 6) t ∧
      ∀ (Q : VK) (nx : L2.St → Hp → Prop) (p : Addr) (m b raw : Int) (y2 y5 y6 : Option V) (H : Hp), 0 ≤ b → b ≤ 1000 → 1 ≤ m → (∀ d : Int, 0 ≤ d → d < m → Q (.int d) H) →
        t { nx := nx, rt := Q } [some (.ref p), some (.int m), y2, some (.int b), some (.int raw), y5, y6] H := by
  refine ⟨_, pss_cons (ps_set (i := 6) scDraw.nd rfl (.inl rfl) (pe_op op_modN (pe_callTy call_int1 (by rfl) T.int (by decide +kernel) (pa_cons (pe_op op_pow
          (pe_op op_add (pe_op op_add (pe_op op_modN (pe_callTy call_int1 (by rfl) T.int (by decide +kernel) (pa_cons (pv 4) pa_nil)) pe_int) (pe_op op_mul pe_int (pv 3))) pe_int) pe_int) pa_nil)) pe_int))
      (pss_cons (ps_set (i := 6) scDraw.nd rfl (.inl rfl) (pe_op op_modN (pe_callTy call_int1 (by rfl) T.int (by decide +kernel) (pa_cons (pe_op op_pow
          (pe_op op_add (pe_op op_add (pe_op op_mul (pv 6) (pe_op op_add (pe_op op_mul pe_int (pv 3)) pe_int)) (pe_op op_mul (pe_op op_mul pe_int (pv 3)) (pv 3))) pe_int) pe_int) pa_nil)) pe_int))
      (pss_one (ps_ret (pe_op op_modN (pe_callTy call_int1 (by rfl) T.int (by decide +kernel) (pa_cons (pe_op op_fdivN (pv 6) pe_int) pa_nil)) (pv 1))))), ?_⟩
  intro Q nx p m b raw y2 y5 y6 H b0 bB hm q
  have f1 := fm (x := raw) (m := 2147483549) (by decide)
  refine ⟨.int raw, rfl, .inl ⟨raw, rfl, raw, _, rfl, rfl, nz1, .int b, rfl, _, b, rfl, rfl, .inl ⟨by decide, by decide⟩, _, _, rfl, rfl, _, _, rfl, rfl, _, 5, rfl, rfl, ⟨by decide, by decide, natAbs_lt (by omega) (by omega)⟩, .inl ⟨_, rfl, _, _, rfl, rfl, nz2, ?_⟩⟩⟩
  obtain ⟨z, hz⟩ : ∃ z : Int, ((raw.fmod 2147483549 + 60029 * b + 2503) ^ (5 : Int).toNat).fmod 2147483629 = z := ⟨_, rfl⟩
  have f2 := fm (x := ((raw.fmod 2147483549 + 60029 * b + 2503) ^ (5 : Int).toNat)) (m := 2147483629) (by decide)
  rw [hz] at f2
  have f3 := mulB (x := z) (y := 2 * b + 2017) (a := 2147483629) (b := 2000 + 2017) f2.1 (by omega) (by omega) (by omega)
  have f4 := mulB (x := 83009 * b) (y := b) (a := 83009 * 1000) (b := 1000) (by omega) (by omega) b0 bB
  refine ⟨.int z, by rw [← hz]; rfl, .int b, rfl, 2, b, rfl, rfl, .inl ⟨by decide, by decide⟩, _, _, rfl, rfl, z, _, rfl, rfl, .inl ⟨by omega, by omega⟩, .int b, rfl, _, b, rfl, rfl, .inl ⟨by decide, by decide⟩, .int b, rfl, _, b, rfl, rfl, .inl ⟨by omega, by omega⟩, _, _, rfl, rfl, _, _, rfl, rfl, _, 3, rfl, rfl, ⟨by decide, by decide, natAbs_lt (by omega) (by omega)⟩, .inl ⟨_, rfl, _, _, rfl, rfl, nz3, ?_⟩⟩
  obtain ⟨v, hv⟩ : ∃ v : Int, ((z * (2 * b + 2017) + 83009 * b * b + 91121) ^ (3 : Int).toNat).fmod 2147483587 = v := ⟨_, rfl⟩
  refine ⟨.int v, by rw [← hv]; rfl, v, 32, rfl, rfl, ⟨by decide, by decide⟩, .inl ⟨_, rfl, .int m, rfl, _, m, rfl, rfl, by omega, ?_⟩⟩
  exact q _ (fm (by omega)).1 (fm (by omega)).2
theorem tail1 {f : Addr} {cdv : Value} {A : Around} {outer : List Env} {s : Shared} {H0 : Hp} {E : XK} (T : Txt mg) :
    ∃ t, PSs (cxOf CX0 P w K mg base nDraw "_law_draw" (defScope sDraw) f cdv A outer s H0 E).nox ((defBody sDraw).drop 5) t ∧
      ∀ (Q : VK) (nx : L2.St → Hp → Prop) (p c : Addr) (ns : List Int) (m b b1 g raw : Int) (y2 y5 y6 : Option V) (H : Hp), H p = some (.lst [.ref c, .int b1, .int g]) → H c = some (.lst (ns.map V.int)) → 0 ≤ b → b ≤ 1000 → 0 ≤ g → 1 ≤ m → m ≤ 1000 →
        (∀ (d : Int) (H' : Hp), 0 ≤ d → d < m → (∃ g' : Int, 0 ≤ g' ∧ H' p = some (.lst [.ref c, .int b1, .int g'])) → Off p H H' → Q (.int d) H') →
        t { nx := nx, rt := Q } [some (.ref p), some (.int m), y2, some (.int b), some (.int raw), y5, y6] H := by
  obtain ⟨t2, h2, q2⟩ := tail2 (P := P) (w := w) (K := K) (base := base) (f := f) (cdv := cdv) (A := A) (outer := outer) (s := s) (H0 := H0) (E := E) T
  refine ⟨_, pss_cons (ps_if (PW.pt (pw_and (pt_cmpR op_lt (pv 3) (pe_callB call_len_seq (by rfl) T.len PySem.boot_len (pa_cons (pe_ix ix_list (pv 0) pe_int (fun _ _ => rfl)) pa_nil)) (nomark _))
            (pw_and1 (pt_cmpR op_ge (pe_callB call_abs (by rfl) T.abs (by decide +kernel) (pa_cons (pv 4) pa_nil)) (pe_op op_pow pe_int pe_int) (nomark _)))))
        (pss_cons (ps_set (i := 5) scDraw.nd rfl (.inl rfl) (pe_op op_add (pe_op op_mul pe_int (pe_op op_sub (pe_callB call_abs (by rfl) T.abs (by decide +kernel) (pa_cons (pv 4) pa_nil)) (pe_op op_pow pe_int pe_int)))
            (pe_callTy call_int1 (by rfl) T.int (by decide +kernel) (pa_cons (pe_cmpR op_lt (pv 4) pe_int (nomark _)) pa_nil))))
        (pss_cons (ps_asg (pe_op op_fdivN (pe_callTy call_int1 (by rfl) T.int (by decide +kernel) (pa_cons (pv 5) pa_nil)) (pv 1)) (pg_sub (pv 0) pe_int set_list))
        (pss_one (ps_ret (pe_op op_modN (pe_callTy call_int1 (by rfl) T.int (by decide +kernel) (pa_cons (pv 5) pa_nil)) (pv 1)))))) pss_nil) h2, ?_⟩
  intro Q nx p c ns m b b1 g raw y2 y5 y6 H hp hc b0 bB g0 hm hm2 q
  have last : t2 { nx := nx, rt := Q } [some (.ref p), some (.int m), y2, some (.int b), some (.int raw), y5, y6] H :=
    q2 Q nx p m b raw y2 y5 y6 H b0 bB hm fun d d0 d1 => q d H d0 d1 ⟨g, g0, hp⟩ Off.rfl'
  refine ⟨.int b, rfl, .ref p, rfl, p, _, 0, .ref c, rfl, rfl, SqL.of hp, rfl, c, _, rfl, .inl (SqL.of hc), _, _, rfl, rfl, _, rfl, ite2 (fun e => ?_) (fun e => iteF last)⟩
  refine ⟨.int raw, rfl, raw, rfl, 10, 18, rfl, rfl, ⟨by decide, by decide, by decide⟩, _, _, rfl, rfl, _, rfl, ite2 (fun e2 => ?_) (fun e2 => last)⟩
  have big := of_decide_eq_true e2
  obtain ⟨r, hr⟩ : ∃ r : Int, (if raw < 0 then -raw else raw) = r := ⟨_, rfl⟩
  obtain ⟨u, hu⟩ : ∃ u : Int, 2 * ((if raw < 0 then -raw else raw) - (10 : Int) ^ (18 : Int).toNat) + (if decide (raw < 0) = true then 1 else 0) = u := ⟨_, rfl⟩
  have u0 : 0 ≤ u := by
    rw [← hu]
    have k : (0 : Int) ≤ if decide (raw < 0) = true then 1 else 0 := by split <;> decide
    omega
  refine ⟨.int raw, rfl, raw, rfl, 10, 18, rfl, rfl, ⟨by decide, by decide, by decide⟩, _, _, rfl, rfl, 2, _, rfl, rfl, .inl ⟨by decide, by decide⟩, .int raw, rfl, raw, 0, rfl, rfl, .inr ⟨_, rfl, _, _, rfl, rfl, ?_⟩⟩
  refine ⟨.int u, by rw [← hu]; rfl, .inl ⟨u, rfl, .int m, rfl, u, m, rfl, rfl, ⟨by omega, by omega⟩, ?_⟩⟩
  refine ⟨.ref p, rfl, p, _, 2, 2, rfl, rfl, hp, rfl, ?_⟩
  refine ⟨.int u, by rw [← hu]; rfl, .inl ⟨u, rfl, .int m, rfl, u, m, rfl, rfl, by omega, ?_⟩⟩
  exact q _ _ (fm (by omega)).1 (fm (by omega)).2 ⟨u.fdiv m, fd0 (by omega) u0, upd_same⟩ fun a o n e => by rw [upd_ne n]; exact e
theorem ok_draw {f : Addr} {fd : FuncData} (F : Fun K "_law_draw" "_law_draw" sDraw f fd) (T : Txt mg) : FnOk P w K mg base CX0 1 f fd ["_law_pen_here", "_law_many"] spDraw := by
  refine F.ok scDraw (fun vs H Q E h => ?_) (fun cdv A outer s H vs Q E hr h => ?_)
  · obtain ⟨p, c, ns, B, m, rfl, _⟩ := h
    rfl
  · obtain ⟨p, c, ns, B, m, rfl, PA0, hB, hm, hm2, q⟩ := h
    obtain ⟨b, g, hp, b0, bB, g0⟩ := PA0.pen
    have hc := PA0.cells
    have few := PA0.few
    have ncp := PA0.ne
    obtain ⟨t1, h1, q1⟩ := tail1 (P := P) (w := w) (K := K) (base := base) (f := f) (cdv := cdv) (A := A) (outer := outer) (s := s) (H0 := H) (E := E) T
    refine ⟨_, pss_cons (ps_if (pt_cmpR op_gt (pe_ix ix_list (pv 0) pe_int (fun _ _ => rfl)) pe_int (nomark _))
        (pss_cons (ps_set (i := 2) scDraw.nd rfl (.inl rfl) (pe_op op_modN (pe_callTy call_int1 (by rfl) T.int (by decide +kernel) (pa_cons (pe_ix ix_list (pv 0) pe_int (fun _ _ => rfl)) pa_nil)) (pv 1)))
        (pss_cons (ps_asg (pe_op op_fdivN (pe_callTy call_int1 (by rfl) T.int (by decide +kernel) (pa_cons (pe_ix ix_list (pv 0) pe_int (fun _ _ => rfl)) pa_nil)) (pv 1)) (pg_sub (pv 0) pe_int set_list))
        (pss_one (ps_ret (pv 2))))) pss_nil)
      (pss_cons (ps_set (i := 3) scDraw.nd rfl (.inl rfl) (pe_ix ix_list (pv 0) pe_int (fun _ _ => rfl)))
      (pss_cons (ps_asg (pe_op op_add (pv 3) pe_int) (pg_sub (pv 0) pe_int set_list))
      (pss_cons (ps_set (i := 4) scDraw.nd rfl (.inl rfl) (pe_op op_add (pe_op op_mul pe_int (pv 3)) pe_int))
      (pss_cons (ps_if (pt_cmpR (op_neD hr.units) (pe_ix ix_list (pv 0) pe_int (fun _ _ => rfl)) (pe_lst pa_nil) (nomark _))
        (pss_one (ps_set (i := 4) scDraw.nd rfl (.inl rfl) (pe_ix ix_list (pe_ix ix_list (pv 0) pe_int (fun _ _ => rfl))
          (pe_op op_modN (pe_callTy call_int1 (by rfl) T.int (by decide +kernel) (pa_cons (pv 3) pa_nil)) (pe_callB call_len_seq (by rfl) T.len PySem.boot_len (pa_cons (pe_ix ix_list (pv 0) pe_int (fun _ _ => rfl)) pa_nil))) (fun _ _ => rfl)))) pss_nil) h1)))), ?_⟩
    -- if pen[2] > 0
    refine ⟨.ref p, rfl, p, _, 2, .int g, rfl, rfl, SqL.of hp, rfl, g, 0, rfl, rfl, _, rfl, ite2 (fun e => ?_) (fun e => ?_)⟩
    · refine ⟨.ref p, rfl, p, _, 2, .int g, rfl, rfl, SqL.of hp, rfl, .inl ⟨_, rfl, .int m, rfl, g, m, rfl, rfl, by omega, ?_⟩⟩
      refine ⟨.ref p, rfl, p, _, 2, .int g, rfl, rfl, SqL.of hp, rfl, .inl ⟨_, rfl, .int m, rfl, g, m, rfl, rfl, ⟨by omega, by omega⟩, ?_⟩⟩
      refine ⟨.ref p, rfl, p, _, 2, 2, rfl, rfl, hp, rfl, ?_⟩
      refine ⟨_, rfl, q (g.fmod m) _ (fm (by omega)).1 (fm (by omega)).2 ⟨⟨b, g.fdiv m, upd_same, b0, by omega, fd0 (by omega) g0⟩, by rw [upd_ne ncp]; exact hc, few⟩ fun a o n e => by rw [upd_ne n]; exact e⟩
    · -- begun = pen[1]; pen[1] = begun + 1; raw = ..
      refine ⟨.ref p, rfl, p, _, 1, .int b, rfl, rfl, SqL.of hp, rfl, ?_⟩
      refine ⟨_, rfl, b, 1, rfl, rfl, .ref p, rfl, p, _, 1, 1, rfl, rfl, hp, rfl, ?_⟩
      refine ⟨_, rfl, 91121, b, rfl, rfl, .inl ⟨by decide, by decide⟩, _, _, rfl, rfl, ?_⟩
      obtain ⟨H1, eH⟩ : ∃ H1 : Hp, upd H p (.lst [.ref c, .int (b + 1), .int g]) = H1 := ⟨_, rfl⟩
      have hp1 : H1 p = some (.lst [.ref c, .int (b + 1), .int g]) := by rw [← eH, upd_same]
      have hc1 : H1 c = some (.lst (ns.map V.int)) := by rw [← eH, upd_ne ncp]; exact hc
      have off1 : Off p H H1 := fun a o n e => by rw [← eH, upd_ne n]; exact e
      have eH' : upd H p (.lst (([.ref c, .int b, .int g] : List V).set 1 (.int (b + 1)))) = H1 := eH
      rw [eH']
      clear eH eH'
      -- if pen[0] != []
      refine ⟨.ref p, rfl, p, _, 0, .ref c, rfl, rfl, SqL.of hp1, rfl, Nat.zero_le _, fun l hl => ?_⟩
      have npl : p ≠ l := ne_of_none hp1 hl
      have ncl : c ≠ l := ne_of_none hc1 hl
      have hp2 : (upd H1 l (.lst [])) p = some (.lst [.ref c, .int (b + 1), .int g]) := by rw [upd_ne npl]; exact hp1
      have hc2 : (upd H1 l (.lst [])) c = some (.lst (ns.map V.int)) := by rw [upd_ne ncl]; exact hc1
      have off2 : Off p H (upd H1 l (.lst [])) := off1.trans (Off.new hl)
      refine ⟨.list (ns.map PyData.int), .list [], .lst (SqL.of hc2) (dpInts ns), .lst (SqL.of upd_same) .nil, shaped_ints ns, rfl, _, rfl, ?_⟩
      have last : ∀ (raw : Int) (y2 y5 y6 : Option V) (nx : L2.St → Hp → Prop), t1 { nx := nx, rt := Q } [some (.ref p), some (.int m), y2, some (.int b), some (.int raw), y5, y6] (upd H1 l (.lst [])) := by
        intro raw y2 y5 y6 nx
        refine q1 Q nx p c ns m b (b + 1) g raw y2 y5 y6 _ hp2 hc2 b0 (by omega) g0 hm hm2 fun d H' d0 d1 z off => ?_
        obtain ⟨g', z0, e1⟩ := z
        exact q d H' d0 d1 ⟨⟨b + 1, g', e1, by omega, by omega, z0⟩, off c _ ncp hc2, few⟩ (off2.trans off)
      cases ns with
      | nil => exact iteF (last _ _ _ _ _)
      | cons x r =>
        have lz : ((x :: r).map V.int).length = r.length + 1 := by rw [List.length_map]; rfl
        have lp : (0 : Int) < (((x :: r).map V.int).length : Nat) := by rw [lz]; omega
        obtain ⟨j, ej⟩ : ∃ j : Int, b.fmod (((x :: r).map V.int).length : Nat) = j := ⟨_, rfl⟩
        have j0 := (fm (x := b) lp).1
        have j1 := (fm (x := b) lp).2
        rw [ej] at j0 j1
        obtain ⟨v, hv, at1⟩ := at_in j0 j1
        obtain ⟨y, _, rfl⟩ := List.mem_map.mp hv
        refine iteT ⟨.ref p, rfl, p, _, 0, .ref c, rfl, rfl, SqL.of hp2, rfl, .int b, rfl, .inl ⟨b, rfl, .ref p, rfl, p, _, 0, .ref c, rfl, rfl, SqL.of hp2, rfl, c, _, rfl, .inl (SqL.of hc2), b, _, rfl, rfl, by omega, c, _, _, _, rfl, rfl, SqL.of hc2, (by rw [ej]; exact at1), ?_⟩⟩
        exact last _ _ _ _ _
end
/-! ### the pen is made -/
theorem cut63 {α : Type} (xs : List V) (h : xs.length ≤ 63) : cutV xs none (some 63) = xs := by
  unfold cutV
  rw [show HT.sIx xs.length 0 none = 0 from rfl, show HT.sIx xs.length xs.length (some 63) = min 63 xs.length from HT.sIx_nat xs.length xs.length 63, List.drop_zero, Nat.min_eq_right h, Nat.sub_zero]
  exact List.take_length
def spPen (K : PySem.W.Frag) : Sp := fun vs H Q _ => ∃ (a : Addr) (ns : List Int), vs = [.ref a] ∧ SqL K H a (ns.map V.int) ∧ ns.length ≤ 63 ∧ ∀ (p c : Addr) (H' : Hp), Same' H H' → PenAt H' p c ns 0 → Q (.ref p) H'
def Src (H : Hp) (p : Addr) (s : V) (src : List V) : Prop := (∃ l, s = .ref l ∧ l ≠ p ∧ H l = some (.lst src)) ∨ (∃ z : Str, s = .str z ∧ src = z.cps.toList.map (fun c => V.str ⟨#[c]⟩))
def spPick : Sp := fun vs H Q _ => ∃ (p c : Addr) (ns : List Int) (B : Int) (s : V) (src : List V), vs = [.ref p, s] ∧ PenAt H p c ns B ∧ B ≤ 1000 ∧ Src H p s src ∧ 1 ≤ src.length ∧ src.length ≤ 1000 ∧
  ∀ (v : V) (H' : Hp), v ∈ src → PenAt H' p c ns (B + 1) → Off p H H' → Q v H'
section
variable {P : Program} {w : World} {K : PySem.W.Frag} {mg : Str → Option Value} {base : Heap}
theorem scPen : FnScope ["_law_script"] ["_law_script"] (defScope sPen) := ⟨rfl, rfl, rfl, by decide +kernel, rfl, by decide +kernel, by decide +kernel⟩
theorem ok_pen {f : Addr} {fd : FuncData} (F : Fun K "_law_pen" "_law_pen" sPen f fd) (T : Txt mg) : FnOk P w K mg base CX0 1 f fd ["_law_script"] (spPen K) := by
  refine F.ok scPen (fun vs H Q E h => ?_) (fun cdv A outer s H vs Q E hr h => ?_)
  · obtain ⟨a, ns, rfl, _⟩ := h
    rfl
  · obtain ⟨a, ns, rfl, hS, few, q⟩ := h
    refine ⟨_, pss_one (ps_ret (pe_lst (pa_cons (pe_callTy call_list_of (by rfl) T.list (by decide +kernel) (pa_cons (pe_slice sl_list (pv 0) po_none (po_some pe_int)) pa_nil)) (pa_cons pe_int (pa_cons pe_int pa_nil))))), ?_⟩
    refine ⟨.ref a, rfl, 63, rfl, a, _, rfl, hS, fun u hu => ?_⟩
    rw [cut63 (α := Unit) _ (by rw [List.length_map]; exact few)]
    refine ⟨u, _, rfl, .inl (SqL.of upd_same), fun c hc => ⟨by show 3 ≤ sizeLine; decide, fun p hp => ?_⟩⟩
    have ncp : c ≠ p := fun z => by
      rw [← z, upd_same] at hp
      cases hp
    refine q p c _ (fun b o e => ?_) ⟨⟨0, 0, upd_same, Int.le_refl _, Int.le_refl _, Int.le_refl _⟩, by rw [upd_ne ncp, upd_same], few⟩
    have e1 : (upd H u (.lst (ns.map V.int))) b = some o := by
      rw [upd_ne (ne_of_none e hu)]
      exact e
    have e2 : (upd (upd H u (.lst (ns.map V.int))) c (.lst (ns.map V.int))) b = some o := by
      rw [upd_ne (ne_of_none e1 hc)]
      exact e1
    rw [upd_ne (ne_of_none e2 hp)]
    exact e2
theorem scPick : FnScope ["_law_pen_here", "_law_some"] ["_law_pen_here", "_law_some"] (defScope sPick) := ⟨rfl, rfl, rfl, by decide +kernel, rfl, by decide +kernel, by decide +kernel⟩
theorem ok_pick {f fD : Addr} {fd fdD : FuncData} (F : Fun K "_law_pick" "_law_pick" sPick f fd) (T : Txt mg) (FD : Fun K "_law_draw" "_law_draw" sDraw fD fdD) (bD : Binds K fdD ["_law_pen_here", "_law_many"] []) (gD : mg "_law_draw" = some (.ref fD))
    (G : FnOk P w K mg base CX0 1 fD fdD ["_law_pen_here", "_law_many"] spDraw) : FnOk P w K mg base CX0 2 f fd ["_law_pen_here", "_law_some"] spPick := by
  refine F.ok scPick (fun vs H Q E h => ?_) (fun cdv A outer s H vs Q E hr h => ?_)
  · obtain ⟨p, c, ns, B, s, src, rfl, _⟩ := h
    rfl
  · obtain ⟨p, c, ns, B, x, src, rfl, PA0, hB, hs, n1, n2, q⟩ := h
    refine ⟨_, pss_one (ps_ret (pe_ix ix_seq (pv 1) (pe_call G hr (by rfl) gD FD.kp bD .nil pass0 (pa_cons (pv 0) (pa_cons (pe_callB (CallR.or call_len_seq call_len_str) (by rfl) T.len PySem.boot_len (pa_cons (pv 1) pa_nil)) pa_nil))) (fun _ _ => rfl))), ?_⟩
    refine ⟨x, rfl, .ref p, rfl, x, rfl, ?_⟩
    have fin : ∀ (d : Int), 0 ≤ d → d < (src.length : Nat) → ∃ v, v ∈ src ∧ atI src d = some v := fun d h0 h1 => at_in h0 h1
    rcases hs with ⟨l, rfl, nlp, hl⟩ | ⟨z, rfl, rfl⟩
    · refine .inl ⟨l, src, rfl, .inl (SqL.of hl), ?_⟩
      refine ⟨p, c, ns, B, _, rfl, PA0, hB, by omega, by omega, fun d H' d0 d1 PA1 off => ?_⟩
      obtain ⟨v, hv, at1⟩ := fin d d0 d1
      exact .inl ⟨l, src, d, v, rfl, rfl, SqL.of (off l _ nlp hl), at1, q v H' hv PA1 off⟩
    · rw [List.length_map] at n1 n2
      have ez : z.cps.toList.length = z.length := Array.length_toList
      have zs : z.length < sizeLine := small1000 (by omega)
      refine .inr ⟨z, rfl, Nat.le_of_lt zs, ?_⟩
      refine ⟨p, c, ns, B, _, rfl, PA0, hB, by omega, by omega, fun d H' d0 d1 PA1 off => ?_⟩
      have d1' : d < (z.cps.toList.length : Nat) := by rw [ez]; exact d1
      obtain ⟨k, rfl⟩ : ∃ k : Nat, d = (k : Int) := ⟨d.toNat, by omega⟩
      have hk : k < z.cps.toList.length := by omega
      refine .inr (.inr ⟨z, _, z.cps.toList[k], rfl, rfl, Nat.le_of_lt zs, atI_nat (List.getElem?_eq_getElem hk), ?_⟩)
      exact q _ H' (List.mem_map.mpr ⟨_, List.getElem_mem hk, rfl⟩) PA1 off
end
end My
namespace My
open PySem PySem.Spec PyProof.Rows L2
/-! ### words and names, as they are said here -/
def low (c : Nat) : Bool := decide (97 ≤ c) && decide (c ≤ 122)
def wd (z : Str) : Bool := decide (1 ≤ z.length) && decide (z.length ≤ 8) && z.cps.toList.all low
def abc : Str := "abcdefghijklmnopqrstuvwxyz"
theorem low_abc (c : Nat) : decide (c ∈ abc.cps.toList) = low c := by
  have e : abc.cps.toList = [97, 98, 99, 100, 101, 102, 103, 104, 105, 106, 107, 108, 109, 110, 111, 112, 113, 114, 115, 116, 117, 118, 119, 120, 121, 122] := by decide +kernel
  rw [e]
  unfold low
  rw [← Bool.decide_and]
  apply decide_eq_decide.mpr
  simp only [List.mem_cons, List.not_mem_nil, or_false]
  omega
theorem sign_at {z : Str} {i : Nat} {c : Nat} (h : z.cps[i]? = some c) : z.cps.toList[i]? = some c := by simpa using h
/-- what is no text: None, a number, a truth, a tuple, a list, a dict -/
def NoText (K : PySem.W.Frag) (H : Hp) (x : V) : Prop := ∃ T : String, TyX K H x (.type T) ∧ kitB T "str" = some false
def spWord (K : PySem.W.Frag) (ans : Str → Bool) : Sp := fun vs H Q _ => ∃ x : V, vs = [x] ∧
  ((∃ z : Str, x = .str z ∧ z.length ≤ 1000 ∧ ∀ H', Same' H H' → Q (.bl (ans z)) H') ∨ (NoText K H x ∧ Q (.bl false) H))
def kept : List Str := ["put", "copy", "if", "else", "say", "fail", "catch", "choose", "or", "none", "stop", "skip", "cell", "log", "failure", "choice"]
def nm (z : Str) : Bool := wd z && !inV (.str z) (kept.map V.str)
section
variable {P : Program} {w : World} {K : PySem.W.Frag} {mg : Str → Option Value} {base : Heap}
abbrev nWord : List Str := ["value", "sign"]
theorem scWord : FnScope nWord ["value"] (defScope sWord) := ⟨rfl, rfl, rfl, by decide +kernel, rfl, by decide +kernel, by decide +kernel⟩
theorem ok_word {f : Addr} {fd : FuncData} {tl tn : Tok} (F : Fun K "is_word" "is_word" sWord f fd) (T : Txt mg) (mL : mg "LETTERS" = some (.str abc tl)) (mN : mg "LONGEST" = some (.int 8 tn)) : FnOk P w K mg base CX0 1 f fd ["value"] (spWord K wd) := by
  refine F.ok scWord (fun vs H Q E h => ?_) (fun cdv A outer s H vs Q E hr h => ?_)
  · obtain ⟨x, rfl, _⟩ := h
    rfl
  · obtain ⟨x, rfl, h⟩ := h
    refine ⟨_, pss_one (ps_ret (pe_and (pe_callB call_isi (by rfl) T.isi (by decide +kernel) (pa_cons (pv 0) (pa_cons (pe_bltn (by rfl) T.str (by decide +kernel) (show RelV (.ty "str") _ from rfl)) pa_nil)))
      (pe_and (pe_chain op_le op_le pe_int (pe_callB call_len_str (by rfl) T.len PySem.boot_len (pa_cons (pv 0) pa_nil)) (pe_glob (v := .int 8) rfl mN ⟨_, rfl⟩))
      (pe_one (pe_callB (cr_all rfl) (by rfl) T.all (by decide +kernel) (pa_cons
        (pe_lc (own := [("sign", 1)]) (g := gName 1) (tt := tYes) rfl scWord.nd (pi_str (pv 0)) (blkOk_by (N := nWord) (sc := defScope sWord) (by decide +kernel)) (fun _ _ _ _ _ => pg_name (i := 1) scWord.nd rfl (Or.inl rfl)) (fun _ _ _ _ _ => pts_nil)
          (fun _ _ _ _ _ => pe_cmpR op_in_sign (pv 1) (pe_glob (v := .str abc) rfl mL ⟨_, rfl⟩) rfl)) pa_nil)))))), ?_⟩
    refine ⟨x, rfl, ?_⟩
    rcases h with ⟨z, rfl, zl, q⟩ | ⟨⟨T, ty, kt⟩, q⟩
    · refine ⟨.str z, .ty "str", .type "str", .type "str", true, rfl, .ty "str", .base (.str z), kit_ty (by decide +kernel), true, rfl, iteT ?_⟩
      have zs : z.length < sizeLine := small1000 zl
      refine ⟨.str z, rfl, z, rfl, Nat.le_of_lt zs, 1, _, rfl, rfl, _, rfl, ite2 (fun e => ?_) (fun e => ?_)⟩
      · refine ⟨_, 8, rfl, rfl, _, rfl, ite2 (fun e2 => ?_) (fun e2 => ?_)⟩
        · have l1 := of_decide_eq_true e
          have l2 := of_decide_eq_true e2
          refine ⟨.str z, rfl, z, rfl, fun D hD => ?_⟩
          refine lc_it walk_str (fun i H' => Same' H H' ∧ H' D = some (.lst ((z.cps.toList.take i).map fun c => V.bl (low c)))) ⟨same_new hD, upd_same⟩ (fun _ _ _ _ => trivial) (fun i x H1 H2 hi hp hy => ?_) (fun H' hp => ?_)
          · obtain ⟨sm, ed⟩ := hp
            obtain ⟨rfl, c, hc, rfl⟩ := hy
            have hc' := sign_at hc
            refine ⟨rfl, ?_⟩
            refine ⟨_, rfl, c, abc, rfl, rfl, _, ed, ?_, same_over hD sm, ?_⟩
            · rw [List.length_map, List.length_take]
              exact Nat.lt_of_le_of_lt (Nat.min_le_right _ _) (by rw [Array.length_toList]; exact zs)
            · rw [upd_same, List.take_add_one, hc', low_abc, List.map_append]
              rfl
          · obtain ⟨sm, ed⟩ := hp
            refine ⟨D, z.cps.toList.map low, rfl, SqL.of ?_, ?_⟩
            · rw [ed, List.take_of_length_le (by rw [Array.length_toList]; exact Nat.le_refl _), List.map_map]
              rfl
            · have ez : (z.cps.toList.map low).all id = wd z := by
                unfold wd
                rw [decide_eq_true (show 1 ≤ z.length by omega), decide_eq_true (show z.length ≤ 8 by omega), List.all_map]
                rfl
              rw [ez]
              exact q _ sm
        · have ez : wd z = false := by
            have := of_decide_eq_false (Bool.eq_false_iff.mpr e2)
            unfold wd
            rw [decide_eq_false (show ¬ z.length ≤ 8 by omega), Bool.and_false, Bool.false_and]
          exact ez ▸ q H fun _ _ e => e
      · refine ⟨false, rfl, iteF ?_⟩
        have ez : wd z = false := by
          have := of_decide_eq_false (Bool.eq_false_iff.mpr e)
          unfold wd
          rw [decide_eq_false (show ¬ 1 ≤ z.length by omega), Bool.false_and, Bool.false_and]
        exact ez ▸ q H fun _ _ e => e
    · refine ⟨x, .ty "str", .type T, .type "str", false, rfl, .ty "str", ty, kit_ty kt, false, rfl, iteF q⟩
abbrev nName : List Str := ["value"]
theorem scName : FnScope nName ["value"] (defScope sName) := ⟨rfl, rfl, rfl, by decide +kernel, rfl, by decide +kernel, by decide +kernel⟩
theorem ok_name {f fW aK : Addr} {fd fdW : FuncData} (F : Fun K "is_name" "is_name" sName f fd) (FW : Fun K "is_word" "is_word" sWord fW fdW) (bW : Binds K fdW ["value"] []) (gW : mg "is_word" = some (.ref fW)) (G : FnOk P w K mg base CX0 1 fW fdW ["value"] (spWord K wd))
    (mK : mg "KEPT_WORDS" = some (.ref aK)) (hK : ∀ H, SqT K H aK (kept.map V.str)) : FnOk P w K mg base CX0 2 f fd ["value"] (spWord K nm) := by
  refine F.ok scName (fun vs H Q E h => ?_) (fun cdv A outer s H vs Q E hr h => ?_)
  · obtain ⟨x, rfl, _⟩ := h
    rfl
  · obtain ⟨x, rfl, h⟩ := h
    refine ⟨_, pss_one (ps_ret (pe_and (pe_call G hr (by rfl) gW FW.kp bW .nil pass0 (pa_cons (pv 0) pa_nil))
      (pe_one (pe_cmpR op_notIn_seq (pv 0) (pe_glob (v := .ref aK) rfl mK rfl) (by rfl))))), ?_⟩
    refine ⟨x, rfl, x, rfl, ?_⟩
    rcases h with ⟨z, rfl, zl, q⟩ | ⟨nt, q⟩
    · refine .inl ⟨z, rfl, zl, fun H' sm => ?_⟩
      cases hz : wd z with
      | true =>
        refine ⟨true, rfl, iteT ⟨.str z, rfl, aK, _, rfl, .inr (hK _), rfl, by decide +kernel, ?_⟩⟩
        have e : nm z = !inV (.str z) (kept.map V.str) := by
          unfold nm
          rw [hz, Bool.true_and]
        exact e ▸ q H' sm
      | false =>
        refine ⟨false, rfl, iteF ?_⟩
        have e : nm z = false := by
          unfold nm
          rw [hz, Bool.false_and]
        exact e ▸ q H' sm
    · exact .inr ⟨nt, false, rfl, iteF q⟩

end
end My
namespace My
open PySem PySem.Spec PyProof.Rows L2
abbrev sIniT : Stmt := inClass (topS 6) 0
def spIniT (C : Addr) : Sp := fun vs H Q _ => ∃ (a : Addr) (l k : Int), vs = [.ref a, .int l, .int k] ∧ H a = some (exo a C none) ∧
  ∀ (dx : Addr) (H' : Hp), (∀ b o, b ≠ a → H b = some o → H' b = some o) → H dx = none → H' a = some (exo a C (some dx)) → H' dx = some (exd dx [("word", .int k), ("line", .int l)]) → Q .non H'
/-- BadText as the top has made it -/
structure ErrT (K : PySem.W.Frag) (mg : Str → Option Value) (C fI : Addr) : Prop where
  g : mg "BadText" = some (.ref C)
  ox : OexC K C
  ini : PySem.W.findIn K (.ref C) "__init__" = some (some (.ref fI))
  ty : PySem.W.typeIn K (.ref fI) = some (.type "function")
  no1 : PySem.W.findIn K (.ref C) "line" = some none
  no2 : PySem.W.findIn K (.ref C) "word" = some none
section
variable {P : Program} {w : World} {K : PySem.W.Frag} {mg : Str → Option Value} {base : Heap}
theorem scIniT : FnScope ["self", "line", "word"] ["self", "line", "word"] (defScope sIniT) := ⟨rfl, rfl, rfl, by decide +kernel, rfl, by decide +kernel, by decide +kernel⟩
theorem ok_iniT {f fC C : Addr} {fd fdC : FuncData} (F : Fun K "__init__" "BadText.__init__" sIniT f fd) (ox : OexC K C) (no1 : PySem.W.findIn K (.ref C) "line" = some none) (no2 : PySem.W.findIn K (.ref C) "word" = some none) (FC : Fun K "copied" "copied" sCopied fC fdC) (b : Binds K fdC ["value"] []) (g : mg "copied" = some (.ref fC))
    (G : FnOk P w K mg base CX0 1 fC fdC ["value"] spFlat) : FnOk P w K mg base CX0 2 f fd ["self", "line", "word"] (spIniT C) := by
  refine F.ok scIniT (fun vs H Q E h => ?_) (fun cdv A outer s H vs Q E hr h => ?_)
  · obtain ⟨a, l, k, rfl, _⟩ := h
    rfl
  · obtain ⟨a, l, k, rfl, ha, q⟩ := h
    refine ⟨_, pss_cons (ps_ost (pv 0) (pe_call G hr (by rfl) g FC.kp b .nil pass0 (pa_cons (pv 1) pa_nil))) (pss_one (ps_ost (pv 0) (pe_call G hr (by rfl) g FC.kp b .nil pass0 (pa_cons (pv 2) pa_nil)))), ?_⟩
    refine ⟨.int l, rfl, .int l, .int l, rfl, .int l, ⟨.ref a, rfl, a, C, rfl, ox, no1, .inl ⟨ha, fun dx hdx ne => ?_⟩⟩⟩
    have a2 : (upd (upd H dx (exd dx [("line", .int l)])) a (exo a C (some dx))) a = some (exo a C (some dx)) := upd_same
    have d2 : (upd (upd H dx (exd dx [("line", .int l)])) a (exo a C (some dx))) dx = some (exd dx [("line", .int l)]) := by rw [upd_ne ne, upd_same]
    refine ⟨.int k, rfl, .int k, .int k, rfl, .int k, ⟨.ref a, rfl, a, C, rfl, ox, no2, .inr ⟨dx, [("line", .int l)], a2, d2, by show 1 ≤ 900; decide, ?_⟩⟩⟩
    refine q dx _ (fun b o n e => ?_) hdx ?_ ?_
    · have n2 : b ≠ dx := ne_of_none e hdx
      rw [upd_ne n2, upd_ne n, upd_ne n2]
      exact e
    · rw [upd_ne (Ne.symm ne), upd_same]
    · rw [upd_same]
/-- what is told of a raised BadText -/
def TellT (E : XK) (C : Addr) (H : Hp) (k : Int) : Prop := ∀ (dd : Addr) (H' : Hp), Same' H H' → H' dd = some (.xd [("word", .int k), ("line", .int 0)]) → E (.ref C) (some dd) H'
theorem raisedT {C : Addr} {k : Int} {H : Hp} {E : XK} (told : TellT E C H k) : ∀ a, H a = none → spIniT C (.ref a :: ([.int 0, .int k] ++ [])) (upd H a (exo a C none))
    (fun v H2 => v = .non ∧ ∃ (dd : Addr) (fs : List (Str × V)), H2 a = some (exo a C (some dd)) ∧ H2 dd = some (exd dd fs) ∧ H dd = none ∧ E (.ref C) (some dd) (upd (del H2 a) dd (.xd fs))) (fun _ _ _ => False) := by
  intro a ha
  refine ⟨a, 0, k, rfl, upd_same, fun dx H' keep hdx ea ed => ⟨rfl, dx, _, ea, ed, ?_, ?_⟩⟩
  · have n : dx ≠ a := fun z => by
      rw [z, upd_same] at hdx
      cases hdx
    rw [upd_ne n] at hdx
    exact hdx
  · have n : dx ≠ a := fun z => by
      rw [z, upd_same] at hdx
      cases hdx
    rw [upd_ne n] at hdx
    refine told dx _ (fun b o e => ?_) upd_same
    have n1 : b ≠ a := ne_of_none e ha
    have n2 : b ≠ dx := ne_of_none e hdx
    rw [upd_ne n2, del_ne n1]
    exact keep b o n1 (by rw [upd_ne n1]; exact e)
end
end My
namespace My
open PySem PySem.Spec PyProof.Rows L2
/-! ### a text's words, gone through one by one -/
structure WAt (C : Addr) (H : Hp) (a : Addr) (ws : List Str) (k : Nat) : Prop where
  ob : ∃ (dx pl : Addr) (as : List Addr), H a = some (.ins C dx [("pieces", .ref pl), ("at", .int (k : Int)), ("many", .int (ws.length : Int))]) ∧ H pl = some (.lst (as.map V.ref)) ∧ as.length = ws.length ∧ ∀ (i : Nat) (p : Addr), as[i]? = some p → ∃ z, ws[i]? = some z ∧ H p = some (.tup [.str z, .int (i : Int)])
  le : k ≤ ws.length
  few : ws.length ≤ 900
  len : ∀ z ∈ ws, z.length ≤ 1000
theorem WAt.keep {C : Addr} {H H' : Hp} {a : Addr} {ws : List Str} {k : Nat} (h : WAt C H a ws k) (s : Same' H H') : WAt C H' a ws k := by
  obtain ⟨dx, pl, as, h1, h2, h3, h4⟩ := h.ob
  exact ⟨⟨dx, pl, as, s _ _ h1, s _ _ h2, h3, fun i p e => by obtain ⟨z, z1, z2⟩ := h4 i p e; exact ⟨z, z1, s _ _ z2⟩⟩, h.le, h.few, h.len⟩
structure WCls (K : PySem.W.Frag) (C : Addr) : Prop where
  c : Cls K C
  np : NoAttr K C "pieces"
  na : NoAttr K C "at"
  nm : NoAttr K C "many"
/-- a method of it -/
structure MethK (P : Program) (w : World) (K : PySem.W.Frag) (mg : Str → Option Value) (base : Heap) (CX : CXT) (k : Nat) (C : Addr) (m : Str) (f : Addr) (fd : FuncData) (ps : List Str) (sp : Sp) : Prop where
  m : Meth K C m f
  b : Binds K fd ps []
  G : FnOk P w K mg base CX k f fd ps sp
def spMore (C : Addr) : Sp := fun vs H Q _ => ∃ (a : Addr) (ws : List Str) (k : Nat), vs = [.ref a] ∧ WAt C H a ws k ∧ Q (.bl (decide (k < ws.length))) H
def spSees (C : Addr) : Sp := fun vs H Q _ => ∃ (a : Addr) (ws : List Str) (k : Nat) (z : Str), vs = [.ref a, .str z] ∧ WAt C H a ws k ∧ Q (.bl (decide (ws[k]? = some z))) H
def sayW (f : Str → Bool) (ws : List Str) (k : Nat) : Bool := match ws[k]? with
  | some z => f z
  | none => false
def spSeesW (C : Addr) : Sp := fun vs H Q _ => ∃ (a : Addr) (ws : List Str) (k : Nat), vs = [.ref a] ∧ WAt C H a ws k ∧ ∀ H', Same' H H' → Q (.bl (sayW wd ws k)) H'
def spRefuse (C CT : Addr) : Sp := fun vs H Q E => ∃ (a : Addr) (ws : List Str) (k : Nat), vs = [.ref a] ∧ WAt C H a ws k ∧ TellT E CT H (k : Int)
abbrev sW (i : Nat) : Stmt := inClass (topS 14) i
section
variable {P : Program} {w : World} {K : PySem.W.Frag} {mg : Str → Option Value} {base : Heap} {C : Addr}
theorem ok_more {f : Addr} {fd : FuncData} (F : Fun K "has_more" "Words.has_more" (sW 2) f fd) (W : WCls K C) (T : Txt mg) : FnOk P w K mg base CX0 1 f fd ["self"] (spMore C) := by
  refine F.ok (N := ["self"]) ⟨rfl, rfl, rfl, by decide +kernel, rfl, by decide +kernel, by decide +kernel⟩ (fun vs H Q E h => ?_) (fun cdv A outer s H vs Q E hr h => ?_)
  · obtain ⟨a, ws, k, rfl, _⟩ := h
    rfl
  · obtain ⟨a, ws, k, rfl, wa, q⟩ := h
    refine ⟨_, pss_one (ps_ret (pe_cmpR op_lt (pe_fld (pv 0) (by rfl)) (pe_callB call_len_seq (by rfl) T.len PySem.boot_len (pa_cons (pe_fld (pv 0) (by rfl)) pa_nil)) (nomark _))), ?_⟩
    obtain ⟨dx, pl, as, h1, h2, h3, h4⟩ := wa.ob
    refine ⟨.ref a, rfl, a, C, dx, _, _, rfl, h1, W.c, W.na, rfl, .ref a, rfl, a, C, dx, _, _, rfl, h1, W.c, W.np, rfl, pl, _, rfl, .inl (SqL.of h2), _, _, rfl, rfl, ?_⟩
    have e : decide ((k : Int) < ((as.map V.ref).length : Int)) = decide (k < ws.length) := by
      rw [List.length_map, h3]
      exact decide_eq_decide.mpr (by omega)
    show Q (.bl (decide ((k : Int) < ((as.map V.ref).length : Int)))) H
    rw [e]
    exact q
/-- self.pieces[self.at][j] -/
theorem rd_piece {σ : L2.St} {i : Nat} {H : Hp} {Q : VK} {a : Addr} {ws : List Str} {k : Nat} {z : Str} (W : WCls K C) (e : σ[i]? = some (some (.ref a))) (wa : WAt C H a ws k) (hz : ws[k]? = some z) (q : Q (.str z) H) :
    tOp (rIxT K) (tOp (rIxL K) (tFld K (tVar i) "pieces") (tFld K (tVar i) "at")) (tC (.int 0)) σ H Q := by
  obtain ⟨dx, pl, as, h1, h2, h3, h4⟩ := wa.ob
  have hk : k < as.length := by
    rw [h3]
    exact (List.getElem?_eq_some_iff.mp hz).1
  obtain ⟨y, y1, y2⟩ := h4 k _ (List.getElem?_eq_getElem hk)
  rw [hz] at y1
  injection y1 with y1
  subst y1
  refine ⟨.ref a, e, a, C, dx, _, _, rfl, h1, W.c, W.np, rfl, .ref a, e, a, C, dx, _, _, rfl, h1, W.c, W.na, rfl, pl, _, k, .ref as[k], rfl, rfl, SqL.of h2, atI_nat (by rw [List.getElem?_map, List.getElem?_eq_getElem hk]; rfl), ?_⟩
  exact ⟨_, _, 0, .str z, rfl, rfl, SqT.of y2, rfl, q⟩
theorem rd_place {σ : L2.St} {i : Nat} {H : Hp} {Q : VK} {a : Addr} {ws : List Str} {k : Nat} {z : Str} (W : WCls K C) (e : σ[i]? = some (some (.ref a))) (wa : WAt C H a ws k) (hz : ws[k]? = some z) (q : Q (.int (k : Int)) H) :
    tOp (rIxT K) (tOp (rIxL K) (tFld K (tVar i) "pieces") (tFld K (tVar i) "at")) (tC (.int 1)) σ H Q := by
  obtain ⟨dx, pl, as, h1, h2, h3, h4⟩ := wa.ob
  have hk : k < as.length := by
    rw [h3]
    exact (List.getElem?_eq_some_iff.mp hz).1
  obtain ⟨y, y1, y2⟩ := h4 k _ (List.getElem?_eq_getElem hk)
  refine ⟨.ref a, e, a, C, dx, _, _, rfl, h1, W.c, W.np, rfl, .ref a, e, a, C, dx, _, _, rfl, h1, W.c, W.na, rfl, pl, _, k, .ref as[k], rfl, rfl, SqL.of h2, atI_nat (by rw [List.getElem?_map, List.getElem?_eq_getElem hk]; rfl), ?_⟩
  exact ⟨_, _, 1, .int (k : Int), rfl, rfl, SqT.of y2, rfl, q⟩
theorem WAt.look {H : Hp} {a : Addr} {ws : List Str} {k : Nat} (wa : WAt C H a ws k) (m : Str) (h : m ≠ "pieces" ∧ m ≠ "at" ∧ m ≠ "many") : ∃ dx fs, H a = some (.ins C dx fs) ∧ fs.lookup m = none := by
  obtain ⟨dx, pl, as, h1, h2, h3, h4⟩ := wa.ob
  refine ⟨dx, _, h1, ?_⟩
  unfold List.lookup
  rw [beq_eq_false_iff_ne.mpr h.1]
  unfold List.lookup
  rw [beq_eq_false_iff_ne.mpr h.2.1]
  unfold List.lookup
  rw [beq_eq_false_iff_ne.mpr h.2.2]
  rfl
/-- self.m(), m without arguments -/
theorem rd_m0 {sp : Sp} {dvs : List V} {E : XK} {σ : L2.St} {i : Nat} {m : Str} {H : Hp} {Q : VK} {a : Addr} {ws : List Str} {k : Nat} (wa : WAt C H a ws k) (e : σ[i]? = some (some (.ref a))) (h : m ≠ "pieces" ∧ m ≠ "at" ∧ m ≠ "many") (q : sp (.ref a :: ([] ++ dvs)) H Q E) : tMeth C m sp dvs E (tVar i) tNil σ H Q := by
  obtain ⟨dx, fs, h1, h2⟩ := wa.look m h
  exact ⟨.ref a, e, a, dx, fs, rfl, h1, h2, q⟩
theorem rd_m1 {sp : Sp} {dvs : List V} {E : XK} {σ : L2.St} {i : Nat} {m : Str} {H : Hp} {Q : VK} {a : Addr} {ws : List Str} {k : Nat} {te : TE} (wa : WAt C H a ws k) (e : σ[i]? = some (some (.ref a))) (h : m ≠ "pieces" ∧ m ≠ "at" ∧ m ≠ "many") (q : te σ H fun x H1 => sp (.ref a :: ([x] ++ dvs)) H1 Q E) : tMeth C m sp dvs E (tVar i) (tCons te tNil) σ H Q := by
  obtain ⟨dx, fs, h1, h2⟩ := wa.look m h
  exact ⟨.ref a, e, a, dx, fs, rfl, h1, h2, q⟩
theorem sees_eq {ws : List Str} {k : Nat} {z : Str} : decide (ws[k]? = some z) = (decide (k < ws.length) && match ws[k]? with | some y => decide (y = z) | none => false) := by
  by_cases h : k < ws.length
  · rw [List.getElem?_eq_getElem h, decide_eq_true h]
    simp
  · rw [List.getElem?_eq_none (by omega), decide_eq_false h]
    rfl
theorem ok_sees {f fM : Addr} {fd dM : FuncData} (F : Fun K "sees" "Words.sees" (sW 3) f fd) (W : WCls K C) (M : MethK P w K mg base CX0 1 C "has_more" fM dM ["self"] (spMore C)) : FnOk P w K mg base CX0 2 f fd ["self", "wanted"] (spSees C) := by
  refine F.ok (N := ["self", "wanted"]) ⟨rfl, rfl, rfl, by decide +kernel, rfl, by decide +kernel, by decide +kernel⟩ (fun vs H Q E h => ?_) (fun cdv A outer s H vs Q E hr h => ?_)
  · obtain ⟨a, ws, k, z, rfl, _⟩ := h
    rfl
  · obtain ⟨a, ws, k, z, rfl, wa, q⟩ := h
    refine ⟨_, pss_one (ps_ret (pe_and (pe_meth0 (pv 0) W.c M.m M.G hr M.b .nil pass0) (pe_one (pe_cmpR op_eq (pe_ix ix_tup (pe_ix ix_list (pe_fld (pv 0) (by rfl)) (pe_fld (pv 0) (by rfl)) (fun _ _ => rfl)) pe_int (fun _ _ => rfl)) (pv 1) (nomark _))))), ?_⟩
    rw [sees_eq] at q
    refine rd_m0 wa rfl (by decide +kernel) ⟨a, ws, k, rfl, wa, _, rfl, ?_⟩
    by_cases h : k < ws.length
    · rw [List.getElem?_eq_getElem h] at q
      rw [decide_eq_true h] at q ⊢
      refine iteT (rd_piece W rfl wa (List.getElem?_eq_getElem h) ⟨_, rfl, rfl, ?_⟩)
      have e : decide (V.str ws[k] = V.str z) = decide (ws[k] = z) := decide_eq_decide.mpr ⟨fun h => by injection h, fun h => by rw [h]⟩
      show Q (.bl (decide (V.str ws[k] = V.str z))) H
      rw [e]
      exact q
    · rw [decide_eq_false h] at q ⊢
      exact iteF q
theorem ok_seesW {f fM fW : Addr} {fd dM dW : FuncData} (F : Fun K "sees_word" "Words.sees_word" (sW 4) f fd) (W : WCls K C) (M : MethK P w K mg base CX0 1 C "has_more" fM dM ["self"] (spMore C)) (FW : Fun K "is_word" "is_word" sWord fW dW) (bW : Binds K dW ["value"] []) (gW : mg "is_word" = some (.ref fW)) (GW : FnOk P w K mg base CX0 1 fW dW ["value"] (spWord K wd)) :
    FnOk P w K mg base CX0 2 f fd ["self"] (spSeesW C) := by
  refine F.ok (N := ["self"]) ⟨rfl, rfl, rfl, by decide +kernel, rfl, by decide +kernel, by decide +kernel⟩ (fun vs H Q E h => ?_) (fun cdv A outer s H vs Q E hr h => ?_)
  · obtain ⟨a, ws, k, rfl, _⟩ := h
    rfl
  · obtain ⟨a, ws, k, rfl, wa, q⟩ := h
    refine ⟨_, pss_one (ps_ret (pe_and (pe_meth0 (pv 0) W.c M.m M.G hr M.b .nil pass0) (pe_one (pe_call GW hr (by rfl) gW FW.kp bW .nil pass0 (pa_cons (pe_ix ix_tup (pe_ix ix_list (pe_fld (pv 0) (by rfl)) (pe_fld (pv 0) (by rfl)) (fun _ _ => rfl)) pe_int (fun _ _ => rfl)) pa_nil))))), ?_⟩
    unfold sayW at q
    refine rd_m0 wa rfl (by decide +kernel) ⟨a, ws, k, rfl, wa, _, rfl, ?_⟩
    by_cases h : k < ws.length
    · rw [List.getElem?_eq_getElem h] at q
      rw [decide_eq_true h]
      exact iteT (rd_piece W rfl wa (List.getElem?_eq_getElem h) ⟨_, rfl, .inl ⟨_, rfl, wa.len _ (List.getElem_mem h), q⟩⟩)
    · rw [List.getElem?_eq_none (by omega)] at q
      rw [decide_eq_false h]
      exact iteF (q H fun _ _ e => e)
theorem ok_refuse {f fM fI CT : Addr} {fd dM dI : FuncData} (F : Fun K "refuse" "Words.refuse" (sW 1) f fd) (W : WCls K C) (M : MethK P w K mg base CX0 1 C "has_more" fM dM ["self"] (spMore C)) (ET : ErrT K mg CT fI) (bI : Binds K dI ["self", "line", "word"] []) (GI : FnOk P w K mg base CX0 2 fI dI ["self", "line", "word"] (spIniT CT)) :
    FnOk P w K mg base (L2.CX P w) 4 f fd ["self"] (spRefuse C CT) := by
  refine F.okX (N := ["self"]) ⟨rfl, rfl, rfl, by decide +kernel, rfl, by decide +kernel, by decide +kernel⟩ (fun vs H Q E h => ?_) (fun cdv A outer s H vs Q E hr h => ?_)
  · obtain ⟨a, ws, k, rfl, _⟩ := h
    rfl
  · obtain ⟨a, ws, k, rfl, wa, told⟩ := h
    refine ⟨_, pss_cons (ps_if (pt_val (pe_meth0 (pv 0) W.c M.m M.G (hr.mono (by decide)) M.b .nil pass0))
        (pss_one (ps_raise rfl (takes_of rfl rfl rfl rfl) (pmk_oex ET.ox ET.ini ET.ty GI hr bI .nil pass0 (by rfl) ET.g (pa_cons pe_int (pa_cons (pe_ix ix_tup (pe_ix ix_list (pe_fld (pv 0) (by rfl)) (pe_fld (pv 0) (by rfl)) (fun _ _ => rfl)) pe_int (fun _ _ => rfl)) pa_nil))))) pss_nil)
      (pss_one (ps_raise rfl (takes_of rfl rfl rfl rfl) (pmk_oex ET.ox ET.ini ET.ty GI hr bI .nil pass0 (by rfl) ET.g (pa_cons pe_int (pa_cons (pe_fld (pv 0) (by rfl)) pa_nil))))), ?_⟩
    refine rd_m0 wa rfl (by decide +kernel) ⟨a, ws, k, rfl, wa, _, rfl, ?_⟩
    by_cases h : k < ws.length
    · rw [decide_eq_true h]
      refine iteT (rd_place W rfl wa (List.getElem?_eq_getElem h) ⟨by show 2 ≤ 1000; decide, ?_⟩)
      exact raisedT told
    · rw [decide_eq_false h]
      have e : (ws.length : Int) = (k : Int) := by
        have := wa.le
        omega
      obtain ⟨dx, pl, as, h1, h2, h3, h4⟩ := wa.ob
      refine iteF ⟨.ref a, rfl, a, C, dx, _, _, rfl, h1, W.c, W.nm, rfl, by show 2 ≤ 1000; decide, ?_⟩
      rw [e]
      exact raisedT told
end
end My
namespace My
open PySem PySem.Spec PyProof.Rows L2
def Keep1 (a : Addr) (H H' : Hp) : Prop := ∀ b o, b ≠ a → H b = some o → H' b = some o
theorem Keep1.of {a : Addr} {H H' : Hp} (s : Same' H H') : Keep1 a H H' := fun b o _ e => s b o e
theorem Keep1.trans {a : Addr} {H H' H2 : Hp} (s : Keep1 a H H') (t : Keep1 a H' H2) : Keep1 a H H2 := fun b o n e => t b o n (s b o n e)
/-- what is told of an error that is raised behind changes of a alone -/
def TellA (E : XK) (C a : Addr) (H : Hp) (k : Int) : Prop := ∀ (dd : Addr) (H' : Hp), Keep1 a H H' → H' dd = some (.xd [("word", .int k), ("line", .int 0)]) → E (.ref C) (some dd) H'
theorem TellA.t {E : XK} {C a : Addr} {H : Hp} {k : Int} (t : TellA E C a H k) : TellT E C H k := fun dd H' s e => t dd H' (.of s) e
theorem TellA.on {E : XK} {C a : Addr} {H H' : Hp} {k : Int} (t : TellA E C a H k) (s : Keep1 a H H') : TellA E C a H' k := fun dd H2 k2 e => t dd H2 (s.trans k2) e
theorem WAt.step {C : Addr} {H : Hp} {a : Addr} {ws : List Str} {k : Nat} (wa : WAt C H a ws k) (h : k < ws.length) : ∃ dx fs, H a = some (.ins C dx fs) ∧ fs.length < 1000 ∧ fs.lookup ("at" : Str) = some (V.int (k : Int)) ∧
    ∀ H', Same' H H' → Keep1 a H (upd H' a (.ins C dx (putF "at" (.int ((k : Int) + 1)) fs))) ∧ WAt C (upd H' a (.ins C dx (putF "at" (.int ((k : Int) + 1)) fs))) a ws (k + 1) := by
  obtain ⟨dx, pl, as, h1, h2, h3, h4⟩ := wa.ob
  refine ⟨dx, _, h1, by show 3 < 1000; decide, rfl, fun H' s => ?_⟩
  have kp : Keep1 a H (upd H' a (.ins C dx (putF "at" (.int ((k : Int) + 1)) [("pieces", .ref pl), ("at", .int (k : Int)), ("many", .int (ws.length : Int))]))) := fun b o n e => by
    rw [upd_ne n]
    exact s _ _ e
  have np : pl ≠ a := fun z => by
    rw [z, h1] at h2
    cases h2
  refine ⟨kp, ⟨dx, pl, as, ?_, kp _ _ np h2, h3, fun i p e => ?_⟩, h, wa.few, wa.len⟩
  · rw [upd_same]
    rfl
  · obtain ⟨z, z1, z2⟩ := h4 i p e
    refine ⟨z, z1, kp _ _ (fun y => ?_) z2⟩
    rw [y, h1] at z2
    cases z2
def spTake (C CT : Addr) : Sp := fun vs H Q E => ∃ (a : Addr) (ws : List Str) (k : Nat) (zs : List Str), vs = .ref a :: zs.map V.str ∧ zs.length ≤ 100 ∧ WAt C H a ws k ∧
  (∀ z, ws[k]? = some z → z ∈ zs → ∀ H', Keep1 a H H' → WAt C H' a ws (k + 1) → Q (.str z) H') ∧ ((∀ z, ws[k]? = some z → z ∉ zs) → TellA E CT a H (k : Int))
/-- the same with the words in a tuple -/
def spTakeT (C CT : Addr) : Sp := fun vs H Q E => ∃ (a t : Addr) (ws : List Str) (k : Nat) (zs : List Str), vs = [.ref a, .ref t] ∧ H t = some (.tup (zs.map V.str)) ∧ WAt C H a ws k ∧
  (∀ z, ws[k]? = some z → z ∈ zs → ∀ H', Keep1 a H H' → WAt C H' a ws (k + 1) → Q (.str z) H') ∧ ((∀ z, ws[k]? = some z → z ∉ zs) → TellA E CT a H (k : Int))
section
variable {P : Program} {w : World} {K : PySem.W.Frag} {mg : Str → Option Value} {base : Heap} {C : Addr}
abbrev nTake : List Str := ["self", "wanted", "piece"]
theorem scTake : FnScope nTake ["self", "wanted"] (defScope (sW 5)) := ⟨rfl, rfl, rfl, by decide +kernel, rfl, by decide +kernel, by decide +kernel⟩
theorem take_body {f fS fR CT : Addr} {dS dR : FuncData} {cdv : Value} {A : Around} {outer : List Env} {s : Shared} {H : Hp} {vs : List V} {Q : VK} {E : XK} (W : WCls K C) (S : MethK P w K mg base CX0 2 C "sees" fS dS ["self", "wanted"] (spSees C)) (R : MethK P w K mg base (L2.CX P w) 4 C "refuse" fR dR ["self"] (spRefuse C CT))
    (hr : Room 4 (cxOf (L2.CX P w) P w K mg base nTake "Words.take" (defScope (sW 5)) f cdv A outer s H E).A) (h : spTakeT C CT vs H Q E) :
    ∃ t, PSs (cxOf (L2.CX P w) P w K mg base nTake "Words.take" (defScope (sW 5)) f cdv A outer s H E) (defBody (sW 5)) t ∧ t { nx := fun _ H' => Q .non H', rt := Q } (L2.start nTake vs) H := by
  obtain ⟨a, t, ws, k, zs, rfl, ht, wa, yes, no⟩ := h
  refine ⟨_, pss_cons (ps_for (passes_of rfl) rfl (pi_tup (pv 1)) (pg_name (i := 2) scTake.nd rfl (.inl rfl))
      (pss_one (ps_if (pt_val (pe_meth (pv 0) W.c S.m S.G (hr.mono (by decide)) S.b .nil pass0 (pa_cons (pv 2) pa_nil)))
        (pss_cons (ps_fld (pv 0) (pe_op op_add (pe_fld (pv 0) (by rfl)) pe_int) (by rfl)) (pss_one (ps_ret (pv 2)))) pss_nil)))
    (pss_one (ps_expr (pe_meth0 (pv 0) W.c R.m R.G hr R.b .nil (passes_call (takes_of rfl rfl rfl rfl) (fun _ _ _ _ h => h))))), ?_⟩
  refine ⟨.ref t, rfl, t, rfl, ⟨_, SqT.of ht⟩, for_tup (xs := zs.map V.str) (fun i σ H' => H' = H ∧ (∃ z2, σ = [some (.ref a), some (.ref t), z2]) ∧ ∀ z ∈ zs.take i, ws[k]? ≠ some z) ⟨rfl, ⟨none, rfl⟩, fun z h => by simp at h⟩ (fun i σ H' _ hp => by rw [hp.1]; exact SqT.of ht) (fun i x σ H' hx hp => ?_) (fun σ H' hp => ?_)⟩
  · obtain ⟨rfl, ⟨z2, rfl⟩, nn⟩ := hp
    rw [List.getElem?_map] at hx
    cases e : zs[i]? with
    | none => rw [e] at hx; cases hx
    | some z =>
      rw [e] at hx
      injection hx with hx
      subst hx
      refine rd_m1 wa rfl (by decide +kernel) ⟨_, rfl, a, ws, k, z, rfl, wa, _, rfl, ?_⟩
      by_cases h : ws[k]? = some z
      · rw [decide_eq_true h]
        have hk : k < ws.length := (List.getElem?_eq_some_iff.mp h).1
        obtain ⟨dx, fs, h1, h2, h3, h4⟩ := wa.step hk
        refine iteT ?_
        refine ⟨.ref a, rfl, a, C, dx, fs, .int (k : Int), rfl, h1, W.c, W.na, h3, (k : Int), 1, rfl, rfl, ?_⟩
        refine ⟨.ref a, rfl, a, C, dx, fs, rfl, h1, W.c, W.na, h2, ?_⟩
        obtain ⟨k1, w1⟩ := h4 H' fun _ _ e => e
        exact ⟨_, rfl, yes z h (List.mem_of_getElem? e) _ k1 w1⟩
      · rw [decide_eq_false h]
        refine iteF ⟨rfl, ⟨_, rfl⟩, fun y hy => ?_⟩
        rw [List.take_add_one, e] at hy
        rcases List.mem_append.mp hy with hy | hy
        · exact nn y hy
        · obtain rfl : y = z := by simpa using hy
          exact h
  · obtain ⟨rfl, ⟨z2, rfl⟩, nn⟩ := hp
    rw [List.length_map, List.take_length] at nn
    exact rd_m0 wa rfl (by decide +kernel) ⟨a, ws, k, rfl, wa, (no fun z hz hm => nn z hm hz).t⟩
end
end My
/-! o.m( *e), e a list or a tuple -/
namespace My
open PySem PySem.Spec PyProof.Rows L2
def tMethSL (K : PySem.W.Frag) (C : Addr) (m : Str) (g : Addr) (sp : Sp) (E : XK) (to te : TE) : TE := fun σ H Q => to σ H fun x H1 => ∃ a dx fs, x = .ref a ∧ H1 a = some (.ins C dx fs) ∧ fs.lookup m = none ∧
  ∀ q, H1 q = none → te σ (upd H1 q (.met g a)) fun y H2 => ∃ b vs, y = .ref b ∧ (SqT K H2 b vs ∨ SqL K H2 b vs) ∧ H2 q = some (.met g a) ∧ sp (.ref a :: vs) H2 Q E
theorem pe_methSL {X : Cx} {CX : CXT} {k : Nat} {C g : Addr} {m : Str} {sp : Sp} {E : XK} {ob ar : Expr} {to te : TE} {p1 p2 p3 : Pos} (ho : PE X ob to) (hc : Cls X.K C) (hb : BMeth X.K C m g) (F : FnR X.prog X.w X.K X.mg X.base CX k g sp) (hr : Room k X.A)
    (hx : Passes CX X E) (he : PE X ar te) (base : attributeBase ob m X.env (eval ob X.env) = eval ob X.env := by rfl) : PE X (.Call (.Attribute ob m p2) [.Starred ar p1] [] p3) (tMethSL X.K C m g sp E to te) := by
  refine ⟨fun pins s σ H Q I h => starcall_of base (thn (ho.run pins s σ H _ I h) fun u s1 z => ?_)⟩
  obtain ⟨x, H1, I1, rx, a, dx, fs, rfl, ea, lo, q⟩ := z
  have eu : u = Value.ref a := rx
  subst eu
  refine getbound_ok I1 ea hc hb lo fun q1 s2 hq1 I2 => PySem.W.ks_call (P := PySem.W.MethP X.K q1 g (.ref a)) rfl (PySem.W.keeps_M hb.fi) (PySem.W.ks_lone ?_)
  refine thn (he.run pins s2 σ _ _ I2 (q q1 hq1)) fun v s3 z => ?_
  obtain ⟨y, H2, I3, ry, t, vs, rfl, ht, hm, hsp⟩ := z
  have ev : v = Value.ref t := ry
  subst ev
  refine StX.star_any I3 ht fun us s4 I4 rv => ⟨met_P I4 hm, wpAny_call (PySem.W.method_call (met_P I4 hm).1 ?_)⟩
  exact run_fnR (us := Value.ref a :: us) (vs := V.ref a :: vs) F hr hx I4 (.cons rfl rv) hsp
end My
namespace My
open PySem PySem.Spec PyProof.Rows L2
theorem takeT_of {C CT : Addr} {H : Hp} {Q : VK} {E : XK} {vs : List V} (h : spTake C CT vs H Q E) : ∃ ws rest, vs = ws ++ rest ∧ ws.length = (["self"] : List Str).length ∧ rest.length ≤ sizeLine ∧ ∀ p, H p = Option.none → spTakeT C CT (ws ++ [V.ref p]) (upd H p (.tup rest)) Q E := by
  obtain ⟨a, ws, k, zs, rfl, few, wa, yes, no⟩ := h
  refine ⟨[.ref a], zs.map V.str, rfl, rfl, Nat.le_of_lt (small1000 (by rw [List.length_map]; omega)), fun p hp => ?_⟩
  have s := same_new (o := .tup (zs.map V.str)) hp
  exact ⟨a, p, ws, k, zs, rfl, upd_same, wa.keep s, fun z e m H' k1 w1 => yes z e m H' (Keep1.trans (.of s) k1) w1, fun n => (no n).on (.of s)⟩
def spTakeIf (C CT fF : Addr) (ans : Str → Bool) : Sp := fun vs H Q E => ∃ (a : Addr) (ws : List Str) (k : Nat), vs = [.ref a, .ref fF] ∧ WAt C H a ws k ∧
  (∀ z, ws[k]? = some z → ans z = true → ∀ H', Keep1 a H H' → WAt C H' a ws (k + 1) → Q (.str z) H') ∧ ((∀ z, ws[k]? = some z → ans z = false) → TellA E CT a H (k : Int))
def spTakeW (C CT : Addr) : Sp := fun vs H Q E => ∃ (a : Addr) (ws : List Str) (k : Nat), vs = [.ref a] ∧ WAt C H a ws k ∧
  (∀ z, ws[k]? = some z → wd z = true → ∀ H', Keep1 a H H' → WAt C H' a ws (k + 1) → Q (.str z) H') ∧ ((∀ z, ws[k]? = some z → wd z = false) → TellA E CT a H (k : Int))
/-- a name that may stand -/
def nmOk (last : Str) (bs : List Str) (z : Str) : Bool := decide (last.cps.toList < z.cps.toList) && !decide (z ∈ bs) && nm z
def spTakeN (C CT : Addr) (sq : Hp → Addr → List Str → Prop) : Sp := fun vs H Q E => ∃ (a b : Addr) (last : Str) (bs ws : List Str) (k : Nat), vs = [.ref a, .str last, .ref b] ∧ sq H b bs ∧ (∀ H', Same' H H' → sq H' b bs) ∧ bs.length ≤ 900 ∧ WAt C H a ws k ∧
  (∀ z, ws[k]? = some z → nmOk last bs z = true → ∀ H', Keep1 a H H' → WAt C H' a ws (k + 1) → Q (.str z) H') ∧ ((∀ z, ws[k]? = some z → nmOk last bs z = false) → TellA E CT a H (k : Int))
def spFinish (C CT : Addr) : Sp := fun vs H Q E => ∃ (a : Addr) (ws : List Str) (k : Nat), vs = [.ref a] ∧ WAt C H a ws k ∧ (k = ws.length → Q .non H) ∧ (k < ws.length → TellA E CT a H (k : Int))
section
variable {P : Program} {w : World} {K : PySem.W.Frag} {mg : Str → Option Value} {base : Heap} {C : Addr}
theorem ok_take {f fS fR CT : Addr} {fd dS dR : FuncData} (F : Fun K "take" "Words.take" (sW 5) f fd) (W : WCls K C) (S : MethK P w K mg base CX0 2 C "sees" fS dS ["self", "wanted"] (spSees C)) (R : MethK P w K mg base (L2.CX P w) 4 C "refuse" fR dR ["self"] (spRefuse C CT)) : FnR P w K mg base (L2.CX P w) 5 f (spTake C CT) := by
  obtain ⟨oc, od, kV, doc, pm, an, cdv, ct, osl, rfl, lk, hcd⟩ := F.ex
  refine FnR.imp (StX.fn_star (ps := ["self"]) (pv := "wanted") (sp := spTakeT C CT) lk hcd scTake StX.cxUp (StX.bind_star1 (B := fun us => bindArgs (PySem.W.fnOf "take" "Words.take" (defArgs (sW 5)) (defBody (sW 5)) (defScope (sW 5)) .none kV doc pm an cdv ct) ⟨us, []⟩) (fun _ => rfl) (fun _ _ _ => rfl)) fun A outer s H vs Q E hr h => take_body W S R hr h) fun vs H Q E h => takeT_of h
theorem ok_takeIf {f fM fR fF CT : Addr} {fd dM dR dF : FuncData} {n : Nat} {ans : Str → Bool} (F : Fun K "_take_if" "Words._take_if" (sW 12) f fd) (W : WCls K C) (M : MethK P w K mg base CX0 1 C "has_more" fM dM ["self"] (spMore C)) (R : MethK P w K mg base (L2.CX P w) 4 C "refuse" fR dR ["self"] (spRefuse C CT))
    (kF : PySem.W.keepIn K (.ref fF) = true) (bF : Binds K dF ["value"] []) (GF : FnOk P w K mg base CX0 2 fF dF ["value"] (spWord K ans)) : FnOk P w K mg base (L2.CX P w) 5 f fd ["self", "fits"] (spTakeIf C CT fF ans) := by
  refine F.okX (N := ["self", "fits"]) ⟨rfl, rfl, rfl, by decide +kernel, rfl, by decide +kernel, by decide +kernel⟩ (fun vs H Q E h => ?_) (fun cdv A outer s H vs Q E hr h => ?_)
  · obtain ⟨a, ws, k, rfl, _⟩ := h
    rfl
  · obtain ⟨a, ws, k, rfl, wa, yes, no⟩ := h
    refine ⟨_, pss_cons (ps_if (PW.pt (pw_or (pt_not (pt_val (pe_meth0 (pv 0) W.c M.m M.G (hr.mono (by decide)) M.b .nil pass0)))
          (pw_or1 (pt_not (pt_val (pe_callL (i := 1) GF (hr.mono (by decide)) rfl (.inl rfl) kF bF .nil pass0 (pa_cons (pe_ix ix_tup (pe_ix ix_list (pe_fld (pv 0) (by rfl)) (pe_fld (pv 0) (by rfl)) (fun _ _ => rfl)) pe_int (fun _ _ => rfl)) pa_nil)))))))
        (pss_one (ps_expr (pe_meth0 (pv 0) W.c R.m R.G hr R.b .nil (passes_call (takes_of rfl rfl rfl rfl) (fun _ _ _ _ h => h))))) pss_nil)
      (pss_cons (ps_fld (pv 0) (pe_op op_add (pe_fld (pv 0) (by rfl)) pe_int) (by rfl))
      (pss_one (ps_ret (pe_ix ix_tup (pe_ix ix_list (pe_fld (pv 0) (by rfl)) (pe_op op_sub (pe_fld (pv 0) (by rfl)) pe_int) (fun _ _ => rfl)) pe_int (fun _ _ => rfl))))), ?_⟩
    refine rd_m0 wa rfl (by decide +kernel) ⟨a, ws, k, rfl, wa, _, rfl, ?_⟩
    by_cases h : k < ws.length
    · rw [decide_eq_true h]
      have e := List.getElem?_eq_getElem h
      refine iteF ?_
      refine ⟨rfl, rd_piece W rfl wa e ⟨_, rfl, .inl ⟨_, rfl, wa.len _ (List.getElem_mem h), fun H1 s1 => ⟨ans ws[k], rfl, ?_⟩⟩⟩⟩
      have wa1 := wa.keep s1
      cases ha : ans ws[k] with
      | true =>
        obtain ⟨dx, fs, h1, h2, h3, h4⟩ := wa1.step h
        refine iteF ?_
        refine ⟨.ref a, rfl, a, C, dx, fs, .int (k : Int), rfl, h1, W.c, W.na, h3, (k : Int), 1, rfl, rfl, ?_⟩
        refine ⟨.ref a, rfl, a, C, dx, fs, rfl, h1, W.c, W.na, h2, ?_⟩
        obtain ⟨k1, w1⟩ := h4 H1 fun _ _ e => e
        obtain ⟨H2, eH⟩ : ∃ H2, upd H1 a (.ins C dx (putF "at" (.int ((k : Int) + 1)) fs)) = H2 := ⟨_, rfl⟩
        rw [eH] at k1 w1 ⊢
        obtain ⟨dx2, pl, as, g1, g2, g3, g4⟩ := w1.ob
        have hk : k < as.length := by rw [g3]; exact h
        obtain ⟨y, y1, y2⟩ := g4 k _ (List.getElem?_eq_getElem hk)
        rw [e] at y1
        injection y1 with y1
        refine ⟨.ref a, rfl, a, C, dx2, _, _, rfl, g1, W.c, W.np, rfl, .ref a, rfl, a, C, dx2, _, _, rfl, g1, W.c, W.na, rfl, _, 1, rfl, rfl, ?_⟩
        refine ⟨pl, _, ((k + 1 : Nat) : Int) - 1, .ref as[k], rfl, rfl, SqL.of g2, ?_, ?_⟩
        · rw [show ((k + 1 : Nat) : Int) - 1 = (k : Int) by omega]
          exact atI_nat (by rw [List.getElem?_map, List.getElem?_eq_getElem hk]; rfl)
        · refine ⟨_, _, 0, .str y, rfl, rfl, SqT.of y2, rfl, ?_⟩
          rw [← y1]
          exact yes _ e ha _ (Keep1.trans (.of s1) k1) w1
      | false =>
        refine iteT ?_
        refine rd_m0 wa1 rfl (by decide +kernel) ⟨a, ws, k, rfl, wa1, ?_⟩
        refine ((no fun z hz => ?_).on (.of s1)).t
        rw [e] at hz
        injection hz with hz
        rw [← hz]
        exact ha
    · rw [decide_eq_false h]
      refine iteT (iteT ?_)
      refine rd_m0 wa rfl (by decide +kernel) ⟨a, ws, k, rfl, wa, ?_⟩
      refine (no fun z hz => ?_).t
      rw [List.getElem?_eq_none (by omega)] at hz
      cases hz
end
end My
namespace My
open PySem PySem.Spec PyProof.Rows L2
theorem and_one {A B : TT} {σ : L2.St} {H : Hp} {Q : Bool → Hp → Prop} {c d : Bool} (ha : ∀ R : Bool → Hp → Prop, R c H → A σ H R) (hb : c = true → ∀ R : Bool → Hp → Prop, R d H → B σ H R) (q : Q (c && d) H) : tAnd A B σ H Q := ha _ (by
  cases c with
  | true => exact iteT (hb rfl _ q)
  | false => exact iteF q)
def hits (ws : List Str) (k : Nat) (bs : List Str) : Bool := (bs.map fun b => decide (ws[k]? = some b)).any id
theorem hits_mem {ws : List Str} {k : Nat} {bs : List Str} {z : Str} (h : ws[k]? = some z) : hits ws k bs = decide (z ∈ bs) := by
  unfold hits
  rw [h, List.any_map]
  induction bs with
  | nil => rfl
  | cons b r ih =>
    rw [List.any_cons, ih]
    by_cases e : z = b
    · subst e
      simp
    · simp [e]
theorem hits_none {ws : List Str} {k : Nat} {bs : List Str} (h : ws[k]? = none) : hits ws k bs = false := by
  unfold hits
  rw [h, List.any_map]
  induction bs with
  | nil => rfl
  | cons b r ih =>
    rw [List.any_cons, ih]
    rfl
section
variable {P : Program} {w : World} {K : PySem.W.Frag} {mg : Str → Option Value} {base : Heap} {C : Addr}
theorem ok_takeW {f fI fW CT : Addr} {fd dI : FuncData} (F : Fun K "take_word" "Words.take_word" (sW 8) f fd) (W : WCls K C) (TI : MethK P w K mg base (L2.CX P w) 5 C "_take_if" fI dI ["self", "fits"] (spTakeIf C CT fW wd)) (gW : mg "is_word" = some (.ref fW)) : FnOk P w K mg base (L2.CX P w) 6 f fd ["self"] (spTakeW C CT) := by
  refine F.okX (N := ["self"]) ⟨rfl, rfl, rfl, by decide +kernel, rfl, by decide +kernel, by decide +kernel⟩ (fun vs H Q E h => ?_) (fun cdv A outer s H vs Q E hr h => ?_)
  · obtain ⟨a, ws, k, rfl, _⟩ := h
    rfl
  · obtain ⟨a, ws, k, rfl, wa, yes, no⟩ := h
    refine ⟨_, pss_one (ps_ret (pe_meth (pv 0) W.c TI.m TI.G hr TI.b .nil (passes_call (takes_of rfl rfl rfl rfl) (fun _ _ _ _ h => h)) (pa_cons (pe_glob (v := .ref fW) rfl gW rfl) pa_nil))), ?_⟩
    exact rd_m1 wa rfl (by decide +kernel) ⟨a, ws, k, rfl, wa, yes, no⟩
theorem ok_finish {f fM fR CT : Addr} {fd dM dR : FuncData} (F : Fun K "finish" "Words.finish" (sW 11) f fd) (W : WCls K C) (M : MethK P w K mg base CX0 1 C "has_more" fM dM ["self"] (spMore C)) (R : MethK P w K mg base (L2.CX P w) 4 C "refuse" fR dR ["self"] (spRefuse C CT)) : FnOk P w K mg base (L2.CX P w) 5 f fd ["self"] (spFinish C CT) := by
  refine F.okX (N := ["self"]) ⟨rfl, rfl, rfl, by decide +kernel, rfl, by decide +kernel, by decide +kernel⟩ (fun vs H Q E h => ?_) (fun cdv A outer s H vs Q E hr h => ?_)
  · obtain ⟨a, ws, k, rfl, _⟩ := h
    rfl
  · obtain ⟨a, ws, k, rfl, wa, yes, no⟩ := h
    refine ⟨_, pss_one (ps_if (pt_val (pe_meth0 (pv 0) W.c M.m M.G (hr.mono (by decide)) M.b .nil pass0)) (pss_one (ps_expr (pe_meth0 (pv 0) W.c R.m R.G hr R.b .nil (passes_call (takes_of rfl rfl rfl rfl) (fun _ _ _ _ h => h))))) pss_nil), ?_⟩
    refine rd_m0 wa rfl (by decide +kernel) ⟨a, ws, k, rfl, wa, _, rfl, ?_⟩
    by_cases h : k < ws.length
    · rw [decide_eq_true h]
      exact iteT (rd_m0 wa rfl (by decide +kernel) ⟨a, ws, k, rfl, wa, (no h).t⟩)
    · rw [decide_eq_false h]
      exact iteF (yes (by have := wa.le; omega))
abbrev nTN : List Str := ["self", "last", "barred", "name"]
theorem scTN : FnScope nTN ["self", "last", "barred"] (defScope (sW 6)) := ⟨rfl, rfl, rfl, by decide +kernel, rfl, by decide +kernel, by decide +kernel⟩
theorem nameL_body {f fM fS fR fI fN CT : Addr} {dM dS dR dI : FuncData} {cdv : Value} {A : Around} {outer : List Env} {s : Shared} {H : Hp} {vs : List V} {Q : VK} {E : XK} (T : Txt mg) (W : WCls K C) (M : MethK P w K mg base CX0 1 C "has_more" fM dM ["self"] (spMore C)) (S : MethK P w K mg base CX0 2 C "sees" fS dS ["self", "wanted"] (spSees C)) (R : MethK P w K mg base (L2.CX P w) 4 C "refuse" fR dR ["self"] (spRefuse C CT)) (TI : MethK P w K mg base (L2.CX P w) 5 C "_take_if" fI dI ["self", "fits"] (spTakeIf C CT fN nm)) (gN : mg "is_name" = some (.ref fN))
    (hr : Room 5 (cxOf (L2.CX P w) P w K mg base nTN "Words.take_name" (defScope (sW 6)) f cdv A outer s H E).A) (h : spTakeN C CT (fun H b bs => H b = some (.lst (bs.map V.str))) vs H Q E) :
    ∃ t, PSs (cxOf (L2.CX P w) P w K mg base nTN "Words.take_name" (defScope (sW 6)) f cdv A outer s H E) (defBody (sW 6)) t ∧ t { nx := fun _ H' => Q .non H', rt := Q } (L2.start nTN vs) H := by
  obtain ⟨a, b, last, bs, ws, k, rfl, hb, kb, fb, wa, yes, no⟩ := h
  refine ⟨_, pss_cons (ps_if (PW.pt (pw_and (pt_val (pe_meth0 (pv 0) W.c M.m M.G (hr.mono (by decide)) M.b .nil pass0))
          (pw_and1 (pt_cmpR op_le_str (pe_ix ix_tup (pe_ix ix_list (pe_fld (pv 0) (by rfl)) (pe_fld (pv 0) (by rfl)) (fun _ _ => rfl)) pe_int (fun _ _ => rfl)) (pv 1) (nomark _)))))
        (pss_one (ps_expr (pe_meth0 (pv 0) W.c R.m R.G (hr.mono (by decide)) R.b .nil (passes_call (takes_of rfl rfl rfl rfl) (fun _ _ _ _ h => h))))) pss_nil)
      (pss_cons (ps_if (pt_val (pe_callB (cr_any rfl) (by rfl) T.any (by decide +kernel) (pa_cons (pe_lc (own := [("name", 3)]) (g := gName 3) (tt := tYes) rfl scTN.nd (pi_list (pv 2)) (blkOk_by (N := nTN) (sc := defScope (sW 6)) (by decide +kernel)) (fun _ _ _ _ _ => pg_name (i := 3) scTN.nd rfl (Or.inl rfl)) (fun _ _ _ _ _ => pts_nil)
            (fun s1 H1 C1 cl1 fp1 => pe_meth (X := (cxOf (L2.CX P w) P w K mg base nTN "Words.take_name" (defScope (sW 6)) f cdv A outer s H E).blk s1 H1 _ (compEnvC _ cl1 C1 (cxOf (L2.CX P w) P w K mg base nTN "Words.take_name" (defScope (sW 6)) f cdv A outer s H E).env) fp1) (pv 0) W.c S.m S.G (hr.mono (by decide)) S.b .nil pass0 (pa_cons (pv 3) pa_nil))) pa_nil)))
        (pss_one (ps_expr (pe_meth0 (pv 0) W.c R.m R.G (hr.mono (by decide)) R.b .nil (passes_call (takes_of rfl rfl rfl rfl) (fun _ _ _ _ h => h))))) pss_nil)
      (pss_one (ps_ret (pe_meth (pv 0) W.c TI.m TI.G hr TI.b .nil (passes_call (takes_of rfl rfl rfl rfl) (fun _ _ _ _ h => h)) (pa_cons (pe_glob (v := .ref fN) rfl gN rfl) pa_nil))))), ?_⟩
  refine and_one (c := decide (k < ws.length)) (d := sayW (fun z => !decide (last.cps.toList < z.cps.toList)) ws k) (fun R r => rd_m0 wa rfl (by decide +kernel) ⟨a, ws, k, rfl, wa, _, rfl, r⟩) (fun hc R r => ?_) ?_
  · have hk := of_decide_eq_true hc
    unfold sayW at r
    rw [List.getElem?_eq_getElem hk] at r
    exact rd_piece W rfl wa (List.getElem?_eq_getElem hk) ⟨_, rfl, _, _, rfl, rfl, _, rfl, r⟩
  · cases hb1 : (decide (k < ws.length) && sayW (fun z => !decide (last.cps.toList < z.cps.toList)) ws k) with
    | true =>
      refine iteT (rd_m0 wa rfl (by decide +kernel) ⟨a, ws, k, rfl, wa, (no fun z hz => ?_).t⟩)
      rw [Bool.and_eq_true] at hb1
      have := hb1.2
      unfold sayW at this
      rw [hz] at this
      unfold nmOk
      simp only [Bool.not_eq_true'] at this
      rw [this]
      rfl
    | false =>
      refine iteF ⟨.ref b, rfl, b, rfl, ⟨_, SqL.of hb⟩, fun D hD => ?_⟩
      refine lc_list (K := K) (a := b) (xs := bs.map V.str) (fun i H' => Same' H H' ∧ H' D = some (.lst ((bs.take i).map fun y => V.bl (decide (ws[k]? = some y))))) ⟨same_new hD, upd_same⟩ (fun i H' _ hp => SqL.of (kb _ hp.1)) (fun i x H' hx hp => ?_) (fun H' hp => ?_)
      · obtain ⟨sm, ed⟩ := hp
        rw [List.getElem?_map] at hx
        cases e : bs[i]? with
        | none => rw [e] at hx; cases hx
        | some y =>
          rw [e] at hx
          injection hx with hx
          subst hx
          refine ⟨rfl, rd_m1 (wa.keep sm) rfl (by decide +kernel) ⟨_, rfl, a, ws, k, y, rfl, wa.keep sm, _, ed, small1000 ?_, same_over hD sm, ?_⟩⟩
          · rw [List.length_map, List.length_take]
            omega
          · rw [upd_same]
            show some (HO.lst ((bs.take i).map (fun y => V.bl (decide (ws[k]? = some y))) ++ [V.bl (decide (ws[k]? = some y))])) = _
            rw [List.take_add_one, e, List.map_append]
            rfl
      · obtain ⟨sm, ed⟩ := hp
        rw [List.length_map, List.take_length] at ed
        have wa1 := wa.keep sm
        refine ⟨D, bs.map fun y => decide (ws[k]? = some y), rfl, SqL.of ?_, hits ws k bs, rfl, ?_⟩
        · rw [ed, List.map_map]
          rfl
        · cases hh : hits ws k bs with
          | true =>
            refine iteT (rd_m0 wa1 rfl (by decide +kernel) ⟨a, ws, k, rfl, wa1, ((no fun z hz => ?_).on (.of sm)).t⟩)
            rw [hits_mem hz] at hh
            unfold nmOk
            rw [hh]
            simp
          | false =>
            refine iteF (rd_m1 wa1 rfl (by decide +kernel) ⟨a, ws, k, rfl, wa1, fun z hz hn H2 k2 w2 => ?_, fun n => (no fun z hz => ?_).on (.of sm)⟩)
            · refine yes z hz ?_ H2 (Keep1.trans (.of sm) k2) w2
              have hk : k < ws.length := (List.getElem?_eq_some_iff.mp hz).1
              rw [decide_eq_true hk] at hb1
              unfold sayW at hb1
              rw [hz] at hb1
              simp only [Bool.true_and, Bool.not_eq_false'] at hb1
              rw [hits_mem hz] at hh
              unfold nmOk
              rw [hb1, hh, hn]
              rfl
            · unfold nmOk
              rw [n z hz]
              simp
end
end My
namespace My
open PySem PySem.Spec PyProof.Rows L2
section
variable {P : Program} {w : World} {K : PySem.W.Frag} {mg : Str → Option Value} {base : Heap} {C : Addr}
theorem nameT_body {f fM fS fR fI fN CT : Addr} {dM dS dR dI : FuncData} {cdv : Value} {A : Around} {outer : List Env} {s : Shared} {H : Hp} {vs : List V} {Q : VK} {E : XK} (T : Txt mg) (W : WCls K C) (M : MethK P w K mg base CX0 1 C "has_more" fM dM ["self"] (spMore C)) (S : MethK P w K mg base CX0 2 C "sees" fS dS ["self", "wanted"] (spSees C)) (R : MethK P w K mg base (L2.CX P w) 4 C "refuse" fR dR ["self"] (spRefuse C CT)) (TI : MethK P w K mg base (L2.CX P w) 5 C "_take_if" fI dI ["self", "fits"] (spTakeIf C CT fN nm)) (gN : mg "is_name" = some (.ref fN))
    (hr : Room 5 (cxOf (L2.CX P w) P w K mg base nTN "Words.take_name" (defScope (sW 6)) f cdv A outer s H E).A) (h : spTakeN C CT (fun H b bs => SqT K H b (bs.map V.str)) vs H Q E) :
    ∃ t, PSs (cxOf (L2.CX P w) P w K mg base nTN "Words.take_name" (defScope (sW 6)) f cdv A outer s H E) (defBody (sW 6)) t ∧ t { nx := fun _ H' => Q .non H', rt := Q } (L2.start nTN vs) H := by
  obtain ⟨a, b, last, bs, ws, k, rfl, hb, kb, fb, wa, yes, no⟩ := h
  refine ⟨_, pss_cons (ps_if (PW.pt (pw_and (pt_val (pe_meth0 (pv 0) W.c M.m M.G (hr.mono (by decide)) M.b .nil pass0))
          (pw_and1 (pt_cmpR op_le_str (pe_ix ix_tup (pe_ix ix_list (pe_fld (pv 0) (by rfl)) (pe_fld (pv 0) (by rfl)) (fun _ _ => rfl)) pe_int (fun _ _ => rfl)) (pv 1) (nomark _)))))
        (pss_one (ps_expr (pe_meth0 (pv 0) W.c R.m R.G (hr.mono (by decide)) R.b .nil (passes_call (takes_of rfl rfl rfl rfl) (fun _ _ _ _ h => h))))) pss_nil)
      (pss_cons (ps_if (pt_val (pe_callB (cr_any rfl) (by rfl) T.any (by decide +kernel) (pa_cons (pe_lc (own := [("name", 3)]) (g := gName 3) (tt := tYes) rfl scTN.nd (pi_tup (pv 2)) (blkOk_by (N := nTN) (sc := defScope (sW 6)) (by decide +kernel)) (fun _ _ _ _ _ => pg_name (i := 3) scTN.nd rfl (Or.inl rfl)) (fun _ _ _ _ _ => pts_nil)
            (fun s1 H1 C1 cl1 fp1 => pe_meth (X := (cxOf (L2.CX P w) P w K mg base nTN "Words.take_name" (defScope (sW 6)) f cdv A outer s H E).blk s1 H1 _ (compEnvC _ cl1 C1 (cxOf (L2.CX P w) P w K mg base nTN "Words.take_name" (defScope (sW 6)) f cdv A outer s H E).env) fp1) (pv 0) W.c S.m S.G (hr.mono (by decide)) S.b .nil pass0 (pa_cons (pv 3) pa_nil))) pa_nil)))
        (pss_one (ps_expr (pe_meth0 (pv 0) W.c R.m R.G (hr.mono (by decide)) R.b .nil (passes_call (takes_of rfl rfl rfl rfl) (fun _ _ _ _ h => h))))) pss_nil)
      (pss_one (ps_ret (pe_meth (pv 0) W.c TI.m TI.G hr TI.b .nil (passes_call (takes_of rfl rfl rfl rfl) (fun _ _ _ _ h => h)) (pa_cons (pe_glob (v := .ref fN) rfl gN rfl) pa_nil))))), ?_⟩
  refine and_one (c := decide (k < ws.length)) (d := sayW (fun z => !decide (last.cps.toList < z.cps.toList)) ws k) (fun R r => rd_m0 wa rfl (by decide +kernel) ⟨a, ws, k, rfl, wa, _, rfl, r⟩) (fun hc R r => ?_) ?_
  · have hk := of_decide_eq_true hc
    unfold sayW at r
    rw [List.getElem?_eq_getElem hk] at r
    exact rd_piece W rfl wa (List.getElem?_eq_getElem hk) ⟨_, rfl, _, _, rfl, rfl, _, rfl, r⟩
  · cases hb1 : (decide (k < ws.length) && sayW (fun z => !decide (last.cps.toList < z.cps.toList)) ws k) with
    | true =>
      refine iteT (rd_m0 wa rfl (by decide +kernel) ⟨a, ws, k, rfl, wa, (no fun z hz => ?_).t⟩)
      rw [Bool.and_eq_true] at hb1
      have := hb1.2
      unfold sayW at this
      rw [hz] at this
      unfold nmOk
      simp only [Bool.not_eq_true'] at this
      rw [this]
      rfl
    | false =>
      refine iteF ⟨.ref b, rfl, b, rfl, ⟨_, hb⟩, fun D hD => ?_⟩
      refine lc_tup (K := K) (a := b) (xs := bs.map V.str) (fun i H' => Same' H H' ∧ H' D = some (.lst ((bs.take i).map fun y => V.bl (decide (ws[k]? = some y))))) ⟨same_new hD, upd_same⟩ (fun i H' _ hp => kb _ hp.1) (fun i x H' hx hp => ?_) (fun H' hp => ?_)
      · obtain ⟨sm, ed⟩ := hp
        rw [List.getElem?_map] at hx
        cases e : bs[i]? with
        | none => rw [e] at hx; cases hx
        | some y =>
          rw [e] at hx
          injection hx with hx
          subst hx
          refine ⟨rfl, rd_m1 (wa.keep sm) rfl (by decide +kernel) ⟨_, rfl, a, ws, k, y, rfl, wa.keep sm, _, ed, small1000 ?_, same_over hD sm, ?_⟩⟩
          · rw [List.length_map, List.length_take]
            omega
          · rw [upd_same]
            show some (HO.lst ((bs.take i).map (fun y => V.bl (decide (ws[k]? = some y))) ++ [V.bl (decide (ws[k]? = some y))])) = _
            rw [List.take_add_one, e, List.map_append]
            rfl
      · obtain ⟨sm, ed⟩ := hp
        rw [List.length_map, List.take_length] at ed
        have wa1 := wa.keep sm
        refine ⟨D, bs.map fun y => decide (ws[k]? = some y), rfl, SqL.of ?_, hits ws k bs, rfl, ?_⟩
        · rw [ed, List.map_map]
          rfl
        · cases hh : hits ws k bs with
          | true =>
            refine iteT (rd_m0 wa1 rfl (by decide +kernel) ⟨a, ws, k, rfl, wa1, ((no fun z hz => ?_).on (.of sm)).t⟩)
            rw [hits_mem hz] at hh
            unfold nmOk
            rw [hh]
            simp
          | false =>
            refine iteF (rd_m1 wa1 rfl (by decide +kernel) ⟨a, ws, k, rfl, wa1, fun z hz hn H2 k2 w2 => ?_, fun n => (no fun z hz => ?_).on (.of sm)⟩)
            · refine yes z hz ?_ H2 (Keep1.trans (.of sm) k2) w2
              have hk : k < ws.length := (List.getElem?_eq_some_iff.mp hz).1
              rw [decide_eq_true hk] at hb1
              unfold sayW at hb1
              rw [hz] at hb1
              simp only [Bool.true_and, Bool.not_eq_false'] at hb1
              rw [hits_mem hz] at hh
              unfold nmOk
              rw [hb1, hh, hn]
              rfl
            · unfold nmOk
              rw [n z hz]
              simp

abbrev FTN (K : PySem.W.Frag) (e0 f : Addr) (fd : FuncData) : Prop := FunD K "take_name" "Words.take_name" (defArgs (sW 6)) (defBody (sW 6)) (defScope (sW 6)) [.str "", .ref e0] [] f fd
theorem ok_nameL {f fM fS fR fI fN CT e0 : Addr} {fd dM dS dR dI : FuncData} (F : FTN K e0 f fd) (T : Txt mg) (W : WCls K C) (M : MethK P w K mg base CX0 1 C "has_more" fM dM ["self"] (spMore C)) (S : MethK P w K mg base CX0 2 C "sees" fS dS ["self", "wanted"] (spSees C)) (R : MethK P w K mg base (L2.CX P w) 4 C "refuse" fR dR ["self"] (spRefuse C CT)) (TI : MethK P w K mg base (L2.CX P w) 5 C "_take_if" fI dI ["self", "fits"] (spTakeIf C CT fN nm)) (gN : mg "is_name" = some (.ref fN)) :
    FnOk P w K mg base (L2.CX P w) 6 f fd ["self", "last", "barred"] (spTakeN C CT fun H b bs => H b = some (.lst (bs.map V.str))) := by
  refine F.ok scTN (fun vs H Q E h => ?_) (fun cdv A outer s H vs Q E hr h => nameL_body T W M S R TI gN hr h)
  obtain ⟨a, b, last, bs, ws, k, rfl, _⟩ := h
  rfl
theorem ok_nameT {f fM fS fR fI fN CT e0 : Addr} {fd dM dS dR dI : FuncData} (F : FTN K e0 f fd) (T : Txt mg) (W : WCls K C) (M : MethK P w K mg base CX0 1 C "has_more" fM dM ["self"] (spMore C)) (S : MethK P w K mg base CX0 2 C "sees" fS dS ["self", "wanted"] (spSees C)) (R : MethK P w K mg base (L2.CX P w) 4 C "refuse" fR dR ["self"] (spRefuse C CT)) (TI : MethK P w K mg base (L2.CX P w) 5 C "_take_if" fI dI ["self", "fits"] (spTakeIf C CT fN nm)) (gN : mg "is_name" = some (.ref fN)) :
    FnOk P w K mg base (L2.CX P w) 6 f fd ["self", "last", "barred"] (spTakeN C CT fun H b bs => SqT K H b (bs.map V.str)) := by
  refine F.ok scTN (fun vs H Q E h => ?_) (fun cdv A outer s H vs Q E hr h => nameT_body T W M S R TI gN hr h)
  obtain ⟨a, b, last, bs, ws, k, rfl, _⟩ := h
  rfl
end
end My
namespace My
open PySem PySem.Spec PyProof.Rows L2
def fig (v : Nat) : Str := ((toString (v : Int) : String) : Str)
abbrev figs : List Str := [fig 0, fig 1, fig 2, fig 3]
def isFig (z : Str) : Bool := decide (z ∈ figs)
def spSeesN (C : Addr) : Sp := fun vs H Q _ => ∃ (a : Addr) (ws : List Str) (k : Nat), vs = [.ref a, .int 0, .int 3] ∧ WAt C H a ws k ∧ ∀ H', Same' H H' → Q (.bl (hits ws k figs)) H'
def spTakeNum (C CT : Addr) : Sp := fun vs H Q E => ∃ (a : Addr) (ws : List Str) (k : Nat), vs = [.ref a, .int 0, .int 3] ∧ WAt C H a ws k ∧
  (∀ v : Nat, v < 4 → ws[k]? = some (fig v) → ∀ H', Keep1 a H H' → WAt C H' a ws (k + 1) → Q (.int (v : Int)) H') ∧ ((∀ z, ws[k]? = some z → z ∉ figs) → TellA E CT a H (k : Int))
theorem figs_at : ∀ i, i < 4 → figs[i]? = some (fig i) := by decide +kernel
theorem fig_int : ∀ i, i < 4 → PySem.intText? (fig i) = some (i : Int) ∧ (fig i).length ≤ 640 := by decide +kernel
section
variable {P : Program} {w : World} {K : PySem.W.Frag} {mg : Str → Option Value} {base : Heap} {C : Addr}
abbrev nSN : List Str := ["self", "least", "most", "number"]
theorem scSN : FnScope nSN ["self", "least", "most"] (defScope (sW 9)) := ⟨rfl, rfl, rfl, by decide +kernel, rfl, by decide +kernel, by decide +kernel⟩
theorem ok_seesN {f fS : Addr} {fd dS : FuncData} (F : Fun K "sees_number" "Words.sees_number" (sW 9) f fd) (T : Txt mg) (W : WCls K C) (S : MethK P w K mg base CX0 2 C "sees" fS dS ["self", "wanted"] (spSees C)) : FnOk P w K mg base CX0 3 f fd ["self", "least", "most"] (spSeesN C) := by
  refine F.ok scSN (fun vs H Q E h => ?_) (fun cdv A outer s H vs Q E hr h => ?_)
  · obtain ⟨a, ws, k, rfl, _⟩ := h
    rfl
  · obtain ⟨a, ws, k, rfl, wa, q⟩ := h
    refine ⟨_, pss_one (ps_ret (pe_callB (cr_any rfl) (by rfl) T.any (by decide +kernel) (pa_cons (pe_lc (own := [("number", 3)]) (g := gName 3) (tt := tYes) rfl scSN.nd (pi_range2 (by rfl) T.range (pa_cons (pv 1) (pa_cons (pe_op op_add (pv 2) pe_int) pa_nil))) (blkOk_by (N := nSN) (sc := defScope (sW 9)) (by decide +kernel)) (fun _ _ _ _ _ => pg_name (i := 3) scSN.nd rfl (Or.inl rfl)) (fun _ _ _ _ _ => pts_nil)
            (fun s1 H1 C1 cl1 fp1 => pe_meth (X := (cxOf CX0 P w K mg base nSN "Words.sees_number" (defScope (sW 9)) f cdv A outer s H E).nox.blk s1 H1 _ (compEnvC _ cl1 C1 (cxOf CX0 P w K mg base nSN "Words.sees_number" (defScope (sW 9)) f cdv A outer s H E).nox.env) fp1) (pv 0) W.c S.m S.G hr S.b .nil pass0 (pa_cons (pe_callTy call_str_int (by rfl) T.str (by decide +kernel) (pa_cons (pv 3) pa_nil)) pa_nil))) pa_nil))), ?_⟩
    refine ⟨_, rfl, _, rfl, _, _, rfl, rfl, 0, 4, rfl, ⟨by decide, by decide, by decide, by decide⟩, fun D hD => ?_⟩
    refine lc_it (walk_range (lo := 0) (n := 4)) (fun i H' => Same' H H' ∧ H' D = some (.lst ((figs.take i).map fun y => V.bl (decide (ws[k]? = some y))))) ⟨same_new hD, upd_same⟩ (fun _ _ _ _ => trivial) (fun i x H1 H2 hi hp hy => ?_) (fun H' hp => ?_)
    · obtain ⟨sm, ed⟩ := hp
      obtain ⟨rfl, rfl⟩ := hy
      have wa1 := wa.keep sm
      refine ⟨rfl, rd_m1 wa1 rfl (by decide +kernel) ⟨_, rfl, _, rfl, ?_, ?_⟩⟩
      · rw [Int.zero_add, Int.natAbs_natCast]
        exact Nat.lt_of_le_of_lt (Nat.log2_le_self _) (by omega)
      · refine ⟨a, ws, k, fig i, by rw [Int.zero_add]; rfl, wa1, _, ed, small1000 ?_, same_over hD sm, ?_⟩
        · rw [List.length_map, List.length_take]
          omega
        · rw [upd_same]
          show some (HO.lst ((figs.take i).map (fun y => V.bl (decide (ws[k]? = some y))) ++ [V.bl (decide (ws[k]? = some (fig i)))])) = _
          rw [List.take_add_one, figs_at i hi, List.map_append]
          rfl
    · obtain ⟨sm, ed⟩ := hp
      refine ⟨D, figs.map fun y => decide (ws[k]? = some y), rfl, SqL.of ?_, q _ sm⟩
      rw [ed, List.map_map]
      rfl
abbrev nTNu : List Str := ["self", "least", "most", "figures", "number"]
theorem scTNu : FnScope nTNu ["self", "least", "most"] (defScope (sW 10)) := ⟨rfl, rfl, rfl, by decide +kernel, rfl, by decide +kernel, by decide +kernel⟩
theorem ok_takeNum {f fK CT : Addr} {fd : FuncData} (F : Fun K "take_number" "Words.take_number" (sW 10) f fd) (T : Txt mg) (W : WCls K C) (bK : BMeth K C "take" fK) (GK : FnR P w K mg base (L2.CX P w) 5 fK (spTake C CT)) : FnOk P w K mg base (L2.CX P w) 6 f fd ["self", "least", "most"] (spTakeNum C CT) := by
  refine F.okX scTNu (fun vs H Q E h => ?_) (fun cdv A outer s H vs Q E hr h => ?_)
  · obtain ⟨a, ws, k, rfl, _⟩ := h
    rfl
  · obtain ⟨a, ws, k, rfl, wa, yes, no⟩ := h
    refine ⟨_, pss_cons (ps_setLc (i := 3) (own := [("number", 4)]) (g := gName 4) (tt := tYes) rfl scTNu.nd rfl rfl (sw_true rfl rfl rfl (by decide +kernel)) (pi_range2 (by rfl) T.range (pa_cons (pv 1) (pa_cons (pe_op op_add (pv 2) pe_int) pa_nil))) (blkOk_by (N := nTNu) (sc := defScope (sW 10)) (by decide +kernel)) (fun _ _ _ _ _ => pg_name (i := 4) scTNu.nd rfl (Or.inl rfl)) (fun _ _ _ _ _ => pts_nil)
            (fun s1 H1 C1 cl1 fp1 => pe_callTy call_str_int (by rfl) T.str (by decide +kernel) (pa_cons (pv 4) pa_nil)))
      (pss_one (ps_ret (pe_callTy call_int_str (by rfl) T.int (by decide +kernel) (pa_cons (pe_methSL (pv 0) W.c bK GK hr (passes_call (takes_of rfl rfl rfl rfl) (fun _ _ _ _ h => h)) (pv 3)) pa_nil)))), ?_⟩
    refine ⟨_, rfl, _, rfl, _, _, rfl, rfl, 0, 4, rfl, ⟨by decide, by decide, by decide, by decide⟩, fun D hD => ?_⟩
    refine lc_it (walk_range (lo := 0) (n := 4)) (fun i H' => Same' H H' ∧ H' D = some (.lst ((figs.take i).map V.str))) ⟨same_new hD, upd_same⟩ (fun _ _ _ _ => trivial) (fun i x H1 H2 hi hp hy => ?_) (fun H' hp => ?_)
    · obtain ⟨sm, ed⟩ := hp
      obtain ⟨rfl, rfl⟩ := hy
      refine ⟨rfl, ⟨_, rfl, _, rfl, ?_, ?_⟩⟩
      · rw [Int.zero_add, Int.natAbs_natCast]
        exact Nat.lt_of_le_of_lt (Nat.log2_le_self _) (by omega)
      · refine ⟨_, ed, small1000 ?_, same_over hD sm, ?_⟩
        · rw [List.length_map, List.length_take]
          omega
        · rw [upd_same, Int.zero_add]
          show some (HO.lst ((figs.take i).map V.str ++ [V.str (fig i)])) = _
          rw [List.take_add_one, figs_at i hi, List.map_append]
          rfl
    · obtain ⟨sm, ed⟩ := hp
      have wa1 := wa.keep sm
      obtain ⟨dx, fs, h1, h2⟩ := wa1.look "take" (by decide +kernel)
      refine ⟨.ref a, rfl, a, dx, fs, rfl, h1, h2, fun q hq => ?_⟩
      have sq := same_new (o := .met fK a) hq
      have wa2 := wa1.keep sq
      refine ⟨.ref D, rfl, D, figs.map V.str, rfl, .inr (SqL.of (sq _ _ ed)), upd_same, ?_⟩
      have k2 : Keep1 a H _ := .of (sm.trans sq)
      refine ⟨a, ws, k, figs, rfl, by decide, wa2, fun z hz hm H3 k3 w3 => ?_, fun n => (no n).on k2⟩
      obtain ⟨v, hv, e⟩ : ∃ v : Nat, v < 4 ∧ z = fig v := by
        have m : z = fig 0 ∨ z = fig 1 ∨ z = fig 2 ∨ z = fig 3 := by simpa [figs] using hm
        rcases m with m | m | m | m
        · exact ⟨0, by decide, m⟩
        · exact ⟨1, by decide, m⟩
        · exact ⟨2, by decide, m⟩
        · exact ⟨3, by decide, m⟩
      subst e
      obtain ⟨i1, i2⟩ := fig_int v hv
      exact ⟨_, _, rfl, i1, i2, yes v hv hz H3 (Keep1.trans k2 k3) w3⟩
end
end My
namespace My
open PySem PySem.Spec PyProof.Rows L2
abbrev spc : Str := " "
def spInitW (K : PySem.W.Frag) (C CT : Addr) : Sp := fun vs H Q E => ∃ (a dx : Addr) (x : V), vs = [.ref a, x, .non] ∧ H a = some (.ins C dx []) ∧
  ((∃ (z : Str) (ws : List Str), x = .str z ∧ Txt.split z spc = ws ∧ z.length ≤ 100000 ∧ ws.length ≤ 900 ∧ (∀ y ∈ ws, y.length ≤ 1000) ∧ ∀ H', Keep1 a H H' → WAt C H' a ws 0 → Q .non H') ∨ (NoText K H x ∧ TellA E CT a H 0))
/-- what is laid of the pieces -/
structure Lay (C : Addr) (H : Hp) (a dx pl wl : Addr) (ws : List Str) (i : Nat) : Prop where
  o : H a = some (.ins C dx [("pieces", .ref pl), ("at", .int 0), ("many", .int (ws.length : Int))])
  l : H wl = some (.lst (ws.map V.str))
  p : ∃ as : List Addr, H pl = some (.lst (as.map V.ref)) ∧ as.length = i ∧ ∀ (j : Nat) (p : Addr), as[j]? = some p → ∃ z, ws[j]? = some z ∧ H p = some (.tup [.str z, .int (j : Int)])
section
variable {P : Program} {w : World} {K : PySem.W.Frag} {mg : Str → Option Value} {base : Heap} {C : Addr}
abbrev nIW : List Str := ["self", "text", "sign", "words", "index", "word"]
theorem scIW : FnScope nIW ["self", "text", "sign"] (defScope (sW 0)) := ⟨rfl, rfl, rfl, by decide +kernel, rfl, by decide +kernel, by decide +kernel⟩
theorem ok_initW {f fI CT : Addr} {fd dI : FuncData} (F : FunD K "__init__" "Words.__init__" (defArgs (sW 0)) (defBody (sW 0)) (defScope (sW 0)) [.non] [] f fd) (T : Txt mg) (W : WCls K C) (ET : ErrT K mg CT fI) (bI : Binds K dI ["self", "line", "word"] []) (GI : FnOk P w K mg base CX0 2 fI dI ["self", "line", "word"] (spIniT CT)) :
    FnOk P w K mg base (L2.CX P w) 4 f fd ["self", "text", "sign"] (spInitW K C CT) := by
  refine F.ok scIW (fun vs H Q E h => ?_) (fun cdv A outer s H vs Q E hr h => ?_)
  · obtain ⟨a, dx, x, rfl, _⟩ := h
    rfl
  · obtain ⟨a, dx, x, rfl, ha, h⟩ := h
    refine ⟨_, pss_cons (ps_if (pt_not (pt_val (pe_callB call_isi (by rfl) T.isi (by decide +kernel) (pa_cons (pv 1) (pa_cons (pe_bltn (by rfl) T.str (by decide +kernel) (show RelV (.ty "str") _ from rfl)) pa_nil)))))
        (pss_one (ps_raise rfl (takes_of rfl rfl rfl rfl) (pmk_oex ET.ox ET.ini ET.ty GI hr bI .nil pass0 (by rfl) ET.g (pa_cons pe_int (pa_cons pe_int pa_nil))))) pss_nil)
      (pss_cons (ps_set (i := 3) scIW.nd rfl (.inl rfl) (pe_split (pv 1) pe_str))
      (pss_cons (ps_fld (pv 0) (pe_lst pa_nil) (by rfl))
      (pss_cons (ps_fld (pv 0) pe_int (by rfl))
      (pss_cons (ps_fld (pv 0) (pe_callB call_len_seq (by rfl) T.len PySem.boot_len (pa_cons (pv 3) pa_nil)) (by rfl))
      (pss_one (ps_for (passes_of rfl) rfl (pi_enum (by rfl) T.enum (pa_cons (pv 3) pa_nil)) (pg_tup (n := 2) rfl (pgs_cons (pg_name (i := 4) scIW.nd rfl (.inl rfl)) (pgs_cons (pg_name (i := 5) scIW.nd rfl (.inl rfl)) pgs_nil)))
        (pss_one (ps_if (PW.pt (pw_and (pt_cmp (pc_notN (pv 2))) (pw_and1 (pt_val pe_never)))) (pss_cons ps_never (pss_one ps_never))
          (pss_one (ps_expr (pe_bm PySem.F.plainAttrs_list PySem.F.slot_list_append PySem.F.type_list_append mt_append (pe_fld (pv 0) (by rfl)) (pa_cons (pe_tup (pa_cons (pv 5) (pa_cons (pv 4) pa_nil))) pa_nil)))))))))))), ?_⟩
    refine ⟨x, rfl, ?_⟩
    rcases h with ⟨z, ws, rfl, hw, zl, wl', wlen, q⟩ | ⟨⟨S, ty, kt⟩, told⟩
    · refine ⟨.str z, .ty "str", .type "str", .type "str", true, rfl, .ty "str", .base (.str z), kit_ty (by decide +kernel), true, rfl, iteF ?_⟩
      refine ⟨.str z, rfl, ⟨z, rfl⟩, z, spc, rfl, rfl, by decide +kernel, by rw [sizeLine_eq]; omega, fun wl hwl => ?_⟩
      rw [hw]
      have s1 := same_new (o := .lst (ws.map V.str)) hwl
      refine ⟨Nat.zero_le _, fun pl hpl => ?_⟩
      have s2 := s1.trans (same_new (o := .lst []) hpl)
      have npa : pl ≠ a := (ne_of_none (s1 _ _ ha) hpl).symm
      have nwa : wl ≠ a := (ne_of_none ha hwl).symm
      have nwp : wl ≠ pl := ne_of_none upd_same hpl
      refine ⟨.ref a, rfl, a, C, dx, [], rfl, s2 _ _ ha, W.c, W.np, by decide, ?_⟩
      refine ⟨.ref a, rfl, a, C, dx, [("pieces", .ref pl)], rfl, upd_same, W.c, W.na, by show 1 < 1000; decide, ?_⟩
      obtain ⟨H3, e3⟩ : ∃ H3 : Hp, upd (upd (upd (upd H wl (.lst (ws.map V.str))) pl (.lst [])) a (.ins C dx (putF "pieces" (.ref pl) []))) a (.ins C dx (putF "at" (.int 0) [("pieces", .ref pl)])) = H3 := ⟨_, rfl⟩
      have k3 : Keep1 a (upd (upd H wl (.lst (ws.map V.str))) pl (.lst [])) H3 := fun b o n e => by
        rw [← e3, upd_ne n, upd_ne n]
        exact e
      have a3 : H3 a = some (.ins C dx [("pieces", .ref pl), ("at", .int 0)]) := by
        rw [← e3, upd_same]
        rfl
      have w3 : H3 wl = some (.lst (ws.map V.str)) := k3 _ _ nwa (same_new hpl _ _ upd_same)
      have p3 : H3 pl = some (.lst []) := k3 _ _ npa upd_same
      rw [e3]
      refine ⟨.ref wl, rfl, wl, _, rfl, .inl (SqL.of w3), .ref a, rfl, a, C, dx, _, rfl, a3, W.c, W.nm, by show 2 < 1000; decide, ?_⟩
      obtain ⟨H4, e4⟩ : ∃ H4 : Hp, upd H3 a (.ins C dx (putF "many" (.int ((ws.map V.str).length : Int)) [("pieces", .ref pl), ("at", .int 0)])) = H4 := ⟨_, rfl⟩
      have k4 : Keep1 a H3 H4 := fun b o n e => by
        rw [← e4, upd_ne n]
        exact e
      have a4 : H4 a = some (.ins C dx [("pieces", .ref pl), ("at", .int 0), ("many", .int (ws.length : Int))]) := by
        rw [← e4, upd_same, List.length_map]
        rfl
      rw [e4]
      have w4 := k4 _ _ nwa w3
      have kk : Keep1 a H H4 := (Keep1.of s2).trans (k3.trans k4)
      refine ⟨.ref wl, rfl, wl, ws.map V.str, rfl, SqL.of w4, ?_⟩
      refine for_it (walk_enum (K := K) (a := wl) (xs := ws.map V.str)) (fun i σ H' => Lay C H' a dx pl wl ws i ∧ Keep1 a H H' ∧ ∃ z4 z5, σ = [some (.ref a), some (.str z), some .non, some (.ref wl), z4, z5]) ⟨⟨a4, w4, [], k4 _ _ npa p3, rfl, fun j p e => by simp at e⟩, kk, none, none, rfl⟩ (fun i σ H' _ hp => SqL.of hp.1.l) (fun i x σ H5 H6 hi hp hy => ?_) (fun σ H' hp => ?_)
      · obtain ⟨L, kp, z4, z5, rfl⟩ := hp
        obtain ⟨tt, v1, v2, rfl, htt, rfl, e1, e2⟩ := hy
        injection e1 with e1
        subst e1
        rw [List.length_map] at hi
        have e2' : (ws.map V.str)[i]? = some v2 := e2
        rw [List.getElem?_map, List.getElem?_eq_getElem hi] at e2'
        injection e2' with e2'
        subst e2'
        have st := same_new (o := .tup [V.int (i : Int), .str ws[i]]) htt
        refine ⟨tt, _, rfl, SqT.of upd_same, rfl, _, _, rfl, _, _, rfl, rfl, ?_⟩
        obtain ⟨H6, e6⟩ : ∃ H6 : Hp, upd H5 tt (.tup [V.int (i : Int), .str ws[i]]) = H6 := ⟨_, rfl⟩
        rw [e6] at st ⊢
        obtain ⟨as, h1, h2, h3⟩ := L.p
        refine ⟨.non, rfl, _, rfl, iteF (iteF ?_)⟩
        refine ⟨.ref a, rfl, a, C, dx, _, .ref pl, rfl, st _ _ L.o, W.c, W.np, rfl, .inl ⟨rfl, _, SqL.of (st _ _ h1)⟩, _, rfl, _, rfl, by show 2 ≤ sizeLine; decide, fun tq htq => ?_⟩
        have sq := same_new (o := .tup [V.str ws[i], .int (i : Int)]) htq
        have hpl7 := sq _ _ (st _ _ h1)
        refine ⟨pl, _, .ref tq, rfl, rfl, hpl7, small1000 (by rw [List.length_map]; omega), ?_⟩
        have ka : ∀ b o, b ≠ pl → H5 b = some o → (upd (upd H6 tq (.tup [V.str ws[i], .int (i : Int)])) pl (.lst (as.map V.ref ++ [.ref tq]))) b = some o := fun b o n e => by
          rw [upd_ne n]
          exact sq _ _ (st _ _ e)
        have ntq : tq ≠ pl := (ne_of_none (st _ _ h1) htq).symm
        refine ⟨⟨ka _ _ npa.symm L.o, ka _ _ nwp L.l, as ++ [tq], ?_, ?_, fun j p e => ?_⟩, fun b o n e => ?_, _, _, rfl⟩
        · rw [upd_same, List.map_append]
          rfl
        · rw [List.length_append, h2]
          rfl
        · by_cases hj : j < as.length
          · rw [List.getElem?_append_left hj] at e
            obtain ⟨y, y1, y2⟩ := h3 j p e
            refine ⟨y, y1, ka _ _ (fun z => ?_) y2⟩
            rw [z, h1] at y2
            cases y2
          · rw [List.getElem?_append_right (by omega)] at e
            have ej : j = as.length := by
              cases hjj : j - as.length with
              | zero => omega
              | succ m => rw [hjj] at e; cases e
            subst ej
            rw [Nat.sub_self] at e
            injection e with e
            subst e
            rw [h2]
            refine ⟨ws[i], List.getElem?_eq_getElem hi, ?_⟩
            rw [upd_ne ntq, upd_same]
        · have nb : b ≠ pl := ne_of_none (s1 _ _ e) hpl
          exact ka _ _ nb (kp _ _ n e)
      · obtain ⟨L, kp, z4, z5, rfl⟩ := hp
        rw [List.length_map] at L
        obtain ⟨as, h1, h2, h3⟩ := L.p
        exact q _ kp ⟨⟨dx, pl, as, L.o, h1, h2, h3⟩, Nat.zero_le _, wl', wlen⟩
    · refine ⟨x, .ty "str", .type S, .type "str", false, rfl, .ty "str", ty, kit_ty kt, false, rfl, iteT ⟨by show 2 ≤ 1000; decide, ?_⟩⟩
      exact raisedT told.t
end
end My
namespace My
open PySem PySem.Spec PyProof.Rows L2
/-- a list, a tuple, a dict -/
def Pl : HO → Prop
  | .lst _ => True
  | .tup _ => True
  | .dK _ => True
  | _ => False
theorem Th.pl {H H' : Hp} {x : V} {d : PyData} (h : Th H x d) (k : ∀ b o, Pl o → H b = some o → H' b = some o) : Th H' x d := by
  cases h with
  | flat f => exact .flat f
  | lst h r n => exact .lst (k _ _ True.intro h) r n
  | tup h r n => exact .tup (k _ _ True.intro h) r n
  | dct h => exact .dct (k _ _ True.intro h)
theorem kd_pl {H H' : Hp} (k : ∀ b o, Pl o → H b = some o → H' b = some o) : ∀ {kvs : List (Key × V)} {dvs : List (PyData × PyData)}, KD H kvs dvs → KD H' kvs dvs
  | _, _, .nil => .nil
  | _, _, .cons ⟨e, h⟩ r => .cons ⟨e, ⟨h.th.pl k, h.no⟩⟩ (kd_pl k r)
theorem Tw.pl {H H' : Hp} {x : V} {d : PyData} (h : Tw H x d) (k : ∀ b o, Pl o → H b = some o → H' b = some o) : Tw H' x d := by
  cases h with
  | th h => exact .th (h.pl k)
  | dc h e n u => exact .dc (k _ _ True.intro h) (kd_pl k e) n u
theorem pl_ne {H : Hp} {a b : Addr} {C dx : Addr} {fs : List (Str × V)} {o : HO} (ha : H a = some (.ins C dx fs)) (p : Pl o) (h : H b = some o) : b ≠ a := fun z => by
  rw [z, ha] at h
  injection h with h
  rw [← h] at p
  exact p
theorem pl_upd {H : Hp} {a : Addr} {C dx : Addr} {fs : List (Str × V)} {u : HO} (ha : H a = some (.ins C dx fs)) : ∀ b o, Pl o → H b = some o → (upd H a u) b = some o := fun b o p e => by
  rw [upd_ne (pl_ne ha p e)]
  exact e
abbrev Fs (H : Hp) : List (Str × V) → List (Str × PyData) → Prop := Paired fun p q => p.1 = q.1 ∧ Tw H p.2 q.2
theorem fs_keep {H H' : Hp} (k : Same' H H') : ∀ {fs : List (Str × V)} {ds : List (Str × PyData)}, Fs H fs ds → Fs H' fs ds
  | _, _, .nil => .nil
  | _, _, .cons ⟨e, h⟩ r => .cons ⟨e, h.keep k⟩ (fs_keep k r)
theorem fs_look {H : Hp} {f : Str} {d : PyData} : ∀ {fs : List (Str × V)} {ds : List (Str × PyData)}, Fs H fs ds → ds.lookup f = some d → ∃ v, fs.lookup f = some v ∧ Tw H v d
  | _, _, .nil, h => by cases h
  | (a, v) :: fs, (b, e) :: ds, .cons ⟨e1, t⟩ r, h => by
    have e1' : a = b := e1
    subst e1'
    unfold List.lookup at h ⊢
    split at h
    · rename_i z
      injection h with h
      exact ⟨v, rfl, h ▸ t⟩
    · exact fs_look r h
/-- an event of the class C: its fields -/
def Ev (C : Addr) (H : Hp) (a : Addr) (ds : List (Str × PyData)) : Prop := ∃ dx fs, H a = some (.ins C dx fs) ∧ Fs H fs ds
theorem Ev.keep {C : Addr} {H H' : Hp} {a : Addr} {ds : List (Str × PyData)} (h : Ev C H a ds) (k : Same' H H') : Ev C H' a ds := by
  obtain ⟨dx, fs, e, l⟩ := h
  exact ⟨dx, fs, k _ _ e, fs_keep k l⟩
abbrev d3 (dn dc dl : PyData) : List (Str × PyData) := [("failed", dn), ("cells", dc), ("logs", dl)]
def spI3 (C : Addr) : Sp := fun vs H Q _ => ∃ (a dx : Addr) (n c l : V) (dn dc dl : PyData), vs = [.ref a, n, c, l] ∧ H a = some (.ins C dx []) ∧ Tw H n dn ∧ Tw H c dc ∧ Tw H l dl ∧ ∀ H', Keep1 a H H' → Ev C H' a (d3 dn dc dl) → Q .non H'
abbrev noX : XK := fun _ _ _ => False
/-- what a new event is made by -/
abbrev asI (sp : Sp) (C : Addr) (vs : List V) (H : Hp) (Q : VK) : Prop := ∀ x dx, H x = none → H dx = none → dx ≠ x → sp (.ref x :: vs) (upd (upd H dx (.own x)) x (.ins C dx [])) (fun v H2 => v = .non ∧ Q (.ref x) H2) noX
theorem made_same {H : Hp} {x dx : Addr} {u w : HO} (hx : H x = none) (hd : H dx = none) : Same' H (upd (upd H dx u) x w) := fun b o e => by
  rw [upd_ne (ne_of_none e hx), upd_ne (ne_of_none e hd)]
  exact e
theorem as3 {C : Addr} {n c l : V} {dn dc dl : PyData} {H : Hp} {Q : VK} (tn : Tw H n dn) (tc : Tw H c dc) (tl : Tw H l dl) (q : ∀ a H', Same' H H' → Ev C H' a (d3 dn dc dl) → Q (.ref a) H') : asI (spI3 C) C [n, c, l] H Q := fun x dx hx hd ne =>
  ⟨x, dx, n, c, l, dn, dc, dl, rfl, upd_same, tn.keep (made_same hx hd), tc.keep (made_same hx hd), tl.keep (made_same hx hd), fun H' k e => ⟨rfl, q x H' (fun b o z => k b o (ne_of_none z hx) (made_same hx hd b o z)) e⟩⟩
/-- an event class as the top has made it -/
structure EvC (K : PySem.W.Frag) (C : Addr) : Prop where
  c : Cls K C
  na : NoAttr K C "failed"
  nc : NoAttr K C "cells"
  nl : NoAttr K C "logs"
section
variable {P : Program} {w : World} {K : PySem.W.Frag} {mg : Str → Option Value} {base : Heap}
theorem ini3_read {C : Addr} (EC : EvC K C) {vs : List V} {H : Hp} {Q : VK} {E E1 E2 E3 : XK} {N : List Str} (h : spI3 C vs H Q E) (hN : N.length = 4) :
    tSeq (sFld K (tVar 0) (tCall spCopied [] E1 (tCons (tVar 1) tNil)) "failed") (tSeq (sFld K (tVar 0) (tCall spCopied [] E2 (tCons (tVar 2) tNil)) "cells") (sFld K (tVar 0) (tCall spCopied [] E3 (tCons (tVar 3) tNil)) "logs")) { nx := fun _ H' => Q .non H', rt := Q } (start N vs) H := by
  obtain ⟨n0, n1, n2, n3, rfl⟩ : ∃ a b c d, N = [a, b, c, d] := match N, hN with | [a, b, c, d], _ => ⟨a, b, c, d, rfl⟩
  obtain ⟨a, dx, n, c, l, dn, dc, dl, rfl, ha, tn, tc, tl, q⟩ := h
  refine ⟨n, rfl, n, dn, rfl, tn, fun m1 H0 s0 t0 => ⟨.ref a, rfl, a, C, dx, [], rfl, s0 _ _ ha, EC.c, EC.na, by decide, ?_⟩⟩
  have k0 := pl_upd (u := .ins C dx [("failed", m1)]) (s0 _ _ ha)
  refine ⟨c, rfl, c, dc, rfl, (tc.keep s0).pl k0, fun c1 H1 s1 t1 => ⟨.ref a, rfl, a, C, dx, [("failed", m1)], rfl, s1 _ _ upd_same, EC.c, EC.nc, by show 1 < 1000; decide, ?_⟩⟩
  have a1 : H1 a = some (.ins C dx [("failed", m1)]) := s1 _ _ upd_same
  have k1 := pl_upd (u := .ins C dx [("failed", m1), ("cells", c1)]) a1
  refine ⟨l, rfl, l, dl, rfl, (((tl.keep s0).pl k0).keep s1).pl k1, fun l1 H2 s2 t2 => ⟨.ref a, rfl, a, C, dx, [("failed", m1), ("cells", c1)], rfl, s2 _ _ upd_same, EC.c, EC.nl, by show 2 < 1000; decide, ?_⟩⟩
  have a2 : H2 a = some (.ins C dx [("failed", m1), ("cells", c1)]) := s2 _ _ upd_same
  have k2 := pl_upd (u := .ins C dx [("failed", m1), ("cells", c1), ("logs", l1)]) a2
  refine q _ (fun b o n e => ?_) ⟨dx, _, upd_same, .cons ⟨rfl, ((((t0.pl k0).keep s1).pl k1).keep s2).pl k2⟩ (.cons ⟨rfl, ((t1.pl k1).keep s2).pl k2⟩ (.cons ⟨rfl, t2.pl k2⟩ .nil))⟩
  rw [upd_ne n]
  refine s2 _ _ ?_
  rw [upd_ne n]
  refine s1 _ _ ?_
  rw [upd_ne n]
  exact s0 _ _ e
abbrev sI_End : Stmt := inClass (topS 16) 0
theorem scI_End : FnScope ["self", "failed", "cells", "logs"] ["self", "failed", "cells", "logs"] (defScope sI_End) := ⟨rfl, rfl, rfl, by decide +kernel, rfl, by decide +kernel, by decide +kernel⟩
theorem okI_End {f fC C : Addr} {fd fdC : FuncData} (F : Fun K "__init__" "End.__init__" sI_End f fd) (EC : EvC K C) (FC : Fun K "copied" "copied" sCopied fC fdC) (b : Binds K fdC ["value"] []) (g : mg "copied" = some (.ref fC)) (G : FnOk P w K mg base CX0 3 fC fdC ["value"] spCopied) :
    FnOk P w K mg base CX0 4 f fd ["self", "failed", "cells", "logs"] (spI3 C) := by
  refine F.ok scI_End (fun vs H Q E h => ?_) (fun cdv A outer s H vs Q E hr h => ?_)
  · obtain ⟨a, dx, n, c, l, dn, dc, dl, rfl, _⟩ := h
    rfl
  · exact ⟨_, pss_cons (ps_fld (pv 0) (pe_call G hr (by rfl) g FC.kp b .nil pass0 (pa_cons (pv 1) pa_nil)) (by rfl)) (pss_cons (ps_fld (pv 0) (pe_call G hr (by rfl) g FC.kp b .nil pass0 (pa_cons (pv 2) pa_nil)) (by rfl)) (pss_one (ps_fld (pv 0) (pe_call G hr (by rfl) g FC.kp b .nil pass0 (pa_cons (pv 3) pa_nil)) (by rfl)))), ini3_read EC h rfl⟩
end
theorem tw_dict {H : Hp} {x : V} {dvs : List (PyData × PyData)} (h : Tw H x (.dict dvs)) : ∃ a kvs, x = .ref a ∧ H a = some (.dK kvs) ∧ KD H kvs dvs := by
  cases h with
  | th h =>
    cases h with
    | flat f => cases f
    | dct h => exact ⟨_, [], rfl, h, .nil⟩
  | dc h k n u => exact ⟨_, _, rfl, h, k⟩
theorem tw_plain {H : Hp} {x : V} {d : PyData} (h : Tw H x d) (n : isD d = false) : Tn H x d := by
  cases h with
  | th h => exact ⟨h, n⟩
  | dc h k m u => cases n
theorem tn_dp {K : PySem.W.Frag} {H : Hp} {x : V} {d : PyData} (h : Tn H x d) : Dp K H x d := by
  have n := h.no
  cases h.th with
  | flat f => exact fl_dp f
  | lst e k m => exact .lst (SqL.of e) (fls_dp k)
  | tup e k m => exact .tup (SqT.of e) (fls_dp k)
  | dct e => cases n
section
variable {X : Cx} {pins : List (Addr × Obj)} {σ : L2.St} {H : Hp} {s : Shared}
theorem eqP_of (I : Inv X pins σ H s) {A : Around} {x y : V} {d e : PyData} {v u : Value} (hx : Tn H x d) (hy : Tn H y e) (rx : RelV x v) (ry : RelV y u) (sd : SeqAt.shaped d = true) (se : SeqAt.shaped e = true) (hu : A.units + 64 < cLine) :
    SeqAt.EqP X.prog X.w A s v u (PyData.eqv d e) := by
  obtain ⟨as, r1⟩ := Dp.reads I d x v (tn_dp (K := X.K) hx) rx
  obtain ⟨bs, r2⟩ := Dp.reads I e y u (tn_dp (K := X.K) hy) ry
  exact fun E Q q => SeqAt.eqBoolOverData X.prog X.w A E s v u d e as bs Q r1 r2 (SeqAt.canLay_of_shaped sd) (SeqAt.canLay_of_shaped se) (SeqAt.room_of_shaped sd hu) q
end
/-- the same value, without dicts -/
def SamN (H : Hp) (x y : V) : Prop := ∃ d, Tn H x d ∧ Tn H y d ∧ SeqAt.shaped d = true ∧ PyData.eqv d d = true
/-- the same value -/
inductive SamV (H : Hp) : V → V → Prop
  | n {x y : V} (h : SamN H x y) : SamV H x y
  | d {a b : Addr} {kvs lvs : List (Key × V)} (ha : H a = some (.dK kvs)) (hb : H b = some (.dK lvs)) (l : kvs.length = lvs.length) (h : ∀ p ∈ kvs, ∃ u, valV lvs p.1 = some u ∧ SamN H p.2 u) : SamV H (.ref a) (.ref b)
def rEqSam : R2 := fun x y H Q => SamV H x y ∧ Q (.bl true) H
theorem op_eqSam {X : Cx} (hu : X.A.units + 70 < cLine) : OpR X (compareOp .Eq) rEqSam := by
  intro pins s σ H x y v u Q I rx ry h
  obtain ⟨sv, q⟩ := h
  cases sv with
  | n h =>
    obtain ⟨d, tx, ty, sd, e⟩ := h
    exact op_eqD (X := X) (by omega) pins s σ H x y v u Q I rx ry ⟨d, d, tn_dp tx, tn_dp ty, sd, sd, by rw [e]; exact q⟩
  | @d a b kvs lvs ha hb l h =>
    cases rx
    cases ry
    obtain ⟨_, na, va, ra, da⟩ := dk_of I.hok ha
    obtain ⟨_, nb, vb, rb, db⟩ := dk_of I.hok hb
    have hu1 : X.A.in1.units + 64 < cLine := by
      show X.A.units + 1 + 64 < cLine
      omega
    refine PySem.W.rcP_dicts na nb da db (by omega) (r := true) (fun _ => hits_run (F := SamN H) (fun x y v u f r1 r2 => ?_) rb ra h) _ _ ?_
    · obtain ⟨d, tx, ty, sd, e⟩ := f
      exact e ▸ eqP_of I tx ty r1 r2 sd sd hu1
    · rw [← ra.length, ← rb.length, l]
      simp only [beq_self_eq_true, Bool.and_true]
      exact ⟨.bl true, H, I, rfl, q⟩
end My
namespace My
open PySem PySem.Spec PyProof.Rows L2
theorem len_app (x y : Str) : (x ++ y).length = x.length + y.length := by
  show (x.cps ++ y.cps).size = x.cps.size + y.cps.size
  simp
theorem room70 {k : Nat} {A : Around} (r : Room k A) : A.units + 70 < cLine := by
  have := r.un
  omega
/-! ### an end, as data -/
structure EndD where
  f : Option Str
  cs : List (Str × Int)
  ls : List (Str × List Str)
def fD : Option Str → PyData
  | none => .none
  | some n => .str n
abbrev dvC (cs : List (Str × Int)) : List (PyData × PyData) := cs.map fun p => (PyData.str p.1, PyData.int p.2)
abbrev dvL (ls : List (Str × List Str)) : List (PyData × PyData) := ls.map fun p => (PyData.str p.1, PyData.tuple (p.2.map PyData.str))
abbrev dE (e : EndD) : List (Str × PyData) := d3 (fD e.f) (.dict (dvC e.cs)) (.dict (dvL e.ls))
def asc (l : List Str) : Prop := l.Pairwise fun a b => a.cps.toList < b.cps.toList
structure GoodE (e : EndD) : Prop where
  f : ∀ n, e.f = some n → nm n = true
  ca : asc (e.cs.map (·.1))
  cv : ∀ c ∈ e.cs, nm c.1 = true ∧ 0 ≤ c.2 ∧ c.2 < 4
  la : asc (e.ls.map (·.1))
  lv : ∀ l ∈ e.ls, nm l.1 = true ∧ ∀ z ∈ l.2, wd z = true
  cf : e.cs.length ≤ 40
  lf : e.ls.length ≤ 40
  wf : ∀ l ∈ e.ls, l.2.length ≤ 200
theorem asc_nodup {l : List Str} (h : asc l) : l.Nodup := h.imp fun {a b} h e => by
  subst e
  exact List.lt_irrefl _ h
theorem wd_ok {z : Str} (h : wd z = true) : PyData.strOk z = true ∧ 1 ≤ z.length ∧ z.length ≤ 8 ∧ ∀ c ∈ z.cps.toList, 97 ≤ c ∧ c ≤ 122 := by
  unfold wd at h
  simp only [Bool.and_eq_true, decide_eq_true_eq, List.all_eq_true] at h
  obtain ⟨⟨h1, h2⟩, h3⟩ := h
  have k : ∀ c ∈ z.cps.toList, 97 ≤ c ∧ c ≤ 122 := fun c hc => by
    have := h3 c hc
    unfold low at this
    simpa using this
  refine ⟨?_, h1, h2, k⟩
  unfold PyData.strOk
  rw [Array.all_eq_true']
  intro c hc
  have := k c (by simpa using hc)
  simp
  omega
theorem nm_wd {z : Str} (h : nm z = true) : wd z = true := by
  unfold nm at h
  rw [Bool.and_eq_true] at h
  exact h.1
def EndAt (C : Addr) (H : Hp) (a : Addr) (e : EndD) : Prop := Ev C H a (dE e)
theorem EndAt.keep {C : Addr} {H H' : Hp} {a : Addr} {e : EndD} (h : EndAt C H a e) (k : Same' H H') : EndAt C H' a e := Ev.keep h k
def SamE (C : Addr) : Addr → Addr → Hp → Prop := fun a b H => ∃ e, GoodE e ∧ EndAt C H a e ∧ EndAt C H b e
/-- the class End as the top has made it -/
structure EndC (K : PySem.W.Frag) (mg : Str → Option Value) (C : Addr) : Prop where
  ev : EvC K C
  g : mg "End" = some (.ref C)
  ha : PySem.W.findIn K (.ref C) "__class__" = some (some (.builtin "object.__class__"))
  hn : PySem.W.specialIn K (.builtin "object.__class__") "__get__" = some (some (.builtin "getset_descriptor.__get__"))
  ht : PySem.W.takesIn K (.builtin "object.__class__") = some true
  hm : PySem.W.mroIn K C (.type "object") = some true
  kit : PySem.W.kitOne K (.ref C) (.ref C) = some true
theorem tw_dictN {H : Hp} {x : V} {dvs : List (PyData × PyData)} (h : Tw H x (.dict dvs)) : ∃ a kvs, x = .ref a ∧ H a = some (.dK kvs) ∧ KD H kvs dvs ∧ (kvs.map (·.1)).Nodup := by
  cases h with
  | th h =>
    cases h with
    | flat f => cases f
    | dct h => exact ⟨_, [], rfl, h, .nil, List.nodup_nil⟩
  | dc h k n u => exact ⟨_, _, rfl, h, k, u⟩
theorem keyD_inj {k l : Key} (h : keyD k = keyD l) : k = l := by
  cases k <;> cases l <;> simp [keyD] at h <;> rw [h]
theorem samD {H : Hp} {x y : V} {dvs : List (PyData × PyData)} (hx : Tw H x (.dict dvs)) (hy : Tw H y (.dict dvs)) (ok : ∀ q ∈ dvs, SeqAt.shaped q.2 = true ∧ PyData.eqv q.2 q.2 = true) : SamV H x y := by
  obtain ⟨a, kvs, rfl, ha, ka, ua⟩ := tw_dictN hx
  obtain ⟨b, lvs, rfl, hb, kb, ub⟩ := tw_dictN hy
  have e : kvs.length = lvs.length := by rw [kd_len ka, kd_len kb]
  refine .d ha hb e fun p hp => ?_
  obtain ⟨i, hi, ei⟩ := List.mem_iff_getElem.mp hp
  obtain ⟨q, q1, q2, q3⟩ := kd_at ka (show kvs[i]? = some p by rw [List.getElem?_eq_getElem hi, ei])
  have hi' : i < lvs.length := by omega
  obtain ⟨q', q1', q2', q3'⟩ := kd_at kb (List.getElem?_eq_getElem hi')
  rw [q1] at q1'
  injection q1' with q1'
  subst q1'
  have ek : lvs[i].1 = p.1 := keyD_inj (q2'.trans q2.symm)
  have v := val_at (i := i) (k := lvs[i].1) (v := lvs[i].2) ub (List.getElem?_eq_getElem hi')
  rw [ek] at v
  obtain ⟨o1, o2⟩ := ok q (List.mem_of_getElem? q1)
  exact ⟨_, v, q.2, q3, q3', o1, o2⟩
theorem canLay_strs : ∀ zs : List Str, (∀ z ∈ zs, PyData.strOk z = true) → PyData.canLayAll0 (zs.map PyData.str) = true
  | [], _ => by simp [PyData.canLayAll0]
  | x :: r, h => by
    have := canLay_strs r fun z hz => h z (List.mem_cons_of_mem _ hz)
    simp [PyData.canLayAll0, PyData.canLay0] at this ⊢
    exact ⟨h x List.mem_cons_self, this⟩
theorem depth_strs : ∀ zs : List Str, PyData.depthAll (zs.map PyData.str) = 0
  | [] => by simp [PyData.depthAll]
  | x :: r => by
    have := depth_strs r
    simp [PyData.depthAll, PyData.depth, this]
theorem shaped_strs (zs : List Str) (h : ∀ z ∈ zs, PyData.strOk z = true) : SeqAt.shaped (.tuple (zs.map PyData.str)) = true := by
  have a := canLay_strs zs h
  have b := depth_strs zs
  simp [SeqAt.shaped, PyData.canLay0, PyData.depth, a, b]
theorem shapedL_strs (zs : List Str) (h : ∀ z ∈ zs, PyData.strOk z = true) : SeqAt.shaped (.list (zs.map PyData.str)) = true := by
  have a := canLay_strs zs h
  have b := depth_strs zs
  simp [SeqAt.shaped, PyData.canLay0, PyData.depth, a, b]
theorem shaped_str {z : Str} (h : PyData.strOk z = true) : SeqAt.shaped (.str z) = true := by simp [SeqAt.shaped, PyData.canLay0, PyData.depth, h]
theorem eqvAll_strs : ∀ zs : List Str, PyData.eqvAll (zs.map PyData.str) (zs.map PyData.str) = true
  | [] => by simp [PyData.eqvAll]
  | z :: r => by
    have := eqvAll_strs r
    simp [PyData.eqvAll, PyData.eqv, this]
theorem samE {H : Hp} {e : EndD} (G : GoodE e) {f : Str} {d : PyData} (hf : (dE e).lookup f = some d) {x y : V} (hx : Tw H x d) (hy : Tw H y d) : SamV H x y := by
  have cases3 : d = fD e.f ∨ d = .dict (dvC e.cs) ∨ d = .dict (dvL e.ls) := by
    unfold dE d3 at hf
    simp only [List.lookup] at hf
    split at hf
    · injection hf with hf; exact .inl hf.symm
    · split at hf
      · injection hf with hf; exact .inr (.inl hf.symm)
      · split at hf
        · injection hf with hf; exact .inr (.inr hf.symm)
        · cases hf
  rcases cases3 with rfl | rfl | rfl
  · have no : isD (fD e.f) = false := by cases e.f <;> rfl
    refine .n ⟨_, tw_plain hx no, tw_plain hy no, ?_, ?_⟩
    · cases h : e.f with
      | none => rfl
      | some n => exact shaped_str (wd_ok (nm_wd (G.f n h))).1
    · cases e.f <;> simp [fD, PyData.eqv]
  · refine samD hx hy fun q hq => ?_
    obtain ⟨c, hc, rfl⟩ := List.mem_map.mp hq
    exact ⟨by simp [SeqAt.shaped, PyData.canLay0, PyData.depth], by simp [PyData.eqv]⟩
  · refine samD hx hy fun q hq => ?_
    obtain ⟨c, hc, rfl⟩ := List.mem_map.mp hq
    have := eqvAll_strs c.2
    exact ⟨shaped_strs _ fun z hz => (wd_ok ((G.lv c hc).2 z hz)).1, by simp [PyData.eqv, this]⟩
section
variable {P : Program} {w : World} {K : PySem.W.Frag} {mg : Str → Option Value} {base : Heap} {C : Addr}
theorem rd_same {i k : Nat} {σ : L2.St} {H : Hp} {Q : VK} {a b : Addr} {e : EndD} {f : Str} {d : PyData} (N : EvC K C) (no : NoAttr K C f) (G : GoodE e) (hv : σ[i]? = some (some (.ref a))) (hw : σ[k]? = some (some (.ref b))) (ea : EndAt C H a e) (eb : EndAt C H b e) (hf : (dE e).lookup f = some d) (q : Q (.bl true) H) : tOp rEqSam (tFld K (tVar i) f) (tFld K (tVar k) f) σ H Q := by
  obtain ⟨dx, fs, e1, h⟩ := ea
  obtain ⟨v, lv, t⟩ := fs_look h hf
  obtain ⟨dx', fs', e1', h'⟩ := eb
  obtain ⟨u, lu, t'⟩ := fs_look h' hf
  exact ⟨_, hv, a, C, dx, fs, v, rfl, e1, N.c, no, lv, _, hw, b, C, dx', fs', u, rfl, e1', N.c, no, lu, samE G hf t t', q⟩
abbrev sE_End : Stmt := inClass (topS 16) 1
theorem okE_End {f : Addr} {fd : FuncData} (F : Fun K "__eq__" "End.__eq__" sE_End f fd) (T : Txt mg) (N : EndC K mg C) : FnOk P w K mg base CX0 1 f fd ["self", "other"] (L2.spEq (SamE C)) := by
  refine F.ok (N := ["self", "other"]) ⟨rfl, rfl, rfl, by decide +kernel, rfl, by decide +kernel, by decide +kernel⟩ (fun vs H Q E h => ?_) (fun cdv A outer s H vs Q E hr h => ?_)
  · obtain ⟨a, b, rfl, _⟩ := h
    rfl
  · obtain ⟨a, b, rfl, ⟨e, G, ea, eb⟩, q⟩ := h
    have hu : (cxOf CX0 P w K mg base ["self", "other"] "End.__eq__" (defScope sE_End) f cdv A outer s H E).nox.A.units + 70 < cLine := room70 hr
    refine ⟨_, pss_one (ps_ret (pe_and (pe_callB call_isi (by rfl) T.isi (by decide +kernel) (pa_cons (pv 1) (pa_cons (pe_glob (v := .ref C) rfl N.g rfl) pa_nil))) (pe_and (pe_cmpR (op_eqSam hu) (pe_fld (pv 0) (by rfl)) (pe_fld (pv 1) (by rfl)) (nomark _)) (pe_and (pe_cmpR (op_eqSam hu) (pe_fld (pv 0) (by rfl)) (pe_fld (pv 1) (by rfl)) (nomark _)) (pe_one (pe_cmpR (op_eqSam hu) (pe_fld (pv 0) (by rfl)) (pe_fld (pv 1) (by rfl)) (nomark _))))))), ?_⟩
    obtain ⟨dx, fs, hb, _⟩ := id eb
    refine ⟨.ref b, rfl, .ref b, .ref C, .ref C, .ref C, true, rfl, .own _, .base (.ins hb N.ev.c N.ha N.hn N.ht N.hm), N.kit, true, rfl, iteT ?_⟩
    refine rd_same N.ev N.ev.na G rfl rfl ea eb rfl ⟨true, rfl, iteT ?_⟩
    refine rd_same N.ev N.ev.nc G rfl rfl ea eb rfl ⟨true, rfl, iteT ?_⟩
    exact rd_same N.ev N.ev.nl G rfl rfl ea eb rfl (q H fun _ _ e => e)
end
end My
/-! sorted(d, key=str) of a dict whose keys are texts -/
namespace My
open PySem PySem.Spec PyProof.Rows L2
open PySem.W (dataLe EachIs keyH_tree keyH_turns AllAlike Sortable keyedOut_each alike)
/-- the keys in the order of texts -/
def sortT (ks : List Str) : List Str := ks.mergeSort (dataLe false PyData.str)
def IsT (v : Value) (x : Str) : Prop := ∃ t, v = Value.str x t
theorem eachT : ∀ {us : List Value} {ks : List Str}, StrsAre us ks → EachIs IsT us ks
  | _, _, .nil => .nil
  | _, _, .cons x t r => .cons ⟨t, rfl⟩ (eachT r)
theorem valsT : ∀ {us : List Value} {ks : List Str}, EachIs IsT us ks → Vals (ks.map V.str) us
  | _, _, .nil => .nil
  | _, _, .cons ⟨t, e⟩ r => .cons ⟨t, e⟩ (valsT r)
section
variable {X : Cx}
theorem cr_sortedDK (hcalm : X.calm = true) (hu : X.A.units + 66 < cLine) : CallRK X (.builtin "sorted") [Str.ofString "key"] (fun xs zs H Q => ∃ (a : Addr) (kvs : List (Key × V)) (ks : List Str), xs = [.ref a] ∧ zs = [.ty "str"] ∧ Rd H a (.dK kvs) ∧ kvs.map (·.1) = ks.map Sum.inr ∧ ks.length < 64 ∧
    ∀ p, H p = none → Q (.ref p) (upd H p (.lst ((sortT ks).map V.str)))) := by
  intro pins s σ H xs zs us ws Q I r rz q
  obtain ⟨a, kvs, ks, ex, ez, hd, hks, h64, q⟩ := q
  subst ex
  subst ez
  obtain ⟨u, eu, rx⟩ := vals1 r
  subst eu
  cases rx
  obtain ⟨w1, rfl, e1⟩ := vals1 rz
  obtain rfl : w1 = Value.type "str" := e1
  obtain ⟨z, lo, vs, rel, dd⟩ := dk_rd I.hok hd
  obtain ⟨ep, hat⟩ := dd.dictAt
  have hkeys : vs.map (·.1) = ks.map Sum.inr := rel.keys.symm.trans hks
  have hl : vs.length = ks.length := by
    have e := congrArg List.length hkeys
    rw [List.length_map, List.length_map] at e
    exact e
  have h16 : vs.length ≤ sizeLine := by rw [hl, sizeLine_eq]; omega
  show wpAny _ _ (call (.builtin "sorted") [.ref a] [(Str.ofString "key", Value.type "str")]) _ _ _
  refine PyProof.Rows.call_function_entry_kw PyProof.Rows.kind_sorted PyProof.Rows.plain_sorted PyProof.Rows.entry_sorted (PyProof.Rows.ksk_s1 _ _) ?_
  unfold Builtin.«sorted»
  refine wpAny_bind (m := checkCount "sorted" 1 1 _) (wpAny_pure ?_)
  refine wpAny_bind (PySem.W.kdu_collect (A := X.A.in1) (PySem.W.kdl_dict (knd := mixKind X.prog X.w) (kvs := vs) (ep := ep) lo) (I.ok.hd hcalm) hat h16 fun h' tk acc hk hacc => ?_)
  have hal : acc.toList.length = ks.length := by rw [Array.length_toList, hacc.1, hl]
  have hS : StrsAre acc.toList ks := strs_at hal fun j v e => by
    obtain ⟨k, x, e1, e2⟩ := hacc.2 j v (by rw [← Array.getElem?_toList]; exact e)
    have e3 : (vs.map (·.1))[j]? = some k := by rw [List.getElem?_map, e1]; all_goals rfl
    rw [hkeys, List.getElem?_map] at e3
    cases e4 : ks[j]? with
    | none => rw [e4] at e3; cases e3
    | some y =>
      rw [e4] at e3
      have e5 : Sum.inr y = k := Option.some.inj e3
      subst e5
      obtain ⟨t, ev⟩ := Value.isStrOf_shape (x := y) (v := v) e2
      exact ⟨y, t, rfl, ev⟩
  have I1 : Inv X pins σ H { s with heap := h', toks := tk } := I.kept hk
  refine wpAny_bind (wpAny_newList ?_ (by rw [hal, sizeLine_eq]; omega))
  have hoL : (h'.push (seqObj "list" acc.toList.toArray 0)).get? h'.objs.size = some (seqObj "list" acc.toList.toArray 0) := Heap.get?_push_size _ rfl
  show wpAny _ _ _ _ _ { s with heap := h'.push (seqObj "list" acc.toList.toArray 0), toks := tk }
  refine wpAny_bind (wpAny_holding (wpAny_call_entry_kw PyProof.Rows.slot_list_sort ⟨_, hoL, rfl⟩ PyProof.Rows.entry_list_sort ?body (PyProof.Rows.ksk_l1 _ _)))
  case body =>
    show wpAny (model X.prog X.w) X.A.in1.in1 (ksk_tree h'.objs.size (.type "str") false) _ _ { s with heap := h'.push (seqObj "list" acc.toList.toArray 0), toks := tk }
    refine keyH_tree (kz := ks.map PyData.str) (s := { s with heap := h'.push (seqObj "list" acc.toList.toArray 0), toks := tk }) hoL (by rw [List.length_map, hal]) (by rw [hal, sizeLine_eq]; omega) (PySem.W.AllAlike.of fun _ _ => by simp [alike]) (PySem.W.Sortable.others fun _ => ⟨by simp, by simp⟩) (fun d hd => ?_)
      (keyH_turns (s := { s with heap := h'.push (seqObj "list" acc.toList.toArray 0), toks := tk }) (k := PyData.str) (eachT hS) fun v x hR hx h tk2 kp => ?_) fun h2 tk2 out c kb hD ko => ⟨_, rfl, ?_⟩
    · obtain ⟨x, _, rfl⟩ := List.mem_map.mp hd
      show X.A.units + 2 + _ < _
      simp [PyData.depth]
      omega
    · obtain ⟨t, rfl⟩ := hR
      exact PySem.P.str_of_str ⟨h, tk2, rfl, fun _ _ e => e, .str x t⟩
    have eo : EachIs IsT out (sortT ks) := keyedOut_each PyData.str ko (eachT hS)
    have rv := valsT eo
    have hlen : ((sortT ks).map V.str).length ≤ sizeLine := by
      rw [List.length_map, sortT, List.length_mergeSort, sizeLine_eq]
      omega
    refine wpAny_pure ⟨_, rfl, .ref h'.objs.size, upd H h'.objs.size (.lst ((sortT ks).map V.str)), I1.laid (t' := tk2) (fun b u e => ?_) (Nat.le_refl _)
      (show ObjOk X.prog X.w _ _ _ (.lst ((sortT ks).map V.str)) from ⟨hlen, out, c, rv, hD⟩), rfl, q _ (I1.hok.fresh (Nat.le_refl _))⟩
    exact kb b u (Nat.ne_of_lt (Heap.lt_size e)) (Heap.get?_push_of_some _ e)
end
end My
namespace My
open PySem PySem.Spec PyProof.Rows L2
/-- words of a log, told -/
def logT (zs : List Str) : Str := if (((Txt.join " " zs).length : Int) != 0) = true then Txt.join " " zs else "-"
def Few (zs : List Str) : Prop := (zs.map (·.length)).sum + zs.length * (" " : Str).length ≤ 16777216 ∧ (Txt.join " " zs).length ≤ sizeLine
def spLog : Sp := fun vs H Q _ => ∃ (a : Addr) (zs : List Str), vs = [.ref a] ∧ H a = some (.tup (zs.map V.str)) ∧ Few zs ∧ Q (.str (logT zs)) H
section
variable {P : Program} {w : World} {K : PySem.W.Frag} {mg : Str → Option Value} {base : Heap}
theorem scLog : FnScope ["words"] ["words"] (defScope sLogText) := ⟨rfl, rfl, rfl, by decide +kernel, rfl, by decide +kernel, by decide +kernel⟩
theorem ok_log {f : Addr} {fd : FuncData} (F : Fun K "_log_text" "_log_text" sLogText f fd) : FnOk P w K mg base CX0 1 f fd ["words"] spLog := by
  refine F.ok scLog (fun vs H Q E h => ?_) (fun cdv A outer s H vs Q E hr h => ?_)
  · obtain ⟨a, zs, rfl, _⟩ := h
    rfl
  · obtain ⟨a, zs, rfl, ha, few, q⟩ := h
    refine ⟨_, pss_one (ps_ret (pe_orT (pe_join pe_str (pv 0)) (pe_one pe_str))), ?_⟩
    refine ⟨⟨_, rfl⟩, _, rfl, _, a, zs, rfl, rfl, .inr (SqT.of ha), few.1, _, ⟨few.2, rfl⟩, ?_⟩
    unfold logT at q
    by_cases e : (((Txt.join " " zs).length : Int) != 0) = true
    · rw [if_pos e] at q ⊢
      exact q
    · rw [if_neg e] at q ⊢
      exact q
end
end My
namespace My
open PySem PySem.Spec PyProof.Rows L2
/-- a cell, a log, told -/
def cT (p : Str × Int) : Str := ((Str.empty ++ p.1) ++ (" " : Str)) ++ ((toString p.2 : String) : Str)
def lT (p : Str × Addr × List Str) : Str := ((Str.empty ++ p.1) ++ (" " : Str)) ++ logT p.2.2
structure OkC (cs : List (Str × Int)) : Prop where
  srt : sortT (cs.map (·.1)) = cs.map (·.1)
  few : cs.length ≤ 60
  get : ∀ p ∈ cs, valV (cs.map fun p : Str × Int => ((.inr p.1 : Key), V.int p.2)) (.inr p.1) = some (.int p.2)
  len : ∀ p ∈ cs, p.1.length ≤ sizeLine ∧ (Str.empty ++ p.1).length ≤ sizeLine ∧ ((Str.empty ++ p.1) ++ (" " : Str)).length ≤ sizeLine ∧ (cT p).length ≤ sizeLine ∧ p.2.natAbs.log2 < 1920
structure OkL (ls : List (Str × Addr × List Str)) : Prop where
  srt : sortT (ls.map (·.1)) = ls.map (·.1)
  few : ls.length ≤ 60
  get : ∀ p ∈ ls, valV (ls.map fun p : Str × Addr × List Str => ((.inr p.1 : Key), V.ref p.2.1)) (.inr p.1) = some (.ref p.2.1)
  len : ∀ p ∈ ls, p.1.length ≤ sizeLine ∧ (Str.empty ++ p.1).length ≤ sizeLine ∧ ((Str.empty ++ p.1) ++ (" " : Str)).length ≤ sizeLine ∧ (lT p).length ≤ sizeLine ∧ (logT p.2.2).length ≤ sizeLine ∧ Few p.2.2
def spTold : Sp := fun vs H Q _ => ∃ (h : Str) (cA lA : Addr) (cs : List (Str × Int)) (ls : List (Str × Addr × List Str)), vs = [.str h, .ref cA, .ref lA] ∧ H cA = some (.dK (cs.map fun p : Str × Int => ((.inr p.1 : Key), V.int p.2))) ∧ H lA = some (.dK (ls.map fun p : Str × Addr × List Str => ((.inr p.1 : Key), V.ref p.2.1))) ∧
  (∀ p ∈ ls, H p.2.1 = some (.tup (p.2.2.map V.str))) ∧ OkC cs ∧ OkL ls ∧ ∀ p H', Same' H H' → H' p = some (.lst ((h :: (cs.map cT ++ ls.map lT)).map V.str)) → Q (.ref p) H'
def teJ (ts : List TE) : TE := fun σ H Q => tJs ts Str.empty σ H fun out H1 => Q (.str out) H1
theorem take_next {α β : Type} (g : α → β) {cs : List α} {i : Nat} {p : α} (h : cs[i]? = some p) : (cs.take i).map g ++ [g p] = (cs.take (i + 1)).map g := by
  rw [List.take_add_one, h, List.map_append]
  rfl
section
variable {P : Program} {w : World} {K : PySem.W.Frag} {mg : Str → Option Value} {base : Heap}
abbrev nTold : List Str := ["head", "cells", "logs", "cell_texts", "log_texts", "name"]
theorem scTold : FnScope nTold ["head", "cells", "logs"] (defScope sTold) := ⟨rfl, rfl, rfl, by decide +kernel, rfl, by decide +kernel, by decide +kernel⟩
theorem ok_told {f fL : Addr} {fd dL : FuncData} (F : Fun K "parts_told" "parts_told" sTold f fd) (T : Txt mg) (FL : Fun K "_log_text" "_log_text" sLogText fL dL) (bL : Binds K dL ["words"] []) (gL : mg "_log_text" = some (.ref fL)) (GL : FnOk P w K mg base CX0 1 fL dL ["words"] spLog) :
    FnOk P w K mg base CX0 2 f fd ["head", "cells", "logs"] spTold := by
  refine F.ok scTold (fun vs H Q E h => ?_) (fun cdv A outer s H vs Q E hr h => ?_)
  · obtain ⟨h, cA, lA, cs, ls, rfl, _⟩ := h
    rfl
  · obtain ⟨h, cA, lA, cs, ls, rfl, hc, hl, ht, OC, OL, q⟩ := h
    have hu : (A.deeper (envOfC "parts_told" (defScope sTold) s.heap.objs.size f cdv)).units + 66 < cLine := by have := hr.un; omega
    refine ⟨_, pss_cons ((ps_setLc (i := 3) (own := [("name", 5)]) (g := gName 5) (tt := tYes) rfl scTold.nd rfl rfl (sw_true rfl rfl rfl (by decide +kernel))
          (pi_list (pe_callBK (cr_sortedDK rfl hu) (by rfl) T.sorted (by decide +kernel) (pa_cons (pv 1) pa_nil) (pk_cons (pe_bltn (by rfl) T.str (by decide +kernel) (show RelV (.ty "str") _ from rfl)) pk_nil)))
          (blkOk_by (N := nTold) (sc := defScope sTold) (by decide +kernel)) (fun _ _ _ _ _ => pg_name (i := 5) scTold.nd rfl (Or.inl rfl)) (fun _ _ _ _ _ => pts_nil)
          (fun _ _ _ _ _ => show PE _ _ (teJ _) from pe_joined (.cons (pe_fmt (pv 5)) (.cons pe_str (.cons (pe_fmt (pe_dget (Nat.lt_of_le_of_lt (Nat.add_le_add_left (by decide) _) hu) (pv 1) (pv 5) (fun _ _ => rfl))) .nil))))))
      (pss_cons ((ps_setLc (i := 4) (own := [("name", 5)]) (g := gName 5) (tt := tYes) rfl scTold.nd rfl rfl (sw_true rfl rfl rfl (by decide +kernel))
          (pi_list (pe_callBK (cr_sortedDK rfl hu) (by rfl) T.sorted (by decide +kernel) (pa_cons (pv 2) pa_nil) (pk_cons (pe_bltn (by rfl) T.str (by decide +kernel) (show RelV (.ty "str") _ from rfl)) pk_nil)))
          (blkOk_by (N := nTold) (sc := defScope sTold) (by decide +kernel)) (fun _ _ _ _ _ => pg_name (i := 5) scTold.nd rfl (Or.inl rfl)) (fun _ _ _ _ _ => pts_nil)
          (fun _ _ _ _ _ => show PE _ _ (teJ _) from pe_joined (.cons (pe_fmt (pv 5)) (.cons pe_str (.cons (pe_fmt (pe_call GL hr (by rfl) gL FL.kp bL .nil pass0 (pa_cons (pe_dget (Nat.lt_of_le_of_lt (Nat.add_le_add_left (by decide) _) hu) (pv 2) (pv 5) (fun _ _ => rfl)) pa_nil))) .nil))))))
      (pss_one (ps_ret (pe_lst (pa_cons (pv 0) (StX.pa_star (pv 3) (StX.pa_star (pv 4) pa_nil))))))), ?_⟩
    refine ⟨_, rfl, cA, _, cs.map (·.1), rfl, rfl, .of hc, by rw [List.map_map, List.map_map]; rfl, by rw [List.length_map]; have := OC.few; omega, fun p1 hp1 => ?_⟩
    rw [OC.srt]
    have m1 := same_new (o := .lst ((cs.map (·.1)).map V.str)) hp1
    refine ⟨p1, rfl, ⟨_, SqL.of upd_same⟩, fun D1 hD => ?_⟩
    refine lc_list (K := K) (a := p1) (xs := (cs.map (·.1)).map V.str) (fun i H' => Same' (upd H p1 (.lst ((cs.map (·.1)).map V.str))) H' ∧ H' D1 = some (.lst (((cs.take i).map cT).map V.str))) ⟨same_new hD, upd_same⟩ (fun i H' _ hp => SqL.of (hp.1 _ _ upd_same)) (fun i v H' hv hp => ?_) (fun H1 hp => ?_)
    · obtain ⟨sm, ed⟩ := hp
      rw [List.map_map, List.getElem?_map] at hv
      cases e : cs[i]? with
      | none => rw [e] at hv; cases hv
      | some p =>
        rw [e] at hv
        injection hv with hv
        subst hv
        have hm := List.mem_of_getElem? e
        obtain ⟨a1, a2, a3, a4, a5⟩ := OC.len p hm
        refine ⟨rfl, ?_⟩
        refine ⟨_, rfl, .inl ⟨p.1, rfl, a1, _, rfl, a2, _, rfl, a3, _, rfl, _, rfl, cA, .int p.2, rfl, (OC.get p hm) ▸ DGet.k (k := .inr p.1) ((m1.trans sm) _ _ hc), .inr ⟨p.2, rfl, a5, _, rfl, a4, _, ed, small1000 ?_, same_over hD sm, ?_⟩⟩⟩
        · rw [List.length_map, List.length_map, List.length_take]
          have := OC.few
          omega
        · rw [upd_same]
          show some (HO.lst (((cs.take i).map cT).map V.str ++ [V.str (cT p)])) = _
          rw [← take_next cT e, List.map_append]
          rfl
    · obtain ⟨sm, ed⟩ := hp
      have k1 := m1.trans sm
      rw [List.length_map, List.length_map, List.take_length] at ed
      refine ⟨_, rfl, lA, _, ls.map (·.1), rfl, rfl, .of (k1 _ _ hl), by rw [List.map_map, List.map_map]; rfl, by rw [List.length_map]; have := OL.few; omega, fun p2 hp2 => ?_⟩
      rw [OL.srt]
      have m2 := same_new (o := .lst ((ls.map (·.1)).map V.str)) hp2
      refine ⟨p2, rfl, ⟨_, SqL.of upd_same⟩, fun D2 hD2 => ?_⟩
      refine lc_list (K := K) (a := p2) (xs := (ls.map (·.1)).map V.str) (fun i H' => Same' (upd H1 p2 (.lst ((ls.map (·.1)).map V.str))) H' ∧ H' D2 = some (.lst (((ls.take i).map lT).map V.str))) ⟨same_new hD2, upd_same⟩ (fun i H' _ hp => SqL.of (hp.1 _ _ upd_same)) (fun i v H' hv hp => ?_) (fun H3 hp => ?_)
      · obtain ⟨sm2, ed2⟩ := hp
        rw [List.map_map, List.getElem?_map] at hv
        cases e : ls[i]? with
        | none => rw [e] at hv; cases hv
        | some p =>
          rw [e] at hv
          injection hv with hv
          subst hv
          have hm := List.mem_of_getElem? e
          obtain ⟨a1, a2, a3, a4, a5, a6⟩ := OL.len p hm
          have kk := k1.trans (m2.trans sm2)
          refine ⟨rfl, ?_⟩
          refine ⟨_, rfl, .inl ⟨p.1, rfl, a1, _, rfl, a2, _, rfl, a3, _, rfl, _, rfl, lA, .ref p.2.1, rfl, (OL.get p hm) ▸ DGet.k (k := .inr p.1) (kk _ _ hl), p.2.1, p.2.2, rfl, kk _ _ (ht p hm), a6, .inl ⟨logT p.2.2, rfl, a5, _, rfl, a4, _, ed2, small1000 ?_, same_over hD2 sm2, ?_⟩⟩⟩
          · rw [List.length_map, List.length_map, List.length_take]
            have := OL.few
            omega
          · rw [upd_same]
            show some (HO.lst (((ls.take i).map lT).map V.str ++ [V.str (lT p)])) = _
            rw [← take_next lT e, List.map_append]
            rfl
      · obtain ⟨sm2, ed2⟩ := hp
        rw [List.length_map, List.length_map, List.take_length] at ed2
        have k2 := m2.trans sm2
        refine ⟨_, rfl, _, rfl, D1, _, rfl, .inr (SqL.of (k2 _ _ ed)), _, rfl, D2, _, rfl, .inr (SqL.of ed2), Nat.le_of_lt (small1000 ?_), fun p hp => ?_⟩
        · have := OC.few
          have := OL.few
          simp
          omega
        · refine q p _ ((k1.trans k2).trans (same_new hp)) ?_
          rw [upd_same]
          simp
end
end My
namespace My
open PySem PySem.Spec PyProof.Rows L2
theorem srt_asc {l : List Str} (h : asc l) : sortT l = l := List.mergeSort_of_pairwise (h.imp fun {a b} h => by
  show (!PySem.W.dataLt (.str b) (.str a)) = true
  rw [PySem.W.dataLt_str, Bool.not_eq_true', decide_eq_false_iff_not]
  exact fun k => List.lt_irrefl _ (List.lt_trans h k))
abbrev kvC (cs : List (Str × Int)) : List (Key × V) := cs.map fun p : Str × Int => ((.inr p.1 : Key), V.int p.2)
abbrev kvL (ls : List (Str × Addr × List Str)) : List (Key × V) := ls.map fun p : Str × Addr × List Str => ((.inr p.1 : Key), V.ref p.2.1)
abbrev stripL (p : Str × Addr × List Str) : Str × List Str := (p.1, p.2.2)
theorem nd_inr : ∀ {l : List Str}, l.Nodup → (l.map (Sum.inr : Str → Key)).Nodup
  | [], _ => List.nodup_nil
  | x :: r, h => by
    rw [List.nodup_cons] at h
    rw [List.map_cons, List.nodup_cons]
    refine ⟨fun m => ?_, nd_inr h.2⟩
    obtain ⟨y, hy, e⟩ := List.mem_map.mp m
    injection e with e
    exact h.1 (e ▸ hy)
theorem at_val {kvs : List (Key × V)} {p : Key × V} (u : (kvs.map (·.1)).Nodup) (h : p ∈ kvs) : valV kvs p.1 = some p.2 := by
  obtain ⟨i, hi, e⟩ := List.mem_iff_getElem.mp h
  exact val_at (i := i) (k := p.1) (v := p.2) u (by rw [List.getElem?_eq_getElem hi, e])
theorem fls_back : ∀ {zs : List Str} {xs : List V}, Fls xs (zs.map PyData.str) → xs = zs.map V.str
  | [], _, .nil => rfl
  | z :: r, _, .cons h t => by
    cases h
    rw [fls_back t]
    rfl
theorem fls_strs : ∀ zs : List Str, Fls (zs.map V.str) (zs.map PyData.str)
  | [] => .nil
  | z :: r => .cons (.str z) (fls_strs r)
theorem key_str {k : Key} {z : Str} (h : keyD k = .str z) : k = .inr z := by
  cases k with
  | inl i => cases h
  | inr x =>
    injection h with h
    rw [h]
theorem back_c {H : Hp} : ∀ {cs : List (Str × Int)} {kvs : List (Key × V)}, KD H kvs (dvC cs) → kvs = kvC cs
  | [], _, .nil => rfl
  | c :: r, (k, v) :: _, .cons ⟨e, t⟩ s => by
    have e1 : k = .inr c.1 := key_str e
    have tv : Tn H v (.int c.2) := t
    have ev : v = .int c.2 := by
      cases tv.th with
      | flat f => cases f; rfl
    rw [back_c s, e1, ev]
    rfl
theorem back_l {H : Hp} : ∀ {ls : List (Str × List Str)} {kvs : List (Key × V)}, KD H kvs (dvL ls) → ∃ ms, kvs = kvL ms ∧ ms.map stripL = ls ∧ ∀ c ∈ ms, H c.2.1 = some (.tup (c.2.2.map V.str))
  | [], _, .nil => ⟨[], rfl, rfl, fun _ h => by cases h⟩
  | c :: r, (k, v) :: _, .cons ⟨e, t⟩ s => by
    obtain ⟨ms, e2, e3, e4⟩ := back_l s
    have e1 : k = .inr c.1 := key_str e
    have tv : Tn H v (.tuple (c.2.map PyData.str)) := t
    obtain ⟨a, ev, ha⟩ : ∃ a, v = .ref a ∧ H a = some (.tup (c.2.map V.str)) := by
      cases tv.th with
      | flat f => cases f
      | tup h k n =>
        rw [fls_back k] at h
        exact ⟨_, rfl, h⟩
    refine ⟨(c.1, a, c.2) :: ms, ?_, ?_, fun d hd => ?_⟩
    · rw [e1, ev, e2]
      rfl
    · show stripL _ :: _ = c :: _
      rw [e3]
    · rcases List.mem_cons.mp hd with rfl | hd
      · exact ha
      · exact e4 d hd
/-! ### lengths -/
theorem fig_len : ∀ v : Nat, v < 4 → ((toString (v : Int) : String) : Str).length = 1 ∧ PyData.strOk ((toString (v : Int) : String) : Str) = true := by decide +kernel
theorem int_fig {v : Int} (h0 : 0 ≤ v) (h4 : v < 4) : ((toString v : String) : Str).length = 1 ∧ PyData.strOk ((toString v : String) : Str) = true ∧ v.natAbs.log2 < 1920 := by
  obtain ⟨n, rfl⟩ : ∃ n : Nat, v = (n : Int) := ⟨v.toNat, by omega⟩
  obtain ⟨a, b⟩ := fig_len n (by omega)
  refine ⟨a, b, ?_⟩
  rw [Int.natAbs_natCast]
  exact Nat.lt_of_le_of_lt (Nat.log2_le_self _) (by omega)
theorem empty_cat (d : Str) : Str.empty ++ d = d := by
  have e : (Str.empty ++ d).cps = d.cps := by
    rw [PySem.Str.cps_append]
    show #[] ++ d.cps = d.cps
    rw [Array.empty_append]
  cases d
  cases h : Str.empty ++ _
  rw [h] at e
  exact congrArg _ e
theorem sum_len {B : Nat} : ∀ {zs : List Str}, (∀ z ∈ zs, z.length ≤ B) → (zs.map (·.length)).sum ≤ zs.length * B
  | [], _ => by simp
  | z :: r, h => by
    have := sum_len fun y hy => h y (List.mem_cons_of_mem _ hy)
    have := h z List.mem_cons_self
    rw [List.map_cons, List.sum_cons, List.length_cons, Nat.succ_mul]
    omega
theorem join_len (y : Str) : ∀ zs : List Str, (Str.join y zs).length ≤ (zs.map (·.length)).sum + zs.length * y.length
  | [] => by show (0 : Nat) ≤ _; exact Nat.zero_le _
  | [z] => by
    show z.length ≤ _
    simp
  | x :: z :: r => by
    have := join_len y (z :: r)
    show (x ++ y ++ Str.join y (z :: r)).length ≤ _
    rw [len_app, len_app]
    simp only [List.map_cons, List.sum_cons, List.length_cons] at this ⊢
    have e : (r.length + 1 + 1) * y.length = (r.length + 1) * y.length + y.length := by rw [Nat.succ_mul]
    omega
theorem le_big {n : Nat} (h : n ≤ 100000) : n ≤ sizeLine := by rw [sizeLine_eq]; omega
theorem one_space : (" " : Str).length = 1 := by decide +kernel
/-- the words of a log: their text -/
theorem log_few {zs : List Str} (h : ∀ z ∈ zs, wd z = true) (n : zs.length ≤ 200) : (zs.map (·.length)).sum + zs.length * (" " : Str).length ≤ 1800 ∧ (Txt.join " " zs).length ≤ 1800 ∧ (logT zs).length ≤ 1801 := by
  have a := sum_len (B := 8) fun z hz => (wd_ok (h z hz)).2.2.1
  have b := join_len " " zs
  rw [one_space] at b ⊢
  have c : (Txt.join " " zs).length ≤ 1800 := by
    rw [TL.join_eq]
    omega
  refine ⟨by omega, c, ?_⟩
  unfold logT
  split
  · omega
  · decide +kernel
structure Told (H : Hp) (cA lA : Addr) (cs : List (Str × Int)) (ls : List (Str × Addr × List Str)) : Prop where
  c : H cA = some (.dK (kvC cs))
  l : H lA = some (.dK (kvL ls))
  t : ∀ p ∈ ls, H p.2.1 = some (.tup (p.2.2.map V.str))
  oc : OkC cs
  ol : OkL ls
theorem GoodE.oc {e : EndD} (G : GoodE e) : OkC e.cs := by
  have len : ∀ p ∈ e.cs, p.1.length ≤ 8 ∧ (cT p).length ≤ 10 ∧ p.2.natAbs.log2 < 1920 := fun p hp => by
    obtain ⟨a, b, c⟩ := G.cv p hp
    obtain ⟨x, _, y⟩ := int_fig b c
    have l := (wd_ok (nm_wd a)).2.2.1
    refine ⟨l, ?_, y⟩
    unfold cT
    rw [empty_cat, len_app, len_app, one_space, x]
    omega
  refine ⟨srt_asc G.ca, Nat.le_trans G.cf (by decide), fun p h => at_val (p := ((.inr p.1 : Key), V.int p.2)) ?_ (List.mem_map.mpr ⟨p, h, rfl⟩), fun p hp => ?_⟩
  · have := nd_inr (asc_nodup G.ca)
    rw [List.map_map] at this ⊢
    exact this
  · obtain ⟨a, b, c⟩ := len p hp
    refine ⟨le_big (by omega), ?_, ?_, le_big (by omega), c⟩
    · rw [empty_cat]
      exact le_big (by omega)
    · rw [empty_cat, len_app, one_space]
      exact le_big (by omega)
theorem GoodE.ol {e : EndD} (G : GoodE e) {ms : List (Str × Addr × List Str)} (em : ms.map stripL = e.ls) : OkL ms ∧ ∀ p ∈ ms, (lT p).length ≤ 1810 := by
  have mem : ∀ p ∈ ms, stripL p ∈ e.ls := fun p hp => em ▸ List.mem_map.mpr ⟨p, hp, rfl⟩
  have len : ∀ p ∈ ms, p.1.length ≤ 8 ∧ (lT p).length ≤ 1810 := fun p hp => by
    obtain ⟨a, b⟩ := G.lv _ (mem p hp)
    have l := (wd_ok (nm_wd a)).2.2.1
    have l' : p.1.length ≤ 8 := l
    refine ⟨l, ?_⟩
    have x := (log_few b (G.wf _ (mem p hp))).2.2
    have x' : (logT p.2.2).length ≤ 1801 := x
    unfold lT
    rw [empty_cat, len_app, len_app, one_space]
    omega
  have nm : ms.map (·.1) = e.ls.map (·.1) := by
    rw [← em, List.map_map]
    rfl
  refine ⟨⟨by rw [nm]; exact srt_asc G.la, ?_, fun p h => at_val (p := ((.inr p.1 : Key), V.ref p.2.1)) ?_ (List.mem_map.mpr ⟨p, h, rfl⟩), fun p hp => ?_⟩, fun p hp => (len p hp).2⟩
  · have := G.lf
    rw [← em, List.length_map] at this
    omega
  · have k := nd_inr (asc_nodup G.la)
    rw [← nm, List.map_map] at k
    rw [List.map_map]
    exact k
  · obtain ⟨a, b⟩ := len p hp
    obtain ⟨c, d⟩ := G.lv _ (mem p hp)
    obtain ⟨x, y, z⟩ := log_few d (G.wf _ (mem p hp))
    refine ⟨le_big (by omega), ?_, ?_, le_big (by omega), le_big (Nat.le_trans z (by decide)), ⟨Nat.le_trans x (by decide), le_big (Nat.le_trans y (by decide))⟩⟩
    · rw [empty_cat]
      exact le_big (by omega)
    · rw [empty_cat, len_app, one_space]
      exact le_big (by omega)
end My
namespace My
open PySem PySem.Spec PyProof.Rows L2
def FewT (zs : List Str) : Prop := (zs.map (·.length)).sum + zs.length * (" ; " : Str).length ≤ 16777216
def headE : Option Str → Str
  | none => "done"
  | some n => (Str.empty ++ "failed ") ++ n
def lT2 (p : Str × List Str) : Str := ((Str.empty ++ p.1) ++ (" " : Str)) ++ logT p.2
def partsE (e : EndD) : List Str := headE e.f :: (e.cs.map cT ++ e.ls.map lT2)
def textE (e : EndD) : Str := Txt.join " ; " (partsE e)
theorem head_len {e : EndD} (G : GoodE e) : (headE e.f).length ≤ 15 := by
  cases h : e.f with
  | none => decide +kernel
  | some n =>
    have := (wd_ok (nm_wd (G.f n h))).2.2.1
    have s : ("failed " : Str).length = 7 := by decide +kernel
    show ((Str.empty ++ ("failed " : Str)) ++ n).length ≤ 15
    rw [empty_cat, len_app, s]
    omega
theorem parts_few {e : EndD} (G : GoodE e) : (∀ z ∈ partsE e, z.length ≤ 1810) ∧ (partsE e).length ≤ 81 := by
  refine ⟨fun z hz => ?_, ?_⟩
  · rcases List.mem_cons.mp hz with rfl | hz
    · exact Nat.le_trans (head_len G) (by decide)
    · rcases List.mem_append.mp hz with hz | hz
      · obtain ⟨p, hp, rfl⟩ := List.mem_map.mp hz
        obtain ⟨a, b, c⟩ := G.cv p hp
        obtain ⟨x, _, y⟩ := int_fig b c
        have l := (wd_ok (nm_wd a)).2.2.1
        unfold cT
        rw [empty_cat, len_app, len_app, one_space, x]
        omega
      · obtain ⟨p, hp, rfl⟩ := List.mem_map.mp hz
        obtain ⟨a, b⟩ := G.lv p hp
        have l := (wd_ok (nm_wd a)).2.2.1
        have x := (log_few b (G.wf p hp)).2.2
        unfold lT2
        rw [empty_cat, len_app, len_app, one_space]
        omega
  · unfold partsE
    have := G.cf
    have := G.lf
    simp
    omega
theorem three_long : (" ; " : Str).length = 3 := by decide +kernel
theorem fewE {e : EndD} (G : GoodE e) : FewT (partsE e) := by
  obtain ⟨a, b⟩ := parts_few G
  have := sum_len a
  unfold FewT
  rw [three_long]
  omega
theorem textE_len {e : EndD} (G : GoodE e) : (textE e).length ≤ 147000 := by
  obtain ⟨a, b⟩ := parts_few G
  have := sum_len a
  have j := join_len " ; " (partsE e)
  unfold textE
  rw [TL.join_eq]
  rw [three_long] at j
  omega
def spStrE (C : Addr) : Sp := fun vs H Q _ => ∃ (a : Addr) (e : EndD), vs = [.ref a] ∧ EndAt C H a e ∧ GoodE e ∧ ∀ H', Same' H H' → Q (.str (textE e)) H'
section
variable {P : Program} {w : World} {K : PySem.W.Frag} {mg : Str → Option Value} {base : Heap} {C : Addr} {fT : Addr} {dT : FuncData}
abbrev sS_End : Stmt := inClass (topS 16) 2
abbrev nSE : List Str := ["self", "head"]
theorem scSE : FnScope nSE ["self"] (defScope sS_End) := ⟨rfl, rfl, rfl, by decide +kernel, rfl, by decide +kernel, by decide +kernel⟩
theorem okS_End {f : Addr} {fd : FuncData} (F : Fun K "__str__" "End.__str__" sS_End f fd) (N : EndC K mg C) (FT : Fun K "parts_told" "parts_told" sTold fT dT) (bT : Binds K dT ["head", "cells", "logs"] []) (gT : mg "parts_told" = some (.ref fT)) (GT : FnOk P w K mg base CX0 2 fT dT ["head", "cells", "logs"] spTold) :
    FnOk P w K mg base CX0 3 f fd ["self"] (spStrE C) := by
  refine F.ok scSE (fun vs H Q E h => ?_) (fun cdv A outer s H vs Q E hr h => ?_)
  · obtain ⟨a, e, rfl, _⟩ := h
    rfl
  · obtain ⟨a, e, rfl, ev, G, q⟩ := h
    have nc := N.ev
    refine ⟨_, pss_cons (ps_set (i := 1) scSE.nd rfl (.inl rfl) (pe_ifExp (pt_cmp (pc_isN (pe_fld (pv 0) (by rfl)))) pe_str (show PE _ _ (teJ _) from pe_joined (.cons pe_str (.cons (pe_fmt (pe_fld (pv 0) (by rfl))) .nil)))))
      (pss_one (ps_ret (pe_join pe_str (pe_call GT hr (by rfl) gT FT.kp bT .nil pass0 (pa_cons (pv 1) (pa_cons (pe_fld (pv 0) (by rfl)) (pa_cons (pe_fld (pv 0) (by rfl)) pa_nil))))))), ?_⟩
    obtain ⟨dx, fs, ha, hf⟩ := ev
    obtain ⟨x, lx, tx⟩ := fs_look (f := "failed") (d := fD e.f) hf rfl
    obtain ⟨y, ly, ty⟩ := fs_look (f := "cells") (d := .dict (dvC e.cs)) hf rfl
    obtain ⟨u, lu, tu⟩ := fs_look (f := "logs") (d := .dict (dvL e.ls)) hf rfl
    obtain ⟨cA, kc, rfl, hc, dc⟩ := tw_dict ty
    obtain ⟨lA, kl, rfl, hl, dl⟩ := tw_dict tu
    obtain rfl := back_c dc
    obtain ⟨ms, rfl, em, ht⟩ := back_l dl
    obtain ⟨ol, _⟩ := G.ol em
    have rest : ∀ (hd : Str), hd = headE e.f → tRet (tM1 (fun x xs H Q => ∃ a p, ∃ ys : List Str, x = .str a ∧ xs = [.ref p] ∧ (SqL K H p (ys.map V.str) ∨ SqT K H p (ys.map V.str)) ∧ (ys.map (·.length)).sum + ys.length * a.length ≤ 16777216 ∧ Q (.str (Txt.join a ys)) H) (tC (.str " ; "))
        (tCall spTold [] E0 (tCons (tVar 1) (tCons (tFld K (tVar 0) "cells") (tCons (tFld K (tVar 0) "logs") tNil))))) { nx := fun _ H' => Q .non H', rt := Q } [some (.ref a), some (.str hd)] H := by
      intro hd ehd
      subst ehd
      refine ⟨⟨_, rfl⟩, .str (headE e.f), rfl, .ref a, rfl, a, C, dx, fs, .ref cA, rfl, ha, nc.c, nc.nc, ly, .ref a, rfl, a, C, dx, fs, .ref lA, rfl, ha, nc.c, nc.nl, lu, ?_⟩
      refine ⟨headE e.f, cA, lA, e.cs, ms, rfl, hc, hl, ht, G.oc, ol, fun p H1 k1 e1 => ?_⟩
      have eq : (headE e.f :: (e.cs.map cT ++ ms.map lT)) = partsE e := by
        unfold partsE
        rw [← em, List.map_map]
        rfl
      rw [eq] at e1
      exact ⟨_, p, partsE e, rfl, rfl, .inl (SqL.of e1), fewE G, q H1 k1⟩
    refine ⟨.ref a, rfl, a, C, dx, fs, x, rfl, ha, nc.c, nc.na, lx, _, rfl, ?_⟩
    cases hfe : e.f with
    | none =>
      rw [hfe] at tx
      obtain rfl : x = .non := by
        cases tx with
        | th t => cases t with | flat f => cases f; rfl
      exact iteT (rest "done" (by rw [hfe]; rfl))
    | some n =>
      rw [hfe] at tx
      obtain rfl : x = .str n := by
        cases tx with
        | th t => cases t with | flat f => cases f; rfl
      have l8 := (wd_ok (nm_wd (G.f n hfe))).2.2.1
      have hl := head_len G
      rw [hfe] at hl
      refine iteF ?_
      refine ⟨_, rfl, le_big (by decide +kernel), .ref a, rfl, a, C, dx, fs, .str n, rfl, ha, nc.c, nc.na, lx, .inl ⟨n, rfl, le_big (by omega), _, rfl, le_big (Nat.le_trans hl (by decide)), ?_⟩⟩
      exact rest _ (by rw [hfe]; rfl)
end
end My
namespace My
open PySem PySem.Spec PyProof.Rows L2
abbrev EndsAt (C : Addr) (H : Hp) : List Addr → List EndD → Prop := Paired fun a e => EndAt C H a e ∧ GoodE e
theorem ends_keep {C : Addr} {H H' : Hp} (k : Same' H H') : ∀ {as : List Addr} {es : List EndD}, EndsAt C H as es → EndsAt C H' as es
  | _, _, .nil => .nil
  | _, _, .cons ⟨a, g⟩ r => .cons ⟨a.keep k, g⟩ (ends_keep k r)
theorem ends_len {C : Addr} {H : Hp} : ∀ {as : List Addr} {es : List EndD}, EndsAt C H as es → as.length = es.length
  | _, _, .nil => rfl
  | _, _, .cons _ r => congrArg Nat.succ (ends_len r)
theorem ends_at {C : Addr} {H : Hp} : ∀ {as : List Addr} {es : List EndD} {i : Nat} {a : Addr}, EndsAt C H as es → as[i]? = some a → ∃ e, es[i]? = some e ∧ EndAt C H a e ∧ GoodE e
  | _, _, 0, _, .cons h r, e => by
    simp at e
    subst e
    exact ⟨_, rfl, h⟩
  | _, _, i + 1, _, .cons _ r, e => ends_at (i := i) r (by simpa using e)
def textEs (es : List EndD) : Str := if es.isEmpty then "-" else Txt.join " / " (es.map textE)
theorem bar_long : (" / " : Str).length = 3 := by decide +kernel
theorem len_join_pos {y z : Str} {r : List Str} (h : 1 ≤ z.length) : 1 ≤ (Str.join y (z :: r)).length := by
  cases r with
  | nil => exact h
  | cons x r =>
    show 1 ≤ (z ++ y ++ Str.join y (x :: r)).length
    rw [len_app, len_app]
    omega
theorem textE_pos {e : EndD} : 1 ≤ (textE e).length := by
  unfold textE partsE
  rw [TL.join_eq]
  refine len_join_pos ?_
  cases e.f with
  | none => decide +kernel
  | some n =>
    show 1 ≤ ((Str.empty ++ ("failed " : Str)) ++ n).length
    rw [empty_cat, len_app]
    have : ("failed " : Str).length = 7 := by decide +kernel
    omega
theorem fewEs {es : List EndD} (G : ∀ e ∈ es, GoodE e) (n : es.length ≤ 60) : ((es.map textE).map (·.length)).sum + (es.map textE).length * (" / " : Str).length ≤ 16777216 ∧ (Txt.join " / " (es.map textE)).length ≤ 10000000 := by
  have a : ∀ z ∈ es.map textE, z.length ≤ 147000 := fun z hz => by
    obtain ⟨e, he, rfl⟩ := List.mem_map.mp hz
    exact textE_len (G e he)
  have b := sum_len a
  have c := join_len " / " (es.map textE)
  rw [List.length_map] at b c
  rw [TL.join_eq, List.length_map, bar_long]
  rw [bar_long] at c
  omega
def spEndsText (C : Addr) : Sp := fun vs H Q _ => ∃ (t : Addr) (as : List Addr) (es : List EndD), vs = [.ref t] ∧ H t = some (.tup (as.map V.ref)) ∧ EndsAt C H as es ∧ es.length ≤ 60 ∧ ∀ H', Same' H H' → Q (.str (textEs es)) H'
theorem ends_good {C : Addr} {H : Hp} {as : List Addr} {es : List EndD} (h : EndsAt C H as es) : ∀ e ∈ es, GoodE e := by
  induction h with
  | nil => intro e he; cases he
  | cons h _ ih =>
    intro e he
    rcases List.mem_cons.mp he with rfl | he
    · exact h.2
    · exact ih e he
theorem take_next' {α β : Type} (g : α → β) {cs : List α} {i : Nat} {p : α} (h : cs[i]? = some p) : (cs.take i).map g ++ [g p] = (cs.take (i + 1)).map g := by
  rw [List.take_add_one, h, List.map_append]
  rfl
def rStrE (C : Addr) : List V → Hp → VK → Prop := fun xs H Q => ∃ (a : Addr) (e : EndD), xs = [.ref a] ∧ EndAt C H a e ∧ GoodE e ∧ ∀ H', Same' H H' → Q (.str (textE e)) H'
section
variable {P : Program} {w : World} {K : PySem.W.Frag} {mg : Str → Option Value} {base : Heap} {C : Addr}
/-- End's own str -/
structure OwnS (P : Program) (w : World) (K : PySem.W.Frag) (mg : Str → Option Value) (base : Heap) (C fS : Addr) (dS : FuncData) : Prop where
  st : PySem.W.findIn K (.ref C) "__str__" = some (some (.ref fS))
  sf : PySem.W.isFn K (.ref fS) = true
  b : Binds K dS ["self"] []
  ok : FnOk P w K mg base CX0 3 fS dS ["self"] (spStrE C)
theorem call_strE {X : Cx} {fS : Addr} {dS : FuncData} (o : OwnS X.prog X.w X.K X.mg X.base C fS dS) (hr : Room 5 X.A) (hgu : X.A.guards = some []) : CallR X (.type "str") (rStrE C) := by
  intro pins s σ H xs us Q I r h
  obtain ⟨a, e, rfl, ea, G, q⟩ := h
  obtain ⟨dx, fs, ha, hf⟩ := id ea
  exact call_strOwn (C := C) (E := fun _ _ _ => False) (toG o.ok) hr hgu o.st o.sf o.b pass0 pins s σ H _ us Q I r ⟨a, dx, fs, rfl, ha, a, e, rfl, ea, G, fun H' k => ⟨_, rfl, q H' k⟩⟩
abbrev nET : List Str := ["ends", "end"]
theorem scET : FnScope nET ["ends"] (defScope sEndsText) := ⟨rfl, rfl, rfl, by decide +kernel, rfl, by decide +kernel, by decide +kernel⟩
theorem ok_endsText {f fS : Addr} {fd dS : FuncData} (F : Fun K "ends_text" "ends_text" sEndsText f fd) (T : Txt mg) (o : OwnS P w K mg base C fS dS) : FnG P w K mg base CX0 6 f fd ["ends"] (spEndsText C) := by
  refine okG F scET (fun vs H Q E h => ?_) (fun cdv A0 outer s H vs Q E hr hg h => ?_)
  · obtain ⟨t, as, es, rfl, _⟩ := h
    rfl
  · obtain ⟨t, as, es, rfl, ht, ea, n, q⟩ := h
    refine ⟨_, pss_one (ps_ret (pe_orT (pe_join pe_str (pe_lc (own := [("end", 1)]) (g := gName 1) (tt := tYes) rfl scET.nd (pi_tup (pv 0)) (blkOk_by (N := nET) (sc := defScope sEndsText) (by decide +kernel)) (fun _ _ _ _ _ => pg_name (i := 1) scET.nd rfl (Or.inl rfl)) (fun _ _ _ _ _ => pts_nil)
        (fun s1 H1 C1 cl1 fp1 => show PE _ _ (tCB (rStrE C) _) from pe_callTy (call_strE (X := (cxOf CX0 P w K mg base nET "ends_text" (defScope sEndsText) f cdv A0 outer s H E).blk s1 H1 _ (compEnvC _ cl1 C1 (cxOf CX0 P w K mg base nET "ends_text" (defScope sEndsText) f cdv A0 outer s H E).env) fp1) o hr hg) (by rfl) T.str (by decide +kernel) (pa_cons (pv 1) pa_nil)))) (pe_one pe_str))), ?_⟩
    have few := fewEs (ends_good ea) n
    refine ⟨⟨_, rfl⟩, .ref t, rfl, t, rfl, ⟨_, SqT.of ht⟩, fun D1 hD => ?_⟩
    refine lc_tup (K := K) (a := t) (xs := as.map V.ref) (fun i H' => Same' H H' ∧ H' D1 = some (.lst (((es.take i).map textE).map V.str))) ⟨same_new hD, upd_same⟩ (fun i H' _ hp => SqT.of (hp.1 _ _ ht)) (fun i v H' hv hp => ?_) (fun H1 hp => ?_)
    · obtain ⟨sm, ed⟩ := hp
      rw [List.getElem?_map] at hv
      cases e : as[i]? with
      | none => rw [e] at hv; cases hv
      | some a =>
        rw [e] at hv
        injection hv with hv
        subst hv
        obtain ⟨x, hx, eax, G⟩ := ends_at (ends_keep sm ea) e
        refine ⟨rfl, ⟨_, rfl, a, x, rfl, eax, G, fun H3 k3 => ⟨_, k3 _ _ ed, small1000 ?_, same_over hD (sm.trans k3), ?_⟩⟩⟩
        · rw [List.length_map, List.length_map, List.length_take]
          omega
        · rw [upd_same]
          show some (HO.lst (((es.take i).map textE).map V.str ++ [V.str (textE x)])) = _
          rw [← take_next' textE hx, List.map_append]
          rfl
    · obtain ⟨sm, ed⟩ := hp
      rw [List.length_map, ends_len ea, List.take_length] at ed
      refine ⟨_, D1, es.map textE, rfl, rfl, .inl (SqL.of ed), few.1, _, ⟨by rw [sizeLine_eq]; omega, rfl⟩, ?_⟩
      have q' := q H1 sm
      unfold textEs at q'
      cases es with
      | nil =>
        rw [if_neg (by decide +kernel)]
        exact q'
      | cons x r =>
        have l := len_join_pos (y := " / ") (z := textE x) (r := r.map textE) textE_pos
        rw [← TL.join_eq] at l
        rw [if_pos]
        · exact q'
        · show (((Txt.join " / " (textE x :: r.map textE)).length : Int) != 0) = true
          simp
          omega
end
end My
/-! reading, as plain functions of a list of words -/
namespace My
open PySem PySem.Spec PyProof.Rows L2
abbrev semi : Str := ";"
abbrev slash : Str := "/"
abbrev dash : Str := "-"
inductive Res (α : Type) where
  | ok (a : α) (k : Nat)
  | no (j : Nat)
  deriving DecidableEq
def logR (ws : List Str) (k : Nat) : Res (List Str) := match ws.drop k with
  | [] => .no k
  | z :: r => if z = "-" then .ok [] (k + 1) else if wd z = true then .ok (z :: r.takeWhile wd) (k + 1 + (r.takeWhile wd).length) else .no k
def lastN (l : List Str) : Str := (l.getLast?).getD ""
def figOf (o : Option Str) : Option Nat := match o with
  | none => none
  | some z => if z = fig 0 then some 0 else if z = fig 1 then some 1 else if z = fig 2 then some 2 else if z = fig 3 then some 3 else none
abbrev CL := List (Str × Int) × List (Str × List Str)
/-- whether a name may stand there -/
def mayN (cs : List (Str × Int)) (ls : List (Str × List Str)) (z : Str) : Bool := nmOk (lastN (ls.map (·.1))) (cs.map (·.1)) z
/-- whether it may be a cell's -/
def mayC (cs : List (Str × Int)) (ls : List (Str × List Str)) (z : Str) : Bool := ls.isEmpty && decide ((lastN (cs.map (·.1))).cps.toList < z.cps.toList)
def thingR (ws : List Str) (k : Nat) (cs : List (Str × Int)) (ls : List (Str × List Str)) : Res CL := match ws[k]? with
  | none => .no k
  | some z => if mayN cs ls z = true then
      match (if mayC cs ls z = true then figOf ws[k + 1]? else none) with
      | some v => .ok (cs ++ [(z, (v : Int))], ls) (k + 2)
      | none => match logR ws (k + 1) with
        | .no j => .no j
        | .ok zs j => .ok (cs, ls ++ [(z, zs)]) j
    else .no k
inductive Things (ws : List Str) : List (Str × Int) → List (Str × List Str) → Nat → Res CL → Prop
  | done {cs ls k} (h : ws[k]? ≠ some semi) : Things ws cs ls k (.ok (cs, ls) k)
  | err {cs ls k j} (h : ws[k]? = some semi) (t : thingR ws (k + 1) cs ls = .no j) : Things ws cs ls k (.no j)
  | more {cs ls k cs' ls' k' r} (h : ws[k]? = some semi) (t : thingR ws (k + 1) cs ls = .ok (cs', ls') k') (m : Things ws cs' ls' k' r) : Things ws cs ls k r
def thingsF (ws : List Str) : Nat → List (Str × Int) → List (Str × List Str) → Nat → Res CL
  | 0, _, _, _ => .no 0
  | n + 1, cs, ls, k => if ws[k]? = some semi then
      match thingR ws (k + 1) cs ls with
      | .no j => .no j
      | .ok c k' => thingsF ws n c.1 c.2 k'
    else .ok (cs, ls) k
def headR (ws : List Str) (k : Nat) : Res (Option Str) := match ws[k]? with
  | none => .no k
  | some z => if z = "done" then .ok none (k + 1) else if z = "failed" then
      match ws[k + 1]? with
      | none => .no (k + 1)
      | some y => if nm y = true then .ok (some y) (k + 2) else .no (k + 1)
    else .no k
inductive EndP (ws : List Str) : Nat → Res EndD → Prop
  | bad {k j} (h : headR ws k = .no j) : EndP ws k (.no j)
  | err {k f k1 j} (h : headR ws k = .ok f k1) (t : Things ws [] [] k1 (.no j)) : EndP ws k (.no j)
  | ok {k f k1 cs ls k2} (h : headR ws k = .ok f k1) (t : Things ws [] [] k1 (.ok (cs, ls) k2)) : EndP ws k (.ok ⟨f, cs, ls⟩ k2)
def endF (ws : List Str) (k : Nat) : Res EndD := match headR ws k with
  | .no j => .no j
  | .ok f k1 => match thingsF ws (ws.length + 1) [] [] k1 with
    | .no j => .no j
    | .ok c k2 => .ok ⟨f, c.1, c.2⟩ k2
inductive RestP (ws : List Str) : List EndD → Nat → Res (List EndD) → Prop
  | done {es k} (h : ws[k]? ≠ some slash) : RestP ws es k (.ok es k)
  | err {es k j} (h : ws[k]? = some slash) (t : EndP ws (k + 1) (.no j)) : RestP ws es k (.no j)
  | more {es k e k' r} (h : ws[k]? = some slash) (t : EndP ws (k + 1) (.ok e k')) (m : RestP ws (es ++ [e]) k' r) : RestP ws es k r
def restF (ws : List Str) : Nat → List EndD → Nat → Res (List EndD)
  | 0, _, _ => .no 0
  | n + 1, es, k => if ws[k]? = some slash then
      match endF ws (k + 1) with
      | .no j => .no j
      | .ok e k' => restF ws n (es ++ [e]) k'
    else .ok es k
inductive EndsP (ws : List Str) : Res (List EndD) → Prop
  | bar (h : ws[0]? = some dash) : EndsP ws (.ok [] 1)
  | err {j} (h : ws[0]? ≠ some dash) (t : EndP ws 0 (.no j)) : EndsP ws (.no j)
  | more {e k r} (h : ws[0]? ≠ some dash) (t : EndP ws 0 (.ok e k)) (m : RestP ws [e] k r) : EndsP ws r
def endsF (ws : List Str) : Res (List EndD) := if ws[0]? = some dash then .ok [] 1 else
  match endF ws 0 with
  | .no j => .no j
  | .ok e k => restF ws (ws.length + 1) [e] k
/-- the whole text -/
inductive ReadP (ws : List Str) : Except Nat (List EndD) → Prop
  | no {j} (h : EndsP ws (.no j)) : ReadP ws (.error j)
  | left {es k} (h : EndsP ws (.ok es k)) (l : k < ws.length) : ReadP ws (.error k)
  | ok {es k} (h : EndsP ws (.ok es k)) (l : k = ws.length) : ReadP ws (.ok es)
def readF (ws : List Str) : Except Nat (List EndD) := match endsF ws with
  | .no j => .error j
  | .ok es k => if k < ws.length then .error k else .ok es
/-! ### one goes on, and stays within -/
theorem logR_on {ws : List Str} {k j : Nat} {zs : List Str} (h : logR ws k = .ok zs j) : k < j ∧ j ≤ ws.length ∧ (∀ z ∈ zs, wd z = true) := by
  unfold logR at h
  cases hd : ws.drop k with
  | nil => rw [hd] at h; cases h
  | cons z r =>
    rw [hd] at h
    have l := congrArg List.length hd
    rw [List.length_drop, List.length_cons] at l
    simp only at h
    split at h
    · injection h with h1 h2
      subst h1
      exact ⟨by omega, by omega, fun _ h => by cases h⟩
    · split at h
      · rename_i hw
        injection h with h1 h2
        subst h1
        have : (r.takeWhile wd).length ≤ r.length := by
          have := congrArg List.length (List.takeWhile_append_dropWhile (p := wd) (l := r))
          rw [List.length_append] at this
          omega
        refine ⟨by omega, by omega, fun y hy => ?_⟩
        rcases List.mem_cons.mp hy with rfl | hy
        · exact hw
        · exact List.all_eq_true.mp (List.all_takeWhile (l := r) (p := wd)) y hy
      · cases h
theorem thingR_on {ws : List Str} {k j : Nat} {cs : List (Str × Int)} {ls : List (Str × List Str)} {c : CL} (h : thingR ws k cs ls = .ok c j) : k < j ∧ j ≤ ws.length := by
  unfold thingR at h
  cases hz : ws[k]? with
  | none => rw [hz] at h; cases h
  | some z =>
    rw [hz] at h
    have hk : k < ws.length := (List.getElem?_eq_some_iff.mp hz).1
    simp only at h
    split at h
    · split at h
      · rename_i v hv
        injection h with h1 h2
        have : k + 1 < ws.length := by
          refine Nat.lt_of_not_le fun n => ?_
          rw [List.getElem?_eq_none n] at hv
          split at hv <;> cases hv
        omega
      · split at h
        · cases h
        · rename_i zs j' hl
          injection h with h1 h2
          have := logR_on hl
          omega
    · cases h
theorem things_of {ws : List Str} : ∀ (n : Nat) (cs : List (Str × Int)) (ls : List (Str × List Str)) (k : Nat), ws.length < k + n → k ≤ ws.length → Things ws cs ls k (thingsF ws n cs ls k)
  | 0, _, _, k, h, l => by omega
  | n + 1, cs, ls, k, h, l => by
    unfold thingsF
    split
    · rename_i hs
      cases ht : thingR ws (k + 1) cs ls with
      | no j => exact .err hs ht
      | ok c k' =>
        have := thingR_on ht
        exact .more hs ht (things_of n _ _ k' (by omega) (by omega))
    · rename_i hs
      exact .done hs
theorem headR_on {ws : List Str} {k j : Nat} {f : Option Str} (h : headR ws k = .ok f j) : k < j ∧ j ≤ ws.length ∧ ∀ n, f = some n → nm n = true := by
  unfold headR at h
  cases hz : ws[k]? with
  | none => rw [hz] at h; cases h
  | some z =>
    rw [hz] at h
    have hk : k < ws.length := (List.getElem?_eq_some_iff.mp hz).1
    simp only at h
    split at h
    · injection h with h1 h2
      exact ⟨by omega, by omega, fun n e => by rw [← h1] at e; cases e⟩
    · split at h
      · cases hy : ws[k + 1]? with
        | none => rw [hy] at h; cases h
        | some y =>
          rw [hy] at h
          have hk1 : k + 1 < ws.length := (List.getElem?_eq_some_iff.mp hy).1
          simp only at h
          split at h
          · rename_i hn
            injection h with h1 h2
            exact ⟨by omega, by omega, fun n e => by rw [← h1] at e; injection e with e; rw [← e]; exact hn⟩
          · cases h
      · cases h
theorem things_on {ws : List Str} {cs : List (Str × Int)} {ls : List (Str × List Str)} {k : Nat} {r : Res CL} (h : Things ws cs ls k r) : ∀ c j, r = .ok c j → k ≤ ws.length → k ≤ j ∧ j ≤ ws.length := by
  induction h with
  | done h =>
    intro c j e l
    injection e with e1 e2
    omega
  | err h t =>
    intro c j e l
    cases e
  | more h t m ih =>
    intro c j e l
    have := thingR_on t
    have := ih c j e (by omega)
    omega
theorem end_of {ws : List Str} (k : Nat) : EndP ws k (endF ws k) := by
  unfold endF
  cases hh : headR ws k with
  | no j => exact .bad hh
  | ok f k1 =>
    have l := headR_on hh
    have t := things_of (ws.length + 1) [] [] k1 (by omega) l.2.1
    simp only
    cases ht : thingsF ws (ws.length + 1) [] [] k1 with
    | no j =>
      rw [ht] at t
      exact .err hh t
    | ok c k2 =>
      rw [ht] at t
      exact .ok hh t
theorem end_on {ws : List Str} {k : Nat} {e : EndD} {j : Nat} (h : EndP ws k (.ok e j)) : k < j ∧ j ≤ ws.length := by
  cases h with
  | ok h t =>
    have a := headR_on h
    have b := things_on t _ _ rfl a.2.1
    omega
theorem rest_of {ws : List Str} : ∀ (n : Nat) (es : List EndD) (k : Nat), ws.length < k + n → k ≤ ws.length → RestP ws es k (restF ws n es k)
  | 0, _, k, h, l => by omega
  | n + 1, es, k, h, l => by
    unfold restF
    split
    · rename_i hs
      have t := end_of (ws := ws) (k + 1)
      cases ht : endF ws (k + 1) with
      | no j =>
        rw [ht] at t
        exact .err hs t
      | ok e k' =>
        rw [ht] at t
        have := end_on t
        exact .more hs t (rest_of n _ k' (by omega) (by omega))
    · rename_i hs
      exact .done hs
theorem ends_of {ws : List Str} : EndsP ws (endsF ws) := by
  unfold endsF
  split
  · rename_i h
    exact .bar h
  · rename_i h
    have t := end_of (ws := ws) 0
    cases ht : endF ws 0 with
    | no j =>
      rw [ht] at t
      exact .err h t
    | ok e k =>
      rw [ht] at t
      have := end_on t
      exact .more h t (rest_of (ws.length + 1) [e] k (by omega) (by omega))
theorem rest_on {ws : List Str} {es : List EndD} {k : Nat} {r : Res (List EndD)} (h : RestP ws es k r) : ∀ c j, r = .ok c j → k ≤ ws.length → k ≤ j ∧ j ≤ ws.length := by
  induction h with
  | done h =>
    intro c j e l
    injection e with e1 e2
    omega
  | err h t =>
    intro c j e l
    cases e
  | more h t m ih =>
    intro c j e l
    have := end_on t
    have := ih c j e (by omega)
    omega
theorem ends_on {ws : List Str} {es : List EndD} {j : Nat} (h : EndsP ws (.ok es j)) : j ≤ ws.length := by
  cases h with
  | bar h =>
    have := (List.getElem?_eq_some_iff.mp h).1
    omega
  | more h t m => exact (rest_on m _ _ rfl (end_on t).2).2
theorem read_of {ws : List Str} : ReadP ws (readF ws) := by
  unfold readF
  have t := ends_of (ws := ws)
  cases ht : endsF ws with
  | no j =>
    rw [ht] at t
    exact .no t
  | ok es k =>
    rw [ht] at t
    have := ends_on t
    simp only
    split
    · rename_i l
      exact .left t l
    · exact .ok t (by omega)
end My
namespace My
open PySem PySem.Spec PyProof.Rows L2
/-- the methods of Words, all of them -/
structure WK (P : Program) (w : World) (K : PySem.W.Frag) (mg : Str → Option Value) (base : Heap) (C CT e0 : Addr) (fA : Nat → Addr) (dA : Nat → FuncData) (ds0 : List Value) : Prop where
  W : WCls K C
  sees : MethK P w K mg base CX0 2 C "sees" (fA 1) (dA 1) ["self", "wanted"] (spSees C)
  seesW : MethK P w K mg base CX0 2 C "sees_word" (fA 2) (dA 2) ["self"] (spSeesW C)
  seesN : MethK P w K mg base CX0 3 C "sees_number" (fA 3) (dA 3) ["self", "least", "most"] (spSeesN C)
  tm : Meth K C "take" (fA 4)
  take : FnR P w K mg base (L2.CX P w) 5 (fA 4) (spTake C CT)
  takeW : MethK P w K mg base (L2.CX P w) 6 C "take_word" (fA 5) (dA 5) ["self"] (spTakeW C CT)
  nameL : MethK P w K mg base (L2.CX P w) 6 C "take_name" (fA 6) (dA 6) ["self", "last", "barred"] (spTakeN C CT fun H b bs => H b = some (.lst (bs.map V.str)))
  nameT : FnOk P w K mg base (L2.CX P w) 6 (fA 6) (dA 6) ["self", "last", "barred"] (spTakeN C CT fun H b bs => SqT K H b (bs.map V.str))
  b0 : Binds K (dA 6) ["self", "last", "barred"] ds0
  v0 : Vals [V.str "", .ref e0] ds0
  t0 : ∀ H, SqT K H e0 []
  takeN : MethK P w K mg base (L2.CX P w) 6 C "take_number" (fA 7) (dA 7) ["self", "least", "most"] (spTakeNum C CT)
  fin : MethK P w K mg base (L2.CX P w) 5 C "finish" (fA 8) (dA 8) ["self"] (spFinish C CT)
theorem tw_get {α : Type} {p : α → Bool} : ∀ {l : List α} {i : Nat}, i < (l.takeWhile p).length → l[i]? = (l.takeWhile p)[i]?
  | [], i, h => by simp at h
  | x :: r, i, h => by
    rw [List.takeWhile_cons] at h ⊢
    by_cases hp : p x = true
    · rw [if_pos hp] at h ⊢
      cases i with
      | zero => rfl
      | succ i =>
        rw [List.length_cons] at h
        simpa using tw_get (l := r) (i := i) (by omega)
    · rw [if_neg hp] at h
      simp at h
theorem tw_end {α : Type} {p : α → Bool} : ∀ {l : List α} {x : α}, l[(l.takeWhile p).length]? = some x → p x = false
  | [], x, h => by simp at h
  | y :: r, x, h => by
    rw [List.takeWhile_cons] at h
    by_cases hp : p y = true
    · rw [if_pos hp, List.length_cons] at h
      exact tw_end (l := r) (by simpa using h)
    · rw [if_neg hp] at h
      simp at h
      rw [← h]
      simpa using hp
theorem tw_all {α : Type} {p : α → Bool} {l : List α} {x : α} (h : x ∈ l.takeWhile p) : p x = true := List.all_eq_true.mp List.all_takeWhile x h
/-- what stands at the places of a run of words -/
theorem run_say {ws : List Str} {k i : Nat} (h : i ≤ ((ws.drop k).takeWhile wd).length) : sayW wd ws (k + i) = decide (i < ((ws.drop k).takeWhile wd).length) := by
  unfold sayW
  by_cases hi : i < ((ws.drop k).takeWhile wd).length
  · have e := tw_get hi
    rw [List.getElem?_drop] at e
    rw [e, List.getElem?_eq_getElem hi, decide_eq_true hi]
    exact tw_all (p := wd) (List.getElem_mem hi)
  · have ei : i = ((ws.drop k).takeWhile wd).length := by omega
    rw [decide_eq_false hi]
    cases hx : ws[k + i]? with
    | none => rfl
    | some x =>
      rw [← List.getElem?_drop, ei] at hx
      exact tw_end (p := wd) hx
theorem run_get {ws : List Str} {k i : Nat} (h : i < ((ws.drop k).takeWhile wd).length) : ws[k + i]? = ((ws.drop k).takeWhile wd)[i]? := by
  have e := tw_get h
  rw [List.getElem?_drop] at e
  exact e
theorem logR_dash {ws : List Str} {k : Nat} (h : ws[k]? = some dash) : logR ws k = .ok [] (k + 1) := by
  have hk := (List.getElem?_eq_some_iff.mp h).1
  unfold logR
  rw [List.drop_eq_getElem_cons hk]
  rw [List.getElem?_eq_getElem hk] at h
  injection h with h
  simp only [h]
  rfl
theorem logR_word {ws : List Str} {k : Nat} {z : Str} (h : ws[k]? = some z) (hw : wd z = true) : logR ws k = .ok (z :: (ws.drop (k + 1)).takeWhile wd) (k + 1 + ((ws.drop (k + 1)).takeWhile wd).length) := by
  have hk := (List.getElem?_eq_some_iff.mp h).1
  unfold logR
  rw [List.drop_eq_getElem_cons hk]
  rw [List.getElem?_eq_getElem hk] at h
  injection h with h
  have nd : z ≠ dash := fun e => by
    rw [e] at hw
    exact absurd hw (by decide +kernel)
  simp only [h, if_neg nd, hw, if_true]
theorem logR_no {ws : List Str} {k : Nat} (h : ∀ z, ws[k]? = some z → z ≠ dash ∧ wd z = false) : logR ws k = .no k := by
  unfold logR
  cases hd : ws.drop k with
  | nil => rfl
  | cons z r =>
    have hz : ws[k]? = some z := by
      have : (ws.drop k)[0]? = some z := by rw [hd]; rfl
      rwa [List.getElem?_drop, Nat.add_zero] at this
    obtain ⟨a, b⟩ := h z hz
    simp only [if_neg a, b]
    rfl
def spNextLog (C CT : Addr) : Sp := fun vs H Q E => ∃ (a : Addr) (ws : List Str) (k : Nat), vs = [.ref a] ∧ WAt C H a ws k ∧
  match logR ws k with
  | .ok zs j => ∀ (t : Addr) (H' : Hp), Keep1 a H H' → WAt C H' a ws j → H' t = some (.tup (zs.map V.str)) → Q (.ref t) H'
  | .no j => TellA E CT a H (j : Int)
section
variable {P : Program} {w : World} {K : PySem.W.Frag} {mg : Str → Option Value} {base : Heap} {C CT e0 : Addr} {fA : Nat → Addr} {dA : Nat → FuncData} {ds0 : List Value}
abbrev nNL : List Str := ["words", "row"]
theorem scNL : FnScope nNL ["words"] (defScope sNextLog) := ⟨rfl, rfl, rfl, by decide +kernel, rfl, by decide +kernel, by decide +kernel⟩
theorem rd_mR1 {sp : Sp} {E : XK} {σ : L2.St} {i : Nat} {m : Str} {H : Hp} {Q : VK} {a : Addr} {ws : List Str} {k : Nat} {te : TE} (wa : WAt C H a ws k) (e : σ[i]? = some (some (.ref a))) (h : m ≠ "pieces" ∧ m ≠ "at" ∧ m ≠ "many") (q : te σ H fun x H1 => sp [.ref a, x] H1 Q E) : tMethR C m sp E (tVar i) (tCons te tNil) σ H Q := by
  obtain ⟨dx, fs, h1, h2⟩ := wa.look m h
  exact ⟨.ref a, e, a, dx, fs, rfl, h1, h2, q⟩
theorem ok_nextLog {f : Addr} {fd : FuncData} (F : Fun K "_next_log" "_next_log" sNextLog f fd) (T : Txt mg) (Y : WK P w K mg base C CT e0 fA dA ds0) : FnOk P w K mg base (L2.CX P w) 7 f fd ["words"] (spNextLog C CT) := by
  refine F.okX scNL (fun vs H Q E h => ?_) (fun cdv A outer s H vs Q E hr h => ?_)
  · obtain ⟨a, ws, k, rfl, _⟩ := h
    rfl
  · obtain ⟨a, ws, k, rfl, wa, h⟩ := h
    refine ⟨_, pss_cons (ps_if (pt_val (pe_meth (pv 0) Y.W.c Y.sees.m Y.sees.G (hr.mono (by decide)) Y.sees.b .nil pass0 (pa_cons pe_str pa_nil)))
        (pss_cons (ps_expr (pe_methR (pv 0) Y.W.c Y.tm Y.take (hr.mono (by decide)) (passes_call (takes_of rfl rfl rfl rfl) (fun _ _ _ _ h => h)) (pa_cons pe_str pa_nil))) (pss_one (ps_ret (pe_tup pa_nil)))) pss_nil)
      (pss_cons (ps_set (i := 1) scNL.nd rfl (.inl rfl) (pe_lst (pa_cons (pe_meth0 (pv 0) Y.W.c Y.takeW.m Y.takeW.G hr Y.takeW.b .nil (passes_call (takes_of rfl rfl rfl rfl) (fun _ _ _ _ h => h))) pa_nil)))
      (pss_cons (ps_while (passes_of rfl) (pt_val (pe_meth0 (pv 0) Y.W.c Y.seesW.m Y.seesW.G (hr.mono (by decide)) Y.seesW.b .nil pass0))
          (pss_one (ps_expr (pe_bm PySem.F.plainAttrs_list PySem.F.slot_list_append PySem.F.type_list_append mt_append (pv 1) (pa_cons (pe_meth0 (pv 0) Y.W.c Y.takeW.m Y.takeW.G hr Y.takeW.b .nil (passes_call (takes_of rfl rfl rfl rfl) (fun _ _ _ _ h => h))) pa_nil)))))
      (pss_one (ps_ret (pe_callTy call_tuple_of (by rfl) T.tuple (by decide +kernel) (pa_cons (pv 1) pa_nil)))))), ?_⟩
    refine rd_m1 wa rfl (by decide +kernel) ⟨a, ws, k, dash, rfl, wa, _, rfl, ?_⟩
    by_cases hd : ws[k]? = some dash
    · rw [decide_eq_true hd]
      rw [logR_dash hd] at h
      refine iteT (rd_mR1 wa rfl (by decide +kernel) ⟨a, ws, k, [dash], rfl, by decide, wa, fun z hz hm H1 k1 w1 => ?_, fun n => absurd List.mem_cons_self (n dash hd)⟩)
      refine ⟨Nat.zero_le _, fun t ht => ?_⟩
      have s := same_new (o := .tup []) ht
      exact h t _ (k1.trans (.of s)) (w1.keep s) upd_same
    · rw [decide_eq_false hd]
      refine iteF (rd_m0 wa rfl (by decide +kernel) ⟨a, ws, k, rfl, wa, fun z hz hw H1 k1 w1 => ?_, fun n => ?_⟩)
      · rw [logR_word hz hw] at h
        obtain ⟨T0, eT⟩ : ∃ T0, (ws.drop (k + 1)).takeWhile wd = T0 := ⟨_, rfl⟩
        have say := fun i => run_say (ws := ws) (k := k + 1) (i := i)
        have get := fun i => run_get (ws := ws) (k := k + 1) (i := i)
        rw [eT] at h say get
        refine ⟨by show 1 ≤ sizeLine; decide, fun l hl => ?_⟩
        have sl := same_new (o := .lst [V.str z]) hl
        have few : T0.length ≤ 900 := by
          rw [← eT]
          have := congrArg List.length (List.takeWhile_append_dropWhile (p := wd) (l := ws.drop (k + 1)))
          rw [List.length_append, List.length_drop] at this
          have := wa.few
          omega
        have nla : l ≠ a := by
          obtain ⟨dx, pl, as, q1, _⟩ := w1.ob
          exact (ne_of_none q1 hl).symm
        have hln : H l = none := by
          cases e : H l with
          | none => rfl
          | some o =>
            have := k1 _ _ nla e
            rw [hl] at this
            cases this
        refine ⟨fun m σ H' => ∃ i, m = T0.length - i ∧ i ≤ T0.length ∧ σ = [some (.ref a), some (.ref l)] ∧ Keep1 a H H' ∧ WAt C H' a ws (k + 1 + i) ∧ H' l = some (.lst ((z :: T0.take i).map V.str)), ⟨_, 0, rfl, Nat.zero_le _, rfl, k1.trans (.of sl), w1.keep sl, upd_same⟩, fun m σ H' hw => ?_⟩
        obtain ⟨i, rfl, hi, rfl, kk, w2, hl2⟩ := hw
        refine rd_m0 w2 rfl (by decide +kernel) ⟨a, ws, k + 1 + i, rfl, w2, fun H2 s2 => ⟨_, rfl, ?_⟩⟩
        have w3 := w2.keep s2
        have k3 : Keep1 a H H2 := kk.trans (.of s2)
        have hl3 := s2 _ _ hl2
        rw [say i hi]
        by_cases hlt : i < T0.length
        · rw [decide_eq_true hlt]
          refine iteT ?_
          refine ⟨fun σ' H3 => ∃ j, j = i + 1 ∧ j ≤ T0.length ∧ σ' = [some (.ref a), some (.ref l)] ∧ Keep1 a H H3 ∧ WAt C H3 a ws (k + 1 + j) ∧ H3 l = some (.lst ((z :: T0.take j).map V.str)), fun σ' H3 ⟨j, ej, hj, q⟩ => ⟨T0.length - (i + 1), by omega, j, by omega, hj, q⟩, ?_⟩
          have hz2 := get i hlt
          rw [List.getElem?_eq_getElem hlt] at hz2
          have hwd : wd T0[i] = true := by
            have := say i hi
            unfold sayW at this
            rw [hz2, decide_eq_true hlt] at this
            exact this
          refine ⟨.ref l, rfl, .inl ⟨rfl, _, SqL.of hl3⟩, ?_⟩
          refine rd_m0 w3 rfl (by decide +kernel) ⟨a, ws, k + 1 + i, rfl, w3, fun y hy hyw H4 k4 w4 => ?_, fun n => absurd hwd (by rw [n _ hz2]; decide)⟩
          rw [hz2] at hy
          injection hy with hy
          subst hy
          have hl4 := k4 _ _ nla hl3
          refine ⟨l, _, .str T0[i], rfl, rfl, hl4, small1000 ?_, ?_⟩
          · rw [List.length_map, List.length_cons, List.length_take]
            omega
          · have w4' := w4.ob
            have kU : ∀ b o, b ≠ l → H4 b = some o → (upd H4 l (.lst ((z :: T0.take i).map V.str ++ [V.str T0[i]]))) b = some o := fun b o n e => by
              rw [upd_ne n]
              exact e
            refine ⟨i + 1, rfl, hlt, rfl, fun b o n e => kU b o (fun y => by rw [y, hln] at e; cases e) (k4 _ _ n (k3 _ _ n e)), ?_, ?_⟩
            · obtain ⟨dx, pl, as, q1, q2, q3, q4⟩ := w4'
              have npl : pl ≠ l := fun y => by
                obtain ⟨dx5, pl5, as5, p1, p2, p3, p4⟩ := w1.ob
                have e5 := k4 _ _ nla (s2 _ _ hl2)
                rw [← y, q2] at e5
                injection e5 with e5
                injection e5 with e5
                have := congrArg List.head? e5
                cases as with
                | nil => cases this
                | cons x r => cases this
              refine ⟨⟨dx, pl, as, kU _ _ nla.symm q1, kU _ _ npl q2, q3, fun j p e => ?_⟩, w4.le, w4.few, w4.len⟩
              obtain ⟨y, y1, y2⟩ := q4 j p e
              refine ⟨y, y1, kU _ _ (fun u => ?_) y2⟩
              rw [u, hl4] at y2
              cases y2
            · rw [upd_same]
              show some (HO.lst (V.str z :: ((T0.take i).map V.str ++ [V.str T0[i]]))) = _
              rw [take_next V.str (List.getElem?_eq_getElem hlt)]
              rfl
        · rw [decide_eq_false hlt]
          have ei : i = T0.length := by omega
          subst ei
          rw [List.take_length] at hl3
          refine iteF ⟨.ref l, rfl, l, _, rfl, .inl ⟨SqL.of hl3, fun t ht => ?_⟩⟩
          have s := same_new (o := .tup ((z :: T0).map V.str)) ht
          exact h t _ (k3.trans (.of s)) (w3.keep s) upd_same
      · have e : logR ws k = .no k := logR_no fun z hz => ⟨fun y => hd (y ▸ hz), n z hz⟩
        rw [e] at h
        exact h
end
end My
namespace My
open PySem PySem.Spec PyProof.Rows L2
theorem lastN_snoc {l : List Str} {z : Str} : lastN (l ++ [z]) = z := by
  unfold lastN
  rw [List.getLast?_concat]
  rfl
theorem asc_last : ∀ {l : List Str}, asc l → ∀ x ∈ l, x = lastN l ∨ x.cps.toList < (lastN l).cps.toList := by
  intro l h x hx
  rcases List.eq_nil_or_concat l with rfl | ⟨r, z, rfl⟩
  · cases hx
  · rw [List.concat_eq_append] at h hx ⊢
    rw [lastN_snoc]
    rcases List.mem_append.mp hx with hx | hx
    · have := (List.pairwise_append.mp h).2.2 x hx z (List.mem_singleton.mpr rfl)
      exact .inr this
    · exact .inl (List.mem_singleton.mp hx)
theorem asc_snoc {l : List Str} {z : Str} (h : asc l) (hz : (lastN l).cps.toList < z.cps.toList) : asc (l ++ [z]) := by
  refine List.pairwise_append.mpr ⟨h, List.pairwise_singleton _ _, fun x hx y hy => ?_⟩
  rw [List.mem_singleton.mp hy]
  rcases asc_last h x hx with e | e
  · rw [e]; exact hz
  · exact List.lt_trans e hz
theorem asc_notin {l : List Str} {z : Str} (h : asc l) (hz : (lastN l).cps.toList < z.cps.toList) : z ∉ l := fun m => by
  rcases asc_last h z m with e | e
  · rw [← e] at hz
    exact List.lt_irrefl _ hz
  · exact List.lt_irrefl _ (List.lt_trans e hz)
/-- what holds of what is read so far -/
structure GoodCL (ws : List Str) (k : Nat) (cs : List (Str × Int)) (ls : List (Str × List Str)) : Prop where
  ca : asc (cs.map (·.1))
  cv : ∀ c ∈ cs, nm c.1 = true ∧ 0 ≤ c.2 ∧ c.2 < 4
  la : asc (ls.map (·.1))
  lv : ∀ l ∈ ls, nm l.1 = true ∧ ∀ z ∈ l.2, wd z = true
  few : 3 * (cs.length + ls.length) ≤ k
  wf : ∀ l ∈ ls, l.2.length ≤ ws.length
theorem figOf_some {o : Option Str} {v : Nat} (h : figOf o = some v) : v < 4 ∧ o = some (fig v) := by
  unfold figOf at h
  cases o with
  | none => cases h
  | some z =>
    simp only at h
    split at h
    · rename_i e; injection h with h; subst h; exact ⟨by decide, congrArg some e⟩
    · split at h
      · rename_i e; injection h with h; subst h; exact ⟨by decide, congrArg some e⟩
      · split at h
        · rename_i e; injection h with h; subst h; exact ⟨by decide, congrArg some e⟩
        · split at h
          · rename_i e; injection h with h; subst h; exact ⟨by decide, congrArg some e⟩
          · cases h
theorem figOf_fig : ∀ v, v < 4 → figOf (some (fig v)) = some v := by decide +kernel
theorem figOf_none {o : Option Str} (h : ∀ z, o = some z → z ∉ figs) : figOf o = none := by
  cases hf : figOf o with
  | none => rfl
  | some v =>
    obtain ⟨a, b⟩ := figOf_some hf
    exfalso
    refine h _ b ?_
    have : v = 0 ∨ v = 1 ∨ v = 2 ∨ v = 3 := by omega
    rcases this with rfl | rfl | rfl | rfl <;> simp [figs]
theorem hits_figs {ws : List Str} {k : Nat} : hits ws k figs = (figOf ws[k]?).isSome := by
  cases hz : ws[k]? with
  | none => rw [hits_none hz]; rfl
  | some z =>
    rw [hits_mem hz]
    by_cases hm : z ∈ figs
    · rw [decide_eq_true hm]
      have m : z = fig 0 ∨ z = fig 1 ∨ z = fig 2 ∨ z = fig 3 := by simpa [figs] using hm
      rcases m with rfl | rfl | rfl | rfl
      · rw [figOf_fig 0 (by decide)]; rfl
      · rw [figOf_fig 1 (by decide)]; rfl
      · rw [figOf_fig 2 (by decide)]; rfl
      · rw [figOf_fig 3 (by decide)]; rfl
    · rw [decide_eq_false hm, figOf_none fun y hy => by injection hy with hy; rw [← hy]; exact hm]
      rfl
theorem logR_wf {ws : List Str} {k j : Nat} {zs : List Str} (h : logR ws k = .ok zs j) : zs.length ≤ ws.length := by
  unfold logR at h
  cases hd : ws.drop k with
  | nil => rw [hd] at h; cases h
  | cons z r =>
    rw [hd] at h
    have l := congrArg List.length hd
    rw [List.length_drop, List.length_cons] at l
    have : (r.takeWhile wd).length ≤ r.length := by
      have := congrArg List.length (List.takeWhile_append_dropWhile (p := wd) (l := r))
      rw [List.length_append] at this
      omega
    simp only at h
    split at h
    · injection h with h1 h2
      rw [← h1]
      exact Nat.zero_le _
    · split at h
      · injection h with h1 h2
        rw [← h1, List.length_cons]
        omega
      · cases h
/-- the ways of a thing -/
inductive ThingW (ws : List Str) (k : Nat) (cs : List (Str × Int)) (ls : List (Str × List Str)) : Res CL → Prop
  | no (h : ∀ z, ws[k]? = some z → mayN cs ls z = false) : ThingW ws k cs ls (.no k)
  | cell {z : Str} {v : Nat} (hz : ws[k]? = some z) (h : mayN cs ls z = true) (hc : mayC cs ls z = true) (hv : v < 4) (hf : ws[k + 1]? = some (fig v)) : ThingW ws k cs ls (.ok (cs ++ [(z, (v : Int))], ls) (k + 2))
  | log {z : Str} {zs : List Str} {j : Nat} (hz : ws[k]? = some z) (h : mayN cs ls z = true) (hc : (mayC cs ls z && hits ws (k + 1) figs) = false) (hl : logR ws (k + 1) = .ok zs j) : ThingW ws k cs ls (.ok (cs, ls ++ [(z, zs)]) j)
  | bad {z : Str} {j : Nat} (hz : ws[k]? = some z) (h : mayN cs ls z = true) (hc : (mayC cs ls z && hits ws (k + 1) figs) = false) (hl : logR ws (k + 1) = .no j) : ThingW ws k cs ls (.no j)
theorem thing_ways {ws : List Str} {k : Nat} {cs : List (Str × Int)} {ls : List (Str × List Str)} : ThingW ws k cs ls (thingR ws k cs ls) := by
  unfold thingR
  cases hz : ws[k]? with
  | none => exact .no fun z h => by rw [hz] at h; cases h
  | some z =>
    simp only
    by_cases hn : mayN cs ls z = true
    · rw [if_pos hn]
      have log : (mayC cs ls z && hits ws (k + 1) figs) = false → ThingW ws k cs ls (match logR ws (k + 1) with | .no j => .no j | .ok zs j => .ok (cs, ls ++ [(z, zs)]) j) := fun hc => by
        cases hl : logR ws (k + 1) with
        | no j => exact .bad hz hn hc hl
        | ok zs j => exact .log hz hn hc hl
      by_cases hc : mayC cs ls z = true
      · rw [if_pos hc]
        cases hf : figOf ws[k + 1]? with
        | none => exact log (by rw [hits_figs, hf]; simp)
        | some v =>
          obtain ⟨a, b⟩ := figOf_some hf
          exact .cell hz hn hc a b
      · rw [if_neg hc]
        exact log (by rw [Bool.eq_false_iff.mpr hc]; rfl)
    · rw [if_neg hn]
      exact .no fun y hy => by
        rw [hz] at hy
        injection hy with hy
        rw [← hy]
        exact Bool.eq_false_iff.mpr hn
theorem mayN_of {cs : List (Str × Int)} {ls : List (Str × List Str)} {z : Str} (h : mayN cs ls z = true) : (lastN (ls.map (·.1))).cps.toList < z.cps.toList ∧ z ∉ cs.map (·.1) ∧ nm z = true := by
  unfold mayN nmOk at h
  simp only [Bool.and_eq_true, decide_eq_true_eq, Bool.not_eq_true', decide_eq_false_iff_not] at h
  exact ⟨h.1.1, h.1.2, h.2⟩
theorem mayC_of {cs : List (Str × Int)} {ls : List (Str × List Str)} {z : Str} (h : mayC cs ls z = true) : ls = [] ∧ (lastN (cs.map (·.1))).cps.toList < z.cps.toList := by
  unfold mayC at h
  simp only [Bool.and_eq_true, decide_eq_true_eq] at h
  exact ⟨List.isEmpty_iff.mp h.1, h.2⟩
theorem GoodCL.step {ws : List Str} {k j : Nat} {cs : List (Str × Int)} {ls : List (Str × List Str)} {c : CL} (G : GoodCL ws k cs ls) (h : thingR ws (k + 1) cs ls = .ok c j) : GoodCL ws j c.1 c.2 := by
  have w := thing_ways (ws := ws) (k := k + 1) (cs := cs) (ls := ls)
  rw [h] at w
  have few := G.few
  cases w with
  | cell hz hn hc hv hf =>
    obtain ⟨a1, a2, a3⟩ := mayN_of hn
    obtain ⟨b1, b2⟩ := mayC_of hc
    refine ⟨?_, fun c hc => ?_, G.la, G.lv, ?_, G.wf⟩
    · dsimp only
      rw [List.map_append]
      exact asc_snoc G.ca b2
    · rcases List.mem_append.mp hc with hc | hc
      · exact G.cv c hc
      · rw [List.mem_singleton.mp hc]
        exact ⟨a3, by simp, by show ((_ : Nat) : Int) < 4; omega⟩
    · show 3 * ((cs ++ [_]).length + ls.length) ≤ k + 1 + 2
      rw [List.length_append, List.length_singleton]
      omega
  | log hz hn hc hl =>
    obtain ⟨a1, a2, a3⟩ := mayN_of hn
    have l := logR_on hl
    refine ⟨G.ca, G.cv, ?_, fun c hc => ?_, ?_, fun c hc => ?_⟩
    · dsimp only
      rw [List.map_append]
      exact asc_snoc G.la a1
    · rcases List.mem_append.mp hc with hc | hc
      · exact G.lv c hc
      · rw [List.mem_singleton.mp hc]
        exact ⟨a3, l.2.2⟩
    · show 3 * (cs.length + (ls ++ [_]).length) ≤ j
      rw [List.length_append, List.length_singleton]
      omega
    · rcases List.mem_append.mp hc with hc | hc
      · exact G.wf c hc
      · rw [List.mem_singleton.mp hc]
        exact logR_wf hl
theorem things_good {ws : List Str} {cs : List (Str × Int)} {ls : List (Str × List Str)} {k : Nat} {r : Res CL} (h : Things ws cs ls k r) : GoodCL ws k cs ls → ∀ c j, r = .ok c j → GoodCL ws j c.1 c.2 := by
  induction h with
  | done h =>
    intro G c j e
    injection e with e1 e2
    subst e1 e2
    exact G
  | err h t =>
    intro G c j e
    cases e
  | more h t m ih =>
    intro G c j e
    exact ih (G.step t) c j e
theorem good_nil {ws : List Str} {k : Nat} : GoodCL ws k [] [] := ⟨List.Pairwise.nil, (fun _ h => by cases h), List.Pairwise.nil, (fun _ h => by cases h), Nat.zero_le _, (fun _ h => by cases h)⟩
theorem end_good {ws : List Str} {k j : Nat} {e : EndD} (n : ws.length ≤ 120) (h : EndP ws k (.ok e j)) : GoodE e := by
  cases h with
  | @ok f k1 cs ls k2 hh t =>
    have a := headR_on hh
    have G := things_good t good_nil _ _ rfl
    have l := things_on t _ _ rfl a.2.1
    have few := G.few
    exact ⟨a.2.2, G.ca, G.cv, G.la, G.lv, by show cs.length ≤ 40; have := few; simp at this; omega, by show ls.length ≤ 40; have := few; simp at this; omega, fun l hl => Nat.le_trans (G.wf l hl) (by omega)⟩
theorem rest_good {ws : List Str} (n : ws.length ≤ 120) {es : List EndD} {k : Nat} {r : Res (List EndD)} (h : RestP ws es k r) : (∀ e ∈ es, GoodE e) → es.length ≤ k → ∀ c j, r = .ok c j → (∀ e ∈ c, GoodE e) ∧ c.length ≤ j := by
  induction h with
  | done h =>
    intro G l c j e
    injection e with e1 e2
    subst e1 e2
    exact ⟨G, l⟩
  | err h t =>
    intro G l c j e
    cases e
  | @more es k e0 k' r h t m ih =>
    intro G l c j e
    refine ih (fun x hx => ?_) ?_ c j e
    · rcases List.mem_append.mp hx with hx | hx
      · exact G x hx
      · rw [List.mem_singleton.mp hx]
        exact end_good n t
    · have := end_on t
      rw [List.length_append, List.length_singleton]
      omega
end My
namespace My
open PySem PySem.Spec PyProof.Rows L2
theorem WAt.updD {C : Addr} {H : Hp} {a b : Addr} {ws : List Str} {k : Nat} {ks : List (Key × V)} {o : HO} (h : WAt C H a ws k) (hb : H b = some (.dK ks)) : WAt C (upd H b o) a ws k := by
  obtain ⟨dx, pl, as, h1, h2, h3, h4⟩ := h.ob
  have up : ∀ {x : Addr} {u : HO}, H x = some u → (∀ ks, u ≠ .dK ks) → (upd H b o) x = some u := fun {x u} e n => by
    rw [upd_ne (fun z => by rw [z, hb] at e; injection e with e; exact n _ e.symm)]
    exact e
  exact ⟨⟨dx, pl, as, up h1 (fun _ z => by cases z), up h2 (fun _ z => by cases z), h3, fun i p e => by obtain ⟨z, z1, z2⟩ := h4 i p e; exact ⟨z, z1, up z2 (fun _ z => by cases z)⟩⟩, h.le, h.few, h.len⟩
theorem rd_mt {sp : Sp} {dvs : List V} {E : XK} {σ : L2.St} {i : Nat} {m : Str} {C : Addr} {H : Hp} {Q : VK} {a : Addr} {ws : List Str} {k : Nat} {t : TA} (wa : WAt C H a ws k) (e : σ[i]? = some (some (.ref a))) (h : m ≠ "pieces" ∧ m ≠ "at" ∧ m ≠ "many") (q : t σ H fun vs H1 => sp (.ref a :: (vs ++ dvs)) H1 Q E) : tMeth C m sp dvs E (tVar i) t σ H Q := by
  obtain ⟨dx, fs, h1, h2⟩ := wa.look m h
  exact ⟨.ref a, e, a, dx, fs, rfl, h1, h2, q⟩
theorem rd_mR {sp : Sp} {E : XK} {σ : L2.St} {i : Nat} {m : Str} {C : Addr} {H : Hp} {Q : VK} {a : Addr} {ws : List Str} {k : Nat} {t : TA} (wa : WAt C H a ws k) (e : σ[i]? = some (some (.ref a))) (h : m ≠ "pieces" ∧ m ≠ "at" ∧ m ≠ "many") (q : t σ H fun vs H1 => sp (.ref a :: vs) H1 Q E) : tMethR C m sp E (tVar i) t σ H Q := by
  obtain ⟨dx, fs, h1, h2⟩ := wa.look m h
  exact ⟨.ref a, e, a, dx, fs, rfl, h1, h2, q⟩
/-- the loop's heap -/
structure Lp (C : Addr) (H0 H : Hp) (a cA lA : Addr) (ws : List Str) (k : Nat) (cs : List (Str × Int)) (ls : List (Str × List Str)) (ms : List (Str × Addr × List Str)) : Prop where
  wa : WAt C H a ws k
  kp : Keep1 a H0 H
  c : H cA = some (.dK (kvC cs))
  l : H lA = some (.dK (kvL ms))
  em : ms.map stripL = ls
  t : ∀ p ∈ ms, H p.2.1 = some (.tup (p.2.2.map V.str))
theorem Lp.keep {C : Addr} {H0 H H' : Hp} {a cA lA : Addr} {ws : List Str} {k : Nat} {cs : List (Str × Int)} {ls : List (Str × List Str)} {ms : List (Str × Addr × List Str)} (L : Lp C H0 H a cA lA ws k cs ls ms) (s : Same' H H') : Lp C H0 H' a cA lA ws k cs ls ms :=
  ⟨L.wa.keep s, L.kp.trans (.of s), s _ _ L.c, s _ _ L.l, L.em, fun p hp => s _ _ (L.t p hp)⟩
theorem WAt.ne {C : Addr} {H : Hp} {a b : Addr} {ws : List Str} {k : Nat} {o : HO} (h : WAt C H a ws k) (hb : H b = some o) (n : ∀ dx fs, o ≠ .ins C dx fs) : b ≠ a := fun z => by
  obtain ⟨dx, pl, as, h1, _⟩ := h.ob
  rw [z, h1] at hb
  injection hb with hb
  exact n _ _ hb.symm
theorem Lp.on {C : Addr} {H0 H H' : Hp} {a cA lA : Addr} {ws : List Str} {k k' : Nat} {cs : List (Str × Int)} {ls : List (Str × List Str)} {ms : List (Str × Addr × List Str)} (L : Lp C H0 H a cA lA ws k cs ls ms) (s : Keep1 a H H') (w : WAt C H' a ws k') : Lp C H0 H' a cA lA ws k' cs ls ms :=
  ⟨w, L.kp.trans s, s _ _ (L.wa.ne L.c fun _ _ z => by cases z) L.c, s _ _ (L.wa.ne L.l fun _ _ z => by cases z) L.l, L.em, fun p hp => s _ _ (L.wa.ne (L.t p hp) fun _ _ z => by cases z) (L.t p hp)⟩
def spNextEnd (C CT CE : Addr) : Sp := fun vs H Q E => ∃ (a : Addr) (ws : List Str) (k : Nat) (r : Res EndD), vs = [.ref a] ∧ WAt C H a ws k ∧ ws.length ≤ 120 ∧ EndP ws k r ∧
  match r with
  | .ok e j => ∀ (p : Addr) (H' : Hp), Keep1 a H H' → WAt C H' a ws j → EndAt CE H' p e → Q (.ref p) H'
  | .no j => TellA E CT a H (j : Int)
/-- End, as it is made -/
structure EndK (P : Program) (w : World) (K : PySem.W.Frag) (mg : Str → Option Value) (base : Heap) (CE fI : Addr) (dI : FuncData) : Prop where
  N : EndC K mg CE
  m : Mk K CE fI
  G : FnOk P w K mg base CX0 4 fI dI ["self", "failed", "cells", "logs"] (spI3 CE)
  b : Binds K dI ["self", "failed", "cells", "logs"] []
theorem tw_c {H : Hp} {a : Addr} {cs : List (Str × Int)} (n : cs.length ≤ 500) (u : asc (cs.map (·.1))) (h : H a = some (.dK (kvC cs))) : Tw H (.ref a) (.dict (dvC cs)) := by
  refine .dc h ?_ (by rw [List.length_map]; exact n) (by have := nd_inr (asc_nodup u); rw [List.map_map] at this ⊢; exact this)
  clear u h n
  induction cs with
  | nil => exact .nil
  | cons c r ih => exact .cons ⟨rfl, .flat (.int _), rfl⟩ ih
theorem tw_l {H : Hp} {a : Addr} {ms : List (Str × Addr × List Str)} {ls : List (Str × List Str)} (em : ms.map stripL = ls) (n : ls.length ≤ 500) (u : asc (ls.map (·.1))) (wf : ∀ l ∈ ls, l.2.length ≤ 1000) (h : H a = some (.dK (kvL ms))) (ht : ∀ c ∈ ms, H c.2.1 = some (.tup (c.2.2.map V.str))) : Tw H (.ref a) (.dict (dvL ls)) := by
  have nm : ms.map (·.1) = ls.map (·.1) := by
    rw [← em, List.map_map]
    rfl
  have lm : ms.length = ls.length := by
    have := congrArg List.length em
    rwa [List.length_map] at this
  refine .dc h ?_ (by rw [List.length_map, lm]; exact n) ?_
  · subst em
    clear u h n nm lm
    induction ms with
    | nil => exact .nil
    | cons c r ih =>
      refine .cons ⟨rfl, .tup (ht c List.mem_cons_self) (fls_strs _) ?_, rfl⟩ (ih (fun d hd => ht d (List.mem_cons_of_mem _ hd)) fun l hl => wf l (List.mem_cons_of_mem _ hl))
      rw [List.length_map]
      exact wf (stripL c) List.mem_cons_self
  · have k := nd_inr (asc_nodup u)
    rw [← nm, List.map_map] at k
    rw [List.map_map]
    exact k
section
variable {P : Program} {w : World} {K : PySem.W.Frag} {mg : Str → Option Value} {base : Heap} {C CT CE e0 fI : Addr} {dI : FuncData} {fA : Nat → Addr} {dA : Nat → FuncData} {ds0 : List Value}
abbrev nNE : List Str := ["words", "failed", "cells", "logs", "last_cell", "last_log", "name"]
theorem scNE : FnScope nNE ["words"] (defScope sNextEnd) := ⟨rfl, rfl, rfl, by decide +kernel, rfl, by decide +kernel, by decide +kernel⟩
def inNE (i : Nat) : Stmt := (defBody sNextEnd).getD i (.Pass ⟨0, 0, 0, 0⟩)
def whBody (s : Stmt) : List Stmt := match s with
  | .While _ b .. => b
  | _ => []
abbrev XNE (P : Program) (w : World) (K : PySem.W.Frag) (mg : Str → Option Value) (base : Heap) (f : Addr) (cdv : Value) (A : Around) (outer : List Env) (s : Shared) (H : Hp) (E : XK) : Cx := cxOf (L2.CX P w) P w K mg base nNE "_next_end" (defScope sNextEnd) f cdv A outer s H E
variable {f : Addr} {cdv : Value} {A : Around} {outer : List Env} {s : Shared} {H0 : Hp} {E : XK}
/-- failed = .. -/
theorem ne0 (T : Txt mg) (Y : WK P w K mg base C CT e0 fA dA ds0) (hr : Room 7 (XNE P w K mg base f cdv A outer s H0 E).A) : ∃ t, PS (XNE P w K mg base f cdv A outer s H0 E) (inNE 0) t ∧ ∀ (a : Addr) (ws : List Str) (k : Nat) (z1 z2 z3 z4 z5 z6 : Option V) (H : Hp) (D : Ends), WAt C H a ws k →
    (∀ f j H', headR ws k = .ok f j → Keep1 a H H' → WAt C H' a ws j → D.nx [some (.ref a), some (match f with | none => .non | some n => .str n), z2, z3, z4, z5, z6] H') → (∀ j, headR ws k = .no j → TellA E CT a H (j : Int)) → t D [some (.ref a), z1, z2, z3, z4, z5, z6] H := by
  refine ⟨_, ps_set (i := 1) scNE.nd rfl (.inl rfl) (pe_ifExp (pt_cmpR op_eq (pe_methR (pv 0) Y.W.c Y.tm Y.take (hr.mono (by decide)) (passes_call (takes_of rfl rfl rfl rfl) (fun _ _ _ _ h => h)) (pa_cons pe_str (pa_cons pe_str pa_nil))) pe_str (nomark _))
    (pe_meth0 (pv 0) Y.W.c Y.nameL.m Y.nameT (hr.mono (by decide)) Y.b0 Y.v0 (passes_call (takes_of rfl rfl rfl rfl) (fun _ _ _ _ h => h))) pe_non), ?_⟩
  intro a ws k z1 z2 z3 z4 z5 z6 H D wa q no
  refine rd_mR wa rfl (by decide +kernel) ⟨a, ws, k, ["done", "failed"], rfl, by decide, wa, fun z hz hm H1 k1 w1 => ?_, fun n => ?_⟩
  · have hm' : z = "done" ∨ z = "failed" := by simpa using hm
    rcases hm' with rfl | rfl
    · refine ⟨rfl, _, rfl, ?_⟩
      rw [decide_eq_false (by decide +kernel)]
      refine iteF ?_
      exact q none (k + 1) H1 (by unfold headR; rw [hz]; rfl) k1 w1
    · refine ⟨rfl, _, rfl, ?_⟩
      rw [decide_eq_true rfl]
      refine iteT (rd_m0 w1 rfl (by decide +kernel) ⟨a, e0, "", [], ws, k + 1, rfl, Y.t0 H1, fun H' _ => Y.t0 H', by decide, w1, fun y hy hn H2 k2 w2 => ?_, fun n => ?_⟩)
      · have hnm : nm y = true := by
          unfold nmOk at hn
          simp only [Bool.and_eq_true] at hn
          exact hn.2
        refine q (some y) (k + 2) H2 ?_ (k1.trans k2) w2
        unfold headR
        rw [hz, hy]
        simp only [if_neg (show ("failed" : Str) ≠ "done" by decide +kernel), hnm, if_true]
      · have e : headR ws k = .no (k + 1) := by
          unfold headR
          rw [hz]
          simp only [if_neg (show ("failed" : Str) ≠ "done" by decide +kernel), if_true]
          cases hy : ws[k + 1]? with
          | none => rfl
          | some y =>
            have h1 := n y hy
            have : nm y = false := by
              cases hnm : nm y with
              | false => rfl
              | true =>
                exfalso
                have l := (wd_ok (nm_wd hnm)).2.1
                have lt : (("" : Str)).cps.toList < y.cps.toList := by
                  show ([] : List Nat) < _
                  cases hc : y.cps.toList with
                  | nil =>
                    have : y.cps.size = 0 := by rw [← Array.length_toList, hc]; rfl
                    have : y.length = 0 := this
                    omega
                  | cons c r => exact List.nil_lt_cons _ _
                unfold nmOk at h1
                rw [decide_eq_true lt, hnm] at h1
                simp at h1
            simp only [this]
            rfl
        exact (no _ e).on k1
  · refine no k ?_
    unfold headR
    cases hz : ws[k]? with
    | none => rfl
    | some z =>
      have := n z hz
      have h1 : z ≠ "done" := fun e => this (by rw [e]; simp)
      have h2 : z ≠ "failed" := fun e => this (by rw [e]; simp)
      simp only [if_neg h1, if_neg h2]
end
end My
namespace My
open PySem PySem.Spec PyProof.Rows L2
theorem thingR_no {ws : List Str} {k : Nat} {cs : List (Str × Int)} {ls : List (Str × List Str)} (h : ∀ z, ws[k]? = some z → mayN cs ls z = false) : thingR ws k cs ls = .no k := by
  unfold thingR
  cases hz : ws[k]? with
  | none => rfl
  | some z =>
    have := h z hz
    simp only [this]
    rfl
theorem thingR_cell {ws : List Str} {k v : Nat} {cs : List (Str × Int)} {ls : List (Str × List Str)} {z : Str} (hz : ws[k]? = some z) (hn : mayN cs ls z = true) (hc : mayC cs ls z = true) (hv : v < 4) (hf : ws[k + 1]? = some (fig v)) : thingR ws k cs ls = .ok (cs ++ [(z, (v : Int))], ls) (k + 2) := by
  unfold thingR
  rw [hz]
  simp only [hn, hc, if_true]
  rw [hf, figOf_fig v hv]
theorem thingR_log {ws : List Str} {k : Nat} {cs : List (Str × Int)} {ls : List (Str × List Str)} {z : Str} (hz : ws[k]? = some z) (hn : mayN cs ls z = true) (hc : (mayC cs ls z && hits ws (k + 1) figs) = false) :
    thingR ws k cs ls = (match logR ws (k + 1) with | .no j => .no j | .ok zs j => .ok (cs, ls ++ [(z, zs)]) j) := by
  unfold thingR
  rw [hz]
  simp only [hn, if_true]
  rw [hits_figs] at hc
  cases hm : mayC cs ls z with
  | false => cases logR ws (k + 1) <;> simp
  | true =>
    rw [hm, Bool.true_and] at hc
    have : figOf ws[k + 1]? = none := by
      cases hf : figOf ws[k + 1]? with
      | none => rfl
      | some v => rw [hf] at hc; cases hc
    cases logR ws (k + 1) <;> simp [this]
theorem Lp.putC {C : Addr} {H0 H : Hp} {a cA lA : Addr} {ws : List Str} {k : Nat} {cs : List (Str × Int)} {ls : List (Str × List Str)} {ms : List (Str × Addr × List Str)} (L : Lp C H0 H a cA lA ws k cs ls ms) (n0 : H0 cA = none) (ne : cA ≠ lA) {z : Str} {v : Int} : Lp C H0 (upd H cA (.dK (kvC (cs ++ [(z, v)])))) a cA lA ws k (cs ++ [(z, v)]) ls ms := by
  refine ⟨L.wa.updD L.c, fun b o n e => ?_, upd_same, ?_, L.em, fun p hp => ?_⟩
  · rw [upd_ne (ne_of_none e n0)]
    exact L.kp b o n e
  · rw [upd_ne (Ne.symm ne)]
    exact L.l
  · have h := L.t p hp
    rw [upd_ne fun y => by rw [y, L.c] at h; cases h]
    exact h
theorem Lp.putL {C : Addr} {H0 H : Hp} {a cA lA : Addr} {ws : List Str} {k : Nat} {cs : List (Str × Int)} {ls : List (Str × List Str)} {ms : List (Str × Addr × List Str)} (L : Lp C H0 H a cA lA ws k cs ls ms) (n0 : H0 lA = none) (ne : cA ≠ lA) {z : Str} {t : Addr} {zs : List Str} (ht : H t = some (.tup (zs.map V.str))) :
    Lp C H0 (upd H lA (.dK (kvL (ms ++ [(z, t, zs)])))) a cA lA ws k cs (ls ++ [(z, zs)]) (ms ++ [(z, t, zs)]) := by
  refine ⟨L.wa.updD L.l, fun b o n e => ?_, ?_, upd_same, ?_, fun p hp => ?_⟩
  · rw [upd_ne (ne_of_none e n0)]
    exact L.kp b o n e
  · rw [upd_ne ne]
    exact L.c
  · rw [List.map_append, L.em]
    rfl
  · have h : H p.2.1 = some (.tup (p.2.2.map V.str)) := by
      rcases List.mem_append.mp hp with hp | hp
      · exact L.t p hp
      · rw [List.mem_singleton.mp hp]
        exact ht
    rw [upd_ne fun y => by rw [y, L.l] at h; cases h]
    exact h
theorem key_new {cs : List (Str × Int)} {z : Str} (h : z ∉ cs.map (·.1)) {v : V} : putK (kvC cs) (.inr z) v = kvC cs ++ [(.inr z, v)] := putK_new fun m => by
  obtain ⟨p, hp, e⟩ := List.mem_map.mp m
  obtain ⟨c, hc, rfl⟩ := List.mem_map.mp hp
  injection e with e
  exact h (List.mem_map.mpr ⟨c, hc, e⟩)
theorem key_newL {ms : List (Str × Addr × List Str)} {z : Str} (h : z ∉ ms.map (·.1)) {v : V} : putK (kvL ms) (.inr z) v = kvL ms ++ [(.inr z, v)] := putK_new fun m => by
  obtain ⟨p, hp, e⟩ := List.mem_map.mp m
  obtain ⟨c, hc, rfl⟩ := List.mem_map.mp hp
  injection e with e
  exact h (List.mem_map.mpr ⟨c, hc, e⟩)
theorem strip_names {ms : List (Str × Addr × List Str)} {ls : List (Str × List Str)} (em : ms.map stripL = ls) : ms.map (·.1) = ls.map (·.1) := by
  rw [← em, List.map_map]
  rfl
section
variable {P : Program} {w : World} {K : PySem.W.Frag} {mg : Str → Option Value} {base : Heap} {C CT CE e0 fI : Addr} {dI : FuncData} {fA : Nat → Addr} {dA : Nat → FuncData} {ds0 : List Value}
variable {f : Addr} {cdv : Value} {A : Around} {outer : List Env} {s : Shared} {H1 : Hp} {E : XK}
abbrev whB (i : Nat) : Stmt := (whBody (inNE 5)).getD i (.Pass ⟨0, 0, 0, 0⟩)
theorem nw0 (Y : WK P w K mg base C CT e0 fA dA ds0) (hr : Room 7 (XNE P w K mg base f cdv A outer s H1 E).A) : ∃ t, PS (XNE P w K mg base f cdv A outer s H1 E) (whB 0) t ∧ ∀ (a : Addr) (ws : List Str) (k : Nat) (z1 z2 z3 z4 z5 z6 : Option V) (H : Hp) (D : Ends), WAt C H a ws k → ws[k]? = some semi →
    (∀ H', Keep1 a H H' → WAt C H' a ws (k + 1) → D.nx [some (.ref a), z1, z2, z3, z4, z5, z6] H') → t D [some (.ref a), z1, z2, z3, z4, z5, z6] H := by
  refine ⟨_, ps_expr (pe_methR (pv 0) Y.W.c Y.tm Y.take (hr.mono (by decide)) (passes_call (takes_of rfl rfl rfl rfl) (fun _ _ _ _ h => h)) (pa_cons pe_str pa_nil)), ?_⟩
  intro a ws k z1 z2 z3 z4 z5 z6 H D wa hs q
  refine rd_mR wa rfl (by decide +kernel) ⟨a, ws, k, [semi], rfl, by decide, wa, fun z hz hm H' k1 w1 => ?_, fun n => absurd List.mem_cons_self (n semi hs)⟩
  exact q H' k1 w1
theorem nw1 (T : Txt mg) (Y : WK P w K mg base C CT e0 fA dA ds0) (hr : Room 7 (XNE P w K mg base f cdv A outer s H1 E).A) : ∃ t, PS (XNE P w K mg base f cdv A outer s H1 E) (whB 1) t ∧ ∀ (a cA lA : Addr) (ws : List Str) (k : Nat) (cs : List (Str × Int)) (ls : List (Str × List Str)) (ms : List (Str × Addr × List Str)) (z1 z3 z4 z6 : Option V) (H0 H : Hp) (D : Ends), Lp C H0 H a cA lA ws k cs ls ms → cs.length ≤ 900 →
    (∀ z H', ws[k]? = some z → mayN cs ls z = true → Lp C H0 H' a cA lA ws (k + 1) cs ls ms → D.nx [some (.ref a), z1, some (.ref cA), z3, z4, some (.str (lastN (ls.map (·.1)))), some (.str z)] H') →
    ((∀ z, ws[k]? = some z → mayN cs ls z = false) → TellA E CT a H0 (k : Int)) → t D [some (.ref a), z1, some (.ref cA), z3, z4, some (.str (lastN (ls.map (·.1)))), z6] H := by
  refine ⟨_, ps_set (i := 6) scNE.nd rfl (.inl rfl) (pe_meth (pv 0) Y.W.c Y.nameL.m Y.nameL.G (hr.mono (by decide)) Y.nameL.b .nil (passes_call (takes_of rfl rfl rfl rfl) (fun _ _ _ _ h => h)) (pa_cons (pv 5) (pa_cons (pe_callTy (call_list_dK rfl) (by rfl) T.list (by decide +kernel) (pa_cons (pv 2) pa_nil)) pa_nil))), ?_⟩
  intro a cA lA ws k cs ls ms z1 z3 z4 z6 H0 H D L few q no
  refine rd_mt L.wa rfl (by decide +kernel) ⟨_, rfl, _, rfl, cA, kvC cs, rfl, L.c, fun p hp => ?_⟩
  have sm := same_new (o := .lst ((kvC cs).map fun kv => kV kv.1)) hp
  have L1 := L.keep sm
  have el : (kvC cs).map (fun kv => kV kv.1) = (cs.map (·.1)).map V.str := by
    rw [List.map_map, List.map_map]
    rfl
  refine ⟨a, p, lastN (ls.map (·.1)), cs.map (·.1), ws, k, rfl, (by show upd _ _ _ _ = _; rw [upd_same, el]), fun H' s' => s' _ _ (by show upd _ _ _ _ = _; rw [upd_same, el]), by rw [List.length_map]; exact few, L1.wa, fun z hz hn H' k1 w1 => ?_, fun n => ?_⟩
  · exact q z H' hz hn (L1.on k1 w1)
  · exact (no n).on L1.kp
end
end My
namespace My
open PySem PySem.Spec PyProof.Rows L2
section
variable {P : Program} {w : World} {K : PySem.W.Frag} {mg : Str → Option Value} {base : Heap} {C CT CE e0 fI : Addr} {dI : FuncData} {fA : Nat → Addr} {dA : Nat → FuncData} {ds0 : List Value}
variable {f : Addr} {cdv : Value} {A : Around} {outer : List Env} {s : Shared} {H1 : Hp} {E : XK} {fL : Addr} {dL : FuncData} {tM : Tok}
theorem nw2 (T : Txt mg) (Y : WK P w K mg base C CT e0 fA dA ds0) (mM : mg "MOST_VALUE" = some (.int 3 tM)) (FL : Fun K "_next_log" "_next_log" sNextLog fL dL) (bL : Binds K dL ["words"] []) (gL : mg "_next_log" = some (.ref fL)) (GL : FnOk P w K mg base (L2.CX P w) 7 fL dL ["words"] (spNextLog C CT)) (hr : Room 7 (XNE P w K mg base f cdv A outer s H1 E).A) :
    ∃ t, PS (XNE P w K mg base f cdv A outer s H1 E) (whB 2) t ∧ ∀ (a cA lA : Addr) (ws : List Str) (k : Nat) (cs : List (Str × Int)) (ls : List (Str × List Str)) (ms : List (Str × Addr × List Str)) (z : Str) (z1 : Option V) (H0 H : Hp) (D : Ends), Lp C H0 H a cA lA ws k cs ls ms → H0 cA = none → H0 lA = none → cA ≠ lA → cs.length ≤ 900 → ls.length ≤ 900 → asc (ls.map (·.1)) → mayN cs ls z = true →
      (mayC cs ls z = true → ∀ (v : Nat) H', v < 4 → ws[k]? = some (fig v) → Lp C H0 H' a cA lA ws (k + 1) (cs ++ [(z, (v : Int))]) ls ms → D.nx [some (.ref a), z1, some (.ref cA), some (.ref lA), some (.str z), some (.str (lastN (ls.map (·.1)))), some (.str z)] H') →
      ((mayC cs ls z && hits ws k figs) = false → match logR ws k with
        | .no j => TellA E CT a H0 (j : Int)
        | .ok zs j => ∀ (ms' : List (Str × Addr × List Str)) H', Lp C H0 H' a cA lA ws j cs (ls ++ [(z, zs)]) ms' → D.nx [some (.ref a), z1, some (.ref cA), some (.ref lA), some (.str (lastN (cs.map (·.1)))), some (.str z), some (.str z)] H') →
      t D [some (.ref a), z1, some (.ref cA), some (.ref lA), some (.str (lastN (cs.map (·.1)))), some (.str (lastN (ls.map (·.1)))), some (.str z)] H := by
  have hu : (XNE P w K mg base f cdv A outer s H1 E).A.units + 66 < cLine := by have := hr.un; omega
  refine ⟨_, ps_if (PW.pt (pw_and (pt_not (pt_truth (pv 3) (by intro _; rfl))) (pw_and (pt_cmpR op_gt_str (pv 6) (pv 4) (nomark _)) (pw_and1 (pt_val (pe_meth (pv 0) Y.W.c Y.seesN.m Y.seesN.G (hr.mono (by decide)) Y.seesN.b .nil pass0 (pa_cons pe_int (pa_cons (pe_glob (v := .int 3) rfl mM ⟨_, rfl⟩) pa_nil))))))))
      (pss_cons (ps_dput (Nat.lt_of_le_of_lt (Nat.add_le_add_left (by decide) _) hu) (pv 2) (pv 6) (pe_meth (pv 0) Y.W.c Y.takeN.m Y.takeN.G (hr.mono (by decide)) Y.takeN.b .nil (passes_call (takes_of rfl rfl rfl rfl) (fun _ _ _ _ h => h)) (pa_cons pe_int (pa_cons (pe_glob (v := .int 3) rfl mM ⟨_, rfl⟩) pa_nil))) rfl)
        (pss_one (ps_set (i := 4) scNE.nd rfl (.inl rfl) (pv 6))))
      (pss_cons (ps_dput (Nat.lt_of_le_of_lt (Nat.add_le_add_left (by decide) _) hu) (pv 3) (pv 6) (pe_call GL hr (by rfl) gL FL.kp bL .nil (passes_call (takes_of rfl rfl rfl rfl) (fun _ _ _ _ h => h)) (pa_cons (pv 0) pa_nil)) rfl)
        (pss_one (ps_set (i := 5) scNE.nd rfl (.inl rfl) (pv 6)))), ?_⟩
  intro a cA lA ws k cs ls ms z z1 H0 H D L nc nl ne fc fl la hn cell log
  obtain ⟨hn1, hn2, hn3⟩ := mayN_of hn
  have nm := strip_names L.em
  have lm : ms.length = ls.length := by
    have := congrArg List.length L.em
    rwa [List.length_map] at this
  have el : (!(!(kvL ms).isEmpty)) = ls.isEmpty := by
    rw [Bool.not_not]
    cases ms with
    | nil =>
      cases ls with
      | nil => rfl
      | cons x r => cases lm
    | cons p r =>
      cases ls with
      | nil => cases lm
      | cons x r => rfl
  have elseT : ∀ H2, Same' H H2 → (mayC cs ls z && hits ws k figs) = false →
      tSeq (sDPut (tVar 3) (tVar 6) (tCall (spNextLog C CT) [] E (tCons (tVar 0) tNil))) (tAsg (tVar 6) (gName 5)) D [some (.ref a), z1, some (.ref cA), some (.ref lA), some (.str (lastN (cs.map (·.1)))), some (.str (lastN (ls.map (·.1)))), some (.str z)] H2 := by
    intro H2 s2 hb
    have L2' := L.keep s2
    have h := log hb
    refine ⟨_, rfl, a, ws, k, rfl, L2'.wa, ?_⟩
    cases hl : logR ws k with
    | no j =>
      rw [hl] at h
      exact h.on L2'.kp
    | ok zs j =>
      rw [hl] at h
      intro t H3 k3 w3 ht
      have L3 := L2'.on k3 w3
      refine ⟨_, rfl, _, rfl, lA, _, rfl, DPut.k (k := .inr z) L3.l (small1000 (by rw [List.length_map, lm]; omega)), ?_⟩
      rw [key_newL (by rw [nm]; exact asc_notin la hn1)]
      have L4 := L3.putL nl ne (z := z) ht
      refine ⟨_, rfl, h (ms ++ [(z, t, zs)]) _ ?_⟩
      have e : kvL (ms ++ [(z, t, zs)]) = kvL ms ++ [(.inr z, .ref t)] := by
        show List.map _ (ms ++ [_]) = _
        rw [List.map_append]
        rfl
      rw [e] at L4
      exact L4
  refine ⟨_, rfl, _, .inr (.inr ⟨kvL ms, L.l, rfl⟩), ?_⟩
  dsimp only
  rw [el]
  cases he : ls.isEmpty with
  | false => exact iteF (iteF (elseT H (fun _ _ e => e) (by unfold mayC; rw [he]; rfl)))
  | true =>
    refine iteT ?_
    refine ⟨_, rfl, _, rfl, _, _, rfl, rfl, _, rfl, ?_⟩
    cases hd : decide ((lastN (cs.map (·.1))).cps.toList < z.cps.toList) with
    | false => exact iteF (iteF (elseT H (fun _ _ e => e) (by unfold mayC; rw [hd, Bool.and_false]; rfl)))
    | true =>
      have hm : mayC cs ls z = true := by
        unfold mayC
        rw [he, hd]
        rfl
      refine iteT (rd_mt L.wa rfl (by decide +kernel) ⟨a, ws, k, rfl, L.wa, fun H2 s2 => ⟨_, rfl, ?_⟩⟩)
      have L2' := L.keep s2
      cases hh : hits ws k figs with
      | false => exact iteF (elseT H2 s2 (by rw [hh, Bool.and_false]))
      | true =>
        refine iteT (rd_mt L2'.wa rfl (by decide +kernel) ⟨a, ws, k, rfl, L2'.wa, fun v hv hz H3 k3 w3 => ?_, fun n => ?_⟩)
        · have L3 := L2'.on k3 w3
          refine ⟨_, rfl, _, rfl, cA, _, rfl, DPut.k (k := .inr z) L3.c (small1000 (by rw [List.length_map]; omega)), ?_⟩
          rw [key_new hn2]
          have L4 := L3.putC nc ne (z := z) (v := (v : Int))
          refine ⟨_, rfl, cell hm v _ hv hz ?_⟩
          have e : kvC (cs ++ [(z, (v : Int))]) = kvC cs ++ [(.inr z, .int (v : Int))] := by
            show List.map _ (cs ++ [_]) = _
            rw [List.map_append]
            rfl
          rw [e] at L4
          exact L4
        · exfalso
          cases hz : ws[k]? with
          | none =>
            rw [hits_none hz] at hh
            cases hh
          | some y =>
            rw [hits_mem hz] at hh
            exact n y hz (of_decide_eq_true hh)
end
end My
namespace My
open PySem PySem.Spec PyProof.Rows L2
section
variable {P : Program} {w : World} {K : PySem.W.Frag} {mg : Str → Option Value} {base : Heap} {C CT CE e0 fI : Addr} {dI : FuncData} {fA : Nat → Addr} {dA : Nat → FuncData} {ds0 : List Value}
variable {f : Addr} {cdv : Value} {A : Around} {outer : List Env} {s : Shared} {H1 : Hp} {E : XK} {fL : Addr} {dL : FuncData} {tM : Tok}
/-- the σ of the loop -/
abbrev sgNE (a cA lA : Addr) (z1 z6 : Option V) (cs : List (Str × Int)) (ls : List (Str × List Str)) : L2.St := [some (.ref a), z1, some (.ref cA), some (.ref lA), some (.str (lastN (cs.map (·.1)))), some (.str (lastN (ls.map (·.1)))), z6]
theorem nwAll (T : Txt mg) (Y : WK P w K mg base C CT e0 fA dA ds0) (mM : mg "MOST_VALUE" = some (.int 3 tM)) (FL : Fun K "_next_log" "_next_log" sNextLog fL dL) (bL : Binds K dL ["words"] []) (gL : mg "_next_log" = some (.ref fL)) (GL : FnOk P w K mg base (L2.CX P w) 7 fL dL ["words"] (spNextLog C CT)) (hr : Room 7 (XNE P w K mg base f cdv A outer s H1 E).A) :
    ∃ t, PSs (XNE P w K mg base f cdv A outer s H1 E) (whBody (inNE 5)) t ∧ ∀ (a cA lA : Addr) (ws : List Str) (k : Nat) (cs : List (Str × Int)) (ls : List (Str × List Str)) (ms : List (Str × Addr × List Str)) (z1 z6 : Option V) (H0 H : Hp) (D : Ends), Lp C H0 H a cA lA ws k cs ls ms → H0 cA = none → H0 lA = none → cA ≠ lA → GoodCL ws k cs ls → ws[k]? = some semi →
      (match thingR ws (k + 1) cs ls with
        | .no j => TellA E CT a H0 (j : Int)
        | .ok c j => ∀ (ms' : List (Str × Addr × List Str)) (z6 : Option V) H', Lp C H0 H' a cA lA ws j c.1 c.2 ms' → D.nx (sgNE a cA lA z1 z6 c.1 c.2) H') → t D (sgNE a cA lA z1 z6 cs ls) H := by
  obtain ⟨t0, h0, q0⟩ := nw0 (P := P) (w := w) (K := K) (mg := mg) (base := base) (f := f) (cdv := cdv) (A := A) (outer := outer) (s := s) (H1 := H1) (E := E) Y hr
  obtain ⟨t1, h1, q1⟩ := nw1 (P := P) (w := w) (K := K) (mg := mg) (base := base) (f := f) (cdv := cdv) (A := A) (outer := outer) (s := s) (H1 := H1) (E := E) T Y hr
  obtain ⟨t2, h2, q2⟩ := nw2 (P := P) (w := w) (K := K) (mg := mg) (base := base) (f := f) (cdv := cdv) (A := A) (outer := outer) (s := s) (H1 := H1) (E := E) T Y mM FL bL gL GL hr
  refine ⟨_, pss_cons h0 (pss_cons h1 (pss_one h2)), ?_⟩
  intro a cA lA ws k cs ls ms z1 z6 H0 H D L nc nl ne G hs h
  have few := G.few
  have kl := L.wa.le
  have wl := L.wa.few
  refine q0 a ws k _ _ _ _ _ _ H _ L.wa hs fun H2 k2 w2 => ?_
  refine q1 a cA lA ws (k + 1) cs ls ms _ _ _ _ H0 H2 _ (L.on k2 w2) (by omega) (fun z H3 hz hn L3 => ?_) (fun n => ?_)
  · refine q2 a cA lA ws (k + 1 + 1) cs ls ms z _ H0 H3 _ L3 nc nl ne (by omega) (by omega) G.la hn (fun hm v H4 hv hf L4 => ?_) (fun hb => ?_)
    · rw [thingR_cell hz hn hm hv hf] at h
      have := h ms (some (.str z)) H4 L4
      unfold sgNE at this
      rw [List.map_append] at this
      rw [show (cs.map (·.1) ++ [(z, (v : Int))].map (·.1)) = cs.map (·.1) ++ [z] from rfl, lastN_snoc] at this
      exact this
    · rw [thingR_log hz hn hb] at h
      cases hl : logR ws (k + 1 + 1) with
      | no j =>
        rw [hl] at h
        exact h
      | ok zs j =>
        rw [hl] at h
        intro ms' H4 L4
        have := h ms' (some (.str z)) H4 L4
        unfold sgNE at this
        rw [List.map_append] at this
        rw [show (ls.map (·.1) ++ [(z, zs)].map (·.1)) = ls.map (·.1) ++ [z] from rfl, lastN_snoc] at this
        exact this
  · rw [thingR_no n] at h
    exact h
theorem ok_nextEnd {fd : FuncData} (F : Fun K "_next_end" "_next_end" sNextEnd f fd) (T : Txt mg) (Y : WK P w K mg base C CT e0 fA dA ds0) (mM : mg "MOST_VALUE" = some (.int 3 tM)) (FL : Fun K "_next_log" "_next_log" sNextLog fL dL) (bL : Binds K dL ["words"] []) (gL : mg "_next_log" = some (.ref fL)) (GL : FnOk P w K mg base (L2.CX P w) 7 fL dL ["words"] (spNextLog C CT)) (EK : EndK P w K mg base CE fI dI) :
    FnOk P w K mg base (L2.CX P w) 8 f fd ["words"] (spNextEnd C CT CE) := by
  refine F.okX scNE (fun vs H Q E h => ?_) (fun cdv A outer s H vs Q E hr h => ?_)
  · obtain ⟨a, ws, k, r, rfl, _⟩ := h
    rfl
  · obtain ⟨a, ws, k, r, rfl, wa, few, ep, h⟩ := h
    obtain ⟨t0, h0, q0⟩ := ne0 (P := P) (w := w) (K := K) (mg := mg) (base := base) (f := f) (cdv := cdv) (A := A) (outer := outer) (s := s) (H0 := H) (E := E) T Y hr
    obtain ⟨tb, hb, qb⟩ := nwAll (P := P) (w := w) (K := K) (mg := mg) (base := base) (f := f) (cdv := cdv) (A := A) (outer := outer) (s := s) (H1 := H) (E := E) T Y mM FL bL gL GL hr
    refine ⟨_, pss_cons h0 (pss_cons (ps_set (i := 2) scNE.nd rfl (.inl rfl) pe_dnewK) (pss_cons (ps_set (i := 3) scNE.nd rfl (.inl rfl) pe_dnewK) (pss_cons (ps_set (i := 4) scNE.nd rfl (.inl rfl) pe_str) (pss_cons (ps_set (i := 5) scNE.nd rfl (.inl rfl) pe_str)
      (pss_cons (ps_while (passes_of rfl) (pt_val (pe_meth (pv 0) Y.W.c Y.sees.m Y.sees.G (hr.mono (by decide)) Y.sees.b .nil pass0 (pa_cons pe_str pa_nil))) hb)
      (pss_one (ps_ret (pe_make (x := "End") (E := noX) EK.m EK.G (hr.mono (by decide)) (by rfl) EK.N.g EK.b .nil pass0 (pa_cons (pv 1) (pa_cons (pv 2) (pa_cons (pv 3) pa_nil))))))))))), ?_⟩
    refine q0 a ws k _ _ _ _ _ _ H _ wa (fun fl k1 H2 hh kp w1 => ?_) (fun j hj => ?_)
    · intro cA hcA lA hlA
      -- what is read behind it
      obtain ⟨tr, tht, hr2⟩ : ∃ tr, Things ws [] [] k1 tr ∧ (match tr with
          | .ok c j => ∀ (p : Addr) (H' : Hp), Keep1 a H H' → WAt C H' a ws j → EndAt CE H' p ⟨fl, c.1, c.2⟩ → Q (.ref p) H'
          | .no j => TellA E CT a H (j : Int)) := by
        cases ep with
        | bad e => rw [hh] at e; cases e
        | err e t =>
          rw [hh] at e
          injection e with e1 e2
          subst e1 e2
          exact ⟨_, t, h⟩
        | ok e t =>
          rw [hh] at e
          injection e with e1 e2
          subst e1 e2
          exact ⟨_, t, h⟩
      have s1 := same_new (o := .dK []) hcA
      have s2 := s1.trans (same_new (o := .dK []) hlA)
      have hc0 : H cA = none := by
        cases e : H cA with
        | none => rfl
        | some o =>
          by_cases n : cA = a
          · obtain ⟨dx, pl, as, q1, _⟩ := w1.ob
            rw [n, q1] at hcA
            cases hcA
          · have := kp _ _ n e
            rw [hcA] at this
            cases this
      have hl0 : H lA = none := by
        cases e : H lA with
        | none => rfl
        | some o =>
          by_cases n : lA = a
          · obtain ⟨dx, pl, as, q1, _⟩ := (w1.keep s1).ob
            rw [n, q1] at hlA
            cases hlA
          · have := s1 _ _ (kp _ _ n e)
            rw [hlA] at this
            cases this
      have ne : cA ≠ lA := ne_of_none upd_same hlA
      have L0 : Lp C H (upd (upd H2 cA (.dK [])) lA (.dK [])) a cA lA ws k1 [] [] [] := ⟨w1.keep s2, kp.trans (.of s2), by rw [upd_ne ne, upd_same]; rfl, upd_same, rfl, fun p hp => by cases hp⟩
      refine ⟨fun m σ H' => ∃ k cs ls ms z6, m = ws.length - k ∧ Things ws cs ls k tr ∧ GoodCL ws k cs ls ∧ Lp C H H' a cA lA ws k cs ls ms ∧ σ = sgNE a cA lA (some (match fl with | none => .non | some n => .str n)) z6 cs ls,
        ⟨_, k1, [], [], [], none, rfl, tht, good_nil, L0, rfl⟩, fun m σ H' hw => ?_⟩
      obtain ⟨k, cs, ls, ms, z6, rfl, th, G, L, rfl⟩ := hw
      refine rd_m1 L.wa rfl (by decide +kernel) ⟨a, ws, k, semi, rfl, L.wa, _, rfl, ?_⟩
      by_cases hs : ws[k]? = some semi
      · rw [decide_eq_true hs]
        refine iteT ?_
        have kl : k < ws.length := (List.getElem?_eq_some_iff.mp hs).1
        refine ⟨fun σ' H3 => ∃ k' cs' ls' ms' z6', k < k' ∧ Things ws cs' ls' k' tr ∧ GoodCL ws k' cs' ls' ∧ Lp C H H3 a cA lA ws k' cs' ls' ms' ∧ σ' = sgNE a cA lA (some (match fl with | none => .non | some n => .str n)) z6' cs' ls',
          fun σ' H3 ⟨k', cs', ls', ms', z6', lt, q⟩ => ⟨_, by have := q.2.2.1.wa.le; omega, k', cs', ls', ms', z6', rfl, q⟩, ?_⟩
        refine qb a cA lA ws k cs ls ms _ _ H H' _ L hc0 hl0 ne G hs ?_
        cases th with
        | done n => exact absurd hs n
        | err _ t =>
          rw [t]
          exact hr2
        | more _ t m =>
          rw [t]
          intro ms' z6' H3 L3
          exact ⟨_, _, _, ms', z6', by have := thingR_on t; omega, m, G.step t, L3, rfl⟩
      · rw [decide_eq_false hs]
        refine iteF ?_
        cases th with
        | err hs' t => exact absurd hs' hs
        | more hs' t m => exact absurd hs' hs
        | done _ =>
          have fw := G.few
          have kl := L.wa.le
          have tc : Tw H' (.ref cA) (.dict (dvC cs)) := tw_c (by omega) G.ca L.c
          have tl : Tw H' (.ref lA) (.dict (dvL ls)) := tw_l L.em (by omega) G.la (fun l hl => by have := G.wf l hl; omega) L.l L.t
          have tf : ∀ g : Option Str, Tw H' (match g with | none => .non | some n => .str n) (fD g) := fun g => by
            cases g with
            | none => exact .th (.flat .non)
            | some n => exact .th (.flat (.str n))
          refine ⟨_, rfl, _, rfl, _, rfl, show asI (spI3 CE) CE [_, _, _] H' Q from as3 (tf fl) tc tl fun p H3 s3 ev => ?_⟩
          exact hr2 p H3 (L.kp.trans (.of s3)) (L.wa.keep s3) ev
    · cases ep with
      | bad e =>
        rw [hj] at e
        injection e with e
        subst e
        exact h
      | err e t => rw [hj] at e; cases e
      | ok e t => rw [hj] at e; cases e
end
end My
namespace My
open PySem PySem.Spec PyProof.Rows L2
section
variable {X : Cx}
variable {CX : CXT} {k : Nat} {f : Addr} {fd : FuncData} {ps ks : List Str} {sp : Sp} {E : XK} {x : Str} {p pos : Pos} {kws : List Keyword} {tk : TA} {g : List Value → List Value → List Value} {gV : List V → List V → List V}
/-- f(k = v), keywords alone -/
theorem pe_callKw (F : FnOk X.prog X.w X.K X.mg X.base CX k f fd ps sp) (hr : Room k X.A) (hg : Gl X x) (hm : X.mg x = some (.ref f)) (hk : PySem.W.keepIn X.K (.ref f) = true) (hb : KBinds X.K fd ps ks g gV) (hx : Passes CX X E) (hkw : PK X kws tk)
    (hall : (backToKw pos (keywordEach kws X.env)).all (·.1.isSome) = true := by rfl) (hks : (backToKw pos (keywordEach kws X.env)).filterMap (·.1) = ks := by rfl) (hdb : (x == ("__debug__" : Str)) = false := by decide)
    (hpl : ((backTo pos (starEach [] X.env)).any (·.1) || (backToKw pos (keywordEach kws X.env)).any (·.1.isNone)) = false := by rfl) : PE X (.Call (.Name x p) [] kws pos) (tCallK sp gV E tNil tk) := by
  constructor
  intro pins s σ H Q I h
  refine wpAny_Call_Name_kw (ld_glob I hg hm (PySem.W.callWith_KW0 (h₀ := X.base) I.ok.mod.kin hk hall (thn (hkw.run pos pins s σ H _ I h) ?_) hpl) hdb)
  intro ws s2 hz
  obtain ⟨zs, H2, I2, rz, q2⟩ := hz
  refine ⟨I2.kIn, ?_⟩
  rw [hks]
  exact run_fnk (us := []) (vs := []) F hr hb hx I2 .nil rz q2
end
/-- one parameter, passed by its name -/
abbrev kwG {α : Type} (us ws : List α) : List α := us ++ us ++ ws
theorem kwRel {vs : List V} {us : List Value} {zs : List V} {ws : List Value} (h : Vals vs us) (k : Vals zs ws) : Vals (kwG vs zs) (kwG us ws) := by
  have app : ∀ {a : List V} {b : List Value} {c : List V} {d : List Value}, Vals a b → Vals c d → Vals (a ++ c) (b ++ d) := by
    intro a b c d h1 h2
    induction h1 with
    | nil => exact h2
    | cons r _ ih => exact .cons r ih
  exact app (app h h) k
theorem kwOne {K : PySem.W.Frag} {nm qual y : Str} {st : Stmt} {f : Addr} {fd : FuncData} (F : Fun K nm qual st f fd)
    (h : ∀ (kV doc pm : Value) (an : Option Addr) (cdv ct w : Value), bindArgs (PySem.W.fnOf nm qual (defArgs st) (defBody st) (defScope st) .none kV doc pm an cdv ct) ⟨[], [(y, w)]⟩ = pure [(y, w)]) : KBinds K fd [y] [y] kwG kwG := by
  obtain ⟨oc, od, kV, doc, pm, an, cdv, ct, osl, rfl, lk, hcd⟩ := F.ex
  refine ⟨fun s us ws _ hl => ?_, kwRel⟩
  match us, ws, hl with
  | [], [w], _ => exact .of_eq (h kV doc pm an cdv ct w)
  | [], [], hl => exact absurd hl (by simp)
  | [], _ :: _ :: _, hl => exact absurd hl (by simp)
  | _ :: _, _, hl =>
    simp at hl
end My
namespace My
open PySem PySem.Spec PyProof.Rows L2
/-! ends stay where a list changes, where the words go on -/
def isLst : PyData → Bool
  | .list _ => true
  | _ => false
def NoL (o : HO) : Prop := ∀ xs, o ≠ .lst xs
theorem Th.nl {H H' : Hp} {x : V} {d : PyData} (h : Th H x d) (n : isLst d = false) (k : ∀ b o, Pl o → NoL o → H b = some o → H' b = some o) : Th H' x d := by
  cases h with
  | flat f => exact .flat f
  | lst h r m => cases n
  | tup h r m => exact .tup (k _ _ True.intro (fun _ z => by cases z) h) r m
  | dct h => exact .dct (k _ _ True.intro (fun _ z => by cases z) h)
theorem kd_nl {H H' : Hp} (k : ∀ b o, Pl o → NoL o → H b = some o → H' b = some o) : ∀ {kvs : List (Key × V)} {dvs : List (PyData × PyData)}, (∀ q ∈ dvs, isLst q.2 = false) → KD H kvs dvs → KD H' kvs dvs
  | _, _, _, .nil => .nil
  | _, _, n, .cons ⟨e, h⟩ r => .cons ⟨e, ⟨h.th.nl (n _ List.mem_cons_self) k, h.no⟩⟩ (kd_nl k (fun q hq => n q (List.mem_cons_of_mem _ hq)) r)
def nlD : PyData → Prop
  | .dict dvs => ∀ q ∈ dvs, isLst q.2 = false
  | .list _ => False
  | _ => True
theorem Tw.nl {H H' : Hp} {x : V} {d : PyData} (h : Tw H x d) (n : nlD d) (k : ∀ b o, Pl o → NoL o → H b = some o → H' b = some o) : Tw H' x d := by
  cases h with
  | th h =>
    refine .th (h.nl ?_ k)
    cases d <;> first | rfl | exact n.elim
  | dc h e m u => exact .dc (k _ _ True.intro (fun _ z => by cases z) h) (kd_nl k n e) m u
theorem nl_f (f : Option Str) : nlD (fD f) := by cases f <;> exact True.intro
theorem nl_c (cs : List (Str × Int)) : nlD (.dict (dvC cs)) := fun q hq => by
  obtain ⟨c, hc, rfl⟩ := List.mem_map.mp hq
  rfl
theorem nl_l (ls : List (Str × List Str)) : nlD (.dict (dvL ls)) := fun q hq => by
  obtain ⟨c, hc, rfl⟩ := List.mem_map.mp hq
  rfl
/-- what an end's objects are: at p the end itself, all others without lists -/
theorem EndAt.nl {C : Addr} {H H' : Hp} {p : Addr} {e : EndD} (h : EndAt C H p e) (k0 : ∀ o, H p = some o → H' p = some o) (k : ∀ b o, Pl o → NoL o → H b = some o → H' b = some o) : EndAt C H' p e := by
  obtain ⟨dx, fs, e1, l⟩ := h
  refine ⟨dx, fs, k0 _ e1, ?_⟩
  cases l with
  | cons h1 l =>
    cases l with
    | cons h2 l =>
      cases l with
      | cons h3 l =>
        cases l
        exact .cons ⟨h1.1, Tw.nl h1.2 (nl_f _) k⟩ (.cons ⟨h2.1, Tw.nl h2.2 (nl_c _) k⟩ (.cons ⟨h3.1, Tw.nl h3.2 (nl_l _) k⟩ .nil))
theorem EndAt.upL {C : Addr} {H : Hp} {p l : Addr} {e : EndD} {xs : List V} {o : HO} (h : EndAt C H p e) (hl : H l = some (.lst xs)) : EndAt C (upd H l o) p e := by
  refine h.nl (fun u hu => ?_) (fun b u _ n hb => ?_)
  · obtain ⟨dx, fs, e1, _⟩ := h
    rw [upd_ne fun z => by rw [z, hl] at e1; cases e1]
    exact hu
  · rw [upd_ne fun z => by rw [z, hl] at hb; injection hb with hb; exact n _ hb.symm]
    exact hb
theorem EndAt.on {C CE : Addr} {H H' : Hp} {p a : Addr} {e : EndD} {ws : List Str} {k : Nat} (h : EndAt CE H p e) (wa : WAt C H a ws k) (k1 : Keep1 a H H') : EndAt CE H' p e := by
  obtain ⟨dx, pl, as, ha, _⟩ := wa.ob
  refine h.nl (fun u hu => k1 _ _ (fun z => ?_) hu) (fun b u pu n hb => k1 _ _ (pl_ne ha pu hb) hb)
  obtain ⟨dx', fs, e1, l⟩ := h
  rw [z, ha] at e1
  injection e1 with e1
  injection e1 with _ _ e1
  cases l with
  | cons h1 l =>
    have := h1.1
    injection e1 with e2 e3
    rw [← e2] at this
    exact absurd (show ("pieces" : Str) = "failed" from this) (by decide +kernel)
theorem ends_upL {CE : Addr} {H : Hp} {l : Addr} {xs : List V} {o : HO} (hl : H l = some (.lst xs)) : ∀ {as : List Addr} {es : List EndD}, EndsAt CE H as es → EndsAt CE (upd H l o) as es
  | _, _, .nil => .nil
  | _, _, .cons ⟨a, g⟩ r => .cons ⟨a.upL hl, g⟩ (ends_upL hl r)
theorem ends_onK {C CE : Addr} {H H' : Hp} {a : Addr} {ws : List Str} {k : Nat} (wa : WAt C H a ws k) (k1 : Keep1 a H H') : ∀ {as : List Addr} {es : List EndD}, EndsAt CE H as es → EndsAt CE H' as es
  | _, _, .nil => .nil
  | _, _, .cons ⟨b, g⟩ r => .cons ⟨b.on wa k1, g⟩ (ends_onK wa k1 r)
theorem ends_snoc {CE : Addr} {H : Hp} {p : Addr} {e : EndD} (h : EndAt CE H p e ∧ GoodE e) : ∀ {as : List Addr} {es : List EndD}, EndsAt CE H as es → EndsAt CE H (as ++ [p]) (es ++ [e])
  | _, _, .nil => .cons h .nil
  | _, _, .cons a r => .cons a (ends_snoc h r)
/-- the words stay where a list that begins with an end changes -/
theorem WAt.upE {C CE : Addr} {H : Hp} {a l : Addr} {ws : List Str} {k : Nat} {as : List Addr} {es : List EndD} {o : HO} (h : WAt C H a ws k) (hl : H l = some (.lst (as.map V.ref))) (ea : EndsAt CE H as es) (ne : as ≠ []) : WAt C (upd H l o) a ws k := by
  obtain ⟨dx, pl, bs, h1, h2, h3, h4⟩ := h.ob
  have npl : pl ≠ l := fun z => by
    rw [z, hl] at h2
    injection h2 with h2
    injection h2 with h2
    cases ea with
    | nil => exact ne rfl
    | @cons a0 e0 r es' x rest =>
      cases bs with
      | nil => cases h2
      | cons b0 br =>
        injection h2 with h2 h5
        injection h2 with h2
        obtain ⟨y, y1, y2⟩ := h4 0 b0 rfl
        obtain ⟨⟨dx', fs, e1, _⟩, _⟩ := x
        rw [h2, y2] at e1
        cases e1
  have up : ∀ {x : Addr} {u : HO}, H x = some u → NoL u → (upd H l o) x = some u := fun {x u} e n => by
    rw [upd_ne fun z => by rw [z, hl] at e; injection e with e; exact n _ e.symm]
    exact e
  refine ⟨⟨dx, pl, bs, up h1 (fun _ z => by cases z), by rw [upd_ne npl]; exact h2, h3, fun i p e => ?_⟩, h.le, h.few, h.len⟩
  obtain ⟨z, z1, z2⟩ := h4 i p e
  exact ⟨z, z1, up z2 (fun _ z => by cases z)⟩
def spNextEnds (C CT CE : Addr) : Sp := fun vs H Q E => ∃ (a : Addr) (ws : List Str) (r : Res (List EndD)), vs = [.ref a] ∧ WAt C H a ws 0 ∧ ws.length ≤ 120 ∧ EndsP ws r ∧
  match r with
  | .ok es j => ∀ (t : Addr) (as : List Addr) (H' : Hp), Keep1 a H H' → WAt C H' a ws j → H' t = some (.tup (as.map V.ref)) → EndsAt CE H' as es → Q (.ref t) H'
  | .no j => TellA E CT a H (j : Int)
section
variable {P : Program} {w : World} {K : PySem.W.Frag} {mg : Str → Option Value} {base : Heap} {C CT CE e0 fN : Addr} {dN : FuncData} {fA : Nat → Addr} {dA : Nat → FuncData} {ds0 : List Value}
abbrev nNEs : List Str := ["words", "row"]
theorem scNEs : FnScope nNEs ["words"] (defScope sNext) := ⟨rfl, rfl, rfl, by decide +kernel, rfl, by decide +kernel, by decide +kernel⟩
theorem ok_nextEnds {f : Addr} {fd : FuncData} (F : Fun K "next_ends" "next_ends" sNext f fd) (T : Txt mg) (Y : WK P w K mg base C CT e0 fA dA ds0) (FN : Fun K "_next_end" "_next_end" sNextEnd fN dN) (bN : Binds K dN ["words"] []) (gN : mg "_next_end" = some (.ref fN)) (GN : FnOk P w K mg base (L2.CX P w) 8 fN dN ["words"] (spNextEnd C CT CE)) :
    FnOk P w K mg base (L2.CX P w) 9 f fd ["words"] (spNextEnds C CT CE) := by
  refine F.okX scNEs (fun vs H Q E h => ?_) (fun cdv A outer s H vs Q E hr h => ?_)
  · obtain ⟨a, ws, r, rfl, _⟩ := h
    rfl
  · obtain ⟨a, ws, r, rfl, wa, few, ep, h⟩ := h
    refine ⟨_, pss_cons (ps_if (pt_val (pe_meth (pv 0) Y.W.c Y.sees.m Y.sees.G (hr.mono (by decide)) Y.sees.b .nil pass0 (pa_cons pe_str pa_nil)))
        (pss_cons (ps_expr (pe_methR (pv 0) Y.W.c Y.tm Y.take (hr.mono (by decide)) (passes_call (takes_of rfl rfl rfl rfl) (fun _ _ _ _ h => h)) (pa_cons pe_str pa_nil))) (pss_one (ps_ret (pe_tup pa_nil)))) pss_nil)
      (pss_cons (ps_set (i := 1) scNEs.nd rfl (.inl rfl) (pe_lst (pa_cons (pe_call GN hr (by rfl) gN FN.kp bN .nil (passes_call (takes_of rfl rfl rfl rfl) (fun _ _ _ _ h => h)) (pa_cons (pv 0) pa_nil)) pa_nil)))
      (pss_cons (ps_while (passes_of rfl) (pt_val (pe_meth (pv 0) Y.W.c Y.sees.m Y.sees.G (hr.mono (by decide)) Y.sees.b .nil pass0 (pa_cons pe_str pa_nil)))
          (pss_cons (ps_expr (pe_methR (pv 0) Y.W.c Y.tm Y.take (hr.mono (by decide)) (passes_call (takes_of rfl rfl rfl rfl) (fun _ _ _ _ h => h)) (pa_cons pe_str pa_nil)))
          (pss_one (ps_expr (pe_bm PySem.F.plainAttrs_list PySem.F.slot_list_append PySem.F.type_list_append mt_append (pv 1) (pa_cons (pe_call GN hr (by rfl) gN FN.kp bN .nil (passes_call (takes_of rfl rfl rfl rfl) (fun _ _ _ _ h => h)) (pa_cons (pv 0) pa_nil)) pa_nil))))))
      (pss_one (ps_ret (pe_callTy call_tuple_of (by rfl) T.tuple (by decide +kernel) (pa_cons (pv 1) pa_nil)))))), ?_⟩
    refine rd_m1 wa rfl (by decide +kernel) ⟨a, ws, 0, dash, rfl, wa, _, rfl, ?_⟩
    by_cases hd : ws[0]? = some dash
    · rw [decide_eq_true hd]
      refine iteT (rd_mR1 wa rfl (by decide +kernel) ⟨a, ws, 0, [dash], rfl, by decide, wa, fun z hz hm H1 k1 w1 => ?_, fun n => absurd List.mem_cons_self (n dash hd)⟩)
      refine ⟨Nat.zero_le _, fun t ht => ?_⟩
      have s := same_new (o := .tup []) ht
      cases ep with
      | bar _ => exact h t [] _ (k1.trans (.of s)) (w1.keep s) upd_same .nil
      | err n _ => exact absurd hd n
      | more n _ _ => exact absurd hd n
    · rw [decide_eq_false hd]
      refine iteF ?_
      -- the first end
      obtain ⟨r1, ep1, h1⟩ : ∃ r1, EndP ws 0 r1 ∧ (match r1 with
          | .no j => TellA E CT a H (j : Int)
          | .ok e k => RestP ws [e] k r) := by
        cases ep with
        | bar n => exact absurd n hd
        | err _ t => exact ⟨_, t, h⟩
        | more _ t m => exact ⟨_, t, m⟩
      refine ⟨_, rfl, a, ws, 0, r1, rfl, wa, few, ep1, ?_⟩
      cases r1 with
      | no j => exact h1
      | ok e1 k1 =>
        intro p1 H1 kp1 w1 ev1
        refine ⟨by show 1 ≤ sizeLine; decide, fun l hl => ?_⟩
        have sl := same_new (o := .lst [V.ref p1]) hl
        have nla : l ≠ a := by
          obtain ⟨dx, pl, as, q1, _⟩ := w1.ob
          exact (ne_of_none q1 hl).symm
        have hln : H l = none := by
          cases e : H l with
          | none => rfl
          | some o =>
            have := kp1 _ _ nla e
            rw [hl] at this
            cases this
        refine ⟨fun m σ H' => ∃ k es as, m = ws.length - k ∧ RestP ws es k r ∧ es.length ≤ k ∧ as ≠ [] ∧ σ = [some (.ref a), some (.ref l)] ∧ Keep1 a H H' ∧ WAt C H' a ws k ∧ H' l = some (.lst (as.map V.ref)) ∧ EndsAt CE H' as es,
          ⟨_, k1, [e1], [p1], rfl, h1, by have := end_on ep1; simp; omega, by simp, rfl, kp1.trans (.of sl), w1.keep sl, upd_same, .cons ⟨ev1.keep sl, end_good few ep1⟩ .nil⟩, fun m σ H' hw => ?_⟩
        obtain ⟨k, es, as, rfl, rp, le, nn, rfl, kk, w2, hl2, ea⟩ := hw
        refine rd_m1 w2 rfl (by decide +kernel) ⟨a, ws, k, slash, rfl, w2, _, rfl, ?_⟩
        by_cases hs : ws[k]? = some slash
        · rw [decide_eq_true hs]
          refine iteT ?_
          have kl : k < ws.length := (List.getElem?_eq_some_iff.mp hs).1
          refine ⟨fun σ' H3 => ∃ k' es' as', k < k' ∧ RestP ws es' k' r ∧ es'.length ≤ k' ∧ as' ≠ [] ∧ σ' = [some (.ref a), some (.ref l)] ∧ Keep1 a H H3 ∧ WAt C H3 a ws k' ∧ H3 l = some (.lst (as'.map V.ref)) ∧ EndsAt CE H3 as' es',
            fun σ' H3 ⟨k', es', as', lt, q⟩ => ⟨_, by have := q.2.2.2.2.2.1.le; omega, k', es', as', rfl, q⟩, ?_⟩
          refine rd_mR1 w2 rfl (by decide +kernel) ⟨a, ws, k, [slash], rfl, by decide, w2, fun z hz hm H4 k4 w4 => ?_, fun n => absurd List.mem_cons_self (n slash hs)⟩
          have hl4 := k4 _ _ nla hl2
          have ea4 := ends_onK w2 k4 ea
          refine ⟨_, rfl, .inl ⟨rfl, _, SqL.of hl4⟩, ?_⟩
          obtain ⟨r3, ep3, h3⟩ : ∃ r3, EndP ws (k + 1) r3 ∧ (match r3 with
              | .no j => TellA E CT a H (j : Int)
              | .ok e k' => RestP ws (es ++ [e]) k' r) := by
            cases rp with
            | done n => exact absurd hs n
            | err _ t => exact ⟨_, t, h⟩
            | more _ t m => exact ⟨_, t, m⟩
          refine ⟨_, rfl, a, ws, k + 1, r3, rfl, w4, few, ep3, ?_⟩
          cases r3 with
          | no j => exact TellA.on h3 (kk.trans k4)
          | ok e3 k3 =>
            intro p3 H5 k5 w5 ev5
            have hl5 := k5 _ _ nla hl4
            have ea5 := ends_onK w4 k5 ea4
            have lt := end_on ep3
            have al : as.length = es.length := ends_len ea5
            refine ⟨l, _, .ref p3, rfl, rfl, hl5, small1000 (by rw [List.length_map, al]; omega), ?_⟩
            refine ⟨k3, es ++ [e3], as ++ [p3], by omega, h3, ?_, by simp, rfl, fun b o n e => ?_, w5.upE hl5 ea5 nn, ?_, ends_upL hl5 (ends_snoc ⟨ev5, end_good few ep3⟩ ea5)⟩
            · rw [List.length_append, List.length_singleton]
              omega
            · rw [upd_ne fun y => by rw [y, hln] at e; cases e]
              exact k5 _ _ n (k4 _ _ n (kk _ _ n e))
            · rw [upd_same, List.map_append]
              rfl
        · rw [decide_eq_false hs]
          cases rp with
          | err hs' t => exact absurd hs' hs
          | more hs' t m => exact absurd hs' hs
          | done _ =>
            refine iteF ⟨.ref l, rfl, l, _, rfl, .inl ⟨SqL.of hl2, fun t ht => ?_⟩⟩
            have s := same_new (o := .tup (as.map V.ref)) ht
            exact h t as _ (kk.trans (.of s)) (w2.keep s) upd_same (ends_keep s ea)
end
end My
namespace My
open PySem PySem.Spec PyProof.Rows L2
def spRead (K : PySem.W.Frag) (CT CE : Addr) : Sp := fun vs H Q E => ∃ x, vs = [x] ∧
  ((∃ (z : Str) (ws : List Str), x = .str z ∧ Txt.split z spc = ws ∧ z.length ≤ 100000 ∧ ws.length ≤ 120 ∧ (∀ y ∈ ws, y.length ≤ 1000) ∧
    match readF ws with
    | .ok es => ∀ (t : Addr) (as : List Addr) (H' : Hp), Same' H H' → H' t = some (.tup (as.map V.ref)) → EndsAt CE H' as es → Q (.ref t) H'
    | .error j => TellT E CT H (j : Int)) ∨ ((∀ H', Same' H H' → NoText K H' x) ∧ TellT E CT H 0))
/-- Words, as it is made -/
structure MkW (P : Program) (w : World) (K : PySem.W.Frag) (mg : Str → Option Value) (base : Heap) (C CT fI : Addr) (dI : FuncData) (dn : List Value) : Prop where
  g : mg "Words" = some (.ref C)
  m : Mk K C fI
  G : FnOk P w K mg base (L2.CX P w) 4 fI dI ["self", "text", "sign"] (spInitW K C CT)
  b : Binds K dI ["self", "text", "sign"] dn
  v : Vals [V.non] dn
theorem TellT.mono {E : XK} {C : Addr} {H H' : Hp} {k : Int} (t : TellT E C H k) (s : Same' H H') : TellT E C H' k := fun dd H2 s2 e => t dd H2 (s.trans s2) e
section
variable {P : Program} {w : World} {K : PySem.W.Frag} {mg : Str → Option Value} {base : Heap} {C CT CE e0 fN fI : Addr} {dN dI : FuncData} {fA : Nat → Addr} {dA : Nat → FuncData} {ds0 dn : List Value}
abbrev nRd : List Str := ["text", "words", "found"]
theorem scRd : FnScope nRd ["text"] (defScope sRead) := ⟨rfl, rfl, rfl, by decide +kernel, rfl, by decide +kernel, by decide +kernel⟩
theorem ok_read {f : Addr} {fd : FuncData} (F : Fun K "read_ends" "read_ends" sRead f fd) (T : Txt mg) (Y : WK P w K mg base C CT e0 fA dA ds0) (MW : MkW P w K mg base C CT fI dI dn) (FN : Fun K "next_ends" "next_ends" sNext fN dN) (bN : Binds K dN ["words"] []) (gN : mg "next_ends" = some (.ref fN)) (GN : FnOk P w K mg base (L2.CX P w) 9 fN dN ["words"] (spNextEnds C CT CE)) :
    FnOk P w K mg base (L2.CX P w) 10 f fd ["text"] (spRead K CT CE) := by
  refine F.okX scRd (fun vs H Q E h => ?_) (fun cdv A outer s H vs Q E hr h => ?_)
  · obtain ⟨x, rfl, _⟩ := h
    rfl
  · obtain ⟨x, rfl, h⟩ := h
    refine ⟨_, pss_cons (ps_set (i := 1) scRd.nd rfl (.inl rfl) (pe_make (x := "Words") (E := E) MW.m MW.G (hr.mono (by decide)) (by rfl) MW.g MW.b MW.v (passes_call (takes_of rfl rfl rfl rfl) (fun _ _ _ _ h => h)) (pa_cons (pv 0) pa_nil)))
      (pss_cons (ps_set (i := 2) scRd.nd rfl (.inl rfl) (pe_call GN hr (by rfl) gN FN.kp bN .nil (passes_call (takes_of rfl rfl rfl rfl) (fun _ _ _ _ h => h)) (pa_cons (pv 1) pa_nil)))
      (pss_cons (ps_expr (pe_meth0 (pv 1) Y.W.c Y.fin.m Y.fin.G (hr.mono (by decide)) Y.fin.b .nil (passes_call (takes_of rfl rfl rfl rfl) (fun _ _ _ _ h => h))))
      (pss_one (ps_ret (pv 2))))), ?_⟩
    refine ⟨_, rfl, fun a dx ha hdx ne => ?_⟩
    have sm := made_same (u := .own a) (w := .ins C dx []) ha hdx
    have off : ∀ {H' : Hp}, Keep1 a (upd (upd H dx (.own a)) a (.ins C dx [])) H' → Same' H H' := fun k b o e => k b o (ne_of_none e ha) (sm b o e)
    refine ⟨a, dx, x, rfl, upd_same, ?_⟩
    rcases h with ⟨z, ws, rfl, hw, zl, wl, wlen, h⟩ | ⟨nt, told⟩
    · refine .inl ⟨z, ws, rfl, hw, zl, by omega, wlen, fun H1 k1 w1 => ⟨rfl, ?_⟩⟩
      have rp := read_of (ws := ws)
      obtain ⟨r, er, ep⟩ : ∃ r, endsF ws = r ∧ EndsP ws r := ⟨_, rfl, ends_of⟩
      refine ⟨_, rfl, a, ws, r, rfl, w1, wl, ep, ?_⟩
      unfold readF at h
      rw [er] at h
      cases r with
      | no j => exact fun dd H2 k2 e => h dd H2 (off (k1.trans k2)) e
      | ok es j =>
        intro t as H2 k2 w2 ht ea
        have le := w2.le
        refine rd_m0 w2 rfl (by decide +kernel) ⟨a, ws, j, rfl, w2, fun e => ?_, fun lt => ?_⟩
        · dsimp only at h
          rw [if_neg (by omega)] at h
          exact ⟨_, rfl, h t as H2 (off (k1.trans k2)) ht ea⟩
        · dsimp only at h
          rw [if_pos lt] at h
          exact fun dd H3 k3 e => h dd H3 (off (k1.trans (k2.trans k3))) e
    · exact .inr ⟨nt _ sm, fun dd H2 k2 e => told dd H2 (off k2) e⟩
end
end My
/-! texts of ends, as words -/
namespace My
open PySem PySem.Spec PyProof.Rows L2
theorem str_ext {x y : Str} (h : x.cps = y.cps) : x = y := by
  cases x; cases y; exact congrArg _ h
theorem app_assoc (x y z : Str) : x ++ y ++ z = x ++ (y ++ z) := str_ext (by simp only [PySem.Str.cps_append, Array.append_assoc])
/-- lists of words, a sign between each two -/
def inter (s : Str) : List (List Str) → List Str
  | [] => []
  | [x] => x
  | x :: y :: r => x ++ s :: inter s (y :: r)
theorem join_cons (y : Str) {x : Str} {r : List Str} (h : r ≠ []) : Str.join y (x :: r) = x ++ y ++ Str.join y r := by
  cases r with
  | nil => exact absurd rfl h
  | cons z r => rfl
theorem join_app (y : Str) : ∀ {xs zs : List Str}, xs ≠ [] → zs ≠ [] → Str.join y (xs ++ zs) = Str.join y xs ++ y ++ Str.join y zs
  | [], _, h, _ => absurd rfl h
  | [x], zs, _, k => join_cons y k
  | x :: z :: r, zs, _, k => by
    have ih := join_app y (xs := z :: r) (by simp) k
    show x ++ y ++ Str.join y ((z :: r) ++ zs) = x ++ y ++ Str.join y (z :: r) ++ y ++ Str.join y zs
    rw [ih]
    simp only [app_assoc]
theorem inter_ne (s : Str) : ∀ {wss : List (List Str)}, wss ≠ [] → (∀ ws ∈ wss, ws ≠ []) → inter s wss ≠ []
  | [], h, _ => absurd rfl h
  | [x], _, k => k x List.mem_cons_self
  | x :: y :: r, _, k => by
    show x ++ s :: _ ≠ []
    simp
/-- joined by the sign between blanks, or by blanks alone -/
theorem join_inter {p s b : Str} (e : p = b ++ s ++ b) : ∀ {wss : List (List Str)}, (∀ ws ∈ wss, ws ≠ []) → Str.join p (wss.map (Str.join b)) = Str.join b (inter s wss)
  | [], _ => rfl
  | [x], _ => rfl
  | x :: y :: r, k => by
    have ih := join_inter e (wss := y :: r) fun ws h => k ws (List.mem_cons_of_mem _ h)
    have n := inter_ne s (wss := y :: r) (by simp) fun ws h => k ws (List.mem_cons_of_mem _ h)
    show Str.join b x ++ p ++ Str.join p ((y :: r).map (Str.join b)) = Str.join b (x ++ s :: inter s (y :: r))
    rw [ih, join_app b (k x List.mem_cons_self) (by simp), join_cons b n, e]
    simp only [app_assoc]
theorem inter_snoc (s : Str) : ∀ {wss : List (List Str)} {ws : List Str}, wss ≠ [] → inter s (wss ++ [ws]) = inter s wss ++ s :: ws
  | [], _, h => absurd rfl h
  | [x], _, _ => rfl
  | x :: y :: r, ws, _ => by
    have ih := inter_snoc s (wss := y :: r) (ws := ws) (by simp)
    show x ++ s :: inter s ((y :: r) ++ [ws]) = (x ++ s :: inter s (y :: r)) ++ s :: ws
    rw [ih]
    simp
def headW : Option Str → List Str
  | none => ["done"]
  | some n => ["failed", n]
def figW (v : Int) : Str := ((toString v : String) : Str)
def cellW (c : Str × Int) : List Str := [c.1, figW c.2]
def logW (zs : List Str) : List Str := if zs = [] then ["-"] else zs
def thingW (l : Str × List Str) : List Str := l.1 :: logW l.2
def wordsE (e : EndD) : List Str := inter semi (headW e.f :: (e.cs.map cellW ++ e.ls.map thingW))
def wordsEs (es : List EndD) : List Str := if es.isEmpty then ["-"] else inter slash (es.map wordsE)
theorem semi_is : (" ; " : Str) = " " ++ semi ++ " " := by decide +kernel
theorem slash_is : (" / " : Str) = " " ++ slash ++ " " := by decide +kernel
theorem headE_is (f : Option Str) : headE f = Str.join " " (headW f) := by
  cases f with
  | none => rfl
  | some n =>
    show (Str.empty ++ ("failed " : Str)) ++ n = ("failed" : Str) ++ " " ++ n
    rw [empty_cat]
    rw [show ("failed " : Str) = "failed" ++ " " by decide +kernel]
theorem cT_is (c : Str × Int) : cT c = Str.join " " (cellW c) := by
  show ((Str.empty ++ c.1) ++ (" " : Str)) ++ _ = c.1 ++ (" " : Str) ++ figW c.2
  rw [empty_cat]
  rfl
theorem logT_is {zs : List Str} (h : ∀ z ∈ zs, 1 ≤ z.length) : logT zs = Str.join " " (logW zs) := by
  unfold logT logW
  cases zs with
  | nil => decide +kernel
  | cons z r =>
    have l := len_join_pos (y := " ") (z := z) (r := r) (h z List.mem_cons_self)
    rw [← TL.join_eq] at l
    rw [if_pos (by simp; omega), if_neg (by simp), TL.join_eq]
theorem lT2_is {l : Str × List Str} (h : ∀ z ∈ l.2, 1 ≤ z.length) : lT2 l = Str.join " " (thingW l) := by
  show ((Str.empty ++ l.1) ++ (" " : Str)) ++ logT l.2 = Str.join " " (l.1 :: logW l.2)
  rw [empty_cat, logT_is h, join_cons " " (by unfold logW; split <;> simp_all)]
theorem wordsE_parts (e : EndD) : ∀ ws ∈ (headW e.f :: (e.cs.map cellW ++ e.ls.map thingW)), ws ≠ [] := by
  intro ws h
  rcases List.mem_cons.mp h with rfl | h
  · cases e.f <;> simp [headW]
  · rcases List.mem_append.mp h with h | h
    · obtain ⟨c, _, rfl⟩ := List.mem_map.mp h
      simp [cellW]
    · obtain ⟨c, _, rfl⟩ := List.mem_map.mp h
      simp [thingW]
theorem wordsE_ne (e : EndD) : wordsE e ≠ [] := inter_ne semi (by simp) (wordsE_parts e)
theorem textE_is {e : EndD} (G : GoodE e) : textE e = Str.join " " (wordsE e) := by
  unfold textE wordsE partsE
  rw [TL.join_eq, ← join_inter semi_is (wordsE_parts e)]
  congr 1
  rw [List.map_cons, List.map_append, List.map_map, List.map_map, headE_is]
  congr 2
  · exact List.map_congr_left fun c _ => cT_is c
  · exact List.map_congr_left fun l hl => lT2_is fun z hz => (wd_ok ((G.lv l hl).2 z hz)).2.1
theorem textEs_is {es : List EndD} (G : ∀ e ∈ es, GoodE e) : textEs es = Str.join " " (wordsEs es) := by
  unfold textEs wordsEs
  cases es with
  | nil => rfl
  | cons e r =>
    show Txt.join " / " ((e :: r).map textE) = Str.join " " (inter slash ((e :: r).map wordsE))
    rw [TL.join_eq, ← join_inter slash_is (fun ws h => by obtain ⟨x, _, rfl⟩ := List.mem_map.mp h; exact wordsE_ne x), List.map_map]
    congr 1
    exact List.map_congr_left fun x hx => textE_is (G x hx)
/-! ### what is read is what is written -/
theorem drop_tw {p : Str → Bool} : ∀ l : List Str, l.drop (l.takeWhile p).length = l.dropWhile p
  | [] => rfl
  | x :: r => by
    rw [List.takeWhile_cons, List.dropWhile_cons]
    cases h : p x with
    | true => simpa using drop_tw r
    | false => simp
theorem logR_back {ws : List Str} {k j : Nat} {zs : List Str} (h : logR ws k = .ok zs j) : ws.drop k = logW zs ++ ws.drop j := by
  unfold logR at h
  cases hd : ws.drop k with
  | nil => rw [hd] at h; cases h
  | cons z r =>
    rw [hd] at h
    have next : ws.drop (k + 1) = r := by
      rw [← List.drop_drop, hd]
      rfl
    simp only at h
    split at h
    · rename_i e
      injection h with h1 h2
      subst h1 h2
      rw [next, e]
      rfl
    · split at h
      · injection h with h1 h2
        subst h1 h2
        rw [← List.drop_drop, next]
        show z :: r = (z :: r.takeWhile wd) ++ r.drop (r.takeWhile wd).length
        have e := List.takeWhile_append_dropWhile (p := wd) (l := r)
        have e2 : r.drop (r.takeWhile wd).length = r.dropWhile wd := drop_tw r
        rw [e2, List.cons_append, e]
      · cases h
theorem drop_one {ws : List Str} {k : Nat} {z : Str} (h : ws[k]? = some z) : ws.drop k = z :: ws.drop (k + 1) := by
  have hk := (List.getElem?_eq_some_iff.mp h).1
  rw [List.drop_eq_getElem_cons hk]
  rw [List.getElem?_eq_getElem hk] at h
  injection h with h
  rw [h]
/-- the words of what is read so far -/
def soFar (hd : List Str) (cs : List (Str × Int)) (ls : List (Str × List Str)) : List Str := inter semi (hd :: (cs.map cellW ++ ls.map thingW))
theorem soFar_c {hd : List Str} {cs : List (Str × Int)} {c : Str × Int} : soFar hd (cs ++ [c]) [] = soFar hd cs [] ++ semi :: cellW c := by
  unfold soFar
  simp only [List.map_nil, List.append_nil, List.map_append, List.map_cons]
  rw [← List.cons_append, inter_snoc semi (by simp)]
theorem soFar_l {hd : List Str} {cs : List (Str × Int)} {ls : List (Str × List Str)} {l : Str × List Str} : soFar hd cs (ls ++ [l]) = soFar hd cs ls ++ semi :: thingW l := by
  unfold soFar
  simp only [List.map_append, List.map_cons, List.map_nil]
  rw [← List.append_assoc, ← List.cons_append, inter_snoc semi (by simp)]
theorem thing_back {ws : List Str} {k j : Nat} {cs : List (Str × Int)} {ls : List (Str × List Str)} {c : CL} {hd : List Str} (hs : ws[k]? = some semi) (h : thingR ws (k + 1) cs ls = .ok c j) : soFar hd cs ls ++ ws.drop k = soFar hd c.1 c.2 ++ ws.drop j := by
  have w := thing_ways (ws := ws) (k := k + 1) (cs := cs) (ls := ls)
  rw [h] at w
  cases w with
  | cell hz hn hc hv hf =>
    obtain ⟨b1, b2⟩ := mayC_of hc
    subst b1
    rw [soFar_c, drop_one hs, drop_one hz, drop_one hf]
    simp [cellW, figW, fig]
  | log hz hn hc hl =>
    rw [soFar_l, drop_one hs, drop_one hz, logR_back hl]
    simp [thingW]
theorem things_back {ws : List Str} {cs : List (Str × Int)} {ls : List (Str × List Str)} {k : Nat} {r : Res CL} (hd : List Str) (h : Things ws cs ls k r) : ∀ c j, r = .ok c j → soFar hd cs ls ++ ws.drop k = soFar hd c.1 c.2 ++ ws.drop j := by
  induction h with
  | done h =>
    intro c j e
    injection e with e1 e2
    subst e1 e2
    rfl
  | err h t =>
    intro c j e
    cases e
  | more h t m ih =>
    intro c j e
    rw [thing_back h t]
    exact ih c j e
theorem head_back {ws : List Str} {k j : Nat} {f : Option Str} (h : headR ws k = .ok f j) : ws.drop k = headW f ++ ws.drop j := by
  unfold headR at h
  cases hz : ws[k]? with
  | none => rw [hz] at h; cases h
  | some z =>
    rw [hz] at h
    simp only at h
    split at h
    · rename_i e
      injection h with h1 h2
      subst h1 h2
      rw [drop_one hz, e]
      rfl
    · split at h
      · rename_i e
        cases hy : ws[k + 1]? with
        | none => rw [hy] at h; cases h
        | some y =>
          rw [hy] at h
          simp only at h
          split at h
          · injection h with h1 h2
            subst h1 h2
            rw [drop_one hz, drop_one hy, e]
            rfl
          · cases h
      · cases h
theorem end_back {ws : List Str} {k j : Nat} {e : EndD} (h : EndP ws k (.ok e j)) : ws.drop k = wordsE e ++ ws.drop j := by
  cases h with
  | ok h t =>
    rw [head_back h]
    exact things_back (headW _) t _ _ rfl
theorem rest_back {ws : List Str} {es : List EndD} {k : Nat} {r : Res (List EndD)} (h : RestP ws es k r) : es ≠ [] → ∀ c j, r = .ok c j → inter slash (es.map wordsE) ++ ws.drop k = inter slash (c.map wordsE) ++ ws.drop j ∧ c ≠ [] := by
  induction h with
  | done h =>
    intro n c j e
    injection e with e1 e2
    subst e1 e2
    exact ⟨rfl, n⟩
  | err h t =>
    intro n c j e
    cases e
  | more h t m ih =>
    intro n c j e
    have ih := ih (by simp) c j e
    refine ⟨?_, ih.2⟩
    rw [← ih.1, drop_one h, end_back t, List.map_append]
    show _ = inter slash (_ ++ [wordsE _]) ++ _
    rw [inter_snoc slash (by simpa using n)]
    simp
theorem ends_back {ws : List Str} {es : List EndD} {j : Nat} (h : EndsP ws (.ok es j)) : ws = wordsEs es ++ ws.drop j := by
  cases h with
  | bar h =>
    have := drop_one h
    rw [List.drop_zero] at this
    exact this
  | more h t m =>
    have a := end_back t
    obtain ⟨b, n⟩ := rest_back m (by simp) _ _ rfl
    rw [List.drop_zero] at a
    unfold wordsEs
    rw [if_neg (by simpa using n), ← b]
    exact a
theorem read_back {ws : List Str} {es : List EndD} (h : readF ws = .ok es) : wordsEs es = ws := by
  have r := read_of (ws := ws)
  rw [h] at r
  cases r with
  | ok h l =>
    have := ends_back h
    rw [l, List.drop_length, List.append_nil] at this
    exact this.symm
end My
/-! what is written is read -/
namespace My
open PySem PySem.Spec PyProof.Rows L2
theorem inter_flat (s : Str) : ∀ {x : List Str} {r : List (List Str)}, inter s (x :: r) = x ++ (r.map (s :: ·)).flatten
  | x, [] => by simp [inter]
  | x, y :: r => by
    show x ++ s :: inter s (y :: r) = _
    rw [inter_flat s]
    simp
theorem at_drop {ws r : List Str} {k : Nat} {z : Str} (h : ws.drop k = z :: r) : ws[k]? = some z ∧ ws.drop (k + 1) = r := by
  have : (ws.drop k)[0]? = some z := by rw [h]; rfl
  rw [List.getElem?_drop, Nat.add_zero] at this
  refine ⟨this, ?_⟩
  rw [← List.drop_drop, h]
  rfl
theorem drop_more {ws x r : List Str} {k : Nat} (h : ws.drop k = x ++ r) : ws.drop (k + x.length) = r := by
  rw [← List.drop_drop, h, List.drop_left' rfl]
def notW (r : List Str) : Prop := ∀ z, r.head? = some z → wd z = false
theorem notW_semi {r : List Str} : notW (semi :: r) := fun z h => by
  injection h with h
  rw [← h]
  decide +kernel
theorem notW_slash {r : List Str} : notW (slash :: r) := fun z h => by
  injection h with h
  rw [← h]
  decide +kernel
theorem tw_app {r rest : List Str} (h : ∀ z ∈ r, wd z = true) (n : notW rest) : (r ++ rest).takeWhile wd = r := by
  induction r with
  | nil =>
    cases rest with
    | nil => rfl
    | cons z r =>
      have := n z rfl
      simp [this]
  | cons z r ih =>
    have := ih fun y hy => h y (List.mem_cons_of_mem _ hy)
    have h1 := h z List.mem_cons_self
    simp [h1, this]
theorem logR_fwd {ws zs rest : List Str} {k : Nat} (h : ws.drop k = logW zs ++ rest) (hw : ∀ z ∈ zs, wd z = true) (hr : notW rest) : logR ws k = .ok zs (k + (logW zs).length) := by
  unfold logR
  rw [h]
  cases zs with
  | nil => rfl
  | cons z r =>
    have e : logW (z :: r) = z :: r := by unfold logW; rw [if_neg (by simp)]
    rw [e]
    have h1 := hw z List.mem_cons_self
    have nd : z ≠ "-" := fun y => by
      rw [y] at h1
      exact absurd h1 (by decide +kernel)
    simp only [List.cons_append, if_neg nd, h1, if_true]
    rw [tw_app (fun y hy => hw y (List.mem_cons_of_mem _ hy)) hr, List.length_cons]
    congr 1
    omega
theorem empty_lt {z : Str} (h : 1 ≤ z.length) : (("" : Str)).cps.toList < z.cps.toList := by
  show ([] : List Nat) < _
  cases hc : z.cps.toList with
  | nil =>
    have : z.cps.size = 0 := by rw [← Array.length_toList, hc]; rfl
    have : z.length = 0 := this
    omega
  | cons c r => exact List.nil_lt_cons _ _
theorem last_lt {l1 l2 : List Str} {z : Str} (h : asc (l1 ++ z :: l2)) (n : 1 ≤ z.length) : (lastN l1).cps.toList < z.cps.toList := by
  rcases List.eq_nil_or_concat l1 with rfl | ⟨r, y, rfl⟩
  · exact empty_lt n
  · rw [List.concat_eq_append] at h ⊢
    rw [lastN_snoc]
    exact (List.pairwise_append.mp h).2.2 y (by simp) z List.mem_cons_self
theorem not_before {l1 l2 : List Str} {z : Str} (h : asc (l1 ++ z :: l2)) : z ∉ l1 := fun m => by
  have := (List.pairwise_append.mp h).2.2 z m z List.mem_cons_self
  exact List.lt_irrefl _ this
theorem mayN_mk {cs : List (Str × Int)} {ls : List (Str × List Str)} {z : Str} (h1 : (lastN (ls.map (·.1))).cps.toList < z.cps.toList) (h2 : z ∉ cs.map (·.1)) (h3 : nm z = true) : mayN cs ls z = true := by
  unfold mayN nmOk
  rw [decide_eq_true h1, decide_eq_false h2, h3]
  rfl
theorem nm_len {z : Str} (h : nm z = true) : 1 ≤ z.length := (wd_ok (nm_wd h)).2.1
theorem cells_fwd {ws : List Str} {r : Res CL} : ∀ (c2 c1 : List (Str × Int)) (k : Nat) (rest : List Str), ws.drop k = (c2.map fun c => semi :: cellW c).flatten ++ rest → asc ((c1 ++ c2).map (·.1)) → (∀ c ∈ c2, nm c.1 = true ∧ 0 ≤ c.2 ∧ c.2 < 4) →
    Things ws (c1 ++ c2) [] (k + (c2.map fun c => semi :: cellW c).flatten.length) r → Things ws c1 [] k r
  | [], c1, k, rest, h, a, g, t => by
    rw [List.append_nil] at t
    exact t
  | c :: c2, c1, k, rest, h, a, g, t => by
    obtain ⟨g1, g2, g3⟩ := g c List.mem_cons_self
    have h' : ws.drop k = semi :: c.1 :: figW c.2 :: ((c2.map fun c => semi :: cellW c).flatten ++ rest) := by
      rw [h]
      simp [cellW]
    obtain ⟨e1, h1⟩ := at_drop h'
    obtain ⟨e2, h2⟩ := at_drop h1
    obtain ⟨e3, h3⟩ := at_drop h2
    rw [List.map_append, List.map_cons] at a
    obtain ⟨v, hv, ev⟩ : ∃ v : Nat, v < 4 ∧ c.2 = (v : Int) := ⟨c.2.toNat, by omega, by omega⟩
    have ef : ws[k + 1 + 1]? = some (fig v) := by
      rw [e3, ev]
      rfl
    have th := thingR_cell (ws := ws) (k := k + 1) (cs := c1) (ls := []) e2 (mayN_mk (empty_lt (nm_len g1)) (not_before a) g1) (by
      unfold mayC
      rw [decide_eq_true (last_lt a (nm_len g1))]
      rfl) hv ef
    have ec : (c.1, (v : Int)) = c := by rw [← ev]
    rw [ec] at th
    refine .more e1 th (cells_fwd c2 (c1 ++ [c]) (k + 1 + 2) rest h3 (by simpa using a) (fun d hd => g d (List.mem_cons_of_mem _ hd)) ?_)
    have e : k + 1 + 2 + (c2.map fun c => semi :: cellW c).flatten.length = k + ((c :: c2).map fun c => semi :: cellW c).flatten.length := by
      rw [List.map_cons, List.flatten_cons, List.length_append]
      simp only [cellW, List.length_cons, List.length_nil]
      omega
    rw [e, List.append_assoc]
    exact t
theorem figs_not {z : Str} (h : wd z = true ∨ z = "-") : z ∉ figs := fun m => by
  have m' : z = fig 0 ∨ z = fig 1 ∨ z = fig 2 ∨ z = fig 3 := by simpa [figs] using m
  rcases h with h | h
  · rcases m' with rfl | rfl | rfl | rfl <;> exact absurd h (by decide +kernel)
  · subst h
    exact absurd m (by decide +kernel)
theorem logs_fwd {ws : List Str} {r : Res CL} {cs : List (Str × Int)} : ∀ (l2 l1 : List (Str × List Str)) (k : Nat) (rest : List Str), ws.drop k = (l2.map fun l => semi :: thingW l).flatten ++ rest → asc ((l1 ++ l2).map (·.1)) → (∀ l ∈ l2, nm l.1 = true ∧ ∀ z ∈ l.2, wd z = true) → (∀ l ∈ l2, l.1 ∉ cs.map (·.1)) → notW rest →
    Things ws cs (l1 ++ l2) (k + (l2.map fun l => semi :: thingW l).flatten.length) r → Things ws cs l1 k r
  | [], l1, k, rest, h, a, g, d, n, t => by
    rw [List.append_nil] at t
    exact t
  | l :: l2, l1, k, rest, h, a, g, d, n, t => by
    obtain ⟨g1, g2⟩ := g l List.mem_cons_self
    have h' : ws.drop k = semi :: l.1 :: (logW l.2 ++ ((l2.map fun l => semi :: thingW l).flatten ++ rest)) := by
      rw [h]
      simp [thingW]
    obtain ⟨e1, h1⟩ := at_drop h'
    obtain ⟨e2, h2⟩ := at_drop h1
    rw [List.map_append, List.map_cons] at a
    have nr : notW ((l2.map fun l => semi :: thingW l).flatten ++ rest) := by
      cases l2 with
      | nil => exact n
      | cons x y => exact notW_semi
    have lg := logR_fwd h2 g2 nr
    have hh : hits ws (k + 1 + 1) figs = false := by
      obtain ⟨y, ys, ey, oy⟩ : ∃ y ys, logW l.2 = y :: ys ∧ (wd y = true ∨ y = "-") := by
        unfold logW
        cases e : l.2 with
        | nil => exact ⟨_, _, rfl, .inr rfl⟩
        | cons y ys => exact ⟨y, ys, by rw [if_neg (by simp)], .inl (g2 y (by rw [e]; exact List.mem_cons_self))⟩
      rw [ey, List.cons_append] at h2
      rw [hits_mem (at_drop h2).1]
      exact decide_eq_false (figs_not oy)
    have th := thingR_log (ws := ws) (k := k + 1) (cs := cs) (ls := l1) e2 (mayN_mk (last_lt a (nm_len g1)) (d l List.mem_cons_self) g1) (by rw [hh, Bool.and_false])
    rw [lg] at th
    refine .more e1 th (logs_fwd l2 (l1 ++ [l]) (k + 1 + 1 + (logW l.2).length) rest (drop_more h2) (by simpa using a) (fun x hx => g x (List.mem_cons_of_mem _ hx)) (fun x hx => d x (List.mem_cons_of_mem _ hx)) n ?_)
    have e : k + 1 + 1 + (logW l.2).length + (l2.map fun l => semi :: thingW l).flatten.length = k + ((l :: l2).map fun l => semi :: thingW l).flatten.length := by
      rw [List.map_cons, List.flatten_cons, List.length_append]
      simp only [thingW, List.length_cons]
      omega
    rw [e, List.append_assoc]
    exact t
structure Fits (e : EndD) : Prop where
  g : GoodE e
  d : ∀ l ∈ e.ls, l.1 ∉ e.cs.map (·.1)
theorem wordsE_flat (e : EndD) : wordsE e = headW e.f ++ ((e.cs.map fun c => semi :: cellW c).flatten ++ (e.ls.map fun l => semi :: thingW l).flatten) := by
  unfold wordsE
  rw [inter_flat, List.map_append, List.flatten_append, List.map_map, List.map_map]
  rfl
theorem end_fwd {ws rest : List Str} {k : Nat} {e : EndD} (F : Fits e) (h : ws.drop k = wordsE e ++ rest) (n : notW rest) (ns : rest.head? ≠ some semi) : EndP ws k (.ok e (k + (wordsE e).length)) := by
  rw [wordsE_flat, List.append_assoc, List.append_assoc] at h
  have hh : headR ws k = .ok e.f (k + (headW e.f).length) := by
    unfold headR
    cases hf : e.f with
    | none =>
      rw [hf] at h
      rw [(at_drop h).1]
      rfl
    | some y =>
      rw [hf] at h
      obtain ⟨a, b⟩ := at_drop h
      obtain ⟨c, d⟩ := at_drop b
      rw [a, c]
      simp only [if_neg (show ("failed" : Str) ≠ "done" by decide +kernel), F.g.f y hf, if_true]
      rfl
  have h1 := drop_more h
  have h2 := drop_more h1
  have h3 := drop_more h2
  have nr : notW ((e.ls.map fun l => semi :: thingW l).flatten ++ rest) := by
    cases e.ls with
    | nil => exact n
    | cons x y => exact notW_semi
  have t := cells_fwd (ws := ws) (r := .ok (e.cs, e.ls) (k + (wordsE e).length)) e.cs [] _ _ h1 (by simpa using F.g.ca) F.g.cv (by
    refine logs_fwd e.ls [] _ _ h2 (by simpa using F.g.la) F.g.lv F.d n ?_
    have ek : k + (headW e.f).length + (e.cs.map fun c => semi :: cellW c).flatten.length + (e.ls.map fun l => semi :: thingW l).flatten.length = k + (wordsE e).length := by
      rw [wordsE_flat, List.length_append, List.length_append]
      omega
    rw [ek] at h3 ⊢
    refine .done fun z => ns ?_
    rw [drop_one z] at h3
    rw [← h3]
    rfl)
  exact .ok hh t
theorem rest_fwd {ws : List Str} : ∀ (e2 es : List EndD) (k : Nat), k ≤ ws.length → ws.drop k = (e2.map fun e => slash :: wordsE e).flatten → (∀ e ∈ e2, Fits e) → RestP ws es k (.ok (es ++ e2) ws.length)
  | [], es, k, l, h, f => by
    have : ws.length ≤ k := by
      have := congrArg List.length h
      rw [List.length_drop] at this
      simp at this
      omega
    have e : k = ws.length := by omega
    subst e
    rw [List.append_nil]
    exact .done (by simp)
  | e :: e2, es, k, l, h, f => by
    have h' : ws.drop k = slash :: (wordsE e ++ (e2.map fun e => slash :: wordsE e).flatten) := by
      rw [h]
      simp
    obtain ⟨a, b⟩ := at_drop h'
    have n : notW (e2.map fun e => slash :: wordsE e).flatten ∧ ((e2.map fun e => slash :: wordsE e).flatten).head? ≠ some semi := by
      cases e2 with
      | nil => exact ⟨(fun z h => by cases h), by simp⟩
      | cons x y => exact ⟨notW_slash, fun h => by injection h with h; exact absurd h (by decide +kernel)⟩
    have p := end_fwd (f e List.mem_cons_self) b n.1 n.2
    have t := rest_fwd (ws := ws) e2 (es ++ [e]) (k + 1 + (wordsE e).length) (end_on p).2 (drop_more b) fun x hx => f x (List.mem_cons_of_mem _ hx)
    rw [List.append_assoc] at t
    exact .more a p t
/-! one result -/
theorem things_det {ws : List Str} {cs : List (Str × Int)} {ls : List (Str × List Str)} {k : Nat} {r : Res CL} (h : Things ws cs ls k r) : ∀ r', Things ws cs ls k r' → r = r' := by
  induction h with
  | done h =>
    intro r' h'
    cases h' with
    | done _ => rfl
    | err h2 _ => exact absurd h2 h
    | more h2 _ _ => exact absurd h2 h
  | err h t =>
    intro r' h'
    cases h' with
    | done h2 => exact absurd h h2
    | err _ t2 => rw [t] at t2; injection t2 with e; rw [e]
    | more _ t2 _ => rw [t] at t2; cases t2
  | more h t m ih =>
    intro r' h'
    cases h' with
    | done h2 => exact absurd h h2
    | err _ t2 => rw [t] at t2; cases t2
    | more _ t2 m2 =>
      rw [t] at t2
      injection t2 with e1 e2
      injection e1 with e1 e3
      subst e1 e2 e3
      exact ih _ m2
theorem end_det {ws : List Str} {k : Nat} {r r' : Res EndD} (h : EndP ws k r) (h' : EndP ws k r') : r = r' := by
  cases h with
  | bad h =>
    cases h' with
    | bad h2 => rw [h] at h2; injection h2 with e; rw [e]
    | err h2 _ => rw [h] at h2; cases h2
    | ok h2 _ => rw [h] at h2; cases h2
  | err h t =>
    cases h' with
    | bad h2 => rw [h] at h2; cases h2
    | err h2 t2 =>
      rw [h] at h2
      injection h2 with e1 e2
      subst e1 e2
      have := things_det t _ t2
      injection this with e
      rw [e]
    | ok h2 t2 =>
      rw [h] at h2
      injection h2 with e1 e2
      subst e1 e2
      cases things_det t _ t2
  | ok h t =>
    cases h' with
    | bad h2 => rw [h] at h2; cases h2
    | err h2 t2 =>
      rw [h] at h2
      injection h2 with e1 e2
      subst e1 e2
      cases things_det t _ t2
    | ok h2 t2 =>
      rw [h] at h2
      injection h2 with e1 e2
      subst e1 e2
      have := things_det t _ t2
      injection this with e e3
      injection e with e4 e5
      rw [e3, e4, e5]
theorem rest_det {ws : List Str} {es : List EndD} {k : Nat} {r : Res (List EndD)} (h : RestP ws es k r) : ∀ r', RestP ws es k r' → r = r' := by
  induction h with
  | done h =>
    intro r' h'
    cases h' with
    | done _ => rfl
    | err h2 _ => exact absurd h2 h
    | more h2 _ _ => exact absurd h2 h
  | err h t =>
    intro r' h'
    cases h' with
    | done h2 => exact absurd h h2
    | err _ t2 => have := end_det t t2; injection this with e; rw [e]
    | more _ t2 _ => cases end_det t t2
  | more h t m ih =>
    intro r' h'
    cases h' with
    | done h2 => exact absurd h h2
    | err _ t2 => cases end_det t t2
    | more _ t2 m2 =>
      have := end_det t t2
      injection this with e1 e2
      subst e1 e2
      exact ih _ m2
theorem ends_det {ws : List Str} {r r' : Res (List EndD)} (h : EndsP ws r) (h' : EndsP ws r') : r = r' := by
  cases h with
  | bar h =>
    cases h' with
    | bar _ => rfl
    | err h2 _ => exact absurd h h2
    | more h2 _ _ => exact absurd h h2
  | err h t =>
    cases h' with
    | bar h2 => exact absurd h2 h
    | err _ t2 => have := end_det t t2; injection this with e; rw [e]
    | more _ t2 _ => cases end_det t t2
  | more h t m =>
    cases h' with
    | bar h2 => exact absurd h2 h
    | err _ t2 => cases end_det t t2
    | more _ t2 m2 =>
      have := end_det t t2
      injection this with e1 e2
      subst e1 e2
      exact rest_det m _ m2
theorem head_not_dash (e : EndD) (r : List Str) : (wordsE e ++ r)[0]? ≠ some dash := by
  rw [wordsE_flat]
  cases e.f with
  | none => exact fun h => by injection h with h; exact absurd h (by decide +kernel)
  | some n => exact fun h => by injection h with h; exact absurd h (by decide +kernel)
theorem read_fwd {es : List EndD} (F : ∀ e ∈ es, Fits e) : readF (wordsEs es) = .ok es := by
  have key : EndsP (wordsEs es) (.ok es (wordsEs es).length) := by
    unfold wordsEs
    cases es with
    | nil => exact .bar rfl
    | cons e r =>
      show EndsP (inter slash (wordsE e :: r.map wordsE)) (.ok (e :: r) (inter slash (wordsE e :: r.map wordsE)).length)
      rw [inter_flat, List.map_map]
      obtain ⟨ws, ew⟩ : ∃ ws, wordsE e ++ (r.map ((fun x => slash :: x) ∘ wordsE)).flatten = ws := ⟨_, rfl⟩
      have h0 : ws.drop 0 = wordsE e ++ (r.map fun e => slash :: wordsE e).flatten := by rw [List.drop_zero, ← ew]; rfl
      have n : notW (r.map fun e => slash :: wordsE e).flatten ∧ ((r.map fun e => slash :: wordsE e).flatten).head? ≠ some semi := by
        cases r with
        | nil => exact ⟨(fun z h => by cases h), by simp⟩
        | cons x y => exact ⟨notW_slash, fun h => by injection h with h; exact absurd h (by decide +kernel)⟩
      have p := end_fwd (F e List.mem_cons_self) h0 n.1 n.2
      have t := rest_fwd (ws := ws) r [e] _ (end_on p).2 (drop_more h0) fun x hx => F x (List.mem_cons_of_mem _ hx)
      rw [ew]
      refine .more ?_ p t
      rw [← ew]
      exact head_not_dash e _
  unfold readF
  rw [ends_det (ends_of (ws := wordsEs es)) key]
  simp
end My
/-! the law's own looks at words -/
namespace My
open PySem PySem.Spec PyProof.Rows L2
def bad (l : List Nat) : List V := (l.filter fun c => !low c).map fun c => V.str ⟨#[c]⟩
theorem bad_add {l : List Nat} {c : Nat} : bad (l ++ [c]) = if low c = true then bad l else bad l ++ [V.str ⟨#[c]⟩] := by
  unfold bad
  rw [List.filter_append, List.map_append]
  cases h : low c <;> simp [h]
theorem bad_all : ∀ l : List Nat, l.all low = (bad l).isEmpty
  | [] => rfl
  | c :: r => by
    have ih := bad_all r
    unfold bad at ih ⊢
    rw [List.all_cons, ih]
    cases h : low c <;> simp [h]
theorem bad_len (l : List Nat) : (bad l).length ≤ l.length := by
  unfold bad
  rw [List.length_map]
  exact List.length_filter_le _ _
theorem dpStrs {K : PySem.W.Frag} {H : Hp} : ∀ l : List Str, DpAll K H (l.map V.str) (l.map PyData.str)
  | [] => .nil
  | _ :: r => .cons (.str _) (dpStrs r)
theorem ok_sign {z : Str} (h : PyData.strOk z = true) {c : Nat} (hc : c ∈ z.cps.toList) : PyData.strOk ⟨#[c]⟩ = true := by
  have k := Array.all_eq_true'.mp h c (by simpa using hc)
  show (#[c] : Array Nat).all _ = true
  simpa using k
theorem ok_bad {z : Str} (h : PyData.strOk z = true) : ∀ y ∈ ((z.cps.toList.filter fun c => !low c).map fun c => (⟨#[c]⟩ : Str)), PyData.strOk y = true := by
  intro y hy
  obtain ⟨c, hc, rfl⟩ := List.mem_map.mp hy
  exact ok_sign h (List.mem_filter.mp hc).1
theorem bad_strs (l : List Nat) : bad l = ((l.filter fun c => !low c).map fun c => (⟨#[c]⟩ : Str)).map V.str := by
  unfold bad
  rw [List.map_map]
  rfl
theorem eqv_nilS (l : List Str) : PyData.eqv (.list (l.map PyData.str)) (.list []) = (l.map V.str).isEmpty := by
  cases l <;> rfl
def spSaid : Sp := fun vs H Q _ => ∃ z : Str, vs = [.str z] ∧ z.length ≤ 1000 ∧ PyData.strOk z = true ∧ ∀ H', Same' H H' → Q (.bl (wd z)) H'
def spIsN : Sp := fun vs H Q _ => ∃ z : Str, vs = [.str z] ∧ z.length ≤ 1000 ∧ PyData.strOk z = true ∧ ∀ H', Same' H H' → Q (.bl (nm z)) H'
abbrev keptLine : Str := "put copy if else say fail catch choose or none stop skip cell log failure choice"
theorem kept_split : Txt.split keptLine " " = kept := by decide +kernel
theorem kept_line : keptLine.length ≤ 200 := by decide +kernel
section
variable {P : Program} {w : World} {K : PySem.W.Frag} {mg : Str → Option Value} {base : Heap}
abbrev nSaid : List Str := ["_law_word", "_law_sign"]
theorem scSaid : FnScope nSaid ["_law_word"] (defScope sIsSaid) := ⟨rfl, rfl, rfl, by decide +kernel, rfl, by decide +kernel, by decide +kernel⟩
theorem ok_said {f : Addr} {fd : FuncData} (F : Fun K "_law_is_said" "_law_is_said" sIsSaid f fd) (T : Txt mg) : FnOk P w K mg base CX0 1 f fd ["_law_word"] spSaid := by
  refine F.ok scSaid (fun vs H Q E h => ?_) (fun cdv A outer s H vs Q E hr h => ?_)
  · obtain ⟨x, rfl, _⟩ := h
    rfl
  · obtain ⟨z, rfl, zl, zok, q⟩ := h
    have zs : z.length < sizeLine := small1000 zl
    refine ⟨_, pss_one (ps_ret (pe_and (pe_chain op_le op_le pe_int (pe_callB call_len_str (by rfl) T.len PySem.boot_len (pa_cons (pv 0) pa_nil)) pe_int)
      (pe_one (pe_cmpR (op_eqD hr.units) (pe_lc (own := [("_law_sign", 1)]) (g := gName 1) rfl scSaid.nd (pi_str (pv 0)) (blkOk_by (N := nSaid) (sc := defScope sIsSaid) (by decide +kernel)) (fun _ _ _ _ _ => pg_name (i := 1) scSaid.nd rfl (Or.inl rfl))
          (fun _ _ _ _ _ => pts_one (pt_cmpR op_notIn_sign (pv 1) pe_str (by rfl))) (fun _ _ _ _ _ => pv 1)) (pe_lst pa_nil) (nomark _))))), ?_⟩
    refine ⟨.str z, rfl, z, rfl, Nat.le_of_lt zs, 1, _, rfl, rfl, _, rfl, ite2 (fun e => ?_) (fun e => ?_)⟩
    · refine ⟨_, 8, rfl, rfl, _, rfl, ite2 (fun e2 => ?_) (fun e2 => ?_)⟩
      · have l1 := of_decide_eq_true e
        have l2 := of_decide_eq_true e2
        refine ⟨.str z, rfl, z, rfl, fun D hD => ?_⟩
        refine lc_it walk_str (fun i H' => Same' H H' ∧ H' D = some (.lst (bad (z.cps.toList.take i)))) ⟨same_new hD, upd_same⟩ (fun _ _ _ _ => trivial) (fun i x H1 H2 hi hp hy => ?_) (fun H' hp => ?_)
        · obtain ⟨sm, ed⟩ := hp
          obtain ⟨rfl, c, hc, rfl⟩ := hy
          have hc' := sign_at hc
          have et : z.cps.toList.take (i + 1) = z.cps.toList.take i ++ [c] := by
            rw [List.take_add_one, hc']
            rfl
          have small : (bad (z.cps.toList.take i)).length < sizeLine := by
            have := bad_len (z.cps.toList.take i)
            have h2 := List.length_take_le' i z.cps.toList
            have h3 : z.cps.toList.length = z.length := Array.length_toList
            omega
          refine ⟨rfl, _, rfl, c, abc, rfl, rfl, _, rfl, ?_⟩
          rw [low_abc]
          cases hl : low c with
          | false =>
            refine iteT ⟨_, rfl, _, ed, small, same_over hD sm, ?_⟩
            rw [upd_same, et, bad_add, hl]
            rfl
          | true =>
            refine iteF ⟨sm, ?_⟩
            rw [ed, et, bad_add, hl]
            rfl
        · obtain ⟨sm, ed⟩ := hp
          rw [List.take_of_length_le (by rw [Array.length_toList]; exact Nat.le_refl _), bad_strs] at ed
          refine ⟨Nat.zero_le _, fun l hl => ?_⟩
          have nDl : D ≠ l := ne_of_none ed hl
          refine ⟨_, _, .lst (SqL.of (by rw [upd_ne nDl]; exact ed)) (dpStrs _), .lst (SqL.of upd_same) .nil, shapedL_strs _ (ok_bad zok), rfl, ?_⟩
          rw [eqv_nilS, ← bad_strs, ← bad_all]
          have ez : z.cps.toList.all low = wd z := by
            unfold wd
            rw [decide_eq_true (show 1 ≤ z.length by omega), decide_eq_true (show z.length ≤ 8 by omega)]
            rfl
          rw [ez]
          exact q _ (sm.trans (same_new hl))
      · have ez : wd z = false := by
          have := of_decide_eq_false (Bool.eq_false_iff.mpr e2)
          unfold wd
          rw [decide_eq_false (show ¬ z.length ≤ 8 by omega), Bool.and_false, Bool.false_and]
        exact ez ▸ q H fun _ _ e => e
    · refine ⟨false, rfl, iteF ?_⟩
      have ez : wd z = false := by
        have := of_decide_eq_false (Bool.eq_false_iff.mpr e)
        unfold wd
        rw [decide_eq_false (show ¬ 1 ≤ z.length by omega), Bool.false_and, Bool.false_and]
      exact ez ▸ q H fun _ _ e => e
abbrev nIsN : List Str := ["_law_word", "_law_some"]
theorem scIsN : FnScope nIsN ["_law_word"] (defScope sIsName) := ⟨rfl, rfl, rfl, by decide +kernel, rfl, by decide +kernel, by decide +kernel⟩
theorem ok_isN {f fS : Addr} {fd dS : FuncData} (F : Fun K "_law_is_name" "_law_is_name" sIsName f fd) (FS : Fun K "_law_is_said" "_law_is_said" sIsSaid fS dS) (bS : Binds K dS ["_law_word"] []) (gS : mg "_law_is_said" = some (.ref fS)) (GS : FnOk P w K mg base CX0 1 fS dS ["_law_word"] spSaid) :
    FnOk P w K mg base CX0 2 f fd ["_law_word"] spIsN := by
  refine F.ok scIsN (fun vs H Q E h => ?_) (fun cdv A outer s H vs Q E hr h => ?_)
  · obtain ⟨x, rfl, _⟩ := h
    rfl
  · obtain ⟨z, rfl, zl, zok, q⟩ := h
    refine ⟨_, pss_cons (ps_set (i := 1) scIsN.nd rfl (.inl rfl) pe_str) (pss_one (ps_ret (pe_and (pe_call GS hr (by rfl) gS FS.kp bS .nil pass0 (pa_cons (pv 0) pa_nil))
      (pe_one (pe_cmpR op_notIn_seq (pv 0) (pe_split (pv 1) pe_str) (by rfl)))))), ?_⟩
    refine ⟨_, rfl, z, rfl, zl, zok, fun H1 s1 => ?_⟩
    cases hz : wd z with
    | false =>
      refine ⟨false, rfl, iteF ?_⟩
      have e : nm z = false := by
        unfold nm
        rw [hz, Bool.false_and]
      exact e ▸ q H1 s1
    | true =>
      refine ⟨true, rfl, iteT ⟨_, rfl, _, rfl, ⟨keptLine, rfl⟩, keptLine, " ", rfl, rfl, by decide +kernel, (by rw [sizeLine_eq]; have := kept_line; omega), fun wl hwl => ?_⟩⟩
      refine ⟨wl, _, rfl, .inl (SqL.of upd_same), rfl, ?_, ?_⟩
      · rw [kept_split]
        decide +kernel
      · rw [kept_split]
        have e : nm z = !inV (.str z) (kept.map V.str) := by
          unfold nm
          rw [hz, Bool.true_and]
        exact e ▸ q _ (s1.trans (same_new hwl))
end
/-! truths of the law -/
def BV (t : TE) (σ : L2.St) (H : Hp) (b : Bool) : Prop := ∀ Q : VK, (∀ H', Same' H H' → Q (.bl b) H') → t σ H Q
theorem BV.and {ta tb : TE} {σ : L2.St} {H : Hp} {a b : Bool} (ha : BV ta σ H a) (hb : a = true → ∀ H', Same' H H' → BV tb σ H' b) : BV (tAndV ta tb) σ H (a && b) := fun Q q => ha _ fun H1 s1 => by
  cases a with
  | true => exact ⟨true, rfl, iteT (hb rfl H1 s1 Q fun H2 s2 => q H2 (s1.trans s2))⟩
  | false => exact ⟨false, rfl, iteF (q H1 s1)⟩
theorem BV.or {ta tb : TE} {σ : L2.St} {H : Hp} {a b : Bool} (ha : BV ta σ H a) (hb : a = false → ∀ H', Same' H H' → BV tb σ H' b) : BV (tOrV ta tb) σ H (a || b) := fun Q q => ha _ fun H1 s1 => by
  cases a with
  | false => exact ⟨false, rfl, iteF (hb rfl H1 s1 Q fun H2 s2 => q H2 (s1.trans s2))⟩
  | true => exact ⟨true, rfl, iteT (q H1 s1)⟩
abbrev vsS (l : List Str) : List V := l.map V.str
theorem bv_nil {K : PySem.W.Frag} {i : Nat} {σ : L2.St} {H : Hp} {p : Addr} {l : List Str} (e : σ[i]? = some (some (.ref p))) (hp : H p = some (.lst (vsS l))) (ok : ∀ z ∈ l, PyData.strOk z = true) : BV (tOp (rEqD K) (tVar i) (tLst tNil)) σ H l.isEmpty := fun Q q =>
  ⟨_, e, Nat.zero_le _, fun x hx => ⟨_, _, .lst (SqL.of (same_new hx _ _ hp)) (dpStrs _), .lst (SqL.of upd_same) .nil, shapedL_strs _ ok, rfl, by
    have z := q _ (same_new (o := .lst []) hx)
    rw [eqv_nilS]
    cases l with
    | nil => exact z
    | cons a r => exact z⟩⟩
theorem bv_gt {i j : Nat} {σ : L2.St} {H : Hp} {K : PySem.W.Frag} {p : Addr} {l : List Str} {z : Str} (e1 : σ[i]? = some (some (.str z))) (e : σ[j]? = some (some (.ref p))) (hp : H p = some (.lst (vsS l))) (n : l.isEmpty = false) :
    BV (tOp (fun x y H Q => ∃ i j, x = V.str i ∧ y = V.str j ∧ Q (.bl (decide (j.cps.toList < i.cps.toList))) H) (tVar i) (tOp (rIxL K) (tVar j) (tUn (rU fun i => .int (-i)) (tC (.int 1))))) σ H (decide ((lastN l).cps.toList < z.cps.toList)) := fun Q q => by
  rcases List.eq_nil_or_concat l with rfl | ⟨r, y, rfl⟩
  · cases n
  · rw [List.concat_eq_append] at hp q
    rw [lastN_snoc] at q
    refine ⟨_, e1, _, e, 1, rfl, p, _, -1, .str y, rfl, rfl, SqL.of hp, ?_, z, y, rfl, rfl, q H fun _ _ e => e⟩
    show atI (List.map _ (r ++ [y])) (-1) = _
    rw [List.map_append]
    exact atI_last _ _
end My
/-! one thing, as the law goes past it -/
namespace My
open PySem PySem.Spec PyProof.Rows L2
/-- words as the law has them -/
structure WsOk (ws : List Str) : Prop where
  few : ws.length ≤ 120
  ok : ∀ z ∈ ws, PyData.strOk z = true
  len : ∀ z ∈ ws, z.length ≤ 1000
theorem nm_ok {z : Str} (h : nm z = true) : PyData.strOk z = true := (wd_ok (nm_wd h)).1
theorem wd_empty : wd "" = false := by decide +kernel
theorem nm_empty : nm "" = false := by decide +kernel
theorem lastN_nil : lastN [] = "" := rfl
/-- what the law asks of a title, and what is read -/
theorem isL_eq {cs : List (Str × Int)} {ls : List (Str × List Str)} {z : Str} : (nm z && (!inV (.str z) (vsS (cs.map (·.1))) && ((ls.map (·.1)).isEmpty || decide ((lastN (ls.map (·.1))).cps.toList < z.cps.toList)))) = mayN cs ls z := by
  have inv : ∀ l : List Str, inV (.str z) (vsS l) = decide (z ∈ l) := by
    intro l
    induction l with
    | nil => rfl
    | cons x r ih =>
      unfold inV at ih ⊢
      simp only [vsS, List.map_cons, List.any_cons] at ih ⊢
      rw [ih]
      have e : eqV (.str x) (.str z) = decide (x = z) := by
        show (x == z) = _
        by_cases h : x = z
        · subst h
          simp
        · rw [decide_eq_false h]
          exact beq_eq_false_iff_ne.mpr h
      rw [e]
      by_cases h : z = x
      · subst h
        simp
      · simp [h, Ne.symm h]
  rw [inv]
  unfold mayN nmOk
  cases hn : nm z with
  | false => simp
  | true =>
    cases hl : (ls.map (·.1)).isEmpty with
    | true =>
      have e : ls.map (·.1) = [] := List.isEmpty_iff.mp hl
      rw [e, lastN_nil, decide_eq_true (empty_lt (nm_len hn))]
      simp
    | false =>
      rw [Bool.true_and, Bool.false_or, Bool.and_true, Bool.and_comm]
theorem isC_eq {cs : List (Str × Int)} {ls : List (Str × List Str)} {z : Str} (a : asc (cs.map (·.1))) : ((ls.map (·.1)).isEmpty && (nm z && ((cs.map (·.1)).isEmpty || decide ((lastN (cs.map (·.1))).cps.toList < z.cps.toList)))) = (mayN cs ls z && mayC cs ls z) := by
  have em : (ls.map (·.1)).isEmpty = ls.isEmpty := by cases ls <;> rfl
  rw [em]
  unfold mayC
  cases hl : ls.isEmpty with
  | false => simp
  | true =>
    have e : ls = [] := List.isEmpty_iff.mp hl
    subst e
    cases hn : nm z with
    | false =>
      unfold mayN nmOk
      rw [hn]
      simp
    | true =>
      have lt0 := empty_lt (nm_len hn)
      have en : mayN cs [] z = !decide (z ∈ cs.map (·.1)) := by
        unfold mayN nmOk
        rw [hn, List.map_nil, lastN_nil, decide_eq_true lt0]
        simp
      rw [en]
      cases hc : (cs.map (·.1)).isEmpty with
      | true =>
        have e : cs.map (·.1) = [] := List.isEmpty_iff.mp hc
        rw [e, lastN_nil, decide_eq_true lt0]
        simp
      | false =>
        cases hd : decide ((lastN (cs.map (·.1))).cps.toList < z.cps.toList) with
        | false => simp
        | true =>
          rw [decide_eq_false (asc_notin a (of_decide_eq_true hd))]
          rfl
def Keep2 (a b : Addr) (H H' : Hp) : Prop := ∀ c o, c ≠ a → c ≠ b → H c = some o → H' c = some o
theorem Keep2.of {a b : Addr} {H H' : Hp} (s : Same' H H') : Keep2 a b H H' := fun c o _ _ e => s c o e
theorem Keep2.trans {a b : Addr} {H H' H2 : Hp} (s : Keep2 a b H H') (t : Keep2 a b H' H2) : Keep2 a b H H2 := fun c o n m e => t c o n m (s c o n m e)
abbrev nmsC (cs : List (Str × Int)) : List V := vsS (cs.map (·.1))
abbrev nmsL (ls : List (Str × List Str)) : List V := vsS (ls.map (·.1))
structure ThIn (H : Hp) (wA cA lA : Addr) (ws : List Str) (cs : List (Str × Int)) (ls : List (Str × List Str)) : Prop where
  w : H wA = some (.lst (vsS ws))
  c : H cA = some (.lst (nmsC cs))
  l : H lA = some (.lst (nmsL ls))
  wc : wA ≠ cA
  wl : wA ≠ lA
  cl : cA ≠ lA
theorem ThIn.keep {H H' : Hp} {wA cA lA : Addr} {ws : List Str} {cs : List (Str × Int)} {ls : List (Str × List Str)} (h : ThIn H wA cA lA ws cs ls) (s : Same' H H') : ThIn H' wA cA lA ws cs ls := ⟨s _ _ h.w, s _ _ h.c, s _ _ h.l, h.wc, h.wl, h.cl⟩
def spAThing : Sp := fun vs H Q _ => ∃ (wA cA lA : Addr) (ws : List Str) (k : Nat) (cs : List (Str × Int)) (ls : List (Str × List Str)), vs = [.ref wA, .int (k : Int), .ref cA, .ref lA] ∧ WsOk ws ∧ ThIn H wA cA lA ws cs ls ∧ k ≤ ws.length ∧ GoodCL ws k cs ls ∧
  match thingR ws k cs ls with
  | .ok c j => ∀ (t : Addr) (H' : Hp), Keep2 cA lA H H' → ThIn H' wA cA lA ws c.1 c.2 → H' t = some (.tup [.int (j : Int), .bl true]) → Q (.ref t) H'
  | .no j => ∀ (t : Addr) (H' : Hp), Keep2 cA lA H H' → H' t = some (.tup [.int (j : Int), .bl false]) → Q (.ref t) H'
section
variable {P : Program} {w : World} {K : PySem.W.Frag} {mg : Str → Option Value} {base : Heap}
abbrev nTh : List Str := ["_law_words", "_law_spot", "_law_cells_so", "_law_logs_so", "_law_title", "_law_is_cell", "_law_is_log", "_law_after", "_law_behind"]
theorem scTh : FnScope nTh ["_law_words", "_law_spot", "_law_cells_so", "_law_logs_so"] (defScope sAfterThing) := ⟨rfl, rfl, rfl, by decide +kernel, rfl, by decide +kernel, by decide +kernel⟩
abbrev XTh (P : Program) (w : World) (K : PySem.W.Frag) (mg : Str → Option Value) (base : Heap) (f : Addr) (cdv : Value) (A : Around) (outer : List Env) (s : Shared) (H : Hp) (E : XK) : Cx := (cxOf CX0 P w K mg base nTh "_law_after_thing" (defScope sAfterThing) f cdv A outer s H E).nox
def inTh (i : Nat) : Stmt := (defBody sAfterThing).getD i (.Pass ⟨0, 0, 0, 0⟩)
variable {f : Addr} {cdv : Value} {A : Around} {outer : List Env} {s : Shared} {H0 : Hp} {E : XK} {fN fS : Addr} {dN dS : FuncData}
/-- title = .. -/
theorem th0 (T : Txt mg) : ∃ t, PS (XTh P w K mg base f cdv A outer s H0 E) (inTh 0) t ∧ ∀ (wA : Addr) (ws : List Str) (k : Nat) (z2 z3 z4 z5 z6 z7 z8 : Option V) (H : Hp) (D : Ends), H wA = some (.lst (vsS ws)) →
    D.nx [some (.ref wA), some (.int (k : Int)), z2, z3, some (.str (ws[k]?.getD "")), z5, z6, z7, z8] H → t D [some (.ref wA), some (.int (k : Int)), z2, z3, z4, z5, z6, z7, z8] H := by
  refine ⟨_, ps_set (i := 4) scTh.nd rfl (.inl rfl) (pe_ifExp (pt_cmpR op_lt (pv 1) (pe_callB call_len_seq (by rfl) T.len PySem.boot_len (pa_cons (pv 0) pa_nil)) (nomark _)) (pe_ix ix_list (pv 0) (pv 1) (fun _ _ => rfl)) pe_str), ?_⟩
  intro wA ws k z2 z3 z4 z5 z6 z7 z8 H D hw q
  refine ⟨_, rfl, _, rfl, wA, _, rfl, .inl (SqL.of hw), _, _, rfl, rfl, _, rfl, ?_⟩
  rw [List.length_map]
  by_cases h : k < ws.length
  · rw [List.getElem?_eq_getElem h] at q
    rw [decide_eq_true (by omega)]
    exact iteT ⟨_, rfl, _, rfl, wA, _, _, _, rfl, rfl, SqL.of hw, atI_nat (by rw [List.getElem?_map, List.getElem?_eq_getElem h]; rfl), q⟩
  · rw [List.getElem?_eq_none (by omega)] at q
    rw [decide_eq_false (by omega)]
    exact iteF q
/-- after = .. -/
theorem th4 (T : Txt mg) : ∃ t, PS (XTh P w K mg base f cdv A outer s H0 E) (inTh 4) t ∧ ∀ (wA : Addr) (ws : List Str) (k : Nat) (z2 z3 z4 z5 z6 z7 z8 : Option V) (H : Hp) (D : Ends), H wA = some (.lst (vsS ws)) →
    D.nx [some (.ref wA), some (.int (k : Int)), z2, z3, z4, z5, z6, some (.str (ws[k + 1]?.getD "")), z8] H → t D [some (.ref wA), some (.int (k : Int)), z2, z3, z4, z5, z6, z7, z8] H := by
  refine ⟨_, ps_set (i := 7) scTh.nd rfl (.inl rfl) (pe_ifExp (pt_cmpR op_lt (pe_op op_add (pv 1) pe_int) (pe_callB call_len_seq (by rfl) T.len PySem.boot_len (pa_cons (pv 0) pa_nil)) (nomark _)) (pe_ix ix_list (pv 0) (pe_op op_add (pv 1) pe_int) (fun _ _ => rfl)) pe_str), ?_⟩
  intro wA ws k z2 z3 z4 z5 z6 z7 z8 H D hw q
  refine ⟨_, rfl, (k : Int), 1, rfl, rfl, _, rfl, wA, _, rfl, .inl (SqL.of hw), _, _, rfl, rfl, _, rfl, ?_⟩
  rw [List.length_map]
  by_cases h : k + 1 < ws.length
  · rw [List.getElem?_eq_getElem h] at q
    rw [decide_eq_true (by omega)]
    exact iteT ⟨_, rfl, _, rfl, (k : Int), 1, rfl, rfl, wA, _, ((k + 1 : Nat) : Int), _, rfl, rfl, SqL.of hw, atI_nat (by rw [List.getElem?_map, List.getElem?_eq_getElem h]; rfl), q⟩
  · rw [List.getElem?_eq_none (by omega)] at q
    rw [decide_eq_false (by omega)]
    exact iteF q
/-- is_cell, is_log -/
theorem th1 (T : Txt mg) (FN : Fun K "_law_is_name" "_law_is_name" sIsName fN dN) (bN : Binds K dN ["_law_word"] []) (gN : mg "_law_is_name" = some (.ref fN)) (GN : FnOk P w K mg base CX0 2 fN dN ["_law_word"] spIsN) (hr : Room 2 (XTh P w K mg base f cdv A outer s H0 E).A) :
    ∃ t, PS (XTh P w K mg base f cdv A outer s H0 E) (inTh 1) t ∧ ∀ (wA cA lA : Addr) (ws : List Str) (z : Str) (cs : List (Str × Int)) (ls : List (Str × List Str)) (z0 z1 z5 z6 z7 z8 : Option V) (H : Hp) (D : Ends), ThIn H wA cA lA ws cs ls → z.length ≤ 1000 → PyData.strOk z = true → (∀ y ∈ cs.map (·.1), PyData.strOk y = true) → (∀ y ∈ ls.map (·.1), PyData.strOk y = true) →
      (∀ H', Same' H H' → D.nx [z0, z1, some (.ref cA), some (.ref lA), some (.str z), some (.bl ((ls.map (·.1)).isEmpty && (nm z && ((cs.map (·.1)).isEmpty || decide ((lastN (cs.map (·.1))).cps.toList < z.cps.toList))))), z6, z7, z8] H') → t D [z0, z1, some (.ref cA), some (.ref lA), some (.str z), z5, z6, z7, z8] H := by
  refine ⟨_, ps_set (i := 5) scTh.nd rfl (.inl rfl) (pe_and (pe_cmpR (op_eqD hr.units) (pv 3) (pe_lst pa_nil) (nomark _)) (pe_and (pe_call GN hr (by rfl) gN FN.kp bN .nil pass0 (pa_cons (pv 4) pa_nil)) (pe_one (pe_or (pe_cmpR (op_eqD hr.units) (pv 2) (pe_lst pa_nil) (nomark _)) (pe_one (pe_cmpR op_gt_str (pv 4) (pe_ix ix_list (pv 2) (pe_un un_neg pe_int) (fun _ _ => rfl)) (nomark _))))))), ?_⟩
  intro wA cA lA ws z cs ls z0 z1 z5 z6 z7 z8 H D I zl zo oc ol q
  refine BV.and (bv_nil rfl I.l ol) (fun _ H1 s1 => BV.and (b := (cs.map (·.1)).isEmpty || decide ((lastN (cs.map (·.1))).cps.toList < z.cps.toList)) (fun Q1 q1 => ⟨_, rfl, z, rfl, zl, zo, q1⟩) (fun _ H2 s2 => ?_)) _ q
  have I2 := (I.keep s1).keep s2
  exact BV.or (bv_nil rfl I2.c oc) (fun hn H3 s3 => bv_gt rfl rfl (s3 _ _ I2.c) hn)
theorem th2 (T : Txt mg) (FN : Fun K "_law_is_name" "_law_is_name" sIsName fN dN) (bN : Binds K dN ["_law_word"] []) (gN : mg "_law_is_name" = some (.ref fN)) (GN : FnOk P w K mg base CX0 2 fN dN ["_law_word"] spIsN) (hr : Room 2 (XTh P w K mg base f cdv A outer s H0 E).A) :
    ∃ t, PS (XTh P w K mg base f cdv A outer s H0 E) (inTh 2) t ∧ ∀ (wA cA lA : Addr) (ws : List Str) (z : Str) (cs : List (Str × Int)) (ls : List (Str × List Str)) (z0 z1 z5 z6 z7 z8 : Option V) (H : Hp) (D : Ends), ThIn H wA cA lA ws cs ls → z.length ≤ 1000 → PyData.strOk z = true → (∀ y ∈ ls.map (·.1), PyData.strOk y = true) →
      (∀ H', Same' H H' → D.nx [z0, z1, some (.ref cA), some (.ref lA), some (.str z), z5, some (.bl (mayN cs ls z)), z7, z8] H') → t D [z0, z1, some (.ref cA), some (.ref lA), some (.str z), z5, z6, z7, z8] H := by
  refine ⟨_, ps_set (i := 6) scTh.nd rfl (.inl rfl) (pe_and (pe_call GN hr (by rfl) gN FN.kp bN .nil pass0 (pa_cons (pv 4) pa_nil)) (pe_and (pe_cmpR op_notIn_seq (pv 4) (pv 2) (by rfl)) (pe_one (pe_or (pe_cmpR (op_eqD hr.units) (pv 3) (pe_lst pa_nil) (nomark _)) (pe_one (pe_cmpR op_gt_str (pv 4) (pe_ix ix_list (pv 3) (pe_un un_neg pe_int) (fun _ _ => rfl)) (nomark _))))))), ?_⟩
  intro wA cA lA ws z cs ls z0 z1 z5 z6 z7 z8 H D I zl zo ol q
  rw [← isL_eq] at q
  refine BV.and (fun Q1 q1 => ⟨_, rfl, z, rfl, zl, zo, q1⟩) (fun _ H1 s1 => BV.and (a := !inV (.str z) (vsS (cs.map (·.1)))) (b := (ls.map (·.1)).isEmpty || decide ((lastN (ls.map (·.1))).cps.toList < z.cps.toList)) (fun Q1 q1 => ?_) (fun _ H2 s2 => ?_)) _ q
  · have I1 := I.keep s1
    refine ⟨_, rfl, _, rfl, cA, _, rfl, .inl (SqL.of I1.c), rfl, ?_, q1 H1 fun _ _ e => e⟩
    rw [List.all_eq_true]
    intro x hx
    obtain ⟨y, _, rfl⟩ := List.mem_map.mp hx
    rfl
  · have I2 := (I.keep s1).keep s2
    exact BV.or (bv_nil rfl I2.l ol) (fun hn H3 s3 => bv_gt rfl rfl (s3 _ _ I2.l) hn)
end
end My
namespace My
open PySem PySem.Spec PyProof.Rows L2
theorem getD_some {ws : List Str} {k : Nat} {y : Str} (h : ws[k]?.getD "" = y) (n : y ≠ "") : ws[k]? = some y := by
  cases hz : ws[k]? with
  | none =>
    rw [hz] at h
    exact absurd h.symm n
  | some z =>
    rw [hz] at h
    rw [← h]
    rfl
theorem getD_ok {ws : List Str} (W : WsOk ws) (k : Nat) : PyData.strOk (ws[k]?.getD "") = true ∧ (ws[k]?.getD "").length ≤ 1000 := by
  cases hz : ws[k]? with
  | none => exact ⟨by decide +kernel, by decide +kernel⟩
  | some z => exact ⟨W.ok _ (List.mem_of_getElem? hz), W.len _ (List.mem_of_getElem? hz)⟩
section
variable {P : Program} {w : World} {K : PySem.W.Frag} {mg : Str → Option Value} {base : Heap}
variable {f : Addr} {cdv : Value} {A : Around} {outer : List Env} {s : Shared} {H0 : Hp} {E : XK} {fN fS : Addr} {dN dS : FuncData}
/-- a log that is right -/
theorem thLog (T : Txt mg) (FS : Fun K "_law_is_said" "_law_is_said" sIsSaid fS dS) (bS : Binds K dS ["_law_word"] []) (gS : mg "_law_is_said" = some (.ref fS)) (GS : FnOk P w K mg base CX0 1 fS dS ["_law_word"] spSaid) (hr : Room 2 (XTh P w K mg base f cdv A outer s H0 E).A) :
    ∃ t, PSs (XTh P w K mg base f cdv A outer s H0 E) ((defBody sAfterThing).drop 7) t ∧ ∀ (wA cA lA : Addr) (ws : List Str) (k : Nat) (z y : Str) (cs : List (Str × Int)) (ls : List (Str × List Str)) (zs T0 : List Str) (z5 z6 z8 : Option V) (H : Hp) (D : Ends), WsOk ws → ThIn H wA cA lA ws cs ls → ls.length ≤ 900 →
      (y = dash → T0 = []) → (y ≠ dash → T0 = (ws.drop (k + 1 + 1)).takeWhile wd) →
      (∀ (t : Addr) (H' : Hp), Keep2 cA lA H H' → ThIn H' wA cA lA ws cs (ls ++ [(z, zs)]) → H' t = some (.tup [.int ((k + 1 + 1 + T0.length : Nat) : Int), .bl true]) → D.rt (.ref t) H') →
      t D [some (.ref wA), some (.int (k : Int)), some (.ref cA), some (.ref lA), some (.str z), z5, z6, some (.str y), z8] H := by
  refine ⟨_, pss_cons (ps_expr (pe_bm PySem.F.plainAttrs_list PySem.F.slot_list_append PySem.F.type_list_append mt_append (pv 3) (pa_cons (pv 4) pa_nil)))
    (pss_cons (ps_set (i := 8) scTh.nd rfl (.inl rfl) (pe_op op_add (pv 1) pe_int))
    (pss_cons (ps_while PassesOwn.never (PW.pt (pw_and (pt_cmpR op_ne (pv 7) pe_str (nomark _)) (pw_and (pt_cmpR op_lt (pv 8) (pe_callB call_len_seq (by rfl) T.len PySem.boot_len (pa_cons (pv 0) pa_nil)) (nomark _)) (pw_and1 (pt_val (pe_call GS (hr.mono (by decide)) (by rfl) gS FS.kp bS .nil pass0 (pa_cons (pe_ix ix_list (pv 0) (pv 8) (fun _ _ => rfl)) pa_nil)))))))
        (pss_one (ps_set (i := 8) scTh.nd rfl (.inl rfl) (pe_op op_add (pv 8) pe_int))))
    (pss_one (ps_ret (pe_tup (pa_cons (pv 8) (pa_cons pe_bl pa_nil))))))), ?_⟩
  intro wA cA lA ws k z y cs ls zs T0 z5 z6 z8 H D W I fl hd hw h
  refine ⟨_, rfl, .inl ⟨rfl, _, SqL.of I.l⟩, _, rfl, lA, _, _, rfl, rfl, I.l, small1000 (by rw [List.length_map, List.length_map]; omega), ?_⟩
  obtain ⟨H1, e1⟩ : ∃ H1 : Hp, upd H lA (.lst (nmsL ls ++ [.str z])) = H1 := ⟨_, rfl⟩
  have I1 : ThIn H1 wA cA lA ws cs (ls ++ [(z, zs)]) := by
    refine ⟨?_, ?_, ?_, I.wc, I.wl, I.cl⟩
    · rw [← e1, upd_ne I.wl]
      exact I.w
    · rw [← e1, upd_ne I.cl]
      exact I.c
    · rw [← e1, upd_same]
      show some (HO.lst (List.map V.str (ls.map (·.1)) ++ [V.str z])) = some (HO.lst (List.map V.str ((ls ++ [(z, zs)]).map (·.1))))
      rw [List.map_append (l₁ := ls), List.map_append]
      rfl
  have k1 : Keep2 cA lA H H1 := fun c o n m e => by
    rw [← e1, upd_ne m]
    exact e
  rw [e1]
  refine ⟨_, rfl, (k : Int), 2, rfl, rfl, ?_⟩
  refine ⟨fun m σ H' => ∃ i, m = T0.length - i ∧ i ≤ T0.length ∧ Same' H1 H' ∧ σ = [some (.ref wA), some (.int (k : Int)), some (.ref cA), some (.ref lA), some (.str z), z5, z6, some (.str y), some (.int ((k + 1 + 1 + i : Nat) : Int))], ⟨_, 0, rfl, Nat.zero_le _, fun _ _ e => e, rfl⟩, fun m σ H' hwd => ?_⟩
  obtain ⟨i, rfl, hi, sm, rfl⟩ := hwd
  have I2 := I1.keep sm
  have fin : i = T0.length → ∀ H3, Same' H' H3 → tRet (tTup (tCons (tVar 8) (tCons (tC (.bl true)) tNil))) D [some (.ref wA), some (.int (k : Int)), some (.ref cA), some (.ref lA), some (.str z), z5, z6, some (.str y), some (.int ((k + 1 + 1 + i : Nat) : Int))] H3 := fun ei H3 s3 => by
    subst ei
    refine ⟨_, rfl, by show 2 ≤ sizeLine; decide, fun t ht => ?_⟩
    have s4 := (sm.trans s3).trans (same_new (o := .tup [.int ((k + 1 + 1 + T0.length : Nat) : Int), .bl true]) ht)
    exact h t _ (k1.trans (.of s4)) (I1.keep s4) upd_same
  refine ⟨_, rfl, rfl, _, rfl, ?_⟩
  by_cases hy : y = dash
  · have e0 := hd hy
    rw [hy, decide_eq_true rfl]
    refine iteF (iteF ?_)
    have := fin (by rw [e0] at hi ⊢; simp at hi ⊢; exact hi) H' fun _ _ e => e
    rw [hy] at this
    exact this
  · have e0 := hw hy
    rw [decide_eq_false fun e => hy (by injection e)]
    refine iteT ?_
    refine ⟨_, rfl, _, rfl, wA, _, rfl, .inl (SqL.of I2.w), _, _, rfl, rfl, _, rfl, ?_⟩
    rw [List.length_map]
    have say := run_say (ws := ws) (k := k + 1 + 1) (i := i) (by rw [← e0]; exact hi)
    rw [← e0] at say
    by_cases hlt : k + 1 + 1 + i < ws.length
    · rw [decide_eq_true (by omega)]
      unfold sayW at say
      rw [List.getElem?_eq_getElem hlt] at say
      refine iteT ⟨_, rfl, _, rfl, wA, _, _, _, rfl, rfl, SqL.of I2.w, atI_nat (by rw [List.getElem?_map, List.getElem?_eq_getElem hlt]; rfl), ?_⟩
      refine ⟨_, rfl, W.len _ (List.getElem_mem hlt), W.ok _ (List.getElem_mem hlt), fun H3 s3 => ⟨_, rfl, ?_⟩⟩
      have say' : wd ws[k + 1 + 1 + i] = decide (i < T0.length) := say
      rw [say']
      by_cases hl : i < T0.length
      · rw [decide_eq_true hl]
        refine iteT ⟨fun σ' H4 => ∃ j, j = i + 1 ∧ j ≤ T0.length ∧ Same' H1 H4 ∧ σ' = [some (.ref wA), some (.int (k : Int)), some (.ref cA), some (.ref lA), some (.str z), z5, z6, some (.str y), some (.int ((k + 1 + 1 + j : Nat) : Int))], fun σ' H4 ⟨j, ej, q⟩ => ⟨T0.length - (i + 1), by omega, j, by omega, q⟩, ?_⟩
        exact ⟨_, rfl, _, 1, rfl, rfl, i + 1, rfl, hl, sm.trans s3, rfl⟩
      · rw [decide_eq_false hl]
        exact iteF (fin (by omega) H3 s3)
    · rw [decide_eq_false (by omega)]
      refine iteF (iteF (fin ?_ H' fun _ _ e => e))
      unfold sayW at say
      rw [List.getElem?_eq_none (by omega)] at say
      have := of_decide_eq_false say.symm
      omega
/-- a log -/
theorem thTail (T : Txt mg) (FS : Fun K "_law_is_said" "_law_is_said" sIsSaid fS dS) (bS : Binds K dS ["_law_word"] []) (gS : mg "_law_is_said" = some (.ref fS)) (GS : FnOk P w K mg base CX0 1 fS dS ["_law_word"] spSaid) (hr : Room 2 (XTh P w K mg base f cdv A outer s H0 E).A) :
    ∃ t, PSs (XTh P w K mg base f cdv A outer s H0 E) ((defBody sAfterThing).drop 6) t ∧ ∀ (wA cA lA : Addr) (ws : List Str) (k : Nat) (z : Str) (cs : List (Str × Int)) (ls : List (Str × List Str)) (z5 z8 : Option V) (H : Hp) (D : Ends), WsOk ws → ThIn H wA cA lA ws cs ls → ls.length ≤ 900 →
      (match logR ws (k + 1) with
        | .no j => ∀ (t : Addr) (H' : Hp), Keep2 cA lA H H' → H' t = some (.tup [.int (j : Int), .bl false]) → D.rt (.ref t) H'
        | .ok zs j => ∀ (t : Addr) (H' : Hp), Keep2 cA lA H H' → ThIn H' wA cA lA ws cs (ls ++ [(z, zs)]) → H' t = some (.tup [.int (j : Int), .bl true]) → D.rt (.ref t) H') →
      t D [some (.ref wA), some (.int (k : Int)), some (.ref cA), some (.ref lA), some (.str z), z5, some (.bl true), some (.str (ws[k + 1]?.getD "")), z8] H := by
  obtain ⟨t7, h7, q7⟩ := thLog (P := P) (w := w) (K := K) (mg := mg) (base := base) (f := f) (cdv := cdv) (A := A) (outer := outer) (s := s) (H0 := H0) (E := E) T FS bS gS GS hr
  refine ⟨_, pss_cons (ps_if (PW.pt (pw_or (pt_not (pt_val (pv 6))) (pw_or1 (PW.pt (pw_and (pt_cmpR op_ne (pv 7) pe_str (nomark _)) (pw_and1 (pt_not (pt_val (pe_call GS (hr.mono (by decide)) (by rfl) gS FS.kp bS .nil pass0 (pa_cons (pv 7) pa_nil))))))))))
        (pss_one (ps_ret (pe_tup (pa_cons (pe_op op_add (pv 1) pe_int) (pa_cons pe_bl pa_nil))))) pss_nil) h7, ?_⟩
  intro wA cA lA ws k z cs ls z5 z8 H D W I fl h
  obtain ⟨y, ey⟩ : ∃ y, ws[k + 1]?.getD "" = y := ⟨_, rfl⟩
  obtain ⟨yo, yl⟩ := getD_ok W (k + 1)
  rw [ey] at yo yl ⊢
  refine ⟨_, rfl, true, rfl, iteF ?_⟩
  refine ⟨_, rfl, rfl, _, rfl, ?_⟩
  by_cases hy : y = dash
  · have hz := getD_some ey (by rw [hy]; decide +kernel)
    rw [hy] at hz ⊢
    rw [logR_dash hz] at h
    rw [decide_eq_true rfl]
    refine iteF (iteF ?_)
    exact q7 wA cA lA ws k z dash cs ls [] [] _ _ _ H _ W I fl (fun _ => rfl) (fun n => absurd rfl n) fun t H' kp th ht => h t H' kp th ht
  · rw [decide_eq_false fun e => hy (by injection e)]
    refine iteT ⟨_, rfl, y, rfl, yl, yo, fun H1 s1 => ⟨_, rfl, ?_⟩⟩
    cases hw : wd y with
    | true =>
      have hz := getD_some ey (fun e => by rw [e, wd_empty] at hw; cases hw)
      rw [logR_word hz hw] at h
      refine iteF ?_
      exact q7 wA cA lA ws k z y cs ls _ _ _ _ _ H1 _ W (I.keep s1) fl (fun n => absurd n hy) (fun _ => rfl) fun t H' kp th ht => h t H' (Keep2.trans (.of s1) kp) th ht
    | false =>
      have e : logR ws (k + 1) = .no (k + 1) := logR_no fun x hx => by
        rw [hx] at ey
        have ex : x = y := ey
        rw [ex]
        exact ⟨hy, hw⟩
      rw [e] at h
      refine iteT ⟨_, rfl, (k : Int), 1, rfl, rfl, by show 2 ≤ sizeLine; decide, fun t ht => ?_⟩
      exact h t _ (.of (s1.trans (same_new ht))) upd_same
end
end My
namespace My
open PySem PySem.Spec PyProof.Rows L2
theorem fig_strs : figs = (["0", "1", "2", "3"] : List Str) := by decide +kernel
theorem inV_strs {z : Str} : ∀ l : List Str, inV (.str z) (vsS l) = decide (z ∈ l)
  | [] => rfl
  | x :: r => by
    have ih := inV_strs (z := z) r
    unfold inV at ih ⊢
    simp only [vsS, List.map_cons, List.any_cons] at ih ⊢
    rw [ih]
    have e : eqV (.str x) (.str z) = decide (x = z) := by
      show (x == z) = _
      by_cases h : x = z
      · subst h
        simp
      · rw [decide_eq_false h]
        exact beq_eq_false_iff_ne.mpr h
    rw [e]
    by_cases h : z = x
    · subst h
      simp
    · simp [h, Ne.symm h]
section
variable {P : Program} {w : World} {K : PySem.W.Frag} {mg : Str → Option Value} {base : Heap}
variable {f : Addr} {fN fS : Addr} {dN dS : FuncData}
theorem ok_aThing {fd : FuncData} (F : Fun K "_law_after_thing" "_law_after_thing" sAfterThing f fd) (T : Txt mg) (FN : Fun K "_law_is_name" "_law_is_name" sIsName fN dN) (bN : Binds K dN ["_law_word"] []) (gN : mg "_law_is_name" = some (.ref fN)) (GN : FnOk P w K mg base CX0 2 fN dN ["_law_word"] spIsN)
    (FS : Fun K "_law_is_said" "_law_is_said" sIsSaid fS dS) (bS : Binds K dS ["_law_word"] []) (gS : mg "_law_is_said" = some (.ref fS)) (GS : FnOk P w K mg base CX0 1 fS dS ["_law_word"] spSaid) : FnOk P w K mg base CX0 3 f fd ["_law_words", "_law_spot", "_law_cells_so", "_law_logs_so"] spAThing := by
  refine F.ok scTh (fun vs H Q E h => ?_) (fun cdv A outer s H vs Q E hr h => ?_)
  · obtain ⟨wA, cA, lA, ws, k, cs, ls, rfl, _⟩ := h
    rfl
  · obtain ⟨wA, cA, lA, ws, k, cs, ls, rfl, W, I, kl, G, h⟩ := h
    obtain ⟨t0, h0, q0⟩ := th0 (P := P) (w := w) (K := K) (mg := mg) (base := base) (f := f) (cdv := cdv) (A := A) (outer := outer) (s := s) (H0 := H) (E := E) T
    obtain ⟨t1, h1, q1⟩ := th1 (P := P) (w := w) (K := K) (mg := mg) (base := base) (f := f) (cdv := cdv) (A := A) (outer := outer) (s := s) (H0 := H) (E := E) T FN bN gN GN hr
    obtain ⟨t2, h2, q2⟩ := th2 (P := P) (w := w) (K := K) (mg := mg) (base := base) (f := f) (cdv := cdv) (A := A) (outer := outer) (s := s) (H0 := H) (E := E) T FN bN gN GN hr
    obtain ⟨t4, h4, q4⟩ := th4 (P := P) (w := w) (K := K) (mg := mg) (base := base) (f := f) (cdv := cdv) (A := A) (outer := outer) (s := s) (H0 := H) (E := E) T
    obtain ⟨t6, h6, q6⟩ := thTail (P := P) (w := w) (K := K) (mg := mg) (base := base) (f := f) (cdv := cdv) (A := A) (outer := outer) (s := s) (H0 := H) (E := E) T FS bS gS GS hr
    refine ⟨_, pss_cons h0 (pss_cons h1 (pss_cons h2 (pss_cons (ps_if (PW.pt (pw_and (pt_not (pt_val (pv 5))) (pw_and1 (pt_not (pt_val (pv 6)))))) (pss_one (ps_ret (pe_tup (pa_cons (pv 1) (pa_cons pe_bl pa_nil))))) pss_nil)
      (pss_cons h4 (pss_cons (ps_if (PW.pt (pw_and (pt_val (pv 5)) (pw_and1 (pt_cmpR op_in_seq (pv 7) (pe_tup (pa_cons pe_str (pa_cons pe_str (pa_cons pe_str (pa_cons pe_str pa_nil))))) (by rfl)))))
          (pss_cons (ps_expr (pe_bm PySem.F.plainAttrs_list PySem.F.slot_list_append PySem.F.type_list_append mt_append (pv 2) (pa_cons (pv 4) pa_nil))) (pss_one (ps_ret (pe_tup (pa_cons (pe_op op_add (pv 1) pe_int) (pa_cons pe_bl pa_nil)))))) pss_nil) h6))))), ?_⟩
    have few := G.few
    have kw := W.few
    obtain ⟨z, ez⟩ : ∃ z, ws[k]?.getD "" = z := ⟨_, rfl⟩
    obtain ⟨zo, zl⟩ := getD_ok W k
    rw [ez] at zo zl
    have oc : ∀ y ∈ cs.map (·.1), PyData.strOk y = true := fun y hy => by
      obtain ⟨c, hc, rfl⟩ := List.mem_map.mp hy
      exact nm_ok (G.cv c hc).1
    have ol : ∀ y ∈ ls.map (·.1), PyData.strOk y = true := fun y hy => by
      obtain ⟨c, hc, rfl⟩ := List.mem_map.mp hy
      exact nm_ok (G.lv c hc).1
    refine q0 wA ws k _ _ _ _ _ _ _ H _ I.w ?_
    rw [ez]
    refine q1 wA cA lA ws z cs ls _ _ _ _ _ _ H _ I zl zo oc ol fun H1 s1 => ?_
    rw [isC_eq G.ca]
    refine q2 wA cA lA ws z cs ls _ _ _ _ _ _ H1 _ (I.keep s1) zl zo ol fun H2 s2 => ?_
    have s12 := s1.trans s2
    cases hn : mayN cs ls z with
    | false =>
      have e : thingR ws k cs ls = .no k := thingR_no fun y hy => by
        rw [hy] at ez
        have : y = z := ez
        rw [this]
        exact hn
      rw [e] at h
      rw [Bool.false_and]
      refine ⟨_, rfl, false, rfl, iteT ⟨_, rfl, false, rfl, iteT ⟨_, rfl, by show 2 ≤ sizeLine; decide, fun t ht => ?_⟩⟩⟩
      exact h t _ (.of (s12.trans (same_new ht))) upd_same
    | true =>
      have hz : ws[k]? = some z := getD_some ez fun y => by
        rw [y] at hn
        have := (mayN_of hn).2.2
        rw [nm_empty] at this
        cases this
      rw [Bool.true_and]
      have I2 := I.keep s12
      have test3 : ∀ (D : Ends) (R : Hp → Prop), R H2 → (∀ c : Bool, (if c = true then if (!true) = true then False else R H2 else R H2)) := fun D R r c => by cases c <;> simp [r]
      have tail : (mayC cs ls z && hits ws (k + 1) figs) = false → ∀ H3, Same' H H3 → ∀ z8 : Option V, t6 { nx := fun _ H' => Q .non H', rt := Q } [some (.ref wA), some (.int (k : Int)), some (.ref cA), some (.ref lA), some (.str z), some (.bl (mayC cs ls z)), some (.bl true), some (.str (ws[k + 1]?.getD "")), z8] H3 := fun hb H3 s3 z8 => by
        refine q6 wA cA lA ws k z cs ls _ _ H3 _ W (I.keep s3) (by omega) ?_
        rw [thingR_log hz hn hb] at h
        cases hl : logR ws (k + 1) with
        | no j =>
          rw [hl] at h
          exact fun t H' kp ht => h t H' (Keep2.trans (.of s3) kp) ht
        | ok zs j =>
          rw [hl] at h
          exact fun t H' kp th ht => h t H' (Keep2.trans (.of s3) kp) th ht
      have hits_of : hits ws (k + 1) figs = decide (ws[k + 1]?.getD "" ∈ figs) := by
        cases hy : ws[k + 1]? with
        | none =>
          rw [hits_none hy]
          exact (decide_eq_false (by decide +kernel)).symm
        | some y => exact hits_mem hy
      cases hc : mayC cs ls z with
      | false =>
        refine ⟨_, rfl, false, rfl, iteT ⟨_, rfl, true, rfl, iteF ?_⟩⟩
        refine q4 wA ws k _ _ _ _ _ _ _ H2 _ I2.w ?_
        refine ⟨_, rfl, false, rfl, iteF (iteF ?_)⟩
        have := tail (by rw [hc, Bool.false_and]) H2 s12 none
        rw [hc] at this
        exact this
      | true =>
        refine ⟨_, rfl, true, rfl, iteF (iteF ?_)⟩
        refine q4 wA ws k _ _ _ _ _ _ _ H2 _ I2.w ?_
        refine ⟨_, rfl, true, rfl, iteT ⟨_, rfl, by show 4 ≤ sizeLine; decide, fun p hp => ?_⟩⟩
        have s3 := s12.trans (same_new (o := .tup [V.str "0", .str "1", .str "2", .str "3"]) hp)
        refine ⟨p, _, rfl, .inr (SqT.of upd_same), rfl, by decide +kernel, _, rfl, ?_⟩
        have ei : inV (.str (ws[k + 1]?.getD "")) [V.str "0", .str "1", .str "2", .str "3"] = hits ws (k + 1) figs := by
          rw [hits_of, fig_strs]
          exact inV_strs ["0", "1", "2", "3"]
        show (if (if false = true then !inV (.str (ws[k + 1]?.getD "")) [V.str "0", .str "1", .str "2", .str "3"] else inV (.str (ws[k + 1]?.getD "")) [V.str "0", .str "1", .str "2", .str "3"]) = true then _ else _)
        rw [if_neg (by decide : ¬ (false = true)), ei]
        have I3 := I.keep s3
        cases hh : hits ws (k + 1) figs with
        | false =>
          refine iteF ?_
          have := tail (by rw [hh, Bool.and_false]) _ s3 none
          rw [hc] at this
          exact this
        | true =>
          obtain ⟨v, hv, hf⟩ : ∃ v : Nat, v < 4 ∧ ws[k + 1]? = some (fig v) := by
            rw [hits_figs] at hh
            obtain ⟨v, hv⟩ := Option.isSome_iff_exists.mp hh
            exact ⟨v, figOf_some hv⟩
          rw [thingR_cell hz hn hc hv hf] at h
          refine iteT ⟨_, rfl, .inl ⟨rfl, _, SqL.of I3.c⟩, _, rfl, cA, _, _, rfl, rfl, I3.c, small1000 (by rw [List.length_map, List.length_map]; omega), ?_⟩
          obtain ⟨H4, e4⟩ : ∃ H4 : Hp, upd (upd H2 p (.tup [V.str "0", .str "1", .str "2", .str "3"])) cA (.lst (nmsC cs ++ [.str z])) = H4 := ⟨_, rfl⟩
          have k4 : Keep2 cA lA H H4 := fun c o n m e => by
            rw [← e4, upd_ne n]
            exact s3 _ _ e
          have I4 : ThIn H4 wA cA lA ws (cs ++ [(z, (v : Int))]) ls := by
            refine ⟨?_, ?_, ?_, I.wc, I.wl, I.cl⟩
            · rw [← e4, upd_ne I.wc]
              exact I3.w
            · rw [← e4, upd_same]
              show some (HO.lst (List.map V.str (cs.map (·.1)) ++ [V.str z])) = some (HO.lst (List.map V.str ((cs ++ [(z, (v : Int))]).map (·.1))))
              rw [List.map_append (l₁ := cs), List.map_append]
              rfl
            · rw [← e4, upd_ne (Ne.symm I.cl)]
              exact I3.l
          rw [e4]
          refine ⟨_, rfl, (k : Int), 2, rfl, rfl, by show 2 ≤ sizeLine; decide, fun t ht => ?_⟩
          exact h t _ (k4.trans (.of (same_new ht))) (I4.keep (same_new ht)) upd_same
end
end My
namespace My
open PySem PySem.Spec PyProof.Rows L2
theorem GoodCL.up {ws : List Str} {k : Nat} {cs : List (Str × Int)} {ls : List (Str × List Str)} (G : GoodCL ws k cs ls) : GoodCL ws (k + 1) cs ls := ⟨G.ca, G.cv, G.la, G.lv, by have := G.few; omega, G.wf⟩
theorem item_at {ws : List Str} {k : Nat} (h : k < ws.length) : atI (vsS ws) ((k : Nat) : Int) = some (.str ws[k]) := atI_nat (by show (List.map _ ws)[k]? = _; rw [List.getElem?_map, List.getElem?_eq_getElem h]; rfl)
def tupR (j : Nat) (b : Bool) : HO := .tup [.int (j : Int), .bl b]
def spAEnd : Sp := fun vs H Q _ => ∃ (wA : Addr) (ws : List Str) (k : Nat) (r : Res EndD), vs = [.ref wA, .int (k : Int)] ∧ H wA = some (.lst (vsS ws)) ∧ WsOk ws ∧ k ≤ ws.length ∧ EndP ws k r ∧
  match r with
  | .ok e j => ∀ (t : Addr) (H' : Hp), Same' H H' → H' t = some (tupR j true) → Q (.ref t) H'
  | .no j => ∀ (t : Addr) (H' : Hp), Same' H H' → H' t = some (tupR j false) → Q (.ref t) H'
section
variable {P : Program} {w : World} {K : PySem.W.Frag} {mg : Str → Option Value} {base : Heap}
variable {f : Addr} {fN fT : Addr} {dN dT : FuncData}
abbrev nAE : List Str := ["_law_words", "_law_spot", "_law_behind", "_law_cells_so", "_law_logs_so", "_law_is_right"]
theorem scAE : FnScope nAE ["_law_words", "_law_spot"] (defScope sAfterEnd) := ⟨rfl, rfl, rfl, by decide +kernel, rfl, by decide +kernel, by decide +kernel⟩
abbrev XAE (P : Program) (w : World) (K : PySem.W.Frag) (mg : Str → Option Value) (base : Heap) (f : Addr) (cdv : Value) (A : Around) (outer : List Env) (s : Shared) (H : Hp) (E : XK) : Cx := (cxOf CX0 P w K mg base nAE "_law_after_end" (defScope sAfterEnd) f cdv A outer s H E).nox
variable {cdv : Value} {A : Around} {outer : List Env} {s : Shared} {H0 : Hp} {E : XK}
/-- the things -/
theorem aeLoop (T : Txt mg) (FT : Fun K "_law_after_thing" "_law_after_thing" sAfterThing fT dT) (bT : Binds K dT ["_law_words", "_law_spot", "_law_cells_so", "_law_logs_so"] []) (gT : mg "_law_after_thing" = some (.ref fT)) (GT : FnOk P w K mg base CX0 3 fT dT ["_law_words", "_law_spot", "_law_cells_so", "_law_logs_so"] spAThing) (hr : Room 3 (XAE P w K mg base f cdv A outer s H0 E).A) :
    ∃ t, PSs (XAE P w K mg base f cdv A outer s H0 E) ((defBody sAfterEnd).drop 3) t ∧ ∀ (wA cA lA : Addr) (ws : List Str) (k k1 : Nat) (r : Res CL) (z5 : Option V) (Hs H : Hp) (D : Ends), WsOk ws → Things ws [] [] k r → k ≤ ws.length → ThIn H wA cA lA ws [] [] → Same' Hs H → Hs cA = none → Hs lA = none →
      (match r with
        | .ok c j => ∀ (t : Addr) (H' : Hp), Same' Hs H' → H' t = some (tupR j true) → D.rt (.ref t) H'
        | .no j => ∀ (t : Addr) (H' : Hp), Same' Hs H' → H' t = some (tupR j false) → D.rt (.ref t) H') →
      t D [some (.ref wA), some (.int (k1 : Int)), some (.int (k : Int)), some (.ref cA), some (.ref lA), z5] H := by
  refine ⟨_, pss_cons (ps_while PassesOwn.never (PW.pt (pw_and (pt_cmpR op_lt (pv 2) (pe_callB call_len_seq (by rfl) T.len PySem.boot_len (pa_cons (pv 0) pa_nil)) (nomark _)) (pw_and1 (pt_cmpR op_eq (pe_ix ix_list (pv 0) (pv 2) (fun _ _ => rfl)) pe_str (nomark _)))))
      (pss_cons (ps_asg (pe_call GT hr (by rfl) gT FT.kp bT .nil pass0 (pa_cons (pv 0) (pa_cons (pe_op op_add (pv 2) pe_int) (pa_cons (pv 3) (pa_cons (pv 4) pa_nil))))) (pg_tup (n := 2) rfl (pgs_cons (pg_name (i := 2) scAE.nd rfl (.inl rfl)) (pgs_cons (pg_name (i := 5) scAE.nd rfl (.inl rfl)) pgs_nil))))
      (pss_one (ps_if (pt_not (pt_val (pv 5))) (pss_one (ps_ret (pe_tup (pa_cons (pv 2) (pa_cons pe_bl pa_nil))))) pss_nil))))
    (pss_one (ps_ret (pe_tup (pa_cons (pv 2) (pa_cons pe_bl pa_nil))))), ?_⟩
  intro wA cA lA ws k k1 r z5 Hs H D W th kl I sm nc nl h
  refine ⟨fun m σ H' => ∃ k cs ls z5, m = ws.length - k ∧ k ≤ ws.length ∧ Things ws cs ls k r ∧ GoodCL ws k cs ls ∧ ThIn H' wA cA lA ws cs ls ∧ Same' Hs H' ∧ σ = [some (.ref wA), some (.int (k1 : Int)), some (.int (k : Int)), some (.ref cA), some (.ref lA), z5],
    ⟨_, k, [], [], z5, rfl, kl, th, good_nil, I, sm, rfl⟩, fun m σ H' hw => ?_⟩
  obtain ⟨k, cs, ls, z5, rfl, kl, th, G, I, sm, rfl⟩ := hw
  refine ⟨_, rfl, _, rfl, wA, _, rfl, .inl (SqL.of I.w), _, _, rfl, rfl, _, rfl, ?_⟩
  rw [List.length_map]
  have stop : ws[k]? ≠ some semi → tRet (tTup (tCons (tVar 2) (tCons (tC (.bl true)) tNil))) D [some (.ref wA), some (.int (k1 : Int)), some (.int (k : Int)), some (.ref cA), some (.ref lA), z5] H' := fun n => by
    cases th with
    | err hs _ => exact absurd hs n
    | more hs _ _ => exact absurd hs n
    | done _ => exact ⟨_, rfl, by show 2 ≤ sizeLine; decide, fun t ht => h t _ (sm.trans (same_new ht)) upd_same⟩
  by_cases hk : k < ws.length
  · rw [decide_eq_true (by omega)]
    refine iteT ⟨_, rfl, _, rfl, wA, _, _, _, rfl, rfl, SqL.of I.w, item_at hk, rfl, _, rfl, ?_⟩
    by_cases hs : ws[k] = semi
    · rw [hs, decide_eq_true rfl]
      have hs' : ws[k]? = some semi := by rw [List.getElem?_eq_getElem hk, hs]
      refine iteT ⟨fun σ' H3 => ∃ k' cs' ls' z5', k < k' ∧ k' ≤ ws.length ∧ Things ws cs' ls' k' r ∧ GoodCL ws k' cs' ls' ∧ ThIn H3 wA cA lA ws cs' ls' ∧ Same' Hs H3 ∧ σ' = [some (.ref wA), some (.int (k1 : Int)), some (.int (k' : Int)), some (.ref cA), some (.ref lA), z5'],
        fun σ' H3 ⟨k', cs', ls', z5', lt, le, q⟩ => ⟨ws.length - k', by omega, k', cs', ls', z5', rfl, le, q⟩, ?_⟩
      refine ⟨_, rfl, _, rfl, (k : Int), 1, rfl, rfl, _, rfl, _, rfl, wA, cA, lA, ws, k + 1, cs, ls, rfl, W, I, hk, G.up, ?_⟩
      have back : ∀ {H3 : Hp}, Keep2 cA lA H' H3 → Same' Hs H3 := fun kp b o e => kp b o (ne_of_none e nc) (ne_of_none e nl) (sm _ _ e)
      cases ht : thingR ws (k + 1) cs ls with
      | no j =>
        intro t H3 kp e3
        refine ⟨t, _, rfl, SqT.of e3, rfl, _, _, rfl, _, _, rfl, rfl, ?_⟩
        refine ⟨_, rfl, false, rfl, iteT ⟨_, rfl, by show 2 ≤ sizeLine; decide, fun t2 ht2 => ?_⟩⟩
        cases th with
        | done n => exact absurd hs' n
        | err _ t3 =>
          rw [ht] at t3
          injection t3 with t3
          rw [← t3] at h
          exact h t2 _ ((back kp).trans (same_new ht2)) upd_same
        | more _ t3 _ => rw [ht] at t3; cases t3
      | ok c j =>
        intro t H3 kp I3 e3
        refine ⟨t, _, rfl, SqT.of e3, rfl, _, _, rfl, _, _, rfl, rfl, ?_⟩
        refine ⟨_, rfl, true, rfl, iteF ?_⟩
        have lt := thingR_on ht
        cases th with
        | done n => exact absurd hs' n
        | err _ t3 => rw [ht] at t3; cases t3
        | more _ t3 m =>
          rw [ht] at t3
          injection t3 with e1 e2
          subst e1 e2
          exact ⟨_, _, _, some (.bl true), by omega, lt.2, m, G.step ht, I3, back kp, rfl⟩
    · rw [decide_eq_false fun e => hs (by injection e)]
      exact iteF (stop fun e => hs (by rw [List.getElem?_eq_getElem hk] at e; injection e))
  · rw [decide_eq_false (by omega)]
    exact iteF (iteF (stop fun e => by rw [List.getElem?_eq_none (by omega)] at e; cases e))
theorem ok_aEnd {fd : FuncData} (F : Fun K "_law_after_end" "_law_after_end" sAfterEnd f fd) (T : Txt mg) (FN : Fun K "_law_is_name" "_law_is_name" sIsName fN dN) (bN : Binds K dN ["_law_word"] []) (gN : mg "_law_is_name" = some (.ref fN)) (GN : FnOk P w K mg base CX0 2 fN dN ["_law_word"] spIsN)
    (FT : Fun K "_law_after_thing" "_law_after_thing" sAfterThing fT dT) (bT : Binds K dT ["_law_words", "_law_spot", "_law_cells_so", "_law_logs_so"] []) (gT : mg "_law_after_thing" = some (.ref fT)) (GT : FnOk P w K mg base CX0 3 fT dT ["_law_words", "_law_spot", "_law_cells_so", "_law_logs_so"] spAThing) : FnOk P w K mg base CX0 4 f fd ["_law_words", "_law_spot"] spAEnd := by
  refine F.ok scAE (fun vs H Q E h => ?_) (fun cdv A outer s H vs Q E hr h => ?_)
  · obtain ⟨wA, ws, k, r, rfl, _⟩ := h
    rfl
  · obtain ⟨wA, ws, k, r, rfl, hw, W, kl, ep, h⟩ := h
    obtain ⟨t3, h3, q3⟩ := aeLoop (P := P) (w := w) (K := K) (mg := mg) (base := base) (f := f) (cdv := cdv) (A := A) (outer := outer) (s := s) (H0 := H) (E := E) T FT bT gT GT hr
    refine ⟨_, pss_cons (ps_if (PW.pt (pw_or (pt_cmpR op_ge (pv 1) (pe_callB call_len_seq (by rfl) T.len PySem.boot_len (pa_cons (pv 0) pa_nil)) (nomark _)) (pw_or1 (pt_cmpR op_notIn_seq (pe_ix ix_list (pv 0) (pv 1) (fun _ _ => rfl)) (pe_tup (pa_cons pe_str (pa_cons pe_str pa_nil))) (by rfl)))))
        (pss_one (ps_ret (pe_tup (pa_cons (pv 1) (pa_cons pe_bl pa_nil))))) pss_nil)
      (pss_cons (ps_par3 (i := 2) (j := 3) (l := 4) rfl scAE.nd rfl rfl rfl (by decide) (by decide) (by decide) rfl rfl rfl (pa_cons (pe_op op_add (pv 1) pe_int) (pa_cons (pe_lst pa_nil) (pa_cons (pe_lst pa_nil) pa_nil))) (by rfl))
      (pss_cons (ps_if (pt_cmpR op_eq (pe_ix ix_list (pv 0) (pv 1) (fun _ _ => rfl)) pe_str (nomark _))
          (pss_cons (ps_if (PW.pt (pw_or (pt_cmpR op_ge (pv 2) (pe_callB call_len_seq (by rfl) T.len PySem.boot_len (pa_cons (pv 0) pa_nil)) (nomark _)) (pw_or1 (pt_not (pt_val (pe_call GN (hr.mono (by decide)) (by rfl) gN FN.kp bN .nil pass0 (pa_cons (pe_ix ix_list (pv 0) (pv 2) (fun _ _ => rfl)) pa_nil)))))))
              (pss_one (ps_ret (pe_tup (pa_cons (pv 2) (pa_cons pe_bl pa_nil))))) pss_nil)
            (pss_one (ps_set (i := 2) scAE.nd rfl (.inl rfl) (pe_op op_add (pv 2) pe_int)))) pss_nil) h3)), ?_⟩
    -- the head does not stand
    have bad : ∀ j, headR ws k = .no j → ∀ H', Same' H H' → ∀ t, H' t = none → Q (.ref t) (upd H' t (tupR j false)) := fun j hj H' sm t ht => by
      cases ep with
      | bad e =>
        rw [hj] at e
        injection e with e
        subst e
        exact h t _ (sm.trans (same_new ht)) upd_same
      | err e _ => rw [hj] at e; cases e
      | ok e _ => rw [hj] at e; cases e
    -- the head stands
    have good : ∀ fl j, headR ws k = .ok fl j → ∀ (cA lA : Addr) (H' : Hp), ThIn H' wA cA lA ws [] [] → Same' H H' → H cA = none → H lA = none → ∀ z5, t3 { nx := fun _ H' => Q .non H', rt := Q } [some (.ref wA), some (.int (k : Int)), some (.int (j : Int)), some (.ref cA), some (.ref lA), z5] H' := fun fl j hj cA lA H' I sm nc nl z5 => by
      have le := (headR_on hj).2.1
      cases ep with
      | bad e => rw [hj] at e; cases e
      | err e t =>
        rw [hj] at e
        injection e with e1 e2
        subst e1 e2
        exact q3 wA cA lA ws _ k _ z5 H H' _ W t le I sm nc nl h
      | ok e t =>
        rw [hj] at e
        injection e with e1 e2
        subst e1 e2
        exact q3 wA cA lA ws _ k _ z5 H H' _ W t le I sm nc nl h
    refine ⟨_, rfl, _, rfl, wA, _, rfl, .inl (SqL.of hw), _, _, rfl, rfl, _, rfl, ?_⟩
    rw [List.length_map]
    by_cases hk : k < ws.length
    · rw [decide_eq_false (by omega)]
      refine iteF ⟨_, rfl, _, rfl, wA, _, _, _, rfl, rfl, SqL.of hw, item_at hk, by show 2 ≤ sizeLine; decide, fun p hp => ?_⟩
      have s1 := same_new (o := .tup [V.str "done", .str "failed"]) hp
      refine ⟨p, _, rfl, .inr (SqT.of upd_same), rfl, by decide +kernel, _, rfl, ?_⟩
      have ei : inV (.str ws[k]) [V.str "done", .str "failed"] = decide (ws[k] ∈ (["done", "failed"] : List Str)) := inV_strs ["done", "failed"]
      show (if (if true = true then !inV (.str ws[k]) [V.str "done", .str "failed"] else inV (.str ws[k]) [V.str "done", .str "failed"]) = true then _ else _)
      rw [if_pos rfl, ei]
      by_cases hm : ws[k] ∈ (["done", "failed"] : List Str)
      · rw [decide_eq_true hm]
        refine iteF ?_
        refine ⟨_, rfl, (k : Int), 1, rfl, rfl, Nat.zero_le _, fun cA hcA => ⟨Nat.zero_le _, fun lA hlA => ⟨_, _, _, rfl, ?_⟩⟩⟩
        have s2 := s1.trans (same_new (o := .lst []) hcA)
        have s3 := s2.trans (same_new (o := .lst []) hlA)
        have s4 := s3
        have nc : H cA = none := by
          cases e : H cA with
          | none => rfl
          | some o => have := s1 _ _ e; rw [hcA] at this; cases this
        have nl : H lA = none := by
          cases e : H lA with
          | none => rfl
          | some o => have := s2 _ _ e; rw [hlA] at this; cases this
        have ncl : cA ≠ lA := ne_of_none upd_same hlA
        have I : ThIn _ wA cA lA ws [] [] := ⟨s4 _ _ hw, by rw [upd_ne ncl, upd_same]; rfl, upd_same, ne_of_none hw nc, ne_of_none hw nl, ncl⟩
        refine ⟨_, rfl, _, rfl, wA, _, _, _, rfl, rfl, SqL.of I.w, item_at hk, rfl, _, rfl, ?_⟩
        have hz := List.getElem?_eq_getElem hk
        by_cases hf : ws[k] = "failed"
        · rw [hf, decide_eq_true rfl]
          refine iteT ⟨_, rfl, _, rfl, wA, _, rfl, .inl (SqL.of I.w), _, _, rfl, rfl, _, rfl, ?_⟩
          rw [List.length_map]
          rw [hf] at hz
          by_cases hk1 : k + 1 < ws.length
          · rw [decide_eq_false (by omega)]
            have hz1 := List.getElem?_eq_getElem hk1
            refine iteF ⟨_, rfl, _, rfl, wA, _, ((k + 1 : Nat) : Int), _, rfl, rfl, SqL.of I.w, item_at hk1, _, rfl, W.len _ (List.getElem_mem hk1), W.ok _ (List.getElem_mem hk1), fun H5 s5 => ⟨_, rfl, ?_⟩⟩
            cases hn : nm ws[k + 1] with
            | true =>
              refine iteF ⟨_, rfl, ((k + 1 : Nat) : Int), 1, rfl, rfl, ?_⟩
              have e : headR ws k = .ok (some ws[k + 1]) (k + 2) := by
                unfold headR
                rw [hz, hz1]
                simp only [if_neg (show ("failed" : Str) ≠ "done" by decide +kernel), hn, if_true]
              exact good _ _ e cA lA H5 (I.keep s5) (s4.trans s5) nc nl none
            | false =>
              have e : headR ws k = .no (k + 1) := by
                unfold headR
                rw [hz, hz1]
                simp only [if_neg (show ("failed" : Str) ≠ "done" by decide +kernel), hn, if_true]
                rfl
              exact iteT ⟨_, rfl, by show 2 ≤ sizeLine; decide, fun t ht => bad _ e H5 (s4.trans s5) t ht⟩
          · rw [decide_eq_true (by omega)]
            have e : headR ws k = .no (k + 1) := by
              unfold headR
              rw [hz, List.getElem?_eq_none (by omega)]
              simp only [if_neg (show ("failed" : Str) ≠ "done" by decide +kernel), if_true]
            exact iteT (iteT ⟨_, rfl, by show 2 ≤ sizeLine; decide, fun t ht => bad _ e _ s4 t ht⟩)
        · rw [decide_eq_false fun e => hf (by injection e)]
          have hd : ws[k] = "done" := by
            have : ws[k] = "done" ∨ ws[k] = "failed" := by simpa using hm
            exact this.resolve_right hf
          rw [hd] at hz
          have e : headR ws k = .ok none (k + 1) := by
            unfold headR
            rw [hz]
            rfl
          exact iteF (good _ _ e cA lA _ I s4 nc nl none)
      · rw [decide_eq_false hm]
        have e : headR ws k = .no k := by
          unfold headR
          rw [List.getElem?_eq_getElem hk]
          have h1 : ws[k] ≠ "done" := fun e => hm (by rw [e]; simp)
          have h2 : ws[k] ≠ "failed" := fun e => hm (by rw [e]; simp)
          simp only [if_neg h1, if_neg h2]
        exact iteT ⟨_, rfl, by show 2 ≤ sizeLine; decide, fun t ht => bad _ e _ s1 t ht⟩
    · rw [decide_eq_true (by omega)]
      have e : headR ws k = .no k := by
        unfold headR
        rw [List.getElem?_eq_none (by omega)]
      exact iteT (iteT ⟨_, rfl, by show 2 ≤ sizeLine; decide, fun t ht => bad _ e H (fun _ _ e => e) t ht⟩)
end
end My
namespace My
open PySem PySem.Spec PyProof.Rows L2
def dueV (ws : List Str) : V := match readF ws with
  | .ok _ => .non
  | .error j => .int (j : Int)
def spDue : Sp := fun vs H Q _ => ∃ (z : Str) (ws : List Str), vs = [.str z] ∧ Txt.split z spc = ws ∧ z.length ≤ 100000 ∧ WsOk ws ∧ 1 ≤ ws.length ∧ ∀ H', Same' H H' → Q (dueV ws) H'
theorem due_no {ws : List Str} {j : Nat} (h : EndsP ws (.no j)) : dueV ws = .int (j : Int) := by
  unfold dueV readF
  rw [ends_det ends_of h]
theorem due_ok {ws : List Str} {es : List EndD} {j : Nat} (h : EndsP ws (.ok es j)) : dueV ws = if j < ws.length then .int (j : Int) else .non := by
  unfold dueV readF
  rw [ends_det ends_of h]
  dsimp only
  by_cases l : j < ws.length
  · rw [if_pos l, if_pos l]
  · rw [if_neg l, if_neg l]
theorem logR_le {ws : List Str} {k j : Nat} (l : k ≤ ws.length) (h : logR ws k = .no j) : k ≤ j ∧ j ≤ ws.length := by
  unfold logR at h
  cases hd : ws.drop k with
  | nil => rw [hd] at h; injection h with h; omega
  | cons z r =>
    rw [hd] at h
    simp only at h
    split at h
    · cases h
    · split at h
      · cases h
      · injection h with h
        omega
theorem thing_le {ws : List Str} {k j : Nat} {cs : List (Str × Int)} {ls : List (Str × List Str)} (l : k ≤ ws.length) (h : thingR ws k cs ls = .no j) : k ≤ j ∧ j ≤ ws.length := by
  have w := thing_ways (ws := ws) (k := k) (cs := cs) (ls := ls)
  rw [h] at w
  cases w with
  | no _ => exact ⟨Nat.le_refl _, l⟩
  | bad hz _ _ hl =>
    have := (List.getElem?_eq_some_iff.mp hz).1
    have := logR_le (by omega) hl
    omega
theorem things_le {ws : List Str} {cs : List (Str × Int)} {ls : List (Str × List Str)} {k : Nat} {r : Res CL} (h : Things ws cs ls k r) : ∀ j, r = .no j → k ≤ j ∧ j ≤ ws.length := by
  induction h with
  | done h => intro j e; cases e
  | err h t =>
    intro j e
    injection e with e
    subst e
    have := (List.getElem?_eq_some_iff.mp h).1
    have := thing_le (by omega) t
    omega
  | more h t m ih =>
    intro j e
    have := ih j e
    have := thingR_on t
    omega
theorem no_le {ws : List Str} {k j : Nat} (h : EndP ws k (.no j)) (l : k ≤ ws.length) : k ≤ j ∧ j ≤ ws.length := by
  cases h with
  | bad h =>
    unfold headR at h
    cases hz : ws[k]? with
    | none => rw [hz] at h; injection h with h; omega
    | some z =>
      have := (List.getElem?_eq_some_iff.mp hz).1
      rw [hz] at h
      simp only at h
      split at h
      · cases h
      · split at h
        · cases hy : ws[k + 1]? with
          | none => rw [hy] at h; injection h with h; omega
          | some y =>
            rw [hy] at h
            simp only at h
            split at h
            · cases h
            · injection h with h
              omega
        · injection h with h
          omega
  | err h t =>
    have := headR_on h
    have := things_le t _ rfl
    omega
section
variable {P : Program} {w : World} {K : PySem.W.Frag} {mg : Str → Option Value} {base : Heap}
variable {f : Addr} {fA : Addr} {dA : FuncData}
abbrev nDue : List Str := ["_law_line_here", "_law_words", "_law_spot", "_law_is_right"]
theorem scDue : FnScope nDue ["_law_line_here"] (defScope sDue) := ⟨rfl, rfl, rfl, by decide +kernel, rfl, by decide +kernel, by decide +kernel⟩
theorem ok_due {fd : FuncData} (F : Fun K "_law_due" "_law_due" sDue f fd) (T : Txt mg) (FA : Fun K "_law_after_end" "_law_after_end" sAfterEnd fA dA) (bA : Binds K dA ["_law_words", "_law_spot"] []) (gA : mg "_law_after_end" = some (.ref fA)) (GA : FnOk P w K mg base CX0 4 fA dA ["_law_words", "_law_spot"] spAEnd) :
    FnOk P w K mg base CX0 5 f fd ["_law_line_here"] spDue := by
  refine F.ok scDue (fun vs H Q E h => ?_) (fun cdv A outer s H vs Q E hr h => ?_)
  · obtain ⟨z, ws, rfl, _⟩ := h
    rfl
  · obtain ⟨z, ws, rfl, hz, zl, W, n1, q⟩ := h
    refine ⟨_, pss_cons (ps_set (i := 1) scDue.nd rfl (.inl rfl) (pe_split (pv 0) pe_str))
      (pss_cons (ps_if (pt_cmpR op_eq (pe_ix ix_list (pv 1) pe_int (fun _ _ => rfl)) pe_str (nomark _)) (pss_one (ps_ret (pe_ifExp (pt_cmpR op_gt (pe_callB call_len_seq (by rfl) T.len PySem.boot_len (pa_cons (pv 1) pa_nil)) pe_int (nomark _)) pe_int pe_non))) pss_nil)
      (pss_cons (ps_asg (pe_call GA hr (by rfl) gA FA.kp bA .nil pass0 (pa_cons (pv 1) (pa_cons pe_int pa_nil))) (pg_tup (n := 2) rfl (pgs_cons (pg_name (i := 2) scDue.nd rfl (.inl rfl)) (pgs_cons (pg_name (i := 3) scDue.nd rfl (.inl rfl)) pgs_nil))))
      (pss_cons (ps_while PassesOwn.never (PW.pt (pw_and (pt_val (pv 3)) (pw_and (pt_cmpR op_lt (pv 2) (pe_callB call_len_seq (by rfl) T.len PySem.boot_len (pa_cons (pv 1) pa_nil)) (nomark _)) (pw_and1 (pt_cmpR op_eq (pe_ix ix_list (pv 1) (pv 2) (fun _ _ => rfl)) pe_str (nomark _))))))
          (pss_one (ps_asg (pe_call GA hr (by rfl) gA FA.kp bA .nil pass0 (pa_cons (pv 1) (pa_cons (pe_op op_add (pv 2) pe_int) pa_nil))) (pg_tup (n := 2) rfl (pgs_cons (pg_name (i := 2) scDue.nd rfl (.inl rfl)) (pgs_cons (pg_name (i := 3) scDue.nd rfl (.inl rfl)) pgs_nil))))))
      (pss_one (ps_ret (pe_ifExp (PW.pt (pw_and (pt_val (pv 3)) (pw_and1 (pt_cmpR op_eq (pv 2) (pe_callB call_len_seq (by rfl) T.len PySem.boot_len (pa_cons (pv 1) pa_nil)) (nomark _))))) pe_non (pv 2))))))), ?_⟩
    refine ⟨_, rfl, ⟨z, rfl⟩, z, spc, rfl, rfl, by decide +kernel, by rw [sizeLine_eq]; omega, fun wA hwA => ?_⟩
    rw [hz]
    have s0 := same_new (o := .lst (ws.map V.str)) hwA
    obtain ⟨H1, e1⟩ : ∃ H1 : Hp, upd H wA (.lst (ws.map V.str)) = H1 := ⟨_, rfl⟩
    have hw : H1 wA = some (.lst (vsS ws)) := by rw [← e1]; exact upd_same
    rw [e1] at s0 ⊢
    refine ⟨_, rfl, wA, _, ((0 : Nat) : Int), _, rfl, rfl, SqL.of hw, item_at n1, rfl, _, rfl, ?_⟩
    have ep := ends_of (ws := ws)
    obtain ⟨r, er⟩ : ∃ r, endsF ws = r := ⟨_, rfl⟩
    rw [er] at ep
    by_cases hd : ws[0] = dash
    · rw [hd, decide_eq_true rfl]
      have h0 : ws[0]? = some dash := by rw [List.getElem?_eq_getElem n1, hd]
      have e := due_ok (EndsP.bar h0)
      refine iteT ⟨_, rfl, wA, _, rfl, .inl (SqL.of hw), _, _, rfl, rfl, _, rfl, ?_⟩
      rw [List.length_map]
      have qq := q H1 s0
      rw [e] at qq
      by_cases hl : 1 < ws.length
      · rw [if_pos hl] at qq
        rw [decide_eq_true (by omega)]
        exact iteT qq
      · rw [if_neg hl] at qq
        rw [decide_eq_false (by omega)]
        exact iteF qq
    · rw [decide_eq_false fun e => hd (by injection e)]
      have nb : ws[0]? ≠ some dash := fun e => hd (by rw [List.getElem?_eq_getElem n1] at e; injection e)
      obtain ⟨r1, ep1, h1⟩ : ∃ r1, EndP ws 0 r1 ∧ (match r1 with
          | .no j => r = .no j
          | .ok e k => RestP ws [e] k r) := by
        cases ep with
        | bar n => exact absurd n nb
        | err _ t => exact ⟨_, t, rfl⟩
        | more _ t m => exact ⟨_, t, m⟩
      have epr : EndsP ws r := er ▸ ends_of
      refine iteF ⟨_, rfl, wA, ws, 0, r1, rfl, hw, W, Nat.zero_le _, ep1, ?_⟩
      -- the last row, nothing being right
      have endNo : ∀ (j : Nat), r = .no j → ∀ H2, Same' H H2 → Q (.int (j : Int)) H2 := fun j e H2 s2 => by
        have := q H2 s2
        rw [due_no (e ▸ epr)] at this
        exact this
      cases r1 with
      | no j =>
        intro t H2 s2 ht
        refine ⟨t, _, rfl, SqT.of ht, rfl, _, _, rfl, _, _, rfl, rfl, ?_⟩
        refine ⟨fun m σ H' => m = 0 ∧ H' = H2 ∧ σ = [some (.str z), some (.ref wA), some (.int (j : Int)), some (.bl false)], ⟨0, rfl, rfl, rfl⟩, fun m σ H' hwd => ?_⟩
        obtain ⟨rfl, rfl, rfl⟩ := hwd
        refine ⟨_, rfl, false, rfl, iteF (iteF ⟨_, rfl, false, rfl, iteF (iteF ⟨_, rfl, ?_⟩)⟩)⟩
        exact endNo j h1 _ (s0.trans s2)
      | ok e k =>
        intro t H2 s2 ht
        refine ⟨t, _, rfl, SqT.of ht, rfl, _, _, rfl, _, _, rfl, rfl, ?_⟩
        have on1 := (end_on ep1).2
        refine ⟨fun m σ H' => ∃ (k : Nat) (b : Bool), m = (if b then ws.length + 1 - k else 0) ∧ k ≤ ws.length ∧ (match b with | true => ∃ es, RestP ws es k r | false => r = .no k) ∧ Same' H H' ∧ H' wA = some (.lst (vsS ws)) ∧ σ = [some (.str z), some (.ref wA), some (.int (k : Int)), some (.bl b)],
          ⟨_, k, true, rfl, on1, ⟨_, h1⟩, s0.trans s2, s2 _ _ hw, rfl⟩, fun m σ H' hwd => ?_⟩
        obtain ⟨k, b, rfl, kl, hb, sm, hw', rfl⟩ := hwd
        cases b with
        | false => exact ⟨_, rfl, false, rfl, iteF (iteF ⟨_, rfl, false, rfl, iteF (iteF ⟨_, rfl, endNo k hb _ sm⟩)⟩)⟩
        | true =>
          obtain ⟨es, rp⟩ := hb
          have okv : ws[k]? ≠ some slash → dueV ws = if k < ws.length then .int (k : Int) else .non := fun n => by
            cases rp with
            | done _ => exact due_ok epr
            | err hs _ => exact absurd hs n
            | more hs _ _ => exact absurd hs n
          have qq := q H' sm
          refine ⟨_, rfl, true, rfl, iteT ⟨_, rfl, _, rfl, wA, _, rfl, .inl (SqL.of hw'), _, _, rfl, rfl, _, rfl, ?_⟩⟩
          rw [List.length_map]
          by_cases hk : k < ws.length
          · rw [decide_eq_true (by omega)]
            refine iteT ⟨_, rfl, _, rfl, wA, _, _, _, rfl, rfl, SqL.of hw', item_at hk, rfl, _, rfl, ?_⟩
            by_cases hs : ws[k] = slash
            · rw [hs, decide_eq_true rfl]
              have hs' : ws[k]? = some slash := by rw [List.getElem?_eq_getElem hk, hs]
              refine iteT ⟨fun σ' H3 => ∃ (k' : Nat) (b : Bool), k < k' ∧ k' ≤ ws.length ∧ (match b with | true => ∃ es, RestP ws es k' r | false => r = .no k') ∧ Same' H H3 ∧ H3 wA = some (.lst (vsS ws)) ∧ σ' = [some (.str z), some (.ref wA), some (.int (k' : Int)), some (.bl b)],
                fun σ' H3 ⟨k', b, lt, le, hx⟩ => ⟨(if b then ws.length + 1 - k' else 0), ?_, k', b, rfl, le, hx⟩, ?_⟩
              · rw [if_pos rfl]
                cases b with
                | true => rw [if_pos rfl]; omega
                | false => rw [if_neg (by decide)]; omega
              · obtain ⟨r2, ep2, h2⟩ : ∃ r2, EndP ws (k + 1) r2 ∧ (match r2 with
                    | .no j => r = .no j
                    | .ok e k' => RestP ws (es ++ [e]) k' r) := by
                  cases rp with
                  | done n => exact absurd hs' n
                  | err _ t => exact ⟨_, t, rfl⟩
                  | more _ t m => exact ⟨_, t, m⟩
                refine ⟨_, rfl, _, rfl, (k : Int), 1, rfl, rfl, wA, ws, k + 1, r2, rfl, hw', W, hk, ep2, ?_⟩
                cases r2 with
                | no j =>
                  intro t2 H3 s3 ht2
                  refine ⟨t2, _, rfl, SqT.of ht2, rfl, _, _, rfl, _, _, rfl, rfl, ?_⟩
                  have jl := no_le ep2 hk
                  exact ⟨j, false, by omega, jl.2, h2, sm.trans s3, s3 _ _ hw', rfl⟩
                | ok e2 k2 =>
                  intro t2 H3 s3 ht2
                  refine ⟨t2, _, rfl, SqT.of ht2, rfl, _, _, rfl, _, _, rfl, rfl, ?_⟩
                  have lt := end_on ep2
                  exact ⟨k2, true, by omega, lt.2, ⟨_, h2⟩, sm.trans s3, s3 _ _ hw', rfl⟩
            · rw [decide_eq_false fun e => hs (by injection e)]
              have n : ws[k]? ≠ some slash := fun e => hs (by rw [List.getElem?_eq_getElem hk] at e; injection e)
              rw [okv n, if_pos hk] at qq
              refine iteF ⟨_, rfl, true, rfl, iteT ⟨_, rfl, _, rfl, wA, _, rfl, .inl (SqL.of hw'), rfl, _, rfl, ?_⟩⟩
              rw [List.length_map, decide_eq_false fun e => by injection e with e; omega]
              exact iteF ⟨_, rfl, qq⟩
          · rw [decide_eq_false (by omega)]
            have n : ws[k]? ≠ some slash := fun e => by rw [List.getElem?_eq_none (by omega)] at e; cases e
            rw [okv n, if_neg hk] at qq
            refine iteF (iteF ⟨_, rfl, true, rfl, iteT ⟨_, rfl, _, rfl, wA, _, rfl, .inl (SqL.of hw'), rfl, _, rfl, ?_⟩⟩)
            have ek : k = ws.length := by omega
            rw [List.length_map, decide_eq_true (by rw [ek])]
            exact iteT qq
end
end My
/-! what the law hears -/
namespace My
open PySem PySem.Spec PyProof.Rows L2
theorem rest_few {ws : List Str} {es : List EndD} {k : Nat} {r : Res (List EndD)} (h : RestP ws es k r) : 2 * es.length ≤ k + 1 → ∀ c j, r = .ok c j → 2 * c.length ≤ j + 1 := by
  induction h with
  | done h =>
    intro l c j e
    injection e with e1 e2
    subst e1 e2
    exact l
  | err h t =>
    intro l c j e
    cases e
  | more h t m ih =>
    intro l c j e
    have := end_on t
    refine ih ?_ c j e
    rw [List.length_append, List.length_singleton]
    omega
theorem read_few {ws : List Str} {es : List EndD} (n : ws.length ≤ 120) (h : readF ws = .ok es) : es.length ≤ 60 := by
  have r := read_of (ws := ws)
  rw [h] at r
  cases r with
  | ok h l =>
    cases h with
    | bar _ => exact Nat.zero_le _
    | more _ t m =>
      have a := end_on t
      have := rest_few m (by simp; omega) _ _ rfl
      omega
/-- BadText as it is caught -/
structure ErrK (K : PySem.W.Frag) (CT CL : Addr) : Prop where
  ec : ExcC K CT
  xf : XfC K CT
  no1 : PySem.W.findIn K (.ref CT) "line" = some none
  no2 : PySem.W.findIn K (.ref CT) "word" = some none
  ex : PySem.W.exmOne K (.ref CT) (.ref CL) = some true
  kT : PySem.W.kitOne K (.ref CT) (.ref CT) = some true
  kV : PySem.W.kitOne K (.ref CT) (.type "ValueError") = some true
def spHeard (K : PySem.W.Frag) : Sp := fun vs H Q _ => ∃ x, vs = [x] ∧
  ((∃ (z : Str) (ws : List Str), x = .str z ∧ Txt.split z spc = ws ∧ z.length ≤ 100000 ∧ ws.length ≤ 120 ∧ (∀ y ∈ ws, y.length ≤ 1000) ∧
    match readF ws with
    | .ok es => ∀ (p : Addr) (H' : Hp), Same' H H' → H' p = some (.lst [.str (textEs es)]) → Q (.ref p) H'
    | .error j => ∀ (p : Addr) (H' : Hp), Same' H H' → H' p = some (.tup [.int 0, .int (j : Int)]) → Q (.ref p) H') ∨
   ((∀ H', Same' H H' → NoText K H' x) ∧ ∀ (p : Addr) (H' : Hp), Same' H H' → H' p = some (.tup [.int 0, .int 0]) → Q (.ref p) H'))
section
variable {P : Program} {w : World} {K : PySem.W.Frag} {mg : Str → Option Value} {base : Heap} {CT CE CL fR fE : Addr} {dR dE : FuncData}
abbrev nHd : List Str := ["_law_thing", "_law_raised", "error"]
theorem scHd : FnScope nHd ["_law_thing"] (defScope sHeard) := ⟨rfl, rfl, rfl, by decide +kernel, rfl, by decide +kernel, by decide +kernel⟩
theorem ok_heard {f : Addr} {fd : FuncData} (F : Fun K "_law_heard" "_law_heard" sHeard f fd) (T : Txt mg) (EKT : ErrK K CT CL) (gT : mg "BadText" = some (.ref CT)) (gL : mg "LayerError" = some (.ref CL))
    (FR : Fun K "read_ends" "read_ends" sRead fR dR) (bR : Binds K dR ["text"] []) (gR : mg "read_ends" = some (.ref fR)) (GR : FnOk P w K mg base (L2.CX P w) 10 fR dR ["text"] (spRead K CT CE))
    (FE : Fun K "ends_text" "ends_text" sEndsText fE dE) (bE : Binds K dE ["ends"] []) (gE : mg "ends_text" = some (.ref fE)) (GE : FnG P w K mg base CX0 6 fE dE ["ends"] (spEndsText CE)) :
    FnG P w K mg base CX0 11 f fd ["_law_thing"] (spHeard K) := by
  refine okG F scHd (fun vs H Q E h => ?_) (fun cdv A outer s H vs Q E hr hg h => ?_)
  · obtain ⟨x, rfl, _⟩ := h
    rfl
  · obtain ⟨x, rfl, h⟩ := h
    refine ⟨_, pss_cons (ps_set (i := 1) scHd.nd rfl (.inl rfl) pe_non)
      (pss_cons (ps_try_keep (X := cxOf CX0 P w K mg base nHd "_law_heard" (defScope sHeard) f cdv A outer s H E) (x := "LayerError") (c := .ref CL) (i := 2) (n := "error") rfl rfl rfl scHd.nd rfl rfl ⟨rfl, by decide, .inl gL⟩
          (fun W pn xe tk _ => pss_one (ps_ret (pe_lst (pa_cons (pe_callG GE (hr.mono (by decide)) hg (by rfl) gE FE.kp bE .nil pass0 (pa_cons (pe_callS GR hr (by rfl) gR FR.kp bR (fun σ => passAt tk σ) (pa_cons (pv 0) pa_nil)) pa_nil)) pa_nil))))
          (fun a oe cls d pn _ _ => pss_one (ps_set (i := 1) scHd.nd rfl (.inl rfl) (pv 2))))
      (pss_one (ps_ret (pe_ifExp (PW.pt (pw_and (pt_val (pe_callB call_heldIs (by rfl) T.isi (by decide +kernel) (pa_cons (pv 1) (pa_cons (pe_glob (v := .ref CT) rfl gT rfl) pa_nil))))
          (pw_and1 (pt_val (pe_callB call_heldIs (by rfl) T.isi (by decide +kernel) (pa_cons (pv 1) (pa_cons (pe_bltn (by rfl) T.ve (by decide +kernel) (show RelV (.ty "ValueError") _ from rfl)) pa_nil)))))))
        (pe_tup (pa_cons (pe_heldF (pv 1)) (pa_cons (pe_heldF (pv 1)) pa_nil))) pe_str)))), ?_⟩
    -- an error that is told
    have last : ∀ (j : Int), (∀ (p : Addr) (H' : Hp), Same' H H' → H' p = some (.tup [.int 0, .int j]) → Q (.ref p) H') → ∀ (dd : Addr) (H1 : Hp), Same' H H1 → H1 dd = some (.xd [("word", .int j), ("line", .int 0)]) → ∀ a, H1 a = none → ∀ (H2 : Hp), H2 = upd H1 a (KeptO (.ref CT) (some dd) a) →
        Same' H H2 ∧ H2 a = some (KeptO (.ref CT) (some dd) a) ∧ H2 dd = some (.xd [("word", .int j), ("line", .int 0)]) ∧ (∀ d', some dd = some d' → ∃ fs, H2 d' = some (.xd fs)) := fun j q dd H1 s1 ed a ha H2 e2 => by
      have sa := same_new (o := KeptO (.ref CT) (some dd) a) ha
      rw [← e2] at sa
      refine ⟨s1.trans sa, by rw [e2, upd_same], sa _ _ ed, fun d' e => ?_⟩
      injection e with e
      subst e
      exact ⟨_, sa _ _ ed⟩
    refine ⟨x, rfl, x, rfl, ?_⟩
    rcases h with ⟨z, ws, rfl, hz, zl, wl, wlen, h⟩ | ⟨nt, q⟩
    · refine .inl ⟨z, ws, rfl, hz, zl, wl, wlen, ?_⟩
      cases hr : readF ws with
      | ok es =>
        rw [hr] at h
        intro t as H1 s1 ht ea
        refine ⟨t, as, es, rfl, ht, ea, read_few wl hr, fun H2 s2 => ⟨by show 1 ≤ sizeLine; decide, fun p hp => ?_⟩⟩
        exact h p _ ((s1.trans s2).trans (same_new hp)) upd_same
      | error j =>
        rw [hr] at h
        intro dd H1 s1 ed
        refine ⟨EKT.ex, fun a ha => ⟨.ref a, rfl, ?_⟩⟩
        obtain ⟨sm, ea, ed2, dh⟩ := last j h dd H1 s1 ed a ha _ rfl
        refine ⟨.ref a, rfl, a, CT, some dd, .ref CT, .ref CT, true, rfl, .own _, ea, dh, EKT.ec, EKT.kT, true, rfl, iteT ?_⟩
        refine ⟨.ref a, rfl, a, CT, some dd, .ty "ValueError", .type "ValueError", true, rfl, .ty _, ea, dh, EKT.ec, EKT.kV, true, rfl, iteT ?_⟩
        refine ⟨.ref a, rfl, a, CT, dd, _, .int 0, rfl, ea, ed2, EKT.xf, EKT.no1, rfl, .ref a, rfl, a, CT, dd, _, .int (j : Int), rfl, ea, ed2, EKT.xf, EKT.no2, rfl, by show 2 ≤ sizeLine; decide, fun p hp => ?_⟩
        exact h p _ (sm.trans (same_new hp)) upd_same
    · refine .inr ⟨nt, fun dd H1 s1 ed => ?_⟩
      refine ⟨EKT.ex, fun a ha => ⟨.ref a, rfl, ?_⟩⟩
      obtain ⟨sm, ea, ed2, dh⟩ := last 0 q dd H1 s1 ed a ha _ rfl
      refine ⟨.ref a, rfl, a, CT, some dd, .ref CT, .ref CT, true, rfl, .own _, ea, dh, EKT.ec, EKT.kT, true, rfl, iteT ?_⟩
      refine ⟨.ref a, rfl, a, CT, some dd, .ty "ValueError", .type "ValueError", true, rfl, .ty _, ea, dh, EKT.ec, EKT.kV, true, rfl, iteT ?_⟩
      refine ⟨.ref a, rfl, a, CT, dd, _, .int 0, rfl, ea, ed2, EKT.xf, EKT.no1, rfl, .ref a, rfl, a, CT, dd, _, .int 0, rfl, ea, ed2, EKT.xf, EKT.no2, rfl, by show 2 ≤ sizeLine; decide, fun p hp => ?_⟩
      exact q p _ (sm.trans (same_new hp)) upd_same
end
end My
/-! ends as the law draws them -/
namespace My
open PySem PySem.Spec PyProof.Rows L2
/-- what stands of the first i names -/
def subs (ns : List Str) : Nat → List (List Str)
  | 0 => [[]]
  | i + 1 => (subs ns i) ++ (subs ns i).map fun l => l ++ [ns.getD i ""]
theorem subs_keep {ns : List Str} {i : Nat} {l : List Str} (h : l ∈ subs ns i) : l ∈ subs ns (i + 1) := List.mem_append_left _ h
theorem subs_more {ns : List Str} {i : Nat} {l : List Str} {n : Str} (h : l ∈ subs ns i) (e : ns[i]? = some n) : l ++ [n] ∈ subs ns (i + 1) := by
  refine List.mem_append_right _ (List.mem_map.mpr ⟨l, h, ?_⟩)
  rw [List.getD_eq_getElem?_getD, e]
  rfl
theorem subs_few {ns : List Str} : ∀ {i : Nat} {l : List Str}, l ∈ subs ns i → l.length ≤ i
  | 0, l, h => by
    have e : l = [] := by simpa [subs] using h
    rw [e]
    exact Nat.zero_le _
  | i + 1, l, h => by
    rcases List.mem_append.mp h with h | h
    · have := subs_few h
      omega
    · obtain ⟨m, hm, rfl⟩ := List.mem_map.mp h
      have := subs_few hm
      rw [List.length_append]
      show m.length + 1 ≤ i + 1
      omega
theorem off_tup {H H' : Hp} {p c q : Addr} {ns : List Int} {B : Int} {xs : List V} (P : PenAt H p c ns B) (o : Off p H H') (e : H q = some (.tup xs)) : H' q = some (.tup xs) := by
  refine o _ _ (fun z => ?_) e
  obtain ⟨b, g, hp, _⟩ := P.pen
  rw [z, hp] at e
  injection e with e
  cases e
/-- the pairs as laid -/
structure LaidC (H : Hp) (cs : List (Str × Int)) (as : List Addr) : Prop where
  n : as.length = cs.length
  e : ∀ (i : Nat) (p : Addr), as[i]? = some p → ∃ c, cs[i]? = some c ∧ H p = some (.tup [.str c.1, .int c.2])
theorem LaidC.off {H H' : Hp} {p c : Addr} {ns : List Int} {B : Int} {cs : List (Str × Int)} {as : List Addr} (L : LaidC H cs as) (P : PenAt H p c ns B) (o : Off p H H') : LaidC H' cs as := ⟨L.n, fun i q e => by
  obtain ⟨k, k1, k2⟩ := L.e i q e
  exact ⟨k, k1, off_tup P o k2⟩⟩
theorem LaidC.keep {H H' : Hp} {cs : List (Str × Int)} {as : List Addr} (L : LaidC H cs as) (k : Same' H H') : LaidC H' cs as := ⟨L.n, fun i q e => by
  obtain ⟨c, k1, k2⟩ := L.e i q e
  exact ⟨c, k1, k _ _ k2⟩⟩
theorem LaidC.snoc {H : Hp} {cs : List (Str × Int)} {as : List Addr} {q : Addr} {c : Str × Int} (L : LaidC H cs as) (h : H q = some (.tup [.str c.1, .int c.2])) : LaidC H (cs ++ [c]) (as ++ [q]) := ⟨by rw [List.length_append, List.length_append, L.n]; rfl, fun i p e => by
  by_cases z : i < as.length
  · rw [List.getElem?_append_left z] at e
    obtain ⟨k, k1, k2⟩ := L.e i p e
    exact ⟨k, by rw [List.getElem?_append_left (by rw [← L.n]; exact z)]; exact k1, k2⟩
  · rw [List.getElem?_append_right (by omega)] at e
    have z0 : i - as.length = 0 := by
      cases y : i - as.length with
      | zero => rfl
      | succ n => rw [y] at e; cases e
    rw [z0] at e
    injection e with e
    subst e
    refine ⟨c, ?_, h⟩
    rw [List.getElem?_append_right (by rw [← L.n]; omega), ← L.n, z0]
    rfl⟩
theorem laid_paired {K : PySem.W.Frag} {H : Hp} : ∀ {as : List Addr} {cs : List (Str × Int)}, LaidC H cs as → Paired (fun p kv => SqT K H p [kV kv.1, kv.2]) as (cs.map fun p : Str × Int => ((.inr p.1 : Key), V.int p.2))
  | [], [], _ => .nil
  | a :: as, c :: cs, L => by
    refine .cons ?_ (laid_paired ⟨Nat.succ.inj L.n, fun i p e => by simpa using L.e (i + 1) p (by simpa using e)⟩)
    obtain ⟨k, k1, k2⟩ := L.e 0 a rfl
    injection k1 with k1
    subst k1
    exact SqT.of k2
  | [], _ :: _, L => by cases L.n
  | _ :: _, [], L => by cases L.n
theorem ite2' {c : Prop} [Decidable c] {A B : Prop} (h : c → A) (k : ¬c → B) : if c then A else B := by
  by_cases z : c
  · rw [if_pos z]; exact h z
  · rw [if_neg z]; exact k z
/-- the logs' pairs as laid -/
structure LaidL (H : Hp) (ls : List (Str × Addr × List Str)) (as : List Addr) : Prop where
  n : as.length = ls.length
  e : ∀ (i : Nat) (p : Addr), as[i]? = some p → ∃ c, ls[i]? = some c ∧ H p = some (.tup [.str c.1, .ref c.2.1]) ∧ H c.2.1 = some (.tup (c.2.2.map V.str))
theorem LaidL.off {H H' : Hp} {p c : Addr} {ns : List Int} {B : Int} {ls : List (Str × Addr × List Str)} {as : List Addr} (L : LaidL H ls as) (P : PenAt H p c ns B) (o : Off p H H') : LaidL H' ls as := ⟨L.n, fun i q e => by
  obtain ⟨k, k1, k2, k3⟩ := L.e i q e
  exact ⟨k, k1, off_tup P o k2, off_tup P o k3⟩⟩
theorem LaidL.keep {H H' : Hp} {ls : List (Str × Addr × List Str)} {as : List Addr} (L : LaidL H ls as) (k : Same' H H') : LaidL H' ls as := ⟨L.n, fun i q e => by
  obtain ⟨c, k1, k2, k3⟩ := L.e i q e
  exact ⟨c, k1, k _ _ k2, k _ _ k3⟩⟩
theorem LaidL.snoc {H : Hp} {ls : List (Str × Addr × List Str)} {as : List Addr} {q : Addr} {c : Str × Addr × List Str} (L : LaidL H ls as) (h : H q = some (.tup [.str c.1, .ref c.2.1])) (h2 : H c.2.1 = some (.tup (c.2.2.map V.str))) : LaidL H (ls ++ [c]) (as ++ [q]) := ⟨by rw [List.length_append, List.length_append, L.n]; rfl, fun i p e => by
  by_cases z : i < as.length
  · rw [List.getElem?_append_left z] at e
    obtain ⟨k, k1, k2⟩ := L.e i p e
    exact ⟨k, by rw [List.getElem?_append_left (by rw [← L.n]; exact z)]; exact k1, k2⟩
  · rw [List.getElem?_append_right (by omega)] at e
    have z0 : i - as.length = 0 := by
      cases y : i - as.length with
      | zero => rfl
      | succ n => rw [y] at e; cases e
    rw [z0] at e
    injection e with e
    subst e
    refine ⟨c, ?_, h, h2⟩
    rw [List.getElem?_append_right (by rw [← L.n]; omega), ← L.n, z0]
    rfl⟩
theorem laid_pairedL {K : PySem.W.Frag} {H : Hp} : ∀ {as : List Addr} {ls : List (Str × Addr × List Str)}, LaidL H ls as → Paired (fun p kv => SqT K H p [kV kv.1, kv.2]) as (ls.map fun p : Str × Addr × List Str => ((.inr p.1 : Key), V.ref p.2.1))
  | [], [], _ => .nil
  | a :: as, c :: ls, L => by
    refine .cons ?_ (laid_pairedL ⟨Nat.succ.inj L.n, fun i p e => by simpa using L.e (i + 1) p (by simpa using e)⟩)
    obtain ⟨k, k1, k2, _⟩ := L.e 0 a rfl
    injection k1 with k1
    subst k1
    exact SqT.of k2
  | [], _ :: _, L => by cases L.n
  | _ :: _, [], L => by cases L.n
theorem mem_subs {ns : List Str} : ∀ {i : Nat} {l : List Str} {n : Str}, l ∈ subs ns i → n ∈ l → ∃ k, k < i ∧ n = ns.getD k ""
  | 0, l, n, h, m => by
    have e : l = [] := by simpa [subs] using h
    rw [e] at m
    cases m
  | i + 1, l, n, h, m => by
    rcases List.mem_append.mp h with h | h
    · obtain ⟨k, hk, e⟩ := mem_subs h m
      exact ⟨k, by omega, e⟩
    · obtain ⟨l', h', rfl⟩ := List.mem_map.mp h
      rcases List.mem_append.mp m with m | m
      · obtain ⟨k, hk, e⟩ := mem_subs h' m
        exact ⟨k, by omega, e⟩
      · exact ⟨i, by omega, by simpa using m⟩
theorem merge_on : ∀ {more acc : List (Key × V)}, ((acc ++ more).map (·.1)).Nodup → mergeK acc more = acc ++ more
  | [], acc, _ => by
    rw [List.append_nil]
    rfl
  | p :: r, acc, u => by
    have e : acc ++ p :: r = (acc ++ [p]) ++ r := by simp
    show mergeK (putK acc p.1 p.2) r = _
    have n : p.1 ∉ acc.map (·.1) := by
      rw [List.map_append, List.nodup_append] at u
      intro z
      exact u.2.2 _ z _ (by simp) rfl
    rw [putK_new n]
    rw [e] at u ⊢
    exact merge_on u
theorem merge_same {kvs : List (Key × V)} (u : (kvs.map (·.1)).Nodup) : mergeK [] kvs = kvs := merge_on (acc := []) u
structure Fn (P : Program) (w : World) (K : PySem.W.Frag) (mg : Str → Option Value) (base : Heap) (k : Nat) (x : Str) (st : Stmt) (f : Addr) (fd : FuncData) (ps : List Str) (sp : Sp) : Prop where
  F : Fun K x x st f fd
  b : Binds K fd ps []
  g : mg x = some (.ref f)
  G : FnOk P w K mg base CX0 k f fd ps sp
abbrev nmC : List Str := ["a", "done", "y"]
abbrev nmL : List Str := ["failed", "l"]
abbrev wL : List Str := ["a", "stop", "zzzzzzzz", "l", "done"]
def fV : Option Str → V
  | none => .non
  | some n => .str n
structure PlainAt (H : Hp) (q : Addr) (e : EndD) (cp lp : Addr) : Prop where
  ex : ∃ (as bs : List Addr) (ms : List (Str × Addr × List Str)), H q = some (.tup [fV e.f, .ref cp, .ref lp]) ∧ H cp = some (.lst (as.map V.ref)) ∧ LaidC H e.cs as ∧ H lp = some (.lst (bs.map V.ref)) ∧ LaidL H ms bs ∧ ms.map stripL = e.ls
theorem PlainAt.keep {H H' : Hp} {q cp lp : Addr} {e : EndD} (h : PlainAt H q e cp lp) (k : Same' H H') : PlainAt H' q e cp lp := by
  obtain ⟨as, bs, ms, h1, h2, h3, h4, h5, h6⟩ := h.ex
  exact ⟨as, bs, ms, k _ _ h1, k _ _ h2, h3.keep k, k _ _ h4, h5.keep k, h6⟩
theorem pen_refs {H : Hp} {p c q : Addr} {ns : List Int} {B : Int} {as : List Addr} (P : PenAt H p c ns B) (h : H q = some (.lst (as.map V.ref))) : q ≠ p := fun z => by
  obtain ⟨b, g, hp, _⟩ := P.pen
  rw [z, hp] at h
  injection h with h
  injection h with h
  cases as with
  | nil => cases h
  | cons x r =>
    cases r with
    | nil => injection h with h1 h2; cases h2
    | cons y s => injection h with h1 h2; injection h2 with h2 h3; cases h2
theorem pen_strs {H : Hp} {p c q : Addr} {ns : List Int} {B : Int} {as : List Str} (P : PenAt H p c ns B) (h : H q = some (.lst (vsS as))) : q ≠ p := fun z => by
  obtain ⟨b, g, hp, _⟩ := P.pen
  rw [z, hp] at h
  injection h with h
  injection h with h
  cases as with
  | nil => cases h
  | cons x r => injection h with h1 h2; cases h1
theorem PlainAt.off {H H' : Hp} {p c q cp lp : Addr} {ns : List Int} {B : Int} {e : EndD} (h : PlainAt H q e cp lp) (P : PenAt H p c ns B) (o : Off p H H') : PlainAt H' q e cp lp := by
  obtain ⟨as, bs, ms, h1, h2, h3, h4, h5, h6⟩ := h.ex
  exact ⟨as, bs, ms, off_tup P o h1, o _ _ (pen_refs P h2) h2, h3.off P o, o _ _ (pen_refs P h4) h4, h5.off P o, h6⟩
theorem PlainAt.upd {H : Hp} {q cp lp D : Addr} {e : EndD} {xs : List V} {u : HO} (h : PlainAt H q e cp lp) (n1 : cp ≠ D) (n2 : lp ≠ D) (hD : H D = some (.lst xs)) : PlainAt (upd H D u) q e cp lp := by
  have up : ∀ {b : Addr} {ys : List V}, H b = some (.tup ys) → (L2.upd H D u) b = some (.tup ys) := fun {b ys} e => by
    rw [upd_ne fun z => by rw [z, hD] at e; cases e]
    exact e
  obtain ⟨as, bs, ms, h1, h2, h3, h4, h5, h6⟩ := h.ex
  refine ⟨as, bs, ms, up h1, by rw [upd_ne n1]; exact h2, ⟨h3.n, fun i p e => ?_⟩, by rw [upd_ne n2]; exact h4, ⟨h5.n, fun i p e => ?_⟩, h6⟩
  · obtain ⟨c, c1, c2⟩ := h3.e i p e
    exact ⟨c, c1, up c2⟩
  · obtain ⟨c, c1, c2, c3⟩ := h5.e i p e
    exact ⟨c, c1, up c2, up c3⟩
structure Drawn (e : EndD) : Prop where
  f : ∀ n, e.f = some n → n ∈ (["f", "g", "done"] : List Str)
  c : e.cs.map (·.1) ∈ subs nmC 3
  cv : ∀ c ∈ e.cs, 0 ≤ c.2 ∧ c.2 < 4
  l : e.ls.map (·.1) ∈ subs nmL 2
  lv : ∀ l ∈ e.ls, l.2.length ≤ 3 ∧ ∀ z ∈ l.2, z ∈ wL
theorem ascC : ∀ l ∈ subs nmC 3, l.Pairwise fun a b => a.cps.toList < b.cps.toList := by decide +kernel
theorem ascL : ∀ l ∈ subs nmL 2, l.Pairwise fun a b => a.cps.toList < b.cps.toList := by decide +kernel
theorem nmsOk : (∀ z ∈ nmC, nm z = true) ∧ (∀ z ∈ nmL, nm z = true) ∧ (∀ z ∈ wL, wd z = true) ∧ (∀ z ∈ (["f", "g", "done"] : List Str), nm z = true) ∧ ∀ z ∈ nmL, z ∉ nmC := by decide +kernel
theorem subs_mem {ns l : List Str} {i : Nat} {z : Str} (hi : i ≤ ns.length) (h : l ∈ subs ns i) (hz : z ∈ l) : z ∈ ns := by
  obtain ⟨k, hk, e⟩ := mem_subs h hz
  rw [e, List.getD_eq_getElem?_getD, List.getElem?_eq_getElem (by omega)]
  exact List.getElem_mem _
theorem Drawn.few {e : EndD} (D : Drawn e) : e.cs.length ≤ 3 ∧ e.ls.length ≤ 2 := by
  have a := subs_few D.c
  have b := subs_few D.l
  rw [List.length_map] at a b
  exact ⟨a, b⟩
theorem Drawn.fits {e : EndD} (D : Drawn e) : Fits e := by
  obtain ⟨n1, n2, n3, n4, n5⟩ := nmsOk
  obtain ⟨f1, f2⟩ := D.few
  have mc : ∀ z ∈ e.cs.map (·.1), z ∈ nmC := fun z hz => subs_mem (by decide) D.c hz
  have ml : ∀ z ∈ e.ls.map (·.1), z ∈ nmL := fun z hz => subs_mem (by decide) D.l hz
  refine ⟨⟨fun n hn => n4 _ (D.f n hn), ascC _ D.c, fun c hc => ⟨n1 _ (mc _ (List.mem_map.mpr ⟨c, hc, rfl⟩)), D.cv c hc⟩, ascL _ D.l, fun l hl => ⟨n2 _ (ml _ (List.mem_map.mpr ⟨l, hl, rfl⟩)), fun z hz => n3 _ ((D.lv l hl).2 z hz)⟩, by omega, by omega, fun l hl => by have := (D.lv l hl).1; omega⟩, fun l hl m => ?_⟩
  exact n5 _ (ml _ (List.mem_map.mpr ⟨l, hl, rfl⟩)) (mc _ m)
end My
namespace My
open PySem PySem.Spec PyProof.Rows L2
abbrev nPl : List Str := ["_law_pen_here", "_law_gone", "_law_cells_so", "_law_logs_so", "_law_title", "_law_said", "_law_turn"]
theorem scPl : FnScope nPl ["_law_pen_here"] (defScope sPlain) := ⟨rfl, rfl, rfl, by decide +kernel, rfl, by decide +kernel, by decide +kernel⟩
def inPl (i : Nat) : Stmt := (defBody sPlain).getD i (.Pass ⟨0, 0, 0, 0⟩)
abbrev XPl (P : Program) (w : World) (K : PySem.W.Frag) (mg : Str → Option Value) (base : Heap) (f : Addr) (cdv : Value) (A : Around) (outer : List Env) (s : Shared) (H : Hp) (E : XK) : Cx := (cxOf CX0 P w K mg base nPl "_law_plain" (defScope sPlain) f cdv A outer s H E).nox
abbrev vGone : List V := [.non, .non, .str "f", .str "g", .str "done"]
theorem gone_of {v : V} (h : v ∈ vGone) : ∃ f, v = fV f ∧ ∀ n, f = some n → n ∈ (["f", "g", "done"] : List Str) := by
  simp only [vGone, List.mem_cons, List.not_mem_nil, or_false] at h
  rcases h with rfl | rfl | rfl | rfl | rfl
  · exact ⟨none, rfl, fun _ e => by cases e⟩
  · exact ⟨none, rfl, fun _ e => by cases e⟩
  · exact ⟨some "f", rfl, fun n e => by injection e with e; rw [← e]; simp⟩
  · exact ⟨some "g", rfl, fun n e => by injection e with e; rw [← e]; simp⟩
  · exact ⟨some "done", rfl, fun n e => by injection e with e; rw [← e]; simp⟩
section
variable {P : Program} {w : World} {K : PySem.W.Frag} {mg : Str → Option Value} {base : Heap} {f : Addr} {cdv : Value} {A : Around} {outer : List Env} {s : Shared} {H0 : Hp} {E : XK} {fD fP : Addr} {dD dP : FuncData}
theorem pl0 (PP : Fn P w K mg base 2 "_law_pick" sPick fP dP ["_law_pen_here", "_law_some"] spPick) (hr : Room 2 (XPl P w K mg base f cdv A outer s H0 E).A) : ∃ t, PS (XPl P w K mg base f cdv A outer s H0 E) (inPl 0) t ∧ ∀ (p cc : Addr) (ns : List Int) (B : Int) (z1 z2 z3 z4 z5 z6 : Option V) (H : Hp) (D : Ends), PenAt H p cc ns B → B ≤ 1000 →
    (∀ (fl : Option Str) H', (∀ n, fl = some n → n ∈ (["f", "g", "done"] : List Str)) → PenAt H' p cc ns (B + 1) → Off p H H' → D.nx [some (.ref p), some (fV fl), z2, z3, z4, z5, z6] H') → t D [some (.ref p), z1, z2, z3, z4, z5, z6] H := by
  refine ⟨_, ps_set (i := 1) scPl.nd rfl (.inl rfl) (pe_call PP.G hr (by rfl) PP.g PP.F.kp PP.b .nil pass0 (pa_cons (pv 0) (pa_cons (pe_lst (pa_cons pe_non (pa_cons pe_non (pa_cons pe_str (pa_cons pe_str (pa_cons pe_str pa_nil)))))) pa_nil))), ?_⟩
  intro p cc ns B z1 z2 z3 z4 z5 z6 H D PA hB q
  refine ⟨_, rfl, by show 5 ≤ sizeLine; decide, fun l hl => ?_⟩
  have k := same_new (o := .lst vGone) hl
  have nl : l ≠ p := fun z => by obtain ⟨b, g, hp, _⟩ := PA.pen; rw [← z, hl] at hp; cases hp
  refine ⟨p, cc, ns, B, .ref l, vGone, rfl, PA.keep k, hB, .inl ⟨l, rfl, nl, upd_same⟩, by decide, by decide, fun v H' hv PA' off => ?_⟩
  obtain ⟨fl, rfl, hf⟩ := gone_of hv
  exact q fl H' hf PA' (fun b o nb e => off b o nb (k _ _ e))
structure InvC (H0 : Hp) (p cc : Addr) (ns : List Int) (B : Int) (l D1 : Addr) (i : Nat) (H' : Hp) : Prop where
  l : H' l = some (.lst (vsS nmC))
  pen : PenAt H' p cc ns (B + 2 * (i : Int))
  off : Off p H0 H'
  laid : ∃ cs as, H' D1 = some (.lst (as.map V.ref)) ∧ cs.map (·.1) ∈ subs nmC i ∧ (∀ c ∈ cs, 0 ≤ c.2 ∧ c.2 < 4) ∧ LaidC H' cs as
theorem pl1 (DD : Fn P w K mg base 1 "_law_draw" sDraw fD dD ["_law_pen_here", "_law_many"] spDraw) (hr : Room 2 (XPl P w K mg base f cdv A outer s H0 E).A) : ∃ t, PS (XPl P w K mg base f cdv A outer s H0 E) (inPl 1) t ∧ ∀ (p cc : Addr) (ns : List Int) (B : Int) (z1 z2 z3 z5 z6 : Option V) (H : Hp) (D : Ends), PenAt H p cc ns B → B + 6 ≤ 1000 →
    (∀ (D1 : Addr) (cs : List (Str × Int)) (as : List Addr) (z4 : Option V) H', cs.map (·.1) ∈ subs nmC 3 → (∀ c ∈ cs, 0 ≤ c.2 ∧ c.2 < 4) → H' D1 = some (.lst (as.map V.ref)) → H D1 = none → LaidC H' cs as → PenAt H' p cc ns (B + 6) → Off p H H' → D.nx [some (.ref p), z1, some (.ref D1), z3, z4, z5, z6] H') → t D [some (.ref p), z1, z2, z3, none, z5, z6] H := by
  refine ⟨_, ps_setLc (i := 2) (own := [("_law_title", 4)]) (g := gName 4) rfl scPl.nd rfl rfl (sw_true rfl rfl rfl (by decide +kernel)) (pi_list (pe_lst (pa_cons pe_str (pa_cons pe_str (pa_cons pe_str pa_nil))))) (blkOk_by (N := nPl) (sc := defScope sPlain) (by decide +kernel)) (fun _ _ _ _ _ => pg_name (i := 4) scPl.nd rfl (Or.inl rfl))
      (fun s1 H1 C1 cl1 fp1 => pts_one (pt_cmpR op_eq (pe_call (X := (XPl P w K mg base f cdv A outer s H0 E).blk s1 H1 _ (compEnvC _ cl1 C1 (XPl P w K mg base f cdv A outer s H0 E).env) fp1) DD.G (hr.mono (by decide)) (by rfl) DD.g DD.F.kp DD.b .nil pass0 (pa_cons (pv 0) (pa_cons pe_int pa_nil))) pe_int (nomark _)))
      (fun s1 H1 C1 cl1 fp1 => pe_tup (pa_cons (pv 4) (pa_cons (pe_call (X := (XPl P w K mg base f cdv A outer s H0 E).blk s1 H1 _ (compEnvC _ cl1 C1 (XPl P w K mg base f cdv A outer s H0 E).env) fp1) DD.G (hr.mono (by decide)) (by rfl) DD.g DD.F.kp DD.b .nil pass0 (pa_cons (pv 0) (pa_cons pe_int pa_nil))) pa_nil))), ?_⟩
  intro p cc ns B z1 z2 z3 z5 z6 H D PA hB q
  refine ⟨by show 3 ≤ sizeLine; decide, fun l hl => ⟨l, rfl, ⟨_, SqL.of upd_same⟩, fun D1 hD => ?_⟩⟩
  have hD' : upd H l (.lst (vsS nmC)) D1 = none := hD
  have PA0 := PA.keep (same_new (o := .lst (vsS nmC)) hl)
  have ln : l ≠ p := fun z => by obtain ⟨b, g, hp, _⟩ := PA.pen; rw [← z, hl] at hp; cases hp
  have dn : D1 ≠ p := fun z => by
    obtain ⟨b, g, hp, _⟩ := PA0.pen
    rw [← z] at hp
    have y := hD'.symm.trans hp
    cases y
  have hcD : cc ≠ D1 := fun z => by rw [← z, PA0.cells] at hD'; cases hD'
  have hlD : l ≠ D1 := fun z => by rw [z, upd_same] at hD'; cases hD'
  have hDn : H D1 = none := by
    rw [upd_ne (fun y => hlD y.symm)] at hD'
    exact hD'
  have up : ∀ {H1 : Hp} {o : HO}, Off p H H1 → Off p H (upd H1 D1 o) := fun k b o nb e => by rw [upd_ne (fun y => by rw [y, hDn] at e; cases e)]; exact k b o nb e
  refine lc_list (K := K) (a := l) (xs := vsS nmC) (InvC H p cc ns B l D1)
    ⟨same_new hD _ _ upd_same, (PA0.keep (same_new hD)).more (by omega), up (Off.new hl), [], [], upd_same, by simp [subs], fun _ h => absurd h List.not_mem_nil, rfl, fun i p e => by cases e⟩ (fun i H' _ hp => SqL.of hp.l) (fun i v H' hv hp => ?_) (fun H' hp => ?_)
  · obtain ⟨hl', PA', off, cs, as, ed, sb, rg, L⟩ := hp
    have hi : i < 3 := (List.getElem?_eq_some_iff.mp hv).1
    have hv' : (nmC.map V.str)[i]? = some v := hv
    rw [List.getElem?_map] at hv'
    cases e : nmC[i]? with
    | none => rw [e] at hv'; cases hv'
    | some n =>
      rw [e] at hv'
      injection hv' with hv'
      subst hv'
      refine ⟨rfl, ?_⟩
      refine ⟨_, rfl, p, cc, ns, _, 2, rfl, PA', by omega, by decide, by decide, fun d H2 d0 d1 PA2 o2 => ⟨rfl, _, rfl, ?_⟩⟩
      have hl2 := o2 _ _ ln hl'
      have ed2 := o2 _ _ dn ed
      have L2 := L.off PA' o2
      refine ite2' (fun _ => ?_) (fun _ => ?_)
      · refine ⟨_, rfl, _, rfl, p, cc, ns, _, 4, rfl, PA2, by omega, by decide, by decide, fun v H3 v0 v1 PA3 o3 => ⟨by show 2 ≤ sizeLine; decide, fun q hq => ?_⟩⟩
        have kq := same_new (o := .tup [.str n, .int v]) hq
        have ed3 := kq _ _ (o3 _ _ dn ed2)
        have fw := subs_few sb
        rw [List.length_map, ← L.n] at fw
        have kD : Off D1 (upd H3 q (.tup [.str n, .int v])) (upd (upd H3 q (.tup [.str n, .int v])) D1 (.lst (as.map V.ref ++ [.ref q]))) := fun b o nb e => by rw [upd_ne nb]; exact e
        refine ⟨_, ed3, small1000 (by rw [List.length_map]; omega), kD _ _ hlD (kq _ _ (o3 _ _ ln hl2)), ?_, up (fun b o nb e => kq _ _ (o3 _ _ nb (o2 _ _ nb (off _ _ nb e)))), cs ++ [(n, v)], as ++ [q], ?_, ?_, ?_, ?_⟩
        · obtain ⟨b, g, e1, e2, e3, e4⟩ := (PA3.keep kq).pen
          exact PenAt.more ⟨⟨b, g, kD _ _ (fun y => dn y.symm) e1, e2, e3, e4⟩, kD _ _ (fun y => hcD y) (PA3.keep kq).cells, PA3.few⟩ (by omega)
        · rw [upd_same, List.map_append]
          rfl
        · rw [List.map_append]
          exact subs_more sb e
        · intro c hc
          rcases List.mem_append.mp hc with hc | hc
          · exact rg c hc
          · have y : c = (n, v) := by simpa using hc
            subst y
            exact ⟨v0, v1⟩
        · refine LaidC.snoc (c := (n, v)) ⟨L2.n, fun i r er => ?_⟩ ?_
          · obtain ⟨k, k1, k2⟩ := ((L2.off PA2 o3).keep kq).e i r er
            refine ⟨k, k1, kD _ _ (fun y => ?_) k2⟩
            rw [y, ed3] at k2
            injection k2 with k2
            cases k2
          · refine kD _ _ (fun y => ?_) upd_same
            rw [← y, upd_same] at ed3
            injection ed3 with ed3
            cases ed3
      · exact ⟨hl2, PA2.more (by omega), off.trans o2, cs, as, ed2, subs_keep sb, rg, L2⟩
  · obtain ⟨hl', PA', off, cs, as, ed, sb, rg, L⟩ := hp
    exact q D1 cs as _ H' sb rg ed hDn L (PA'.more (by simp)) off
end
end My
namespace My
open PySem PySem.Spec PyProof.Rows L2
def plBody : List Stmt := match inPl 3 with
  | .For _ _ b _ _ => b
  | _ => []
def plIf : List Stmt := match plBody with
  | [.If _ b _ _] => b
  | _ => []
/-- a pen, and what is new beside it -/
theorem pen_new {H : Hp} {p c q : Addr} {ns : List Int} {B : Int} (P : PenAt H p c ns B) (h : H q = none) : q ≠ p ∧ c ≠ q := by
  obtain ⟨b, g, hp, _⟩ := P.pen
  exact ⟨(fun z => by rw [z, hp] at h; cases h), (fun z => by rw [← z, P.cells] at h; cases h)⟩
theorem PenAt.upd {H : Hp} {p c q : Addr} {ns : List Int} {B : Int} {o : HO} (P : PenAt H p c ns B) (h1 : q ≠ p) (h2 : c ≠ q) : PenAt (upd H q o) p c ns B := by
  obtain ⟨b, g, hp, e⟩ := P.pen
  exact ⟨⟨b, g, by rw [upd_ne (Ne.symm h1)]; exact hp, e⟩, by rw [upd_ne h2]; exact P.cells, P.few⟩
section
variable {P : Program} {w : World} {K : PySem.W.Frag} {mg : Str → Option Value} {base : Heap} {f : Addr} {cdv : Value} {A : Around} {outer : List Env} {s : Shared} {H0 : Hp} {E : XK} {fD fP : Addr} {dD dP : FuncData}
/-- said = .. -/
theorem plS (T : Txt mg) (DD : Fn P w K mg base 1 "_law_draw" sDraw fD dD ["_law_pen_here", "_law_many"] spDraw) (PP : Fn P w K mg base 2 "_law_pick" sPick fP dP ["_law_pen_here", "_law_some"] spPick) (hr : Room 2 (XPl P w K mg base f cdv A outer s H0 E).A) : ∃ t, PS (XPl P w K mg base f cdv A outer s H0 E) (plIf.getD 0 (.Pass ⟨0, 0, 0, 0⟩)) t ∧ ∀ (p cc : Addr) (ns : List Int) (B : Int) (z1 z2 z3 z4 z5 z6 : Option V) (H : Hp) (D : Ends), PenAt H p cc ns B → B + 4 ≤ 1000 →
    (∀ (D1 : Addr) (zs : List Str) (z6 : Option V) H', zs.length ≤ 3 → (∀ z ∈ zs, z ∈ wL) → H' D1 = some (.lst (vsS zs)) → H D1 = none → PenAt H' p cc ns (B + 4) → Off p H H' → D.nx [some (.ref p), z1, z2, z3, z4, some (.ref D1), z6] H') → t D [some (.ref p), z1, z2, z3, z4, z5, z6] H := by
  refine ⟨_, ps_setLc (i := 5) (own := [("_law_turn", 6)]) (g := gName 6) (tt := tYes) rfl scPl.nd rfl rfl (sw_true rfl rfl rfl (by decide +kernel)) (pi_range1 (by rfl) T.range (pa_cons (pe_call DD.G (hr.mono (by decide)) (by rfl) DD.g DD.F.kp DD.b .nil pass0 (pa_cons (pv 0) (pa_cons pe_int pa_nil))) pa_nil)) (blkOk_by (N := nPl) (sc := defScope sPlain) (by decide +kernel)) (fun _ _ _ _ _ => pg_name (i := 6) scPl.nd rfl (Or.inl rfl)) (fun _ _ _ _ _ => pts_nil)
      (fun s1 H1 C1 cl1 fp1 => pe_call (X := (XPl P w K mg base f cdv A outer s H0 E).blk s1 H1 _ (compEnvC _ cl1 C1 (XPl P w K mg base f cdv A outer s H0 E).env) fp1) PP.G hr (by rfl) PP.g PP.F.kp PP.b .nil pass0 (pa_cons (pv 0) (pa_cons (pe_lst (pa_cons pe_str (pa_cons pe_str (pa_cons pe_str (pa_cons pe_str (pa_cons pe_str pa_nil)))))) pa_nil))), ?_⟩
  intro p cc ns B z1 z2 z3 z4 z5 z6 H D PA hB q
  refine ⟨_, rfl, p, cc, ns, B, 4, rfl, PA, by omega, by decide, by decide, fun d H2 d0 d1 PA2 o2 => ⟨d, rfl, by omega, by omega, fun D1 hD => ?_⟩⟩
  obtain ⟨dn, hcD⟩ := pen_new PA2 hD
  have hDn : H D1 = none := by
    cases e : H D1 with
    | none => rfl
    | some o => have := o2 _ _ dn e; rw [hD] at this; cases this
  have up : ∀ {H1 : Hp} {o : HO}, Off p H H1 → Off p H (upd H1 D1 o) := fun k b o nb e => by rw [upd_ne (fun y => by rw [y, hDn] at e; cases e)]; exact k b o nb e
  refine lc_it (walk_range (lo := 0) (n := d.toNat)) (fun i H' => PenAt H' p cc ns (B + 1 + (i : Int)) ∧ Off p H H' ∧ ∃ zs : List Str, zs.length = i ∧ (∀ z ∈ zs, z ∈ wL) ∧ H' D1 = some (.lst (vsS zs)))
    ⟨(PA2.upd dn hcD).more (by omega), up o2, [], rfl, fun _ h => absurd h List.not_mem_nil, upd_same⟩ (fun _ _ _ _ => trivial) (fun i x H3 H4 hi hp hy => ?_) (fun H' hp => ?_)
  · obtain ⟨PA3, off, zs, zl, zm, ed⟩ := hp
    obtain ⟨rfl, rfl⟩ := hy
    have hi4 : i < 4 := by omega
    refine ⟨rfl, _, rfl, by show 5 ≤ sizeLine; decide, fun l hl => ?_⟩
    have k := same_new (o := .lst (vsS wL)) hl
    have nl := (pen_new PA3 hl).1
    refine ⟨p, cc, ns, _, .ref l, vsS wL, rfl, PA3.keep k, by omega, .inl ⟨l, rfl, nl, upd_same⟩, by decide, by decide, fun v H5 hv PA5 off5 => ?_⟩
    obtain ⟨z, hz, rfl⟩ := List.mem_map.mp hv
    have ed5 := off5 _ _ dn (k _ _ ed)
    refine ⟨_, ed5, small1000 (by rw [List.length_map]; omega), (PA5.upd dn hcD).more (by omega), up (off.trans (Off.trans (fun b o _ e => k b o e) off5)), zs ++ [z], by rw [List.length_append, zl]; rfl, fun y hy => ?_, ?_⟩
    · rcases List.mem_append.mp hy with hy | hy
      · exact zm y hy
      · rw [List.mem_singleton.mp hy]
        exact hz
    · rw [upd_same]
      show some (HO.lst (List.map V.str zs ++ [V.str z])) = some (HO.lst (List.map V.str (zs ++ [z])))
      rw [List.map_append]
      rfl
  · obtain ⟨PA3, off, zs, zl, zm, ed⟩ := hp
    exact q D1 zs _ H' (by omega) zm ed hDn (PA3.more (by omega)) off
structure InvG (Hs : Hp) (p cc : Addr) (ns : List Int) (B : Int) (l lp : Addr) (i : Nat) (H' : Hp) : Prop where
  l : H' l = some (.lst (vsS nmL))
  pen : PenAt H' p cc ns (B + 5 * (i : Int))
  off : Off p Hs H'
  laid : ∃ ms bs, H' lp = some (.lst (bs.map V.ref)) ∧ ms.map (·.1) ∈ subs nmL i ∧ (∀ m ∈ ms, m.2.2.length ≤ 3 ∧ ∀ z ∈ m.2.2, z ∈ wL) ∧ LaidL H' ms bs
theorem pl3 (T : Txt mg) (DD : Fn P w K mg base 1 "_law_draw" sDraw fD dD ["_law_pen_here", "_law_many"] spDraw) (PP : Fn P w K mg base 2 "_law_pick" sPick fP dP ["_law_pen_here", "_law_some"] spPick) (hr : Room 2 (XPl P w K mg base f cdv A outer s H0 E).A) : ∃ t, PS (XPl P w K mg base f cdv A outer s H0 E) (inPl 3) t ∧ ∀ (p cc lp : Addr) (ns : List Int) (B : Int) (z1 z2 z4 z5 z6 : Option V) (Hs H : Hp) (D : Ends), PenAt H p cc ns B → B + 10 ≤ 1000 → H lp = some (.lst []) → Hs lp = none → Off p Hs H → lp ≠ p → cc ≠ lp →
    (∀ (ms : List (Str × Addr × List Str)) (bs : List Addr) (z4 z5 z6 : Option V) H', H' lp = some (.lst (bs.map V.ref)) → ms.map (·.1) ∈ subs nmL 2 → (∀ m ∈ ms, m.2.2.length ≤ 3 ∧ ∀ z ∈ m.2.2, z ∈ wL) → LaidL H' ms bs → PenAt H' p cc ns (B + 10) → Off p Hs H' → D.nx [some (.ref p), z1, z2, some (.ref lp), z4, z5, z6] H') → t D [some (.ref p), z1, z2, some (.ref lp), z4, z5, z6] H := by
  obtain ⟨tS, hS, qS⟩ := plS (P := P) (w := w) (K := K) (mg := mg) (base := base) (f := f) (cdv := cdv) (A := A) (outer := outer) (s := s) (H0 := H0) (E := E) T DD PP hr
  refine ⟨_, ps_for PassesOwn.never rfl (pi_list (pe_lst (pa_cons pe_str (pa_cons pe_str pa_nil)))) (pg_name (i := 4) scPl.nd rfl (.inl rfl))
      (pss_one (ps_if (pt_cmpR op_eq (pe_call DD.G (hr.mono (by decide)) (by rfl) DD.g DD.F.kp DD.b .nil pass0 (pa_cons (pv 0) (pa_cons pe_int pa_nil))) pe_int (nomark _))
        (pss_cons hS (pss_one (ps_expr (pe_bm PySem.F.plainAttrs_list PySem.F.slot_list_append PySem.F.type_list_append mt_append (pv 3) (pa_cons (pe_tup (pa_cons (pv 4) (pa_cons (pe_callTy call_tuple_of (by rfl) T.tuple (by decide +kernel) (pa_cons (pv 5) pa_nil)) pa_nil))) pa_nil))))) pss_nil)), ?_⟩
  intro p cc lp ns B z1 z2 z4 z5 z6 Hs H D PA hB hlp hs0 off0 nlp ncl q
  refine ⟨by show 2 ≤ sizeLine; decide, fun l hl => ⟨l, rfl, ⟨_, SqL.of upd_same⟩, ?_⟩⟩
  have kl := same_new (o := .lst (vsS nmL)) hl
  have PA0 := PA.keep kl
  have ln := (pen_new PA hl).1
  have nll : lp ≠ l := ne_of_none hlp hl
  refine for_list (xs := vsS nmL) (fun i σ H' => InvG Hs p cc ns B l lp i H' ∧ ∃ z4 z5 z6, σ = [some (.ref p), z1, z2, some (.ref lp), z4, z5, z6])
    ⟨⟨upd_same, PA0.more (by omega), fun b o nb e => kl _ _ (off0 _ _ nb e), [], [], kl _ _ hlp, by simp [subs], fun _ h => absurd h List.not_mem_nil, rfl, fun i p e => by cases e⟩, z4, z5, z6, rfl⟩ (fun i σ H' _ hp => SqL.of hp.1.l) (fun i v σ H' hv hp => ?_) (fun σ H' hp => ?_)
  · obtain ⟨⟨hl', PA', off, ms, bs, ed, sb, rg, L⟩, z4, z5, z6, rfl⟩ := hp
    have hi : i < 2 := (List.getElem?_eq_some_iff.mp hv).1
    have hv' : (nmL.map V.str)[i]? = some v := hv
    rw [List.getElem?_map] at hv'
    cases e : nmL[i]? with
    | none => rw [e] at hv'; cases hv'
    | some n =>
      rw [e] at hv'
      injection hv' with hv'
      subst hv'
      refine ⟨_, rfl, p, cc, ns, _, 2, rfl, PA', by omega, by decide, by decide, fun d H2 d0 d1 PA2 o2 => ⟨rfl, _, rfl, ?_⟩⟩
      have hl2 := o2 _ _ ln hl'
      have ed2 := o2 _ _ nlp ed
      have L2 := L.off PA' o2
      refine ite2' (fun _ => ?_) (fun _ => ?_)
      · refine qS p cc ns _ z1 z2 _ _ z5 z6 H2 _ PA2 (by omega) fun D1 zs z6' H3 zl zm eD hDn PA3 o3 => ?_
        have ed3 := o3 _ _ nlp ed2
        have hl3 := o3 _ _ ln hl2
        have L3 := L2.off PA2 o3
        refine ⟨_, rfl, .inl ⟨rfl, _, SqL.of ed3⟩, _, rfl, _, rfl, D1, _, rfl, .inl ⟨SqL.of eD, fun u hu => ⟨by show 2 ≤ sizeLine; decide, fun q' hq => ?_⟩⟩⟩
        have ku := same_new (o := .tup (vsS zs)) hu
        have kq := ku.trans (same_new (o := .tup [.str n, .ref u]) hq)
        have ed4 := kq _ _ ed3
        have fw := subs_few sb
        rw [List.length_map, ← L.n] at fw
        refine ⟨lp, _, .ref q', rfl, rfl, ed4, small1000 (by rw [List.length_map]; omega), ?_⟩
        obtain ⟨H5, e5⟩ : ∃ H5 : Hp, upd (upd H3 u (.tup (vsS zs))) q' (.tup [.str n, .ref u]) = H5 := ⟨_, rfl⟩
        have u5 : H5 u = some (.tup (vsS zs)) := by rw [← e5]; exact same_new hq _ _ upd_same
        have q5 : H5 q' = some (.tup [.str n, .ref u]) := by rw [← e5]; exact upd_same
        have k5 : Same' H3 H5 := by rw [← e5]; exact kq
        have PA5 := PA3.keep k5
        have ed5 := k5 _ _ ed3
        have e5' : upd (upd H3 u (.tup (List.map V.str zs))) q' (.tup [.str n, .ref u]) = H5 := e5
        have kD : Off lp H5 (upd H5 lp (.lst (bs.map V.ref ++ [.ref q']))) := fun b o nb e => by rw [upd_ne nb]; exact e
        have nt : ∀ {b : Addr} {xs : List V}, H5 b = some (.tup xs) → b ≠ lp := fun eb y => by
          rw [y, ed5] at eb
          injection eb with eb
          cases eb
        show InvG Hs p cc ns B l lp (i + 1) (upd (upd (upd H3 u (.tup (vsS zs))) q' (.tup [.str n, .ref u])) lp (.lst (bs.map V.ref ++ [.ref q']))) ∧ _
        rw [e5]
        refine ⟨⟨kD _ _ (Ne.symm nll) (k5 _ _ hl3), ?_, fun b o nb e => ?_, ms ++ [(n, u, zs)], bs ++ [q'], ?_, ?_, ?_, ?_⟩, _, _, _, rfl⟩
        · exact (PA5.upd nlp ncl).more (by omega)
        · rw [upd_ne (fun y => by rw [y, hs0] at e; cases e)]
          exact k5 _ _ (o3 _ _ nb (o2 _ _ nb (off _ _ nb e)))
        · rw [upd_same, List.map_append]
          rfl
        · rw [List.map_append]
          exact subs_more sb e
        · intro c hc
          rcases List.mem_append.mp hc with hc | hc
          · exact rg c hc
          · have y : c = (n, u, zs) := by simpa using hc
            subst y
            exact ⟨zl, zm⟩
        · refine LaidL.snoc (c := (n, u, zs)) ⟨L3.n, fun i r er => ?_⟩ (kD _ _ (nt q5) q5) (kD _ _ (nt u5) u5)
          obtain ⟨c, c1, c2, c3⟩ := (L3.keep k5).e i r er
          exact ⟨c, c1, kD _ _ (nt c2) c2, kD _ _ (nt c3) c3⟩
      · exact ⟨⟨hl2, PA2.more (by omega), off.trans o2, ms, bs, ed2, subs_keep sb, rg, L2⟩, _, _, _, rfl⟩
  · obtain ⟨⟨hl', PA', off, ms, bs, ed, sb, rg, L⟩, z4, z5, z6, rfl⟩ := hp
    exact q ms bs z4 z5 z6 H' ed sb rg L (PA'.more (by simp)) off
end
def spPlain : Sp := fun vs H Q _ => ∃ (p cc : Addr) (ns : List Int) (B : Int), vs = [.ref p] ∧ PenAt H p cc ns B ∧ B + 17 ≤ 1000 ∧ ∀ (t : Addr) (e : EndD) (cp lp : Addr) (H' : Hp), Drawn e → PlainAt H' t e cp lp → H cp = none → H lp = none → PenAt H' p cc ns (B + 17) → Off p H H' → Q (.ref t) H'
section
variable {P : Program} {w : World} {K : PySem.W.Frag} {mg : Str → Option Value} {base : Heap} {fD fP : Addr} {dD dP : FuncData}
theorem ok_plain {f : Addr} {fd : FuncData} (F : Fun K "_law_plain" "_law_plain" sPlain f fd) (T : Txt mg) (DD : Fn P w K mg base 1 "_law_draw" sDraw fD dD ["_law_pen_here", "_law_many"] spDraw) (PP : Fn P w K mg base 2 "_law_pick" sPick fP dP ["_law_pen_here", "_law_some"] spPick) : FnOk P w K mg base CX0 3 f fd ["_law_pen_here"] spPlain := by
  refine F.ok scPl (fun vs H Q E h => ?_) (fun cdv A outer s H vs Q E hr h => ?_)
  · obtain ⟨p, cc, ns, B, rfl, _⟩ := h
    rfl
  · obtain ⟨p, cc, ns, B, rfl, PA, hB, q⟩ := h
    obtain ⟨t0, h0, q0⟩ := pl0 (P := P) (w := w) (K := K) (mg := mg) (base := base) (f := f) (cdv := cdv) (A := A) (outer := outer) (s := s) (H0 := H) (E := E) PP hr
    obtain ⟨t1, h1, q1⟩ := pl1 (P := P) (w := w) (K := K) (mg := mg) (base := base) (f := f) (cdv := cdv) (A := A) (outer := outer) (s := s) (H0 := H) (E := E) DD hr
    obtain ⟨t3, h3, q3⟩ := pl3 (P := P) (w := w) (K := K) (mg := mg) (base := base) (f := f) (cdv := cdv) (A := A) (outer := outer) (s := s) (H0 := H) (E := E) T DD PP hr
    refine ⟨_, pss_cons h0 (pss_cons h1 (pss_cons (ps_set (i := 3) scPl.nd rfl (.inl rfl) (pe_lst pa_nil)) (pss_cons h3 (pss_one (ps_ret (pe_tup (pa_cons (pv 1) (pa_cons (pv 2) (pa_cons (pv 3) pa_nil))))))))), ?_⟩
    refine q0 p cc ns B _ _ _ _ _ _ H _ PA (by omega) fun fl H1 hf PA1 o1 => ?_
    refine q1 p cc ns (B + 1) _ _ _ _ _ H1 _ PA1 (by omega) fun D1 cs as z4 H2 sb rg ed hD1 L PA2 o2 => ?_
    refine ⟨Nat.zero_le _, fun lp hlp => ?_⟩
    have kl := same_new (o := .lst []) hlp
    obtain ⟨nlp, ncl⟩ := pen_new PA2 hlp
    refine q3 p cc lp ns (B + 7) _ _ _ _ _ H2 _ _ ((PA2.keep kl).more (by omega)) (by omega) upd_same hlp (fun b o _ e => kl _ _ e) nlp ncl fun ms bs z4 z5 z6 H3 eb sm rm LL PA3 o3 => ?_
    have dD1 := pen_refs PA2 ed
    refine ⟨_, rfl, _, rfl, _, rfl, by show 3 ≤ sizeLine; decide, fun t ht => ?_⟩
    have kt := same_new (o := .tup [fV fl, .ref D1, .ref lp]) ht
    have fD1 : H D1 = none := by
      cases e : H D1 with
      | none => rfl
      | some o => have := o1 _ _ dD1 e; rw [hD1] at this; cases this
    have flp : H lp = none := by
      cases e : H lp with
      | none => rfl
      | some o => have := o2 _ _ nlp (o1 _ _ nlp e); rw [hlp] at this; cases this
    refine q t ⟨fl, cs, ms.map stripL⟩ D1 lp _ ⟨hf, sb, rg, ?_, fun l hl => ?_⟩ ⟨as, bs, ms, upd_same, kt _ _ (o3 _ _ dD1 ed), (L.off PA2 o3).keep kt, kt _ _ eb, LL.keep kt, rfl⟩ fD1 flp ((PA3.keep kt).more (by omega)) (fun b o nb e => kt _ _ (o3 _ _ nb (o2 _ _ nb (o1 _ _ nb e))))
    · show (ms.map stripL).map (·.1) ∈ _
      rw [List.map_map]
      exact sm
    · obtain ⟨m, hm, rfl⟩ := List.mem_map.mp hl
      exact rm m hm
end
end My
/-! the law's own text of an end -/
namespace My
open PySem PySem.Spec PyProof.Rows L2
def cS (p : Str × Int) : Str := (p.1 ++ (" " : Str)) ++ ((toString p.2 : String) : Str)
def lS (p : Str × Addr × List Str) : Str := (p.1 ++ (" " : Str)) ++ logT p.2.2
def hdS : Option Str → Str
  | none => "done"
  | some n => "failed " ++ n
theorem parts_is {e : EndD} {ms : List (Str × Addr × List Str)} (em : ms.map stripL = e.ls) : (hdS e.f :: e.cs.map cS) ++ ms.map lS = partsE e := by
  unfold partsE
  have h : hdS e.f = headE e.f := by
    cases e.f with
    | none => rfl
    | some n =>
      show ("failed " : Str) ++ n = (Str.empty ++ ("failed " : Str)) ++ n
      rw [empty_cat]
  have c : e.cs.map cS = e.cs.map cT := List.map_congr_left fun p _ => by
    show (p.1 ++ (" " : Str)) ++ _ = ((Str.empty ++ p.1) ++ (" " : Str)) ++ _
    rw [empty_cat]
  have l : ms.map lS = e.ls.map lT2 := by
    rw [← em, List.map_map]
    refine List.map_congr_left fun p _ => ?_
    show (p.1 ++ (" " : Str)) ++ _ = ((Str.empty ++ p.1) ++ (" " : Str)) ++ _
    rw [empty_cat]
  rw [h, c, l]
  rfl
def spLine : Sp := fun vs H Q _ => ∃ (q : Addr) (e : EndD) (cp lp : Addr), vs = [.ref q] ∧ PlainAt H q e cp lp ∧ GoodE e ∧ ∀ H', Same' H H' → Q (.str (textE e)) H'
abbrev rJoin (K : PySem.W.Frag) : V → List V → Hp → VK → Prop := fun x xs H Q => ∃ a p, ∃ ys : List Str, x = .str a ∧ xs = [.ref p] ∧ (SqL K H p (ys.map V.str) ∨ SqT K H p (ys.map V.str)) ∧ (ys.map (·.length)).sum + ys.length * a.length ≤ 16777216 ∧ Q (.str (Txt.join a ys)) H
theorem lst_if {c : TT} {ta tb : TE} {σ : L2.St} {H : Hp} {R : VK} {b : Bool} {x : V} (hc : ∀ K : Bool → Hp → Prop, K b H → c σ H K) (ht : b = true → ∀ K : VK, K x H → ta σ H K) (hf : b = false → ∀ K : VK, K x H → tb σ H K) (q : ∀ p, H p = none → R (.ref p) (upd H p (.lst [x]))) : tLst (tCons (tIf c ta tb) tNil) σ H R := by
  refine hc _ ?_
  cases b with
  | true => exact iteT (ht rfl _ ⟨by show 1 ≤ sizeLine; decide, q⟩)
  | false => exact iteF (hf rfl _ ⟨by show 1 ≤ sizeLine; decide, q⟩)
section
variable {P : Program} {w : World} {K : PySem.W.Frag} {mg : Str → Option Value} {base : Heap} {f : Addr} {cdv : Value} {A : Around} {outer : List Env} {s : Shared} {H0 : Hp} {E : XK}
abbrev nLi : List Str := ["_law_plain_here", "_law_gone", "_law_cells_so", "_law_logs_so", "_law_parts", "_law_title", "_law_many", "_law_said"]
theorem scLi : FnScope nLi ["_law_plain_here"] (defScope sLine) := ⟨rfl, rfl, rfl, by decide +kernel, rfl, by decide +kernel, by decide +kernel⟩
def inLi (i : Nat) : Stmt := (defBody sLine).getD i (.Pass ⟨0, 0, 0, 0⟩)
abbrev XLi (P : Program) (w : World) (K : PySem.W.Frag) (mg : Str → Option Value) (base : Heap) (f : Addr) (cdv : Value) (A : Around) (outer : List Env) (s : Shared) (H : Hp) (E : XK) : Cx := (cxOf CX0 P w K mg base nLi "_law_line" (defScope sLine) f cdv A outer s H E).nox
theorem li1 (T : Txt mg) : ∃ t, PS (XLi P w K mg base f cdv A outer s H0 E) (inLi 1) t ∧ ∀ (cp : Addr) (e : EndD) (as : List Addr) (z0 z3 z4 z5 z6 z7 : Option V) (H : Hp) (D : Ends), GoodE e → H cp = some (.lst (as.map V.ref)) → LaidC H e.cs as →
    (∀ p H', Same' H H' → H' p = some (.lst (vsS (hdS e.f :: e.cs.map cS))) → D.nx [z0, some (fV e.f), some (.ref cp), z3, some (.ref p), z5, z6, z7] H') → t D [z0, some (fV e.f), some (.ref cp), z3, z4, z5, z6, z7] H := by
  refine ⟨_, ps_set (i := 4) scLi.nd rfl (.inl rfl) (pe_op op_cat (pe_lst (pa_cons (pe_ifExp (pt_cmp (pc_isN (pv 1))) pe_str (pe_op op_add_str pe_str (pv 1))) pa_nil)) (pe_lc (own := [("_law_title", 5), ("_law_many", 6)]) (g := gTup K 2 (gCons (gName 5) (gCons (gName 6) gNil))) (tt := tYes) rfl scLi.nd (pi_list (pv 2)) (blkOk_by (N := nLi) (sc := defScope sLine) (by decide +kernel))
      (fun _ _ _ _ _ => show PG _ _ (gTup K 2 _) from pg_tup (n := 2) rfl (pgs_cons (pg_name (i := 5) scLi.nd rfl (.inl rfl)) (pgs_cons (pg_name (i := 6) scLi.nd rfl (.inl rfl)) pgs_nil))) (fun _ _ _ _ _ => pts_nil)
      (fun _ _ _ _ _ => pe_op op_add_str (pe_op op_add_str (pv 5) pe_str) (pe_callTy call_str_int (by rfl) T.str (by decide +kernel) (pa_cons (pv 6) pa_nil))))), ?_⟩
  intro cp e as z0 z3 z4 z5 z6 z7 H D G hcp L q
  have fw := G.cf
  dsimp only [tAsg, tOp]
  refine lst_if (b := e.f.isNone) (x := .str (hdS e.f)) (fun R r => ⟨_, rfl, _, rfl, ?_⟩) (fun hb R r => ?_) (fun hb R r => ?_) fun pa hpa => ?_
  · cases hf : e.f with
    | none => rw [hf] at r; exact r
    | some n => rw [hf] at r; exact r
  · cases hf : e.f with
    | none => rw [hf] at r; exact r
    | some n => rw [hf] at hb; cases hb
  · cases hf : e.f with
    | none => rw [hf] at hb; cases hb
    | some n =>
      rw [hf] at r
      have l8 := (wd_ok (nm_wd (G.f n hf))).2.2.1
      have s7 : ("failed " : Str).length = 7 := by decide +kernel
      exact ⟨_, rfl, _, n, rfl, rfl, by rw [s7]; exact le_big (by omega), r⟩
  have ka := same_new (o := .lst [V.str (hdS e.f)]) hpa
  have hcp1 := ka _ _ hcp
  refine ⟨_, rfl, cp, rfl, ⟨_, SqL.of hcp1⟩, fun D1 hD => ?_⟩
  have L1 := L.keep ka
  refine lc_list (K := K) (a := cp) (xs := as.map V.ref) (fun i H' => Same' (upd H pa (.lst [.str (hdS e.f)])) H' ∧ H' D1 = some (.lst (vsS ((e.cs.take i).map cS)))) ⟨same_new hD, upd_same⟩ (fun i H' _ hp => SqL.of (hp.1 _ _ hcp1)) (fun i v H' hv hp => ?_) (fun H1 hp => ?_)
  · obtain ⟨sm, ed⟩ := hp
    rw [List.getElem?_map] at hv
    cases ea : as[i]? with
    | none => rw [ea] at hv; cases hv
    | some p =>
      rw [ea] at hv
      injection hv with hv
      subst hv
      obtain ⟨c, hc, hp⟩ := (L1.keep sm).e i p ea
      obtain ⟨a1, a2, a3⟩ := G.cv c (List.mem_of_getElem? hc)
      have l8 := (wd_ok (nm_wd a1)).2.2.1
      obtain ⟨x1, _, x2⟩ := int_fig a2 a3
      refine ⟨p, _, rfl, SqT.of hp, rfl, _, _, rfl, _, _, rfl, rfl, rfl, ?_⟩
      refine ⟨_, rfl, _, _, rfl, rfl, by rw [one_space]; exact le_big (by omega), _, rfl, c.2, rfl, x2, _, _, rfl, rfl, by rw [len_app, one_space, x1]; exact le_big (by omega), _, ed, small1000 ?_, same_over hD sm, ?_⟩
      · rw [List.length_map, List.length_map, List.length_take]
        omega
      · rw [upd_same]
        show some (HO.lst (((e.cs.take i).map cS).map V.str ++ [V.str (cS c)])) = _
        rw [← take_next cS hc]
        show _ = some (HO.lst (List.map V.str ((e.cs.take i).map cS ++ [cS c])))
        rw [List.map_append]
        rfl
  · obtain ⟨sm, ed⟩ := hp
    rw [List.length_map, L.n, List.take_length] at ed
    have ks := ka.trans sm
    refine ⟨pa, D1, _, _, rfl, rfl, sm _ _ upd_same, ed, Nat.le_of_lt (small1000 ?_), fun p hp => q p _ (ks.trans (same_new hp)) ?_⟩
    · simp
      omega
    · rw [upd_same]
      rfl
theorem li2 : ∃ t, PS (XLi P w K mg base f cdv A outer s H0 E) (inLi 2) t ∧ ∀ (pa lp : Addr) (hs : List Str) (ms : List (Str × Addr × List Str)) (bs : List Addr) (z0 z1 z2 z5 z6 z7 : Option V) (H : Hp) (D : Ends), H pa = some (.lst (vsS hs)) → hs.length ≤ 100 → ms.length ≤ 60 → H lp = some (.lst (bs.map V.ref)) → LaidL H ms bs → (∀ m ∈ ms, m.1.length ≤ 8 ∧ m.2.2.length ≤ 200 ∧ ∀ z ∈ m.2.2, wd z = true) → FewT (hs ++ ms.map lS) →
    (∀ H', Same' H H' → D.rt (.str (Txt.join " ; " (hs ++ ms.map lS))) H') → t D [z0, z1, z2, some (.ref lp), some (.ref pa), z5, z6, z7] H := by
  refine ⟨_, ps_ret (pe_join pe_str (pe_op op_cat (pv 4) (pe_lc (own := [("_law_title", 5), ("_law_said", 7)]) (g := gTup K 2 (gCons (gName 5) (gCons (gName 7) gNil))) (tt := tYes) rfl scLi.nd (pi_list (pv 3)) (blkOk_by (N := nLi) (sc := defScope sLine) (by decide +kernel))
      (fun _ _ _ _ _ => show PG _ _ (gTup K 2 _) from pg_tup (n := 2) rfl (pgs_cons (pg_name (i := 5) scLi.nd rfl (.inl rfl)) (pgs_cons (pg_name (i := 7) scLi.nd rfl (.inl rfl)) pgs_nil))) (fun _ _ _ _ _ => pts_nil)
      (fun _ _ _ _ _ => pe_op op_add_str (pe_op op_add_str (pv 5) pe_str) (show PE _ _ (tOrT K (tM1 (rJoin K) (tC (.str " ")) (tVar 7)) (tC (.str "-"))) from pe_orT (pe_join pe_str (pv 7)) (pe_one pe_str)))))), ?_⟩
  intro pa lp hs ms bs z0 z1 z2 z5 z6 z7 H D hpa hh hm hlp L ok few q
  refine ⟨⟨_, rfl⟩, _, rfl, _, rfl, lp, rfl, ⟨_, SqL.of hlp⟩, fun D1 hD => ?_⟩
  refine lc_list (K := K) (a := lp) (xs := bs.map V.ref) (fun i H' => Same' H H' ∧ H' D1 = some (.lst (vsS ((ms.take i).map lS)))) ⟨same_new hD, upd_same⟩ (fun i H' _ hp => SqL.of (hp.1 _ _ hlp)) (fun i v H' hv hp => ?_) (fun H1 hp => ?_)
  · obtain ⟨sm, ed⟩ := hp
    rw [List.getElem?_map] at hv
    cases eb : bs[i]? with
    | none => rw [eb] at hv; cases hv
    | some p =>
      rw [eb] at hv
      injection hv with hv
      subst hv
      obtain ⟨c, hc, hp, ht⟩ := (L.keep sm).e i p eb
      obtain ⟨a1, a2, a3⟩ := ok c (List.mem_of_getElem? hc)
      obtain ⟨x1, x2, x3⟩ := log_few a3 a2
      refine ⟨p, _, rfl, SqT.of hp, rfl, _, _, rfl, _, _, rfl, rfl, rfl, ?_⟩
      refine ⟨_, rfl, _, _, rfl, rfl, by rw [one_space]; exact le_big (by omega), ⟨_, rfl⟩, _, rfl, _, c.2.1, c.2.2, rfl, rfl, .inr (SqT.of ht), Nat.le_trans x1 (by decide), _, ⟨le_big (Nat.le_trans x2 (by decide)), rfl⟩, ?_⟩
      have fin : ∃ i_1 j, V.str (c.1 ++ " ") = .str i_1 ∧ V.str (logT c.2.2) = .str j ∧ i_1.length + j.length ≤ sizeLine ∧ ∃ acc, H' D1 = some (.lst acc) ∧ acc.length < sizeLine ∧ (Same' H (upd H' D1 (.lst (acc ++ [.str (i_1 ++ j)]))) ∧ upd H' D1 (.lst (acc ++ [.str (i_1 ++ j)])) D1 = some (.lst (vsS ((ms.take (i + 1)).map lS)))) := by
        refine ⟨_, _, rfl, rfl, by rw [len_app, one_space]; exact le_big (by omega), _, ed, small1000 ?_, same_over hD sm, ?_⟩
        · rw [List.length_map, List.length_map, List.length_take]
          omega
        · rw [upd_same]
          show some (HO.lst (((ms.take i).map lS).map V.str ++ [V.str (lS c)])) = _
          rw [← take_next lS hc]
          show _ = some (HO.lst (List.map V.str ((ms.take i).map lS ++ [lS c])))
          rw [List.map_append]
          rfl
      unfold logT at fin
      by_cases e : (((Txt.join " " c.2.2).length : Int) != 0) = true
      · rw [if_pos e] at fin ⊢
        exact fin
      · rw [if_neg e] at fin ⊢
        exact fin
  · obtain ⟨sm, ed⟩ := hp
    rw [List.length_map, L.n, List.take_length] at ed
    refine ⟨pa, D1, _, _, rfl, rfl, sm _ _ hpa, ed, Nat.le_of_lt (small1000 ?_), fun p hp => ?_⟩
    · simp
      omega
    · refine ⟨_, p, hs ++ ms.map lS, rfl, rfl, .inl (SqL.of ?_), few, q _ (sm.trans (same_new hp))⟩
      rw [upd_same, List.map_append]
theorem ok_line {fd : FuncData} (F : Fun K "_law_line" "_law_line" sLine f fd) (T : Txt mg) : FnOk P w K mg base CX0 1 f fd ["_law_plain_here"] spLine := by
  refine F.ok scLi (fun vs H Q E h => ?_) (fun cdv A outer s H vs Q E hr h => ?_)
  · obtain ⟨q, e, cp, lp, rfl, _⟩ := h
    rfl
  · obtain ⟨a, e, cp, lp, rfl, PL, G, q⟩ := h
    obtain ⟨t1, h1, q1⟩ := li1 (P := P) (w := w) (K := K) (mg := mg) (base := base) (f := f) (cdv := cdv) (A := A) (outer := outer) (s := s) (H0 := H) (E := E) T
    obtain ⟨t2, h2, q2⟩ := li2 (P := P) (w := w) (K := K) (mg := mg) (base := base) (f := f) (cdv := cdv) (A := A) (outer := outer) (s := s) (H0 := H) (E := E)
    refine ⟨_, pss_cons (ps_asg (pv 0) (pg_tup (n := 3) rfl (pgs_cons (pg_name (i := 1) scLi.nd rfl (.inl rfl)) (pgs_cons (pg_name (i := 2) scLi.nd rfl (.inl rfl)) (pgs_cons (pg_name (i := 3) scLi.nd rfl (.inl rfl)) pgs_nil))))) (pss_cons h1 (pss_one h2)), ?_⟩
    obtain ⟨as, bs, ms, e1, e2, L1, e4, L2', em⟩ := PL.ex
    refine ⟨_, rfl, a, _, rfl, SqT.of e1, rfl, _, _, rfl, _, _, rfl, _, _, rfl, rfl, ?_⟩
    refine q1 cp e as _ _ _ _ _ _ H _ G e2 L1 fun p H1 s1 ep => ?_
    have lm : ms.length = e.ls.length := by
      have := congrArg List.length em
      rwa [List.length_map] at this
    have fw := G.cf
    have fl := G.lf
    have mem : ∀ m ∈ ms, stripL m ∈ e.ls := fun m hm => em ▸ List.mem_map.mpr ⟨m, hm, rfl⟩
    refine q2 p lp (hdS e.f :: e.cs.map cS) ms bs _ _ _ _ _ _ H1 _ ep (by simp; omega) (by omega) (s1 _ _ e4) (L2'.keep s1) (fun m hm => ?_) ?_ fun H2 s2 => ?_
    · obtain ⟨g1, g2⟩ := G.lv _ (mem m hm)
      exact ⟨(wd_ok (nm_wd g1)).2.2.1, G.wf _ (mem m hm), g2⟩
    · rw [parts_is em]
      exact fewE G
    · rw [parts_is em]
      exact q H2 (s1.trans s2)
end
end My
/-! words with something otherwise -/
namespace My
open PySem PySem.Spec PyProof.Rows L2
def LE (t : TE) (σ : L2.St) (H : Hp) (zs : List Str) : Prop := ∀ Q : VK, (∀ (p : Addr) (H' : Hp), Same' H H' → H' p = some (.lst (vsS zs)) → Q (.ref p) H') → t σ H Q
theorem LE.var {i : Nat} {σ : L2.St} {H : Hp} {p : Addr} {zs : List Str} (e : σ[i]? = some (some (.ref p))) (h : H p = some (.lst (vsS zs))) : LE (tVar i) σ H zs := fun Q q => ⟨_, e, q p H (fun _ _ e => e) h⟩
theorem LE.cat {A B : TE} {σ : L2.St} {H : Hp} {xs ys : List Str} (ha : LE A σ H xs) (hb : ∀ H', Same' H H' → LE B σ H' ys) (n : xs.length + ys.length ≤ 100000) : LE (tOp rCat A B) σ H (xs ++ ys) := fun Q q => ha _ fun p H1 s1 e1 => hb H1 s1 _ fun r H2 s2 e2 =>
  ⟨p, r, _, _, rfl, rfl, s2 _ _ e1, e2, by rw [List.length_map, List.length_map]; exact le_big n, fun u hu => q u _ ((s1.trans s2).trans (same_new hu)) (by rw [upd_same]; show some (HO.lst (List.map V.str xs ++ List.map V.str ys)) = some (HO.lst (List.map V.str (xs ++ ys))); rw [List.map_append])⟩
theorem LE.one {i : Nat} {σ : L2.St} {H : Hp} {z : Str} (e : σ[i]? = some (some (.str z))) : LE (tLst (tCons (tVar i) tNil)) σ H [z] := fun Q q => ⟨_, e, by show 1 ≤ sizeLine; decide, fun u hu => q u _ (same_new hu) upd_same⟩
theorem LE.sl {K : PySem.W.Frag} {te : TE} {tl th : TO} {σ : L2.St} {H : Hp} {xs zs : List Str} {lo hi : Option Int} (he : LE te σ H xs) (hl : ∀ H' (R : Option Int → Hp → Prop), R lo H' → tl σ H' R) (hh : ∀ H' (R : Option Int → Hp → Prop), R hi H' → th σ H' R) (c : cutV (vsS xs) lo hi = vsS zs) : LE (tSl (rSlL K) te tl th) σ H zs :=
  fun Q q => he _ fun p H1 s1 e1 => hl H1 _ (hh H1 _ ⟨p, _, rfl, SqL.of e1, fun u hu => q u _ (s1.trans (same_new hu)) (by rw [c]; exact upd_same)⟩)
theorem LE.rev {K : PySem.W.Frag} {te : TE} {σ : L2.St} {H : Hp} {xs : List Str} (he : LE te σ H xs) : LE (tRevL K te) σ H xs.reverse := fun Q q => he _ fun p H1 s1 e1 => ⟨p, _, rfl, SqL.of e1, fun u hu => q u _ (s1.trans (same_new hu)) (by rw [upd_same]; show some (HO.lst (List.map V.str xs).reverse) = some (HO.lst (List.map V.str xs.reverse)); rw [List.map_reverse])⟩
theorem cut_to {ws : List Str} {s : Nat} : cutV (vsS ws) none (some (s : Int)) = vsS (ws.take s) := by
  unfold cutV
  rw [HT.sIx_nat, show HT.sIx (vsS ws).length 0 none = 0 from rfl, List.drop_zero, Nat.sub_zero]
  show (List.map V.str ws).take (min s (List.map V.str ws).length) = List.map V.str (ws.take s)
  rw [← List.map_take, List.length_map]
  congr 1
  rcases Nat.le_total s ws.length with h | h
  · rw [Nat.min_eq_left h]
  · rw [Nat.min_eq_right h, List.take_length, List.take_of_length_le h]
theorem cut_from {ws : List Str} {s : Nat} : cutV (vsS ws) (some (s : Int)) none = vsS (ws.drop s) := by
  unfold cutV
  rw [HT.sIx_nat, show HT.sIx (vsS ws).length (vsS ws).length none = (vsS ws).length from rfl]
  show ((List.map V.str ws).drop (min s (List.map V.str ws).length)).take ((List.map V.str ws).length - min s (List.map V.str ws).length) = List.map V.str (ws.drop s)
  rw [← List.map_drop, ← List.map_take, List.length_map]
  congr 1
  rcases Nat.le_total s ws.length with h | h
  · rw [Nat.min_eq_left h, List.take_of_length_le (by rw [List.length_drop]; omega)]
  · rw [Nat.min_eq_right h, List.drop_length, List.drop_of_length_le h]
    simp
theorem cut_mid {ws : List Str} {s k : Nat} : cutV (vsS ws) (some (s : Int)) (some ((s + k : Nat) : Int)) = vsS ((ws.drop s).take k) := by
  unfold cutV
  rw [HT.sIx_nat, HT.sIx_nat]
  show ((List.map V.str ws).drop (min s (List.map V.str ws).length)).take (min (s + k) (List.map V.str ws).length - min s (List.map V.str ws).length) = List.map V.str ((ws.drop s).take k)
  rw [← List.map_drop, ← List.map_take, List.length_map]
  congr 1
  rcases Nat.le_total s ws.length with h | h
  · rw [Nat.min_eq_left h]
    rcases Nat.le_total (s + k) ws.length with h2 | h2
    · rw [Nat.min_eq_left h2, Nat.add_sub_cancel_left]
    · rw [Nat.min_eq_right h2, List.take_of_length_le (by rw [List.length_drop]; omega), List.take_of_length_le (by rw [List.length_drop]; omega)]
  · rw [Nat.min_eq_right h, List.drop_length, List.drop_of_length_le h]
    simp
abbrev odds : List Str := ["", ";", "/", "-", "done", "failed", "f", "a", "x", "y", "b", "l", "0", "3", "4", "01", "put", "X", "abcdefghi", "a;"]
structure Bent (ws ws' : List Str) : Prop where
  few : ws'.length ≤ ws.length + 1
  mem : ∀ z ∈ ws', z ∈ ws ∨ z ∈ odds
def spBent : Sp := fun vs H Q _ => ∃ (p cc wl : Addr) (ns : List Int) (B : Int) (ws : List Str), vs = [.ref p, .ref wl] ∧ PenAt H p cc ns B ∧ B + 3 ≤ 1000 ∧ H wl = some (.lst (vsS ws)) ∧ ws.length ≤ 900 ∧
  ∀ (r : Addr) (ws' : List Str) (H' : Hp), Bent ws ws' → H' r = some (.lst (vsS ws')) → PenAt H' p cc ns (B + 3) → Off p H H' → Q (.ref r) H'
section
variable {P : Program} {w : World} {K : PySem.W.Frag} {mg : Str → Option Value} {base : Heap} {fD fP : Addr} {dD dP : FuncData}
abbrev nBe : List Str := ["_law_pen_here", "_law_words", "_law_some", "_law_way", "_law_spot", "_law_odd"]
theorem scBe : FnScope nBe ["_law_pen_here", "_law_words"] (defScope sBent) := ⟨rfl, rfl, rfl, by decide +kernel, rfl, by decide +kernel, by decide +kernel⟩
theorem ok_bent {f : Addr} {fd : FuncData} (F : Fun K "_law_bent" "_law_bent" sBent f fd) (T : Txt mg) (DD : Fn P w K mg base 1 "_law_draw" sDraw fD dD ["_law_pen_here", "_law_many"] spDraw) (PP : Fn P w K mg base 2 "_law_pick" sPick fP dP ["_law_pen_here", "_law_some"] spPick) : FnOk P w K mg base CX0 3 f fd ["_law_pen_here", "_law_words"] spBent := by
  refine F.ok scBe (fun vs H Q E h => ?_) (fun cdv A outer s H vs Q E hr h => ?_)
  · obtain ⟨p, cc, wl, ns, B, ws, rfl, _⟩ := h
    rfl
  · obtain ⟨p, cc, wl, ns, B, ws, rfl, PA, hB, hw, few, q⟩ := h
    refine ⟨_, pss_cons (ps_set (i := 2) scBe.nd rfl (.inl rfl) (pe_lst (pa_cons pe_str (pa_cons pe_str (pa_cons pe_str (pa_cons pe_str (pa_cons pe_str (pa_cons pe_str (pa_cons pe_str (pa_cons pe_str (pa_cons pe_str (pa_cons pe_str (pa_cons pe_str (pa_cons pe_str (pa_cons pe_str (pa_cons pe_str (pa_cons pe_str (pa_cons pe_str (pa_cons pe_str (pa_cons pe_str (pa_cons pe_str (pa_cons pe_str pa_nil))))))))))))))))))))))
      (pss_cons (ps_par3 (i := 3) (j := 4) (l := 5) rfl scBe.nd rfl rfl rfl (by decide) (by decide) (by decide) rfl rfl rfl (pa_cons (pe_call DD.G (hr.mono (by decide)) (by rfl) DD.g DD.F.kp DD.b .nil pass0 (pa_cons (pv 0) (pa_cons pe_int pa_nil)))
          (pa_cons (pe_call DD.G (hr.mono (by decide)) (by rfl) DD.g DD.F.kp DD.b .nil pass0 (pa_cons (pv 0) (pa_cons (pe_op op_add (pe_callB call_len_seq (by rfl) T.len PySem.boot_len (pa_cons (pv 1) pa_nil)) pe_int) pa_nil)))
          (pa_cons (pe_call PP.G hr (by rfl) PP.g PP.F.kp PP.b .nil pass0 (pa_cons (pv 0) (pa_cons (pv 2) pa_nil))) pa_nil))) (by rfl))
      (pss_cons (ps_if (pt_cmpR op_lt (pv 3) pe_int (nomark _)) (pss_one (ps_ret (pe_op op_cat (pe_op op_cat (pe_slice sl_list (pv 1) po_none (po_some (pv 4))) (pe_lst (pa_cons (pv 5) pa_nil))) (pe_slice sl_list (pv 1) (po_some (pe_op op_add (pv 4) (pe_callTy call_int1 (by rfl) T.int (by decide +kernel) (pa_cons (pe_cmpR op_gt (pv 3) pe_int (nomark _)) pa_nil)))) po_none)))) pss_nil)
      (pss_cons (ps_if (pt_cmpR op_eq (pv 3) pe_int (nomark _)) (pss_one (ps_ret (pe_op op_cat (pe_slice sl_list (pv 1) po_none (po_some (pv 4))) (pe_slice sl_list (pv 1) (po_some (pe_op op_add (pv 4) pe_int)) po_none)))) pss_nil)
      (pss_cons (ps_if (pt_cmpR op_eq (pv 3) pe_int (nomark _)) (pss_one (ps_ret (pe_op op_cat (pe_op op_cat (pe_slice sl_list (pv 1) po_none (po_some (pv 4))) (pe_revL (pe_slice sl_list (pv 1) (po_some (pv 4)) (po_some (pe_op op_add (pv 4) pe_int))))) (pe_slice sl_list (pv 1) (po_some (pe_op op_add (pv 4) pe_int)) po_none)))) pss_nil)
      (pss_cons (ps_if (pt_cmpR op_eq (pv 3) pe_int (nomark _)) (pss_one (ps_ret (pe_op op_cat (pe_op op_cat (pe_slice sl_list (pv 1) po_none (po_some (pv 4))) (pe_slice sl_list (pv 1) (po_some (pv 4)) (po_some (pe_op op_add (pv 4) pe_int)))) (pe_slice sl_list (pv 1) (po_some (pv 4)) po_none)))) pss_nil)
      (pss_one (ps_ret (pe_ifExp (pt_cmpR op_eq (pv 3) pe_int (nomark _)) (pe_slice sl_list (pv 1) po_none (po_some (pv 4))) (pe_op op_cat (pv 1) (pe_lst (pa_cons (pv 5) pa_nil))))))))))), ?_⟩
    refine ⟨by show 20 ≤ sizeLine; decide, fun l hl => ?_⟩
    have k0 := same_new (o := .lst (vsS odds)) hl
    have PA0 := PA.keep k0
    have nl := (pen_new PA hl).1
    have nw := pen_strs PA hw
    refine ⟨_, rfl, p, cc, ns, B, 8, rfl, PA0, by omega, by decide, by decide, fun d1 H1 d10 d11 PA1 o1 => ?_⟩
    have hw1 := o1 _ _ nw (k0 _ _ hw)
    refine ⟨_, rfl, _, rfl, wl, _, rfl, .inl (SqL.of hw1), _, _, rfl, rfl, p, cc, ns, B + 1, _, rfl, PA1, by omega, by rw [List.length_map]; omega, by rw [List.length_map]; omega, fun d2 H2 d20 d21 PA2 o2 => ?_⟩
    rw [List.length_map] at d21
    have hl2 := o2 _ _ nl (o1 _ _ nl (show (upd H l (.lst (vsS odds))) l = some (.lst (vsS odds)) from upd_same))
    refine ⟨_, rfl, _, rfl, p, cc, ns, B + 1 + 1, .ref l, vsS odds, rfl, PA2, by omega, .inl ⟨l, rfl, nl, hl2⟩, by decide, by decide, fun v H3 hv PA3 o3 => ⟨_, _, _, rfl, ?_⟩⟩
    obtain ⟨od, hod, rfl⟩ := List.mem_map.mp hv
    obtain ⟨s, rfl⟩ : ∃ s : Nat, d2 = (s : Int) := ⟨d2.toNat, by omega⟩
    have hs : s ≤ ws.length := by omega
    have hw3 := o3 _ _ nw (o2 _ _ nw hw1)
    have off : Off p H H3 := fun b o nb e => o3 _ _ nb (o2 _ _ nb (o1 _ _ nb (k0 _ _ e)))
    have fin : ∀ ws', Bent ws ws' → ∀ (r : Addr) (H' : Hp), Same' H3 H' → H' r = some (.lst (vsS ws')) → Q (.ref r) H' := fun ws' hb r H' s' e' => q r ws' H' hb e' ((PA3.keep s').more (by omega)) (fun b o nb e => s' _ _ (off _ _ nb e))
    have vw : ∀ {H'}, Same' H3 H' → LE (tVar 1) [some (.ref p), some (.ref wl), some (.ref l), some (.int d1), some (.int (s : Int)), some (.str od)] H' ws := fun s' => LE.var rfl (s' _ _ hw3)
    have memT : ∀ {z : Str} {k : Nat}, z ∈ ws.take k → z ∈ ws := fun h => List.mem_of_mem_take h
    have memD : ∀ {z : Str} {k : Nat}, z ∈ ws.drop k → z ∈ ws := fun h => List.mem_of_mem_drop h
    refine ⟨_, rfl, d1, 3, rfl, rfl, _, rfl, ite2 (fun e => ?_) (fun e => ?_)⟩
    · obtain ⟨t, ht⟩ : ∃ t : Nat, (if decide (d1 > 0) = true then (1 : Int) else 0) = (t : Int) := by
        split
        · exact ⟨1, rfl⟩
        · exact ⟨0, rfl⟩
      have b : Bent ws ((ws.take s ++ [od]) ++ ws.drop (s + t)) := by
        refine ⟨?_, fun z hz => ?_⟩
        · rw [List.length_append, List.length_append, List.length_take, List.length_drop, List.length_singleton]
          omega
        · rcases List.mem_append.mp hz with hz | hz
          · rcases List.mem_append.mp hz with hz | hz
            · exact .inl (memT hz)
            · exact .inr (by rw [List.mem_singleton.mp hz]; exact hod)
          · exact .inl (memD hz)
      dsimp only [tRet]
      refine LE.cat (LE.cat (LE.sl (vw fun _ _ e => e) (fun _ _ r => r) (fun H' R r => ⟨_, rfl, (s : Int), rfl, r⟩) cut_to) (fun H' s' => LE.one rfl) (by have := List.length_take_le s ws; simp; omega))
        (fun H' s' => LE.sl (lo := some ((s + t : Nat) : Int)) (hi := none) (vw s') (fun H'' R r => ?_) (fun _ _ r => r) cut_from) (by have := List.length_take_le s ws; simp; omega) _ (fin _ b)
      refine ⟨_, rfl, _, rfl, d1, 0, rfl, rfl, .inr ⟨_, rfl, (s : Int), _, rfl, rfl, _, rfl, ?_⟩⟩
      have e2 : ((s + t : Nat) : Int) = (s : Int) + (if decide (d1 > 0) = true then (1 : Int) else 0) := by
        rw [ht]
        rfl
      rw [e2] at r
      exact r
    · refine ⟨_, rfl, rfl, _, rfl, ite2 (fun e1 => ?_) (fun e1 => ?_)⟩
      · have b : Bent ws (ws.take s ++ ws.drop (s + 1)) := by
          refine ⟨?_, fun z hz => ?_⟩
          · rw [List.length_append, List.length_take, List.length_drop]
            omega
          · rcases List.mem_append.mp hz with hz | hz
            · exact .inl (memT hz)
            · exact .inl (memD hz)
        dsimp only [tRet]
        exact LE.cat (LE.sl (vw fun _ _ e => e) (fun _ _ r => r) (fun H' R r => ⟨_, rfl, (s : Int), rfl, r⟩) cut_to)
          (fun H' s' => LE.sl (lo := some ((s + 1 : Nat) : Int)) (hi := none) (vw s') (fun H'' R r => ⟨_, rfl, (s : Int), 1, rfl, rfl, _, rfl, r⟩) (fun _ _ r => r) cut_from) (by have := List.length_take_le s ws; simp; omega) _ (fin _ b)
      · refine ⟨_, rfl, rfl, _, rfl, ite2 (fun e2 => ?_) (fun e2 => ?_)⟩
        · have b : Bent ws ((ws.take s ++ ((ws.drop s).take 2).reverse) ++ ws.drop (s + 2)) := by
            refine ⟨?_, fun z hz => ?_⟩
            · simp only [List.length_append, List.length_take, List.length_drop, List.length_reverse]
              omega
            · rcases List.mem_append.mp hz with hz | hz
              · rcases List.mem_append.mp hz with hz | hz
                · exact .inl (memT hz)
                · exact .inl (memD (List.mem_of_mem_take (List.mem_reverse.mp hz)))
              · exact .inl (memD hz)
          dsimp only [tRet]
          exact LE.cat (LE.cat (LE.sl (vw fun _ _ e => e) (fun _ _ r => r) (fun H' R r => ⟨_, rfl, (s : Int), rfl, r⟩) cut_to)
              (fun H' s' => LE.rev (LE.sl (lo := some (s : Int)) (hi := some ((s + 2 : Nat) : Int)) (vw s') (fun H'' R r => ⟨_, rfl, (s : Int), rfl, r⟩) (fun H'' R r => ⟨_, rfl, (s : Int), 2, rfl, rfl, _, rfl, r⟩) cut_mid)) (by simp only [List.length_take, List.length_drop, List.length_reverse]; omega))
            (fun H' s' => LE.sl (lo := some ((s + 2 : Nat) : Int)) (hi := none) (vw s') (fun H'' R r => ⟨_, rfl, (s : Int), 2, rfl, rfl, _, rfl, r⟩) (fun _ _ r => r) cut_from) (by simp only [List.length_append, List.length_take, List.length_drop, List.length_reverse]; omega) _ (fin _ b)
        · refine ⟨_, rfl, rfl, _, rfl, ite2 (fun e3 => ?_) (fun e3 => ?_)⟩
          · have b : Bent ws ((ws.take s ++ (ws.drop s).take 1) ++ ws.drop s) := by
              refine ⟨?_, fun z hz => ?_⟩
              · simp only [List.length_append, List.length_take, List.length_drop]
                omega
              · rcases List.mem_append.mp hz with hz | hz
                · rcases List.mem_append.mp hz with hz | hz
                  · exact .inl (memT hz)
                  · exact .inl (memD (List.mem_of_mem_take hz))
                · exact .inl (memD hz)
            dsimp only [tRet]
            exact LE.cat (LE.cat (LE.sl (vw fun _ _ e => e) (fun _ _ r => r) (fun H' R r => ⟨_, rfl, (s : Int), rfl, r⟩) cut_to)
                (fun H' s' => LE.sl (lo := some (s : Int)) (hi := some ((s + 1 : Nat) : Int)) (vw s') (fun H'' R r => ⟨_, rfl, (s : Int), rfl, r⟩) (fun H'' R r => ⟨_, rfl, (s : Int), 1, rfl, rfl, _, rfl, r⟩) cut_mid) (by simp only [List.length_take, List.length_drop]; omega))
              (fun H' s' => LE.sl (lo := some (s : Int)) (hi := none) (vw s') (fun H'' R r => ⟨_, rfl, (s : Int), rfl, r⟩) (fun _ _ r => r) cut_from) (by simp only [List.length_append, List.length_take, List.length_drop]; omega) _ (fin _ b)
          · refine ⟨_, rfl, rfl, _, rfl, ite2 (fun e4 => ?_) (fun e4 => ?_)⟩
            · have b : Bent ws (ws.take s) := ⟨by rw [List.length_take]; omega, fun z hz => .inl (memT hz)⟩
              exact LE.sl (vw fun _ _ e => e) (fun _ _ r => r) (fun H' R r => ⟨_, rfl, (s : Int), rfl, r⟩) cut_to _ (fin _ b)
            · have b : Bent ws (ws ++ [od]) := by
                refine ⟨by simp, fun z hz => ?_⟩
                rcases List.mem_append.mp hz with hz | hz
                · exact .inl hz
                · exact .inr (by rw [List.mem_singleton.mp hz]; exact hod)
              exact LE.cat (vw fun _ _ e => e) (fun H' s' => LE.one rfl) (by simp; omega) _ (fin _ b)
end
end My
/-! the law -/
namespace My
open PySem PySem.Spec PyProof.Rows L2
abbrev PR : Program := PySem.Challenge.rw_layerseen_k90_texts_of_ends.prog
abbrev nLaw : List Str := ["_law_script", "_law_pen_here", "_law_turn", "_law_some", "_law_made", "_law_line_here", "_law_words", "_law_again", "_law_due_here", "_law_page", "_law_lines", "_law_dues", "_law_gone", "_law_cells_so", "_law_logs_so", "_law_plain_here", "_law_one"]
theorem scLaw : FnScope nLaw ["_law_script"] (defScope sLaw) := ⟨rfl, rfl, rfl, by decide +kernel, rfl, by decide +kernel, by decide +kernel⟩
abbrev XL (w : World) (K : PySem.W.Frag) (mg : Str → Option Value) (base : Heap) (fa : Addr) (cdv : Value) (s : Shared) (H0 : Hp) : Cx := (cxOf CX0 PR w K mg base nLaw "law" (defScope sLaw) fa cdv callerA [] s H0 E0).nox
def inL (i : Nat) : Stmt := (defBody sLaw).getD i (.Pass ⟨0, 0, 0, 0⟩)
def forBody (s : Stmt) : List Stmt := match s with
  | .For _ _ b _ _ => b
  | _ => []
abbrev inF (i : Nat) : Stmt := (forBody (inL 1)).getD i (.Pass ⟨0, 0, 0, 0⟩)
section
variable {w : World} {K : PySem.W.Frag} {mg : Str → Option Value} {base : Heap} {fa : Addr} {cdv : Value} {s : Shared} {H0 : Hp}
theorem hrX : Room 15 (XL w K mg base fa cdv s H0).A := ⟨rfl, by show 1 + claimMargin + 1 + 3 * 15 + 5 < recursionLimit; decide +kernel, by show 4 + 3 + 16 * 15 + 200 < cLine; decide +kernel⟩
theorem hgX : (XL w K mg base fa cdv s H0).A.guards = some [] := rfl
end
/-- all that the law calls -/
structure Parts (w : World) (K : PySem.W.Frag) (mg : Str → Option Value) (base : Heap) (CT CE : Addr) (fX : Nat → Addr) (dX : Nat → FuncData) : Prop where
  T : Txt mg
  pen : Fn PR w K mg base 1 "_law_pen" sPen (fX 0) (dX 0) ["_law_script"] (spPen K)
  draw : Fn PR w K mg base 1 "_law_draw" sDraw (fX 1) (dX 1) ["_law_pen_here", "_law_many"] spDraw
  pick : Fn PR w K mg base 2 "_law_pick" sPick (fX 2) (dX 2) ["_law_pen_here", "_law_some"] spPick
  plain : Fn PR w K mg base 3 "_law_plain" sPlain (fX 3) (dX 3) ["_law_pen_here"] spPlain
  line : Fn PR w K mg base 1 "_law_line" sLine (fX 4) (dX 4) ["_law_plain_here"] spLine
  due : Fn PR w K mg base 5 "_law_due" sDue (fX 5) (dX 5) ["_law_line_here"] spDue
  hk : PySem.W.keepIn K (.ref (fX 6)) = true
  hb : Binds K (dX 6) ["_law_thing"] []
  hg : mg "_law_heard" = some (.ref (fX 6))
  hG : FnG PR w K mg base CX0 11 (fX 6) (dX 6) ["_law_thing"] (spHeard K)
  bent : Fn PR w K mg base 3 "_law_bent" sBent (fX 7) (dX 7) ["_law_pen_here", "_law_words"] spBent
  ek : PySem.W.keepIn K (.ref (fX 8)) = true
  eb : Binds K (dX 8) ["ends"] []
  eg : mg "ends_text" = some (.ref (fX 8))
  eG : FnG PR w K mg base CX0 6 (fX 8) (dX 8) ["ends"] (spEndsText CE)
  rk : PySem.W.keepIn K (.ref (fX 9)) = true
  rb : Binds K (dX 9) ["text"] []
  rkb : KBinds K (dX 9) ["text"] ["text"] kwG kwG
  rg : mg "read_ends" = some (.ref (fX 9))
  rG : FnOk PR w K mg base (L2.CX PR w) 10 (fX 9) (dX 9) ["text"] (spRead K CT CE)
  E : EndK PR w K mg base CE (fX 10) (dX 10)
  qs : PySem.W.findIn K (.ref CE) "__eq__" = some (some (.ref (fX 11)))
  qf : PySem.W.isFn K (.ref (fX 11)) = true
  qb : Binds K (dX 11) ["self", "other"] []
  qG : FnOk PR w K mg base CX0 1 (fX 11) (dX 11) ["self", "other"] (L2.spEq (SamE CE))
  S : OwnS PR w K mg base CE (fX 12) (dX 12)
/-- plain ends, as drawn -/
abbrev Plains (D : Addr) (H : Hp) : List Addr → List EndD → Prop := Paired fun q e => Drawn e ∧ ∃ cp lp, PlainAt H q e cp lp ∧ cp ≠ D ∧ lp ≠ D
theorem plains_len {D : Addr} {H : Hp} : ∀ {qs : List Addr} {es : List EndD}, Plains D H qs es → qs.length = es.length
  | _, _, .nil => rfl
  | _, _, .cons _ r => congrArg Nat.succ (plains_len r)
theorem plains_at {D : Addr} {H : Hp} : ∀ {qs : List Addr} {es : List EndD} {i : Nat} {q : Addr}, Plains D H qs es → qs[i]? = some q → ∃ e, es[i]? = some e ∧ Drawn e ∧ ∃ cp lp, PlainAt H q e cp lp
  | _, _, 0, _, .cons h r, e => by
    simp at e
    subst e
    obtain ⟨d, cp, lp, h, _⟩ := h
    exact ⟨_, rfl, d, cp, lp, h⟩
  | _, _, i + 1, _, .cons _ r, e => plains_at (i := i) r (by simpa using e)
theorem plains_map {D : Addr} {H H' : Hp} (k : ∀ q e cp lp, PlainAt H q e cp lp → cp ≠ D → lp ≠ D → PlainAt H' q e cp lp) : ∀ {qs : List Addr} {es : List EndD}, Plains D H qs es → Plains D H' qs es
  | _, _, .nil => .nil
  | _, _, .cons ⟨d, cp, lp, h, n1, n2⟩ r => .cons ⟨d, cp, lp, k _ _ _ _ h n1 n2, n1, n2⟩ (plains_map k r)
theorem plains_snoc {D : Addr} {H : Hp} {q : Addr} {e : EndD} (h : Drawn e ∧ ∃ cp lp, PlainAt H q e cp lp ∧ cp ≠ D ∧ lp ≠ D) : ∀ {qs : List Addr} {es : List EndD}, Plains D H qs es → Plains D H (qs ++ [q]) (es ++ [e])
  | _, _, .nil => .cons h .nil
  | _, _, .cons a r => .cons a (plains_snoc h r)
theorem plains_keep {D : Addr} {H H' : Hp} (k : Same' H H') {qs : List Addr} {es : List EndD} (h : Plains D H qs es) : Plains D H' qs es := plains_map (fun _ _ _ _ h _ _ => h.keep k) h
theorem plains_drawn {D : Addr} {H : Hp} {qs : List Addr} {es : List EndD} (h : Plains D H qs es) : ∀ e ∈ es, Drawn e := by
  induction h with
  | nil => intro e he; cases he
  | cons h _ ih =>
    intro e he
    rcases List.mem_cons.mp he with rfl | he
    · exact h.1
    · exact ih e he
section
variable {w : World} {K : PySem.W.Frag} {mg : Str → Option Value} {base : Heap} {fa : Addr} {cdv : Value} {s : Shared} {H0 : Hp} {CT CE : Addr} {fX : Nat → Addr} {dX : Nat → FuncData}
/-- a state of the law -/
abbrev sg (z0 z1 z2 z3 z4 z5 z6 z7 z8 z9 : Option V) (r : List (Option V)) : L2.St := z0 :: z1 :: z2 :: z3 :: z4 :: z5 :: z6 :: z7 :: z8 :: z9 :: r
theorem b0 (Y : Parts w K mg base CT CE fX dX) : ∃ t, PS (XL w K mg base fa cdv s H0) (inF 0) t ∧ ∀ (p cc : Addr) (ns : List Int) (B : Int) (z0 z2 z3 z4 z5 z6 z7 z8 z9 z10 z11 z12 z13 z14 z15 z16 : Option V) (H : Hp) (D : Ends), PenAt H p cc ns B → B + 69 ≤ 1000 →
    (∀ (D1 : Addr) (qs : List Addr) (es : List EndD) H', H' D1 = some (.lst (qs.map V.ref)) → Plains D1 H' qs es → es.length ≤ 4 → PenAt H' p cc ns (B + 69) → Off p H H' → D.nx [z0, some (.ref p), z2, some (.ref D1), z4, z5, z6, z7, z8, z9, z10, z11, z12, z13, z14, z15, z16] H') →
    t D [z0, some (.ref p), z2, z3, z4, z5, z6, z7, z8, z9, z10, z11, z12, z13, z14, z15, z16] H := by
  have hr : Room 15 (XL w K mg base fa cdv s H0).A := hrX
  refine ⟨_, ps_setLc (i := 3) (own := [("_law_again", 7)]) (g := gName 7) (tt := tYes) rfl scLaw.nd rfl rfl (sw_true rfl rfl rfl (by decide +kernel)) (pi_range1 (by rfl) Y.T.range (pa_cons (pe_call Y.draw.G (hrX.mono (by decide)) (by rfl) Y.draw.g Y.draw.F.kp Y.draw.b .nil pass0 (pa_cons (pv 1) (pa_cons pe_int pa_nil))) pa_nil)) (blkOk_by (N := nLaw) (sc := defScope sLaw) (by decide +kernel)) (fun _ _ _ _ _ => pg_name (i := 7) scLaw.nd rfl (Or.inl rfl)) (fun _ _ _ _ _ => pts_nil)
      (fun s1 H1 C1 cl1 fp1 => pe_call (X := (XL w K mg base fa cdv s H0).blk s1 H1 _ (compEnvC _ cl1 C1 (XL w K mg base fa cdv s H0).env) fp1) Y.plain.G (hr.mono (by decide)) (by rfl) Y.plain.g Y.plain.F.kp Y.plain.b .nil pass0 (pa_cons (pv 1) pa_nil)), ?_⟩
  intro p cc ns B z0 z2 z3 z4 z5 z6 z7 z8 z9 z10 z11 z12 z13 z14 z15 z16 H D PA hB q
  refine ⟨_, rfl, p, cc, ns, B, 5, rfl, PA, by omega, by decide, by decide, fun d H2 d0 d1 PA2 o2 => ⟨d, rfl, by omega, by omega, fun D1 hD => ?_⟩⟩
  obtain ⟨dn, hcD⟩ := pen_new PA2 hD
  have hDn : H D1 = none := by
    cases e : H D1 with
    | none => rfl
    | some o => have := o2 _ _ dn e; rw [hD] at this; cases this
  have up : ∀ {H1 : Hp} {o : HO}, Off p H H1 → Off p H (upd H1 D1 o) := fun k b o nb e => by rw [upd_ne (fun y => by rw [y, hDn] at e; cases e)]; exact k b o nb e
  refine lc_it (walk_range (lo := 0) (n := d.toNat)) (fun i H' => PenAt H' p cc ns (B + 1 + 17 * (i : Int)) ∧ Off p H H' ∧ ∃ qs es, es.length = i ∧ H' D1 = some (.lst (qs.map V.ref)) ∧ Plains D1 H' qs es)
    ⟨(PA2.upd dn hcD).more (by omega), up o2, [], [], rfl, upd_same, .nil⟩ (fun _ _ _ _ => trivial) (fun i x H3 H4 hi hp hy => ?_) (fun H' hp => ?_)
  · obtain ⟨PA3, off, qs, es, el, ed, pl⟩ := hp
    obtain ⟨rfl, rfl⟩ := hy
    refine ⟨rfl, _, rfl, p, cc, ns, _, rfl, PA3, by omega, fun t e cp lp H5 dr pa hc hl PA5 o5 => ?_⟩
    have ed5 := o5 _ _ dn ed
    have nc : cp ≠ D1 := (ne_of_none ed hc).symm
    have nlp : lp ≠ D1 := (ne_of_none ed hl).symm
    have al := plains_len pl
    refine ⟨_, ed5, small1000 (by rw [List.length_map]; omega), (PA5.upd dn hcD).more (by omega), up (off.trans o5), qs ++ [t], es ++ [e], by rw [List.length_append, el]; rfl, ?_, ?_⟩
    · rw [upd_same, List.map_append]
      rfl
    · exact plains_snoc ⟨dr, cp, lp, pa.upd nc nlp ed5, nc, nlp⟩ (plains_map (fun _ _ _ _ h n1 n2 => (h.off PA3 o5).upd n1 n2 ed5) pl)
  · obtain ⟨PA3, off, qs, es, el, ed, pl⟩ := hp
    exact q D1 qs es H' ed pl (by omega) (PA3.more (by omega)) off
def rDictP (K : PySem.W.Frag) : List V → Hp → VK → Prop := fun xs H Q => ∃ a ps kvs, xs = [V.ref a] ∧ SqL K H a (List.map V.ref ps) ∧ Paired (fun p kv => SqT K H p [kV kv.1, kv.2]) ps kvs ∧ ∀ (p : Addr), H p = none → Q (V.ref p) (upd H p (HO.dK (mergeK [] kvs)))
theorem kvsL {ms : List (Str × Addr × List Str)} : (ms.map fun p : Str × Addr × List Str => ((.inr p.1 : Key), V.ref p.2.1)) = kvL ms := rfl
theorem b1 (Y : Parts w K mg base CT CE fX dX) : ∃ t, PS (XL w K mg base fa cdv s H0) (inF 1) t ∧ ∀ (D0 l0 : Addr) (qs : List Addr) (es : List EndD) (z0 z1 z2 z4 z5 z6 z7 z8 z9 z10 z11 z12 z13 z14 z15 z16 : Option V) (H : Hp) (D : Ends), H l0 = some (.lst (qs.map V.ref)) → Plains D0 H qs es → es.length ≤ 4 →
    (∀ (t : Addr) (as : List Addr) H', Same' H H' → H' t = some (.tup (as.map V.ref)) → EndsAt CE H' as es → D.nx [z0, z1, z2, some (.ref l0), some (.ref t), z5, z6, z7, z8, z9, z10, z11, z12, z13, z14, z15, z16] H') →
    t D [z0, z1, z2, some (.ref l0), z4, z5, z6, z7, z8, z9, z10, z11, z12, z13, z14, z15, z16] H := by
  have hr : Room 15 (XL w K mg base fa cdv s H0).A := hrX
  refine ⟨_, ps_set (i := 4) scLaw.nd rfl (.inl rfl) (pe_callTy call_tuple_of (by rfl) Y.T.tuple (by decide +kernel) (pa_cons (pe_lc (own := [("_law_gone", 12), ("_law_cells_so", 13), ("_law_logs_so", 14)]) (g := gTup K 3 (gCons (gName 12) (gCons (gName 13) (gCons (gName 14) gNil)))) (tt := tYes) rfl scLaw.nd (pi_list (pv 3)) (blkOk_by (N := nLaw) (sc := defScope sLaw) (by decide +kernel))
      (fun _ _ _ _ _ => show PG _ _ (gTup K 3 _) from pg_tup (n := 3) rfl (pgs_cons (pg_name (i := 12) scLaw.nd rfl (.inl rfl)) (pgs_cons (pg_name (i := 13) scLaw.nd rfl (.inl rfl)) (pgs_cons (pg_name (i := 14) scLaw.nd rfl (.inl rfl)) pgs_nil)))) (fun _ _ _ _ _ => pts_nil)
      (fun s1 H1 C1 cl1 fp1 => pe_make (X := (XL w K mg base fa cdv s H0).blk s1 H1 _ (compEnvC _ cl1 C1 (XL w K mg base fa cdv s H0).env) fp1) (x := "End") (E := noX) Y.E.m Y.E.G (hr.mono (by decide)) (by rfl) Y.E.N.g Y.E.b .nil pass0
        (pa_cons (pv 12) (pa_cons (show PE _ _ (tCB (rDictP K) (tCons (tVar 13) tNil)) from pe_callTy (T := "dict") (call_dictP (X := (XL w K mg base fa cdv s H0).blk s1 H1 _ (compEnvC _ cl1 C1 (XL w K mg base fa cdv s H0).env) fp1) rfl) (by rfl) Y.T.dict (by decide +kernel) (pa_cons (pv 13) pa_nil)) (pa_cons (show PE _ _ (tCB (rDictP K) (tCons (tVar 14) tNil)) from pe_callTy (T := "dict") (call_dictP (X := (XL w K mg base fa cdv s H0).blk s1 H1 _ (compEnvC _ cl1 C1 (XL w K mg base fa cdv s H0).env) fp1) rfl) (by rfl) Y.T.dict (by decide +kernel) (pa_cons (pv 14) pa_nil)) pa_nil))))) pa_nil)), ?_⟩
  intro D0 l0 qs es z0 z1 z2 z4 z5 z6 z7 z8 z9 z10 z11 z12 z13 z14 z15 z16 H D hl pl few q
  refine ⟨_, rfl, l0, rfl, ⟨_, SqL.of hl⟩, fun D1 hD => ?_⟩
  refine lc_list (K := K) (a := l0) (xs := qs.map V.ref) (fun i H' => Same' H H' ∧ ∃ as, H' D1 = some (.lst (as.map V.ref)) ∧ EndsAt CE H' as (es.take i)) ⟨same_new hD, [], upd_same, .nil⟩ (fun i H' _ hp => SqL.of (hp.1 _ _ hl)) (fun i v H' hv hp => ?_) (fun H' hp => ?_)
  · obtain ⟨sm, as, ed, ea⟩ := hp
    rw [List.getElem?_map] at hv
    cases eq : qs[i]? with
    | none => rw [eq] at hv; cases hv
    | some a =>
      rw [eq] at hv
      injection hv with hv
      subst hv
      obtain ⟨e, he, dr, cp, lp, pa⟩ := plains_at (plains_keep sm pl) eq
      obtain ⟨cas, bs, ms, h1, h2, h3, h4, h5, h6⟩ := pa.ex
      have G := dr.fits.g
      refine ⟨a, _, rfl, SqT.of h1, rfl, _, _, rfl, _, _, rfl, _, _, rfl, rfl, rfl, ?_⟩
      refine ⟨_, rfl, _, rfl, cp, cas, kvC e.cs, rfl, SqL.of h2, laid_paired h3, fun a1 ha1 => ?_⟩
      have k1 := same_new (o := .dK (mergeK [] (kvC e.cs))) ha1
      refine ⟨_, rfl, lp, bs, kvL ms, rfl, SqL.of (k1 _ _ h4), laid_pairedL (h5.keep k1), fun a2 ha2 => ?_⟩
      have k2 := same_new (o := .dK (mergeK [] (kvL ms))) ha2
      have uc : ((kvC e.cs).map (·.1)).Nodup := by
        have := nd_inr (asc_nodup G.ca)
        rw [List.map_map] at this ⊢
        exact this
      have ul : ((kvL ms).map (·.1)).Nodup := by
        have k := nd_inr (asc_nodup G.la)
        rw [← strip_names h6, List.map_map] at k
        rw [List.map_map]
        exact k
      have c2 : (upd (upd H' a1 (.dK (mergeK [] (kvC e.cs)))) a2 (.dK (mergeK [] (kvL ms)))) a1 = some (.dK (kvC e.cs)) := by
        rw [k2 _ _ upd_same, merge_same uc]
      have l2 : (upd (upd H' a1 (.dK (mergeK [] (kvC e.cs)))) a2 (.dK (mergeK [] (kvL ms)))) a2 = some (.dK (kvL ms)) := by
        rw [upd_same, merge_same ul]
      have fc := G.cf
      have fl := G.lf
      have tc := tw_c (by omega) G.ca c2
      have tl := tw_l h6 (by omega) G.la (fun l hl => by have := G.wf l hl; omega) l2 fun c hc => by
        obtain ⟨j, hj, ej⟩ := List.mem_iff_getElem.mp hc
        have hj' : j < bs.length := by rw [h5.n]; exact hj
        obtain ⟨d, d1, d2, d3⟩ := h5.e j _ (List.getElem?_eq_getElem hj')
        rw [List.getElem?_eq_getElem hj, ej] at d1
        injection d1 with d1
        rw [d1]
        exact (k1.trans k2) _ _ d3
      have tf : ∀ g : Option Str, Tw (upd (upd H' a1 (.dK (mergeK [] (kvC e.cs)))) a2 (.dK (mergeK [] (kvL ms)))) (fV g) (fD g) := fun g => by
        cases g with
        | none => exact .th (.flat .non)
        | some n => exact .th (.flat (.str n))
      refine fun p dx hp hdx _ => ⟨p, dx, _, _, _, _, _, _, rfl, upd_same, (tf e.f).keep (made_same hp hdx), tc.keep (made_same hp hdx), tl.keep (made_same hp hdx), fun H3 k ev => ⟨rfl, ?_⟩⟩
      have s3 : Same' _ H3 := fun b o z => k b o (ne_of_none z hp) (made_same hp hdx b o z)
      have k3 := (k1.trans k2).trans s3
      have al := ends_len ea
      rw [List.length_take] at al
      refine ⟨_, k3 _ _ ed, small1000 (by rw [List.length_map]; omega), same_over hD (sm.trans k3), as ++ [p], ?_, ?_⟩
      · rw [upd_same, List.map_append]
        rfl
      · rw [List.take_add_one, he]
        exact ends_upL (k3 _ _ ed) (ends_snoc ⟨ev, G⟩ (ends_keep k3 ea))
  · obtain ⟨sm, as, ed, ea⟩ := hp
    rw [List.length_map, plains_len pl, List.take_length] at ea
    refine ⟨D1, _, rfl, .inl ⟨SqL.of ed, fun t ht => ?_⟩⟩
    have kt := same_new (o := .tup (as.map V.ref)) ht
    exact q t as _ (sm.trans kt) upd_same (ends_keep kt ea)
end
end My
namespace My
open PySem PySem.Spec PyProof.Rows L2
/-! words without blanks -/
structure Tkn (z : Str) : Prop where
  sp : 32 ∉ TL.tl z
  ok : PyData.strOk z = true
  len : z.length ≤ 9
theorem tok_wd {z : Str} (h : wd z = true) : Tkn z := by
  obtain ⟨a, b, c, d⟩ := wd_ok h
  refine ⟨fun m => ?_, a, by omega⟩
  have := d 32 m
  omega
abbrev toks : List Str := ["-", ";", "/", "done", "failed", "0", "1", "2", "3", "", ";", "/", "-", "done", "failed", "f", "a", "x", "y", "b", "l", "0", "3", "4", "01", "put", "X", "abcdefghi", "a;"]
theorem odds_toks : ∀ z ∈ odds, z ∈ toks := by decide +kernel
theorem tok_list : ∀ z ∈ toks, 32 ∉ TL.tl z ∧ PyData.strOk z = true ∧ z.length ≤ 9 := by decide +kernel
theorem tok_in {z : Str} (h : z ∈ toks) : Tkn z := by
  obtain ⟨a, b, c⟩ := tok_list z h
  exact ⟨a, b, c⟩
theorem figW_in {v : Int} (h0 : 0 ≤ v) (h4 : v < 4) : figW v ∈ (["0", "1", "2", "3"] : List Str) := by
  have : v = 0 ∨ v = 1 ∨ v = 2 ∨ v = 3 := by omega
  rcases this with rfl | rfl | rfl | rfl <;> decide +kernel
/-- words that the law may have -/
structure Lw (ws : List Str) (n : Nat) : Prop where
  ne : ws ≠ []
  few : ws.length ≤ n
  tok : ∀ z ∈ ws, Tkn z
theorem sum_le {α : Type} (f : α → List Str) (k : Nat) : ∀ l : List α, (∀ x ∈ l, (f x).length ≤ k) → (l.map f).flatten.length ≤ l.length * k
  | [], _ => by simp
  | x :: r, h => by
    have := sum_le f k r fun y hy => h y (List.mem_cons_of_mem _ hy)
    have := h x List.mem_cons_self
    rw [List.map_cons, List.flatten_cons, List.length_append, List.length_cons, Nat.succ_mul]
    omega
theorem wordsE_lw {e : EndD} (D : Drawn e) : Lw (wordsE e) 21 := by
  have G := D.fits.g
  obtain ⟨f1, f2⟩ := D.few
  refine ⟨wordsE_ne e, ?_, fun z hz => ?_⟩
  · rw [wordsE_flat, List.length_append, List.length_append]
    have a : (headW e.f).length ≤ 2 := by cases e.f <;> simp [headW]
    have b := sum_le (fun c => semi :: cellW c) 3 e.cs fun c _ => by simp [cellW]
    have c := sum_le (fun l => semi :: thingW l) 5 e.ls fun l hl => by
      have := (D.lv l hl).1
      unfold thingW logW
      split <;> simp <;> omega
    omega
  · rw [wordsE_flat] at hz
    rcases List.mem_append.mp hz with hz | hz
    · cases hf : e.f with
      | none =>
        rw [hf] at hz
        rw [List.mem_singleton.mp hz]
        exact tok_in (by simp)
      | some n =>
        rw [hf] at hz
        have : z = "failed" ∨ z = n := by simpa [headW] using hz
        rcases this with rfl | rfl
        · exact tok_in (by simp)
        · exact tok_wd (nm_wd (G.f _ hf))
    · rcases List.mem_append.mp hz with hz | hz
      · obtain ⟨x, hx, hz⟩ := List.mem_flatten.mp hz
        obtain ⟨c, hc, rfl⟩ := List.mem_map.mp hx
        obtain ⟨g1, g2, g3⟩ := G.cv c hc
        have : z = semi ∨ z = c.1 ∨ z = figW c.2 := by simpa [cellW] using hz
        rcases this with rfl | rfl | rfl
        · exact tok_in (by simp)
        · exact tok_wd (nm_wd g1)
        · refine tok_in ?_
          have m := figW_in g2 g3
          simp only [List.mem_cons, List.not_mem_nil, or_false] at m ⊢
          rcases m with h | h | h | h <;> simp [h]
      · obtain ⟨x, hx, hz⟩ := List.mem_flatten.mp hz
        obtain ⟨l, hl, rfl⟩ := List.mem_map.mp hx
        obtain ⟨g1, g2⟩ := G.lv l hl
        rcases List.mem_cons.mp hz with rfl | hz
        · exact tok_in (by simp)
        · rcases List.mem_cons.mp hz with rfl | hz
          · exact tok_wd (nm_wd g1)
          · unfold logW at hz
            split at hz
            · rw [List.mem_singleton.mp hz]
              exact tok_in (by simp)
            · exact tok_wd (g2 z hz)
theorem wordsEs_lw {es : List EndD} (D : ∀ e ∈ es, Drawn e) (n : es.length ≤ 4) : Lw (wordsEs es) 87 := by
  unfold wordsEs
  cases es with
  | nil => exact ⟨by simp, by simp, fun z hz => by rw [List.mem_singleton.mp (show z ∈ ([dash] : List Str) from hz)]; exact tok_in (by simp)⟩
  | cons e r =>
    show Lw (inter slash (wordsE e :: r.map wordsE)) 87
    rw [inter_flat, List.map_map]
    have he := wordsE_lw (D e List.mem_cons_self)
    have hr : ∀ x ∈ r, Lw (wordsE x) 21 := fun x hx => wordsE_lw (D x (List.mem_cons_of_mem _ hx))
    refine ⟨fun h => he.ne (List.append_eq_nil_iff.mp h).1, ?_, fun z hz => ?_⟩
    · rw [List.length_append]
      have b := sum_le ((fun x => slash :: x) ∘ wordsE) 22 r fun x hx => by
        have := (hr x hx).few
        show (slash :: wordsE x).length ≤ 22
        rw [List.length_cons]
        omega
      have := he.few
      rw [List.length_cons] at n
      omega
    · rcases List.mem_append.mp hz with hz | hz
      · exact he.tok z hz
      · obtain ⟨x, hx, hz⟩ := List.mem_flatten.mp hz
        obtain ⟨y, hy, rfl⟩ := List.mem_map.mp hx
        rcases List.mem_cons.mp (show z ∈ slash :: wordsE y from hz) with rfl | hz
        · exact tok_in (by simp)
        · exact (hr y hy).tok z hz
theorem blank_tl : TL.tl (" " : Str) = 32 :: [] := by decide +kernel
theorem Lw.split {ws : List Str} {n : Nat} (L : Lw ws n) : Txt.split (Str.join " " ws) spc = ws := by
  have := TL.split_join (y := " ") blank_tl (by decide +kernel) L.ne fun p hp => (L.tok p hp).sp
  rw [TL.join_eq] at this
  exact this
theorem Lw.joinLen {ws : List Str} {n : Nat} (L : Lw ws n) : (Str.join " " ws).length ≤ ws.length * 10 := by
  have a := sum_len (B := 9) fun z hz => (L.tok z hz).len
  have b := join_len " " ws
  rw [one_space] at b
  omega
theorem Lw.ok {ws : List Str} {n : Nat} (L : Lw ws n) (h : n ≤ 120) : WsOk ws := ⟨Nat.le_trans L.few h, fun z hz => (L.tok z hz).ok, fun z hz => by have := (L.tok z hz).len; omega⟩
theorem ok_app {x y : Str} (h : PyData.strOk x = true) (k : PyData.strOk y = true) : PyData.strOk (x ++ y) = true := by
  show (x.cps ++ y.cps).all _ = true
  unfold PyData.strOk at h k
  simp only [Array.all_append, h, k, Bool.and_self]
theorem ok_join {y : Str} (hy : PyData.strOk y = true) : ∀ {zs : List Str}, (∀ z ∈ zs, PyData.strOk z = true) → PyData.strOk (Str.join y zs) = true
  | [], _ => by
    show PyData.strOk Str.empty = true
    decide +kernel
  | [z], h => h z List.mem_cons_self
  | x :: z :: r, h => ok_app (ok_app (h x List.mem_cons_self) hy) (ok_join hy fun w hw => h w (List.mem_cons_of_mem _ hw))
theorem Lw.sok {ws : List Str} {n : Nat} (L : Lw ws n) : PyData.strOk (Str.join " " ws) = true := ok_join (by decide +kernel) fun z hz => (L.tok z hz).ok
/-- the text of drawn ends -/
structure LineOf (es : List EndD) (z : Str) : Prop where
  is : z = textEs es
  lw : Lw (wordsEs es) 87
  sp : Txt.split z spc = wordsEs es
  len : z.length ≤ 900
  ok : PyData.strOk z = true
  rd : readF (wordsEs es) = .ok es
theorem line_of {es : List EndD} (D : ∀ e ∈ es, Drawn e) (n : es.length ≤ 4) : LineOf es (textEs es) := by
  have L := wordsEs_lw D n
  have e := textEs_is fun e he => (D e he).fits.g
  refine ⟨rfl, L, by rw [e]; exact L.split, ?_, by rw [e]; exact L.sok, read_fwd fun e he => (D e he).fits⟩
  rw [e]
  have := L.joinLen
  have := L.few
  omega
end My
/-! x != y, two tuples whose items are equal (own == included): False -/
namespace MyT
open PySem PySem.SeqAt
open AutoSeq1 (wpAny_loadPart')
open MeetsSeq MeetsSeq2 MeetsSeq3 SeqRoads2
section
variable {prog : Program} {w : World} {A : Around} {R : Result → Shared → Prop}
theorem ne_all (l b : Addr) (us vs : Array Value) (n m : Nat) (du dv : Option Addr) (su sv : Array (Option Value)) (hsz : us.size = vs.size) (I : Shared → Prop)
    (turn : ∀ i (h1 : i < us.size) (h2 : i < vs.size) s, I s → wpAny (model prog w) A.in1 (eqBool us[i] vs[i]) (fun r s' => r = true ∧ I s') (fun e s' => R (.error e) s') s)
    (fin : ∀ s, I s → R (.ok (.ret (.bool false))) s) {s : Shared} (hl : s.heap.get? l = some { cls := .type "tuple", dict := du, data := .seq us n, slots := su }) (hb : s.heap.get? b = some { cls := .type "tuple", dict := dv, data := .seq vs m, slots := sv }) (h : I s) :
    wpAny (model prog w) A.in1 (Builtin.«tuple.__ne__» ⟨[.ref l, .ref b], []⟩) (GQ.FinOf prog w A R) (fun e s' => R (.error e) s') s := by
  have f2 := AutoSeq1.sub_tuple_tuple
  have hZ : (us.toList.zip vs.toList).length = us.size := by simp [hsz]
  have hI := h
  obtain ⟨hp, g, d, tk, os⟩ := s
  wp_walk using wpAny_loadPart' hl, wpAny_loadPart' hb, wpAny_forIn_list _ (fun rest b s' => b.1 = none ∧ (∃ i, rest = (us.toList.zip vs.toList).drop i) ∧ I s') _
  case turn =>
    rintro ⟨y, x⟩ rest b s' ⟨hb', ⟨i, hz⟩, hI'⟩
    have hlt : i < (us.toList.zip vs.toList).length := by
      rcases Nat.lt_or_ge i (us.toList.zip vs.toList).length with q | q
      · exact q
      · rw [List.drop_of_length_le q] at hz
        cases hz
    have h1 : i < us.size := hZ ▸ hlt
    have h2 : i < vs.size := hsz ▸ h1
    rw [List.drop_eq_getElem_cons hlt] at hz
    injection hz with hyx hrest
    have ey : y = us[i] := by
      have q := congrArg Prod.fst hyx
      simpa using q
    have ex : x = vs[i] := by
      have q := congrArg Prod.snd hyx
      simpa using q
    subst ey ex
    refine wpAny_bind (wpAny_mono (turn i h1 h2 s' hI') (fun r s2 q2 => ?_) fun _ _ z => z)
    obtain ⟨rfl, q3⟩ := q2
    wp_walk
    exact ⟨rfl, ⟨i + 1, hrest⟩, q3⟩
  case fin =>
    rintro ⟨b1, b2⟩ s' ⟨hb', _, hI'⟩
    simp only at hb'
    subst hb'
    have hR := fin s' hI'
    wp_walk
    simpa [Builtin.Tuple.tupleCompareSizes, bne, hsz] using hR
  case h => exact ⟨rfl, ⟨0, rfl⟩, hI⟩
end
section
variable {prog : Program} {w : World} {A : Around} {E : Value → Shared → Prop} {s : Shared}
theorem rc_ne {l b : Addr} {us vs : Array Value} {Q : Value → Shared → Prop} (hsz : us.size = vs.size) (hu : A.units < cLine) (I : Shared → Prop) (hl : s.heap.IsTuple l us) (hb : s.heap.IsTuple b vs)
    (turn : ∀ i (h1 : i < us.size) (h2 : i < vs.size) s, I s → wpAny (model prog w) A.in1 (eqBool us[i] vs[i]) (fun r s' => r = true ∧ I s') E s)
    (fin : ∀ s, I s → Q (.bool false) s) (h : I s) : wpAny (model prog w) A (richCompare .NotEq (.ref l) (.ref b)) Q E s := by
  obtain ⟨⟨cls, du, data, su⟩, ho, hc, n, hd⟩ := id hl
  obtain ⟨⟨cls2, dv, data2, sv⟩, ho2, hc2, m, hd2⟩ := id hb
  simp only at hc hd hc2 hd2
  subst hc hd hc2 hd2
  refine wpAny_richCompare_same_room (op := .NotEq) ⟨_, ho, rfl⟩ ⟨_, ho2, rfl⟩ F.slot_tuple_ne (GQ.call_here F.slot_tuple_ne ⟨_, ho, rfl⟩ F.entry_tuple_ne (F.args_tuple_ne_2 _ _) ?_) hu
  exact ne_all (R := wants (fun v s' => v ≠ .notImplemented ∧ Q v s') E) l b us vs n m du dv su sv hsz I turn (fun s' q => ⟨(fun z => nomatch z), fin s' q⟩) ho ho2 h
end
end MyT
namespace My
open PySem PySem.Spec PyProof.Rows L2
def rNeG (D : Eqv) : R2 := fun x y H Q => D x y H ∧ ∀ H', Ext H H' → Q (.bl false) H'
theorem op_neTup {X : Cx} {n : Nat} {D : Eqv} (hD : Mon D) (h : EqG X n D) (hr : Room (n + 1) X.A) : OpR X (compareOp .NotEq) (rNeG (DTup X.K D)) := by
  intro pins s σ H x y u v Q I rx ry hq
  obtain ⟨d, q⟩ := hq
  have sb : Sub X (n + 1) X.A := ⟨hr, rfl⟩
  obtain ⟨a, b, xs, ys, rfl, rfl, ha, hb, p⟩ := d
  cases rx
  cases ry
  obtain ⟨us, r, e, z⟩ := I.tuple ha
  obtain ⟨vs, r2, e2, z2⟩ := I.tuple hb
  have hsz : us.toArray.size = vs.toArray.size := by
    rw [List.size_toArray, List.size_toArray, ← r.length, ← r2.length]
    exact p.1
  show wpAny (model X.prog X.w) X.A (richCompare .NotEq (.ref a) (.ref b)) (EP X pins σ Q) X.xe s
  refine MyT.rc_ne hsz sb.room.units0 (fun s' => LoopI X pins σ H s') e e2 (fun i h1 h2 s' l => turnG hD h sb p r r2 i h1 h2 s' l) (fun s' l => ?_) ⟨H, I, Ext.rfl'⟩
  obtain ⟨H', I', ex⟩ := l
  exact ⟨.bl false, H', I', rfl, q H' ex⟩
end My
namespace My
open PySem PySem.Spec PyProof.Rows L2
def testIf (s : Stmt) : Expr := match s with
  | .If t _ _ _ => t
  | _ => .Constant .none 0 ⟨0, 0, 0, 0⟩
theorem passNo {X : Cx} : Passes (L2.CX X.prog X.w) X noX := fun pins σ H s e s' I c => by
  obtain ⟨a, B, H', cls, d, _, _, _, _, _, _, _, k⟩ := c
  exact k.elim
theorem mon_ends {CE : Addr} : Mon (DIns CE (SamE CE)) := mon_ins fun a b H H' x h => by
  obtain ⟨e, G, ea, eb⟩ := h
  exact ⟨e, G, ea.keep x, eb.keep x⟩
theorem ends_prs {CE : Addr} {H : Hp} : ∀ {as bs : List Addr} {es : List EndD}, EndsAt CE H as es → EndsAt CE H bs es → Prs (DIns CE (SamE CE)) (as.map V.ref) (bs.map V.ref) H
  | _, _, _, .nil, .nil => Prs.nil
  | _, _, _, .cons h r, .cons k s => by
    obtain ⟨h1, G⟩ := h
    obtain ⟨k1, _⟩ := k
    obtain ⟨dx, fs, e1, _⟩ := id h1
    obtain ⟨dy, gs, e2, _⟩ := id k1
    exact Prs.cons ⟨_, _, dx, dy, fs, gs, rfl, rfl, e1, e2, _, G, h1, k1⟩ (ends_prs r s)
theorem textE_ok {e : EndD} (D : Drawn e) : PyData.strOk (textE e) = true := by
  rw [textE_is D.fits.g]
  exact (wordsE_lw D).sok
theorem eqvL_strs (zs : List Str) : PyData.eqv (.list (zs.map PyData.str)) (.list (zs.map PyData.str)) = true := by
  have := eqvAll_strs zs
  simp [PyData.eqv, this]
section
variable {w : World} {K : PySem.W.Frag} {mg : Str → Option Value} {base : Heap} {fa : Addr} {cdv : Value} {s : Shared} {H0 : Hp} {CT CE : Addr} {fX : Nat → Addr} {dX : Nat → FuncData}
theorem b2 (Y : Parts w K mg base CT CE fX dX) : ∃ t, PS (XL w K mg base fa cdv s H0) (inF 2) t ∧ ∀ (D0 l0 : Addr) (qs : List Addr) (es : List EndD) (z0 z1 z2 z4 z5 z6 z7 z8 z9 z10 z11 z12 z13 z14 z15 z16 : Option V) (H : Hp) (D : Ends), H l0 = some (.lst (qs.map V.ref)) → Plains D0 H qs es → es.length ≤ 4 →
    (∀ H', Same' H H' → D.nx [z0, z1, z2, some (.ref l0), z4, some (.str (textEs es)), z6, z7, z8, z9, z10, z11, z12, z13, z14, z15, z16] H') →
    t D [z0, z1, z2, some (.ref l0), z4, z5, z6, z7, z8, z9, z10, z11, z12, z13, z14, z15, z16] H := by
  have hr : Room 15 (XL w K mg base fa cdv s H0).A := hrX
  refine ⟨_, ps_set (i := 5) scLaw.nd rfl (.inl rfl) (pe_orT (pe_join pe_str (pe_lc (own := [("_law_plain_here", 15)]) (g := gName 15) (tt := tYes) rfl scLaw.nd (pi_list (pv 3)) (blkOk_by (N := nLaw) (sc := defScope sLaw) (by decide +kernel)) (fun _ _ _ _ _ => pg_name (i := 15) scLaw.nd rfl (Or.inl rfl)) (fun _ _ _ _ _ => pts_nil)
      (fun s1 H1 C1 cl1 fp1 => pe_call (X := (XL w K mg base fa cdv s H0).blk s1 H1 _ (compEnvC _ cl1 C1 (XL w K mg base fa cdv s H0).env) fp1) Y.line.G (hr.mono (by decide)) (by rfl) Y.line.g Y.line.F.kp Y.line.b .nil pass0 (pa_cons (pv 15) pa_nil)))) (pe_one pe_str)), ?_⟩
  intro D0 l0 qs es z0 z1 z2 z4 z5 z6 z7 z8 z9 z10 z11 z12 z13 z14 z15 z16 H D hl pl few q
  have dr := plains_drawn pl
  have G : ∀ e ∈ es, GoodE e := fun e he => (dr e he).fits.g
  have fw := fewEs G (by omega)
  refine ⟨⟨_, rfl⟩, _, rfl, l0, rfl, ⟨_, SqL.of hl⟩, fun D1 hD => ?_⟩
  refine lc_list (K := K) (a := l0) (xs := qs.map V.ref) (fun i H' => Same' H H' ∧ H' D1 = some (.lst (((es.take i).map textE).map V.str))) ⟨same_new hD, upd_same⟩ (fun i H' _ hp => SqL.of (hp.1 _ _ hl)) (fun i v H' hv hp => ?_) (fun H1 hp => ?_)
  · obtain ⟨sm, ed⟩ := hp
    rw [List.getElem?_map] at hv
    cases eq : qs[i]? with
    | none => rw [eq] at hv; cases hv
    | some a =>
      rw [eq] at hv
      injection hv with hv
      subst hv
      obtain ⟨e, he, de, cp, lp, pa⟩ := plains_at (plains_keep sm pl) eq
      refine ⟨rfl, _, rfl, a, e, cp, lp, rfl, pa, de.fits.g, fun H3 k3 => ⟨_, k3 _ _ ed, small1000 ?_, same_over hD (sm.trans k3), ?_⟩⟩
      · rw [List.length_map, List.length_map, List.length_take]
        omega
      · rw [upd_same]
        show some (HO.lst (((es.take i).map textE).map V.str ++ [V.str (textE e)])) = _
        rw [← take_next' textE he, List.map_append]
        rfl
  · obtain ⟨sm, ed⟩ := hp
    rw [List.length_map, plains_len pl, List.take_length] at ed
    refine ⟨_, D1, es.map textE, rfl, rfl, .inl (SqL.of ed), fw.1, _, ⟨by rw [sizeLine_eq]; omega, rfl⟩, ?_⟩
    have q' := q H1 sm
    unfold textEs at q'
    cases es with
    | nil =>
      rw [if_neg (by decide +kernel)]
      exact q'
    | cons x r =>
      have l := len_join_pos (y := " / ") (z := textE x) (r := r.map textE) textE_pos
      rw [← TL.join_eq] at l
      rw [if_pos]
      · exact q'
      · show (((Txt.join " / " (textE x :: r.map textE)).length : Int) != 0) = true
        simp
        omega
theorem read_ok {CT CE : Addr} {es : List EndD} {z : Str} (L : LineOf es z) {H : Hp} {Q : VK} {E : XK} (q : ∀ (t : Addr) (as : List Addr) (H' : Hp), Same' H H' → H' t = some (.tup (as.map V.ref)) → EndsAt CE H' as es → Q (.ref t) H') : spRead K CT CE [.str z] H Q E := by
  refine ⟨_, rfl, .inl ⟨z, wordsEs es, rfl, L.sp, by have := L.len; omega, by have := L.lw.few; omega, fun y hy => by have := (L.lw.tok y hy).len; omega, ?_⟩⟩
  rw [L.rd]
  exact q
theorem b3 (Y : Parts w K mg base CT CE fX dX) : ∃ t, PT (XL w K mg base fa cdv s H0) (testIf (inF 3)) t ∧ ∀ (ta : Addr) (as : List Addr) (es : List EndD) (z : Str) (z0 z1 z2 z3 z6 z7 z8 z9 z10 z11 z12 z13 z14 z15 z16 : Option V) (H : Hp) (Q : Bool → Hp → Prop), LineOf es z → H ta = some (.tup (as.map V.ref)) → EndsAt CE H as es → es.length ≤ 4 → (∀ H', Same' H H' → Q false H') →
    t [z0, z1, z2, z3, some (.ref ta), some (.str z), z6, z7, z8, z9, z10, z11, z12, z13, z14, z15, z16] H Q := by
  have hr : Room 15 (XL w K mg base fa cdv s H0).A := hrX
  have eq : EqG (XL w K mg base fa cdv s H0) 1 (DIns CE (SamE CE)) := eqG_ins (E := noX) Y.qG Y.qs Y.qf Y.qb pass0
  refine ⟨_, PW.pt (pw_or (pt_cmpR op_ne (pe_callG Y.eG (hr.mono (by decide)) hgX (by rfl) Y.eg Y.ek Y.eb .nil pass0 (pa_cons (pv 4) pa_nil)) (pv 5) (nomark _))
    (pw_or (pt_cmpR (op_neTup mon_ends eq (hr.mono (by decide))) (pe_call Y.rG (hr.mono (by decide)) (by rfl) Y.rg Y.rk Y.rb .nil passNo (pa_cons (pv 5) pa_nil)) (pv 4) (nomark _))
    (pw_or1 (pt_cmpR (op_neTup mon_ends eq (hr.mono (by decide))) (pe_callKw Y.rG (hr.mono (by decide)) (by rfl) Y.rg Y.rk Y.rkb passNo (pk_cons (pv 5) pk_nil)) (pv 4) (nomark _))))), ?_⟩
  intro ta as es z z0 z1 z2 z3 z6 z7 z8 z9 z10 z11 z12 z13 z14 z15 z16 H Q L ht ea few q
  refine ⟨_, rfl, ta, as, es, rfl, ht, ea, by omega, fun H1 s1 => ⟨_, rfl, rfl, _, rfl, ?_⟩⟩
  rw [L.is, decide_eq_true rfl]
  refine iteF ⟨_, rfl, ?_⟩
  have L' : LineOf es (textEs es) := L.is ▸ L
  dsimp only [tNil, kwG, List.append_nil, List.nil_append, List.cons_append]
  refine read_ok L' fun t2 as2 H2 s2 ht2 ea2 => ⟨_, rfl, ⟨t2, ta, _, _, rfl, rfl, SqT.of ht2, SqT.of ((s1.trans s2) _ _ ht), ends_prs ea2 (ends_keep (s1.trans s2) ea)⟩, fun H3 s3 => ⟨_, rfl, iteF ⟨_, rfl, ?_⟩⟩⟩
  have s13 := (s1.trans s2).trans s3
  dsimp only [tNil, kwG, List.append_nil, List.nil_append, List.cons_append]
  refine read_ok L' fun t4 as4 H4 s4 ht4 ea4 => ⟨_, rfl, ⟨t4, ta, _, _, rfl, rfl, SqT.of ht4, SqT.of ((s13.trans s4) _ _ ht), ends_prs ea4 (ends_keep (s13.trans s4) ea)⟩, fun H5 s5 => ⟨_, rfl, ?_⟩⟩
  exact q H5 ((s13.trans s4).trans s5)
theorem b4 (Y : Parts w K mg base CT CE fX dX) : ∃ t, PT (XL w K mg base fa cdv s H0) (testIf (inF 4)) t ∧ ∀ (D0 l0 ta : Addr) (qs as : List Addr) (es : List EndD) (z : Str) (z0 z1 z2 z6 z7 z8 z9 z10 z11 z12 z13 z14 z15 z16 : Option V) (H : Hp) (Q : Bool → Hp → Prop), LineOf es z → H l0 = some (.lst (qs.map V.ref)) → Plains D0 H qs es → H ta = some (.tup (as.map V.ref)) → EndsAt CE H as es → es.length ≤ 4 → (∀ H', Same' H H' → Q false H') →
    t [z0, z1, z2, some (.ref l0), some (.ref ta), some (.str z), z6, z7, z8, z9, z10, z11, z12, z13, z14, z15, z16] H Q := by
  have hr : Room 15 (XL w K mg base fa cdv s H0).A := hrX
  have hg : (XL w K mg base fa cdv s H0).A.guards = some [] := hgX
  have hu : (XL w K mg base fa cdv s H0).A.units + 64 < cLine := hr.units
  refine ⟨_, PW.pt (pw_or (pt_cmpR (op_neD hu) (pe_lc (own := [("_law_one", 16)]) (g := gName 16) (tt := tYes) rfl scLaw.nd (pi_tup (pv 4)) (blkOk_by (N := nLaw) (sc := defScope sLaw) (by decide +kernel)) (fun _ _ _ _ _ => pg_name (i := 16) scLaw.nd rfl (Or.inl rfl)) (fun _ _ _ _ _ => pts_nil)
          (fun s1 H1 C1 cl1 fp1 => show PE _ _ (tCB (rStrE CE) _) from pe_callTy (call_strE (X := (XL w K mg base fa cdv s H0).blk s1 H1 _ (compEnvC _ cl1 C1 (XL w K mg base fa cdv s H0).env) fp1) Y.S (hr.mono (by decide)) hg) (by rfl) Y.T.str (by decide +kernel) (pa_cons (pv 16) pa_nil)))
        (pe_lc (own := [("_law_plain_here", 15)]) (g := gName 15) (tt := tYes) rfl scLaw.nd (pi_list (pv 3)) (blkOk_by (N := nLaw) (sc := defScope sLaw) (by decide +kernel)) (fun _ _ _ _ _ => pg_name (i := 15) scLaw.nd rfl (Or.inl rfl)) (fun _ _ _ _ _ => pts_nil)
          (fun s1 H1 C1 cl1 fp1 => pe_call (X := (XL w K mg base fa cdv s H0).blk s1 H1 _ (compEnvC _ cl1 C1 (XL w K mg base fa cdv s H0).env) fp1) Y.line.G (hr.mono (by decide)) (by rfl) Y.line.g Y.line.F.kp Y.line.b .nil pass0 (pa_cons (pv 15) pa_nil))) (nomark _))
    (pw_or1 (pt_not (pt_val (pe_callB call_isi (by rfl) Y.T.isi (by decide +kernel) (pa_cons (pe_call Y.rG (hr.mono (by decide)) (by rfl) Y.rg Y.rk Y.rb .nil passNo (pa_cons (pv 5) pa_nil)) (pa_cons (pe_bltn (by rfl) Y.T.tuple (by decide +kernel) (show RelV (.ty "tuple") _ from rfl)) pa_nil))))))), ?_⟩
  intro D0 l0 ta qs as es z z0 z1 z2 z6 z7 z8 z9 z10 z11 z12 z13 z14 z15 z16 H Q L hl pl ht ea few q
  refine ⟨_, rfl, ta, rfl, ⟨_, SqT.of ht⟩, fun D1 hD => ?_⟩
  refine lc_tup (K := K) (a := ta) (xs := as.map V.ref) (fun i H' => Same' H H' ∧ H' D1 = some (.lst (((es.take i).map textE).map V.str))) ⟨same_new hD, upd_same⟩ (fun i H' _ hp => SqT.of (hp.1 _ _ ht)) (fun i v H' hv hp => ?_) (fun H1 hp => ?_)
  · obtain ⟨sm, ed⟩ := hp
    rw [List.getElem?_map] at hv
    cases e : as[i]? with
    | none => rw [e] at hv; cases hv
    | some a =>
      rw [e] at hv
      injection hv with hv
      subst hv
      obtain ⟨x, hx, eax, G⟩ := ends_at (ends_keep sm ea) e
      refine ⟨rfl, ⟨_, rfl, a, x, rfl, eax, G, fun H3 k3 => ⟨_, k3 _ _ ed, small1000 ?_, same_over hD (sm.trans k3), ?_⟩⟩⟩
      · rw [List.length_map, List.length_map, List.length_take]
        omega
      · rw [upd_same]
        show some (HO.lst (((es.take i).map textE).map V.str ++ [V.str (textE x)])) = _
        rw [← take_next' textE hx, List.map_append]
        rfl
  · obtain ⟨sm, ed⟩ := hp
    rw [List.length_map, ends_len ea, List.take_length] at ed
    refine ⟨_, rfl, l0, rfl, ⟨_, SqL.of (sm _ _ hl)⟩, fun D2 hD2 => ?_⟩
    refine lc_list (K := K) (a := l0) (xs := qs.map V.ref) (fun i H' => Same' H1 H' ∧ H' D2 = some (.lst (((es.take i).map textE).map V.str))) ⟨same_new hD2, upd_same⟩ (fun i H' _ hp => SqL.of (hp.1 _ _ (sm _ _ hl))) (fun i v H' hv hp => ?_) (fun H2 hp => ?_)
    · obtain ⟨sm2, ed2⟩ := hp
      rw [List.getElem?_map] at hv
      cases eq : qs[i]? with
      | none => rw [eq] at hv; cases hv
      | some a =>
        rw [eq] at hv
        injection hv with hv
        subst hv
        obtain ⟨e, he, de, cp, lp, pa⟩ := plains_at (plains_keep (sm.trans sm2) pl) eq
        refine ⟨rfl, _, rfl, a, e, cp, lp, rfl, pa, de.fits.g, fun H3 k3 => ⟨_, k3 _ _ ed2, small1000 ?_, same_over hD2 (sm2.trans k3), ?_⟩⟩
        · rw [List.length_map, List.length_map, List.length_take]
          omega
        · rw [upd_same]
          show some (HO.lst (((es.take i).map textE).map V.str ++ [V.str (textE e)])) = _
          rw [← take_next' textE he, List.map_append]
          rfl
    · obtain ⟨sm2, ed2⟩ := hp
      rw [List.length_map, plains_len pl, List.take_length] at ed2
      have ok : ∀ z ∈ es.map textE, PyData.strOk z = true := fun z hz => by
        obtain ⟨e, he, rfl⟩ := List.mem_map.mp hz
        exact textE_ok (plains_drawn pl e he)
      refine ⟨.list ((es.map textE).map PyData.str), .list ((es.map textE).map PyData.str), .lst (SqL.of (sm2 _ _ ed)) (dpStrs _), .lst (SqL.of ed2) (dpStrs _), shapedL_strs _ ok, shapedL_strs _ ok, _, rfl, ?_⟩
      rw [eqvL_strs]
      refine iteF ⟨_, rfl, ?_⟩
      dsimp only [tNil, kwG, List.append_nil, List.nil_append, List.cons_append]
      refine read_ok L fun t2 as2 H3 s3 ht2 ea2 => ⟨.ref t2, .ty "tuple", .type "tuple", .type "tuple", true, rfl, .ty "tuple", .base (.tup ht2), kit_ty (by decide +kernel), true, rfl, ?_⟩
      exact q H3 ((sm.trans sm2).trans s3)
end
end My
namespace My
open PySem PySem.Spec PyProof.Rows L2
theorem read_good {ws : List Str} {es : List EndD} (n : ws.length ≤ 120) (h : readF ws = .ok es) : ∀ e ∈ es, GoodE e := by
  have r := read_of (ws := ws)
  rw [h] at r
  cases r with
  | ok h l =>
    cases h with
    | bar _ => exact fun e he => by cases he
    | more _ t m =>
      have a := end_on t
      exact (rest_good n m (fun e he => by rw [List.mem_singleton.mp he]; exact end_good n t) (by simp; omega) _ _ rfl).1
theorem read_page {ws : List Str} {es : List EndD} (n : ws.length ≤ 120) (h : readF ws = .ok es) : textEs es = Str.join " " ws := by
  rw [textEs_is (read_good n h), read_back h]
def fixW (ws : List Str) : List Str := if ws.isEmpty then [""] else ws
theorem Lw.bent {ws ws' : List Str} {n : Nat} (L : Lw ws n) (b : Bent ws ws') : Lw (fixW ws') (n + 1) := by
  unfold fixW
  cases ws' with
  | nil => exact ⟨by simp, by simp, fun z hz => by rw [List.mem_singleton.mp (show z ∈ ([""] : List Str) from hz)]; exact tok_in (by simp)⟩
  | cons x r =>
    refine ⟨by simp, ?_, fun z hz => ?_⟩
    · have := b.few
      have := L.few
      show (x :: r).length ≤ n + 1
      omega
    · rcases b.mem z hz with h | h
      · exact L.tok z h
      · exact tok_in (odds_toks z h)
theorem pair_shaped (j : Int) : SeqAt.shaped (.tuple [.int 0, .int j]) = true := by simp [SeqAt.shaped, PyData.canLay0, PyData.canLayAll0, PyData.depth, PyData.depthAll]
theorem pair_eqv (j : Int) : PyData.eqv (.tuple [.int 0, .int j]) (.tuple [.int 0, .int j]) = true := by simp [PyData.eqv, PyData.eqvAll]
theorem Lw.sumOk {ws : List Str} {n : Nat} (L : Lw ws n) (h : n ≤ 120) : (ws.map (·.length)).sum + ws.length * (" " : Str).length ≤ 16777216 := by
  have a := sum_len (B := 9) fun z hz => (L.tok z hz).len
  have := L.few
  rw [one_space]
  omega
section
variable {w : World} {K : PySem.W.Frag} {mg : Str → Option Value} {base : Heap} {fa : Addr} {cdv : Value} {s : Shared} {H0 : Hp} {CT CE : Addr} {fX : Nat → Addr} {dX : Nat → FuncData}
abbrev inG (i : Nat) : Stmt := (forBody (inF 6)).getD i (.Pass ⟨0, 0, 0, 0⟩)
theorem g0 (Y : Parts w K mg base CT CE fX dX) : ∃ t, PS (XL w K mg base fa cdv s H0) (inG 0) t ∧ ∀ (p cc wl : Addr) (ns : List Int) (B : Int) (ws : List Str) (n : Nat) (z0 z2 z3 z4 z5 z7 z8 z9 z10 z11 z12 z13 z14 z15 z16 : Option V) (H : Hp) (D : Ends), PenAt H p cc ns B → B + 3 ≤ 1000 → H wl = some (.lst (vsS ws)) → Lw ws n → n ≤ 100 →
    (∀ (wl' : Addr) (ws' : List Str) H', H' wl' = some (.lst (vsS ws')) → Lw ws' (n + 1) → PenAt H' p cc ns (B + 3) → Off p H H' → D.nx [z0, some (.ref p), z2, z3, z4, z5, some (.ref wl'), z7, z8, z9, z10, z11, z12, z13, z14, z15, z16] H') →
    t D [z0, some (.ref p), z2, z3, z4, z5, some (.ref wl), z7, z8, z9, z10, z11, z12, z13, z14, z15, z16] H := by
  have hr : Room 15 (XL w K mg base fa cdv s H0).A := hrX
  refine ⟨_, ps_set (i := 6) scLaw.nd rfl (.inl rfl) (pe_orT (pe_call Y.bent.G (hr.mono (by decide)) (by rfl) Y.bent.g Y.bent.F.kp Y.bent.b .nil pass0 (pa_cons (pv 1) (pa_cons (pv 6) pa_nil))) (pe_one (pe_lst (pa_cons pe_str pa_nil)))), ?_⟩
  intro p cc wl ns B ws n z0 z2 z3 z4 z5 z7 z8 z9 z10 z11 z12 z13 z14 z15 z16 H D PA hB hw L hn q
  refine ⟨_, rfl, _, rfl, p, cc, wl, ns, B, ws, rfl, PA, hB, hw, by have := L.few; omega, fun r ws' H' b hr' PA' off => ⟨_, .inl ⟨_, SqL.of hr', rfl⟩, ?_⟩⟩
  have Lb := L.bent b
  cases ws' with
  | nil =>
    refine iteF ⟨by show 1 ≤ sizeLine; decide, fun l hl => ?_⟩
    have kl := same_new (o := .lst [V.str ""]) hl
    exact q l [""] _ upd_same Lb (PA'.keep kl) (fun c o nb e => kl _ _ (off _ _ nb e))
  | cons x r2 => exact iteT (q r (x :: r2) H' hr' Lb PA' off)
theorem g1 (Y : Parts w K mg base CT CE fX dX) : ∃ t, PS (XL w K mg base fa cdv s H0) (inG 1) t ∧ ∀ (wl : Addr) (ws : List Str) (n : Nat) (z0 z1 z2 z3 z4 z5 z7 z8 z9 z10 z11 z12 z13 z14 z15 z16 : Option V) (H : Hp) (D : Ends), H wl = some (.lst (vsS ws)) → Lw ws n → n ≤ 100 →
    (∀ H', Same' H H' → D.nx [z0, z1, z2, z3, z4, z5, some (.ref wl), z7, some (dueV ws), some (.str (Str.join " " ws)), z10, z11, z12, z13, z14, z15, z16] H') →
    t D [z0, z1, z2, z3, z4, z5, some (.ref wl), z7, z8, z9, z10, z11, z12, z13, z14, z15, z16] H := by
  have hr : Room 15 (XL w K mg base fa cdv s H0).A := hrX
  refine ⟨_, ps_par (i := 8) (j := 9) rfl scLaw.nd rfl rfl (by decide) rfl rfl (pa_cons (pe_call Y.due.G (hr.mono (by decide)) (by rfl) Y.due.g Y.due.F.kp Y.due.b .nil pass0 (pa_cons (pe_join pe_str (pv 6)) pa_nil)) (pa_cons (pe_join pe_str (pv 6)) pa_nil)) (by rfl), ?_⟩
  intro wl ws n z0 z1 z2 z3 z4 z5 z7 z8 z9 z10 z11 z12 z13 z14 z15 z16 H D hw L hn q
  have jl := L.joinLen
  have fw := L.few
  refine ⟨⟨_, rfl⟩, _, rfl, _, wl, ws, rfl, rfl, .inl (SqL.of hw), L.sumOk (by omega), ?_⟩
  refine ⟨_, ws, rfl, ?_, ?_, L.ok (by omega), ?_, fun H1 s1 => ⟨⟨_, rfl⟩, _, rfl, _, wl, ws, rfl, rfl, .inl (SqL.of (s1 _ _ hw)), L.sumOk (by omega), _, _, rfl, ?_⟩⟩
  · rw [TL.join_eq]
    exact L.split
  · rw [TL.join_eq]
    omega
  · exact List.length_pos_iff.mpr L.ne
  · have z := q H1 s1
    rw [← TL.join_eq] at z
    exact z
theorem g2 (Y : Parts w K mg base CT CE fX dX) : ∃ t, PT (XL w K mg base fa cdv s H0) (testIf (inG 2)) t ∧ ∀ (ws : List Str) (n : Nat) (z0 z1 z2 z3 z4 z5 z6 z7 z10 z11 z12 z13 z14 z15 z16 : Option V) (H : Hp) (Q : Bool → Hp → Prop), Lw ws n → n ≤ 100 → (∀ H', Same' H H' → Q false H') →
    t [z0, z1, z2, z3, z4, z5, z6, z7, some (dueV ws), some (.str (Str.join " " ws)), z10, z11, z12, z13, z14, z15, z16] H Q := by
  have hr : Room 15 (XL w K mg base fa cdv s H0).A := hrX
  have hg : (XL w K mg base fa cdv s H0).A.guards = some [] := hgX
  have hu : (XL w K mg base fa cdv s H0).A.units + 64 < cLine := hr.units
  refine ⟨_, pt_cmpR (op_neD hu) (pe_callG Y.hG (hr.mono (by decide)) hg (by rfl) Y.hg Y.hk Y.hb .nil pass0 (pa_cons (pv 9) pa_nil)) (pe_ifExp (pt_cmp (pc_isN (pv 8))) (pe_lst (pa_cons (pv 9) pa_nil)) (pe_tup (pa_cons pe_int (pa_cons (pv 8) pa_nil)))) (nomark _), ?_⟩
  intro ws n z0 z1 z2 z3 z4 z5 z6 z7 z10 z11 z12 z13 z14 z15 z16 H Q L hn q
  have jl := L.joinLen
  have fw := L.few
  refine ⟨_, rfl, _, rfl, .inl ⟨_, ws, rfl, L.split, by omega, by omega, fun y hy => by have := (L.tok y hy).len; omega, ?_⟩⟩
  cases h : readF ws with
  | ok es =>
    intro p H1 s1 hp
    rw [read_page (by omega) h] at hp
    have e : dueV ws = .non := by
      unfold dueV
      rw [h]
    refine ⟨_, rfl, _, rfl, ?_⟩
    rw [e]
    refine iteT ⟨_, rfl, by show 1 ≤ sizeLine; decide, fun l hl => ?_⟩
    have kl := same_new (o := .lst [V.str (Str.join " " ws)]) hl
    have sh := shapedL_strs [Str.join " " ws] fun z hz => by rw [List.mem_singleton.mp hz]; exact L.sok
    refine ⟨.list [.str (Str.join " " ws)], .list [.str (Str.join " " ws)], .lst (SqL.of (kl _ _ hp)) (.cons (.str _) .nil), .lst (SqL.of upd_same) (.cons (.str _) .nil), sh, sh, _, rfl, ?_⟩
    rw [show PyData.eqv (.list [.str (Str.join " " ws)]) (.list [.str (Str.join " " ws)]) = true from eqvL_strs [Str.join " " ws]]
    exact q _ (s1.trans kl)
  | error j =>
    intro p H1 s1 hp
    have e : dueV ws = .int (j : Int) := by
      unfold dueV
      rw [h]
    refine ⟨_, rfl, _, rfl, ?_⟩
    rw [e]
    refine iteF ⟨_, rfl, by show 2 ≤ sizeLine; decide, fun l hl => ?_⟩
    have kl := same_new (o := .tup [V.int 0, .int (j : Int)]) hl
    refine ⟨.tuple [.int 0, .int (j : Int)], .tuple [.int 0, .int (j : Int)], .tup (SqT.of (kl _ _ hp)) (.cons (.int _) (.cons (.int _) .nil)), .tup (SqT.of upd_same) (.cons (.int _) (.cons (.int _) .nil)), pair_shaped _, pair_shaped _, _, rfl, ?_⟩
    rw [pair_eqv]
    exact q _ (s1.trans kl)
theorem b6 (Y : Parts w K mg base CT CE fX dX) : ∃ t, PS (XL w K mg base fa cdv s H0) (inF 6) t ∧ ∀ (p cc wl : Addr) (ns : List Int) (B : Int) (ws : List Str) (z0 z2 z3 z4 z5 z7 z8 z9 z10 z11 z12 z13 z14 z15 z16 : Option V) (H : Hp) (D : Ends), PenAt H p cc ns B → B + 12 ≤ 1000 → H wl = some (.lst (vsS ws)) → Lw ws 87 →
    (∀ (z6 z7 z8 z9 : Option V) H', PenAt H' p cc ns (B + 12) → Off p H H' → D.nx [z0, some (.ref p), z2, z3, z4, z5, z6, z7, z8, z9, z10, z11, z12, z13, z14, z15, z16] H') →
    t D [z0, some (.ref p), z2, z3, z4, z5, some (.ref wl), z7, z8, z9, z10, z11, z12, z13, z14, z15, z16] H := by
  obtain ⟨t0, h0, q0⟩ := g0 (w := w) (K := K) (mg := mg) (base := base) (fa := fa) (cdv := cdv) (s := s) (H0 := H0) Y
  obtain ⟨t1, h1, q1⟩ := g1 (w := w) (K := K) (mg := mg) (base := base) (fa := fa) (cdv := cdv) (s := s) (H0 := H0) Y
  obtain ⟨t2, h2, q2⟩ := g2 (w := w) (K := K) (mg := mg) (base := base) (fa := fa) (cdv := cdv) (s := s) (H0 := H0) Y
  refine ⟨_, ps_for PassesOwn.never rfl (pi_range1 (by rfl) Y.T.range (pa_cons pe_int pa_nil)) (pg_name (i := 7) scLaw.nd rfl (.inl rfl)) (pss_cons h0 (pss_cons h1 (pss_one (ps_if h2 (pss_one (ps_ret pe_bl)) pss_nil)))), ?_⟩
  intro p cc wl ns B ws z0 z2 z3 z4 z5 z7 z8 z9 z10 z11 z12 z13 z14 z15 z16 H D PA hB hw L q
  refine ⟨4, rfl, by decide, by decide, for_range (n := 4) (fun i σ H' => PenAt H' p cc ns (B + 3 * (i : Int)) ∧ Off p H H' ∧ ∃ wl ws z7 z8 z9, H' wl = some (.lst (vsS ws)) ∧ Lw ws (87 + i) ∧ σ = [z0, some (.ref p), z2, z3, z4, z5, some (.ref wl), z7, z8, z9, z10, z11, z12, z13, z14, z15, z16])
    ⟨PA.more (by omega), Off.rfl', wl, ws, z7, z8, z9, hw, L, rfl⟩ (fun i σ H' hi hp => ?_) (fun σ H' hp => ?_)⟩
  · obtain ⟨PA', off, wl, ws, z7, z8, z9, hw, L, rfl⟩ := hp
    refine q0 p cc wl ns _ ws (87 + i) _ _ _ _ _ _ _ _ _ _ _ _ _ _ _ H' _ PA' (by omega) hw L (by omega) fun wl' ws' H1 hw1 L1 PA1 o1 => ?_
    refine q1 wl' ws' (87 + i + 1) _ _ _ _ _ _ _ _ _ _ _ _ _ _ _ _ H1 _ hw1 L1 (by omega) fun H2 s2 => ?_
    refine q2 ws' (87 + i + 1) _ _ _ _ _ _ _ _ _ _ _ _ _ _ _ H2 _ L1 (by omega) fun H3 s3 => iteF ?_
    have s23 := s2.trans s3
    exact ⟨(PA1.keep s23).more (by omega), off.trans (o1.trans (fun b o _ e => s23 _ _ e)), wl', ws', _, _, _, s23 _ _ hw1, L1, rfl⟩
  · obtain ⟨PA', off, wl, ws, z7, z8, z9, hw, L, rfl⟩ := hp
    exact q _ _ _ _ H' (PA'.more (by simp)) off
end
end My
namespace My
open PySem PySem.Spec PyProof.Rows L2
abbrev lnA : List Str := ["", " ", "- -", "- done", "done /", "done ;", "done ; x", "done ; x 4", "done ; y 1 ; x 1", "done ; x 1 ; x 1", "failed"]
abbrev lnB : List Str := ["failed put", "done f", "done ; l a ; x 1", "done ; l - a", "done ; x 1 ; x -", "done ; l a 1", "done / / done"]
abbrev lns : List Str := ["", " ", "- -", "- done", "done /", "done ;", "done ; x", "done ; x 4", "done ; y 1 ; x 1", "done ; x 1 ; x 1", "failed", "failed put", "done f", "done ; l a ; x 1", "done ; l - a", "done ; x 1 ; x -", "done ; l a 1", "done / / done"]
abbrev duN : List Nat := [0, 0, 1, 1, 2, 2, 3, 3, 6, 5, 1, 1, 1, 6, 4, 5, 4, 2]
abbrev duI : List Int := [0, 0, 1, 1, 2, 2, 3, 3, 6, 5, 1, 1, 1, 6, 4, 5, 4, 2]
def errOf (r : Except Nat (List EndD)) : Option Nat := match r with
  | .error j => some j
  | .ok _ => none
theorem ln_due : ∀ i, i < 18 → errOf (readF (Txt.split (lns.getD i "") spc)) = some (duN.getD i 0) := by decide +kernel
theorem ln_ok : ∀ z ∈ lns, z.length ≤ 100 ∧ 1 ≤ (Txt.split z spc).length ∧ (Txt.split z spc).length ≤ 120 ∧ ∀ y ∈ Txt.split z spc, PyData.strOk y = true ∧ y.length ≤ 1000 := by decide +kernel
theorem du_at : ∀ i, i < 18 → duI[i]? = some ((duN.getD i 0 : Nat) : Int) ∧ lns[i]? = some (lns.getD i "") := by decide +kernel
theorem ln_read {i : Nat} (h : i < 18) : readF (Txt.split (lns.getD i "") spc) = .error (duN.getD i 0) := by
  have := ln_due i h
  cases e : readF (Txt.split (lns.getD i "") spc) with
  | ok es => rw [e] at this; cases this
  | error j =>
    rw [e] at this
    injection this with this
    rw [this]
abbrev duT : List PyData := duI.map fun d => .tuple [.int 0, .int d]
theorem duT_ok : SeqAt.shaped (.list duT) = true ∧ PyData.eqv (.list duT) (.list duT) = true ∧ PyData.eqv (.list (duI.map PyData.int)) (.list (duI.map PyData.int)) = true := by decide +kernel
abbrev PairT (H : Hp) : List Addr → List Int → Prop := Paired fun p d => H p = some (.tup [.int 0, .int d])
theorem pairT_map {H H' : Hp} (k : ∀ (p : Addr) (xs : List V), H p = some (.tup xs) → H' p = some (.tup xs)) : ∀ {ps : List Addr} {ds : List Int}, PairT H ps ds → PairT H' ps ds
  | _, _, .nil => .nil
  | _, _, .cons h r => .cons (k _ _ h) (pairT_map k r)
theorem pairT_snoc {H : Hp} {p : Addr} {d : Int} (h : H p = some (.tup [.int 0, .int d])) : ∀ {ps : List Addr} {ds : List Int}, PairT H ps ds → PairT H (ps ++ [p]) (ds ++ [d])
  | _, _, .nil => .cons h .nil
  | _, _, .cons a r => .cons a (pairT_snoc h r)
theorem pairT_len {H : Hp} : ∀ {ps : List Addr} {ds : List Int}, PairT H ps ds → ps.length = ds.length
  | _, _, .nil => rfl
  | _, _, .cons _ r => congrArg Nat.succ (pairT_len r)
theorem pairT_dp {K : PySem.W.Frag} {H : Hp} : ∀ {ps : List Addr} {ds : List Int}, PairT H ps ds → DpAll K H (ps.map V.ref) (ds.map fun d => PyData.tuple [.int 0, .int d])
  | _, _, .nil => .nil
  | _, _, .cons h r => .cons (.tup (SqT.of h) (.cons (.int _) (.cons (.int _) .nil))) (pairT_dp r)
section
variable {w : World} {K : PySem.W.Frag} {mg : Str → Option Value} {base : Heap} {fa : Addr} {cdv : Value} {s : Shared} {H0 : Hp} {CT CE : Addr} {fX : Nat → Addr} {dX : Nat → FuncData}
theorem b7 (Y : Parts w K mg base CT CE fX dX) : ∃ t, PT (XL w K mg base fa cdv s H0) (testIf (inF 7)) t ∧ ∀ (p cc ta : Addr) (as : List Addr) (ns : List Int) (B : Int) (z : Str) (z0 z2 z3 z6 z7 z8 z9 z10 z11 z12 z13 z14 z15 z16 : Option V) (H : Hp) (Q : Bool → Hp → Prop), PenAt H p cc ns B → B ≤ 999 → H ta = some (.tup (as.map V.ref)) → (∀ H', PenAt H' p cc ns (B + 1) → Off p H H' → Q false H') →
    t [z0, some (.ref p), z2, z3, some (.ref ta), some (.str z), z6, z7, z8, z9, z10, z11, z12, z13, z14, z15, z16] H Q := by
  have hr : Room 15 (XL w K mg base fa cdv s H0).A := hrX
  have hg : (XL w K mg base fa cdv s H0).A.guards = some [] := hgX
  have hu : (XL w K mg base fa cdv s H0).A.units + 64 < cLine := hr.units
  refine ⟨_, pt_cmpR (op_neD hu) (pe_callG Y.hG (hr.mono (by decide)) hg (by rfl) Y.hg Y.hk Y.hb .nil pass0 (pa_cons (pe_call Y.pick.G (hr.mono (by decide)) (by rfl) Y.pick.g Y.pick.F.kp Y.pick.b .nil pass0 (pa_cons (pv 1) (pa_cons (pe_lst (pa_cons pe_non (pa_cons pe_int (pa_cons pe_bl (pa_cons (pe_tup pa_nil) (pa_cons (pe_lst (pa_cons (pv 5) pa_nil)) (pa_cons (pe_tup (pa_cons (pv 5) pa_nil)) (pa_cons pe_dnewK (pa_cons (pv 4) pa_nil))))))))) pa_nil))) pa_nil)) (pe_tup (pa_cons pe_int (pa_cons pe_int pa_nil))) (nomark _), ?_⟩
  intro p cc ta as ns B z z0 z2 z3 z6 z7 z8 z9 z10 z11 z12 z13 z14 z15 z16 H Q PA hB ht q
  refine ⟨_, rfl, Nat.zero_le _, fun a1 h1 => ⟨_, rfl, by show 1 ≤ sizeLine; decide, fun a2 h2 => ⟨_, rfl, by show 1 ≤ sizeLine; decide, fun a3 h3 => fun a4 h4 => ⟨_, rfl, by show 8 ≤ sizeLine; decide, fun l hl => ?_⟩⟩⟩⟩
  have k1 := same_new (o := .tup []) h1
  have k2 := same_new (o := .lst [V.str z]) h2
  have k3 := same_new (o := .tup [V.str z]) h3
  have k4 := same_new (o := .dK []) h4
  have k5 := same_new (o := .lst [V.non, .int 0, .bl true, .ref a1, .ref a2, .ref a3, .ref a4, .ref ta]) hl
  have kk := (((k1.trans k2).trans k3).trans k4).trans k5
  have PA5 := PA.keep kk
  have nl : l ≠ p := (pen_new ((((PA.keep k1).keep k2).keep k3).keep k4) hl).1
  have n2 : a2 ≠ p := (pen_new (PA.keep k1) h2).1
  refine ⟨p, cc, ns, B, .ref l, [V.non, .int 0, .bl true, .ref a1, .ref a2, .ref a3, .ref a4, .ref ta], rfl, PA5, by omega, .inl ⟨l, rfl, nl, upd_same⟩, by show 1 ≤ 8; decide, by show 8 ≤ 1000; decide, fun v H1 hv PA6 o6 => ?_⟩
  have e1 := off_tup PA5 o6 (((k2.trans k3).trans (k4.trans k5)) _ _ (show (upd H a1 (.tup [])) a1 = _ from upd_same))
  have e2 := o6 _ _ n2 ((k3.trans (k4.trans k5)) _ _ (show (upd (upd H a1 (.tup [])) a2 (.lst [V.str z])) a2 = _ from upd_same))
  have e3 := off_tup PA5 o6 ((k4.trans k5) _ _ (show (upd (upd (upd H a1 (.tup [])) a2 (.lst [V.str z])) a3 (.tup [V.str z])) a3 = _ from upd_same))
  have n4 : a4 ≠ p := (pen_new (((PA.keep k1).keep k2).keep k3) h4).1
  have e4 := o6 _ _ n4 (k5 _ _ (show (upd (upd (upd (upd H a1 (.tup [])) a2 (.lst [V.str z])) a3 (.tup [V.str z])) a4 (.dK [])) a4 = _ from upd_same))
  have e5 := off_tup PA5 o6 (kk _ _ ht)
  have nt : ∀ H', Same' H1 H' → NoText K H' v := fun H' s' => by
    simp only [List.mem_cons, List.not_mem_nil, or_false] at hv
    rcases hv with rfl | rfl | rfl | rfl | rfl | rfl | rfl | rfl
    · exact ⟨"NoneType", .base .non, by decide +kernel⟩
    · exact ⟨"int", .base (.int _), by decide +kernel⟩
    · exact ⟨"bool", .base (.bl _), by decide +kernel⟩
    · exact ⟨"tuple", .base (.tup (s' _ _ e1)), by decide +kernel⟩
    · exact ⟨"list", .base (.lst (s' _ _ e2)), by decide +kernel⟩
    · exact ⟨"tuple", .base (.tup (s' _ _ e3)), by decide +kernel⟩
    · exact ⟨"dict", .base (.dK (s' _ _ e4)), by decide +kernel⟩
    · exact ⟨"tuple", .base (.tup (s' _ _ e5)), by decide +kernel⟩
  refine ⟨v, rfl, .inr ⟨nt, fun r H2 s2 hr' => ⟨by show 2 ≤ sizeLine; decide, fun u hu' => ?_⟩⟩⟩
  have ku := same_new (o := .tup [V.int 0, .int 0]) hu'
  refine ⟨.tuple [.int 0, .int 0], .tuple [.int 0, .int 0], .tup (SqT.of (ku _ _ hr')) (.cons (.int _) (.cons (.int _) .nil)), .tup (SqT.of upd_same) (.cons (.int _) (.cons (.int _) .nil)), pair_shaped _, pair_shaped _, _, rfl, ?_⟩
  rw [pair_eqv]
  have s3 := s2.trans ku
  exact q _ (PA6.keep s3) (fun b o nb e => s3 _ _ (o6 _ _ nb (kk _ _ e)))
/-- the last row -/
theorem last5 (Y : Parts w K mg base CT CE fX dX) : ∃ t, PS (XL w K mg base fa cdv s H0) (inL 5) t ∧ ∀ (lA dA : Addr) (z0 z1 z2 z3 z4 z5 z6 z7 z8 z9 z12 z13 z14 z15 z16 : Option V) (H : Hp) (D : Ends), H lA = some (.lst (vsS lns)) → H dA = some (.lst (duI.map V.int)) → (∀ H', D.rt (.bl true) H') →
    t D [z0, z1, z2, z3, z4, z5, z6, z7, z8, z9, some (.ref lA), some (.ref dA), z12, z13, z14, z15, z16] H := by
  have hr : Room 15 (XL w K mg base fa cdv s H0).A := hrX
  have hg : (XL w K mg base fa cdv s H0).A.guards = some [] := hgX
  have hu : (XL w K mg base fa cdv s H0).A.units + 64 < cLine := hr.units
  refine ⟨_, ps_ret (pe_and (pe_cmpR (op_eqD hu) (pe_lc (own := [("_law_line_here", 5)]) (g := gName 5) (tt := tYes) rfl scLaw.nd (pi_list (pv 10)) (blkOk_by (N := nLaw) (sc := defScope sLaw) (by decide +kernel)) (fun _ _ _ _ _ => pg_name (i := 5) scLaw.nd rfl (Or.inl rfl)) (fun _ _ _ _ _ => pts_nil)
          (fun s1 H1 C1 cl1 fp1 => pe_call (X := (XL w K mg base fa cdv s H0).blk s1 H1 _ (compEnvC _ cl1 C1 (XL w K mg base fa cdv s H0).env) fp1) Y.due.G (hr.mono (by decide)) (by rfl) Y.due.g Y.due.F.kp Y.due.b .nil pass0 (pa_cons (pv 5) pa_nil))) (pv 11) (nomark _))
      (pe_one (pe_cmpR (op_eqD hu) (pe_lc (own := [("_law_line_here", 5)]) (g := gName 5) (tt := tYes) rfl scLaw.nd (pi_list (pv 10)) (blkOk_by (N := nLaw) (sc := defScope sLaw) (by decide +kernel)) (fun _ _ _ _ _ => pg_name (i := 5) scLaw.nd rfl (Or.inl rfl)) (fun _ _ _ _ _ => pts_nil)
          (fun s1 H1 C1 cl1 fp1 => pe_callG (X := (XL w K mg base fa cdv s H0).blk s1 H1 _ (compEnvC _ cl1 C1 (XL w K mg base fa cdv s H0).env) fp1) Y.hG (hr.mono (by decide)) hg (by rfl) Y.hg Y.hk Y.hb .nil pass0 (pa_cons (pv 5) pa_nil)))
        (pe_lc (own := [("_law_due_here", 8)]) (g := gName 8) (tt := tYes) rfl scLaw.nd (pi_list (pv 11)) (blkOk_by (N := nLaw) (sc := defScope sLaw) (by decide +kernel)) (fun _ _ _ _ _ => pg_name (i := 8) scLaw.nd rfl (Or.inl rfl)) (fun _ _ _ _ _ => pts_nil)
          (fun _ _ _ _ _ => pe_tup (pa_cons pe_int (pa_cons (pv 8) pa_nil)))) (nomark _)))), ?_⟩
  intro lA dA z0 z1 z2 z3 z4 z5 z6 z7 z8 z9 z12 z13 z14 z15 z16 H D hl hd q
  refine ⟨_, rfl, lA, rfl, ⟨_, SqL.of hl⟩, fun D1 hD => ?_⟩
  refine lc_list (K := K) (a := lA) (xs := vsS lns) (fun i H' => Same' H H' ∧ H' D1 = some (.lst ((duI.take i).map V.int))) ⟨same_new hD, upd_same⟩ (fun i H' _ hp => SqL.of (hp.1 _ _ hl)) (fun i v H' hv hp => ?_) (fun H1 hp => ?_)
  · obtain ⟨sm, ed⟩ := hp
    have hi : i < 18 := (List.getElem?_eq_some_iff.mp hv).1
    have hv' : (lns.map V.str)[i]? = some v := hv
    rw [List.getElem?_map, (du_at i hi).2] at hv'
    injection hv' with hv'
    subst hv'
    have hm := List.mem_of_getElem? (du_at i hi).2
    obtain ⟨o1, o2, o3, o4⟩ := ln_ok _ hm
    refine ⟨rfl, _, rfl, _, _, rfl, rfl, by omega, ⟨o3, fun y hy => (o4 y hy).1, fun y hy => (o4 y hy).2⟩, o2, fun H3 k3 => ?_⟩
    have e : dueV (Txt.split (lns.getD i "") spc) = .int ((duN.getD i 0 : Nat) : Int) := by
      unfold dueV
      rw [ln_read hi]
    rw [e]
    refine ⟨_, k3 _ _ ed, small1000 ?_, same_over hD (sm.trans k3), ?_⟩
    · rw [List.length_map, List.length_take]
      exact Nat.le_trans (Nat.min_le_right _ _) (by decide)
    · rw [upd_same, List.take_add_one, (du_at i hi).1, List.map_append]
      rfl
  · obtain ⟨sm, ed⟩ := hp
    have ed' : H1 D1 = some (.lst (duI.map V.int)) := ed
    refine ⟨_, rfl, .list (duI.map PyData.int), .list (duI.map PyData.int), .lst (SqL.of ed') (dpInts _), .lst (SqL.of (sm _ _ hd)) (dpInts _), shaped_ints _, shaped_ints _, ?_⟩
    rw [duT_ok.2.2]
    refine ⟨true, rfl, iteT ?_⟩
    refine ⟨_, rfl, lA, rfl, ⟨_, SqL.of (sm _ _ hl)⟩, fun D2 hD2 => ?_⟩
    refine lc_list (K := K) (a := lA) (xs := vsS lns) (fun i H' => Same' H1 H' ∧ ∃ ps, H' D2 = some (.lst (ps.map V.ref)) ∧ PairT H' ps (duI.take i)) ⟨same_new hD2, [], upd_same, .nil⟩ (fun i H' _ hp => SqL.of (hp.1 _ _ (sm _ _ hl))) (fun i v H' hv hp => ?_) (fun H2 hp => ?_)
    · obtain ⟨sm2, ps, ed2, pt⟩ := hp
      have hi : i < 18 := (List.getElem?_eq_some_iff.mp hv).1
      have hv' : (lns.map V.str)[i]? = some v := hv
      rw [List.getElem?_map, (du_at i hi).2] at hv'
      injection hv' with hv'
      subst hv'
      have hm := List.mem_of_getElem? (du_at i hi).2
      obtain ⟨o1, o2, o3, o4⟩ := ln_ok _ hm
      refine ⟨rfl, _, rfl, _, rfl, .inl ⟨_, _, rfl, rfl, by omega, o3, fun y hy => (o4 y hy).2, ?_⟩⟩
      rw [ln_read hi]
      intro r H3 k3 hr3
      have ed3 := k3 _ _ ed2
      have pl := pairT_len pt
      have kt : ∀ (p : Addr) (xs : List V), H3 p = some (.tup xs) → (upd H3 D2 (.lst (ps.map V.ref ++ [.ref r]))) p = some (.tup xs) := fun p xs e => by
        rw [upd_ne fun y => by rw [y, ed3] at e; cases e]
        exact e
      refine ⟨_, ed3, small1000 ?_, same_over hD2 (sm2.trans k3), ps ++ [r], ?_, ?_⟩
      · rw [List.length_map, pl, List.length_take]
        exact Nat.le_trans (Nat.min_le_right _ _) (by decide)
      · rw [upd_same, List.map_append]
        rfl
      · rw [List.take_add_one, (du_at i hi).1]
        exact pairT_snoc (kt _ _ hr3) (pairT_map kt (pairT_map (fun p xs e => k3 _ _ e) pt))
    · obtain ⟨sm2, ps, ed2, pt⟩ := hp
      refine ⟨_, rfl, dA, rfl, ⟨_, SqL.of ((sm.trans sm2) _ _ hd)⟩, fun D3 hD3 => ?_⟩
      refine lc_list (K := K) (a := dA) (xs := duI.map V.int) (fun i H' => Same' H2 H' ∧ ∃ ps, H' D3 = some (.lst (ps.map V.ref)) ∧ PairT H' ps (duI.take i)) ⟨same_new hD3, [], upd_same, .nil⟩ (fun i H' _ hp => SqL.of (hp.1 _ _ ((sm.trans sm2) _ _ hd))) (fun i v H' hv hp => ?_) (fun H3 hp => ?_)
      · obtain ⟨sm3, qs, ed3, pq⟩ := hp
        have hi : i < 18 := (List.getElem?_eq_some_iff.mp hv).1
        rw [List.getElem?_map, (du_at i hi).1] at hv
        injection hv with hv
        subst hv
        refine ⟨rfl, _, rfl, by show 2 ≤ sizeLine; decide, fun r hr3 => ?_⟩
        have kr := same_new (o := .tup [V.int 0, .int ((duN.getD i 0 : Nat) : Int)]) hr3
        have ed4 := kr _ _ ed3
        have pl := pairT_len pq
        have kt : ∀ (p : Addr) (xs : List V), (upd H' r (.tup [V.int 0, .int ((duN.getD i 0 : Nat) : Int)])) p = some (.tup xs) → (upd (upd H' r (.tup [V.int 0, .int ((duN.getD i 0 : Nat) : Int)])) D3 (.lst (qs.map V.ref ++ [.ref r]))) p = some (.tup xs) := fun p xs e => by
          rw [upd_ne fun y => by rw [y, ed4] at e; cases e]
          exact e
        refine ⟨_, ed4, small1000 ?_, same_over hD3 (sm3.trans kr), qs ++ [r], ?_, ?_⟩
        · rw [List.length_map, pl, List.length_take]
          exact Nat.le_trans (Nat.min_le_right _ _) (by decide)
        · rw [upd_same, List.map_append]
          rfl
        · rw [List.take_add_one, (du_at i hi).1]
          exact pairT_snoc (kt _ _ upd_same) (pairT_map kt (pairT_map (fun p xs e => kr _ _ e) pq))
      · obtain ⟨sm3, qs, ed3, pq⟩ := hp
        have pt' : PairT H2 ps duI := pt
        have pq' : PairT H3 qs duI := pq
        refine ⟨.list duT, .list duT, .lst (SqL.of (sm3 _ _ ed2)) (pairT_dp (pairT_map (fun p xs e => sm3 _ _ e) pt')), .lst (SqL.of ed3) (pairT_dp pq'), duT_ok.1, duT_ok.1, ?_⟩
        rw [duT_ok.2.1]
        exact q H3
end
end My
namespace My
open PySem PySem.Spec PyProof.Rows L2
section
variable {w : World} {K : PySem.W.Frag} {mg : Str → Option Value} {base : Heap} {fa : Addr} {cdv : Value} {s : Shared} {H0 : Hp} {CT CE : Addr} {fX : Nat → Addr} {dX : Nat → FuncData}
theorem turn (Y : Parts w K mg base CT CE fX dX) : ∃ t, PSs (XL w K mg base fa cdv s H0) (forBody (inL 1)) t ∧ ∀ (p cc : Addr) (ns : List Int) (B : Int) (z0 z2 z3 z4 z5 z6 z7 z8 z9 z10 z11 z12 z13 z14 z15 z16 : Option V) (H : Hp) (D : Ends), PenAt H p cc ns B → B + 82 ≤ 1000 →
    (∀ (z3 z4 z5 z6 z7 z8 z9 : Option V) H', PenAt H' p cc ns (B + 82) → D.nx [z0, some (.ref p), z2, z3, z4, z5, z6, z7, z8, z9, z10, z11, z12, z13, z14, z15, z16] H') →
    t D [z0, some (.ref p), z2, z3, z4, z5, z6, z7, z8, z9, z10, z11, z12, z13, z14, z15, z16] H := by
  obtain ⟨t0, h0, q0⟩ := b0 (w := w) (K := K) (mg := mg) (base := base) (fa := fa) (cdv := cdv) (s := s) (H0 := H0) Y
  obtain ⟨t1, h1, q1⟩ := b1 (w := w) (K := K) (mg := mg) (base := base) (fa := fa) (cdv := cdv) (s := s) (H0 := H0) Y
  obtain ⟨t2, h2, q2⟩ := b2 (w := w) (K := K) (mg := mg) (base := base) (fa := fa) (cdv := cdv) (s := s) (H0 := H0) Y
  obtain ⟨t3, h3, q3⟩ := b3 (w := w) (K := K) (mg := mg) (base := base) (fa := fa) (cdv := cdv) (s := s) (H0 := H0) Y
  obtain ⟨t4, h4, q4⟩ := b4 (w := w) (K := K) (mg := mg) (base := base) (fa := fa) (cdv := cdv) (s := s) (H0 := H0) Y
  obtain ⟨t6, h6, q6⟩ := b6 (w := w) (K := K) (mg := mg) (base := base) (fa := fa) (cdv := cdv) (s := s) (H0 := H0) Y
  obtain ⟨t7, h7, q7⟩ := b7 (w := w) (K := K) (mg := mg) (base := base) (fa := fa) (cdv := cdv) (s := s) (H0 := H0) Y
  refine ⟨_, pss_cons h0 (pss_cons h1 (pss_cons h2 (pss_cons (ps_if h3 (pss_one (ps_ret pe_bl)) pss_nil) (pss_cons (ps_if h4 (pss_one (ps_ret pe_bl)) pss_nil)
    (pss_cons (ps_set (i := 6) scLaw.nd rfl (.inl rfl) (pe_split (pv 5) pe_str)) (pss_cons h6 (pss_one (ps_if h7 (pss_one (ps_ret pe_bl)) pss_nil)))))))), ?_⟩
  intro p cc ns B z0 z2 z3 z4 z5 z6 z7 z8 z9 z10 z11 z12 z13 z14 z15 z16 H D PA hB q
  refine q0 p cc ns B _ _ _ _ _ _ _ _ _ _ _ _ _ _ _ _ H _ PA (by omega) fun D1 qs es H1 hl pl few PA1 o1 => ?_
  refine q1 D1 D1 qs es _ _ _ _ _ _ _ _ _ _ _ _ _ _ _ _ H1 _ hl pl few fun ta as H2 s2 ht ea => ?_
  refine q2 D1 D1 qs es _ _ _ _ _ _ _ _ _ _ _ _ _ _ _ _ H2 _ (s2 _ _ hl) (plains_keep s2 pl) few fun H3 s3 => ?_
  have L := line_of (plains_drawn pl) few
  refine q3 ta as es _ _ _ _ _ _ _ _ _ _ _ _ _ _ _ _ H3 _ L (s3 _ _ ht) (ends_keep s3 ea) few fun H4 s4 => iteF ?_
  have s24 := (s2.trans s3).trans s4
  refine q4 D1 D1 ta qs as es _ _ _ _ _ _ _ _ _ _ _ _ _ _ _ H4 _ L (s24 _ _ hl) (plains_keep s24 pl) ((s3.trans s4) _ _ ht) (ends_keep (s3.trans s4) ea) few fun H5 s5 => iteF ?_
  have s25 := s24.trans s5
  refine ⟨_, rfl, ⟨_, rfl⟩, _, spc, rfl, rfl, by decide +kernel, by rw [sizeLine_eq]; have := L.len; omega, fun wl hwl => ?_⟩
  rw [L.sp]
  have kw := same_new (o := .lst ((wordsEs es).map V.str)) hwl
  have s26 := s25.trans kw
  refine q6 p cc wl ns (B + 69) _ _ _ _ _ _ _ _ _ _ _ _ _ _ _ _ _ _ (PA1.keep s26) (by omega) upd_same L.lw fun z6 z7 z8 z9 H7 PA7 o7 => ?_
  have ht7 := off_tup (PA1.keep s26) o7 (((s3.trans s4).trans (s5.trans kw)) _ _ ht)
  refine q7 p cc ta as ns (B + 69 + 12) _ _ _ _ _ _ _ _ _ _ _ _ _ _ _ H7 _ PA7 (by omega) ht7 fun H8 PA8 o8 => iteF ?_
  exact q _ _ _ _ _ _ _ H8 (PA8.more (by omega))
theorem law_body (Z : ∀ base : Heap, K.In base → base.Ns mainGlobals mg → Parts w K mg base CT CE fX dX) : LawBody PySem.Challenge.rw_layerseen_k90_texts_of_ends w K mg 63 nLaw "law" sLaw fa := by
  intro base hKb hNb cdv s H a ns hn hO hS
  have Y := Z base hKb hNb
  obtain ⟨t0, h0, q0⟩ := turn (fa := fa) (cdv := cdv) (s := s) (H0 := H) Y
  obtain ⟨tz, hz, qz⟩ := last5 (fa := fa) (cdv := cdv) (s := s) (H0 := H) Y
  refine ⟨_, pss_cons (ps_set (i := 1) scLaw.nd rfl (.inr rfl) (pe_call Y.pen.G (hrX.mono (by decide)) (by rfl) Y.pen.g Y.pen.F.kp Y.pen.b .nil pass0 (pa_cons (pv 0) pa_nil)))
    (pss_cons (ps_for PassesOwn.never rfl (pi_range1 (by rfl) Y.T.range (pa_cons pe_int pa_nil)) (pg_name (i := 2) scLaw.nd rfl (.inl rfl)) h0)
    (pss_cons (ps_set (i := 10) scLaw.nd rfl (.inl rfl) (pe_lst (pa_cons pe_str (pa_cons pe_str (pa_cons pe_str (pa_cons pe_str (pa_cons pe_str (pa_cons pe_str (pa_cons pe_str (pa_cons pe_str (pa_cons pe_str (pa_cons pe_str (pa_cons pe_str pa_nil)))))))))))))
    (pss_cons (ps_set (i := 10) scLaw.nd rfl (.inl rfl) (pe_op op_cat (pv 10) (pe_lst (pa_cons pe_str (pa_cons pe_str (pa_cons pe_str (pa_cons pe_str (pa_cons pe_str (pa_cons pe_str (pa_cons pe_str pa_nil))))))))))
    (pss_cons (ps_set (i := 11) scLaw.nd rfl (.inl rfl) (pe_lst (pa_cons pe_int (pa_cons pe_int (pa_cons pe_int (pa_cons pe_int (pa_cons pe_int (pa_cons pe_int (pa_cons pe_int (pa_cons pe_int (pa_cons pe_int (pa_cons pe_int (pa_cons pe_int (pa_cons pe_int (pa_cons pe_int (pa_cons pe_int (pa_cons pe_int (pa_cons pe_int (pa_cons pe_int (pa_cons pe_int pa_nil))))))))))))))))))))
    (pss_one hz))))), ?_⟩
  refine ⟨.ref a, rfl, a, ns, rfl, hS, hn, fun p cc H1 sm1 PA1 => ?_⟩
  refine ⟨6, rfl, by decide, by decide, for_range (lo := 0) (n := 6) (fun i σ H' => ∃ z2 z3 z4 z5 z6 z7 z8 z9 z10 z11 z12 z13 z14 z15 z16 : Option V, σ = [some (.ref a), some (.ref p), z2, z3, z4, z5, z6, z7, z8, z9, z10, z11, z12, z13, z14, z15, z16] ∧ PenAt H' p cc ns (82 * (i : Int)))
    ⟨none, none, none, none, none, none, none, none, none, none, none, none, none, none, none, rfl, PA1.more (by decide)⟩ (fun i σ H2 hi hp => ?_) (fun σ H2 hp => ?_)⟩
  · obtain ⟨z2, z3, z4, z5, z6, z7, z8, z9, z10, z11, z12, z13, z14, z15, z16, rfl, PA2⟩ := hp
    refine q0 p cc ns (82 * (i : Int)) _ _ _ _ _ _ _ _ _ _ _ _ _ _ _ _ H2 _ PA2 (by omega) fun z3 z4 z5 z6 z7 z8 z9 H3 PA3 => ?_
    exact ⟨_, _, _, _, _, _, _, _, _, _, _, _, _, _, _, rfl, PA3.more (by omega)⟩
  · obtain ⟨z2, z3, z4, z5, z6, z7, z8, z9, z10, z11, z12, z13, z14, z15, z16, rfl, PA2⟩ := hp
    refine ⟨by show 11 ≤ sizeLine; decide, fun l1 hl1 => ?_⟩
    have k1 := same_new (o := .lst (vsS lnA)) hl1
    refine ⟨_, rfl, by show 7 ≤ sizeLine; decide, fun l2 hl2 => ?_⟩
    have k2 := same_new (o := .lst (vsS lnB)) hl2
    refine ⟨l1, l2, _, _, rfl, rfl, k2 _ _ (show (upd H2 l1 (.lst (vsS lnA))) l1 = _ from upd_same), upd_same, by show 18 ≤ sizeLine; decide, fun l3 hl3 => ?_⟩
    refine ⟨by show 18 ≤ sizeLine; decide, fun l4 hl4 => ?_⟩
    have k4 := same_new (o := .lst (duI.map V.int)) hl4
    refine qz l3 l4 _ _ _ _ _ _ _ _ _ _ _ _ _ _ _ _ _ (k4 _ _ ?_) upd_same fun _ => rfl
    exact upd_same
end
end My
namespace My
open PySem PySem.Spec PyProof.Rows L2
def sayB : List Str → List Value → Bool
  | [], [] => true
  | k :: ks, .str x _ :: vs => decide (x = k) && sayB ks vs
  | _, _ => false
theorem say_of : ∀ (ks : List Str) (vs : List Value), sayB ks vs = true → Vals (ks.map V.str) vs
  | [], [], _ => .nil
  | k :: ks, .str x t :: vs, h => by
    unfold sayB at h
    rw [Bool.and_eq_true] at h
    have e : x = k := of_decide_eq_true h.1
    subst e
    exact .cons ⟨t, rfl⟩ (say_of ks vs h.2)
abbrev t9 {α : Type} (a1 a2 a3 a4 a5 a6 a7 a8 : α) : Nat → α
  | 1 => a1 | 2 => a2 | 3 => a3 | 4 => a4 | 5 => a5 | 6 => a6 | 7 => a7 | _ => a8
abbrev t13 {α : Type} (a0 a1 a2 a3 a4 a5 a6 a7 a8 a9 a10 a11 a12 : α) : Nat → α
  | 0 => a0 | 1 => a1 | 2 => a2 | 3 => a3 | 4 => a4 | 5 => a5 | 6 => a6 | 7 => a7 | 8 => a8 | 9 => a9 | 10 => a10 | 11 => a11 | _ => a12
/-! ### what is asked of the written part, decided at once -/
def papB (K : PySem.W.Frag) (C : Addr) : Bool := ["NoneType", "bool", "int", "str"].all fun T => decide (PySem.W.kitOne K (.type T) (.ref C) = some false)
def objB (K : PySem.W.Frag) : Bool := decide (PySem.W.specialIn K (.builtin "object.__class__") "__get__" = some (some (.builtin "getset_descriptor.__get__"))) && decide (PySem.W.takesIn K (.builtin "object.__class__") = some true)
def clsB (K : PySem.W.Frag) (C : Addr) (fs : List Str) : Bool := PySem.W.plainGet K C Str.empty && (PySem.W.hasDictIn K C && (PySem.W.plainOver K C && (decide (PySem.W.findIn K (.ref C) "__setattr__" = some (some (.builtin "object.__setattr__"))) && ((fs.all fun f => decide (PySem.W.findIn K (.ref C) f = some none))
  && (decide (PySem.W.findIn K (.ref C) "__class__" = some (some (.builtin "object.__class__"))) && (decide (PySem.W.mroIn K C (.type "object") = some true) && (PySem.W.makesIn K C && (PySem.W.keepIn K (.ref C) && decide (PySem.W.kitOne K (.ref C) (.ref C) = some true)))))))))
def excB (K : PySem.W.Frag) (CL C : Addr) : Bool := decide (PySem.W.findIn K (.ref C) "__getattribute__" = some (some (.builtin "BaseException.__getattribute__"))) && (decide (PySem.W.findIn K (.ref C) "__getattr__" = some none) && (decide (PySem.W.subIn K (.ref C) (.type "BaseException") = some true) && (PySem.W.hasDictIn K C
  && (decide (PySem.W.findIn K (.ref C) "__class__" = some (some (.builtin "object.__class__"))) && (decide (PySem.W.mroIn K C (.type "object") = some true) && (decide (PySem.W.findIn K (.ref C) "line" = some none) && (decide (PySem.W.findIn K (.ref C) "word" = some none) && (decide (PySem.W.exmOne K (.ref C) (.ref CL) = some true) && (decide (PySem.W.kitOne K (.ref C) (.ref C) = some true)
  && (decide (PySem.W.kitOne K (.ref C) (.type "ValueError") = some true) && (decide (PySem.W.findIn K (.ref C) "__setattr__" = some (some (.builtin "object.__setattr__"))) && (decide (PySem.W.typeIn K (.ref C) = some (.type "type")) && PySem.W.keepIn K (.ref C)))))))))))))
abbrev fdOf {K : PySem.W.Frag} {x q : Str} {st : Stmt} {f : Addr} {fd : FuncData} (_ : Fun K x q st f fd) : FuncData := fd
abbrev fdD {K : PySem.W.Frag} {x q : Str} {params : Arguments} {body : List Stmt} {scope : Scope} {dvs : List V} {kws : List (Str × V)} {f : Addr} {fd : FuncData} (_ : FunD K x q params body scope dvs kws f fd) : FuncData := fd
structure ClsF (K : PySem.W.Frag) (C : Addr) (fs : List Str) : Prop where
  c : Cls K C
  no : ∀ f ∈ fs, NoAttr K C f
  dc : PySem.W.findIn K (.ref C) "__class__" = some (some (.builtin "object.__class__"))
  mo : PySem.W.mroIn K C (.type "object") = some true
  ms : PySem.W.makesIn K C = true
  kp : PySem.W.keepIn K (.ref C) = true
  kt : PySem.W.kitOne K (.ref C) (.ref C) = some true
theorem cls_mk {K : PySem.W.Frag} {C : Addr} {fs : List Str} (h : clsB K C fs = true) : ClsF K C fs := by
  unfold clsB at h
  simp only [Bool.and_eq_true, decide_eq_true_eq, List.all_eq_true] at h
  obtain ⟨h1, h2, h3, h4, h5, h6, h7, h8, h9, h10⟩ := h
  exact ⟨⟨h1, h2, h3, h4⟩, h5, h6, h7, h8, h9, h10⟩
theorem pap_mk {K : PySem.W.Frag} {C : Addr} (h : papB K C = true) : ∀ T ∈ ["NoneType", "bool", "int", "str"], PySem.W.kitOne K (.type T) (.ref C) = some false := by
  unfold papB at h
  simp only [List.all_eq_true, decide_eq_true_eq] at h
  exact h
theorem exc_mk {K : PySem.W.Frag} {CL C : Addr} (hO : objB K = true) (h : excB K CL C = true) : ErrK K C CL ∧ PySem.W.findIn K (.ref C) "__setattr__" = some (some (.builtin "object.__setattr__")) ∧ PySem.W.typeIn K (.ref C) = some (.type "type") ∧ PySem.W.keepIn K (.ref C) = true := by
  unfold objB at hO
  unfold excB at h
  simp only [Bool.and_eq_true, decide_eq_true_eq] at hO h
  obtain ⟨o1, o2⟩ := hO
  obtain ⟨h1, h2, h3, h4, h5, h6, h7, h8, h9, h10, h11, h12, h13, h14⟩ := h
  exact ⟨⟨⟨h1, h2, h3, h4, h5, o1, o2, h6⟩, ⟨h1, h2, h3, h4⟩, h7, h8, h9, h10, h11⟩, h12, h13, h14⟩
theorem all_mk {w : World} {K : PySem.W.Frag} {h : Heap} {mg : Str → Option Value} {fa : Addr} (X : K.In h) (G : h.Ns mainGlobals mg) (hfa : mg "law" = some (.ref fa))
    {f_Y : Addr} {od_Y an_Y : Option Addr} {sl_Y : Array (Option Value)} {oc_Y kV_Y dc_Y pm_Y cd_Y ct_Y : Value}
    {f_D : Addr} {od_D an_D : Option Addr} {sl_D : Array (Option Value)} {oc_D kV_D dc_D pm_D cd_D ct_D : Value}
    {f_N : Addr} {od_N an_N : Option Addr} {sl_N : Array (Option Value)} {oc_N kV_N dc_N pm_N cd_N ct_N : Value}
    {f_xt : Addr} {od_xt an_xt : Option Addr} {sl_xt : Array (Option Value)} {oc_xt kV_xt dc_xt pm_xt cd_xt ct_xt : Value}
    {f_to : Addr} {od_to an_to : Option Addr} {sl_to : Array (Option Value)} {oc_to kV_to dc_to pm_to cd_to ct_to : Value}
    {f_lt : Addr} {od_lt an_lt : Option Addr} {sl_lt : Array (Option Value)} {oc_lt kV_lt dc_lt pm_lt cd_lt ct_lt : Value}
    {f_rd : Addr} {od_rd an_rd : Option Addr} {sl_rd : Array (Option Value)} {oc_rd kV_rd dc_rd pm_rd cd_rd ct_rd : Value}
    {f_nx : Addr} {od_nx an_nx : Option Addr} {sl_nx : Array (Option Value)} {oc_nx kV_nx dc_nx pm_nx cd_nx ct_nx : Value}
    {f_ne : Addr} {od_ne an_ne : Option Addr} {sl_ne : Array (Option Value)} {oc_ne kV_ne dc_ne pm_ne cd_ne ct_ne : Value}
    {f_nl : Addr} {od_nl an_nl : Option Addr} {sl_nl : Array (Option Value)} {oc_nl kV_nl dc_nl pm_nl cd_nl ct_nl : Value}
    {f_pe : Addr} {od_pe an_pe : Option Addr} {sl_pe : Array (Option Value)} {oc_pe kV_pe dc_pe pm_pe cd_pe ct_pe : Value}
    {f_dr : Addr} {od_dr an_dr : Option Addr} {sl_dr : Array (Option Value)} {oc_dr kV_dr dc_dr pm_dr cd_dr ct_dr : Value}
    {f_pi : Addr} {od_pi an_pi : Option Addr} {sl_pi : Array (Option Value)} {oc_pi kV_pi dc_pi pm_pi cd_pi ct_pi : Value}
    {f_pl : Addr} {od_pl an_pl : Option Addr} {sl_pl : Array (Option Value)} {oc_pl kV_pl dc_pl pm_pl cd_pl ct_pl : Value}
    {f_li : Addr} {od_li an_li : Option Addr} {sl_li : Array (Option Value)} {oc_li kV_li dc_li pm_li cd_li ct_li : Value}
    {f_is : Addr} {od_is an_is : Option Addr} {sl_is : Array (Option Value)} {oc_is kV_is dc_is pm_is cd_is ct_is : Value}
    {f_in : Addr} {od_in an_in : Option Addr} {sl_in : Array (Option Value)} {oc_in kV_in dc_in pm_in cd_in ct_in : Value}
    {f_th : Addr} {od_th an_th : Option Addr} {sl_th : Array (Option Value)} {oc_th kV_th dc_th pm_th cd_th ct_th : Value}
    {f_ae : Addr} {od_ae an_ae : Option Addr} {sl_ae : Array (Option Value)} {oc_ae kV_ae dc_ae pm_ae cd_ae ct_ae : Value}
    {f_du : Addr} {od_du an_du : Option Addr} {sl_du : Array (Option Value)} {oc_du kV_du dc_du pm_du cd_du ct_du : Value}
    {f_he : Addr} {od_he an_he : Option Addr} {sl_he : Array (Option Value)} {oc_he kV_he dc_he pm_he cd_he ct_he : Value}
    {f_be : Addr} {od_be an_be : Option Addr} {sl_be : Array (Option Value)} {oc_be kV_be dc_be pm_be cd_be ct_be : Value}
    {f_la : Addr} {od_la an_la : Option Addr} {sl_la : Array (Option Value)} {oc_la kV_la dc_la pm_la cd_la ct_la : Value}
    {bP : Addr}
    {xL : Addr}
    {xT : Addr}
    {xW : Addr}
    {xE : Addr}
    {f_iT : Addr} {od_iT an_iT : Option Addr} {sl_iT : Array (Option Value)} {oc_iT kV_iT dc_iT pm_iT cd_iT ct_iT : Value}
    {f_w0 : Addr} {od_w0 an_w0 : Option Addr} {sl_w0 : Array (Option Value)} {oc_w0 kV_w0 dc_w0 pm_w0 cd_w0 ct_w0 : Value}
    {f_w1 : Addr} {od_w1 an_w1 : Option Addr} {sl_w1 : Array (Option Value)} {oc_w1 kV_w1 dc_w1 pm_w1 cd_w1 ct_w1 : Value}
    {f_w2 : Addr} {od_w2 an_w2 : Option Addr} {sl_w2 : Array (Option Value)} {oc_w2 kV_w2 dc_w2 pm_w2 cd_w2 ct_w2 : Value}
    {f_w3 : Addr} {od_w3 an_w3 : Option Addr} {sl_w3 : Array (Option Value)} {oc_w3 kV_w3 dc_w3 pm_w3 cd_w3 ct_w3 : Value}
    {f_w4 : Addr} {od_w4 an_w4 : Option Addr} {sl_w4 : Array (Option Value)} {oc_w4 kV_w4 dc_w4 pm_w4 cd_w4 ct_w4 : Value}
    {f_w5 : Addr} {od_w5 an_w5 : Option Addr} {sl_w5 : Array (Option Value)} {oc_w5 kV_w5 dc_w5 pm_w5 cd_w5 ct_w5 : Value}
    {f_w6 : Addr} {od_w6 an_w6 : Option Addr} {sl_w6 : Array (Option Value)} {oc_w6 kV_w6 dc_w6 pm_w6 cd_w6 ct_w6 : Value}
    {f_w8 : Addr} {od_w8 an_w8 : Option Addr} {sl_w8 : Array (Option Value)} {oc_w8 kV_w8 dc_w8 pm_w8 cd_w8 ct_w8 : Value}
    {f_w9 : Addr} {od_w9 an_w9 : Option Addr} {sl_w9 : Array (Option Value)} {oc_w9 kV_w9 dc_w9 pm_w9 cd_w9 ct_w9 : Value}
    {f_w10 : Addr} {od_w10 an_w10 : Option Addr} {sl_w10 : Array (Option Value)} {oc_w10 kV_w10 dc_w10 pm_w10 cd_w10 ct_w10 : Value}
    {f_w11 : Addr} {od_w11 an_w11 : Option Addr} {sl_w11 : Array (Option Value)} {oc_w11 kV_w11 dc_w11 pm_w11 cd_w11 ct_w11 : Value}
    {f_w12 : Addr} {od_w12 an_w12 : Option Addr} {sl_w12 : Array (Option Value)} {oc_w12 kV_w12 dc_w12 pm_w12 cd_w12 ct_w12 : Value}
    {f_iE : Addr} {od_iE an_iE : Option Addr} {sl_iE : Array (Option Value)} {oc_iE kV_iE dc_iE pm_iE cd_iE ct_iE : Value}
    {f_eE : Addr} {od_eE an_eE : Option Addr} {sl_eE : Array (Option Value)} {oc_eE kV_eE dc_eE pm_eE cd_eE ct_eE : Value}
    {f_sE : Addr} {od_sE an_sE : Option Addr} {sl_sE : Array (Option Value)} {oc_sE kV_sE dc_sE pm_sE cd_sE ct_sE : Value}
    {T6 T7 e0 aK : Addr} {LT : Str} {tl tn t6 tM : Tok} {dK0 d6 d7 d8 : Option Addr} {itsK : Array Value} {nTu n6 n7 n8 : Nat} {slTu sl6 sl7 sl8 : Array (Option Value)} {o6 o7 : Value}
    {nm_xT q_xT : Str} {N_xT : Addr} {bs_xT bm_xT sub_xT : List Value} {sn_xT : List Str} {ab_xT : Bool} {col_xT : Option Bool} {dd_xT : Option Addr} {k0_xT k1_xT k2_xT k3_xT k5_xT : Option Value}
    (a_Y : PySem.W.nsIn K mainGlobals "copied" = some (some (.ref f_Y)))
    (l_Y : K.lookup f_Y = some ⟨oc_Y, od_Y, .func (PySem.W.fnOf "copied" "copied" (defArgs sCopied) (defBody sCopied) (defScope sCopied) .none kV_Y dc_Y pm_Y an_Y cd_Y ct_Y), sl_Y⟩)
    (c_Y : PySem.W.codeIn K cd_Y "copied" = true)
    (k_Y : PySem.W.keepIn K (.ref f_Y) = true)
    (a_D : PySem.W.nsIn K mainGlobals "is_word" = some (some (.ref f_D)))
    (l_D : K.lookup f_D = some ⟨oc_D, od_D, .func (PySem.W.fnOf "is_word" "is_word" (defArgs sWord) (defBody sWord) (defScope sWord) .none kV_D dc_D pm_D an_D cd_D ct_D), sl_D⟩)
    (c_D : PySem.W.codeIn K cd_D "is_word" = true)
    (k_D : PySem.W.keepIn K (.ref f_D) = true)
    (a_N : PySem.W.nsIn K mainGlobals "is_name" = some (some (.ref f_N)))
    (l_N : K.lookup f_N = some ⟨oc_N, od_N, .func (PySem.W.fnOf "is_name" "is_name" (defArgs sName) (defBody sName) (defScope sName) .none kV_N dc_N pm_N an_N cd_N ct_N), sl_N⟩)
    (c_N : PySem.W.codeIn K cd_N "is_name" = true)
    (k_N : PySem.W.keepIn K (.ref f_N) = true)
    (a_xt : PySem.W.nsIn K mainGlobals "ends_text" = some (some (.ref f_xt)))
    (l_xt : K.lookup f_xt = some ⟨oc_xt, od_xt, .func (PySem.W.fnOf "ends_text" "ends_text" (defArgs sEndsText) (defBody sEndsText) (defScope sEndsText) .none kV_xt dc_xt pm_xt an_xt cd_xt ct_xt), sl_xt⟩)
    (c_xt : PySem.W.codeIn K cd_xt "ends_text" = true)
    (k_xt : PySem.W.keepIn K (.ref f_xt) = true)
    (a_to : PySem.W.nsIn K mainGlobals "parts_told" = some (some (.ref f_to)))
    (l_to : K.lookup f_to = some ⟨oc_to, od_to, .func (PySem.W.fnOf "parts_told" "parts_told" (defArgs sTold) (defBody sTold) (defScope sTold) .none kV_to dc_to pm_to an_to cd_to ct_to), sl_to⟩)
    (c_to : PySem.W.codeIn K cd_to "parts_told" = true)
    (k_to : PySem.W.keepIn K (.ref f_to) = true)
    (a_lt : PySem.W.nsIn K mainGlobals "_log_text" = some (some (.ref f_lt)))
    (l_lt : K.lookup f_lt = some ⟨oc_lt, od_lt, .func (PySem.W.fnOf "_log_text" "_log_text" (defArgs sLogText) (defBody sLogText) (defScope sLogText) .none kV_lt dc_lt pm_lt an_lt cd_lt ct_lt), sl_lt⟩)
    (c_lt : PySem.W.codeIn K cd_lt "_log_text" = true)
    (k_lt : PySem.W.keepIn K (.ref f_lt) = true)
    (a_rd : PySem.W.nsIn K mainGlobals "read_ends" = some (some (.ref f_rd)))
    (l_rd : K.lookup f_rd = some ⟨oc_rd, od_rd, .func (PySem.W.fnOf "read_ends" "read_ends" (defArgs sRead) (defBody sRead) (defScope sRead) .none kV_rd dc_rd pm_rd an_rd cd_rd ct_rd), sl_rd⟩)
    (c_rd : PySem.W.codeIn K cd_rd "read_ends" = true)
    (k_rd : PySem.W.keepIn K (.ref f_rd) = true)
    (a_nx : PySem.W.nsIn K mainGlobals "next_ends" = some (some (.ref f_nx)))
    (l_nx : K.lookup f_nx = some ⟨oc_nx, od_nx, .func (PySem.W.fnOf "next_ends" "next_ends" (defArgs sNext) (defBody sNext) (defScope sNext) .none kV_nx dc_nx pm_nx an_nx cd_nx ct_nx), sl_nx⟩)
    (c_nx : PySem.W.codeIn K cd_nx "next_ends" = true)
    (k_nx : PySem.W.keepIn K (.ref f_nx) = true)
    (a_ne : PySem.W.nsIn K mainGlobals "_next_end" = some (some (.ref f_ne)))
    (l_ne : K.lookup f_ne = some ⟨oc_ne, od_ne, .func (PySem.W.fnOf "_next_end" "_next_end" (defArgs sNextEnd) (defBody sNextEnd) (defScope sNextEnd) .none kV_ne dc_ne pm_ne an_ne cd_ne ct_ne), sl_ne⟩)
    (c_ne : PySem.W.codeIn K cd_ne "_next_end" = true)
    (k_ne : PySem.W.keepIn K (.ref f_ne) = true)
    (a_nl : PySem.W.nsIn K mainGlobals "_next_log" = some (some (.ref f_nl)))
    (l_nl : K.lookup f_nl = some ⟨oc_nl, od_nl, .func (PySem.W.fnOf "_next_log" "_next_log" (defArgs sNextLog) (defBody sNextLog) (defScope sNextLog) .none kV_nl dc_nl pm_nl an_nl cd_nl ct_nl), sl_nl⟩)
    (c_nl : PySem.W.codeIn K cd_nl "_next_log" = true)
    (k_nl : PySem.W.keepIn K (.ref f_nl) = true)
    (a_pe : PySem.W.nsIn K mainGlobals "_law_pen" = some (some (.ref f_pe)))
    (l_pe : K.lookup f_pe = some ⟨oc_pe, od_pe, .func (PySem.W.fnOf "_law_pen" "_law_pen" (defArgs sPen) (defBody sPen) (defScope sPen) .none kV_pe dc_pe pm_pe an_pe cd_pe ct_pe), sl_pe⟩)
    (c_pe : PySem.W.codeIn K cd_pe "_law_pen" = true)
    (k_pe : PySem.W.keepIn K (.ref f_pe) = true)
    (a_dr : PySem.W.nsIn K mainGlobals "_law_draw" = some (some (.ref f_dr)))
    (l_dr : K.lookup f_dr = some ⟨oc_dr, od_dr, .func (PySem.W.fnOf "_law_draw" "_law_draw" (defArgs sDraw) (defBody sDraw) (defScope sDraw) .none kV_dr dc_dr pm_dr an_dr cd_dr ct_dr), sl_dr⟩)
    (c_dr : PySem.W.codeIn K cd_dr "_law_draw" = true)
    (k_dr : PySem.W.keepIn K (.ref f_dr) = true)
    (a_pi : PySem.W.nsIn K mainGlobals "_law_pick" = some (some (.ref f_pi)))
    (l_pi : K.lookup f_pi = some ⟨oc_pi, od_pi, .func (PySem.W.fnOf "_law_pick" "_law_pick" (defArgs sPick) (defBody sPick) (defScope sPick) .none kV_pi dc_pi pm_pi an_pi cd_pi ct_pi), sl_pi⟩)
    (c_pi : PySem.W.codeIn K cd_pi "_law_pick" = true)
    (k_pi : PySem.W.keepIn K (.ref f_pi) = true)
    (a_pl : PySem.W.nsIn K mainGlobals "_law_plain" = some (some (.ref f_pl)))
    (l_pl : K.lookup f_pl = some ⟨oc_pl, od_pl, .func (PySem.W.fnOf "_law_plain" "_law_plain" (defArgs sPlain) (defBody sPlain) (defScope sPlain) .none kV_pl dc_pl pm_pl an_pl cd_pl ct_pl), sl_pl⟩)
    (c_pl : PySem.W.codeIn K cd_pl "_law_plain" = true)
    (k_pl : PySem.W.keepIn K (.ref f_pl) = true)
    (a_li : PySem.W.nsIn K mainGlobals "_law_line" = some (some (.ref f_li)))
    (l_li : K.lookup f_li = some ⟨oc_li, od_li, .func (PySem.W.fnOf "_law_line" "_law_line" (defArgs sLine) (defBody sLine) (defScope sLine) .none kV_li dc_li pm_li an_li cd_li ct_li), sl_li⟩)
    (c_li : PySem.W.codeIn K cd_li "_law_line" = true)
    (k_li : PySem.W.keepIn K (.ref f_li) = true)
    (a_is : PySem.W.nsIn K mainGlobals "_law_is_said" = some (some (.ref f_is)))
    (l_is : K.lookup f_is = some ⟨oc_is, od_is, .func (PySem.W.fnOf "_law_is_said" "_law_is_said" (defArgs sIsSaid) (defBody sIsSaid) (defScope sIsSaid) .none kV_is dc_is pm_is an_is cd_is ct_is), sl_is⟩)
    (c_is : PySem.W.codeIn K cd_is "_law_is_said" = true)
    (k_is : PySem.W.keepIn K (.ref f_is) = true)
    (a_in : PySem.W.nsIn K mainGlobals "_law_is_name" = some (some (.ref f_in)))
    (l_in : K.lookup f_in = some ⟨oc_in, od_in, .func (PySem.W.fnOf "_law_is_name" "_law_is_name" (defArgs sIsName) (defBody sIsName) (defScope sIsName) .none kV_in dc_in pm_in an_in cd_in ct_in), sl_in⟩)
    (c_in : PySem.W.codeIn K cd_in "_law_is_name" = true)
    (k_in : PySem.W.keepIn K (.ref f_in) = true)
    (a_th : PySem.W.nsIn K mainGlobals "_law_after_thing" = some (some (.ref f_th)))
    (l_th : K.lookup f_th = some ⟨oc_th, od_th, .func (PySem.W.fnOf "_law_after_thing" "_law_after_thing" (defArgs sAfterThing) (defBody sAfterThing) (defScope sAfterThing) .none kV_th dc_th pm_th an_th cd_th ct_th), sl_th⟩)
    (c_th : PySem.W.codeIn K cd_th "_law_after_thing" = true)
    (k_th : PySem.W.keepIn K (.ref f_th) = true)
    (a_ae : PySem.W.nsIn K mainGlobals "_law_after_end" = some (some (.ref f_ae)))
    (l_ae : K.lookup f_ae = some ⟨oc_ae, od_ae, .func (PySem.W.fnOf "_law_after_end" "_law_after_end" (defArgs sAfterEnd) (defBody sAfterEnd) (defScope sAfterEnd) .none kV_ae dc_ae pm_ae an_ae cd_ae ct_ae), sl_ae⟩)
    (c_ae : PySem.W.codeIn K cd_ae "_law_after_end" = true)
    (k_ae : PySem.W.keepIn K (.ref f_ae) = true)
    (a_du : PySem.W.nsIn K mainGlobals "_law_due" = some (some (.ref f_du)))
    (l_du : K.lookup f_du = some ⟨oc_du, od_du, .func (PySem.W.fnOf "_law_due" "_law_due" (defArgs sDue) (defBody sDue) (defScope sDue) .none kV_du dc_du pm_du an_du cd_du ct_du), sl_du⟩)
    (c_du : PySem.W.codeIn K cd_du "_law_due" = true)
    (k_du : PySem.W.keepIn K (.ref f_du) = true)
    (a_he : PySem.W.nsIn K mainGlobals "_law_heard" = some (some (.ref f_he)))
    (l_he : K.lookup f_he = some ⟨oc_he, od_he, .func (PySem.W.fnOf "_law_heard" "_law_heard" (defArgs sHeard) (defBody sHeard) (defScope sHeard) .none kV_he dc_he pm_he an_he cd_he ct_he), sl_he⟩)
    (c_he : PySem.W.codeIn K cd_he "_law_heard" = true)
    (k_he : PySem.W.keepIn K (.ref f_he) = true)
    (a_be : PySem.W.nsIn K mainGlobals "_law_bent" = some (some (.ref f_be)))
    (l_be : K.lookup f_be = some ⟨oc_be, od_be, .func (PySem.W.fnOf "_law_bent" "_law_bent" (defArgs sBent) (defBody sBent) (defScope sBent) .none kV_be dc_be pm_be an_be cd_be ct_be), sl_be⟩)
    (c_be : PySem.W.codeIn K cd_be "_law_bent" = true)
    (k_be : PySem.W.keepIn K (.ref f_be) = true)
    (a_la : PySem.W.nsIn K mainGlobals "law" = some (some (.ref f_la)))
    (l_la : K.lookup f_la = some ⟨oc_la, od_la, .func (PySem.W.fnOf "law" "law" (defArgs sLaw) (defBody sLaw) (defScope sLaw) .none kV_la dc_la pm_la an_la cd_la ct_la), sl_la⟩)
    (c_la : PySem.W.codeIn K cd_la "law" = true)
    (k_la : PySem.W.keepIn K (.ref f_la) = true)
    (g_bP : PySem.W.nsIn K mainGlobals "Paper" = some (some (.ref bP)))
    (g_xL : PySem.W.nsIn K mainGlobals "LayerError" = some (some (.ref xL)))
    (g_xT : PySem.W.nsIn K mainGlobals "BadText" = some (some (.ref xT)))
    (g_xW : PySem.W.nsIn K mainGlobals "Words" = some (some (.ref xW)))
    (g_xE : PySem.W.nsIn K mainGlobals "End" = some (some (.ref xE)))
    (m_iT : PySem.W.findIn K (.ref xT) "__init__" = some (some (.ref f_iT)))
    (l_iT : K.lookup f_iT = some ⟨oc_iT, od_iT, .func (PySem.W.fnOf "__init__" "BadText.__init__" (defArgs sIniT) (defBody sIniT) (defScope sIniT) .none kV_iT dc_iT pm_iT an_iT cd_iT ct_iT), sl_iT⟩)
    (c_iT : PySem.W.codeIn K cd_iT "BadText.__init__" = true)
    (k_iT : PySem.W.keepIn K (.ref f_iT) = true)
    (n_iT : PySem.W.isFn K (.ref f_iT) = true)
    (m_w0 : PySem.W.findIn K (.ref xW) "__init__" = some (some (.ref f_w0)))
    (l_w0 : K.lookup f_w0 = some ⟨oc_w0, od_w0, .func (PySem.W.fnOf "__init__" "Words.__init__" (defArgs (sW 0)) (defBody (sW 0)) (defScope (sW 0)) (.ref T7) kV_w0 dc_w0 pm_w0 an_w0 cd_w0 ct_w0), sl_w0⟩)
    (c_w0 : PySem.W.codeIn K cd_w0 "Words.__init__" = true)
    (k_w0 : PySem.W.keepIn K (.ref f_w0) = true)
    (n_w0 : PySem.W.isFn K (.ref f_w0) = true)
    (m_w1 : PySem.W.findIn K (.ref xW) "refuse" = some (some (.ref f_w1)))
    (l_w1 : K.lookup f_w1 = some ⟨oc_w1, od_w1, .func (PySem.W.fnOf "refuse" "Words.refuse" (defArgs (sW 1)) (defBody (sW 1)) (defScope (sW 1)) .none kV_w1 dc_w1 pm_w1 an_w1 cd_w1 ct_w1), sl_w1⟩)
    (c_w1 : PySem.W.codeIn K cd_w1 "Words.refuse" = true)
    (k_w1 : PySem.W.keepIn K (.ref f_w1) = true)
    (n_w1 : PySem.W.isFn K (.ref f_w1) = true)
    (m_w2 : PySem.W.findIn K (.ref xW) "has_more" = some (some (.ref f_w2)))
    (l_w2 : K.lookup f_w2 = some ⟨oc_w2, od_w2, .func (PySem.W.fnOf "has_more" "Words.has_more" (defArgs (sW 2)) (defBody (sW 2)) (defScope (sW 2)) .none kV_w2 dc_w2 pm_w2 an_w2 cd_w2 ct_w2), sl_w2⟩)
    (c_w2 : PySem.W.codeIn K cd_w2 "Words.has_more" = true)
    (k_w2 : PySem.W.keepIn K (.ref f_w2) = true)
    (n_w2 : PySem.W.isFn K (.ref f_w2) = true)
    (m_w3 : PySem.W.findIn K (.ref xW) "sees" = some (some (.ref f_w3)))
    (l_w3 : K.lookup f_w3 = some ⟨oc_w3, od_w3, .func (PySem.W.fnOf "sees" "Words.sees" (defArgs (sW 3)) (defBody (sW 3)) (defScope (sW 3)) .none kV_w3 dc_w3 pm_w3 an_w3 cd_w3 ct_w3), sl_w3⟩)
    (c_w3 : PySem.W.codeIn K cd_w3 "Words.sees" = true)
    (k_w3 : PySem.W.keepIn K (.ref f_w3) = true)
    (n_w3 : PySem.W.isFn K (.ref f_w3) = true)
    (m_w4 : PySem.W.findIn K (.ref xW) "sees_word" = some (some (.ref f_w4)))
    (l_w4 : K.lookup f_w4 = some ⟨oc_w4, od_w4, .func (PySem.W.fnOf "sees_word" "Words.sees_word" (defArgs (sW 4)) (defBody (sW 4)) (defScope (sW 4)) .none kV_w4 dc_w4 pm_w4 an_w4 cd_w4 ct_w4), sl_w4⟩)
    (c_w4 : PySem.W.codeIn K cd_w4 "Words.sees_word" = true)
    (k_w4 : PySem.W.keepIn K (.ref f_w4) = true)
    (n_w4 : PySem.W.isFn K (.ref f_w4) = true)
    (m_w5 : PySem.W.findIn K (.ref xW) "take" = some (some (.ref f_w5)))
    (l_w5 : K.lookup f_w5 = some ⟨oc_w5, od_w5, .func (PySem.W.fnOf "take" "Words.take" (defArgs (sW 5)) (defBody (sW 5)) (defScope (sW 5)) .none kV_w5 dc_w5 pm_w5 an_w5 cd_w5 ct_w5), sl_w5⟩)
    (c_w5 : PySem.W.codeIn K cd_w5 "Words.take" = true)
    (k_w5 : PySem.W.keepIn K (.ref f_w5) = true)
    (n_w5 : PySem.W.isFn K (.ref f_w5) = true)
    (m_w6 : PySem.W.findIn K (.ref xW) "take_name" = some (some (.ref f_w6)))
    (l_w6 : K.lookup f_w6 = some ⟨oc_w6, od_w6, .func (PySem.W.fnOf "take_name" "Words.take_name" (defArgs (sW 6)) (defBody (sW 6)) (defScope (sW 6)) (.ref T6) kV_w6 dc_w6 pm_w6 an_w6 cd_w6 ct_w6), sl_w6⟩)
    (c_w6 : PySem.W.codeIn K cd_w6 "Words.take_name" = true)
    (k_w6 : PySem.W.keepIn K (.ref f_w6) = true)
    (n_w6 : PySem.W.isFn K (.ref f_w6) = true)
    (m_w8 : PySem.W.findIn K (.ref xW) "take_word" = some (some (.ref f_w8)))
    (l_w8 : K.lookup f_w8 = some ⟨oc_w8, od_w8, .func (PySem.W.fnOf "take_word" "Words.take_word" (defArgs (sW 8)) (defBody (sW 8)) (defScope (sW 8)) .none kV_w8 dc_w8 pm_w8 an_w8 cd_w8 ct_w8), sl_w8⟩)
    (c_w8 : PySem.W.codeIn K cd_w8 "Words.take_word" = true)
    (k_w8 : PySem.W.keepIn K (.ref f_w8) = true)
    (n_w8 : PySem.W.isFn K (.ref f_w8) = true)
    (m_w9 : PySem.W.findIn K (.ref xW) "sees_number" = some (some (.ref f_w9)))
    (l_w9 : K.lookup f_w9 = some ⟨oc_w9, od_w9, .func (PySem.W.fnOf "sees_number" "Words.sees_number" (defArgs (sW 9)) (defBody (sW 9)) (defScope (sW 9)) .none kV_w9 dc_w9 pm_w9 an_w9 cd_w9 ct_w9), sl_w9⟩)
    (c_w9 : PySem.W.codeIn K cd_w9 "Words.sees_number" = true)
    (k_w9 : PySem.W.keepIn K (.ref f_w9) = true)
    (n_w9 : PySem.W.isFn K (.ref f_w9) = true)
    (m_w10 : PySem.W.findIn K (.ref xW) "take_number" = some (some (.ref f_w10)))
    (l_w10 : K.lookup f_w10 = some ⟨oc_w10, od_w10, .func (PySem.W.fnOf "take_number" "Words.take_number" (defArgs (sW 10)) (defBody (sW 10)) (defScope (sW 10)) .none kV_w10 dc_w10 pm_w10 an_w10 cd_w10 ct_w10), sl_w10⟩)
    (c_w10 : PySem.W.codeIn K cd_w10 "Words.take_number" = true)
    (k_w10 : PySem.W.keepIn K (.ref f_w10) = true)
    (n_w10 : PySem.W.isFn K (.ref f_w10) = true)
    (m_w11 : PySem.W.findIn K (.ref xW) "finish" = some (some (.ref f_w11)))
    (l_w11 : K.lookup f_w11 = some ⟨oc_w11, od_w11, .func (PySem.W.fnOf "finish" "Words.finish" (defArgs (sW 11)) (defBody (sW 11)) (defScope (sW 11)) .none kV_w11 dc_w11 pm_w11 an_w11 cd_w11 ct_w11), sl_w11⟩)
    (c_w11 : PySem.W.codeIn K cd_w11 "Words.finish" = true)
    (k_w11 : PySem.W.keepIn K (.ref f_w11) = true)
    (n_w11 : PySem.W.isFn K (.ref f_w11) = true)
    (m_w12 : PySem.W.findIn K (.ref xW) "_take_if" = some (some (.ref f_w12)))
    (l_w12 : K.lookup f_w12 = some ⟨oc_w12, od_w12, .func (PySem.W.fnOf "_take_if" "Words._take_if" (defArgs (sW 12)) (defBody (sW 12)) (defScope (sW 12)) .none kV_w12 dc_w12 pm_w12 an_w12 cd_w12 ct_w12), sl_w12⟩)
    (c_w12 : PySem.W.codeIn K cd_w12 "Words._take_if" = true)
    (k_w12 : PySem.W.keepIn K (.ref f_w12) = true)
    (n_w12 : PySem.W.isFn K (.ref f_w12) = true)
    (m_iE : PySem.W.findIn K (.ref xE) "__init__" = some (some (.ref f_iE)))
    (l_iE : K.lookup f_iE = some ⟨oc_iE, od_iE, .func (PySem.W.fnOf "__init__" "End.__init__" (defArgs sI_End) (defBody sI_End) (defScope sI_End) .none kV_iE dc_iE pm_iE an_iE cd_iE ct_iE), sl_iE⟩)
    (c_iE : PySem.W.codeIn K cd_iE "End.__init__" = true)
    (k_iE : PySem.W.keepIn K (.ref f_iE) = true)
    (n_iE : PySem.W.isFn K (.ref f_iE) = true)
    (m_eE : PySem.W.findIn K (.ref xE) "__eq__" = some (some (.ref f_eE)))
    (l_eE : K.lookup f_eE = some ⟨oc_eE, od_eE, .func (PySem.W.fnOf "__eq__" "End.__eq__" (defArgs sE_End) (defBody sE_End) (defScope sE_End) .none kV_eE dc_eE pm_eE an_eE cd_eE ct_eE), sl_eE⟩)
    (c_eE : PySem.W.codeIn K cd_eE "End.__eq__" = true)
    (k_eE : PySem.W.keepIn K (.ref f_eE) = true)
    (n_eE : PySem.W.isFn K (.ref f_eE) = true)
    (m_sE : PySem.W.findIn K (.ref xE) "__str__" = some (some (.ref f_sE)))
    (l_sE : K.lookup f_sE = some ⟨oc_sE, od_sE, .func (PySem.W.fnOf "__str__" "End.__str__" (defArgs sS_End) (defBody sS_End) (defScope sS_End) .none kV_sE dc_sE pm_sE an_sE cd_sE ct_sE), sl_sE⟩)
    (c_sE : PySem.W.codeIn K cd_sE "End.__str__" = true)
    (k_sE : PySem.W.keepIn K (.ref f_sE) = true)
    (n_sE : PySem.W.isFn K (.ref f_sE) = true)
    (y_iT : PySem.W.typeIn K (.ref f_iT) = some (.type "function"))
    (lT6 : K.lookup T6 = some ⟨o6, d6, .seq #[.str "" t6, .ref e0] n6, sl6⟩)
    (lT7 : K.lookup T7 = some ⟨o7, d7, .seq #[.none] n7, sl7⟩)
    (le0 : K.lookup e0 = some ⟨.type "tuple", d8, .seq #[] n8, sl8⟩)
    (bg1 : PySem.W.specialIn K (.ref f_w5) "__get__" = some (some (.builtin "function.__get__")))
    (bg2 : PySem.W.takesIn K (.ref f_w5) = some false)
    (bg3 : PySem.W.fnIn K f_w5 = true)
    (gL : PySem.W.nsIn K mainGlobals "LETTERS" = some (some (.str LT tl)))
    (eL : decide (LT = abc) = true)
    (gLo : PySem.W.nsIn K mainGlobals "LONGEST" = some (some (.int 8 tn)))
    (gM : PySem.W.nsIn K mainGlobals "MOST_VALUE" = some (some (.int 3 tM)))
    (gK : PySem.W.nsIn K mainGlobals "KEPT_WORDS" = some (some (.ref aK)))
    (lK0 : K.lookup aK = some ⟨.type "tuple", dK0, .seq itsK nTu, slTu⟩)
    (vK : sayB kept itsK.toList = true)
    (zK : decide (itsK.size ≤ sizeLine) = true)
    (z_int : PySem.W.nsIn K mainGlobals "int" = some none)
    (z_len : PySem.W.nsIn K mainGlobals "len" = some none)
    (z_abs : PySem.W.nsIn K mainGlobals "abs" = some none)
    (z_list : PySem.W.nsIn K mainGlobals "list" = some none)
    (z_tuple : PySem.W.nsIn K mainGlobals "tuple" = some none)
    (z_dict : PySem.W.nsIn K mainGlobals "dict" = some none)
    (z_range : PySem.W.nsIn K mainGlobals "range" = some none)
    (z_isinstance : PySem.W.nsIn K mainGlobals "isinstance" = some none)
    (z_str : PySem.W.nsIn K mainGlobals "str" = some none)
    (z_sorted : PySem.W.nsIn K mainGlobals "sorted" = some none)
    (z_any : PySem.W.nsIn K mainGlobals "any" = some none)
    (z_all : PySem.W.nsIn K mainGlobals "all" = some none)
    (z_enumerate : PySem.W.nsIn K mainGlobals "enumerate" = some none)
    (z_ValueError : PySem.W.nsIn K mainGlobals "ValueError" = some none)
    (lo_xT : K.lookup xT = some (PySem.excClassObj nm_xT q_xT xT N_xT bs_xT bm_xT true sn_xT sub_xT ab_xT col_xT dd_xT k0_xT k1_xT k2_xT k3_xT k5_xT "ValueError.__new__"))
    (ve_xT : PySem.HandSPX.refsVE bm_xT = true)
    (hBW : clsB K xW ["pieces", "at", "many"] = true)
    (hBE : clsB K xE ["failed", "cells", "logs"] = true)
    (hX : excB K xL xT = true)
    (hQ : papB K bP = true)
    (hO : objB K = true) :
    ∃ fd : FuncData, Fun K "law" "law" sLaw fa fd ∧ FnScope nLaw ["_law_script"] (defScope sLaw) ∧ (∀ (s : Shared) (u : Value), BindsTo s fd ⟨[u], []⟩ [("_law_script", u)]) ∧ LawBody PySem.Challenge.rw_layerseen_k90_texts_of_ends w K mg 63 nLaw "law" sLaw fa := by
  have e := hfa.symm.trans (PySem.W.mg_of X G a_la)
  cases e
  have eL' : LT = abc := of_decide_eq_true eL
  subst eL'
  have F_Y := fun_mk (st := sCopied) l_Y c_Y k_Y
  have F_D := fun_mk (st := sWord) l_D c_D k_D
  have F_N := fun_mk (st := sName) l_N c_N k_N
  have F_xt := fun_mk (st := sEndsText) l_xt c_xt k_xt
  have F_to := fun_mk (st := sTold) l_to c_to k_to
  have F_lt := fun_mk (st := sLogText) l_lt c_lt k_lt
  have F_rd := fun_mk (st := sRead) l_rd c_rd k_rd
  have F_nx := fun_mk (st := sNext) l_nx c_nx k_nx
  have F_ne := fun_mk (st := sNextEnd) l_ne c_ne k_ne
  have F_nl := fun_mk (st := sNextLog) l_nl c_nl k_nl
  have F_pe := fun_mk (st := sPen) l_pe c_pe k_pe
  have F_dr := fun_mk (st := sDraw) l_dr c_dr k_dr
  have F_pi := fun_mk (st := sPick) l_pi c_pi k_pi
  have F_pl := fun_mk (st := sPlain) l_pl c_pl k_pl
  have F_li := fun_mk (st := sLine) l_li c_li k_li
  have F_is := fun_mk (st := sIsSaid) l_is c_is k_is
  have F_in := fun_mk (st := sIsName) l_in c_in k_in
  have F_th := fun_mk (st := sAfterThing) l_th c_th k_th
  have F_ae := fun_mk (st := sAfterEnd) l_ae c_ae k_ae
  have F_du := fun_mk (st := sDue) l_du c_du k_du
  have F_he := fun_mk (st := sHeard) l_he c_he k_he
  have F_be := fun_mk (st := sBent) l_be c_be k_be
  have F_la := fun_mk (st := sLaw) l_la c_la k_la
  have F_iT := fun_mk (st := sIniT) l_iT c_iT k_iT
  have F_w1 := fun_mk (st := (sW 1)) l_w1 c_w1 k_w1
  have F_w2 := fun_mk (st := (sW 2)) l_w2 c_w2 k_w2
  have F_w3 := fun_mk (st := (sW 3)) l_w3 c_w3 k_w3
  have F_w4 := fun_mk (st := (sW 4)) l_w4 c_w4 k_w4
  have F_w5 := fun_mk (st := (sW 5)) l_w5 c_w5 k_w5
  have F_w8 := fun_mk (st := (sW 8)) l_w8 c_w8 k_w8
  have F_w9 := fun_mk (st := (sW 9)) l_w9 c_w9 k_w9
  have F_w10 := fun_mk (st := (sW 10)) l_w10 c_w10 k_w10
  have F_w11 := fun_mk (st := (sW 11)) l_w11 c_w11 k_w11
  have F_w12 := fun_mk (st := (sW 12)) l_w12 c_w12 k_w12
  have F_iE := fun_mk (st := sI_End) l_iE c_iE k_iE
  have F_eE := fun_mk (st := sE_End) l_eE c_eE k_eE
  have F_sE := fun_mk (st := sS_End) l_sE c_sE k_sE
  have B_Y := F_Y.binds (ps := ["value"]) fun _ _ _ _ _ _ us hl => match us, hl with | [_], _ => rfl
  have B_D := F_D.binds (ps := ["value"]) fun _ _ _ _ _ _ us hl => match us, hl with | [_], _ => rfl
  have B_N := F_N.binds (ps := ["value"]) fun _ _ _ _ _ _ us hl => match us, hl with | [_], _ => rfl
  have B_xt := F_xt.binds (ps := ["ends"]) fun _ _ _ _ _ _ us hl => match us, hl with | [_], _ => rfl
  have B_to := F_to.binds (ps := ["head", "cells", "logs"]) fun _ _ _ _ _ _ us hl => match us, hl with | [_, _, _], _ => rfl
  have B_lt := F_lt.binds (ps := ["words"]) fun _ _ _ _ _ _ us hl => match us, hl with | [_], _ => rfl
  have B_rd := F_rd.binds (ps := ["text"]) fun _ _ _ _ _ _ us hl => match us, hl with | [_], _ => rfl
  have B_nx := F_nx.binds (ps := ["words"]) fun _ _ _ _ _ _ us hl => match us, hl with | [_], _ => rfl
  have B_ne := F_ne.binds (ps := ["words"]) fun _ _ _ _ _ _ us hl => match us, hl with | [_], _ => rfl
  have B_nl := F_nl.binds (ps := ["words"]) fun _ _ _ _ _ _ us hl => match us, hl with | [_], _ => rfl
  have B_pe := F_pe.binds (ps := ["_law_script"]) fun _ _ _ _ _ _ us hl => match us, hl with | [_], _ => rfl
  have B_dr := F_dr.binds (ps := ["_law_pen_here", "_law_many"]) fun _ _ _ _ _ _ us hl => match us, hl with | [_, _], _ => rfl
  have B_pi := F_pi.binds (ps := ["_law_pen_here", "_law_some"]) fun _ _ _ _ _ _ us hl => match us, hl with | [_, _], _ => rfl
  have B_pl := F_pl.binds (ps := ["_law_pen_here"]) fun _ _ _ _ _ _ us hl => match us, hl with | [_], _ => rfl
  have B_li := F_li.binds (ps := ["_law_plain_here"]) fun _ _ _ _ _ _ us hl => match us, hl with | [_], _ => rfl
  have B_is := F_is.binds (ps := ["_law_word"]) fun _ _ _ _ _ _ us hl => match us, hl with | [_], _ => rfl
  have B_in := F_in.binds (ps := ["_law_word"]) fun _ _ _ _ _ _ us hl => match us, hl with | [_], _ => rfl
  have B_th := F_th.binds (ps := ["_law_words", "_law_spot", "_law_cells_so", "_law_logs_so"]) fun _ _ _ _ _ _ us hl => match us, hl with | [_, _, _, _], _ => rfl
  have B_ae := F_ae.binds (ps := ["_law_words", "_law_spot"]) fun _ _ _ _ _ _ us hl => match us, hl with | [_, _], _ => rfl
  have B_du := F_du.binds (ps := ["_law_line_here"]) fun _ _ _ _ _ _ us hl => match us, hl with | [_], _ => rfl
  have B_he := F_he.binds (ps := ["_law_thing"]) fun _ _ _ _ _ _ us hl => match us, hl with | [_], _ => rfl
  have B_be := F_be.binds (ps := ["_law_pen_here", "_law_words"]) fun _ _ _ _ _ _ us hl => match us, hl with | [_, _], _ => rfl
  have B_iT := F_iT.binds (ps := ["self", "line", "word"]) fun _ _ _ _ _ _ us hl => match us, hl with | [_, _, _], _ => rfl
  have B_w1 := F_w1.binds (ps := ["self"]) fun _ _ _ _ _ _ us hl => match us, hl with | [_], _ => rfl
  have B_w2 := F_w2.binds (ps := ["self"]) fun _ _ _ _ _ _ us hl => match us, hl with | [_], _ => rfl
  have B_w3 := F_w3.binds (ps := ["self", "wanted"]) fun _ _ _ _ _ _ us hl => match us, hl with | [_, _], _ => rfl
  have B_w4 := F_w4.binds (ps := ["self"]) fun _ _ _ _ _ _ us hl => match us, hl with | [_], _ => rfl
  have B_w8 := F_w8.binds (ps := ["self"]) fun _ _ _ _ _ _ us hl => match us, hl with | [_], _ => rfl
  have B_w9 := F_w9.binds (ps := ["self", "least", "most"]) fun _ _ _ _ _ _ us hl => match us, hl with | [_, _, _], _ => rfl
  have B_w10 := F_w10.binds (ps := ["self", "least", "most"]) fun _ _ _ _ _ _ us hl => match us, hl with | [_, _, _], _ => rfl
  have B_w11 := F_w11.binds (ps := ["self"]) fun _ _ _ _ _ _ us hl => match us, hl with | [_], _ => rfl
  have B_w12 := F_w12.binds (ps := ["self", "fits"]) fun _ _ _ _ _ _ us hl => match us, hl with | [_, _], _ => rfl
  have B_iE := F_iE.binds (ps := ["self", "failed", "cells", "logs"]) fun _ _ _ _ _ _ us hl => match us, hl with | [_, _, _, _], _ => rfl
  have B_eE := F_eE.binds (ps := ["self", "other"]) fun _ _ _ _ _ _ us hl => match us, hl with | [_, _], _ => rfl
  have B_sE := F_sE.binds (ps := ["self"]) fun _ _ _ _ _ _ us hl => match us, hl with | [_], _ => rfl
  have T : Txt mg := ⟨PySem.W.mg_none_of X G z_int, PySem.W.mg_none_of X G z_len, PySem.W.mg_none_of X G z_abs, PySem.W.mg_none_of X G z_list, PySem.W.mg_none_of X G z_tuple, PySem.W.mg_none_of X G z_dict, PySem.W.mg_none_of X G z_range, PySem.W.mg_none_of X G z_isinstance, PySem.W.mg_none_of X G z_str, PySem.W.mg_none_of X G z_sorted, PySem.W.mg_none_of X G z_any, PySem.W.mg_none_of X G z_all, PySem.W.mg_none_of X G z_enumerate, PySem.W.mg_none_of X G z_ValueError⟩
  have NP : NoPap K mg bP := ⟨PySem.W.mg_of X G g_bP, pap_mk hQ⟩
  have FD6 : FTN K e0 f_w6 _ := ⟨⟨oc_w6, od_w6, .ref T6, kV_w6, dc_w6, pm_w6, an_w6, cd_w6, ct_w6, sl_w6, rfl, l_w6, c_w6, .inr ⟨by simp, T6, _, [.str "" t6, .ref e0], n6, rfl, lT6, rfl, .cons ⟨t6, rfl⟩ (.cons rfl .nil)⟩, .inl rfl⟩, k_w6⟩
  have FD7 : FunD K "__init__" "Words.__init__" (defArgs (sW 0)) (defBody (sW 0)) (defScope (sW 0)) [.non] [] f_w0 _ := ⟨⟨oc_w0, od_w0, .ref T7, kV_w0, dc_w0, pm_w0, an_w0, cd_w0, ct_w0, sl_w0, rfl, l_w0, c_w0, .inr ⟨by simp, T7, _, [.none], n7, rfl, lT7, rfl, .cons rfl .nil⟩, .inl rfl⟩, k_w0⟩
  have tK : ∀ H, SqT K H aK (kept.map V.str) := fun H => .inr ⟨_, itsK, nTu, lK0, rfl, rfl, of_decide_eq_true zK, say_of _ _ vK⟩
  have tE : ∀ H, SqT K H e0 [] := fun H => .inr ⟨_, #[], n8, le0, rfl, rfl, Nat.zero_le _, .nil⟩
  obtain ⟨dsA, vA, B_w6⟩ := FD6.binds1 (ps := ["self", "last", "barred"]) 3 2 (by simp) rfl (fun T kV doc pm an cdv ct us its e1 e2 => match us, its, e1, e2 with | [_, _, _], [_, _], _, _ => ⟨_, rfl, rfl⟩)
  obtain rfl : dsA = [] := by cases vA; rfl
  obtain ⟨ds0, v0, B_w60⟩ := FD6.binds1 (ps := ["self", "last", "barred"]) 1 0 (by simp) rfl (fun T kV doc pm an cdv ct us its e1 e2 => match us, its, e1, e2 with | [_], [_, _], _, _ => ⟨_, rfl, rfl⟩)
  obtain ⟨dn, vn, B_w0⟩ := FD7.binds1 (ps := ["self", "text", "sign"]) 2 0 (by simp) rfl (fun T kV doc pm an cdv ct us its e1 e2 => match us, its, e1, e2 with | [_, _], [_], _, _ => ⟨_, rfl, rfl⟩)
  have KB := kwOne (y := "text") F_rd fun _ _ _ _ _ _ _ => rfl
  have cW := cls_mk hBW
  have cE := cls_mk hBE
  obtain ⟨eK, sa, ty, kp⟩ := exc_mk hO hX
  have hO' := hO
  unfold objB at hO'
  simp only [Bool.and_eq_true, decide_eq_true_eq] at hO'
  have W : WCls K xW := ⟨cW.c, cW.no _ (by simp), cW.no _ (by simp), cW.no _ (by simp)⟩
  have EV : EvC K xE := ⟨cE.c, cE.no _ (by simp), cE.no _ (by simp), cE.no _ (by simp)⟩
  have EN : EndC K mg xE := ⟨EV, PySem.W.mg_of X G g_xE, cE.dc, hO'.1, hO'.2, cE.mo, cE.kt⟩
  have ET : ErrT K mg xT f_iT := ⟨PySem.W.mg_of X G g_xT, ⟨⟨_, _, _, _, _, _, _, _, _, _, _, _, _, _, _, lo_xT, ve_xT⟩, sa, eK.ec.hs, ty, kp⟩, m_iT, y_iT, eK.no1, eK.no2⟩
  refine ⟨_, F_la, scLaw, fun s v => .of_eq rfl, ?_⟩
  refine law_body (CT := xT) (CE := xE) (fX := t13 f_pe f_dr f_pi f_pl f_li f_du f_he f_be f_xt f_rd f_iE f_eE f_sE) (dX := t13 (fdOf F_pe) (fdOf F_dr) (fdOf F_pi) (fdOf F_pl) (fdOf F_li) (fdOf F_du) (fdOf F_he) (fdOf F_be) (fdOf F_xt) (fdOf F_rd) (fdOf F_iE) (fdOf F_eE) (fdOf F_sE)) fun base hKb hNb => ?_
  have Gflat : FnOk PR w K mg base CX0 1 f_Y _ ["value"] spFlat := ok_flat F_Y NP T
  have G_Y : FnOk PR w K mg base CX0 3 f_Y _ ["value"] spCopied := ok_copied F_Y NP T B_Y (PySem.W.mg_of X G a_Y)
  have G_iT : FnOk PR w K mg base CX0 2 f_iT _ ["self", "line", "word"] (spIniT xT) := ok_iniT F_iT ET.ox ET.no1 ET.no2 F_Y B_Y (PySem.W.mg_of X G a_Y) Gflat
  have G_D : FnOk PR w K mg base CX0 1 f_D _ ["value"] (spWord K wd) := ok_word F_D T (PySem.W.mg_of X G gL) (PySem.W.mg_of X G gLo)
  have G_N : FnOk PR w K mg base CX0 2 f_N _ ["value"] (spWord K nm) := ok_name F_N F_D B_D (PySem.W.mg_of X G a_D) G_D (PySem.W.mg_of X G gK) tK
  have M_w2 : MethK PR w K mg base CX0 1 xW "has_more" f_w2 (fdOf F_w2) ["self"] (spMore xW) := ⟨⟨m_w2, n_w2, k_w2⟩, B_w2, ok_more F_w2 W T⟩
  have M_w3 : MethK PR w K mg base CX0 2 xW "sees" f_w3 (fdOf F_w3) ["self", "wanted"] (spSees xW) := ⟨⟨m_w3, n_w3, k_w3⟩, B_w3, ok_sees F_w3 W M_w2⟩
  have M_w4 : MethK PR w K mg base CX0 2 xW "sees_word" f_w4 (fdOf F_w4) ["self"] (spSeesW xW) := ⟨⟨m_w4, n_w4, k_w4⟩, B_w4, ok_seesW F_w4 W M_w2 F_D B_D (PySem.W.mg_of X G a_D) G_D⟩
  have M_w1 : MethK PR w K mg base (L2.CX PR w) 4 xW "refuse" f_w1 (fdOf F_w1) ["self"] (spRefuse xW xT) := ⟨⟨m_w1, n_w1, k_w1⟩, B_w1, ok_refuse F_w1 W M_w2 ET B_iT G_iT⟩
  have Gtake : FnR PR w K mg base (L2.CX PR w) 5 f_w5 (spTake xW xT) := ok_take F_w5 W M_w3 M_w1
  have bT : BMeth K xW "take" f_w5 := ⟨⟨m_w5, n_w5, k_w5⟩, bg1, bg2, by decide +kernel, bg3⟩
  have M_n : MethK PR w K mg base (L2.CX PR w) 5 xW "_take_if" f_w12 (fdOf F_w12) ["self", "fits"] (spTakeIf xW xT f_N nm) := ⟨⟨m_w12, n_w12, k_w12⟩, B_w12, ok_takeIf (n := 0) F_w12 W M_w2 M_w1 k_N B_N G_N⟩
  have M_d : MethK PR w K mg base (L2.CX PR w) 5 xW "_take_if" f_w12 (fdOf F_w12) ["self", "fits"] (spTakeIf xW xT f_D wd) := ⟨⟨m_w12, n_w12, k_w12⟩, B_w12, ok_takeIf (n := 0) F_w12 W M_w2 M_w1 k_D B_D (G_D.mono (by decide))⟩
  have M_w8 : MethK PR w K mg base (L2.CX PR w) 6 xW "take_word" f_w8 (fdOf F_w8) ["self"] (spTakeW xW xT) := ⟨⟨m_w8, n_w8, k_w8⟩, B_w8, ok_takeW F_w8 W M_d (PySem.W.mg_of X G a_D)⟩
  have M_w11 : MethK PR w K mg base (L2.CX PR w) 5 xW "finish" f_w11 (fdOf F_w11) ["self"] (spFinish xW xT) := ⟨⟨m_w11, n_w11, k_w11⟩, B_w11, ok_finish F_w11 W M_w2 M_w1⟩
  have M_w9 : MethK PR w K mg base CX0 3 xW "sees_number" f_w9 (fdOf F_w9) ["self", "least", "most"] (spSeesN xW) := ⟨⟨m_w9, n_w9, k_w9⟩, B_w9, ok_seesN F_w9 T W M_w3⟩
  have M_w10 : MethK PR w K mg base (L2.CX PR w) 6 xW "take_number" f_w10 (fdOf F_w10) ["self", "least", "most"] (spTakeNum xW xT) := ⟨⟨m_w10, n_w10, k_w10⟩, B_w10, ok_takeNum F_w10 T W bT Gtake⟩
  have M_w6 : MethK PR w K mg base (L2.CX PR w) 6 xW "take_name" f_w6 (fdD FD6) ["self", "last", "barred"] (spTakeN xW xT fun H b bs => H b = some (.lst (bs.map V.str))) := ⟨⟨m_w6, n_w6, k_w6⟩, B_w6, ok_nameL FD6 T W M_w2 M_w3 M_w1 M_n (PySem.W.mg_of X G a_N)⟩
  have GnT : FnOk PR w K mg base (L2.CX PR w) 6 f_w6 (fdD FD6) ["self", "last", "barred"] (spTakeN xW xT fun H b bs => SqT K H b (bs.map V.str)) := ok_nameT FD6 T W M_w2 M_w3 M_w1 M_n (PySem.W.mg_of X G a_N)
  have Gw0 : FnOk PR w K mg base (L2.CX PR w) 4 f_w0 (fdD FD7) ["self", "text", "sign"] (spInitW K xW xT) := ok_initW FD7 T W ET B_iT G_iT
  have MW : MkW PR w K mg base xW xT f_w0 (fdD FD7) dn := ⟨PySem.W.mg_of X G g_xW, ⟨cW.ms, m_w0, n_w0, cW.kp⟩, Gw0, B_w0, vn⟩
  have Y : WK PR w K mg base xW xT e0 (t9 f_w3 f_w4 f_w9 f_w5 f_w8 f_w6 f_w10 f_w11) (t9 (fdOf F_w3) (fdOf F_w4) (fdOf F_w9) (fdOf F_w5) (fdOf F_w8) (fdD FD6) (fdOf F_w10) (fdOf F_w11)) ds0 := ⟨W, M_w3, M_w4, M_w9, ⟨m_w5, n_w5, k_w5⟩, Gtake, M_w8, M_w6, GnT, B_w60, v0, tE, M_w10, M_w11⟩
  have G_nl : FnOk PR w K mg base (L2.CX PR w) 7 f_nl _ ["words"] (spNextLog xW xT) := ok_nextLog F_nl T Y
  have G_iE : FnOk PR w K mg base CX0 4 f_iE _ ["self", "failed", "cells", "logs"] (spI3 xE) := okI_End F_iE EV F_Y B_Y (PySem.W.mg_of X G a_Y) G_Y
  have EK : EndK PR w K mg base xE f_iE (fdOf F_iE) := ⟨EN, ⟨cE.ms, m_iE, n_iE, cE.kp⟩, G_iE, B_iE⟩
  have G_ne : FnOk PR w K mg base (L2.CX PR w) 8 f_ne _ ["words"] (spNextEnd xW xT xE) := ok_nextEnd F_ne T Y (PySem.W.mg_of X G gM) F_nl B_nl (PySem.W.mg_of X G a_nl) G_nl EK
  have G_nx : FnOk PR w K mg base (L2.CX PR w) 9 f_nx _ ["words"] (spNextEnds xW xT xE) := ok_nextEnds F_nx T Y F_ne B_ne (PySem.W.mg_of X G a_ne) G_ne
  have G_rd : FnOk PR w K mg base (L2.CX PR w) 10 f_rd _ ["text"] (spRead K xT xE) := ok_read F_rd T Y MW F_nx B_nx (PySem.W.mg_of X G a_nx) G_nx
  have G_eE : FnOk PR w K mg base CX0 1 f_eE _ ["self", "other"] (L2.spEq (SamE xE)) := okE_End F_eE T EN
  have G_lt : FnOk PR w K mg base CX0 1 f_lt _ ["words"] spLog := ok_log F_lt
  have G_to : FnOk PR w K mg base CX0 2 f_to _ ["head", "cells", "logs"] spTold := ok_told F_to T F_lt B_lt (PySem.W.mg_of X G a_lt) G_lt
  have G_sE : FnOk PR w K mg base CX0 3 f_sE _ ["self"] (spStrE xE) := okS_End F_sE EN F_to B_to (PySem.W.mg_of X G a_to) G_to
  have S : OwnS PR w K mg base xE f_sE (fdOf F_sE) := ⟨m_sE, n_sE, B_sE, G_sE⟩
  have G_xt : FnG PR w K mg base CX0 6 f_xt (fdOf F_xt) ["ends"] (spEndsText xE) := ok_endsText F_xt T S
  have G_pe : FnOk PR w K mg base CX0 1 f_pe _ ["_law_script"] (spPen K) := ok_pen F_pe T
  have G_dr : FnOk PR w K mg base CX0 1 f_dr _ ["_law_pen_here", "_law_many"] spDraw := ok_draw F_dr T
  have G_pi : FnOk PR w K mg base CX0 2 f_pi _ ["_law_pen_here", "_law_some"] spPick := ok_pick F_pi T F_dr B_dr (PySem.W.mg_of X G a_dr) G_dr
  have DD : Fn PR w K mg base 1 "_law_draw" sDraw f_dr (fdOf F_dr) ["_law_pen_here", "_law_many"] spDraw := ⟨F_dr, B_dr, (PySem.W.mg_of X G a_dr), G_dr⟩
  have PP : Fn PR w K mg base 2 "_law_pick" sPick f_pi (fdOf F_pi) ["_law_pen_here", "_law_some"] spPick := ⟨F_pi, B_pi, (PySem.W.mg_of X G a_pi), G_pi⟩
  have G_pl : FnOk PR w K mg base CX0 3 f_pl _ ["_law_pen_here"] spPlain := ok_plain F_pl T DD PP
  have G_li : FnOk PR w K mg base CX0 1 f_li _ ["_law_plain_here"] spLine := ok_line F_li T
  have G_is : FnOk PR w K mg base CX0 1 f_is _ ["_law_word"] spSaid := ok_said F_is T
  have G_in : FnOk PR w K mg base CX0 2 f_in _ ["_law_word"] spIsN := ok_isN F_in F_is B_is (PySem.W.mg_of X G a_is) G_is
  have G_th : FnOk PR w K mg base CX0 3 f_th _ ["_law_words", "_law_spot", "_law_cells_so", "_law_logs_so"] spAThing := ok_aThing F_th T F_in B_in (PySem.W.mg_of X G a_in) G_in F_is B_is (PySem.W.mg_of X G a_is) G_is
  have G_ae : FnOk PR w K mg base CX0 4 f_ae _ ["_law_words", "_law_spot"] spAEnd := ok_aEnd F_ae T F_in B_in (PySem.W.mg_of X G a_in) G_in F_th B_th (PySem.W.mg_of X G a_th) G_th
  have G_du : FnOk PR w K mg base CX0 5 f_du _ ["_law_line_here"] spDue := ok_due F_du T F_ae B_ae (PySem.W.mg_of X G a_ae) G_ae
  have G_he : FnG PR w K mg base CX0 11 f_he (fdOf F_he) ["_law_thing"] (spHeard K) := ok_heard F_he T eK (PySem.W.mg_of X G g_xT) (PySem.W.mg_of X G g_xL) F_rd B_rd (PySem.W.mg_of X G a_rd) G_rd F_xt B_xt (PySem.W.mg_of X G a_xt) G_xt
  have G_be : FnOk PR w K mg base CX0 3 f_be _ ["_law_pen_here", "_law_words"] spBent := ok_bent F_be T DD PP
  exact {
    T := T, pen := ⟨F_pe, B_pe, (PySem.W.mg_of X G a_pe), G_pe⟩, draw := DD, pick := PP, plain := ⟨F_pl, B_pl, (PySem.W.mg_of X G a_pl), G_pl⟩, line := ⟨F_li, B_li, (PySem.W.mg_of X G a_li), G_li⟩, due := ⟨F_du, B_du, (PySem.W.mg_of X G a_du), G_du⟩, hk := k_he, hb := B_he, hg := (PySem.W.mg_of X G a_he), hG := G_he, bent := ⟨F_be, B_be, (PySem.W.mg_of X G a_be), G_be⟩, ek := k_xt, eb := B_xt, eg := (PySem.W.mg_of X G a_xt), eG := G_xt,
    rk := k_rd, rb := B_rd, rkb := KB, rg := (PySem.W.mg_of X G a_rd), rG := G_rd, E := EK, qs := m_eE, qf := n_eE, qb := B_eE, qG := G_eE, S := S }
end My
open PySem PySem.W PyProof.Rows
set_option maxHeartbeats 0 in
theorem PySem.Challenge.cw_layerseen_k90_texts_of_ends_holds : PySem.Challenge.rw_layerseen_k90_texts_of_ends.Holds := by
  w_on; o_law; k_head; (case hw => w_witness2)
  k_fill
  refine My.law_top (l := PySem.Challenge.rw_layerseen_k90_texts_of_ends) (n := 63) (N := My.nLaw) (x := "_law_script") (nm := "law") (qual := "law") (st := My.sLaw) rfl (by decide) rfl (fun w h Y => PySem.W.kIn_of Y) ?Z
  case Z =>
    intro w mg fa h KX G hmg
    refine' My.all_mk KX G hmg ?a_Y ?l_Y ?c_Y ?k_Y ?a_D ?l_D ?c_D ?k_D ?a_N ?l_N ?c_N ?k_N ?a_xt ?l_xt ?c_xt ?k_xt ?a_to ?l_to ?c_to ?k_to ?a_lt ?l_lt ?c_lt ?k_lt ?a_rd ?l_rd ?c_rd ?k_rd ?a_nx ?l_nx ?c_nx ?k_nx ?a_ne ?l_ne ?c_ne ?k_ne ?a_nl ?l_nl ?c_nl ?k_nl ?a_pe ?l_pe ?c_pe ?k_pe ?a_dr ?l_dr ?c_dr ?k_dr ?a_pi ?l_pi ?c_pi ?k_pi ?a_pl ?l_pl ?c_pl ?k_pl ?a_li ?l_li ?c_li ?k_li ?a_is ?l_is ?c_is ?k_is ?a_in ?l_in ?c_in ?k_in ?a_th ?l_th ?c_th ?k_th ?a_ae ?l_ae ?c_ae ?k_ae ?a_du ?l_du ?c_du ?k_du ?a_he ?l_he ?c_he ?k_he ?a_be ?l_be ?c_be ?k_be ?a_la ?l_la ?c_la ?k_la ?g_bP ?g_xL ?g_xT ?g_xW ?g_xE ?m_iT ?l_iT ?c_iT ?k_iT ?n_iT ?m_w0 ?l_w0 ?c_w0 ?k_w0 ?n_w0 ?m_w1 ?l_w1 ?c_w1 ?k_w1 ?n_w1 ?m_w2 ?l_w2 ?c_w2 ?k_w2 ?n_w2 ?m_w3 ?l_w3 ?c_w3 ?k_w3 ?n_w3 ?m_w4 ?l_w4 ?c_w4 ?k_w4 ?n_w4 ?m_w5 ?l_w5 ?c_w5 ?k_w5 ?n_w5 ?m_w6 ?l_w6 ?c_w6 ?k_w6 ?n_w6 ?m_w8 ?l_w8 ?c_w8 ?k_w8 ?n_w8 ?m_w9 ?l_w9 ?c_w9 ?k_w9 ?n_w9 ?m_w10 ?l_w10 ?c_w10 ?k_w10 ?n_w10 ?m_w11 ?l_w11 ?c_w11 ?k_w11 ?n_w11 ?m_w12 ?l_w12 ?c_w12 ?k_w12 ?n_w12 ?m_iE ?l_iE ?c_iE ?k_iE ?n_iE ?m_eE ?l_eE ?c_eE ?k_eE ?n_eE ?m_sE ?l_sE ?c_sE ?k_sE ?n_sE ?y_iT ?lT6 ?lT7 ?le0 ?bg1 ?bg2 ?bg3 ?gL ?eL ?gLo ?gM ?gK ?lK0 ?vK ?zK ?z_int ?z_len ?z_abs ?z_list ?z_tuple ?z_dict ?z_range ?z_isinstance ?z_str ?z_sorted ?z_any ?z_all ?z_enumerate ?z_ValueError ?lo_xT ?ve_xT ?hBW ?hBE ?hX ?hQ ?hO
    (case a_Y => k_is)
    (case l_Y => k_is)
    (case c_Y => k_is)
    (case k_Y => k_is)
    (case a_D => k_is)
    (case l_D => k_is)
    (case c_D => k_is)
    (case k_D => k_is)
    (case a_N => k_is)
    (case l_N => k_is)
    (case c_N => k_is)
    (case k_N => k_is)
    (case a_xt => k_is)
    (case l_xt => k_is)
    (case c_xt => k_is)
    (case k_xt => k_is)
    (case a_to => k_is)
    (case l_to => k_is)
    (case c_to => k_is)
    (case k_to => k_is)
    (case a_lt => k_is)
    (case l_lt => k_is)
    (case c_lt => k_is)
    (case k_lt => k_is)
    (case a_rd => k_is)
    (case l_rd => k_is)
    (case c_rd => k_is)
    (case k_rd => k_is)
    (case a_nx => k_is)
    (case l_nx => k_is)
    (case c_nx => k_is)
    (case k_nx => k_is)
    (case a_ne => k_is)
    (case l_ne => k_is)
    (case c_ne => k_is)
    (case k_ne => k_is)
    (case a_nl => k_is)
    (case l_nl => k_is)
    (case c_nl => k_is)
    (case k_nl => k_is)
    (case a_pe => k_is)
    (case l_pe => k_is)
    (case c_pe => k_is)
    (case k_pe => k_is)
    (case a_dr => k_is)
    (case l_dr => k_is)
    (case c_dr => k_is)
    (case k_dr => k_is)
    (case a_pi => k_is)
    (case l_pi => k_is)
    (case c_pi => k_is)
    (case k_pi => k_is)
    (case a_pl => k_is)
    (case l_pl => k_is)
    (case c_pl => k_is)
    (case k_pl => k_is)
    (case a_li => k_is)
    (case l_li => k_is)
    (case c_li => k_is)
    (case k_li => k_is)
    (case a_is => k_is)
    (case l_is => k_is)
    (case c_is => k_is)
    (case k_is => k_is)
    (case a_in => k_is)
    (case l_in => k_is)
    (case c_in => k_is)
    (case k_in => k_is)
    (case a_th => k_is)
    (case l_th => k_is)
    (case c_th => k_is)
    (case k_th => k_is)
    (case a_ae => k_is)
    (case l_ae => k_is)
    (case c_ae => k_is)
    (case k_ae => k_is)
    (case a_du => k_is)
    (case l_du => k_is)
    (case c_du => k_is)
    (case k_du => k_is)
    (case a_he => k_is)
    (case l_he => k_is)
    (case c_he => k_is)
    (case k_he => k_is)
    (case a_be => k_is)
    (case l_be => k_is)
    (case c_be => k_is)
    (case k_be => k_is)
    (case a_la => k_is)
    (case l_la => k_is)
    (case c_la => k_is)
    (case k_la => k_is)
    (case g_bP => k_is)
    (case g_xL => k_is)
    (case g_xT => k_is)
    (case g_xW => k_is)
    (case g_xE => k_is)
    (case m_iT => k_is)
    (case l_iT => k_is)
    (case c_iT => k_is)
    (case k_iT => k_is)
    (case n_iT => k_is)
    (case m_w0 => k_is)
    (case l_w0 => k_is)
    (case c_w0 => k_is)
    (case k_w0 => k_is)
    (case n_w0 => k_is)
    (case m_w1 => k_is)
    (case l_w1 => k_is)
    (case c_w1 => k_is)
    (case k_w1 => k_is)
    (case n_w1 => k_is)
    (case m_w2 => k_is)
    (case l_w2 => k_is)
    (case c_w2 => k_is)
    (case k_w2 => k_is)
    (case n_w2 => k_is)
    (case m_w3 => k_is)
    (case l_w3 => k_is)
    (case c_w3 => k_is)
    (case k_w3 => k_is)
    (case n_w3 => k_is)
    (case m_w4 => k_is)
    (case l_w4 => k_is)
    (case c_w4 => k_is)
    (case k_w4 => k_is)
    (case n_w4 => k_is)
    (case m_w5 => k_is)
    (case l_w5 => k_is)
    (case c_w5 => k_is)
    (case k_w5 => k_is)
    (case n_w5 => k_is)
    (case m_w6 => k_is)
    (case l_w6 => k_is)
    (case c_w6 => k_is)
    (case k_w6 => k_is)
    (case n_w6 => k_is)
    (case m_w8 => k_is)
    (case l_w8 => k_is)
    (case c_w8 => k_is)
    (case k_w8 => k_is)
    (case n_w8 => k_is)
    (case m_w9 => k_is)
    (case l_w9 => k_is)
    (case c_w9 => k_is)
    (case k_w9 => k_is)
    (case n_w9 => k_is)
    (case m_w10 => k_is)
    (case l_w10 => k_is)
    (case c_w10 => k_is)
    (case k_w10 => k_is)
    (case n_w10 => k_is)
    (case m_w11 => k_is)
    (case l_w11 => k_is)
    (case c_w11 => k_is)
    (case k_w11 => k_is)
    (case n_w11 => k_is)
    (case m_w12 => k_is)
    (case l_w12 => k_is)
    (case c_w12 => k_is)
    (case k_w12 => k_is)
    (case n_w12 => k_is)
    (case m_iE => k_is)
    (case l_iE => k_is)
    (case c_iE => k_is)
    (case k_iE => k_is)
    (case n_iE => k_is)
    (case m_eE => k_is)
    (case l_eE => k_is)
    (case c_eE => k_is)
    (case k_eE => k_is)
    (case n_eE => k_is)
    (case m_sE => k_is)
    (case l_sE => k_is)
    (case c_sE => k_is)
    (case k_sE => k_is)
    (case n_sE => k_is)
    (case y_iT => k_is)
    (case lT6 => k_is)
    (case lT7 => k_is)
    (case le0 => k_is)
    (case bg1 => k_is)
    (case bg2 => k_is)
    (case bg3 => k_is)
    (case gL => k_is)
    (case eL => decide +kernel)
    (case gLo => k_is)
    (case gM => k_is)
    (case gK => k_is)
    (case lK0 => k_is)
    (case vK => decide +kernel)
    (case zK => decide +kernel)
    (case z_int => k_is)
    (case z_len => k_is)
    (case z_abs => k_is)
    (case z_list => k_is)
    (case z_tuple => k_is)
    (case z_dict => k_is)
    (case z_range => k_is)
    (case z_isinstance => k_is)
    (case z_str => k_is)
    (case z_sorted => k_is)
    (case z_any => k_is)
    (case z_all => k_is)
    (case z_enumerate => k_is)
    (case z_ValueError => k_is)
    (case lo_xT => k_is)
    (case ve_xT => decide +kernel)
    (case hBW => kernel_rfl)
    (case hBE => kernel_rfl)
    (case hX => kernel_rfl)
    (case hQ => kernel_rfl)
    (case hO => kernel_rfl)
