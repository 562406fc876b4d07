import PyProof.Rows.All
import Wide.All
import OpenK.AllK
import Wide.FinOn
import HandS.ForMost
import HandS.Walk
import HandS.IsInst
import HandS.MakeKwOnly
import PySem.Challenge.RW_layerseen_k02_names_and_words
set_option Elab.async false
set_option linter.all false
set_option maxRecDepth 100000
namespace My
open PySem PySem.Spec PyProof.Rows L2

/-- what the walk of the law's body has to give, the guards being known -/
def LawBody (l : PySem.W.OpenLaw) (w : World) (K : PySem.W.Frag) (mg : Str → Option Value) (n : Nat) (N : List Str) (qual : Str) (st : Stmt) (fa : Addr) : Prop :=
  ∀ base : Heap, K.In base → base.Ns mainGlobals mg → ∀ (cdv : Value) (s : Shared) (H : Hp) (a : Addr) (ns : List Int), ns.length ≤ n → Only H → SqL K H a (ns.map V.int) →
    ∃ t, PSs (cxOf CX0 l.prog w K mg base N qual (defScope st) fa cdv callerA [] s H E0).nox (defBody st) t ∧
      t { nx := fun _ _ => False, rt := fun v _ => v = .bl true } (start N [.ref a]) H

/-- one call of the law from an abstract heap -/
theorem enter {l : PySem.W.OpenLaw} {w : World} {K : PySem.W.Frag} {mg : Str → Option Value} {n : Nat} {N : List Str} {x nm qual : Str} {st : Stmt} {fa a : Addr} {fd : FuncData}
    {base : Heap} {s : Shared} {H : Hp} {ns : List Int}
    (F : Fun K nm qual st fa fd) (S : FnScope N [x] (defScope st)) (hb : ∀ (s : Shared) (u : Value), BindsTo s fd ⟨[u], []⟩ [(x, u)])
    (B : LawBody l w K mg n N qual st fa) (hKb : K.In base) (hNb : base.Ns mainGlobals mg) (hn : ns.length ≤ n) (hO : Only H) (hS : SqL K H a (ns.map V.int))
    (e0 : Env0 l.prog w K mg base callerA [] s H) :
    codeAny (model l.prog w) callerA (.call (.ref fa) ⟨[.ref a], []⟩)
      (fun r s' => r = .ok (.ret (.bool true)) ∧ ∃ H', s'.os = s.os ∧ AllBare s'.gens ∧ Un [] [] H H' s.heap s'.heap ∧ HOk l.prog w H' s'.heap) s := by
  obtain ⟨oc, od, kV, doc, pm, an, cdv, ct, osl, rfl, lk, hcd⟩ := F.ex
  have stays : ∀ b o, base.get? b = some o → s.heap.get? b = some o := fun b o z => (e0.bs b o z).1
  have KS : K.In s.heap := e0.mod.kin.keeps stays
  have NL : s.heap.NoLimit := e0.mod.nolimit.keeps stays
  have kinds : ∀ y ∈ [x].zip [Value.ref a], (defScope st).names.lookup y.1 = some .local ∨ ((defScope st).names.lookup y.1 = some .cell ∧ ((cellsFrom (s.heap.objs.size + 1) (defScope st).names []).lookup y.1).isSome = true) := by
    intro y hy
    obtain rfl : y = (x, Value.ref a) := List.mem_singleton.mp hy
    cases S.par x (List.mem_singleton.mpr rfl) with
    | inl q => exact .inl q
    | inr q => exact .inr ⟨q, PySem.W.cellsFrom_some _ _ _ (.inl q)⟩
  refine codeAny_call_function (by decide) (KS _ _ lk) rfl S.co S.gen rfl (PySem.W.codeRec_of KS hcd) (hb s (.ref a) _ _ _ _ ?_)
  refine wpAny_newFunctionEnv_cells S.kind kinds fun env he s2 ic => ?_
  subst he
  refine ⟨NL.keeps ic.toInCall.keep, codeAny_func ?_⟩
  obtain ⟨t, ht, hq⟩ := B base hKb hNb cdv s H a ns hn hO hS
  have J0 := inv_start (E := E0) (CX := CX0) S (show callerA.handled = none from rfl) e0 (vs := [.ref a]) (us := [.ref a]) rfl (.cons rfl .nil) ic
  refine wpAny_mono (ht.run [] s2 (start N [.ref a]) H _ (J0.wish _) hq) (fun fl s' hs => ?_) fun e s' hs => hs.elim
  cases fl with
  | ret u =>
    obtain ⟨v, σ', H', J, rv, q⟩ := hs
    subst q
    obtain rfl : u = Value.bool true := rv
    exact ⟨rfl, H', J.os, J.bare, J.base, J.hok⟩
  | next => exact (let ⟨_, _, _, q⟩ := hs; q).elim
  | brk => exact (let ⟨_, _, _, q⟩ := hs; q).elim
  | cont => exact (let ⟨_, _, _, q⟩ := hs; q).elim

/-- the object of the script, looked at through its abstract heap -/
def scriptHp (a : Addr) (vs : List Value) (ns : List Int) : Hp := fun b => if b = a then some (.frz { cls := .type "list", data := .seq vs.toArray } (.lst (ns.map V.int))) else none

/-- from one call in an abstract heap to the call that is asked for -/
theorem settle {l : PySem.W.OpenLaw} {w : World} {K : PySem.W.Frag} {mg mb : Str → Option Value} {n : Nat} {N : List Str} {x nm qual : Str} {st : Stmt} {fa a : Addr} {fd : FuncData} {s : Shared} {H : Hp} {ns : List Int} {vs : List Value}
    (KX : K.In s.heap) (hns : s.heap.Ns mainGlobals mg) (hb : s.heap.Ns builtinsNs mb) (hbb : ∀ x : Str, x ≠ "__name__" → mb x = bootBuiltins x) (hlim : s.heap.NoLimit) (hg : s.gens = #[])
    (ha : s.heap.get? a = some { cls := .type "list", data := .seq vs.toArray }) (hn : ns.length ≤ n)
    (F : Fun K nm qual st fa fd) (S : FnScope N [x] (defScope st)) (hbi : ∀ (s : Shared) (u : Value), BindsTo s fd ⟨[u], []⟩ [(x, u)]) (B : LawBody l w K mg n N qual st fa)
    (hO : Only H) (hS : SqL K H a (ns.map V.int)) (hok : HOk l.prog w H s.heap) (one : ∀ b, H b ≠ none → b = a) (out : H a ≠ none → K.lookup a = none) :
    codeAny (model l.prog w) callerA (.call (.ref fa) ⟨[.ref a], []⟩) (fun r s' => r = .ok (.ret (.bool true)) ∧ OldK s.heap s'.heap ∧ s'.os = s.os ∧ AllBare s'.gens) s := by
  have seen : ∀ {b : Addr} {o : Obj}, H b = none → s.heap.get? b = some o → (hidT s.heap H).get? b = some o := fun q e => hidT_get e q
  have free : ∀ {b : Addr} {o : Obj}, s.heap.get? b = some o → (∀ xs k, o.data ≠ .seq xs k) → H b = none := by
    intro b o e nd
    by_cases z : H b = none
    · exact z
    · have eb := one b z
      rw [eb, ha] at e
      injection e with e
      exact absurd (by rw [← e]) (nd vs.toArray 0)
  have names : ∀ {b : Addr} {m : Str → Option Value}, s.heap.Ns b m → (hidT s.heap H).Ns b m := by
    intro b m nb
    obtain ⟨o, es, ep, e, d, rest⟩ := nb
    exact ⟨o, es, ep, seen (free e fun xs k z => by rw [d] at z; injection z) e, d, rest⟩
  have KB : K.In (hidT s.heap H) := by
    intro b o e
    refine seen ?_ (KX b o e)
    by_cases z : H b = none
    · exact z
    · have eb := one b z
      subst eb
      rw [out z] at e
      injection e
  have E0' : Env0 l.prog w K mg (hidT s.heap H) callerA [] s H := by
    refine ⟨rfl, ⟨KB, names hns, ⟨mb, names hb, hbb⟩, ?_⟩, fun b o e => of_hidT e, Nat.le_of_eq (hidT_size _ _), trivial, ?_, hok, .of_eq hg⟩
    · obtain ⟨mc, c1, c2⟩ := hlim
      exact ⟨mc, names c1, c2⟩
    · intro b z
      exact absurd (show b ∈ ([] : List Addr) from z) List.not_mem_nil
  refine codeAny_mono (enter F S hbi B KB (names hns) hn hO hS E0') fun r s' h => ?_
  obtain ⟨e1, H', os, bare, un, hok'⟩ := h
  refine ⟨e1, OldK.of_keep fun b o e => ?_, os, bare⟩
  by_cases z : H b = none
  · exact un.keep b o e z (show b ∉ ([] : List Addr) from List.not_mem_nil) List.not_mem_nil
  · rcases hO b with y | ⟨ob, xs, y⟩
    · exact absurd y z
    · have g1 := (hok b _ y).1
      have g2 := (hok' b _ (un.frzs b ob _ y)).1
      rw [g1] at e
      injection e with e
      rw [← e]
      exact g2

/-- the goal that the head leaves, from the law's body walked with known guards -/
theorem law_top {l : PySem.W.OpenLaw} {n : Nat} {q : Program} {loose : List Str} {XP : (Str → Option Value) → Heap → Prop} {YP : World → Heap → Prop} {d : DefRec} {K : Params → PySem.W.Frag} {N : List Str} {x nm qual : Str} {st : Stmt}
    (hn : l.most = some n) (hn2 : n ≤ sizeLine) (hdf : d.params.defaults = []) (hY : ∀ (w : World) (h : Heap), YP w h → (K w.params).In h)
    (Z : ∀ (w : World) (mg : Str → Option Value) (fa : Addr) (h : Heap), (K w.params).In h → h.Ns mainGlobals mg → mg d.name = some (.ref fa) →
      ∃ fd : FuncData, Fun (K w.params) nm qual st fa fd ∧ FnScope N [x] (defScope st) ∧ (∀ (s : Shared) (u : Value), BindsTo s fd ⟨[u], []⟩ [(x, u)]) ∧ LawBody l w (K w.params) mg n N qual st fa) :
    PySem.W.WalkO q loose XP YP l.row.toRowW d [] (fun f vs => PySem.call f vs) := by
  refine Att.attach_call hn hdf ?_
  intro w s₀ s mg mb fa o pm cd doc a vs ns G Y ho hd hcd hmg hobj hints hlen hg
  have KX : (K w.params).In s.heap := hY w _ Y
  obtain ⟨fd, F, S, hbi, B⟩ := Z w mg fa _ KX G.T.g hmg
  have rv : Vals (ns.map V.int) vs := vals_ints hints
  have top : ns.length ≤ sizeLine := Nat.le_trans hlen hn2
  have plain := @settle l w (K w.params) mg mb n N x nm qual st fa a fd s
  cases hk : (K w.params).lookup a with
  | some u =>
    have e := KX a u hk
    rw [hobj] at e
    injection e with e
    subst e
    refine plain (H := fun _ => none) (ns := ns) (vs := vs) KX G.T.g G.T.b G.T.builtins G.T.nolimit hg hobj hlen F S hbi B (fun _ => .inl rfl) (.inr ⟨_, vs.toArray, _, hk, rfl, rfl, rfl, ?_, ?_⟩) (fun b u z => ?_) (fun b z => absurd rfl z) (fun z => absurd rfl z)
    · rw [List.size_toArray, hints.length]
      exact top
    · simpa using rv
    · injection z
  | none =>
    refine plain (H := scriptHp a vs ns) (ns := ns) (vs := vs) KX G.T.g G.T.b G.T.builtins G.T.nolimit hg hobj hlen F S hbi B (fun b => ?_) (.inl (.inr ⟨_, if_pos rfl⟩)) (fun b u z => ?_) (fun b z => ?_) (fun _ => hk)
    · by_cases eb : b = a
      · exact .inr ⟨_, _, if_pos eb⟩
      · exact .inl (if_neg eb)
    · by_cases eb : b = a
      · have y := (if_pos eb).symm.trans z
        injection y with y
        subst y
        subst eb
        exact ⟨hobj, by rw [List.length_map]; exact top, vs, _, rv, hobj⟩
      · have y := (if_neg eb).symm.trans z
        injection y
    · by_cases eb : b = a
      · exact eb
      · exact absurd (if_neg eb) z
end My
namespace My
open PySem PySem.Spec PyProof.Rows L2
def topS (i : Nat) : Stmt := PySem.Challenge.pw_layerseen_k02_names_and_words.main.body.getD i (.Pass ⟨0, 0, 0, 0⟩)
abbrev sPen : Stmt := topS 7
abbrev sDraw : Stmt := topS 8

/-! ### the pen: a list of a list of ints, of how many were taken, of what is left of a great one -/
structure PenAt (H : Hp) (p c : Addr) (ns : List Int) (B : Int) : Prop where
  pen : ∃ b g : Int, H p = some (.lst [.ref c, .int b, .int g]) ∧ 0 ≤ b ∧ b ≤ B ∧ 0 ≤ g
  cells : H c = some (.lst (ns.map V.int))
  few : ns.length ≤ 63
def Off (p : Addr) (H H' : Hp) : Prop := ∀ q o, q ≠ p → H q = some o → H' q = some o
theorem Off.trans {p : Addr} {H1 H2 H3 : Hp} (h : Off p H1 H2) (k : Off p H2 H3) : Off p H1 H3 := fun q o n e => k q o n (h q o n e)
theorem Off.rfl' {p : Addr} {H : Hp} : Off p H H := fun _ _ _ e => e
theorem Off.new {p a : Addr} {H : Hp} {o : HO} (h : H a = none) : Off p H (upd H a o) := fun q _ _ e => by
  rw [upd_ne (ne_of_none e h)]
  exact e
theorem PenAt.ne {H : Hp} {p c : Addr} {ns : List Int} {B : Int} (P : PenAt H p c ns B) : c ≠ p := by
  obtain ⟨b, g, e, _⟩ := P.pen
  intro z
  have y := P.cells
  rw [z, e] at y
  injection y with y
  injection y with y
  cases ns with
  | nil => cases y
  | cons x r => injection y with y1 y2; cases y1
theorem PenAt.more {H : Hp} {p c : Addr} {ns : List Int} {B C : Int} (P : PenAt H p c ns B) (h : B ≤ C) : PenAt H p c ns C := by
  obtain ⟨b, g, e, h1, h2, h3⟩ := P.pen
  exact ⟨⟨b, g, e, h1, by omega, h3⟩, P.cells, P.few⟩
theorem PenAt.keep {H H' : Hp} {p c : Addr} {ns : List Int} {B : Int} (P : PenAt H p c ns B) (h : ∀ q o, H q = some o → H' q = some o) : PenAt H' p c ns B := by
  obtain ⟨b, g, e, h1, h2, h3⟩ := P.pen
  exact ⟨⟨b, g, h _ _ e, h1, h2, h3⟩, h _ _ P.cells, P.few⟩

/-! ### numbers -/
theorem fm {x m : Int} (h : 0 < m) : 0 ≤ x.fmod m ∧ x.fmod m < m := by
  rw [Int.fmod_eq_emod_of_nonneg _ (by omega)]
  exact ⟨Int.emod_nonneg _ (by omega), Int.emod_lt_of_pos _ h⟩
theorem fd0 {x m : Int} (h : 0 < m) (hx : 0 ≤ x) : 0 ≤ x.fdiv m := by
  rw [Int.fdiv_eq_ediv_of_nonneg _ (by omega)]
  exact Int.ediv_nonneg hx (by omega)
theorem mulB {x y a b : Int} (h0 : 0 ≤ x) (h1 : x ≤ a) (k0 : 0 ≤ y) (k1 : y ≤ b) : 0 ≤ x * y ∧ x * y ≤ a * b :=
  ⟨Int.mul_nonneg h0 k0, Int.mul_le_mul h1 k1 k0 (by omega)⟩
theorem nz1 : (2147483549 : Int) ≠ 0 := by decide
theorem nz2 : (2147483629 : Int) ≠ 0 := by decide
theorem nz3 : (2147483587 : Int) ≠ 0 := by decide
theorem natAbs_lt {x : Int} (h0 : 0 ≤ x) (h1 : x < 18446744073709551616) : x.natAbs < 2 ^ 64 := by
  show x.natAbs < 18446744073709551616
  omega
theorem dpInts {K : PySem.W.Frag} {H : Hp} : ∀ ns : List Int, DpAll K H (ns.map V.int) (ns.map PyData.int)
  | [] => .nil
  | _ :: r => .cons (.int _) (dpInts r)
theorem shaped_ints : ∀ ns : List Int, SeqAt.shaped (.list (ns.map PyData.int)) = true
  | [] => rfl
  | _ :: r => shaped_ints r

theorem at_in {xs : List V} {j : Int} (h0 : 0 ≤ j) (h1 : j < (xs.length : Nat)) : ∃ v, v ∈ xs ∧ atI xs j = some v := by
  obtain ⟨k, rfl⟩ : ∃ k : Nat, j = (k : Int) := ⟨j.toNat, by omega⟩
  have hk : k < xs.length := by omega
  exact ⟨xs[k], List.getElem_mem hk, atI_nat (List.getElem?_eq_getElem hk)⟩
/-! ### the draw -/
def spDraw : Sp := fun vs H Q _ => ∃ (p c : Addr) (ns : List Int) (B m : Int), vs = [.ref p, .int m] ∧ PenAt H p c ns B ∧ B ≤ 1000 ∧ 1 ≤ m ∧ m ≤ 1000 ∧
  ∀ (d : Int) (H' : Hp), 0 ≤ d → d < m → PenAt H' p c ns (B + 1) → Off p H H' → Q (.int d) H'
structure Txt (mg : Str → Option Value) : Prop where
  int : mg "int" = none
  len : mg "len" = none
  abs : mg "abs" = none
  list : mg "list" = none
  range : mg "range" = none
  isi : mg "isinstance" = none
  str : mg "str" = none
  all : mg "all" = none
  repr : mg "repr" = none
section
variable {P : Program} {w : World} {K : PySem.W.Frag} {mg : Str → Option Value} {base : Heap}
abbrev nDraw : List Str := ["_law_pen_here", "_law_many", "_law_digit", "_law_begun", "_law_raw", "_law_great", "_law_stirred"]
theorem scDraw : FnScope nDraw ["_law_pen_here", "_law_many"] (defScope sDraw) := ⟨rfl, rfl, rfl, by decide +kernel, rfl, by decide +kernel, by decide +kernel⟩
theorem tail2 {f : Addr} {cdv : Value} {A : Around} {outer : List Env} {s : Shared} {H0 : Hp} {E : XK} (T : Txt mg) :
    ∃ t, PSs (cxOf CX0 P w K mg base nDraw "_law_draw" (defScope sDraw) f cdv A outer s H0 E).nox ((defBody sDraw).drop 6) t ∧
      ∀ (Q : VK) (nx : L2.St → Hp → Prop) (p : Addr) (m b raw : Int) (y2 y5 y6 : Option V) (H : Hp), 0 ≤ b → b ≤ 1000 → 1 ≤ m → (∀ d : Int, 0 ≤ d → d < m → Q (.int d) H) →
        t { nx := nx, rt := Q } [some (.ref p), some (.int m), y2, some (.int b), some (.int raw), y5, y6] H := by
  refine ⟨_, pss_cons (ps_set (i := 6) scDraw.nd rfl (.inl rfl) (pe_op op_modN (pe_callTy call_int1 (by rfl) T.int (by decide +kernel) (pa_cons (pe_op op_pow
          (pe_op op_add (pe_op op_add (pe_op op_modN (pe_callTy call_int1 (by rfl) T.int (by decide +kernel) (pa_cons (pv 4) pa_nil)) pe_int) (pe_op op_mul pe_int (pv 3))) pe_int) pe_int) pa_nil)) pe_int))
      (pss_cons (ps_set (i := 6) scDraw.nd rfl (.inl rfl) (pe_op op_modN (pe_callTy call_int1 (by rfl) T.int (by decide +kernel) (pa_cons (pe_op op_pow
          (pe_op op_add (pe_op op_add (pe_op op_mul (pv 6) (pe_op op_add (pe_op op_mul pe_int (pv 3)) pe_int)) (pe_op op_mul (pe_op op_mul pe_int (pv 3)) (pv 3))) pe_int) pe_int) pa_nil)) pe_int))
      (pss_one (ps_ret (pe_op op_modN (pe_callTy call_int1 (by rfl) T.int (by decide +kernel) (pa_cons (pe_op op_fdivN (pv 6) pe_int) pa_nil)) (pv 1))))), ?_⟩
  intro Q nx p m b raw y2 y5 y6 H b0 bB hm q
  have f1 := fm (x := raw) (m := 2147483549) (by decide)
  refine ⟨.int raw, rfl, .inl ⟨raw, rfl, raw, _, rfl, rfl, nz1, .int b, rfl, _, b, rfl, rfl, .inl ⟨by decide, by decide⟩, _, _, rfl, rfl, _, _, rfl, rfl, _, 5, rfl, rfl, ⟨by decide, by decide, natAbs_lt (by omega) (by omega)⟩, .inl ⟨_, rfl, _, _, rfl, rfl, nz2, ?_⟩⟩⟩
  obtain ⟨z, hz⟩ : ∃ z : Int, ((raw.fmod 2147483549 + 77041 * b + 2713) ^ (5 : Int).toNat).fmod 2147483629 = z := ⟨_, rfl⟩
  have f2 := fm (x := ((raw.fmod 2147483549 + 77041 * b + 2713) ^ (5 : Int).toNat)) (m := 2147483629) (by decide)
  rw [hz] at f2
  have f3 := mulB (x := z) (y := 2 * b + 331) (a := 2147483629) (b := 2000 + 331) f2.1 (by omega) (by omega) (by omega)
  have f4 := mulB (x := 59009 * b) (y := b) (a := 59009 * 1000) (b := 1000) (by omega) (by omega) b0 bB
  refine ⟨.int z, by rw [← hz]; rfl, .int b, rfl, 2, b, rfl, rfl, .inl ⟨by decide, by decide⟩, _, _, rfl, rfl, z, _, rfl, rfl, .inl ⟨by omega, by omega⟩, .int b, rfl, _, b, rfl, rfl, .inl ⟨by decide, by decide⟩, .int b, rfl, _, b, rfl, rfl, .inl ⟨by omega, by omega⟩, _, _, rfl, rfl, _, _, rfl, rfl, _, 3, rfl, rfl, ⟨by decide, by decide, natAbs_lt (by omega) (by omega)⟩, .inl ⟨_, rfl, _, _, rfl, rfl, nz3, ?_⟩⟩
  obtain ⟨v, hv⟩ : ∃ v : Int, ((z * (2 * b + 331) + 59009 * b * b + 61553) ^ (3 : Int).toNat).fmod 2147483587 = v := ⟨_, rfl⟩
  refine ⟨.int v, by rw [← hv]; rfl, v, 32, rfl, rfl, ⟨by decide, by decide⟩, .inl ⟨_, rfl, .int m, rfl, _, m, rfl, rfl, by omega, ?_⟩⟩
  exact q _ (fm (by omega)).1 (fm (by omega)).2
theorem tail1 {f : Addr} {cdv : Value} {A : Around} {outer : List Env} {s : Shared} {H0 : Hp} {E : XK} (T : Txt mg) :
    ∃ t, PSs (cxOf CX0 P w K mg base nDraw "_law_draw" (defScope sDraw) f cdv A outer s H0 E).nox ((defBody sDraw).drop 5) t ∧
      ∀ (Q : VK) (nx : L2.St → Hp → Prop) (p c : Addr) (ns : List Int) (m b b1 g raw : Int) (y2 y5 y6 : Option V) (H : Hp), H p = some (.lst [.ref c, .int b1, .int g]) → H c = some (.lst (ns.map V.int)) → 0 ≤ b → b ≤ 1000 → 0 ≤ g → 1 ≤ m → m ≤ 1000 →
        (∀ (d : Int) (H' : Hp), 0 ≤ d → d < m → (∃ g' : Int, 0 ≤ g' ∧ H' p = some (.lst [.ref c, .int b1, .int g'])) → Off p H H' → Q (.int d) H') →
        t { nx := nx, rt := Q } [some (.ref p), some (.int m), y2, some (.int b), some (.int raw), y5, y6] H := by
  obtain ⟨t2, h2, q2⟩ := tail2 (P := P) (w := w) (K := K) (base := base) (f := f) (cdv := cdv) (A := A) (outer := outer) (s := s) (H0 := H0) (E := E) T
  refine ⟨_, pss_cons (ps_if (PW.pt (pw_and (pt_cmpR op_lt (pv 3) (pe_callB call_len_seq (by rfl) T.len PySem.boot_len (pa_cons (pe_ix ix_list (pv 0) pe_int (fun _ _ => rfl)) pa_nil)) (nomark _))
            (pw_and1 (pt_cmpR op_ge (pe_callB call_abs (by rfl) T.abs (by decide +kernel) (pa_cons (pv 4) pa_nil)) (pe_op op_pow pe_int pe_int) (nomark _)))))
        (pss_cons (ps_set (i := 5) scDraw.nd rfl (.inl rfl) (pe_op op_add (pe_op op_mul pe_int (pe_op op_sub (pe_callB call_abs (by rfl) T.abs (by decide +kernel) (pa_cons (pv 4) pa_nil)) (pe_op op_pow pe_int pe_int)))
            (pe_callTy call_int1 (by rfl) T.int (by decide +kernel) (pa_cons (pe_cmpR op_lt (pv 4) pe_int (nomark _)) pa_nil))))
        (pss_cons (ps_asg (pe_op op_fdivN (pe_callTy call_int1 (by rfl) T.int (by decide +kernel) (pa_cons (pv 5) pa_nil)) (pv 1)) (pg_sub (pv 0) pe_int set_list))
        (pss_one (ps_ret (pe_op op_modN (pe_callTy call_int1 (by rfl) T.int (by decide +kernel) (pa_cons (pv 5) pa_nil)) (pv 1)))))) pss_nil) h2, ?_⟩
  intro Q nx p c ns m b b1 g raw y2 y5 y6 H hp hc b0 bB g0 hm hm2 q
  have last : t2 { nx := nx, rt := Q } [some (.ref p), some (.int m), y2, some (.int b), some (.int raw), y5, y6] H :=
    q2 Q nx p m b raw y2 y5 y6 H b0 bB hm fun d d0 d1 => q d H d0 d1 ⟨g, g0, hp⟩ Off.rfl'
  refine ⟨.int b, rfl, .ref p, rfl, p, _, 0, .ref c, rfl, rfl, SqL.of hp, rfl, c, _, rfl, .inl (SqL.of hc), _, _, rfl, rfl, _, rfl, ite2 (fun e => ?_) (fun e => iteF last)⟩
  refine ⟨.int raw, rfl, raw, rfl, 10, 18, rfl, rfl, ⟨by decide, by decide, by decide⟩, _, _, rfl, rfl, _, rfl, ite2 (fun e2 => ?_) (fun e2 => last)⟩
  have big := of_decide_eq_true e2
  obtain ⟨r, hr⟩ : ∃ r : Int, (if raw < 0 then -raw else raw) = r := ⟨_, rfl⟩
  obtain ⟨u, hu⟩ : ∃ u : Int, 2 * ((if raw < 0 then -raw else raw) - (10 : Int) ^ (18 : Int).toNat) + (if decide (raw < 0) = true then 1 else 0) = u := ⟨_, rfl⟩
  have u0 : 0 ≤ u := by
    rw [← hu]
    have k : (0 : Int) ≤ if decide (raw < 0) = true then 1 else 0 := by split <;> decide
    omega
  refine ⟨.int raw, rfl, raw, rfl, 10, 18, rfl, rfl, ⟨by decide, by decide, by decide⟩, _, _, rfl, rfl, 2, _, rfl, rfl, .inl ⟨by decide, by decide⟩, .int raw, rfl, raw, 0, rfl, rfl, .inr ⟨_, rfl, _, _, rfl, rfl, ?_⟩⟩
  refine ⟨.int u, by rw [← hu]; rfl, .inl ⟨u, rfl, .int m, rfl, u, m, rfl, rfl, ⟨by omega, by omega⟩, ?_⟩⟩
  refine ⟨.ref p, rfl, p, _, 2, 2, rfl, rfl, hp, rfl, ?_⟩
  refine ⟨.int u, by rw [← hu]; rfl, .inl ⟨u, rfl, .int m, rfl, u, m, rfl, rfl, by omega, ?_⟩⟩
  exact q _ _ (fm (by omega)).1 (fm (by omega)).2 ⟨u.fdiv m, fd0 (by omega) u0, upd_same⟩ fun a o n e => by rw [upd_ne n]; exact e
theorem ok_draw {f : Addr} {fd : FuncData} (F : Fun K "_law_draw" "_law_draw" sDraw f fd) (T : Txt mg) : FnOk P w K mg base CX0 1 f fd ["_law_pen_here", "_law_many"] spDraw := by
  refine F.ok scDraw (fun vs H Q E h => ?_) (fun cdv A outer s H vs Q E hr h => ?_)
  · obtain ⟨p, c, ns, B, m, rfl, _⟩ := h
    rfl
  · obtain ⟨p, c, ns, B, m, rfl, PA0, hB, hm, hm2, q⟩ := h
    obtain ⟨b, g, hp, b0, bB, g0⟩ := PA0.pen
    have hc := PA0.cells
    have few := PA0.few
    have ncp := PA0.ne
    obtain ⟨t1, h1, q1⟩ := tail1 (P := P) (w := w) (K := K) (base := base) (f := f) (cdv := cdv) (A := A) (outer := outer) (s := s) (H0 := H) (E := E) T
    refine ⟨_, pss_cons (ps_if (pt_cmpR op_gt (pe_ix ix_list (pv 0) pe_int (fun _ _ => rfl)) pe_int (nomark _))
        (pss_cons (ps_set (i := 2) scDraw.nd rfl (.inl rfl) (pe_op op_modN (pe_callTy call_int1 (by rfl) T.int (by decide +kernel) (pa_cons (pe_ix ix_list (pv 0) pe_int (fun _ _ => rfl)) pa_nil)) (pv 1)))
        (pss_cons (ps_asg (pe_op op_fdivN (pe_callTy call_int1 (by rfl) T.int (by decide +kernel) (pa_cons (pe_ix ix_list (pv 0) pe_int (fun _ _ => rfl)) pa_nil)) (pv 1)) (pg_sub (pv 0) pe_int set_list))
        (pss_one (ps_ret (pv 2))))) pss_nil)
      (pss_cons (ps_set (i := 3) scDraw.nd rfl (.inl rfl) (pe_ix ix_list (pv 0) pe_int (fun _ _ => rfl)))
      (pss_cons (ps_asg (pe_op op_add (pv 3) pe_int) (pg_sub (pv 0) pe_int set_list))
      (pss_cons (ps_set (i := 4) scDraw.nd rfl (.inl rfl) (pe_op op_add (pe_op op_mul pe_int (pv 3)) pe_int))
      (pss_cons (ps_if (pt_cmpR (op_neD hr.units) (pe_ix ix_list (pv 0) pe_int (fun _ _ => rfl)) (pe_lst pa_nil) (nomark _))
        (pss_one (ps_set (i := 4) scDraw.nd rfl (.inl rfl) (pe_ix ix_list (pe_ix ix_list (pv 0) pe_int (fun _ _ => rfl))
          (pe_op op_modN (pe_callTy call_int1 (by rfl) T.int (by decide +kernel) (pa_cons (pv 3) pa_nil)) (pe_callB call_len_seq (by rfl) T.len PySem.boot_len (pa_cons (pe_ix ix_list (pv 0) pe_int (fun _ _ => rfl)) pa_nil))) (fun _ _ => rfl)))) pss_nil) h1)))), ?_⟩
    -- if pen[2] > 0
    refine ⟨.ref p, rfl, p, _, 2, .int g, rfl, rfl, SqL.of hp, rfl, g, 0, rfl, rfl, _, rfl, ite2 (fun e => ?_) (fun e => ?_)⟩
    · refine ⟨.ref p, rfl, p, _, 2, .int g, rfl, rfl, SqL.of hp, rfl, .inl ⟨_, rfl, .int m, rfl, g, m, rfl, rfl, by omega, ?_⟩⟩
      refine ⟨.ref p, rfl, p, _, 2, .int g, rfl, rfl, SqL.of hp, rfl, .inl ⟨_, rfl, .int m, rfl, g, m, rfl, rfl, ⟨by omega, by omega⟩, ?_⟩⟩
      refine ⟨.ref p, rfl, p, _, 2, 2, rfl, rfl, hp, rfl, ?_⟩
      refine ⟨_, rfl, q (g.fmod m) _ (fm (by omega)).1 (fm (by omega)).2 ⟨⟨b, g.fdiv m, upd_same, b0, by omega, fd0 (by omega) g0⟩, by rw [upd_ne ncp]; exact hc, few⟩ fun a o n e => by rw [upd_ne n]; exact e⟩
    · -- begun = pen[1]; pen[1] = begun + 1; raw = ..
      refine ⟨.ref p, rfl, p, _, 1, .int b, rfl, rfl, SqL.of hp, rfl, ?_⟩
      refine ⟨_, rfl, b, 1, rfl, rfl, .ref p, rfl, p, _, 1, 1, rfl, rfl, hp, rfl, ?_⟩
      refine ⟨_, rfl, 61553, b, rfl, rfl, .inl ⟨by decide, by decide⟩, _, _, rfl, rfl, ?_⟩
      obtain ⟨H1, eH⟩ : ∃ H1 : Hp, upd H p (.lst [.ref c, .int (b + 1), .int g]) = H1 := ⟨_, rfl⟩
      have hp1 : H1 p = some (.lst [.ref c, .int (b + 1), .int g]) := by rw [← eH, upd_same]
      have hc1 : H1 c = some (.lst (ns.map V.int)) := by rw [← eH, upd_ne ncp]; exact hc
      have off1 : Off p H H1 := fun a o n e => by rw [← eH, upd_ne n]; exact e
      have eH' : upd H p (.lst (([.ref c, .int b, .int g] : List V).set 1 (.int (b + 1)))) = H1 := eH
      rw [eH']
      clear eH eH'
      -- if pen[0] != []
      refine ⟨.ref p, rfl, p, _, 0, .ref c, rfl, rfl, SqL.of hp1, rfl, Nat.zero_le _, fun l hl => ?_⟩
      have npl : p ≠ l := ne_of_none hp1 hl
      have ncl : c ≠ l := ne_of_none hc1 hl
      have hp2 : (upd H1 l (.lst [])) p = some (.lst [.ref c, .int (b + 1), .int g]) := by rw [upd_ne npl]; exact hp1
      have hc2 : (upd H1 l (.lst [])) c = some (.lst (ns.map V.int)) := by rw [upd_ne ncl]; exact hc1
      have off2 : Off p H (upd H1 l (.lst [])) := off1.trans (Off.new hl)
      refine ⟨.list (ns.map PyData.int), .list [], .lst (SqL.of hc2) (dpInts ns), .lst (SqL.of upd_same) .nil, shaped_ints ns, rfl, _, rfl, ?_⟩
      have last : ∀ (raw : Int) (y2 y5 y6 : Option V) (nx : L2.St → Hp → Prop), t1 { nx := nx, rt := Q } [some (.ref p), some (.int m), y2, some (.int b), some (.int raw), y5, y6] (upd H1 l (.lst [])) := by
        intro raw y2 y5 y6 nx
        refine q1 Q nx p c ns m b (b + 1) g raw y2 y5 y6 _ hp2 hc2 b0 (by omega) g0 hm hm2 fun d H' d0 d1 z off => ?_
        obtain ⟨g', z0, e1⟩ := z
        exact q d H' d0 d1 ⟨⟨b + 1, g', e1, by omega, by omega, z0⟩, off c _ ncp hc2, few⟩ (off2.trans off)
      cases ns with
      | nil => exact iteF (last _ _ _ _ _)
      | cons x r =>
        have lz : ((x :: r).map V.int).length = r.length + 1 := by rw [List.length_map]; rfl
        have lp : (0 : Int) < (((x :: r).map V.int).length : Nat) := by rw [lz]; omega
        obtain ⟨j, ej⟩ : ∃ j : Int, b.fmod (((x :: r).map V.int).length : Nat) = j := ⟨_, rfl⟩
        have j0 := (fm (x := b) lp).1
        have j1 := (fm (x := b) lp).2
        rw [ej] at j0 j1
        obtain ⟨v, hv, at1⟩ := at_in j0 j1
        obtain ⟨y, _, rfl⟩ := List.mem_map.mp hv
        refine iteT ⟨.ref p, rfl, p, _, 0, .ref c, rfl, rfl, SqL.of hp2, rfl, .int b, rfl, .inl ⟨b, rfl, .ref p, rfl, p, _, 0, .ref c, rfl, rfl, SqL.of hp2, rfl, c, _, rfl, .inl (SqL.of hc2), b, _, rfl, rfl, by omega, c, _, _, _, rfl, rfl, SqL.of hc2, (by rw [ej]; exact at1), ?_⟩⟩
        exact last _ _ _ _ _
end
end My
namespace My
open PySem PySem.Spec PyProof.Rows L2
abbrev sWord : Stmt := topS 4
abbrev sName : Stmt := topS 5
abbrev sPick : Stmt := topS 9
abbrev sKept : Stmt := topS 10
abbrev sLetters : Stmt := topS 11
abbrev sText : Stmt := topS 12
abbrev sSaid : Stmt := topS 13
abbrev sLaw : Stmt := topS 14
/-! ### words and names, as they are said here -/
def low (c : Nat) : Bool := decide (97 ≤ c) && decide (c ≤ 122)
def wd (z : Str) : Bool := decide (1 ≤ z.length) && decide (z.length ≤ 8) && z.cps.toList.all low
def abc : Str := "abcdefghijklmnopqrstuvwxyz"
theorem low_abc (c : Nat) : decide (c ∈ abc.cps.toList) = low c := by
  have e : abc.cps.toList = [97, 98, 99, 100, 101, 102, 103, 104, 105, 106, 107, 108, 109, 110, 111, 112, 113, 114, 115, 116, 117, 118, 119, 120, 121, 122] := by decide +kernel
  rw [e]
  unfold low
  rw [← Bool.decide_and]
  apply decide_eq_decide.mpr
  simp only [List.mem_cons, List.not_mem_nil, or_false]
  omega
def Same' (H H' : Hp) : Prop := ∀ q o, H q = some o → H' q = some o
theorem same_new {H : Hp} {p : Addr} {o : HO} (h : H p = none) : Same' H (upd H p o) := fun b x e => by
  rw [upd_ne (ne_of_none e h)]
  exact e
theorem same_over {H H1 : Hp} {p : Addr} {o : HO} (h : H p = none) (k : Same' H H1) : Same' H (upd H1 p o) := fun b x e => by
  rw [upd_ne (ne_of_none e h)]
  exact k _ _ e
theorem sign_at {z : Str} {i : Nat} {c : Nat} (h : z.cps[i]? = some c) : z.cps.toList[i]? = some c := by simpa using h
/-- what is no text: None, a number, a truth, a tuple, a list, a dict -/
def NoText (K : PySem.W.Frag) (H : Hp) (x : V) : Prop := ∃ T : String, TyX K H x (.type T) ∧ kitB T "str" = some false
def spWord (K : PySem.W.Frag) (ans : Str → Bool) : Sp := fun vs H Q _ => ∃ x : V, vs = [x] ∧
  ((∃ z : Str, x = .str z ∧ z.length ≤ 1000 ∧ ∀ H', Same' H H' → Q (.bl (ans z)) H') ∨ (NoText K H x ∧ Q (.bl false) H))
section
variable {P : Program} {w : World} {K : PySem.W.Frag} {mg : Str → Option Value} {base : Heap}
abbrev nWord : List Str := ["value", "sign"]
theorem scWord : FnScope nWord ["value"] (defScope sWord) := ⟨rfl, rfl, rfl, by decide +kernel, rfl, by decide +kernel, by decide +kernel⟩
theorem ok_word {f : Addr} {fd : FuncData} {tl tn : Tok} (F : Fun K "is_word" "is_word" sWord f fd) (T : Txt mg) (mL : mg "LETTERS" = some (.str abc tl)) (mN : mg "LONGEST" = some (.int 8 tn)) : FnOk P w K mg base CX0 1 f fd ["value"] (spWord K wd) := by
  refine F.ok scWord (fun vs H Q E h => ?_) (fun cdv A outer s H vs Q E hr h => ?_)
  · obtain ⟨x, rfl, _⟩ := h
    rfl
  · obtain ⟨x, rfl, h⟩ := h
    refine ⟨_, pss_one (ps_ret (pe_and (pe_callB call_isi (by rfl) T.isi (by decide +kernel) (pa_cons (pv 0) (pa_cons (pe_bltn (by rfl) T.str (by decide +kernel) (show RelV (.ty "str") _ from rfl)) pa_nil)))
      (pe_and (pe_chain op_le op_le pe_int (pe_callB call_len_str (by rfl) T.len PySem.boot_len (pa_cons (pv 0) pa_nil)) (pe_glob (v := .int 8) rfl mN ⟨_, rfl⟩))
      (pe_one (pe_callB (cr_all rfl) (by rfl) T.all (by decide +kernel) (pa_cons
        (pe_lc (own := [("sign", 1)]) (g := gName 1) (tt := tYes) rfl scWord.nd (pi_str (pv 0)) (blkOk_by (N := nWord) (sc := defScope sWord) (by decide +kernel)) (fun _ _ _ _ _ => pg_name (i := 1) scWord.nd rfl (Or.inl rfl)) (fun _ _ _ _ _ => pts_nil)
          (fun _ _ _ _ _ => pe_cmpR op_in_sign (pv 1) (pe_glob (v := .str abc) rfl mL ⟨_, rfl⟩) rfl)) pa_nil)))))), ?_⟩
    refine ⟨x, rfl, ?_⟩
    rcases h with ⟨z, rfl, zl, q⟩ | ⟨⟨T, ty, kt⟩, q⟩
    · refine ⟨.str z, .ty "str", .type "str", .type "str", true, rfl, .ty "str", .base (.str z), kit_ty (by decide +kernel), true, rfl, iteT ?_⟩
      have zs : z.length < sizeLine := small1000 zl
      refine ⟨.str z, rfl, z, rfl, Nat.le_of_lt zs, 1, _, rfl, rfl, _, rfl, ite2 (fun e => ?_) (fun e => ?_)⟩
      · refine ⟨_, 8, rfl, rfl, _, rfl, ite2 (fun e2 => ?_) (fun e2 => ?_)⟩
        · have l1 := of_decide_eq_true e
          have l2 := of_decide_eq_true e2
          refine ⟨.str z, rfl, z, rfl, fun D hD => ?_⟩
          refine lc_it walk_str (fun i H' => Same' H H' ∧ H' D = some (.lst ((z.cps.toList.take i).map fun c => V.bl (low c)))) ⟨same_new hD, upd_same⟩ (fun _ _ _ _ => trivial) (fun i x H1 H2 hi hp hy => ?_) (fun H' hp => ?_)
          · obtain ⟨sm, ed⟩ := hp
            obtain ⟨rfl, c, hc, rfl⟩ := hy
            have hc' := sign_at hc
            refine ⟨rfl, ?_⟩
            refine ⟨_, rfl, c, abc, rfl, rfl, _, ed, ?_, same_over hD sm, ?_⟩
            · rw [List.length_map, List.length_take]
              exact Nat.lt_of_le_of_lt (Nat.min_le_right _ _) (by rw [Array.length_toList]; exact zs)
            · rw [upd_same, List.take_add_one, hc', low_abc, List.map_append]
              rfl
          · obtain ⟨sm, ed⟩ := hp
            refine ⟨D, z.cps.toList.map low, rfl, SqL.of ?_, ?_⟩
            · rw [ed, List.take_of_length_le (by rw [Array.length_toList]; exact Nat.le_refl _), List.map_map]
              rfl
            · have ez : (z.cps.toList.map low).all id = wd z := by
                unfold wd
                rw [decide_eq_true (show 1 ≤ z.length by omega), decide_eq_true (show z.length ≤ 8 by omega), List.all_map]
                rfl
              rw [ez]
              exact q _ sm
        · have ez : wd z = false := by
            have := of_decide_eq_false (Bool.eq_false_iff.mpr e2)
            unfold wd
            rw [decide_eq_false (show ¬ z.length ≤ 8 by omega), Bool.and_false, Bool.false_and]
          exact ez ▸ q H fun _ _ e => e
      · refine ⟨false, rfl, iteF ?_⟩
        have ez : wd z = false := by
          have := of_decide_eq_false (Bool.eq_false_iff.mpr e)
          unfold wd
          rw [decide_eq_false (show ¬ 1 ≤ z.length by omega), Bool.false_and, Bool.false_and]
        exact ez ▸ q H fun _ _ e => e
    · refine ⟨x, .ty "str", .type T, .type "str", false, rfl, .ty "str", ty, kit_ty kt, false, rfl, iteF q⟩
end
end My
namespace My
open PySem PySem.Spec PyProof.Rows L2
def kept : List Str := ["put", "copy", "if", "else", "say", "fail", "catch", "choose", "or", "none", "stop", "skip", "cell", "log", "failure", "choice"]
def nm (z : Str) : Bool := wd z && !inV (.str z) (kept.map V.str)
theorem lt1 {a b : Nat} : ([a] < [b]) ↔ a < b := by
  rw [List.cons_lt_cons_iff]
  constructor
  · rintro (h | ⟨_, h⟩)
    · exact h
    · exact absurd h (List.not_lt_nil _)
  · exact .inl
theorem lowT {c : Nat} (h1 : ¬ c < 97) (h2 : ¬ 122 < c) : low c = true := by
  unfold low
  rw [decide_eq_true (show 97 ≤ c by omega), decide_eq_true (show c ≤ 122 by omega)]
  rfl
theorem lowF1 {c : Nat} (h1 : c < 97) : low c = false := by
  unfold low
  rw [decide_eq_false (show ¬ 97 ≤ c by omega), Bool.false_and]
theorem lowF2 {c : Nat} (h1 : 122 < c) : low c = false := by
  unfold low
  rw [decide_eq_false (show ¬ c ≤ 122 by omega), Bool.and_false]
def bad (l : List Nat) : List V := (l.filter fun c => !low c).map fun c => V.str ⟨#[c]⟩
theorem bad_add {l : List Nat} {c : Nat} : bad (l ++ [c]) = if low c = true then bad l else bad l ++ [V.str ⟨#[c]⟩] := by
  unfold bad
  rw [List.filter_append, List.map_append]
  cases h : low c <;> simp [h]
theorem bad_all : ∀ l : List Nat, l.all low = (bad l).isEmpty
  | [] => rfl
  | c :: r => by
    have ih := bad_all r
    unfold bad at ih ⊢
    rw [List.all_cons, ih]
    cases h : low c <;> simp [h]
theorem bad_len (l : List Nat) : (bad l).length ≤ l.length := by
  unfold bad
  rw [List.length_map]
  exact List.length_filter_le _ _
theorem dpStrs {K : PySem.W.Frag} {H : Hp} : ∀ l : List Str, DpAll K H (l.map V.str) (l.map PyData.str)
  | [] => .nil
  | _ :: r => .cons (.str _) (dpStrs r)
theorem shaped_strs (l : List Str) (h : l.all PyData.strOk = true) : SeqAt.shaped (.list (l.map PyData.str)) = true := by
  unfold SeqAt.shaped
  rw [show PyData.canLay0 (.list (l.map PyData.str)) = PyData.canLayAll0 (l.map PyData.str) from rfl, canLayAll_strs', h, show PyData.depth (.list (l.map PyData.str)) = PyData.depthAll (l.map PyData.str) + 1 from rfl, depthAll_strs']
  rfl
theorem ok_sign {z : Str} (h : PyData.strOk z = true) {c : Nat} (hc : c ∈ z.cps.toList) : PyData.strOk ⟨#[c]⟩ = true := by
  have k := Array.all_eq_true'.mp h c (by simpa using hc)
  show (#[c] : Array Nat).all _ = true
  simpa using k
theorem ok_bad {z : Str} (h : PyData.strOk z = true) : ((z.cps.toList.filter fun c => !low c).map fun c => (⟨#[c]⟩ : Str)).all PyData.strOk = true := by
  rw [List.all_eq_true]
  intro y hy
  obtain ⟨c, hc, rfl⟩ := List.mem_map.mp hy
  exact ok_sign h (List.mem_filter.mp hc).1
theorem bad_strs (l : List Nat) : bad l = ((l.filter fun c => !low c).map fun c => (⟨#[c]⟩ : Str)).map V.str := by
  unfold bad
  rw [List.map_map]
  rfl
theorem eqv_nil (l : List Str) : PyData.eqv (.list (l.map PyData.str)) (.list []) = (l.map V.str).isEmpty := by
  cases l <;> rfl
section
variable {P : Program} {w : World} {K : PySem.W.Frag} {mg : Str → Option Value} {base : Heap}
abbrev nName : List Str := ["value"]
theorem scName : FnScope nName ["value"] (defScope sName) := ⟨rfl, rfl, rfl, by decide +kernel, rfl, by decide +kernel, by decide +kernel⟩
theorem ok_name {f fW aK : Addr} {fd fdW : FuncData} (F : Fun K "is_name" "is_name" sName f fd) (FW : Fun K "is_word" "is_word" sWord fW fdW) (bW : Binds K fdW ["value"] []) (gW : mg "is_word" = some (.ref fW)) (G : FnOk P w K mg base CX0 1 fW fdW ["value"] (spWord K wd))
    (mK : mg "KEPT_WORDS" = some (.ref aK)) (hK : ∀ H, SqT K H aK (kept.map V.str)) : FnOk P w K mg base CX0 2 f fd ["value"] (spWord K nm) := by
  refine F.ok scName (fun vs H Q E h => ?_) (fun cdv A outer s H vs Q E hr h => ?_)
  · obtain ⟨x, rfl, _⟩ := h
    rfl
  · obtain ⟨x, rfl, h⟩ := h
    refine ⟨_, pss_one (ps_ret (pe_and (pe_call G hr (by rfl) gW FW.kp bW .nil pass0 (pa_cons (pv 0) pa_nil))
      (pe_one (pe_cmpR op_notIn_seq (pv 0) (pe_glob (v := .ref aK) rfl mK rfl) (by rfl))))), ?_⟩
    refine ⟨x, rfl, x, rfl, ?_⟩
    rcases h with ⟨z, rfl, zl, q⟩ | ⟨nt, q⟩
    · refine .inl ⟨z, rfl, zl, fun H' sm => ?_⟩
      cases hz : wd z with
      | true =>
        refine ⟨true, rfl, iteT ⟨.str z, rfl, aK, _, rfl, .inr (hK _), rfl, by decide +kernel, ?_⟩⟩
        have e : nm z = !inV (.str z) (kept.map V.str) := by
          unfold nm
          rw [hz, Bool.true_and]
        exact e ▸ q H' sm
      | false =>
        refine ⟨false, rfl, iteF ?_⟩
        have e : nm z = false := by
          unfold nm
          rw [hz, Bool.false_and]
        exact e ▸ q H' sm
    · exact .inr ⟨nt, false, rfl, iteF q⟩
def spSaid : Sp := fun vs H Q _ => ∃ z : Str, vs = [.str z] ∧ z.length ≤ 1000 ∧ PyData.strOk z = true ∧ ∀ H', Same' H H' → Q (.bl (wd z)) H'
abbrev nSaid : List Str := ["_law_text_here", "_law_sign"]
theorem scSaid : FnScope nSaid ["_law_text_here"] (defScope sSaid) := ⟨rfl, rfl, rfl, by decide +kernel, rfl, by decide +kernel, by decide +kernel⟩
theorem ok_said {f : Addr} {fd : FuncData} (F : Fun K "_law_is_said" "_law_is_said" sSaid f fd) (T : Txt mg) : FnOk P w K mg base CX0 1 f fd ["_law_text_here"] spSaid := by
  refine F.ok scSaid (fun vs H Q E h => ?_) (fun cdv A outer s H vs Q E hr h => ?_)
  · obtain ⟨x, rfl, _⟩ := h
    rfl
  · obtain ⟨z, rfl, zl, zok, q⟩ := h
    have zs : z.length < sizeLine := small1000 zl
    refine ⟨_, pss_one (ps_ret (pe_and (pe_chain op_le op_le pe_int (pe_callB call_len_str (by rfl) T.len PySem.boot_len (pa_cons (pv 0) pa_nil)) pe_int)
      (pe_one (pe_cmpR (op_eqD hr.units) (pe_lc (own := [("_law_sign", 1)]) (g := gName 1) rfl scSaid.nd (pi_str (pv 0)) (blkOk_by (N := nSaid) (sc := defScope sSaid) (by decide +kernel)) (fun _ _ _ _ _ => pg_name (i := 1) scSaid.nd rfl (Or.inl rfl))
          (fun _ _ _ _ _ => pts_one (pt_not (pt_chain op_le_str op_le_str pe_str (pv 1) pe_str))) (fun _ _ _ _ _ => pv 1)) (pe_lst pa_nil) (nomark _))))), ?_⟩
    refine ⟨.str z, rfl, z, rfl, Nat.le_of_lt zs, 1, _, rfl, rfl, _, rfl, ite2 (fun e => ?_) (fun e => ?_)⟩
    · refine ⟨_, 8, rfl, rfl, _, rfl, ite2 (fun e2 => ?_) (fun e2 => ?_)⟩
      · have l1 := of_decide_eq_true e
        have l2 := of_decide_eq_true e2
        refine ⟨.str z, rfl, z, rfl, fun D hD => ?_⟩
        refine lc_it walk_str (fun i H' => Same' H H' ∧ H' D = some (.lst (bad (z.cps.toList.take i)))) ⟨same_new hD, upd_same⟩ (fun _ _ _ _ => trivial) (fun i x H1 H2 hi hp hy => ?_) (fun H' hp => ?_)
        · obtain ⟨sm, ed⟩ := hp
          obtain ⟨rfl, c, hc, rfl⟩ := hy
          have hc' := sign_at hc
          have et : z.cps.toList.take (i + 1) = z.cps.toList.take i ++ [c] := by
            rw [List.take_add_one, hc']
            rfl
          have small : (bad (z.cps.toList.take i)).length < sizeLine := by
            have := bad_len (z.cps.toList.take i)
            have h2 := List.length_take_le' i z.cps.toList
            have h3 : z.cps.toList.length = z.length := Array.length_toList
            omega
          have keep : low c = false → ∃ acc, H2 D = some (.lst acc) ∧ acc.length < sizeLine ∧ Same' H (upd H2 D (.lst (acc ++ [V.str ⟨#[c]⟩]))) ∧ (upd H2 D (.lst (acc ++ [V.str ⟨#[c]⟩]))) D = some (.lst (bad (z.cps.toList.take (i + 1)))) := fun hl => by
            refine ⟨_, ed, small, same_over hD sm, ?_⟩
            rw [upd_same, et, bad_add, hl]
            rfl
          refine ⟨rfl, _, rfl, _, _, rfl, rfl, ?_⟩
          have ea : (Str.ofString "a").cps.toList = [97] := by decide +kernel
          have eb : (Str.ofString "z").cps.toList = [122] := by decide +kernel
          by_cases h1 : c < 97
          · have e1 : (!decide ((⟨#[c]⟩ : Str).cps.toList < (Str.ofString "a").cps.toList)) = false := by
              rw [ea, decide_eq_true (lt1.mpr h1)]
              rfl
            obtain ⟨acc, k1, k2, k3, k4⟩ := keep (lowF1 h1)
            exact ⟨false, congrArg V.bl e1, iteF ⟨false, rfl, iteT ⟨_, rfl, acc, k1, k2, k3, k4⟩⟩⟩
          · have e1 : (!decide ((⟨#[c]⟩ : Str).cps.toList < (Str.ofString "a").cps.toList)) = true := by
              rw [ea, decide_eq_false (fun h => h1 (lt1.mp h))]
              rfl
            refine ⟨true, congrArg V.bl e1, iteT ⟨_, _, rfl, rfl, ?_⟩⟩
            by_cases h2 : 122 < c
            · have e2 : (!decide ((Str.ofString "z").cps.toList < (⟨#[c]⟩ : Str).cps.toList)) = false := by
                rw [eb, decide_eq_true (lt1.mpr h2)]
                rfl
              obtain ⟨acc, k1, k2, k3, k4⟩ := keep (lowF2 h2)
              exact ⟨false, congrArg V.bl e2, iteT ⟨_, rfl, acc, k1, k2, k3, k4⟩⟩
            · have e2 : (!decide ((Str.ofString "z").cps.toList < (⟨#[c]⟩ : Str).cps.toList)) = true := by
                rw [eb, decide_eq_false (fun h => h2 (lt1.mp h))]
                rfl
              refine ⟨true, congrArg V.bl e2, iteF ⟨sm, ?_⟩⟩
              rw [ed, et, bad_add, lowT h1 h2]
              rfl
        · obtain ⟨sm, ed⟩ := hp
          rw [List.take_of_length_le (by rw [Array.length_toList]; exact Nat.le_refl _), bad_strs] at ed
          refine ⟨Nat.zero_le _, fun l hl => ?_⟩
          have nDl : D ≠ l := ne_of_none ed hl
          refine ⟨_, _, .lst (SqL.of (by rw [upd_ne nDl]; exact ed)) (dpStrs _), .lst (SqL.of upd_same) .nil, shaped_strs _ (ok_bad zok), rfl, ?_⟩
          rw [eqv_nil, ← bad_strs, ← bad_all]
          have ez : z.cps.toList.all low = wd z := by
            unfold wd
            rw [decide_eq_true (show 1 ≤ z.length by omega), decide_eq_true (show z.length ≤ 8 by omega)]
            rfl
          rw [ez]
          exact q _ fun b o h => by
            have hb := sm b o h
            rw [upd_ne (ne_of_none hb hl)]
            exact hb
      · have ez : wd z = false := by
          have := of_decide_eq_false (Bool.eq_false_iff.mpr e2)
          unfold wd
          rw [decide_eq_false (show ¬ z.length ≤ 8 by omega), Bool.and_false, Bool.false_and]
        exact ez ▸ q H fun _ _ e => e
    · refine ⟨false, rfl, iteF ?_⟩
      have ez : wd z = false := by
        have := of_decide_eq_false (Bool.eq_false_iff.mpr e)
        unfold wd
        rw [decide_eq_false (show ¬ 1 ≤ z.length by omega), Bool.false_and, Bool.false_and]
      exact ez ▸ q H fun _ _ e => e
end
end My
namespace My
open PySem PySem.Spec PyProof.Rows L2
/-! ### the pen is made -/
theorem cut63 {α : Type} (xs : List V) (h : xs.length ≤ 63) : cutV xs none (some 63) = xs := by
  unfold cutV
  rw [show HT.sIx xs.length 0 none = 0 from rfl, show HT.sIx xs.length xs.length (some 63) = min 63 xs.length from HT.sIx_nat xs.length xs.length 63, List.drop_zero, Nat.min_eq_right h, Nat.sub_zero]
  exact List.take_length
def spPen (K : PySem.W.Frag) : Sp := fun vs H Q _ => ∃ (a : Addr) (ns : List Int), vs = [.ref a] ∧ SqL K H a (ns.map V.int) ∧ ns.length ≤ 63 ∧ ∀ (p c : Addr) (H' : Hp), Same' H H' → PenAt H' p c ns 0 → Q (.ref p) H'
def Src (H : Hp) (p : Addr) (s : V) (src : List V) : Prop := (∃ l, s = .ref l ∧ l ≠ p ∧ H l = some (.lst src)) ∨ (∃ z : Str, s = .str z ∧ src = z.cps.toList.map (fun c => V.str ⟨#[c]⟩))
def spPick : Sp := fun vs H Q _ => ∃ (p c : Addr) (ns : List Int) (B : Int) (s : V) (src : List V), vs = [.ref p, s] ∧ PenAt H p c ns B ∧ B ≤ 1000 ∧ Src H p s src ∧ 1 ≤ src.length ∧ src.length ≤ 1000 ∧
  ∀ (v : V) (H' : Hp), v ∈ src → PenAt H' p c ns (B + 1) → Off p H H' → Q v H'
def spKept : Sp := fun vs H Q _ => vs = [] ∧ ∀ (p : Addr), H p = none → Q (.ref p) (upd H p (.lst (kept.map V.str)))
theorem kept_split : Txt.split (Str.ofString "put copy if else say fail catch choose or none stop skip cell log failure choice") (Str.ofString " ") = kept := by decide +kernel
section
variable {P : Program} {w : World} {K : PySem.W.Frag} {mg : Str → Option Value} {base : Heap}
theorem scPen : FnScope ["_law_script"] ["_law_script"] (defScope sPen) := ⟨rfl, rfl, rfl, by decide +kernel, rfl, by decide +kernel, by decide +kernel⟩
theorem ok_pen {f : Addr} {fd : FuncData} (F : Fun K "_law_pen" "_law_pen" sPen f fd) (T : Txt mg) : FnOk P w K mg base CX0 1 f fd ["_law_script"] (spPen K) := by
  refine F.ok scPen (fun vs H Q E h => ?_) (fun cdv A outer s H vs Q E hr h => ?_)
  · obtain ⟨a, ns, rfl, _⟩ := h
    rfl
  · obtain ⟨a, ns, rfl, hS, few, q⟩ := h
    refine ⟨_, pss_one (ps_ret (pe_lst (pa_cons (pe_callTy call_list_of (by rfl) T.list (by decide +kernel) (pa_cons (pe_slice sl_list (pv 0) po_none (po_some pe_int)) pa_nil)) (pa_cons pe_int (pa_cons pe_int pa_nil))))), ?_⟩
    refine ⟨.ref a, rfl, 63, rfl, a, _, rfl, hS, fun u hu => ?_⟩
    rw [cut63 (α := Unit) _ (by rw [List.length_map]; exact few)]
    refine ⟨u, _, rfl, .inl (SqL.of upd_same), fun c hc => ⟨by show 3 ≤ sizeLine; decide, fun p hp => ?_⟩⟩
    have ncp : c ≠ p := fun z => by
      rw [← z, upd_same] at hp
      cases hp
    refine q p c _ (fun b o e => ?_) ⟨⟨0, 0, upd_same, Int.le_refl _, Int.le_refl _, Int.le_refl _⟩, by rw [upd_ne ncp, upd_same], few⟩
    have e1 : (upd H u (.lst (ns.map V.int))) b = some o := by
      rw [upd_ne (ne_of_none e hu)]
      exact e
    have e2 : (upd (upd H u (.lst (ns.map V.int))) c (.lst (ns.map V.int))) b = some o := by
      rw [upd_ne (ne_of_none e1 hc)]
      exact e1
    rw [upd_ne (ne_of_none e2 hp)]
    exact e2
theorem scPick : FnScope ["_law_pen_here", "_law_some"] ["_law_pen_here", "_law_some"] (defScope sPick) := ⟨rfl, rfl, rfl, by decide +kernel, rfl, by decide +kernel, by decide +kernel⟩
theorem ok_pick {f fD : Addr} {fd fdD : FuncData} (F : Fun K "_law_pick" "_law_pick" sPick f fd) (T : Txt mg) (FD : Fun K "_law_draw" "_law_draw" sDraw fD fdD) (bD : Binds K fdD ["_law_pen_here", "_law_many"] []) (gD : mg "_law_draw" = some (.ref fD))
    (G : FnOk P w K mg base CX0 1 fD fdD ["_law_pen_here", "_law_many"] spDraw) : FnOk P w K mg base CX0 2 f fd ["_law_pen_here", "_law_some"] spPick := by
  refine F.ok scPick (fun vs H Q E h => ?_) (fun cdv A outer s H vs Q E hr h => ?_)
  · obtain ⟨p, c, ns, B, s, src, rfl, _⟩ := h
    rfl
  · obtain ⟨p, c, ns, B, x, src, rfl, PA0, hB, hs, n1, n2, q⟩ := h
    refine ⟨_, pss_one (ps_ret (pe_ix ix_seq (pv 1) (pe_call G hr (by rfl) gD FD.kp bD .nil pass0 (pa_cons (pv 0) (pa_cons (pe_callB (CallR.or call_len_seq call_len_str) (by rfl) T.len PySem.boot_len (pa_cons (pv 1) pa_nil)) pa_nil))) (fun _ _ => rfl))), ?_⟩
    refine ⟨x, rfl, .ref p, rfl, x, rfl, ?_⟩
    have fin : ∀ (d : Int), 0 ≤ d → d < (src.length : Nat) → ∃ v, v ∈ src ∧ atI src d = some v := fun d h0 h1 => at_in h0 h1
    rcases hs with ⟨l, rfl, nlp, hl⟩ | ⟨z, rfl, rfl⟩
    · refine .inl ⟨l, src, rfl, .inl (SqL.of hl), ?_⟩
      refine ⟨p, c, ns, B, _, rfl, PA0, hB, by omega, by omega, fun d H' d0 d1 PA1 off => ?_⟩
      obtain ⟨v, hv, at1⟩ := fin d d0 d1
      exact .inl ⟨l, src, d, v, rfl, rfl, SqL.of (off l _ nlp hl), at1, q v H' hv PA1 off⟩
    · rw [List.length_map] at n1 n2
      have ez : z.cps.toList.length = z.length := Array.length_toList
      have zs : z.length < sizeLine := small1000 (by omega)
      refine .inr ⟨z, rfl, Nat.le_of_lt zs, ?_⟩
      refine ⟨p, c, ns, B, _, rfl, PA0, hB, by omega, by omega, fun d H' d0 d1 PA1 off => ?_⟩
      have d1' : d < (z.cps.toList.length : Nat) := by rw [ez]; exact d1
      obtain ⟨k, rfl⟩ : ∃ k : Nat, d = (k : Int) := ⟨d.toNat, by omega⟩
      have hk : k < z.cps.toList.length := by omega
      refine .inr (.inr ⟨z, _, z.cps.toList[k], rfl, rfl, Nat.le_of_lt zs, atI_nat (List.getElem?_eq_getElem hk), ?_⟩)
      exact q _ H' (List.mem_map.mpr ⟨_, List.getElem_mem hk, rfl⟩) PA1 off
theorem scKept : FnScope ["_law_some"] [] (defScope sKept) := ⟨rfl, rfl, rfl, by decide +kernel, rfl, by decide +kernel, by decide +kernel⟩
theorem ok_kept {f : Addr} {fd : FuncData} (F : Fun K "_law_kept_words" "_law_kept_words" sKept f fd) : FnOk P w K mg base CX0 1 f fd [] spKept := by
  refine F.ok scKept (fun vs H Q E h => ?_) (fun cdv A outer s H vs Q E hr h => ?_)
  · obtain ⟨rfl, _⟩ := h
    rfl
  · obtain ⟨rfl, q⟩ := h
    refine ⟨_, pss_cons (ps_set (i := 0) scKept.nd rfl (.inl rfl) pe_str) (pss_one (ps_ret (pe_split (pv 0) pe_str))), ?_⟩
    refine ⟨_, rfl, ⟨_, rfl⟩, _, _, rfl, rfl, by decide +kernel, by decide +kernel, fun p hp => ?_⟩
    rw [kept_split]
    exact q p hp
end
end My
namespace My
open PySem PySem.Spec PyProof.Rows L2
theorem len_app (x y : Str) : (x ++ y).length = x.length + y.length := by
  show (x.cps ++ y.cps).size = x.cps.size + y.cps.size
  simp
theorem ok_app {x y : Str} (h : PyData.strOk x = true) (k : PyData.strOk y = true) : PyData.strOk (x ++ y) = true := by
  show (x.cps ++ y.cps).all _ = true
  unfold PyData.strOk at h k
  simp only [Array.all_append, h, k, Bool.and_self]
theorem abc_ok : PyData.strOk abc = true := by decide +kernel
def spLetters : Sp := fun vs H Q _ => ∃ (p c : Addr) (ns : List Int) (B m : Int), vs = [.ref p, .int m] ∧ PenAt H p c ns B ∧ B + 20 ≤ 1000 ∧ 0 ≤ m ∧ m ≤ 20 ∧
  ∀ (z : Str) (H' : Hp), (z.length : Int) ≤ m → PyData.strOk z = true → PenAt H' p c ns (B + m) → Off p H H' → Q (.str z) H'
section
variable {P : Program} {w : World} {K : PySem.W.Frag} {mg : Str → Option Value} {base : Heap}
abbrev nLet : List Str := ["_law_pen_here", "_law_many", "_law_found", "_law_turn"]
theorem scLet : FnScope nLet ["_law_pen_here", "_law_many"] (defScope sLetters) := ⟨rfl, rfl, rfl, by decide +kernel, rfl, by decide +kernel, by decide +kernel⟩
theorem ok_letters {f fP : Addr} {fd fdP : FuncData} (F : Fun K "_law_letters" "_law_letters" sLetters f fd) (T : Txt mg) (FP : Fun K "_law_pick" "_law_pick" sPick fP fdP) (bP : Binds K fdP ["_law_pen_here", "_law_some"] []) (gP : mg "_law_pick" = some (.ref fP))
    (G : FnOk P w K mg base CX0 2 fP fdP ["_law_pen_here", "_law_some"] spPick) : FnOk P w K mg base CX0 3 f fd ["_law_pen_here", "_law_many"] spLetters := by
  refine F.ok scLet (fun vs H Q E h => ?_) (fun cdv A outer s H vs Q E hr h => ?_)
  · obtain ⟨p, c, ns, B, m, rfl, _⟩ := h
    rfl
  · obtain ⟨p, c, ns, B, m, rfl, PA0, hB, m0, m1, q⟩ := h
    refine ⟨_, pss_cons (ps_set (i := 2) scLet.nd rfl (.inl rfl) pe_str)
      (pss_cons (ps_for PassesOwn.never rfl (pi_range1 (by rfl) T.range (pa_cons (pv 1) pa_nil)) (pg_name (i := 3) scLet.nd rfl (.inl rfl))
        (pss_one (ps_set (i := 2) scLet.nd rfl (.inl rfl) (pe_op op_add_str (pv 2) (pe_call G hr (by rfl) gP FP.kp bP .nil pass0 (pa_cons (pv 0) (pa_cons pe_str pa_nil)))))))
      (pss_one (ps_ret (pv 2)))), ?_⟩
    refine ⟨.int m, rfl, m, rfl, by omega, by omega, ?_⟩
    refine for_range (lo := 0) (n := m.toNat) (fun i σ H' => ∃ (z : Str) (y3 : Option V), σ = [some (.ref p), some (.int m), some (.str z), y3] ∧ z.length ≤ i ∧ PyData.strOk z = true ∧ PenAt H' p c ns (B + i) ∧ Off p H H')
      ⟨_, none, rfl, by decide +kernel, by decide +kernel, PA0.more (by omega), Off.rfl'⟩ (fun i σ H1 hi hp => ?_) (fun σ H1 hp => ?_)
    · obtain ⟨z, y3, rfl, zl, zok, PA1, off⟩ := hp
      refine ⟨.str z, rfl, .ref p, rfl, p, c, ns, B + i, .str abc, _, rfl, PA1, by omega, .inr ⟨abc, rfl, rfl⟩, by decide +kernel, by decide +kernel, fun v H2 hv PA2 off2 => ?_⟩
      obtain ⟨ch, hch, rfl⟩ := List.mem_map.mp hv
      have cok : PyData.strOk ⟨#[ch]⟩ = true := ok_sign abc_ok hch
      have l1 : (⟨#[ch]⟩ : Str).length = 1 := rfl
      refine ⟨z, ⟨#[ch]⟩, rfl, rfl, ?_, ?_⟩
      · rw [l1]
        exact Nat.le_of_lt (small1000 (by omega))
      · exact ⟨z ++ ⟨#[ch]⟩, _, rfl, by rw [len_app, l1]; omega, ok_app zok cok, PA2.more (by omega), off.trans off2⟩
    · obtain ⟨z, y3, rfl, zl, zok, PA1, off⟩ := hp
      exact ⟨.str z, rfl, q z H1 (by omega) zok (PA1.more (by omega)) off⟩
end
end My
namespace My
open PySem PySem.Spec PyProof.Rows L2
theorem cut_of (z : Str) (lo hi : Option Int) : (cutS z lo hi).length ≤ z.length ∧ (PyData.strOk z = true → PyData.strOk (cutS z lo hi) = true) := by
  have hs : (cutS z lo hi).cps.toList = (z.cps.toList.drop (HT.sIx z.length 0 lo)).take (HT.sIx z.length z.length hi - HT.sIx z.length 0 lo) := rfl
  constructor
  · show (cutS z lo hi).cps.size ≤ z.cps.size
    rw [← Array.length_toList, ← Array.length_toList, hs, List.length_take, List.length_drop]
    omega
  · intro h
    unfold PyData.strOk at h ⊢
    rw [← Array.all_toList] at h ⊢
    rw [hs, List.all_eq_true]
    intro c hc
    exact List.all_eq_true.mp h c (List.mem_of_mem_drop (List.mem_of_mem_take hc))
theorem PenAt.lay {H : Hp} {p c : Addr} {ns : List Int} {B : Int} (PA : PenAt H p c ns B) {l : Addr} (hl : H l = none) (o : HO) : l ≠ p ∧ PenAt (upd H l o) p c ns B ∧ Off p H (upd H l o) := by
  obtain ⟨b, g, e, _⟩ := PA.pen
  exact ⟨(ne_of_none e hl).symm, PA.keep (same_new hl), Off.new hl⟩
def nums : List Int := [0, 1, 1, 2, 3, 5, 7, 8, 8, 9, 10]
def odds : List Str := ["A", "Z", "0", "9", " ", "_", "-", "\n", "{", "`", ";", "("]
theorem kept_fine : ∀ k ∈ kept, k.length ≤ 8 ∧ PyData.strOk k = true := by decide +kernel
theorem odds_fine : ∀ k ∈ odds, k.length ≤ 8 ∧ PyData.strOk k = true := by decide +kernel
theorem nums_fine : ∀ k ∈ nums, 0 ≤ k ∧ k ≤ 10 := by decide +kernel
def spText : Sp := fun vs H Q _ => ∃ (p c : Addr) (ns : List Int) (B : Int), vs = [.ref p] ∧ PenAt H p c ns B ∧ B + 40 ≤ 1000 ∧
  ∀ (z : Str) (H' : Hp), z.length ≤ 40 → PyData.strOk z = true → PenAt H' p c ns (B + 40) → Off p H H' → Q (.str z) H'
section
variable {P : Program} {w : World} {K : PySem.W.Frag} {mg : Str → Option Value} {base : Heap}
abbrev nText : List Str := ["_law_pen_here", "_law_way", "_law_near", "_law_found", "_law_spot"]
theorem scText : FnScope nText ["_law_pen_here"] (defScope sText) := ⟨rfl, rfl, rfl, by decide +kernel, rfl, by decide +kernel, by decide +kernel⟩
theorem ok_text {f fD fP fL fK : Addr} {fd fdD fdP fdL fdK : FuncData} (F : Fun K "_law_text" "_law_text" sText f fd) (T : Txt mg)
    (FD : Fun K "_law_draw" "_law_draw" sDraw fD fdD) (bD : Binds K fdD ["_law_pen_here", "_law_many"] []) (gD : mg "_law_draw" = some (.ref fD)) (GD : FnOk P w K mg base CX0 1 fD fdD ["_law_pen_here", "_law_many"] spDraw)
    (FP : Fun K "_law_pick" "_law_pick" sPick fP fdP) (bP : Binds K fdP ["_law_pen_here", "_law_some"] []) (gP : mg "_law_pick" = some (.ref fP)) (GP : FnOk P w K mg base CX0 2 fP fdP ["_law_pen_here", "_law_some"] spPick)
    (FL : Fun K "_law_letters" "_law_letters" sLetters fL fdL) (bL : Binds K fdL ["_law_pen_here", "_law_many"] []) (gL : mg "_law_letters" = some (.ref fL)) (GL : FnOk P w K mg base CX0 3 fL fdL ["_law_pen_here", "_law_many"] spLetters)
    (FK : Fun K "_law_kept_words" "_law_kept_words" sKept fK fdK) (bK : Binds K fdK [] []) (gK : mg "_law_kept_words" = some (.ref fK)) (GK : FnOk P w K mg base CX0 1 fK fdK [] spKept) :
    FnOk P w K mg base CX0 4 f fd ["_law_pen_here"] spText := by
  refine F.ok scText (fun vs H Q E h => ?_) (fun cdv A outer s H vs Q E hr h => ?_)
  · obtain ⟨p, c, ns, B, rfl, _⟩ := h
    rfl
  · obtain ⟨p, c, ns, B, rfl, PA0, hB, q⟩ := h
    have r1 := hr.mono (show 1 ≤ 3 by decide)
    have r2 := hr.mono (show 2 ≤ 3 by decide)
    refine ⟨_, pss_cons (ps_set (i := 1) scText.nd rfl (.inl rfl) (pe_call GD r1 (by rfl) gD FD.kp bD .nil pass0 (pa_cons (pv 0) (pa_cons pe_int pa_nil))))
      (pss_cons (ps_if (pt_cmpR op_eq (pv 1) pe_int (nomark _)) (pss_one (ps_ret (pe_call GP r2 (by rfl) gP FP.kp bP .nil pass0 (pa_cons (pv 0) (pa_cons (pe_call0 GK r1 (by rfl) gK FK.kp bK .nil pass0) pa_nil))))) pss_nil)
      (pss_cons (ps_if (pt_cmpR op_eq (pv 1) pe_int (nomark _))
        (pss_cons (ps_set (i := 2) scText.nd rfl (.inl rfl) (pe_call GP r2 (by rfl) gP FP.kp bP .nil pass0 (pa_cons (pv 0) (pa_cons (pe_call0 GK r1 (by rfl) gK FK.kp bK .nil pass0) pa_nil))))
        (pss_one (ps_ret (pe_ifExp (pt_cmpR op_eq (pe_call GD r1 (by rfl) gD FD.kp bD .nil pass0 (pa_cons (pv 0) (pa_cons pe_int pa_nil))) pe_int (nomark _)) (pe_slice sl_str (pv 2) po_none (po_some (pe_un un_neg pe_int)))
          (pe_op op_add_str (pv 2) (pe_call GL hr (by rfl) gL FL.kp bL .nil pass0 (pa_cons (pv 0) (pa_cons pe_int pa_nil)))))))) pss_nil)
      (pss_cons (ps_set (i := 3) scText.nd rfl (.inl rfl) (pe_call GL hr (by rfl) gL FL.kp bL .nil pass0 (pa_cons (pv 0) (pa_cons (pe_call GP r2 (by rfl) gP FP.kp bP .nil pass0 (pa_cons (pv 0) (pa_cons
          (pe_lst (pa_cons pe_int (pa_cons pe_int (pa_cons pe_int (pa_cons pe_int (pa_cons pe_int (pa_cons pe_int (pa_cons pe_int (pa_cons pe_int (pa_cons pe_int (pa_cons pe_int (pa_cons pe_int pa_nil)))))))))))) pa_nil))) pa_nil))))
      (pss_cons (ps_if (pt_cmpR op_gt (pv 1) pe_int (nomark _)) (pss_one (ps_ret (pv 3))) pss_nil)
      (pss_cons (ps_set (i := 4) scText.nd rfl (.inl rfl) (pe_call GD r1 (by rfl) gD FD.kp bD .nil pass0 (pa_cons (pv 0) (pa_cons (pe_op op_add (pe_callB call_len_str (by rfl) T.len PySem.boot_len (pa_cons (pv 3) pa_nil)) pe_int) pa_nil))))
      (pss_one (ps_ret (pe_op op_add_str (pe_op op_add_str (pe_slice sl_str (pv 3) po_none (po_some (pv 4))) (pe_call GP r2 (by rfl) gP FP.kp bP .nil pass0 (pa_cons (pv 0) (pa_cons
          (pe_lst (pa_cons pe_str (pa_cons pe_str (pa_cons pe_str (pa_cons pe_str (pa_cons pe_str (pa_cons pe_str (pa_cons pe_str (pa_cons pe_str (pa_cons pe_str (pa_cons pe_str (pa_cons pe_str (pa_cons pe_str pa_nil))))))))))))) pa_nil))))
          (pe_slice sl_str (pv 3) (po_some (pv 4)) po_none))))))))), ?_⟩
    refine ⟨.ref p, rfl, p, c, ns, B, 7, rfl, PA0, by omega, by decide, by decide, fun way H1 w0 w1 PA1 off1 => ?_⟩
    refine ⟨.int way, rfl, rfl, _, rfl, ite2 (fun e => ?_) (fun e => ?_)⟩
    · refine ⟨.ref p, rfl, rfl, fun l hl => ?_⟩
      obtain ⟨nlp, PAl, offl⟩ := PA1.lay hl (.lst (kept.map V.str))
      refine ⟨p, c, ns, B + 1, .ref l, kept.map V.str, rfl, PAl, by omega, .inl ⟨l, rfl, nlp, upd_same⟩, by decide, by decide, fun v H2 hv PA2 off2 => ?_⟩
      obtain ⟨k, hk, rfl⟩ := List.mem_map.mp hv
      have hf := kept_fine k hk
      exact q k H2 (by omega) hf.2 (PA2.more (by omega)) (off1.trans (offl.trans off2))
    · refine ⟨.int way, rfl, rfl, _, rfl, ite2 (fun e2 => ?_) (fun e2 => ?_)⟩
      · refine ⟨.ref p, rfl, rfl, fun l hl => ?_⟩
        obtain ⟨nlp, PAl, offl⟩ := PA1.lay hl (.lst (kept.map V.str))
        refine ⟨p, c, ns, B + 1, .ref l, kept.map V.str, rfl, PAl, by omega, .inl ⟨l, rfl, nlp, upd_same⟩, by decide, by decide, fun v H2 hv PA2 off2 => ?_⟩
        obtain ⟨k, hk, rfl⟩ := List.mem_map.mp hv
        have hf := kept_fine k hk
        have off3 := off1.trans (offl.trans off2)
        refine ⟨.ref p, rfl, p, c, ns, B + 2, 2, rfl, PA2.more (by omega), by omega, by decide, by decide, fun d H3 d0 d1 PA3 off4 => ?_⟩
        refine ⟨rfl, _, rfl, ite2 (fun e3 => ?_) (fun e3 => ?_)⟩
        · have hc := cut_of k none (some (-1))
          refine ⟨.str k, rfl, 1, rfl, -1, rfl, k, rfl, Nat.le_of_lt (small1000 (by omega)), ?_⟩
          exact q _ H3 (by omega) (hc.2 hf.2) (PA3.more (by omega)) (off3.trans off4)
        · refine ⟨.str k, rfl, .ref p, rfl, p, c, ns, B + 3, 1, rfl, PA3.more (by omega), by omega, by decide, by decide, fun z H4 zl zok PA4 off5 => ?_⟩
          refine ⟨k, z, rfl, rfl, Nat.le_of_lt (small1000 (by omega)), ?_⟩
          exact q _ H4 (by rw [len_app]; omega) (ok_app hf.2 zok) (PA4.more (by omega)) (off3.trans (off4.trans off5))
      · refine ⟨.ref p, rfl, .ref p, rfl, by show 11 ≤ sizeLine; decide, fun l hl => ?_⟩
        obtain ⟨nlp, PAl, offl⟩ := PA1.lay hl (.lst (nums.map V.int))
        refine ⟨p, c, ns, B + 1, .ref l, nums.map V.int, rfl, PAl, by omega, .inl ⟨l, rfl, nlp, upd_same⟩, by decide, by decide, fun v H2 hv PA2 off2 => ?_⟩
        obtain ⟨k, hk, rfl⟩ := List.mem_map.mp hv
        have hf := nums_fine k hk
        refine ⟨p, c, ns, B + 2, k, rfl, PA2.more (by omega), by omega, hf.1, by omega, fun z H3 zl zok PA3 off3 => ?_⟩
        have off4 := off1.trans (offl.trans (off2.trans off3))
        refine ⟨.int way, rfl, way, 3, rfl, rfl, _, rfl, ite2 (fun e3 => ?_) (fun e3 => ?_)⟩
        · exact ⟨.str z, rfl, q z H3 (by omega) zok (PA3.more (by omega)) off4⟩
        · refine ⟨.ref p, rfl, .str z, rfl, z, rfl, Nat.le_of_lt (small1000 (by omega)), _, 1, rfl, rfl, ?_⟩
          refine ⟨p, c, ns, B + 12, _, rfl, PA3.more (by omega), by omega, by omega, by omega, fun d H4 d0 d1 PA4 off5 => ?_⟩
          have c1 := cut_of z none (some d)
          have c2 := cut_of z (some d) none
          refine ⟨.str z, rfl, .int d, rfl, d, rfl, z, rfl, Nat.le_of_lt (small1000 (by omega)), .ref p, rfl, by show 12 ≤ sizeLine; decide, fun l2 hl2 => ?_⟩
          obtain ⟨nlp2, PAl2, offl2⟩ := PA4.lay hl2 (.lst (odds.map V.str))
          refine ⟨p, c, ns, B + 13, .ref l2, odds.map V.str, rfl, PAl2.more (by omega), by omega, .inl ⟨l2, rfl, nlp2, upd_same⟩, by decide, by decide, fun v2 H5 hv2 PA5 off6 => ?_⟩
          obtain ⟨y, hy, rfl⟩ := List.mem_map.mp hv2
          have hg := odds_fine y hy
          refine ⟨_, y, rfl, rfl, Nat.le_of_lt (small1000 (by omega)), .str z, rfl, .int d, rfl, d, rfl, z, rfl, Nat.le_of_lt (small1000 (by omega)), _, _, rfl, rfl, Nat.le_of_lt (small1000 (by rw [len_app]; omega)), ?_⟩
          exact q _ H5 (by rw [len_app, len_app]; omega) (ok_app (ok_app (c1.2 zok) hg.2) (c2.2 zok)) (PA5.more (by omega)) (off4.trans (off5.trans (offl2.trans off6)))
end
end My
namespace My
open PySem PySem.Spec PyProof.Rows L2
section
variable {X : Cx}
/-- repr of data, no repr being under way -/
def rRepr (K : PySem.W.Frag) : List V → Hp → VK → Prop := fun xs H Q => ∃ (a : Addr) (d : PyData), xs = [.ref a] ∧ Dp K H (.ref a) d ∧ d.showable = true ∧ d.hasDict = false ∧ d.depth ≤ 8 ∧ d.shown.length ≤ sizeLine ∧ Q (.str d.shown) H
theorem call_reprD (hg : X.A.guards = some []) (hu : X.A.units + 64 < cLine) : CallR X (.builtin "repr") (rRepr X.K) := by
  intro pins s σ H xs us Q I r h
  obtain ⟨a, d, rfl, hd, sh, nd, dp, sz, q⟩ := h
  obtain ⟨u, rfl, ru⟩ := vals1 r
  cases ru
  obtain ⟨as, rd⟩ := Dp.reads I d (.ref a) (.ref a) hd rfl
  exact repr_of_reads' rd sh (PyData.noDict_hsm nd) hg (by omega) (fun _ _ e => e) (fun h' u tk hk => ⟨.str d.shown, H, I.kept hk, ⟨u, rfl⟩, q⟩) sz
variable {CX : CXT} {k : Nat} {f : Addr} {fd : FuncData} {ps ks : List Str} {sp : Sp} {E : XK} {x : Str} {p pos : Pos} {kws : List Keyword} {tk : TA} {g : List Value → List Value → List Value} {gV : List V → List V → List V}
/-- f(k = v), keywords alone -/
theorem pe_callKw (F : FnOk X.prog X.w X.K X.mg X.base CX k f fd ps sp) (hr : Room k X.A) (hg : Gl X x) (hm : X.mg x = some (.ref f)) (hk : PySem.W.keepIn X.K (.ref f) = true) (hb : KBinds X.K fd ps ks g gV) (hx : Passes CX X E) (hkw : PK X kws tk)
    (hall : (backToKw pos (keywordEach kws X.env)).all (·.1.isSome) = true := by rfl) (hks : (backToKw pos (keywordEach kws X.env)).filterMap (·.1) = ks := by rfl) (hdb : (x == ("__debug__" : Str)) = false := by decide)
    (hpl : ((backTo pos (starEach [] X.env)).any (·.1) || (backToKw pos (keywordEach kws X.env)).any (·.1.isNone)) = false := by rfl) : PE X (.Call (.Name x p) [] kws pos) (tCallK sp gV E tNil tk) := by
  constructor
  intro pins s σ H Q I h
  refine wpAny_Call_Name_kw (ld_glob I hg hm (PySem.W.callWith_KW0 (h₀ := X.base) I.ok.mod.kin hk hall (thn (hkw.run pos pins s σ H _ I h) ?_) hpl) hdb)
  intro ws s2 hz
  obtain ⟨zs, H2, I2, rz, q2⟩ := hz
  refine ⟨I2.kIn, ?_⟩
  rw [hks]
  exact run_fnk (us := []) (vs := []) F hr hb hx I2 .nil rz q2
end
/-- one parameter, passed by its name -/
abbrev kwG {α : Type} (us ws : List α) : List α := us ++ us ++ ws
theorem kwRel {vs : List V} {us : List Value} {zs : List V} {ws : List Value} (h : Vals vs us) (k : Vals zs ws) : Vals (kwG vs zs) (kwG us ws) := by
  have app : ∀ {a : List V} {b : List Value} {c : List V} {d : List Value}, Vals a b → Vals c d → Vals (a ++ c) (b ++ d) := by
    intro a b c d h1 h2
    induction h1 with
    | nil => exact h2
    | cons r _ ih => exact .cons r ih
  exact app (app h h) k
theorem kwOne {K : PySem.W.Frag} {nm qual y : Str} {st : Stmt} {f : Addr} {fd : FuncData} (F : Fun K nm qual st f fd)
    (h : ∀ (kV doc pm : Value) (an : Option Addr) (cdv ct w : Value), bindArgs (PySem.W.fnOf nm qual (defArgs st) (defBody st) (defScope st) .none kV doc pm an cdv ct) ⟨[], [(y, w)]⟩ = pure [(y, w)]) : KBinds K fd [y] [y] kwG kwG := by
  obtain ⟨oc, od, kV, doc, pm, an, cdv, ct, osl, rfl, lk, hcd⟩ := F.ex
  refine ⟨fun s us ws _ hl => ?_, kwRel⟩
  match us, ws, hl with
  | [], [w], _ => exact .of_eq (h kV doc pm an cdv ct w)
  | [], [], hl => exact absurd hl (by simp)
  | [], _ :: _ :: _, hl => exact absurd hl (by simp)
  | _ :: _, _, hl =>
    simp at hl
end My
namespace My
open PySem PySem.Spec PyProof.Rows L2
/-- a def of the text with its promise -/
structure Fn (P : Program) (w : World) (K : PySem.W.Frag) (mg : Str → Option Value) (base : Heap) (k : Nat) (x : String) (st : Stmt) (f : Addr) (fd : FuncData) (ps : List Str) (sp : Sp) : Prop where
  F : Fun K x x st f fd
  b : Binds K fd ps []
  g : mg x = some (.ref f)
  G : FnOk P w K mg base CX0 k f fd ps sp
theorem join_if {c b : Bool} {A : Prop} {Q : V → Hp → Prop} {H1 : Hp} (Z : ∀ H2, Same' H1 H2 → Q (.bl (c && b)) H2) (h : c = true → (∀ H2, Same' H1 H2 → Q (.bl b) H2) → A) : if c = true then A else Q (.bl false) H1 := by
  cases c with
  | true => exact iteT (h rfl Z)
  | false => exact iteF (Z H1 fun _ _ e => e)
def two (a b : Bool) : PyData := .list [.bool a, .bool b]
theorem two_shown (a b : Bool) : (two a b).shown.length ≤ sizeLine := by cases a <;> cases b <;> decide +kernel
theorem two_deep (a b : Bool) : (two a b).depth ≤ 8 := by cases a <;> cases b <;> decide
theorem two_dp {K : PySem.W.Frag} {H : Hp} {l : Addr} {a b : Bool} (h : H l = some (.lst [.bl a, .bl b])) : Dp K H (.ref l) (two a b) := .lst (SqL.of h) (.cons (.bl _) (.cons (.bl _) .nil))
theorem same_step {H H1 : Hp} {p : Addr} {o : HO} (k : Same' H H1) (h : H1 p = none) : Same' H (upd H1 p o) := fun b x e => by
  have e1 := k _ _ e
  rw [upd_ne (ne_of_none e1 h)]
  exact e1
abbrev nLaw : List Str := ["_law_script", "_law_pen_here", "_law_turn", "_law_text_here", "_law_due", "_law_odd", "_law_some"]
theorem scLaw : FnScope nLaw ["_law_script"] (defScope sLaw) := ⟨rfl, rfl, rfl, by decide +kernel, rfl, by decide +kernel, by decide +kernel⟩
section
variable {w : World} {K : PySem.W.Frag} {mg : Str → Option Value} {base : Heap} {fa : Addr} {cdv : Value} {s : Shared} {H0 : Hp}
abbrev PR : Program := PySem.Challenge.rw_layerseen_k02_names_and_words.prog
abbrev XL (w : World) (K : PySem.W.Frag) (mg : Str → Option Value) (base : Heap) (fa : Addr) (cdv : Value) (s : Shared) (H0 : Hp) : Cx := (cxOf CX0 PR w K mg base nLaw "law" (defScope sLaw) fa cdv callerA [] s H0 E0).nox
theorem hrX : Room 5 (XL w K mg base fa cdv s H0).A := ⟨rfl, by show 1 + claimMargin + 1 + 3 * 5 + 5 < recursionLimit; decide +kernel, by show 4 + 3 + 16 * 5 + 200 < cLine; decide +kernel⟩
theorem hgX : (XL w K mg base fa cdv s H0).A.guards = some [] := rfl
/-- the body of the loop -/
def turnOf (s : Stmt) : List Stmt := match s with
  | .For _ _ b _ _ => b
  | _ => []
def testOf (s : Stmt) : Expr := match s with
  | .If c _ _ _ => c
  | _ => .Name "" ⟨0, 0, 0, 0⟩
def inTurn (i : Nat) : Stmt := (turnOf ((defBody sLaw).getD 1 (.Pass ⟨0, 0, 0, 0⟩))).getD i (.Pass ⟨0, 0, 0, 0⟩)
section
variable {fW fN fS fK fP fT fPen : Addr} {dW dN dS dK dP dT dPen : FuncData}
/-- test c: is_name and is_word against what is due -/
theorem partC (T : Txt mg) (W : Fn PR w K mg base 1 "is_word" sWord fW dW ["value"] (spWord K wd)) (N : Fn PR w K mg base 2 "is_name" sName fN dN ["value"] (spWord K nm))
    (kW : KBinds K dW ["value"] ["value"] kwG kwG) (kN : KBinds K dN ["value"] ["value"] kwG kwG) :
    ∃ tc, PT (XL w K mg base fa cdv s H0) (testOf (inTurn 2)) tc ∧
      ∀ (z : Str) (l : Addr) (σ : L2.St) (H : Hp) (Q : Bool → Hp → Prop), σ[3]? = some (some (.str z)) → σ[4]? = some (some (.ref l)) → z.length ≤ 1000 → H l = some (.lst [.bl (nm z), .bl (wd z)]) →
        (∀ H', Same' H H' → Q false H') → tc σ H Q := by
  have r1 : Room 1 (XL w K mg base fa cdv s H0).A := hrX.mono (by decide)
  have r2 : Room 2 (XL w K mg base fa cdv s H0).A := hrX.mono (by decide)
  have hu : (XL w K mg base fa cdv s H0).A.units + 64 < cLine := hrX.units
  refine ⟨_, PW.pt (pw_or (pt_cmpR op_ne
        (pe_callB (call_reprD hgX hu) (by rfl) T.repr (by decide +kernel) (pa_cons (pe_lst (pa_cons (pe_call N.G r2 (by rfl) N.g N.F.kp N.b .nil pass0 (pa_cons (pv 3) pa_nil)) (pa_cons (pe_call W.G r1 (by rfl) W.g W.F.kp W.b .nil pass0 (pa_cons (pv 3) pa_nil)) pa_nil))) pa_nil))
        (pe_callB (call_reprD hgX hu) (by rfl) T.repr (by decide +kernel) (pa_cons (pv 4) pa_nil)) (nomark _))
      (pw_or1 (pt_cmpR op_ne
        (pe_callB (call_reprD hgX hu) (by rfl) T.repr (by decide +kernel) (pa_cons (pe_lst (pa_cons (pe_callKw N.G r2 (by rfl) N.g N.F.kp kN pass0 (pk_cons (pv 3) pk_nil)) (pa_cons (pe_callKw W.G r1 (by rfl) W.g W.F.kp kW pass0 (pk_cons (pv 3) pk_nil)) pa_nil))) pa_nil))
        (pe_callB (call_reprD hgX hu) (by rfl) T.repr (by decide +kernel) (pa_cons (pv 4) pa_nil)) (nomark _)))), ?_⟩
  intro z l σ H Q s3 s4 zl hl q
  refine ⟨.str z, s3, .str z, rfl, .inl ⟨z, rfl, zl, fun H1 sm1 => ⟨.str z, s3, .str z, rfl, .inl ⟨z, rfl, zl, fun H2 sm2 => ?_⟩⟩⟩⟩
  refine ⟨by show 2 ≤ sizeLine; decide, fun l1 hl1 => ⟨l1, two (nm z) (wd z), rfl, two_dp upd_same, rfl, rfl, two_deep _ _, two_shown _ _, ?_⟩⟩
  have sm3 : Same' H (upd H2 l1 (.lst [.bl (nm z), .bl (wd z)])) := fun b o e => same_step sm2 hl1 b o (sm1 b o e)
  refine ⟨.ref l, s4, l, two (nm z) (wd z), rfl, two_dp (sm3 _ _ hl), rfl, rfl, two_deep _ _, two_shown _ _, rfl, _, rfl, iteNS rfl ?_⟩
  refine ⟨.str z, s3, .str z, rfl, .inl ⟨z, rfl, zl, fun H4 sm4 => ⟨.str z, s3, .str z, rfl, .inl ⟨z, rfl, zl, fun H5 sm5 => ?_⟩⟩⟩⟩
  refine ⟨by show 2 ≤ sizeLine; decide, fun l2 hl2 => ⟨l2, two (nm z) (wd z), rfl, two_dp upd_same, rfl, rfl, two_deep _ _, two_shown _ _, ?_⟩⟩
  have sm6 : Same' H (upd H5 l2 (.lst [.bl (nm z), .bl (wd z)])) := fun b o e => same_step sm5 hl2 b o (sm4 b o (sm3 b o e))
  refine ⟨.ref l, s4, l, two (nm z) (wd z), rfl, two_dp (sm6 _ _ hl), rfl, rfl, two_deep _ _, two_shown _ _, rfl, _, rfl, ?_⟩
  have e : (!decide (V.str (two (nm z) (wd z)).shown = V.str (two (nm z) (wd z)).shown)) = false := by rw [decide_eq_true rfl]; rfl
  exact e ▸ q _ sm6
/-- due = [..] -/
theorem partB (S : Fn PR w K mg base 1 "_law_is_said" sSaid fS dS ["_law_text_here"] spSaid) (KW : Fn PR w K mg base 1 "_law_kept_words" sKept fK dK [] spKept) :
    ∃ tb, PS (XL w K mg base fa cdv s H0) (inTurn 1) tb ∧
      ∀ (z : Str) (σ : L2.St) (H : Hp) (D : Ends), σ[3]? = some (some (.str z)) → z.length ≤ 1000 → PyData.strOk z = true →
        (∀ l H', Same' H H' → H' l = some (.lst [.bl (nm z), .bl (wd z)]) → D.nx (σ.set 4 (some (.ref l))) H') → tb D σ H := by
  have r1 : Room 1 (XL w K mg base fa cdv s H0).A := hrX.mono (by decide)
  refine ⟨_, ps_set (i := 4) scLaw.nd rfl (.inl rfl) (pe_lst (pa_cons (pe_and (pe_call S.G r1 (by rfl) S.g S.F.kp S.b .nil pass0 (pa_cons (pv 3) pa_nil)) (pe_one (pe_cmpR op_notIn_seq (pv 3) (pe_call0 KW.G r1 (by rfl) KW.g KW.F.kp KW.b .nil pass0) (by rfl))))
    (pa_cons (pe_call S.G r1 (by rfl) S.g S.F.kp S.b .nil pass0 (pa_cons (pv 3) pa_nil)) pa_nil))), ?_⟩
  intro z σ H D s3 zl zok q
  refine ⟨.str z, s3, z, rfl, zl, zok, fun H1 sm1 => ⟨wd z, rfl, join_if (b := !inV (.str z) (kept.map V.str)) (Q := fun x H1 => tCons (tCall spSaid [] E0 (tCons (tVar 3) tNil)) tNil σ H1 fun xs H2 => ((x :: xs).length ≤ sizeLine ∧ ∀ p, H2 p = none → gName 4 (V.ref p) σ (upd H2 p (.lst (x :: xs))) D.nx)) (fun H2 sm2 => ?_) (fun e Z => ?_)⟩⟩
  · refine ⟨.str z, s3, z, rfl, zl, zok, fun H3 sm3 => ⟨by show 2 ≤ sizeLine; decide, fun l hl => ?_⟩⟩
    have sm4 : Same' H (upd H3 l (.lst [.bl (nm z), .bl (wd z)])) := same_step (fun b o e => sm3 b o (sm2 b o (sm1 b o e))) hl
    exact q l _ sm4 upd_same
  · refine ⟨.str z, s3, rfl, fun p hp => ⟨p, _, rfl, .inl (SqL.of upd_same), rfl, by decide +kernel, Z _ (same_new hp)⟩⟩
/-- test e: what is no text -/
theorem partE (T : Txt mg) (W : Fn PR w K mg base 1 "is_word" sWord fW dW ["value"] (spWord K wd)) (N : Fn PR w K mg base 2 "is_name" sName fN dN ["value"] (spWord K nm)) :
    ∃ te, PT (XL w K mg base fa cdv s H0) (testOf (inTurn 4)) te ∧
      ∀ (v : V) (σ : L2.St) (H : Hp) (Q : Bool → Hp → Prop), σ[5]? = some (some v) → NoText K H v → (∀ H', Same' H H' → Q false H') → te σ H Q := by
  have r1 : Room 1 (XL w K mg base fa cdv s H0).A := hrX.mono (by decide)
  have r2 : Room 2 (XL w K mg base fa cdv s H0).A := hrX.mono (by decide)
  have hu : (XL w K mg base fa cdv s H0).A.units + 64 < cLine := hrX.units
  refine ⟨_, pt_cmpR op_ne
        (pe_callB (call_reprD hgX hu) (by rfl) T.repr (by decide +kernel) (pa_cons (pe_lst (pa_cons (pe_call N.G r2 (by rfl) N.g N.F.kp N.b .nil pass0 (pa_cons (pv 5) pa_nil)) (pa_cons (pe_call W.G r1 (by rfl) W.g W.F.kp W.b .nil pass0 (pa_cons (pv 5) pa_nil)) pa_nil))) pa_nil))
        (pe_callB (call_reprD hgX hu) (by rfl) T.repr (by decide +kernel) (pa_cons (pe_lst (pa_cons pe_bl (pa_cons pe_bl pa_nil))) pa_nil)) (nomark _), ?_⟩
  intro v σ H Q s5 nt q
  refine ⟨v, s5, v, rfl, .inr ⟨nt, v, s5, v, rfl, .inr ⟨nt, ?_⟩⟩⟩
  refine ⟨by show 2 ≤ sizeLine; decide, fun l1 hl1 => ⟨l1, two false false, rfl, two_dp upd_same, rfl, rfl, two_deep _ _, two_shown _ _, ?_⟩⟩
  refine ⟨by show 2 ≤ sizeLine; decide, fun l2 hl2 => ⟨l2, two false false, rfl, two_dp upd_same, rfl, rfl, two_deep _ _, two_shown _ _, rfl, _, rfl, ?_⟩⟩
  have e : (!decide (V.str (two false false).shown = V.str (two false false).shown)) = false := by rw [decide_eq_true rfl]; rfl
  exact e ▸ q _ (same_step (same_new hl1) hl2)
theorem Same'.trans {H1 H2 H3 : Hp} (h : Same' H1 H2) (k : Same' H2 H3) : Same' H1 H3 := fun b o e => k b o (h b o e)
theorem noText_of {K : PySem.W.Frag} {H : Hp} {x : V} (T : String) (h : TyOf K H x (.type T)) (k : kitB T "str" = some false) : NoText K H x := ⟨T, .base h, k⟩
/-- odd = a value that is no text -/
theorem partD (PK : Fn PR w K mg base 2 "_law_pick" sPick fP dP ["_law_pen_here", "_law_some"] spPick) :
    ∃ td, PS (XL w K mg base fa cdv s H0) (inTurn 3) td ∧
      ∀ (z : Str) (p c : Addr) (ns : List Int) (B : Int) (σ : L2.St) (H : Hp) (D : Ends), σ[1]? = some (some (.ref p)) → σ[3]? = some (some (.str z)) → PenAt H p c ns B → B ≤ 1000 →
        (∀ (v : V) (H' : Hp), NoText K H' v → PenAt H' p c ns (B + 1) → Off p H H' → D.nx (σ.set 5 (some v)) H') → td D σ H := by
  have r2 : Room 2 (XL w K mg base fa cdv s H0).A := hrX.mono (by decide)
  refine ⟨_, ps_set (i := 5) scLaw.nd rfl (.inl rfl) (pe_call PK.G r2 (by rfl) PK.g PK.F.kp PK.b .nil pass0 (pa_cons (pv 1) (pa_cons (pe_lst
    (pa_cons pe_non (pa_cons pe_int (pa_cons pe_bl (pa_cons (pe_tup pa_nil) (pa_cons (pe_tup (pa_cons pe_str pa_nil)) (pa_cons (pe_lst (pa_cons pe_str pa_nil)) (pa_cons pe_dnewK
    (pa_cons (pe_disp (pps_cons pe_str pe_int pps_nil) (by rfl) (by rfl) (fun z => by cases z) (by decide)) (pa_cons (pe_op op_pow pe_int pe_int) (pa_cons (pe_lst (pa_cons (pv 3) pa_nil)) (pa_cons (pe_tup (pa_cons (pv 3) pa_nil)) pa_nil)))))))))))) pa_nil))), ?_⟩
  intro z p c ns B σ H D s1 s3 PA hB q
  refine ⟨.ref p, s1, Nat.zero_le _, fun t0 h0 => ⟨by show 1 ≤ sizeLine; decide, fun t1 h1 => ⟨by show 1 ≤ sizeLine; decide, fun l2 h2 => fun d3 h3 => fun d4 h4 => ?_⟩⟩⟩
  refine ⟨upd_same, [(Sum.inr "x", .int 1)], rfl, by decide, 10, 40, rfl, rfl, ⟨by decide, by decide, by decide⟩, ?_⟩
  refine ⟨.str z, s3, by show 1 ≤ sizeLine; decide, fun l5 h5 => ⟨.str z, s3, by show 1 ≤ sizeLine; decide, fun t6 h6 => ⟨by show 11 ≤ sizeLine; decide, fun l hl => ?_⟩⟩⟩
  have c7 := same_new (o := .lst [.non, .int 0, .bl true, .ref t0, .ref t1, .ref l2, .ref d3, .ref d4, .int ((10 : Int) ^ (40 : Int).toNat), .ref l5, .ref t6]) hl
  have c6 := (same_new h6).trans c7
  have c5 := (same_new h5).trans c6
  have c4 := (same_over h4 (same_new h4)).trans c5
  have c3 := (same_new h3).trans c4
  have c2 := (same_new h2).trans c3
  have c1 := (same_new h1).trans c2
  have c0 := (same_new h0).trans c1
  obtain ⟨b, g, hp, _⟩ := PA.pen
  have n0 : t0 ≠ p := (ne_of_none hp h0).symm
  have p1 := same_new (o := .tup []) h0 _ _ hp
  have n1 : t1 ≠ p := (ne_of_none p1 h1).symm
  have p2 := same_new (o := .tup [.str "x"]) h1 _ _ p1
  have n2 : l2 ≠ p := (ne_of_none p2 h2).symm
  have p3 := same_new (o := .lst [.str "x"]) h2 _ _ p2
  have n3 : d3 ≠ p := (ne_of_none p3 h3).symm
  have p4 := same_new (o := .dK []) h3 _ _ p3
  have n4 : d4 ≠ p := (ne_of_none p4 h4).symm
  have p5 := same_over (o := .dK (mergeK [] [(Sum.inr (Str.ofString "x"), V.int 1)])) h4 (same_new (o := .dK []) h4) _ _ p4
  have n5 : l5 ≠ p := (ne_of_none p5 h5).symm
  have p6 := same_new (o := .lst [.str z]) h5 _ _ p5
  have n6 : t6 ≠ p := (ne_of_none p6 h6).symm
  have p7 := same_new (o := .tup [.str z]) h6 _ _ p6
  have nl : l ≠ p := (ne_of_none p7 hl).symm
  refine ⟨p, c, ns, B, .ref l, _, rfl, PA.keep c0, hB, .inl ⟨l, rfl, nl, upd_same⟩, by show 1 ≤ 11; decide, by show 11 ≤ 1000; decide, fun v H' hv PA' off => ?_⟩
  refine q v H' ?_ PA' (fun a o n e => off a o n (c0 a o e))
  simp only [List.mem_cons, List.not_mem_nil, or_false] at hv
  rcases hv with rfl | rfl | rfl | rfl | rfl | rfl | rfl | rfl | rfl | rfl | rfl
  · exact noText_of "NoneType" .non (by decide +kernel)
  · exact noText_of "int" (.int _) (by decide +kernel)
  · exact noText_of "bool" (.bl _) (by decide +kernel)
  · exact noText_of "tuple" (.tup (off _ _ n0 (c1 _ _ upd_same))) (by decide +kernel)
  · exact noText_of "tuple" (.tup (off _ _ n1 (c2 _ _ upd_same))) (by decide +kernel)
  · exact noText_of "list" (.lst (off _ _ n2 (c3 _ _ upd_same))) (by decide +kernel)
  · exact noText_of "dict" (.dK (off _ _ n3 (c4 _ _ upd_same))) (by decide +kernel)
  · exact noText_of "dict" (.dK (off _ _ n4 (c5 _ _ upd_same))) (by decide +kernel)
  · exact noText_of "int" (.int _) (by decide +kernel)
  · exact noText_of "list" (.lst (off _ _ n5 (c6 _ _ upd_same))) (by decide +kernel)
  · exact noText_of "tuple" (.tup (off _ _ n6 (c7 _ _ upd_same))) (by decide +kernel)
end
end
end My
namespace My
open PySem PySem.Spec PyProof.Rows L2
theorem dpBools {K : PySem.W.Frag} {H : Hp} : ∀ l : List Bool, DpAll K H (l.map V.bl) (l.map PyData.bool)
  | [] => .nil
  | _ :: r => .cons (.bl _) (dpBools r)
def full : List Bool := List.replicate 16 false ++ List.replicate 16 true
theorem full_cat : (List.replicate 16 false).map V.bl ++ (List.replicate 16 true).map V.bl = full.map V.bl := rfl
theorem full_rep : (List.replicate (16 : Int).toNat [V.bl false]).flatten ++ (List.replicate (16 : Int).toNat [V.bl true]).flatten = full.map V.bl := rfl
theorem full_shaped : SeqAt.shaped (.list (full.map PyData.bool)) = true := by decide +kernel
theorem full_eqv : PyData.eqv (.list (full.map PyData.bool)) (.list (full.map PyData.bool)) = true := by decide +kernel
theorem rep_next {b : Bool} (i : Nat) : (List.replicate i b).map V.bl ++ [V.bl b] = (List.replicate (i + 1) b).map V.bl := by
  rw [List.replicate_succ', List.map_append]
  rfl
theorem rep_small {b : Bool} {i : Nat} (h : i < 16) : ((List.replicate i b).map V.bl).length < sizeLine := by
  rw [List.length_map, List.length_replicate]
  exact small1000 (by omega)
theorem kept_said : ∀ k ∈ kept, k.length ≤ 8 ∧ wd k = true ∧ nm k = false := by decide +kernel
section
variable {w : World} {K : PySem.W.Frag} {mg : Str → Option Value} {fa : Addr}
variable {fD fW fN fS fK fP fL fT fPen aK : Addr} {dD dW dN dS dK dP dL dT dPen : FuncData} {tl tn : Tok}
theorem law_body (T : Txt mg) (mL : mg "LETTERS" = some (.str abc tl)) (mN : mg "LONGEST" = some (.int 8 tn)) (mK : mg "KEPT_WORDS" = some (.ref aK)) (hK : ∀ H, SqT K H aK (kept.map V.str))
    (FW : Fun K "is_word" "is_word" sWord fW dW) (bW : Binds K dW ["value"] []) (gW : mg "is_word" = some (.ref fW)) (kW : KBinds K dW ["value"] ["value"] kwG kwG)
    (FN : Fun K "is_name" "is_name" sName fN dN) (bN : Binds K dN ["value"] []) (gN : mg "is_name" = some (.ref fN)) (kN : KBinds K dN ["value"] ["value"] kwG kwG)
    (FE : Fun K "_law_pen" "_law_pen" sPen fPen dPen) (bE : Binds K dPen ["_law_script"] []) (gE : mg "_law_pen" = some (.ref fPen))
    (FD : Fun K "_law_draw" "_law_draw" sDraw fD dD) (bD : Binds K dD ["_law_pen_here", "_law_many"] []) (gD : mg "_law_draw" = some (.ref fD))
    (FP : Fun K "_law_pick" "_law_pick" sPick fP dP) (bP : Binds K dP ["_law_pen_here", "_law_some"] []) (gP : mg "_law_pick" = some (.ref fP))
    (FK : Fun K "_law_kept_words" "_law_kept_words" sKept fK dK) (bK : Binds K dK [] []) (gK : mg "_law_kept_words" = some (.ref fK))
    (FL : Fun K "_law_letters" "_law_letters" sLetters fL dL) (bL : Binds K dL ["_law_pen_here", "_law_many"] []) (gL : mg "_law_letters" = some (.ref fL))
    (FT : Fun K "_law_text" "_law_text" sText fT dT) (bT : Binds K dT ["_law_pen_here"] []) (gT : mg "_law_text" = some (.ref fT))
    (FS : Fun K "_law_is_said" "_law_is_said" sSaid fS dS) (bS : Binds K dS ["_law_text_here"] []) (gS : mg "_law_is_said" = some (.ref fS)) :
    LawBody PySem.Challenge.rw_layerseen_k02_names_and_words w K mg 63 nLaw "law" sLaw fa := by
  intro base hKb hNb cdv s H a ns hn hO hS
  have W : Fn PR w K mg base 1 "is_word" sWord fW dW ["value"] (spWord K wd) := ⟨FW, bW, gW, ok_word FW T mL mN⟩
  have N : Fn PR w K mg base 2 "is_name" sName fN dN ["value"] (spWord K nm) := ⟨FN, bN, gN, ok_name FN FW bW gW W.G mK hK⟩
  have PE' : Fn PR w K mg base 1 "_law_pen" sPen fPen dPen ["_law_script"] (spPen K) := ⟨FE, bE, gE, ok_pen FE T⟩
  have DR : Fn PR w K mg base 1 "_law_draw" sDraw fD dD ["_law_pen_here", "_law_many"] spDraw := ⟨FD, bD, gD, ok_draw FD T⟩
  have PK : Fn PR w K mg base 2 "_law_pick" sPick fP dP ["_law_pen_here", "_law_some"] spPick := ⟨FP, bP, gP, ok_pick FP T FD bD gD DR.G⟩
  have KW : Fn PR w K mg base 1 "_law_kept_words" sKept fK dK [] spKept := ⟨FK, bK, gK, ok_kept FK⟩
  have LE : Fn PR w K mg base 3 "_law_letters" sLetters fL dL ["_law_pen_here", "_law_many"] spLetters := ⟨FL, bL, gL, ok_letters FL T FP bP gP PK.G⟩
  have TX : Fn PR w K mg base 4 "_law_text" sText fT dT ["_law_pen_here"] spText := ⟨FT, bT, gT, ok_text FT T FD bD gD DR.G FP bP gP PK.G FL bL gL LE.G FK bK gK KW.G⟩
  have SA : Fn PR w K mg base 1 "_law_is_said" sSaid fS dS ["_law_text_here"] spSaid := ⟨FS, bS, gS, ok_said FS T⟩
  have r1 : Room 1 (XL w K mg base fa cdv s H).A := hrX.mono (by decide)
  have r2 : Room 2 (XL w K mg base fa cdv s H).A := hrX.mono (by decide)
  have r4 : Room 4 (XL w K mg base fa cdv s H).A := hrX.mono (by decide)
  have hu : (XL w K mg base fa cdv s H).A.units + 64 < cLine := hrX.units
  obtain ⟨tb, hB, qB⟩ := partB (w := w) (K := K) (base := base) (fa := fa) (cdv := cdv) (s := s) (H0 := H) SA KW
  obtain ⟨tc, hC, qC⟩ := partC (w := w) (K := K) (base := base) (fa := fa) (cdv := cdv) (s := s) (H0 := H) T W N kW kN
  obtain ⟨td, hD, qD⟩ := partD (w := w) (K := K) (base := base) (fa := fa) (cdv := cdv) (s := s) (H0 := H) PK
  obtain ⟨te, hE, qE⟩ := partE (w := w) (K := K) (base := base) (fa := fa) (cdv := cdv) (s := s) (H0 := H) T W N
  refine ⟨_, pss_cons (ps_set (i := 1) scLaw.nd rfl (.inl rfl) (pe_call PE'.G r1 (by rfl) PE'.g PE'.F.kp PE'.b .nil pass0 (pa_cons (pv 0) pa_nil)))
    (pss_cons (ps_for PassesOwn.never rfl (pi_range1 (by rfl) T.range (pa_cons pe_int pa_nil)) (pg_name (i := 2) scLaw.nd rfl (.inl rfl))
      (pss_cons (ps_set (i := 3) scLaw.nd rfl (.inl rfl) (pe_call TX.G r4 (by rfl) TX.g TX.F.kp TX.b .nil pass0 (pa_cons (pv 1) pa_nil)))
      (pss_cons hB
      (pss_cons (ps_if hC (pss_one (ps_ret pe_bl)) pss_nil)
      (pss_cons hD
      (pss_one (ps_if hE (pss_one (ps_ret pe_bl)) pss_nil)))))))
    (pss_cons (ps_set (i := 6) scLaw.nd rfl (.inl rfl) (pe_op op_cat
        (pe_lc (own := [("_law_text_here", 3)]) (g := gName 3) (tt := tYes) rfl scLaw.nd (pi_list (pe_call0 KW.G r1 (by rfl) KW.g KW.F.kp KW.b .nil pass0)) (blkOk_by (N := nLaw) (sc := defScope sLaw) (by decide +kernel)) (fun _ _ _ _ _ => pg_name (i := 3) scLaw.nd rfl (Or.inl rfl)) (fun _ _ _ _ _ => pts_nil)
          (fun _ _ _ _ _ => pe_call N.G r2 (by rfl) N.g N.F.kp N.b .nil pass0 (pa_cons (pv 3) pa_nil)))
        (pe_lc (own := [("_law_text_here", 3)]) (g := gName 3) (tt := tYes) rfl scLaw.nd (pi_list (pe_call0 KW.G r1 (by rfl) KW.g KW.F.kp KW.b .nil pass0)) (blkOk_by (N := nLaw) (sc := defScope sLaw) (by decide +kernel)) (fun _ _ _ _ _ => pg_name (i := 3) scLaw.nd rfl (Or.inl rfl)) (fun _ _ _ _ _ => pts_nil)
          (fun _ _ _ _ _ => pe_call W.G r1 (by rfl) W.g W.F.kp W.b .nil pass0 (pa_cons (pv 3) pa_nil)))))
    (pss_one (ps_ret (pe_cmpR (op_eqD hu) (pv 6) (pe_op op_cat (pe_op op_rep (pe_lst (pa_cons pe_bl pa_nil)) pe_int) (pe_op op_rep (pe_lst (pa_cons pe_bl pa_nil)) pe_int)) (nomark _)))))), ?_⟩
  refine ⟨.ref a, rfl, a, ns, rfl, hS, hn, fun p c H1 sm1 PA1 => ?_⟩
  refine ⟨16, rfl, by decide, by decide, for_range (lo := 0) (n := 16) (fun i σ H' => ∃ y2 y3 y4 y5 : Option V, σ = [some (.ref a), some (.ref p), y2, y3, y4, y5, none] ∧ PenAt H' p c ns (50 * (i : Int))) ⟨none, none, none, none, rfl, PA1.more (by decide)⟩ (fun i σ H2 hi hp => ?_) (fun σ H2 hp => ?_)⟩
  · obtain ⟨y2, y3, y4, y5, rfl, PA2⟩ := hp
    refine ⟨.ref p, rfl, p, c, ns, 50 * (i : Int), rfl, PA2, by omega, fun z H3 zl zok PA3 off3 => ?_⟩
    refine qB z _ _ _ rfl (by omega) zok (fun l H4 sm4 hl => ?_)
    refine qC z l _ _ _ rfl rfl (by omega) hl (fun H5 sm5 => iteF ?_)
    refine qD z p c ns (50 * (i : Int) + 40) _ _ _ rfl rfl ((PA3.keep sm4).keep sm5) (by omega) (fun v H6 nt PA6 off6 => ?_)
    refine qE v _ _ _ rfl nt (fun H7 sm7 => iteF ?_)
    exact ⟨_, _, _, _, rfl, (PA6.keep sm7).more (by omega)⟩
  · obtain ⟨y2, y3, y4, y5, rfl, PA2⟩ := hp
    refine ⟨rfl, fun k1 hk1 => ⟨k1, rfl, ⟨_, SqL.of upd_same⟩, fun D1 hD1 => ?_⟩⟩
    refine lc_list (K := K) (a := k1) (xs := kept.map V.str) (fun i H' => Same' (upd H2 k1 (.lst (kept.map V.str))) H' ∧ H' D1 = some (.lst ((List.replicate i false).map V.bl))) ⟨same_new hD1, upd_same⟩ (fun i H' _ hp => SqL.of (hp.1 _ _ upd_same)) (fun i x H' hx hp => ?_) (fun H3 hp => ?_)
    · obtain ⟨sm, ed⟩ := hp
      obtain ⟨kk, hkk, rfl⟩ := List.mem_map.mp (List.mem_of_getElem? hx)
      have ks := kept_said kk hkk
      have hi : i < 16 := (List.getElem?_eq_some_iff.mp hx).1
      refine ⟨rfl, ?_⟩
      refine ⟨.str kk, rfl, .str kk, rfl, .inl ⟨kk, rfl, by omega, fun H4 sm4 => ⟨_, sm4 _ _ ed, rep_small hi, same_over hD1 (sm.trans sm4), ?_⟩⟩⟩
      rw [upd_same, ks.2.2, rep_next]
    · obtain ⟨sm3, ed1⟩ := hp
      have ed1' : H3 D1 = some (.lst ((List.replicate 16 false).map V.bl)) := ed1
      refine ⟨rfl, fun k2 hk2 => ⟨k2, rfl, ⟨_, SqL.of upd_same⟩, fun D2 hD2 => ?_⟩⟩
      refine lc_list (K := K) (a := k2) (xs := kept.map V.str) (fun i H' => Same' (upd H3 k2 (.lst (kept.map V.str))) H' ∧ H' D2 = some (.lst ((List.replicate i true).map V.bl))) ⟨same_new hD2, upd_same⟩ (fun i H' _ hp => SqL.of (hp.1 _ _ upd_same)) (fun i x H' hx hp => ?_) (fun H5 hp => ?_)
      · obtain ⟨sm, ed⟩ := hp
        obtain ⟨kk, hkk, rfl⟩ := List.mem_map.mp (List.mem_of_getElem? hx)
        have ks := kept_said kk hkk
        have hi : i < 16 := (List.getElem?_eq_some_iff.mp hx).1
        refine ⟨rfl, ?_⟩
        refine ⟨.str kk, rfl, .str kk, rfl, .inl ⟨kk, rfl, by omega, fun H4 sm4 => ⟨_, sm4 _ _ ed, rep_small hi, same_over hD2 (sm.trans sm4), ?_⟩⟩⟩
        rw [upd_same, ks.2.1, rep_next]
      · obtain ⟨sm5, ed2⟩ := hp
        have ed2' : H5 D2 = some (.lst ((List.replicate 16 true).map V.bl)) := ed2
        have ed3 : H5 D1 = some (.lst ((List.replicate 16 false).map V.bl)) := sm5 _ _ (same_new hk2 _ _ ed1')
        refine ⟨D1, D2, _, _, rfl, rfl, ed3, ed2', ?_, fun p6 hp6 => ?_⟩
        · decide +kernel
        · refine ⟨.ref p6, rfl, by show 1 ≤ sizeLine; decide, fun l1 h1 => ⟨l1, 16, _, rfl, rfl, upd_same, by decide, by decide, by show 1 * 16 ≤ sizeLine; decide, fun q1 hq1 => ?_⟩⟩
          refine ⟨by show 1 ≤ sizeLine; decide, fun l2 h2 => ⟨l2, 16, _, rfl, rfl, upd_same, by decide, by decide, by show 1 * 16 ≤ sizeLine; decide, fun q2 hq2 => ?_⟩⟩
          have c2 := same_new (o := .lst (List.replicate (16 : Int).toNat [V.bl true]).flatten) hq2
          have c1 := (same_new (o := .lst [.bl true]) h2).trans c2
          have c0 := (same_new (o := .lst (List.replicate (16 : Int).toNat [V.bl false]).flatten) hq1).trans c1
          have cz := (same_new (o := .lst [.bl false]) h1).trans c0
          refine ⟨q1, q2, _, _, rfl, rfl, c1 _ _ upd_same, upd_same, by decide +kernel, fun r hr => ?_⟩
          have cr := same_new (o := .lst ((List.replicate (16 : Int).toNat [V.bl false]).flatten ++ (List.replicate (16 : Int).toNat [V.bl true]).flatten)) hr
          exact ⟨.list (full.map PyData.bool), .list (full.map PyData.bool), .lst (xs := full.map V.bl) (SqL.of (cr _ _ (cz _ _ upd_same))) (dpBools full), .lst (xs := full.map V.bl) (SqL.of upd_same) (dpBools full), full_shaped, full_shaped, congrArg V.bl full_eqv⟩
end
end My
namespace My
open PySem PySem.Spec PyProof.Rows L2
/-- texts of the written part, told by their codes -/
def sayB : List Str → List Value → Bool
  | [], [] => true
  | k :: ks, .str x _ :: vs => decide (x = k) && sayB ks vs
  | _, _ => false
theorem say_of : ∀ (ks : List Str) (vs : List Value), sayB ks vs = true → Vals (ks.map V.str) vs
  | [], [], _ => .nil
  | k :: ks, .str x t :: vs, h => by
    unfold sayB at h
    rw [Bool.and_eq_true] at h
    have e : x = k := of_decide_eq_true h.1
    subst e
    exact .cons ⟨t, rfl⟩ (say_of ks vs h.2)
theorem all_mk {w : World} {K : PySem.W.Frag} {h : Heap} {mg : Str → Option Value} {fa aK : Addr} {LT : Str} {tl tn : Tok} {dK0 : Option Addr} {itsK : Array Value} {nTu : Nat} {slTu : Array (Option Value)} (X : K.In h) (G : h.Ns mainGlobals mg) (hfa : mg "law" = some (.ref fa))
    {fW : Addr} {odW anW : Option Addr} {slW : Array (Option Value)} {ocW kVW dcW pmW cdW ctW : Value}
    {fN : Addr} {odN anN : Option Addr} {slN : Array (Option Value)} {ocN kVN dcN pmN cdN ctN : Value}
    {fE : Addr} {odE anE : Option Addr} {slE : Array (Option Value)} {ocE kVE dcE pmE cdE ctE : Value}
    {fD : Addr} {odD anD : Option Addr} {slD : Array (Option Value)} {ocD kVD dcD pmD cdD ctD : Value}
    {fP : Addr} {odP anP : Option Addr} {slP : Array (Option Value)} {ocP kVP dcP pmP cdP ctP : Value}
    {fK : Addr} {odK anK : Option Addr} {slK : Array (Option Value)} {ocK kVK dcK pmK cdK ctK : Value}
    {fL : Addr} {odL anL : Option Addr} {slL : Array (Option Value)} {ocL kVL dcL pmL cdL ctL : Value}
    {fT : Addr} {odT anT : Option Addr} {slT : Array (Option Value)} {ocT kVT dcT pmT cdT ctT : Value}
    {fS : Addr} {odS anS : Option Addr} {slS : Array (Option Value)} {ocS kVS dcS pmS cdS ctS : Value}
    {fZ : Addr} {odZ anZ : Option Addr} {slZ : Array (Option Value)} {ocZ kVZ dcZ pmZ cdZ ctZ : Value}
    (aW : PySem.W.nsIn K mainGlobals "is_word" = some (some (.ref fW))) (lW : K.lookup fW = some ⟨ocW, odW, .func (PySem.W.fnOf "is_word" "is_word" (defArgs sWord) (defBody sWord) (defScope sWord) .none kVW dcW pmW anW cdW ctW), slW⟩) (cW : PySem.W.codeIn K cdW "is_word" = true) (kW : PySem.W.keepIn K (.ref fW) = true)
    (aN : PySem.W.nsIn K mainGlobals "is_name" = some (some (.ref fN))) (lN : K.lookup fN = some ⟨ocN, odN, .func (PySem.W.fnOf "is_name" "is_name" (defArgs sName) (defBody sName) (defScope sName) .none kVN dcN pmN anN cdN ctN), slN⟩) (cN : PySem.W.codeIn K cdN "is_name" = true) (kN : PySem.W.keepIn K (.ref fN) = true)
    (aE : PySem.W.nsIn K mainGlobals "_law_pen" = some (some (.ref fE))) (lE : K.lookup fE = some ⟨ocE, odE, .func (PySem.W.fnOf "_law_pen" "_law_pen" (defArgs sPen) (defBody sPen) (defScope sPen) .none kVE dcE pmE anE cdE ctE), slE⟩) (cE : PySem.W.codeIn K cdE "_law_pen" = true) (kE : PySem.W.keepIn K (.ref fE) = true)
    (aD : PySem.W.nsIn K mainGlobals "_law_draw" = some (some (.ref fD))) (lD : K.lookup fD = some ⟨ocD, odD, .func (PySem.W.fnOf "_law_draw" "_law_draw" (defArgs sDraw) (defBody sDraw) (defScope sDraw) .none kVD dcD pmD anD cdD ctD), slD⟩) (cD : PySem.W.codeIn K cdD "_law_draw" = true) (kD : PySem.W.keepIn K (.ref fD) = true)
    (aP : PySem.W.nsIn K mainGlobals "_law_pick" = some (some (.ref fP))) (lP : K.lookup fP = some ⟨ocP, odP, .func (PySem.W.fnOf "_law_pick" "_law_pick" (defArgs sPick) (defBody sPick) (defScope sPick) .none kVP dcP pmP anP cdP ctP), slP⟩) (cP : PySem.W.codeIn K cdP "_law_pick" = true) (kP : PySem.W.keepIn K (.ref fP) = true)
    (aK_ : PySem.W.nsIn K mainGlobals "_law_kept_words" = some (some (.ref fK))) (lK : K.lookup fK = some ⟨ocK, odK, .func (PySem.W.fnOf "_law_kept_words" "_law_kept_words" (defArgs sKept) (defBody sKept) (defScope sKept) .none kVK dcK pmK anK cdK ctK), slK⟩) (cK : PySem.W.codeIn K cdK "_law_kept_words" = true) (kK : PySem.W.keepIn K (.ref fK) = true)
    (aL : PySem.W.nsIn K mainGlobals "_law_letters" = some (some (.ref fL))) (lL : K.lookup fL = some ⟨ocL, odL, .func (PySem.W.fnOf "_law_letters" "_law_letters" (defArgs sLetters) (defBody sLetters) (defScope sLetters) .none kVL dcL pmL anL cdL ctL), slL⟩) (cL : PySem.W.codeIn K cdL "_law_letters" = true) (kL : PySem.W.keepIn K (.ref fL) = true)
    (aT : PySem.W.nsIn K mainGlobals "_law_text" = some (some (.ref fT))) (lT : K.lookup fT = some ⟨ocT, odT, .func (PySem.W.fnOf "_law_text" "_law_text" (defArgs sText) (defBody sText) (defScope sText) .none kVT dcT pmT anT cdT ctT), slT⟩) (cT : PySem.W.codeIn K cdT "_law_text" = true) (kT : PySem.W.keepIn K (.ref fT) = true)
    (aS : PySem.W.nsIn K mainGlobals "_law_is_said" = some (some (.ref fS))) (lS : K.lookup fS = some ⟨ocS, odS, .func (PySem.W.fnOf "_law_is_said" "_law_is_said" (defArgs sSaid) (defBody sSaid) (defScope sSaid) .none kVS dcS pmS anS cdS ctS), slS⟩) (cS : PySem.W.codeIn K cdS "_law_is_said" = true) (kS : PySem.W.keepIn K (.ref fS) = true)
    (aZ : PySem.W.nsIn K mainGlobals "law" = some (some (.ref fZ))) (lZ : K.lookup fZ = some ⟨ocZ, odZ, .func (PySem.W.fnOf "law" "law" (defArgs sLaw) (defBody sLaw) (defScope sLaw) .none kVZ dcZ pmZ anZ cdZ ctZ), slZ⟩) (cZ : PySem.W.codeIn K cdZ "law" = true) (kZ : PySem.W.keepIn K (.ref fZ) = true)
    (gL : PySem.W.nsIn K mainGlobals "LETTERS" = some (some (.str LT tl))) (eL : decide (LT = abc) = true) (gN : PySem.W.nsIn K mainGlobals "LONGEST" = some (some (.int 8 tn)))
    (gK : PySem.W.nsIn K mainGlobals "KEPT_WORDS" = some (some (.ref aK))) (lK0 : K.lookup aK = some ⟨.type "tuple", dK0, .seq itsK nTu, slTu⟩) (vK : sayB kept itsK.toList = true) (zK : decide (itsK.size ≤ sizeLine) = true)
    (z_int : PySem.W.nsIn K mainGlobals "int" = some none)
    (z_len : PySem.W.nsIn K mainGlobals "len" = some none)
    (z_abs : PySem.W.nsIn K mainGlobals "abs" = some none)
    (z_list : PySem.W.nsIn K mainGlobals "list" = some none)
    (z_range : PySem.W.nsIn K mainGlobals "range" = some none)
    (z_isinstance : PySem.W.nsIn K mainGlobals "isinstance" = some none)
    (z_str : PySem.W.nsIn K mainGlobals "str" = some none)
    (z_all : PySem.W.nsIn K mainGlobals "all" = some none)
    (z_repr : PySem.W.nsIn K mainGlobals "repr" = some none)
    : ∃ fd : FuncData, Fun K "law" "law" sLaw fa fd ∧ FnScope nLaw ["_law_script"] (defScope sLaw) ∧ (∀ (s : Shared) (u : Value), BindsTo s fd ⟨[u], []⟩ [("_law_script", u)]) ∧ LawBody PySem.Challenge.rw_layerseen_k02_names_and_words w K mg 63 nLaw "law" sLaw fa := by
  have e := hfa.symm.trans (PySem.W.mg_of X G aZ)
  cases e
  have eL' : LT = abc := of_decide_eq_true eL
  subst eL'
  have FW := fun_mk (st := sWord) lW cW kW
  have FN := fun_mk (st := sName) lN cN kN
  have FE := fun_mk (st := sPen) lE cE kE
  have FD := fun_mk (st := sDraw) lD cD kD
  have FP := fun_mk (st := sPick) lP cP kP
  have FK := fun_mk (st := sKept) lK cK kK
  have FL := fun_mk (st := sLetters) lL cL kL
  have FT := fun_mk (st := sText) lT cT kT
  have FS := fun_mk (st := sSaid) lS cS kS
  have FZ := fun_mk (st := sLaw) lZ cZ kZ
  have bW := FW.binds (ps := ["value"]) fun _ _ _ _ _ _ us hl => match us, hl with | [_], _ => rfl
  have bN := FN.binds (ps := ["value"]) fun _ _ _ _ _ _ us hl => match us, hl with | [_], _ => rfl
  have bE := FE.binds (ps := ["_law_script"]) fun _ _ _ _ _ _ us hl => match us, hl with | [_], _ => rfl
  have bD := FD.binds (ps := ["_law_pen_here", "_law_many"]) fun _ _ _ _ _ _ us hl => match us, hl with | [_, _], _ => rfl
  have bP := FP.binds (ps := ["_law_pen_here", "_law_some"]) fun _ _ _ _ _ _ us hl => match us, hl with | [_, _], _ => rfl
  have bK := FK.binds (ps := []) fun _ _ _ _ _ _ us hl => match us, hl with | [], _ => rfl
  have bL := FL.binds (ps := ["_law_pen_here", "_law_many"]) fun _ _ _ _ _ _ us hl => match us, hl with | [_, _], _ => rfl
  have bT := FT.binds (ps := ["_law_pen_here"]) fun _ _ _ _ _ _ us hl => match us, hl with | [_], _ => rfl
  have bS := FS.binds (ps := ["_law_text_here"]) fun _ _ _ _ _ _ us hl => match us, hl with | [_], _ => rfl
  have T : Txt mg := ⟨PySem.W.mg_none_of X G z_int, PySem.W.mg_none_of X G z_len, PySem.W.mg_none_of X G z_abs, PySem.W.mg_none_of X G z_list, PySem.W.mg_none_of X G z_range, PySem.W.mg_none_of X G z_isinstance, PySem.W.mg_none_of X G z_str, PySem.W.mg_none_of X G z_all, PySem.W.mg_none_of X G z_repr⟩
  have tK : ∀ H, SqT K H aK (kept.map V.str) := fun H => .inr ⟨_, itsK, nTu, lK0, rfl, rfl, of_decide_eq_true zK, say_of _ _ vK⟩
  refine ⟨_, FZ, scLaw, fun s v => .of_eq rfl, ?_⟩
  exact law_body T (PySem.W.mg_of X G gL) (PySem.W.mg_of X G gN) (PySem.W.mg_of X G gK) tK
    FW bW (PySem.W.mg_of X G aW) (kwOne FW fun _ _ _ _ _ _ _ => rfl) FN bN (PySem.W.mg_of X G aN) (kwOne FN fun _ _ _ _ _ _ _ => rfl)
    FE bE (PySem.W.mg_of X G aE) FD bD (PySem.W.mg_of X G aD) FP bP (PySem.W.mg_of X G aP) FK bK (PySem.W.mg_of X G aK_) FL bL (PySem.W.mg_of X G aL) FT bT (PySem.W.mg_of X G aT) FS bS (PySem.W.mg_of X G aS)
end My
open PySem PySem.W PyProof.Rows
set_option maxHeartbeats 0 in
theorem PySem.Challenge.cw_layerseen_k02_names_and_words_holds : PySem.Challenge.rw_layerseen_k02_names_and_words.Holds := by
  w_on; o_law; k_head; (case hw => w_witness2)
  k_fill
  refine My.law_top (l := PySem.Challenge.rw_layerseen_k02_names_and_words) (n := 63) (N := My.nLaw) (x := "_law_script") (nm := "law") (qual := "law") (st := My.sLaw) rfl (by decide) rfl (fun w h Y => PySem.W.kIn_of Y) ?Z
  case Z =>
    intro w mg fa h KX G hmg
    refine' My.all_mk KX G hmg ?aW ?lW ?cW ?kW ?aN ?lN ?cN ?kN ?aE ?lE ?cE ?kE ?aD ?lD ?cD ?kD ?aP ?lP ?cP ?kP ?aK_ ?lK ?cK ?kK ?aL ?lL ?cL ?kL ?aT ?lT ?cT ?kT ?aS ?lS ?cS ?kS ?aZ ?lZ ?cZ ?kZ ?gL ?eL ?gN ?gK ?lK0 ?vK ?zK ?z_int ?z_len ?z_abs ?z_list ?z_range ?z_isinstance ?z_str ?z_all ?z_repr
    (case aW => k_is); (case lW => k_is); (case cW => k_is); (case kW => k_is); (case aN => k_is); (case lN => k_is); (case cN => k_is); (case kN => k_is); (case aE => k_is); (case lE => k_is); (case cE => k_is); (case kE => k_is); (case aD => k_is); (case lD => k_is); (case cD => k_is); (case kD => k_is); (case aP => k_is); (case lP => k_is); (case cP => k_is); (case kP => k_is); (case aK_ => k_is); (case lK => k_is); (case cK => k_is); (case kK => k_is); (case aL => k_is); (case lL => k_is); (case cL => k_is); (case kL => k_is); (case aT => k_is); (case lT => k_is); (case cT => k_is); (case kT => k_is); (case aS => k_is); (case lS => k_is); (case cS => k_is); (case kS => k_is); (case aZ => k_is); (case lZ => k_is); (case cZ => k_is); (case kZ => k_is); (case gL => k_is); (case eL => decide +kernel); (case gN => k_is); (case gK => k_is); (case lK0 => k_is); (case vK => decide +kernel); (case zK => decide +kernel); (case z_int => k_is); (case z_len => k_is); (case z_abs => k_is); (case z_list => k_is); (case z_range => k_is); (case z_isinstance => k_is); (case z_str => k_is); (case z_all => k_is); (case z_repr => k_is)
